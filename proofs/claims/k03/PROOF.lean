import PyProof.Rows.All
import Wide.All
import OpenK.AllK
import Wide.FinOn
import HandS.ForMost
import HandS.Wide
import HandS.WideBits
import HandS.Gcd
import HandS.StrMore
import HandS.Style
import PyProof.ReprRoads
import PyProof.Rows.Digits
import PyProof.P3Eq
import PyProof.StrLawsRepr
import HandS.More
import PySem.Challenge.RW_unwrittenrow_k03_whole_fractions_by_inte
set_option Elab.async false
set_option linter.all false
set_option maxRecDepth 100000
set_option maxHeartbeats 4000000
/-! Calls in which nothing is being shown around: the promise of a def where the guards are known. -/
namespace DL
open PySem PySem.Spec PyProof.Rows L2

/-- a def's promise, kept where no guard runs around -/
structure FnG (P : Program) (w : World) (K : PySem.W.Frag) (mg : Str → Option Value)
    (bs : Heap) (n : Nat) (f : Addr) (fd : FuncData) (ps : List Str) (sp : Sp) : Prop where
  len : ∀ vs H Q E, sp vs H Q E → vs.length = ps.length
  go : ∀ (A : Around) (out : List Env) (s : Shared) (H : Hp) (args : Args) (us : List Value)
      (vs : List V) (Q : VK) (E : XK), A.guards = some [] → Room n A →
    Env0 P w K mg bs A out s H → BindsTo s fd args (ps.zip us) → Vals vs us → sp vs H Q E →
    codeAny (model P w) A (.call (.ref f) args) (CR CX0 out P w H s Q E) s

theorem FnG.mono {P : Program} {w : World} {K : PySem.W.Frag} {mg : Str → Option Value}
    {bs : Heap} {n m : Nat} {f : Addr} {fd : FuncData} {ps : List Str} {sp : Sp}
    (F : FnG P w K mg bs n f fd ps sp) (h : n ≤ m) : FnG P w K mg bs m f fd ps sp :=
  ⟨F.len, fun A out s H args us vs Q E g r => F.go A out s H args us vs Q E g (r.mono h)⟩

/-- a body's term, told for each entry at which no guard runs -/
theorem fnG {P : Program} {w : World} {K : PySem.W.Frag} {mg : Str → Option Value} {bs : Heap}
    {n : Nat} {x q : Str} {st : Stmt} {f : Addr} {fd : FuncData} {N ps : List Str} {sp : Sp}
    (F : Fun K x q st f fd) (S : FnScope N ps (defScope st))
    (len : ∀ vs H Q E, sp vs H Q E → vs.length = ps.length)
    (body : ∀ (cd : Value) (A : Around) (out : List Env) (s : Shared) (H : Hp) (vs : List V) (Q : VK)
      (E : XK), A.guards = some [] →
      Room n (A.deeper (envOfC q (defScope st) s.heap.objs.size f cd)) → sp vs H Q E →
      ∃ t, PSs (cxOf CX0 P w K mg bs N q (defScope st) f cd A out s H E).nox (defBody st) t ∧
        t { nx := fun _ H' => Q .non H', rt := Q } (start N vs) H) :
    FnG P w K mg bs (n + 1) f fd ps sp := by
  obtain ⟨oc, od, kV, doc, pm, an, cdv, ct, osl, rfl, lk, hcd⟩ := F.ex
  refine ⟨len, ?_⟩
  intro A out s H args us vs Q E hgd hroom e0 hbind hvals hpre
  have KX : K.In s.heap := e0.mod.kin.keeps fun b o e => (e0.bs b o e).1
  have lim : s.heap.NoLimit := e0.mod.nolimit.keeps fun b o e => (e0.bs b o e).1
  have hlen := len _ _ _ _ hpre
  have hkinds : ∀ y ∈ ps.zip us, (defScope st).names.lookup y.1 = some .local ∨
      ((defScope st).names.lookup y.1 = some .cell ∧
        ((cellsFrom (s.heap.objs.size + 1) (defScope st).names []).lookup y.1).isSome = true) := by
    rintro ⟨nm, v⟩ hy
    rcases S.par nm (List.of_mem_zip hy).1 with z | z
    · exact Or.inl z
    · exact Or.inr ⟨z, PySem.W.cellsFrom_some _ _ _ (Or.inl z)⟩
  refine codeAny_call_function hroom.depth (KX _ _ lk) rfl S.co S.gen rfl
    (PySem.W.codeRec_of KX hcd) (hbind _ _ _ _ ?_)
  refine wpAny_newFunctionEnv_cells S.kind hkinds fun env he sb xin => ?_
  subst he
  refine ⟨lim.keeps xin.toInCall.keep, codeAny_func ?_⟩
  have I0 : Inv (cxOf CX0 P w K mg bs N q (defScope st) f cdv A out s H E) [] (start N vs) H sb :=
    inv_start S hroom.hd e0 hlen hvals xin
  obtain ⟨t, ht, hq⟩ := body cdv A out s H vs Q E hgd (hroom.deeper _) hpre
  refine wpAny_mono (ht.nox.run [] sb (start N vs) H _ I0 hq) (fun fl sz hs => ?_) fun e sz hs => hs
  cases fl with
  | next =>
    obtain ⟨σ1, H1, J, z⟩ := hs
    exact ⟨.non, H1, J.os, J.bare, J.base, J.hok, rfl, z⟩
  | ret u =>
    obtain ⟨v, σ1, H1, J, rv, z⟩ := hs
    exact ⟨v, H1, J.os, J.bare, J.base, J.hok, rv, z⟩
  | brk => obtain ⟨_, _, _, z⟩ := hs; exact z.elim
  | cont => obtain ⟨_, _, _, z⟩ := hs; exact z.elim

/-- such a def is called by its name -/
theorem pe_callG {X : Cx} {n : Nat} {f : Addr} {fd : FuncData} {ps : List Str} {sp : Sp}
    {x : Str} {p pos : Pos} {e : Expr} {es : List Expr} {t : TA}
    (F : FnG X.prog X.w X.K X.mg X.base n f fd ps sp) (hgd : X.A.guards = some [])
    (hroom : Room n X.A) (hg : Gl X x) (hm : X.mg x = some (.ref f))
    (hk : PySem.W.keepIn X.K (.ref f) = true) (hb : Binds X.K fd ps [])
    (hargs : PA X (e :: es) t) (hdb : (x == ("__debug__" : Str)) = false := by decide)
    (he : starEach (e :: es) X.env = (false, eval e X.env) :: starEach es X.env := by rfl)
    (hpl : (backTo pos (starEach es X.env)).any (·.1) = false := by rfl) :
    PE X (.Call (.Name x p) (e :: es) [] pos) (tCall sp [] E0 t) := by
  constructor
  intro pins s σ H Q I h
  refine wpAny_Call_Name_kw (ld_glob I hg hm ?_ hdb)
  refine PySem.W.callWith_K (h₀ := X.base) I.ok.mod.kin hk
    (thn (hargs.run pos pins s σ H _ I h) fun us sa ⟨vs, Ha, Ia, ra, qa⟩ => ⟨Ia.kIn, ?_⟩) he hpl
  have qb : sp (vs ++ []) Ha Q E0 := qa
  rw [List.append_nil] at qb
  have hl : (us ++ []).length = ps.length := by
    rw [List.append_nil, ← ra.length]
    exact F.len _ _ _ _ qb
  have hbd := hb sa us Ia.kIn hl
  rw [List.append_nil] at hbd
  refine wpAny_call (codeAny_mono (F.go X.A X.stack sa Ha ⟨us, []⟩ us vs Q E0 hgd hroom Ia.env0 hbd ra qb) ?_)
  intro r sz hz
  cases r with
  | error e => exact hz.elim
  | ok fl =>
    cases fl with
    | ret u => exact Ia.after hz
    | next => exact hz.elim
    | brk => exact hz.elim
    | cont => exact hz.elim
end DL

namespace DL
open PySem PySem.Spec PyProof.Rows L2

/-- the law's own call, from a heap of which at most the script is tracked -/
theorem law_from {P : Program} {w : World} {K : PySem.W.Frag} {mg mb : Str → Option Value} {n : Nat}
    {fa a : Addr} {fd : FuncData} {x : Str} {sp : Sp} {sh : Shared} {H : Hp}
    (kin : K.In sh.heap) (nsg : sh.heap.Ns mainGlobals mg) (nsb : sh.heap.Ns builtinsNs mb)
    (eqb : ∀ y : Str, y ≠ "__name__" → mb y = bootBuiltins y) (lim : sh.heap.NoLimit) (dig : sh.heap.NoDigits)
    (gens : sh.gens = #[]) (room : Room n callerA)
    (F : ∀ bs : Heap, K.In bs → bs.Ns mainGlobals mg → bs.NoDigits → FnG P w K mg bs n fa fd [x] sp)
    (bnd : ∀ (s : Shared) (u : Value), BindsTo s fd ⟨[u], []⟩ [(x, u)])
    (only : Only H) (good : HOk P w H sh.heap) (notd : ∀ b o es ep, sh.heap.get? b = some o → o.data = .dict es ep → H b = none)
    (nok : ∀ b o, K.lookup b = some o → H b = none)
    (pre : sp [.ref a] H (fun v _ => v = .bl true) fun _ _ _ => False) :
    codeAny (model P w) callerA (.call (.ref fa) ⟨[.ref a], []⟩)
      (fun r s' => r = .ok (.ret (.bool true)) ∧ OldK sh.heap s'.heap ∧ s'.os = sh.os ∧ AllBare s'.gens) sh := by
  have part : ∀ {b : Addr} {m : Str → Option Value}, sh.heap.Ns b m → (hidT sh.heap H).Ns b m := by
    rintro b m ⟨o, es, ep, e, d, more⟩
    exact ⟨o, es, ep, hidT_get e (notd b o es ep e d), d, more⟩
  have kinb : K.In (hidT sh.heap H) := fun b o e => hidT_get (kin b o e) (nok b o e)
  have mod : Mod K mg (hidT sh.heap H) :=
    ⟨kinb, part nsg, ⟨mb, part nsb, eqb⟩, let ⟨mc, h1, h2⟩ := lim; ⟨mc, part h1, h2⟩⟩
  have start0 : Env0 P w K mg (hidT sh.heap H) callerA [] sh H := by
    refine ⟨rfl, mod, fun b o e => of_hidT e, Nat.le_of_eq (hidT_size _ _), trivial, ?_, good, .of_eq gens⟩
    intro b hb
    exact absurd (show b ∈ ([] : List Addr) from hb) (by simp)
  refine codeAny_mono ((F _ kinb (part nsg) (let ⟨mc, h1, h2⟩ := dig; ⟨mc, part h1, h2⟩)).go callerA [] sh H ⟨[.ref a], []⟩ [.ref a] [.ref a] _ _ rfl
    room start0 (bnd sh (.ref a)) (.cons rfl .nil) pre) ?_
  intro r s' h
  cases r with
  | error e => exact h.elim
  | ok fl =>
    cases fl with
    | next => exact h.elim
    | brk => exact h.elim
    | cont => exact h.elim
    | ret u =>
      obtain ⟨v, H2, os, bare, un, hok2, rv, q⟩ := h
      obtain rfl : v = .bl true := q
      obtain rfl : u = Value.bool true := rv
      refine ⟨rfl, OldK.of_keep ?_, os, bare⟩
      intro b o e
      cases q : H b with
      | none =>
        refine un.keep b o e q ?_ (by simp)
        intro z
        exact absurd (show b ∈ ([] : List Addr) from z) (by simp)
      | some y =>
        rcases only b with z | ⟨ob, xs, z⟩
        · rw [q] at z
          cases z
        · obtain ⟨e1, _⟩ := good b _ z
          obtain ⟨e2, _⟩ := hok2 b _ (un.frzs b ob _ z)
          rw [e] at e1
          cases e1
          exact e2

theorem law_G {P : Program} {w : World} {K : PySem.W.Frag} {mg mb : Str → Option Value} {n : Nat}
    {fa a : Addr} {fd : FuncData} {x : Str} {sp : Sp} {sh : Shared} {vs : List Value} {ns : List Int}
    (kin : K.In sh.heap) (nsg : sh.heap.Ns mainGlobals mg) (nsb : sh.heap.Ns builtinsNs mb)
    (eqb : ∀ y : Str, y ≠ "__name__" → mb y = bootBuiltins y) (lim : sh.heap.NoLimit) (dig : sh.heap.NoDigits)
    (gens : sh.gens = #[]) (room : Room n callerA)
    (obj : sh.heap.get? a = some { cls := .type "list", data := .seq vs.toArray }) (hints : IntsAre vs ns)
    (few : ns.length ≤ sizeLine)
    (F : ∀ bs : Heap, K.In bs → bs.Ns mainGlobals mg → bs.NoDigits → FnG P w K mg bs n fa fd [x] sp)
    (bnd : ∀ (s : Shared) (u : Value), BindsTo s fd ⟨[u], []⟩ [(x, u)])
    (pre : ∀ H : Hp, Only H → SqL K H a (ns.map V.int) → sp [.ref a] H (fun v _ => v = .bl true) fun _ _ _ => False) :
    codeAny (model P w) callerA (.call (.ref fa) ⟨[.ref a], []⟩)
      (fun r s' => r = .ok (.ret (.bool true)) ∧ OldK sh.heap s'.heap ∧ s'.os = sh.os ∧ AllBare s'.gens) sh := by
  have rel := vals_ints hints
  have lens := hints.length
  have nodict : ∀ o es ep, sh.heap.get? a = some o → o.data = .dict es ep → False := by
    intro o es ep e d
    rw [obj] at e
    cases e
    have d2 : Data.seq vs.toArray _ = Data.dict es ep := d
    cases d2
  cases hk : K.lookup a with
  | some o =>
    have e := kin a o hk
    rw [obj] at e
    cases e
    have only : Only (fun _ => none) := fun _ => .inl rfl
    refine law_from kin nsg nsb eqb lim dig gens room F bnd only ?_ (fun _ _ _ _ _ _ => rfl) (fun _ _ _ => rfl)
      (pre _ only (.inr ⟨_, vs.toArray, _, hk, rfl, rfl, rfl, ?_, by simpa using rel⟩))
    · intro b u z
      have z2 : (none : Option HO) = some u := z
      cases z2
    · rw [List.size_toArray, lens]
      exact few
  | none =>
    let ob : Obj := { cls := .type "list", data := .seq vs.toArray }
    let H : Hp := fun b => if b = a then some (.frz ob (.lst (ns.map V.int))) else none
    have at_a : H a = some (.frz ob (.lst (ns.map V.int))) := if_pos rfl
    have off : ∀ b, b ≠ a → H b = none := fun b hb => if_neg hb
    have only : Only H := by
      intro b
      by_cases hb : b = a
      · rw [hb]
        exact .inr ⟨_, _, at_a⟩
      · exact .inl (off b hb)
    refine law_from kin nsg nsb eqb lim dig gens room F bnd only ?_ ?_ ?_ (pre _ only (.inl (.inr ⟨ob, at_a⟩)))
    · intro b u z
      by_cases hb : b = a
      · subst hb
        rw [at_a] at z
        cases z
        exact ⟨obj, by rw [List.length_map]; exact few, vs, _, rel, obj⟩
      · rw [off b hb] at z
        cases z
    · intro b o es ep e d
      by_cases hb : b = a
      · subst hb
        exact (nodict o es ep e d).elim
      · exact off b hb
    · intro b o e
      by_cases hb : b = a
      · subst hb
        rw [hk] at e
        cases e
      · exact off b hb

/-- the goal that the head leaves, from the law's promise -/
theorem walkG {l : PySem.W.OpenLaw} {m n : Nat} {q : Program} {loose : List Str}
    {XP : (Str → Option Value) → Heap → Prop} {YP : World → Heap → Prop} {d : DefRec} {K : Params → PySem.W.Frag}
    {sp : PySem.W.Frag → Sp} {x : Str}
    (hm : l.most = some m) (few : m ≤ sizeLine) (nodef : d.params.defaults = []) (room : Room n callerA)
    (hY : ∀ (w : World) (h : Heap), YP w h → (K w.params).In h)
    (F : ∀ (w : World) (mg : Str → Option Value) (fa : Addr) (h : Heap), (K w.params).In h →
      h.Ns mainGlobals mg → mg d.name = some (.ref fa) →
      ∃ fd : FuncData, (∀ (s : Shared) (u : Value), BindsTo s fd ⟨[u], []⟩ [(x, u)]) ∧
        ∀ bs : Heap, (K w.params).In bs → bs.Ns mainGlobals mg → bs.NoDigits → FnG l.prog w (K w.params) mg bs n fa fd [x] (sp (K w.params)))
    (pre : ∀ (K : PySem.W.Frag) (H : Hp) (a : Addr) (ns : List Int), ns.length ≤ m → Only H →
      SqL K H a (ns.map V.int) → sp K [.ref a] H (fun v _ => v = .bl true) fun _ _ _ => False) :
    PySem.W.WalkO q loose XP YP l.row.toRowW d [] (fun f vs => PySem.call f vs) := by
  refine Att.attach_call hm nodef ?_
  intro w sa sb mg mb fa o pm cd doc a vs ns G Y ho hd hcd hmg hobj hints hlen hgens
  have kin := hY w _ Y
  obtain ⟨fd, hb, hF⟩ := F w mg fa _ kin G.T.g hmg
  exact law_G kin G.T.g G.T.b G.T.builtins G.T.nolimit G.T.nodigits hgens room hobj hints (Nat.le_trans hlen few) hF hb
    (fun H hO hS => pre _ H a ns hlen hO hS)
end DL

/-! repr of data, whole numbers of up to 4,300 digits within. -/
namespace DL
open PySem PySem.Spec PyProof.Rows L2

mutual
def okInts : PyData → Bool
  | .none | .bool _ | .str _ => true
  | .int i => decide (i.natAbs < 10 ^ 4300)
  | .list xs | .tuple xs => okAll xs
  | .dict _ => false
def okAll : List PyData → Bool
  | [] => true
  | x :: xs => okInts x && okAll xs
end

section
variable {prog : Program} {w : World} {h₀ : Heap}
set_option maxRecDepth 100000 in
theorem reprK_int {i : Int} {t : Tok} {as : List Addr} {n : Nat} (nd : h₀.NoDigits) (hi : i.natAbs < 10 ^ 4300) :
    ReprK prog w as h₀ n (.int i t) (toString i) := by
  intro b hb A g E s Q hg hcl hu hk hQ
  have hn : b ≤ sizeLine := by omega
  have nds : s.heap.NoDigits := nd.keeps hk
  rw [pyReprUnder_leaf (v := .int i t) hn (fun _ e => nomatch e)]
  unfold pyRepr
  refine wpAny_bind (wpAny_pyReprObj_slot (T := "int") (idr := "int.__repr__") (by omega) (typeIs_int s i t)
    F.slot_int_repr.toG ?_)
  refine wpAny_call (codeAny_call_builtin F.slot_int_repr.plain F.entry_int_repr
    (F.slot_int_repr.check _ _ _ _ _ _ _ _ (typeIs_int _ i t) (F.args_int_repr_1 _) ?_))
  unfold Builtin.«int.__repr__»
  show wpAny _ _ (do let r ← Builtin.overDigitLimit? i; _) _ _ s
  refine wpAny_bind (overDigitLimit_any nds (fun _ => ?_) (fun ge => absurd hi (Nat.not_lt.mpr ge)))
  refine wpAny_bind (wpAny_mkStr (wpAny_pure ?_) (int_text_fits10 hi))
  exact ⟨_, _, rfl, wpAny_pure (hQ s.heap _ fun _ _ e => e)⟩

mutual
theorem reprK_of (nd : h₀.NoDigits) : ∀ {v : Value} {d : PyData} {as : List Addr}, Reads h₀ v d as → okInts d = true →
    d.shown.length ≤ sizeLine → ∃ bs, ReadAtMost h₀ d.depth bs ∧ ReprK prog w bs h₀ d.depth v d.shown
  | _, _, _, .none, _, _ => ⟨[], (fun _ h => nomatch h), by
      simp only [PyData.shown]
      exact .of_is ReprIs.none _ _ _⟩
  | _, _, _, .bool b, _, _ => ⟨[], (fun _ h => nomatch h), by
      simp only [PyData.shown]
      exact .of_is (ReprIs.bool b) _ _ _⟩
  | _, _, _, .int i t, ho, _ => ⟨[], (fun _ h => nomatch h), by
      simp only [PyData.shown]
      exact reprK_int nd (by simpa [okInts] using ho)⟩
  | _, _, _, .str x t, _, hz => ⟨[], (fun _ h => nomatch h), by
      simp only [PyData.shown]
      exact .of_is (ReprIs.str x t (by simpa only [PyData.shown] using hz)) _ _ _⟩
  | _, _, _, .list (a := a) (vs := vs) (xs := xs) e1 e2 e3 e4, ho, hz => by
      have hz2 : (listText (PyData.shownAll xs)).length ≤ sizeLine := by simpa only [PyData.shown] using hz
      obtain ⟨bs, hb, hk⟩ := reprAll_of nd e4 (by simpa [okInts] using ho)
        (fun t ht => Nat.le_trans (listText_mem_le ht) hz2)
      have whole : Reads h₀ (.ref a) (.list xs) _ := .list e1 e2 e3 e4
      have apart : a ∉ bs := not_mem_of_deeper whole (by simp only [PyData.depth]; omega) hb
      refine ⟨a :: bs, ReadAtMost.cons whole (by simp only [PyData.depth]; omega) hb, ?_⟩
      simp only [PyData.depth, PyData.shown]
      obtain ⟨l⟩ := vs
      cases l with
      | nil =>
        have e5 : ReadsAll h₀ [] xs _ := e4
        cases e5
        simp only [PyData.shownAll, listText_nil]
        exact ReprK.listEmpty e1 e2 e3
      | cons y l => exact ReprK.list e1 e2 e3 apart (by simpa using hk.length_eq) (fun i z e => hk.item i z (by simpa using e))
  | _, _, _, .tuple (a := a) (xs := xs) e1 e2 e3 e4, ho, hz => by
      have hz2 : (tupleText (PyData.shownAll xs)).length ≤ sizeLine := by simpa only [PyData.shown] using hz
      obtain ⟨bs, hb, hk⟩ := reprAll_of nd e4 (by simpa [okInts] using ho)
        (fun t ht => Nat.le_trans (tupleText_mem_le ht) hz2)
      have whole : Reads h₀ (.ref a) (.tuple xs) _ := .tuple e1 e2 e3 e4
      have apart : a ∉ bs := not_mem_of_deeper whole (by simp only [PyData.depth]; omega) hb
      refine ⟨a :: bs, ReadAtMost.cons whole (by simp only [PyData.depth]; omega) hb, ?_⟩
      simp only [PyData.depth, PyData.shown]
      exact ReprK.tuple e1 e2 e3 apart hk
  | _, _, _, .dict _ _ _ _ _, ho, _ => by simp [okInts] at ho
theorem reprAll_of (nd : h₀.NoDigits) : ∀ {vs : List Value} {ds : List PyData} {as : List Addr}, ReadsAll h₀ vs ds as →
    okAll ds = true → (∀ t ∈ PyData.shownAll ds, t.length ≤ sizeLine) →
    ∃ bs, ReadAtMost h₀ (PyData.depthAll ds) bs ∧ ReprAllK prog w bs h₀ (PyData.depthAll ds) vs (PyData.shownAll ds)
  | _, _, _, .nil, _, _ => ⟨[], (fun _ h => nomatch h), by
      simp only [PyData.shownAll]
      exact .nil⟩
  | _, _, _, .cons (d := d) (ds := ds) r rs, ho, hz => by
      have ho2 : okInts d = true ∧ okAll ds = true := by simpa [okAll] using ho
      obtain ⟨b1, m1, k1⟩ := reprK_of nd r ho2.1 (hz _ (by simp only [PyData.shownAll]; exact List.mem_cons_self ..))
      obtain ⟨b2, m2, k2⟩ := reprAll_of nd rs ho2.2 (fun t ht => hz t (by simp only [PyData.shownAll]; exact List.mem_cons_of_mem _ ht))
      refine ⟨b1 ++ b2, fun b hm => ?_, ?_⟩
      · simp only [PyData.depthAll]
        rcases List.mem_append.mp hm with hm | hm
        · obtain ⟨d2, as2, r2, le2⟩ := m1 b hm
          exact ⟨d2, as2, r2, Nat.le_trans le2 (Nat.le_max_left _ _)⟩
        · obtain ⟨d2, as2, r2, le2⟩ := m2 b hm
          exact ⟨d2, as2, r2, Nat.le_trans le2 (Nat.le_max_right _ _)⟩
      · simp only [PyData.depthAll, PyData.shownAll]
        exact .cons ((k1.more fun b hb => List.mem_append_left _ hb).level_le (Nat.le_max_left _ _))
          (k2.more_le (fun b hb => List.mem_append_right _ hb) (Nat.le_max_right _ _))
end
end

section
variable {prog : Program} {w : World} {A : Around} {E : Value → Shared → Prop} {s : Shared} {Q : Value → Shared → Prop}
theorem repr_big {i : Int} {t : Tok} (nd : s.heap.NoDigits) (hi : i.natAbs < 10 ^ 4300) (hu : A.units + 2 < cLine)
    (h : ∀ tk u, Q (.str (toString i) u) { s with toks := tk }) :
    wpAny (model prog w) A (call (.builtin "repr") [.int i t]) Q E s := by
  refine call_repr_slot (T := "int") (idr := "int.__repr__") (by omega) (typeIs_int s i t) F.slot_int_repr.toG ?_
  refine wpAny_call (codeAny_call_builtin F.slot_int_repr.plain F.entry_int_repr
    (F.slot_int_repr.check _ _ _ _ _ _ _ _ (typeIs_int _ i t) (F.args_int_repr_1 _) ?_))
  unfold Builtin.«int.__repr__»
  show wpAny _ _ (do let r ← Builtin.overDigitLimit? i; _) _ _ s
  refine wpAny_bind (overDigitLimit_any nd (fun _ => ?_) (fun ge => absurd hi (Nat.not_lt.mpr ge)))
  refine wpAny_bind (wpAny_mkStr (wpAny_pure ?_) (int_text_fits10 hi))
  exact ⟨_, _, rfl, h _ _⟩

theorem repr_data {h₀ : Heap} (nd : h₀.NoDigits) {v : Value} {d : PyData} {as : List Addr} (r : Reads h₀ v d as)
    (ho : okInts d = true) (hz : d.shown.length ≤ sizeLine) (hg : A.guards = some []) (hu : A.units + (d.depth + 2) < cLine)
    (hk0 : ∀ b o, h₀.get? b = some o → s.heap.get? b = some o)
    (hQ : ∀ h' u tk, (∀ b o, s.heap.get? b = some o → h'.get? b = some o) → Q (.str d.shown u) { s with heap := h', toks := tk }) :
    wpAny (model prog w) A (call (.builtin "repr") [v]) Q E s := by
  cases r with
  | none =>
    refine PySem.P.repr_of_none ?_
    have q := hQ s.heap s.toks (s.toks + 1) fun _ _ e => e
    simpa only [PyData.shown] using q
  | bool b =>
    refine PySem.P.repr_of_bool ?_
    have q := hQ s.heap s.toks (s.toks + 1) fun _ _ e => e
    simpa only [PyData.shown] using q
  | str x t =>
    refine PySem.P.repr_of_str ?_ (by simpa only [PyData.shown] using hz)
    have q := hQ s.heap s.toks (s.toks + 1) fun _ _ e => e
    simpa only [PyData.shown] using q
  | int i t =>
    refine repr_big (nd.keeps hk0) (by simpa [okInts] using ho) (by omega) ?_
    intro tk u
    have q := hQ s.heap u tk fun _ _ e => e
    simpa only [PyData.shown] using q
  | list e1 e2 e3 e4 =>
    rename_i o vs n xs bs₀
    have hz2 : (listText (PyData.shownAll xs)).length ≤ sizeLine := by simpa only [PyData.shown] using hz
    obtain ⟨bs, hb, hk⟩ := reprAll_of (prog := prog) (w := w) nd e4 (by simpa [okInts] using ho)
      (fun t ht => Nat.le_trans (listText_mem_le ht) hz2)
    have apart := not_mem_of_deeper (Reads.list e1 e2 e3 e4) (n := PyData.depthAll xs) (by simp only [PyData.depth]; omega) hb
    simp only [PyData.depth] at hu
    simp only [PyData.shown] at hQ
    refine call_repr_slot (T := "list") (idr := "list.__repr__") (by omega) ⟨o, hk0 _ _ e1, e2⟩ F.slot_list_repr.toG ?_
    obtain ⟨l⟩ := vs
    cases l with
    | nil =>
      have e5 : ReadsAll h₀ [] xs _ := e4
      cases e5
      simp only [PyData.shownAll, listText_nil] at hQ
      exact call_list_repr_empty ⟨o, hk0 _ _ e1, e2⟩ (hk0 _ _ e1) e3 ⟨_, _, rfl, hQ s.heap _ _ fun _ _ e => e⟩
    | cons y l =>
      exact call_list_reprK e1 e2 e3 apart (by simpa using hk.length_eq) (fun i z e => hk.item i z (by simpa using e)) hg
        (fun b _ => Clear.nil b) (by show A.units + 1 + _ < cLine; omega) hk0 (fun h' u tk keep => ⟨_, _, rfl, hQ h' u tk keep⟩) hz2
  | tuple e1 e2 e3 e4 =>
    rename_i o vs n xs
    have hz2 : (tupleText (PyData.shownAll xs)).length ≤ sizeLine := by simpa only [PyData.shown] using hz
    obtain ⟨bs, hb, hk⟩ := reprAll_of (prog := prog) (w := w) nd e4 (by simpa [okInts] using ho)
      (fun t ht => Nat.le_trans (tupleText_mem_le ht) hz2)
    have apart := not_mem_of_deeper (Reads.tuple e1 e2 e3 e4) (n := PyData.depthAll xs) (by simp only [PyData.depth]; omega) hb
    simp only [PyData.depth] at hu
    simp only [PyData.shown] at hQ
    refine call_repr_slot (T := "tuple") (idr := "tuple.__repr__") (by omega) ⟨o, hk0 _ _ e1, e2⟩ F.slot_tuple_repr ?_
    exact call_tuple_reprK e1 e2 e3 apart hk hg (fun b _ => Clear.nil b) (by show A.units + 1 + _ < cLine; omega) hk0
      (fun h' u tk keep => ⟨_, _, rfl, hQ h' u tk keep⟩) hz2
  | dict _ _ _ _ _ => simp [okInts] at ho
end

/-- repr of any data -/
def rRepr (K : PySem.W.Frag) : List V → Hp → VK → Prop := fun xs H Q => ∃ x d, xs = [x] ∧ Dp K H x d ∧
  okInts d = true ∧ d.shown.length ≤ sizeLine ∧ d.depth ≤ 60 ∧ Q (.str d.shown) H
theorem call_repr {X : Cx} (hg : X.A.guards = some []) (nd : X.base.NoDigits) (hu : X.A.units + 64 < cLine) :
    CallR X (.builtin "repr") (rRepr X.K) := by
  intro pins s σ H xs us Q I r h
  obtain ⟨x, d, rfl, hd, hok, hz, hdep, q⟩ := h
  obtain ⟨u, rfl, ru⟩ : ∃ u, us = [u] ∧ RelV x u := by
    cases r with
    | cons p t =>
      cases t
      exact ⟨_, rfl, p⟩
  obtain ⟨as, rd⟩ := Dp.reads I d x u hd ru
  exact repr_data (nd.keeps I.bk) rd hok hz hg (by omega) (fun _ _ e => e)
    fun h' u2 tk keep => ⟨.str d.shown, H, I.kept keep, ⟨_, rfl⟩, q⟩
end DL

/-! Programs over data: what a slot holds is told as data, the heap is kept out of sight. -/
namespace DL
open PySem PySem.Spec PyProof.Rows L2

/-! ### heaps with some objects hidden -/
theorem same_new {H : Hp} {p : Addr} {o : HO} (h : H p = none) : Same H (upd H p o) := by
  intro b x e
  rw [upd_ne (ne_of_none e h)]
  exact e
theorem sqT_mono {K : PySem.W.Frag} {H H' : Hp} {a : Addr} {xs : List V} (e : Same H H') (h : SqT K H a xs) : SqT K H' a xs := by
  rcases h with (h | ⟨o, h⟩) | h
  · exact .inl (.inl (e _ _ h))
  · exact .inl (.inr ⟨o, e _ _ h⟩)
  · exact .inr h
mutual
theorem dp_mono {K : PySem.W.Frag} {H H' : Hp} (e : Same H H') : ∀ (d : PyData) (v : V), Dp K H v d → Dp K H' v d
  | .none, _, h => by cases h; exact .non
  | .bool b, _, h => by cases h; exact .bl b
  | .int i, _, h => by cases h; exact .int i
  | .str x, _, h => by cases h; exact .str x
  | .list ds, _, h => by
    cases h with
    | lst hs ha => exact .lst (e.seq hs) (dpAll_mono e ds _ ha)
  | .tuple ds, _, h => by
    cases h with
    | tup hs ha => exact .tup (sqT_mono e hs) (dpAll_mono e ds _ ha)
  | .dict _, _, h => by cases h
theorem dpAll_mono {K : PySem.W.Frag} {H H' : Hp} (e : Same H H') : ∀ (ds : List PyData) (vs : List V), DpAll K H vs ds → DpAll K H' vs ds
  | [], _, h => by cases h; exact .nil
  | d :: ds, _, h => by
    cases h with
    | cons h1 h2 => exact .cons (dp_mono e d _ h1) (dpAll_mono e ds _ h2)
end
theorem DpAll.len {K : PySem.W.Frag} {H : Hp} : ∀ {vs : List V} {ds : List PyData}, DpAll K H vs ds → vs.length = ds.length
  | [], _, h => by cases h; rfl
  | v :: vs, _, h => by
    cases h with
    | cons _ h2 => rw [List.length_cons, List.length_cons, DpAll.len h2]
theorem DpAll.get {K : PySem.W.Frag} {H : Hp} : ∀ {vs : List V} {ds : List PyData} {i : Nat} {d : PyData}, DpAll K H vs ds → ds[i]? = some d → ∃ v, vs[i]? = some v ∧ Dp K H v d
  | [], _, _, _, h, e => by cases h; cases e
  | v :: vs, _, 0, d, h, e => by
    cases h with
    | cons h1 _ =>
      cases e
      exact ⟨v, rfl, h1⟩
  | v :: vs, _, i + 1, d, h, e => by
    cases h with
    | cons _ h2 => exact DpAll.get (vs := vs) h2 e
theorem DpAll.gets {K : PySem.W.Frag} {H : Hp} : ∀ {vs : List V} {ds : List PyData} {i : Nat} {v : V}, DpAll K H vs ds → vs[i]? = some v → ∃ d, ds[i]? = some d ∧ Dp K H v d
  | [], _, _, _, h, e => by cases e
  | v :: vs, _, 0, _, h, e => by
    cases h with
    | cons h1 _ =>
      cases e
      exact ⟨_, rfl, h1⟩
  | v :: vs, d :: ds, i + 1, _, h, e => by
    cases h with
    | cons _ h2 => exact DpAll.gets (vs := vs) (ds := ds) (i := i) h2 e
theorem DpAll.app {K : PySem.W.Frag} {H : Hp} : ∀ {vs us : List V} {ds es : List PyData}, DpAll K H vs ds → DpAll K H us es → DpAll K H (vs ++ us) (ds ++ es)
  | [], _, _, _, h, k => by cases h; exact k
  | v :: vs, _, _, _, h, k => by
    cases h with
    | cons h1 h2 => exact .cons h1 (DpAll.app h2 k)
theorem DpAll.take {K : PySem.W.Frag} {H : Hp} : ∀ {vs : List V} {ds : List PyData} (n : Nat), DpAll K H vs ds → DpAll K H (vs.take n) (ds.take n)
  | _, _, 0, _ => .nil
  | [], _, n + 1, h => by cases h; exact .nil
  | v :: vs, _, n + 1, h => by
    cases h with
    | cons h1 h2 => exact .cons h1 (DpAll.take n h2)
theorem DpAll.drop {K : PySem.W.Frag} {H : Hp} : ∀ {vs : List V} {ds : List PyData} (n : Nat), DpAll K H vs ds → DpAll K H (vs.drop n) (ds.drop n)
  | _, _, 0, h => h
  | [], _, n + 1, h => by cases h; exact .nil
  | v :: vs, _, n + 1, h => by
    cases h with
    | cons h1 h2 => exact DpAll.drop n h2
theorem DpAll.rev {K : PySem.W.Frag} {H : Hp} : ∀ {vs : List V} {ds : List PyData}, DpAll K H vs ds → DpAll K H vs.reverse ds.reverse
  | [], _, h => by cases h; exact .nil
  | v :: vs, _, h => by
    cases h with
    | cons h1 h2 =>
      rw [List.reverse_cons, List.reverse_cons]
      exact DpAll.app (DpAll.rev h2) (.cons h1 .nil)
theorem DpAll.ofInts {K : PySem.W.Frag} {H : Hp} : ∀ (ns : List Int), DpAll K H (ns.map V.int) (ns.map PyData.int)
  | [] => .nil
  | n :: ns => .cons (.int n) (DpAll.ofInts ns)
theorem DpAll.ofStrs {K : PySem.W.Frag} {H : Hp} : ∀ (ns : List Str), DpAll K H (ns.map V.str) (ns.map PyData.str)
  | [] => .nil
  | n :: ns => .cons (.str n) (DpAll.ofStrs ns)
theorem DpAll.ints {K : PySem.W.Frag} {H : Hp} : ∀ {ns : List Int} {vs : List V}, DpAll K H vs (ns.map PyData.int) → vs = ns.map V.int
  | [], _, h => by cases h; rfl
  | n :: ns, _, h => by
    cases h with
    | cons h1 h2 =>
      cases h1
      rw [List.map_cons, DpAll.ints h2]
theorem DpAll.strs {K : PySem.W.Frag} {H : Hp} : ∀ {ns : List Str} {vs : List V}, DpAll K H vs (ns.map PyData.str) → vs = ns.map V.str
  | [], _, h => by cases h; rfl
  | n :: ns, _, h => by
    cases h with
    | cons h1 h2 =>
      cases h1
      rw [List.map_cons, DpAll.strs h2]
theorem DpAll.bools {K : PySem.W.Frag} {H : Hp} : ∀ {ns : List Bool} {vs : List V}, DpAll K H vs (ns.map PyData.bool) → vs = ns.map V.bl
  | [], _, h => by cases h; rfl
  | n :: ns, _, h => by
    cases h with
    | cons h1 h2 =>
      cases h1
      rw [List.map_cons, DpAll.bools h2]

open Classical in
/-- the heap without the objects of which o tells -/
noncomputable def hid (H : Hp) (o : Addr → Prop) : Hp := fun a => if o a then none else H a
theorem hid_of {H : Hp} {o : Addr → Prop} {a : Addr} (h : ¬ o a) : hid H o a = H a := if_neg h
theorem hid_some {H : Hp} {o : Addr → Prop} {a : Addr} {u : HO} (h : hid H o a = some u) : ¬ o a ∧ H a = some u := by
  unfold hid at h
  split at h
  · cases h
  · rename_i n
    exact ⟨n, h⟩
theorem hid_le {H : Hp} {o : Addr → Prop} : Same (hid H o) H := fun a u e => (hid_some e).2
theorem hid_less {H : Hp} {o o' : Addr → Prop} (h : ∀ a, o a → o' a) : Same (hid H o') (hid H o) := by
  intro a u e
  obtain ⟨n, e2⟩ := hid_some e
  rw [hid_of (fun z => n (h a z))]
  exact e2

/-! ### what a slot holds -/
inductive Sl where
  /-- nothing is known -/
  | no
  /-- data -/
  | dat (d : PyData)
  /-- a list of the def's own at p, which it may change -/
  | own (p : Addr) (xs : List PyData)
  /-- the bag -/
  | bag

/-- where a def's body stands: the heap at the entry, what its callers own, the bag -/
structure Wd where
  K : PySem.W.Frag
  H0 : Hp
  own0 : Addr → Prop
  bg : Option Addr

/-- the bag stands at b -/
def BagAt (K : PySem.W.Frag) (H : Hp) (o : Addr → Prop) (b : Addr) : Prop :=
  o b ∧ ∃ (c s t : Int) (l : Addr) (ns : List Int), H b = some (.lst [.int c, .int s, .int t, .ref l]) ∧ SqL K (hid H o) l (ns.map V.int) ∧ ns.length ≤ 63
structure Bas (w : Wd) (o : Addr → Prop) (H : Hp) : Prop where
  grow : Same (hid w.H0 w.own0) (hid H o)
  sub : ∀ a, w.own0 a → o a
  keep : ∀ a, w.own0 a → w.bg ≠ some a → H a = w.H0 a
  bag : ∀ b, w.bg = some b → w.own0 b ∧ BagAt w.K H o b
  here : ∀ a, o a → H a ≠ none
def VR (w : Wd) (o : Addr → Prop) (H : Hp) (v : V) : Sl → Prop
  | .no => True
  | .dat d => Dp w.K (hid H o) v d
  | .own p xs => v = .ref p ∧ o p ∧ ¬ w.own0 p ∧ ∃ vs, H p = some (.lst vs) ∧ DpAll w.K (hid H o) vs xs
  | .bag => ∃ b, w.bg = some b ∧ v = .ref b
structure Ok (w : Wd) (o : Addr → Prop) (σ : L2.St) (H : Hp) (ρ : List Sl) : Prop extends Bas w o H where
  len : σ.length = ρ.length
  slot : ∀ (i : Nat) (x : Sl), ρ[i]? = some x → x = .no ∨ ∃ v, σ[i]? = some (some v) ∧ VR w o H v x
  apart : ∀ (i j : Nat) (p q : Addr) (xs ys : List PyData), i ≠ j → ρ[i]? = some (.own p xs) → ρ[j]? = some (.own q ys) → p ≠ q
theorem VR.dat {w : Wd} {o : Addr → Prop} {H : Hp} {v : V} {d : PyData} (h : Dp w.K (hid H o) v d) : VR w o H v (.dat d) := h
/-- what a part of an expression may do -/
structure Go (w : Wd) (o : Addr → Prop) (H : Hp) (o' : Addr → Prop) (H' : Hp) : Prop where
  same : Same (hid H o) (hid H' o')
  sub : ∀ a, o a → o' a
  keep : ∀ a, o a → w.bg ≠ some a → H' a = H a
  bag : ∀ b, w.bg = some b → BagAt w.K H' o' b
  here : ∀ a, o' a → H' a ≠ none

section
variable {w : Wd} {o o1 o2 : Addr → Prop} {H H1 H2 : Hp} {σ : L2.St} {ρ : List Sl} {v : V} {x : Sl}
theorem Bas.refl (b : Bas w o H) : Go w o H o H := ⟨Same.refl _, fun _ h => h, fun _ _ _ => rfl, fun b' e => (b.bag b' e).2, b.here⟩
theorem Go.trans (a : Go w o H o1 H1) (b : Go w o1 H1 o2 H2) : Go w o H o2 H2 :=
  ⟨a.same.trans b.same, fun c h => b.sub c (a.sub c h), fun c h n => (b.keep c (a.sub c h) n).trans (a.keep c h n), b.bag, b.here⟩
theorem Bas.go (b : Bas w o H) (g : Go w o H o1 H1) : Bas w o1 H1 :=
  ⟨b.grow.trans g.same, fun a h => g.sub a (b.sub a h), fun a h n => (g.keep a (b.sub a h) n).trans (b.keep a h n), fun c e => ⟨(b.bag c e).1, g.bag c e⟩, g.here⟩
theorem Bas.nb (b : Bas w o H) {p : Addr} (h : ¬ w.own0 p) : w.bg ≠ some p := fun e => h (b.bag p e).1
theorem VR.go (b : Bas w o H) (g : Go w o H o1 H1) (r : VR w o H v x) : VR w o1 H1 v x := by
  cases x with
  | no => trivial
  | dat d => exact dp_mono g.same d v r
  | own p xs =>
    obtain ⟨e, hp, n, vs, hv, ha⟩ := r
    exact ⟨e, g.sub p hp, n, vs, (g.keep p hp (b.nb n)).trans hv, dpAll_mono g.same xs vs ha⟩
  | bag => exact r
theorem Ok.go (k : Ok w o σ H ρ) (g : Go w o H o1 H1) : Ok w o1 σ H1 ρ :=
  ⟨k.toBas.go g, k.len, fun i x e => (k.slot i x e).imp id fun ⟨v, hv, r⟩ => ⟨v, hv, r.go k.toBas g⟩, k.apart⟩
theorem BagAt.go {K : PySem.W.Frag} {b : Addr} (h : BagAt K H o b) (s : Same (hid H o) (hid H1 o1)) (e : H1 b = H b) (ho : o1 b) : BagAt K H1 o1 b := by
  obtain ⟨_, c, s', t, l, ns, e1, e2, e3⟩ := h
  exact ⟨ho, c, s', t, l, ns, e.trans e1, s.seq e2, e3⟩
/-- new data is laid -/
theorem Bas.new (b : Bas w o H) {p : Addr} {u : HO} (n : H p = none) : Go w o H o (upd H p u) := by
  have off : ∀ a, o a → a ≠ p := fun a h e => b.here a h (e ▸ n)
  have sm : Same (hid H o) (hid (upd H p u) o) := by
    intro a y e
    obtain ⟨na, e⟩ := hid_some e
    rw [hid_of na, upd_ne (ne_of_none e n)]
    exact e
  refine ⟨sm, fun _ h => h, fun a h _ => upd_ne (off a h), fun c e => ?_, fun a h => ?_⟩
  · obtain ⟨c1, c2⟩ := b.bag c e
    exact c2.go sm (upd_ne (off c c2.1)) c2.1
  · rw [upd_ne (off a h)]
    exact b.here a h
/-- the heap grows by data -/
theorem Bas.ext (b : Bas w o H) (e : Same H H1) : Go w o H o H1 := by
  have kp : ∀ a, o a → H1 a = H a := fun a h => by
    cases q : H a with
    | none => exact absurd q (b.here a h)
    | some y => exact e a y q
  have sm : Same (hid H o) (hid H1 o) := by
    intro a y q
    obtain ⟨na, q⟩ := hid_some q
    rw [hid_of na]
    exact e a y q
  refine ⟨sm, fun _ h => h, fun a h _ => kp a h, fun c q => ?_, fun a h => ?_⟩
  · obtain ⟨c1, c2⟩ := b.bag c q
    exact c2.go sm (kp c c2.1) c2.1
  · rw [kp a h]
    exact b.here a h
/-- new data is seen -/
theorem Bas.seen (b : Bas w o H) {p : Addr} {u : HO} (n : H p = none) : hid (upd H p u) o p = some u := by
  have np : ¬ o p := fun h => b.here p h n
  rw [hid_of np]
  exact upd_same
/-- an object of the def's own is laid -/
theorem Bas.newOwn (b : Bas w o H) {p : Addr} {u : HO} (n : H p = none) : Go w o H (fun a => o a ∨ a = p) (upd H p u) := by
  have off : ∀ a, o a → a ≠ p := fun a h e => b.here a h (e ▸ n)
  have sm : Same (hid H o) (hid (upd H p u) fun a => o a ∨ a = p) := by
    intro a y e
    obtain ⟨na, e⟩ := hid_some e
    have nap : a ≠ p := ne_of_none e n
    rw [hid_of (fun z => z.elim na nap), upd_ne nap]
    exact e
  refine ⟨sm, fun _ h => .inl h, fun a h _ => upd_ne (off a h), fun c e => ?_, fun a h => ?_⟩
  · obtain ⟨c1, c2⟩ := b.bag c e
    exact c2.go sm (upd_ne (off c c2.1)) (.inl c2.1)
  · by_cases e : a = p
    · rw [e, upd_same]
      exact fun z => nomatch z
    · rw [upd_ne e]
      exact b.here a (h.elim id fun z => absurd z e)
end

/-! ### the judgements -/
def E (w : Wd) (te : TE) (ρ : List Sl) (P : Sl → Prop) : Prop := ∀ (o : Addr → Prop) (σ : L2.St) (H : Hp) (Q : VK), Ok w o σ H ρ →
  (∀ o' H' v x, Go w o H o' H' → VR w o' H' v x → P x → Q v H') → te σ H Q
def T (w : Wd) (tt : TT) (ρ : List Sl) (P : Bool → Prop) : Prop := ∀ (o : Addr → Prop) (σ : L2.St) (H : Hp) (Q : Bool → Hp → Prop), Ok w o σ H ρ →
  (∀ o' H' b, Go w o H o' H' → P b → Q b H') → tt σ H Q
inductive VRs (w : Wd) (o : Addr → Prop) (H : Hp) : List V → List Sl → Prop
  | nil : VRs w o H [] []
  | cons {v : V} {x : Sl} {vs : List V} {xs : List Sl} : VR w o H v x → VRs w o H vs xs → VRs w o H (v :: vs) (x :: xs)
def A (w : Wd) (ta : TA) (ρ : List Sl) (P : List Sl → Prop) : Prop := ∀ (o : Addr → Prop) (σ : L2.St) (H : Hp) (Q : List V → Hp → Prop), Ok w o σ H ρ →
  (∀ o' H' vs xs, Go w o H o' H' → VRs w o' H' vs xs → P xs → Q vs H') → ta σ H Q
structure En where
  nx : List Sl → Prop
  rt : PyData → Prop
  bk : List Sl → Prop := fun _ => False
  ct : List Sl → Prop := fun _ => False
def S (w : Wd) (ts : TS) (ρ : List Sl) (e : En) : Prop := ∀ (o : Addr → Prop) (σ : L2.St) (H : Hp) (D : Ends), Ok w o σ H ρ →
  (∀ o' σ' H' ρ', Ok w o' σ' H' ρ' → e.nx ρ' → D.nx σ' H') →
  (∀ o' H' v d, Bas w o' H' → Dp w.K (hid H' o') v d → e.rt d → D.rt v H') →
  (∀ o' σ' H' ρ', Ok w o' σ' H' ρ' → e.bk ρ' → D.bk σ' H') →
  (∀ o' σ' H' ρ', Ok w o' σ' H' ρ' → e.ct ρ' → D.ct σ' H') → ts D σ H

section
variable {w : Wd} {ρ : List Sl} {P : Sl → Prop} {te ta tb tc : TE} {tt tu : TT} {tr : TA} {ts t1 t2 : TS} {e : En} {d : PyData}

theorem VRs.go {o o1 : Addr → Prop} {H H1 : Hp} (b : Bas w o H) (g : Go w o H o1 H1) : ∀ {vs : List V} {xs : List Sl}, VRs w o H vs xs → VRs w o1 H1 vs xs
  | _, _, .nil => .nil
  | _, _, .cons r t => .cons (r.go b g) (VRs.go b g t)
theorem VRs.dats {o : Addr → Prop} {H : Hp} : ∀ {vs : List V} {ds : List PyData}, VRs w o H vs (ds.map Sl.dat) → DpAll w.K (hid H o) vs ds
  | _, [], h => by cases h; exact .nil
  | _, d :: ds, h => by
    cases h with
    | cons r t => exact .cons r (VRs.dats t)

/-! ### expressions -/
theorem E.mono {P' : Sl → Prop} (h : E w te ρ P) (q : ∀ x, P x → P' x) : E w te ρ P' := fun o σ H Q ok k => h o σ H Q ok fun o' H' v x g r p => k o' H' v x g r (q x p)
theorem e_var {i : Nat} {x : Sl} (h : ρ[i]? = some x) (hx : x ≠ .no) (q : P x) : E w (tVar i) ρ P := by
  intro o σ H Q ok k
  rcases ok.slot i x h with z | ⟨v, hv, r⟩
  · exact absurd z hx
  · exact ⟨v, hv, k o H v x ok.toBas.refl r q⟩
theorem e_non (q : P (.dat .none)) : E w (tC .non) ρ P := fun o σ H Q ok k => k o H _ _ ok.toBas.refl (VR.dat Dp.non) q
theorem e_bl {b : Bool} (q : P (.dat (.bool b))) : E w (tC (.bl b)) ρ P := fun o σ H Q ok k => k o H _ _ ok.toBas.refl (VR.dat (Dp.bl b)) q
theorem e_int {i : Int} (q : P (.dat (.int i))) : E w (tC (.int i)) ρ P := fun o σ H Q ok k => k o H _ _ ok.toBas.refl (VR.dat (Dp.int i)) q
theorem e_str {z : Str} (q : P (.dat (.str z))) : E w (tC (.str z)) ρ P := fun o σ H Q ok k => k o H _ _ ok.toBas.refl (VR.dat (Dp.str z)) q

/-- what an operation on two values does with data -/
def Op2 (w : Wd) (r : R2) (R : Sl → Sl → (Sl → Prop) → Prop) : Prop := ∀ (o : Addr → Prop) (H : Hp) (u v : V) (x y : Sl) (P : Sl → Prop) (Q : VK), Bas w o H → VR w o H u x → VR w o H v y → R x y P →
  (∀ o' H' z d, Go w o H o' H' → VR w o' H' z d → P d → Q z H') → r u v H Q
theorem e_op {r : R2} {R : Sl → Sl → (Sl → Prop) → Prop} (hr : Op2 w r R) (h : E w ta ρ fun x => E w tb ρ fun y => R x y P) : E w (tOp r ta tb) ρ P := by
  intro o σ H Q ok k
  refine h o σ H _ ok ?_
  intro o1 H1 v x g1 r1 q1
  refine q1 o1 σ H1 _ (ok.go g1) ?_
  intro o2 H2 u y g2 r2 q2
  exact hr o2 H2 v u x y P Q (ok.go (g1.trans g2)).toBas (r1.go (ok.go g1).toBas g2) r2 q2 fun o' H' z d g r p => k o' H' z d ((g1.trans g2).trans g) r p
theorem op2_I0 {f : Int → Int → Int} : Op2 w (rI0 fun i j => .int (f i j)) (fun x y P => ∃ i j, x = .dat (.int i) ∧ y = .dat (.int j) ∧ P (.dat (.int (f i j)))) := by
  rintro o H u v x y P Q b ru rv ⟨i, j, rfl, rfl, q⟩ k
  cases ru
  cases rv
  exact ⟨i, j, rfl, rfl, k o H _ _ b.refl (VR.dat (Dp.int _)) q⟩
theorem op2_B0 {f : Int → Int → Bool} : Op2 w (rI0 fun i j => .bl (f i j)) (fun x y P => ∃ i j, x = .dat (.int i) ∧ y = .dat (.int j) ∧ P (.dat (.bool (f i j)))) := by
  rintro o H u v x y P Q b ru rv ⟨i, j, rfl, rfl, q⟩ k
  cases ru
  cases rv
  exact ⟨i, j, rfl, rfl, k o H _ _ b.refl (VR.dat (Dp.bl _)) q⟩
theorem op2_I {C : Int → Int → Prop} {f : Int → Int → Int} : Op2 w (rI C fun i j => .int (f i j)) (fun x y P => ∃ i j, x = .dat (.int i) ∧ y = .dat (.int j) ∧ C i j ∧ P (.dat (.int (f i j)))) := by
  rintro o H u v x y P Q b ru rv ⟨i, j, rfl, rfl, c, q⟩ k
  cases ru
  cases rv
  exact ⟨i, j, rfl, rfl, c, k o H _ _ b.refl (VR.dat (Dp.int _)) q⟩
theorem op2_eqD : Op2 w (rEqD w.K) (fun x y P => ∃ d e, x = .dat d ∧ y = .dat e ∧ SeqAt.shaped d = true ∧ SeqAt.shaped e = true ∧ P (.dat (.bool (PyData.eqv d e)))) := by
  rintro o H u v x y P Q b ru rv ⟨d, e, rfl, rfl, s1, s2, q⟩ k
  exact ⟨d, e, dp_mono hid_le d u ru, dp_mono hid_le e v rv, s1, s2, k o H _ _ b.refl (VR.dat (Dp.bl _)) q⟩
theorem op2_neD : Op2 w (rNeD w.K) (fun x y P => ∃ d e, x = .dat d ∧ y = .dat e ∧ SeqAt.shaped d = true ∧ SeqAt.shaped e = true ∧ P (.dat (.bool (!PyData.eqv d e)))) := by
  rintro o H u v x y P Q b ru rv ⟨d, e, rfl, rfl, s1, s2, q⟩ k
  exact ⟨d, e, dp_mono hid_le d u ru, dp_mono hid_le e v rv, s1, s2, k o H _ _ b.refl (VR.dat (Dp.bl _)) q⟩
def rAddS2 : R2 := fun x y H Q => ∃ i j, x = .str i ∧ y = .str j ∧ i.length + j.length ≤ sizeLine ∧ Q (.str (i ++ j)) H
theorem op2_addS : Op2 w rAddS2 (fun x y P => ∃ i j : Str, x = .dat (.str i) ∧ y = .dat (.str j) ∧ i.length + j.length ≤ sizeLine ∧ P (.dat (.str (i ++ j)))) := by
  rintro o H u v x y P Q b ru rv ⟨i, j, rfl, rfl, c, q⟩ k
  cases ru
  cases rv
  exact ⟨i, j, rfl, rfl, c, k o H _ _ b.refl (VR.dat (Dp.str _)) q⟩
/-- one value or the other kind -/
def orR (r1 r2 : R2) : R2 := fun x y H Q => r1 x y H Q ∨ r2 x y H Q
theorem opr_or {X : Cx} {f : Value → Value → Sem Value} {r1 r2 : R2} (h1 : OpR X f r1) (h2 : OpR X f r2) : OpR X f (orR r1 r2) := by
  intro pins s σ H x y u v Q I rx ry h
  rcases h with h | h
  · exact h1 pins s σ H x y u v Q I rx ry h
  · exact h2 pins s σ H x y u v Q I rx ry h
theorem op2_or {r1 r2 : R2} {R1 R2 : Sl → Sl → (Sl → Prop) → Prop} (h1 : Op2 w r1 R1) (h2 : Op2 w r2 R2) : Op2 w (orR r1 r2) (fun x y P => R1 x y P ∨ R2 x y P) := by
  intro o H u v x y P Q b ru rv h k
  rcases h with h | h
  · exact .inl (h1 o H u v x y P Q b ru rv h k)
  · exact .inr (h2 o H u v x y P Q b ru rv h k)
/-- an item -/
def ixD (x : Sl) (i : Int) : Option PyData := match x with
  | .dat (.list ds) => atI ds i
  | .dat (.tuple ds) => atI ds i
  | .own _ ds => atI ds i
  | .dat (.str z) => if z.length ≤ sizeLine then (atI z.cps.toList i).map fun c => .str ⟨#[c]⟩ else none
  | _ => none
theorem atI_dp {K : PySem.W.Frag} {H : Hp} {vs : List V} {ds : List PyData} {i : Int} {d : PyData} (h : DpAll K H vs ds) (e : atI ds i = some d) : ∃ v, atI vs i = some v ∧ Dp K H v d := by
  unfold atI at e ⊢
  rw [DpAll.len h]
  cases q : ixN ds.length i with
  | none =>
    rw [q] at e
    cases e
  | some j =>
    rw [q] at e
    exact DpAll.get h e
theorem op2_ix : Op2 w (rIx w.K) (fun x y P => ∃ i d, y = .dat (.int i) ∧ ixD x i = some d ∧ P (.dat d)) := by
  rintro o H u v x y P Q b ru rv ⟨i, d, rfl, he, q⟩ k
  cases rv
  cases x with
  | no => cases he
  | bag => cases he
  | own p xs =>
    obtain ⟨rfl, hp, n, vs, hv, ha⟩ := ru
    obtain ⟨z, hz, rz⟩ := atI_dp ha he
    exact .inl ⟨p, vs, i, z, rfl, rfl, .inl (.inl hv), hz, k o H z _ b.refl (VR.dat rz) q⟩
  | dat c =>
    cases c with
    | list ds =>
      cases ru with
      | lst hs ha =>
        obtain ⟨z, hz, rz⟩ := atI_dp ha he
        exact .inl ⟨_, _, i, z, rfl, rfl, hid_le.seq hs, hz, k o H z _ b.refl (VR.dat rz) q⟩
    | tuple ds =>
      cases ru with
      | tup hs ha =>
        obtain ⟨z, hz, rz⟩ := atI_dp ha he
        exact .inr (.inl ⟨_, _, i, z, rfl, rfl, sqT_mono hid_le hs, hz, k o H z _ b.refl (VR.dat rz) q⟩)
    | str s =>
      cases ru
      have he : (if s.length ≤ sizeLine then (atI s.cps.toList i).map fun c => PyData.str ⟨#[c]⟩ else none) = some d := he
      by_cases hl : s.length ≤ sizeLine
      · rw [if_pos hl] at he
        cases hc : atI s.cps.toList i with
        | none =>
          rw [hc] at he
          cases he
        | some c =>
          rw [hc] at he
          cases he
          exact .inr (.inr ⟨s, i, c, rfl, rfl, hl, hc, k o H _ _ b.refl (VR.dat (Dp.str _)) q⟩)
      · rw [if_neg hl] at he
        cases he
    | none => cases he
    | bool _ => cases he
    | int _ => cases he
    | dict _ => cases he
theorem e_neg (h : E w ta ρ fun x => ∃ i, x = .dat (.int i) ∧ P (.dat (.int (-i)))) : E w (tUn (rU fun i => .int (-i)) ta) ρ P := by
  intro o σ H Q ok k
  refine h o σ H _ ok ?_
  rintro o1 H1 v x g1 r1 ⟨i, rfl, q⟩
  cases r1
  exact ⟨i, rfl, k o1 H1 _ _ g1 (VR.dat (Dp.int _)) q⟩
theorem e_if {P : Sl → Prop} (h : T w tt ρ fun b => if b = true then E w ta ρ P else E w tb ρ P) : E w (tIf tt ta tb) ρ P := by
  intro o σ H Q ok k
  refine h o σ H _ ok ?_
  intro o1 H1 b g1 q
  cases b with
  | true => exact q o1 σ H1 Q (ok.go g1) fun o' H' v x g r p => k o' H' v x (g1.trans g) r p
  | false => exact q o1 σ H1 Q (ok.go g1) fun o' H' v x g r p => k o' H' v x (g1.trans g) r p
theorem e_andV (h : E w ta ρ fun x => ∃ b, x = .dat (.bool b) ∧ if b = true then E w tb ρ P else P (.dat (.bool false))) : E w (tAndV ta tb) ρ P := by
  intro o σ H Q ok k
  refine h o σ H _ ok ?_
  rintro o1 H1 v x g1 r1 ⟨b, rfl, q⟩
  cases r1
  refine ⟨b, rfl, ?_⟩
  cases b with
  | true => exact q o1 σ H1 Q (ok.go g1) fun o' H' v x g r p => k o' H' v x (g1.trans g) r p
  | false => exact k o1 H1 _ _ g1 (VR.dat (Dp.bl _)) q
theorem e_orV (h : E w ta ρ fun x => ∃ b, x = .dat (.bool b) ∧ if b = true then P (.dat (.bool true)) else E w tb ρ P) : E w (tOrV ta tb) ρ P := by
  intro o σ H Q ok k
  refine h o σ H _ ok ?_
  rintro o1 H1 v x g1 r1 ⟨b, rfl, q⟩
  cases r1
  refine ⟨b, rfl, ?_⟩
  cases b with
  | true => exact k o1 H1 _ _ g1 (VR.dat (Dp.bl _)) q
  | false => exact q o1 σ H1 Q (ok.go g1) fun o' H' v x g r p => k o' H' v x (g1.trans g) r p
theorem e_notV (h : E w ta ρ fun x => ∃ b, x = .dat (.bool b) ∧ P (.dat (.bool (!b)))) : E w (tNotV ta) ρ P := by
  intro o σ H Q ok k
  refine h o σ H _ ok ?_
  rintro o1 H1 v x g1 r1 ⟨b, rfl, q⟩
  cases r1
  exact ⟨b, rfl, k o1 H1 _ _ g1 (VR.dat (Dp.bl _)) q⟩

/-! ### argument lists, displays -/
def undats : List Sl → Option (List PyData)
  | [] => some []
  | .dat d :: xs => match undats xs with
    | some ds => some (d :: ds)
    | none => none
  | _ :: _ => none
theorem undats_some : ∀ {xs : List Sl} {ds : List PyData}, undats xs = some ds → xs = ds.map Sl.dat
  | [], _, h => by cases h; rfl
  | .dat d :: xs, ds, h => by
    have h : (match undats xs with
      | some ds => some (d :: ds)
      | none => none) = some ds := h
    cases q : undats xs with
    | none =>
      rw [q] at h
      cases h
    | some es =>
      rw [q] at h
      cases h
      rw [undats_some q]
      rfl
  | .no :: _, _, h => by cases h
  | .own _ _ :: _, _, h => by cases h
  | .bag :: _, _, h => by cases h
theorem a_nil {P : List Sl → Prop} (q : P []) : A w tNil ρ P := fun o σ H Q ok k => k o H [] [] ok.toBas.refl .nil q
theorem a_cons {P : List Sl → Prop} (h : E w te ρ fun x => A w tr ρ fun xs => P (x :: xs)) : A w (tCons te tr) ρ P := by
  intro o σ H Q ok k
  refine h o σ H _ ok ?_
  intro o1 H1 v x g1 r1 q1
  refine q1 o1 σ H1 _ (ok.go g1) ?_
  intro o2 H2 vs xs g2 r2 q2
  exact k o2 H2 (v :: vs) (x :: xs) (g1.trans g2) (.cons (r1.go (ok.go g1).toBas g2) r2) q2
theorem e_tup (h : A w tr ρ fun xs => ∃ ds, undats xs = some ds ∧ ds.length ≤ sizeLine ∧ P (.dat (.tuple ds))) : E w (tTup tr) ρ P := by
  intro o σ H Q ok k
  refine h o σ H _ ok ?_
  rintro o1 H1 vs xs g1 r1 ⟨ds, hu, hl, q⟩
  have hu2 := undats_some hu
  subst hu2
  have ha := VRs.dats r1
  refine ⟨by rw [DpAll.len ha]; exact hl, fun p np => ?_⟩
  have b1 := ok.toBas.go g1
  have g2 := b1.new (u := .tup vs) np
  exact k o1 _ _ _ (g1.trans g2) (VR.dat (Dp.tup (.inl (.inl (b1.seen np))) (dpAll_mono g2.same ds vs ha))) q
/-- a display of a list that is never changed -/
theorem e_lst (h : A w tr ρ fun xs => ∃ ds, undats xs = some ds ∧ ds.length ≤ sizeLine ∧ P (.dat (.list ds))) : E w (tLst tr) ρ P := by
  intro o σ H Q ok k
  refine h o σ H _ ok ?_
  rintro o1 H1 vs xs g1 r1 ⟨ds, hu, hl, q⟩
  have hu2 := undats_some hu
  subst hu2
  have ha := VRs.dats r1
  refine ⟨by rw [DpAll.len ha]; exact hl, fun p np => ?_⟩
  have b1 := ok.toBas.go g1
  have g2 := b1.new (u := .lst vs) np
  exact k o1 _ _ _ (g1.trans g2) (VR.dat (Dp.lst (.inl (.inl (b1.seen np))) (dpAll_mono g2.same ds vs ha))) q

/-- what a call upon values does with data -/
def Cl (w : Wd) (r : List V → Hp → VK → Prop) (R : List Sl → (Sl → Prop) → Prop) : Prop := ∀ (o : Addr → Prop) (H : Hp) (vs : List V) (xs : List Sl) (P : Sl → Prop) (Q : VK), Bas w o H → VRs w o H vs xs → R xs P →
  (∀ o' H' z d, Go w o H o' H' → VR w o' H' z d → P d → Q z H') → r vs H Q
theorem e_cb {r : List V → Hp → VK → Prop} {R : List Sl → (Sl → Prop) → Prop} (hr : Cl w r R) (h : A w tr ρ fun xs => R xs P) : E w (tCB r tr) ρ P := by
  intro o σ H Q ok k
  refine h o σ H _ ok ?_
  intro o1 H1 vs xs g1 r1 q1
  exact hr o1 H1 vs xs P Q (ok.toBas.go g1) r1 q1 fun o' H' z d g r p => k o' H' z d (g1.trans g) r p

/-! ### tests -/
theorem t_test {P : Bool → Prop} (h : E w te ρ fun x => ∃ b, x = .dat (.bool b) ∧ P b) : T w (tTest te) ρ P := by
  intro o σ H Q ok k
  refine h o σ H _ ok ?_
  rintro o1 H1 v x g1 r1 ⟨b, rfl, q⟩
  cases r1
  exact ⟨b, rfl, k o1 H1 b g1 q⟩
theorem t_B {P : Bool → Prop} (h : E w te ρ fun x => ∃ b, x = .dat (.bool b) ∧ P b) : T w (tB te) ρ P := by
  intro o σ H Q ok k
  refine h o σ H _ ok ?_
  rintro o1 H1 v x g1 r1 ⟨b, rfl, q⟩
  cases r1
  exact ⟨b, rfl, k o1 H1 b g1 q⟩
theorem t_and {P : Bool → Prop} (h : T w tt ρ fun b => if b = true then T w tu ρ P else P false) : T w (tAnd tt tu) ρ P := by
  intro o σ H Q ok k
  refine h o σ H _ ok ?_
  intro o1 H1 b g1 q
  cases b with
  | true => exact q o1 σ H1 Q (ok.go g1) fun o' H' b g p => k o' H' b (g1.trans g) p
  | false => exact k o1 H1 false g1 q
theorem t_or {P : Bool → Prop} (h : T w tt ρ fun b => if b = true then P true else T w tu ρ P) : T w (tOr tt tu) ρ P := by
  intro o σ H Q ok k
  refine h o σ H _ ok ?_
  intro o1 H1 b g1 q
  cases b with
  | true => exact k o1 H1 true g1 q
  | false => exact q o1 σ H1 Q (ok.go g1) fun o' H' b g p => k o' H' b (g1.trans g) p
theorem t_not {P : Bool → Prop} (h : T w tt ρ fun b => P (!b)) : T w (tNot tt) ρ P := by
  intro o σ H Q ok k
  refine h o σ H _ ok ?_
  intro o1 H1 b g1 q
  exact k o1 H1 (!b) g1 q
theorem t_yes {P : Bool → Prop} (q : P true) : T w tYes ρ P := fun o σ H Q ok k => k o H true ok.toBas.refl q

/-! ### statements -/
theorem s_next (q : e.nx ρ) : S w tNext ρ e := fun o σ H D ok kn kr kb kc => kn o σ H ρ ok q
theorem s_brk (q : e.bk ρ) : S w tBreak ρ e := fun o σ H D ok kn kr kb kc => kb o σ H ρ ok q
theorem s_cont (q : e.ct ρ) : S w tCont ρ e := fun o σ H D ok kn kr kb kc => kc o σ H ρ ok q
theorem s_seq (h : S w t1 ρ { e with nx := fun ρ' => S w t2 ρ' e }) : S w (tSeq t1 t2) ρ e := fun o σ H D ok kn kr kb kc =>
  h o σ H { D with nx := t2 D } ok (fun o' σ' H' ρ' ok' q => q o' σ' H' D ok' kn kr kb kc) kr kb kc
theorem s_if (h : T w tt ρ fun b => if b = true then S w t1 ρ e else S w t2 ρ e) : S w (tIfS tt t1 t2) ρ e := by
  intro o σ H D ok kn kr kb kc
  refine h o σ H _ ok ?_
  intro o1 H1 b g1 q
  cases b with
  | true => exact q o1 σ H1 D (ok.go g1) kn kr kb kc
  | false => exact q o1 σ H1 D (ok.go g1) kn kr kb kc
theorem s_ret (h : E w te ρ fun x => ∃ d, x = .dat d ∧ e.rt d) : S w (tRet te) ρ e := by
  intro o σ H D ok kn kr kb kc
  refine h o σ H _ ok ?_
  rintro o1 H1 v x g1 r1 ⟨d, rfl, q⟩
  exact kr o1 H1 v d (ok.toBas.go g1) r1 q
theorem s_retN (q : e.rt .none) : S w tRetN ρ e := fun o σ H D ok kn kr kb kc => kr o H .non .none ok.toBas Dp.non q
/-- a list of the def's own is handed out -/
theorem s_retOwn {i : Nat} {p : Addr} {xs : List PyData} (h : ρ[i]? = some (.own p xs)) (q : e.rt (.list xs)) : S w (tRet (tVar i)) ρ e := by
  intro o σ H D ok kn kr kb kc
  rcases ok.slot i _ h with z | ⟨v, hv, r⟩
  · cases z
  · obtain ⟨rfl, hp, n, vs, e1, ha⟩ := r
    refine ⟨_, hv, ?_⟩
    have less : ∀ a, (o a ∧ a ≠ p) → o a := fun a h => h.1
    have bs : Bas w (fun a => o a ∧ a ≠ p) H := by
      refine ⟨ok.grow.trans (hid_less less), fun a h => ⟨ok.sub a h, fun z => n (z ▸ h)⟩, ok.keep, fun b hb => ?_, fun a h => ok.here a h.1⟩
      obtain ⟨b1, b2⟩ := ok.bag b hb
      exact ⟨b1, b2.go (hid_less less) rfl ⟨b2.1, fun z => n (z ▸ b1)⟩⟩
    refine kr _ H _ _ bs (Dp.lst (.inl (.inl ?_)) (dpAll_mono (hid_less less) xs vs ha)) q
    rw [hid_of (fun z => z.2 rfl)]
    exact e1
theorem s_drop (h : E w te ρ fun _ => e.nx ρ) : S w (tDrop te) ρ e := by
  intro o σ H D ok kn kr kb kc
  refine h o σ H _ ok ?_
  intro o1 H1 v x g1 r1 q
  exact kn o1 σ H1 ρ (ok.go g1) q

def notOwn : Sl → Prop
  | .own _ _ => False
  | _ => True
theorem Ok.set {o : Addr → Prop} {σ : L2.St} {H : Hp} {v : V} {x : Sl} (ok : Ok w o σ H ρ) (i : Nat) (r : VR w o H v x) (hx : ∀ p xs, x = .own p xs → ∀ j q ys, j ≠ i → ρ[j]? = some (.own q ys) → p ≠ q) :
    Ok w o (σ.set i (some v)) H (ρ.set i x) := by
  refine ⟨ok.toBas, by rw [List.length_set, List.length_set]; exact ok.len, fun j y e => ?_, fun j k p q xs ys ne e1 e2 => ?_⟩
  · by_cases hj : i = j
    · subst hj
      have hl : i < (ρ.set i x).length := (List.getElem?_eq_some_iff.mp e).1
      rw [List.length_set] at hl
      rw [List.getElem?_set_self hl] at e
      cases e
      exact .inr ⟨v, List.getElem?_set_self (by rw [ok.len]; exact hl), r⟩
    · rw [List.getElem?_set_ne hj] at e
      rw [List.getElem?_set_ne hj]
      exact ok.slot j y e
  · by_cases hj : i = j
    · subst hj
      have hl : i < (ρ.set i x).length := (List.getElem?_eq_some_iff.mp e1).1
      rw [List.length_set] at hl
      rw [List.getElem?_set_self hl] at e1
      rw [List.getElem?_set_ne ne] at e2
      cases e1
      exact hx p xs rfl k q ys (Ne.symm ne) e2
    · rw [List.getElem?_set_ne hj] at e1
      by_cases hk : i = k
      · subst hk
        have hl : i < (ρ.set i x).length := (List.getElem?_eq_some_iff.mp e2).1
        rw [List.length_set] at hl
        rw [List.getElem?_set_self hl] at e2
        cases e2
        exact (hx q ys rfl j p xs (Ne.symm hj) e1).symm
      · rw [List.getElem?_set_ne hk] at e2
        exact ok.apart j k p q xs ys ne e1 e2
theorem Ok.setD {o : Addr → Prop} {σ : L2.St} {H : Hp} {v : V} {x : Sl} (ok : Ok w o σ H ρ) (i : Nat) (r : VR w o H v x) (hx : notOwn x) : Ok w o (σ.set i (some v)) H (ρ.set i x) :=
  ok.set i r fun p xs e => by subst e; exact hx.elim
/-- x = e -/
theorem s_set {i : Nat} (h : E w te ρ fun x => notOwn x ∧ e.nx (ρ.set i x)) : S w (tAsg te (gName i)) ρ e := by
  intro o σ H D ok kn kr kb kc
  refine h o σ H _ ok ?_
  rintro o1 H1 v x g1 r1 ⟨n, q⟩
  exact kn o1 _ H1 _ ((ok.go g1).setD i r1 n) q
/-- x = [..], a list that will be changed -/
theorem s_setOwn {i : Nat} (h : A w tr ρ fun xs => ∃ ds, undats xs = some ds ∧ ds.length ≤ sizeLine ∧ ∀ p, e.nx (ρ.set i (.own p ds))) : S w (tAsg (tLst tr) (gName i)) ρ e := by
  intro o σ H D ok kn kr kb kc
  refine h o σ H _ ok ?_
  rintro o1 H1 vs xs g1 r1 ⟨ds, hu, hl, q⟩
  have hu2 := undats_some hu
  subst hu2
  have ha := VRs.dats r1
  refine ⟨by rw [DpAll.len ha]; exact hl, fun p np => ?_⟩
  have ok1 := ok.go g1
  have g2 := ok1.toBas.newOwn (u := .lst vs) np
  have ok2 := ok1.go g2
  refine kn _ _ _ _ (ok2.set i (x := .own p ds) ⟨rfl, .inr rfl, fun z => ?_, vs, upd_same, dpAll_mono g2.same ds vs ha⟩ ?_) (q p)
  · exact ok1.here p (ok1.sub p z) np
  · intro p' xs' e' j q' ys' nj ej
    cases e'
    intro z
    subst z
    rcases ok1.slot j _ ej with z | ⟨u, hu, _, hq, _⟩
    · cases z
    · exact ok1.here _ hq np
/-- x op= e, ints -/
theorem s_aug {i : Nat} {f : Int → Int → Int} {a : Int} (hx : ρ[i]? = some (.dat (.int a))) (h : E w te ρ fun y => ∃ b, y = .dat (.int b) ∧ e.nx (ρ.set i (.dat (.int (f a b))))) : S w (tAug i te (ipI f)) ρ e := by
  intro o σ H D ok kn kr kb kc
  rcases ok.slot i _ hx with z | ⟨v, hv, r⟩
  · cases z
  · cases r
    refine ⟨_, hv, ?_⟩
    refine h o σ H _ ok ?_
    rintro o1 H1 u y g1 r1 ⟨b, rfl, q⟩
    cases r1
    exact ⟨a, b, rfl, rfl, kn o1 _ H1 _ ((ok.go g1).setD i (x := .dat (.int (f a b))) (Dp.int _) trivial) q⟩
/-- x, y = a, b -/
theorem s_par {i j : Nat} (h : A w tr ρ fun xs => ∃ x y, xs = [x, y] ∧ notOwn x ∧ notOwn y ∧ e.nx ((ρ.set i x).set j y)) : S w (tPar i j tr) ρ e := by
  intro o σ H D ok kn kr kb kc
  refine h o σ H _ ok ?_
  rintro o1 H1 vs xs g1 r1 ⟨x, y, rfl, n1, n2, q⟩
  cases r1 with
  | cons ra rt =>
    cases rt with
    | cons rb rt =>
      cases rt
      exact ⟨_, _, rfl, kn o1 _ H1 _ (((ok.go g1).setD i ra n1).setD j rb n2) q⟩
/-- x, y = e -/
theorem s_set2 {i j m : Nat} (hm : m = 2) (h : E w te ρ fun x => ∃ d1 d2, x = .dat (.tuple [d1, d2]) ∧ e.nx ((ρ.set i (.dat d1)).set j (.dat d2))) : S w (tAsg te (gTup w.K m (gCons (gName i) (gCons (gName j) gNil)))) ρ e := by
  subst hm
  intro o σ H D ok kn kr kb kc
  refine h o σ H _ ok ?_
  rintro o1 H1 v x g1 r1 ⟨d1, d2, rfl, q⟩
  cases r1 with
  | tup hs ha =>
    cases ha with
    | cons ra rt =>
      cases rt with
      | cons rb rt =>
        cases rt
        refine ⟨_, _, rfl, sqT_mono hid_le hs, rfl, _, _, rfl, _, _, rfl, rfl, ?_⟩
        exact kn o1 _ H1 _ (((ok.go g1).setD i (x := .dat d1) ra trivial).setD j (x := .dat d2) rb trivial) q
/-- a list of the def's own is changed -/
theorem Ok.put {o : Addr → Prop} {σ : L2.St} {H : Hp} {i : Nat} {p : Addr} {xs ys : List PyData} {vs : List V} (ok : Ok w o σ H ρ) (h : ρ[i]? = some (.own p xs)) (ha : DpAll w.K (hid H o) vs ys) :
    Ok w o σ (upd H p (.lst vs)) (ρ.set i (.own p ys)) := by
  rcases ok.slot i _ h with z | ⟨v, hv, rfl, hp, n, us, e1, ha0⟩
  · cases z
  · have eq : hid (upd H p (.lst vs)) o = hid H o := by
      funext a
      unfold hid
      split
      · rfl
      · rename_i na
        exact upd_ne fun z => na (z ▸ hp)
    have off : ∀ a, w.own0 a → a ≠ p := fun a h z => n (z ▸ h)
    refine ⟨⟨by rw [eq]; exact ok.grow, ok.sub, fun a h nb => (upd_ne (off a h)).trans (ok.keep a h nb), fun b hb => ?_, fun a h => ?_⟩, ?_, fun j y e => ?_, fun j k p1 q1 xs1 ys1 ne f1 f2 => ?_⟩
    · obtain ⟨b1, b2⟩ := ok.bag b hb
      exact ⟨b1, b2.go (by rw [eq]; exact Same.refl _) (upd_ne (off b b1)) b2.1⟩
    · by_cases z : a = p
      · rw [z, upd_same]
        exact fun z => nomatch z
      · rw [upd_ne z]
        exact ok.here a h
    · rw [List.length_set]
      exact ok.len
    · by_cases hj : i = j
      · subst hj
        have hl : i < (ρ.set i (.own p ys)).length := (List.getElem?_eq_some_iff.mp e).1
        rw [List.length_set] at hl
        rw [List.getElem?_set_self hl] at e
        cases e
        exact .inr ⟨_, hv, rfl, hp, n, vs, upd_same, by rw [eq]; exact ha⟩
      · rw [List.getElem?_set_ne hj] at e
        refine (ok.slot j y e).imp id fun ⟨u, hu, r⟩ => ⟨u, hu, ?_⟩
        cases y with
        | no => trivial
        | bag => exact r
        | dat d =>
          show Dp w.K (hid (upd H p (.lst vs)) o) u d
          rw [eq]
          exact r
        | own q zs =>
          obtain ⟨e2, hq, nq, us2, e3, ha3⟩ := r
          refine ⟨e2, hq, nq, us2, (upd_ne (fun z => ok.apart i j p q xs zs hj h e z.symm)).trans e3, ?_⟩
          rw [eq]
          exact ha3
    · have back : ∀ (m : Nat) (q : Addr) (zs : List PyData), (ρ.set i (.own p ys))[m]? = some (.own q zs) → ∃ zs', ρ[m]? = some (.own q zs') := by
        intro m q zs f
        by_cases hm : i = m
        · subst hm
          have hl : i < (ρ.set i (.own p ys)).length := (List.getElem?_eq_some_iff.mp f).1
          rw [List.length_set] at hl
          rw [List.getElem?_set_self hl] at f
          cases f
          exact ⟨xs, h⟩
        · rw [List.getElem?_set_ne hm] at f
          exact ⟨zs, f⟩
      obtain ⟨z1, g1⟩ := back j p1 xs1 f1
      obtain ⟨z2, g2⟩ := back k q1 ys1 f2
      exact ok.apart j k p1 q1 z1 z2 ne g1 g2
theorem s_app {i : Nat} {p : Addr} {xs : List PyData} (hx : ρ[i]? = some (.own p xs)) (hz : xs.length < sizeLine) (h : E w te ρ fun y => ∃ d, y = .dat d ∧ e.nx (ρ.set i (.own p (xs ++ [d])))) :
    S w (tDrop (tBM w.K "list" rAppend (tVar i) (tCons te tNil))) ρ e := by
  intro o σ H D ok kn kr kb kc
  rcases ok.slot i _ hx with z | ⟨v, hv, r⟩
  · cases z
  · obtain ⟨rfl, hp, n, vs, e1, ha⟩ := id r
    refine ⟨_, hv, .inl ⟨rfl, vs, .inl (.inl e1)⟩, ?_⟩
    refine h o σ H _ ok ?_
    rintro o1 H1 u y g1 r1 ⟨d, rfl, q⟩
    have e2 : H1 p = some (.lst vs) := (g1.keep p hp (ok.toBas.nb n)).trans e1
    refine ⟨p, vs, u, rfl, rfl, e2, by rw [DpAll.len ha]; exact hz, ?_⟩
    exact kn o1 σ _ _ ((ok.go g1).put hx (DpAll.app (dpAll_mono g1.same xs vs ha) (.cons r1 .nil))) q

theorem S.cut {M : List Sl → Prop} (h : S w ts ρ { e with nx := M }) (k : ∀ ρ', M ρ' → e.nx ρ') : S w ts ρ e := fun o σ H D ok kn kr kb kc =>
  h o σ H D ok (fun o' σ' H' ρ' ok' m => kn o' σ' H' ρ' ok' (k ρ' m)) kr kb kc
/-! ### loops -/
theorem s_while (I : Nat → List Sl → Prop) {m0 : Nat} (h0 : I m0 ρ) (h : ∀ m ρ', I m ρ' → T w tt ρ' fun b => if b = true then S w ts ρ' { e with nx := fun r => ∃ m', m' < m ∧ I m' r, ct := fun r => ∃ m', m' < m ∧ I m' r, bk := e.nx } else e.nx ρ') :
    S w (tWhile tt ts) ρ e := by
  intro o σ H D ok kn kr kb kc
  refine ⟨fun m σ' H' => ∃ o' ρ', Ok w o' σ' H' ρ' ∧ I m ρ', ⟨m0, o, ρ, ok, h0⟩, ?_⟩
  rintro m σ1 H1 ⟨o1, ρ1, ok1, i1⟩
  refine h m ρ1 i1 o1 σ1 H1 _ ok1 ?_
  intro o2 H2 b g2 q
  cases b with
  | false => exact kn o2 σ1 H2 ρ1 (ok1.go g2) q
  | true =>
    refine ⟨fun σ' H' => ∃ o' ρ', Ok w o' σ' H' ρ' ∧ ∃ m', m' < m ∧ I m' ρ', fun σ' H' ⟨o', ρ', a, m', b, c⟩ => ⟨m', b, o', ρ', a, c⟩, ?_⟩
    exact q o2 σ1 H2 _ (ok1.go g2) (fun o' σ' H' ρ' a b => ⟨o', ρ', a, b⟩) kr (fun o' σ' H' ρ' a b => kn o' σ' H' ρ' a b) (fun o' σ' H' ρ' a b => ⟨o', ρ', a, b⟩)
theorem s_forR {lo : Int} {n j : Nat} {wi : TI} (I : Nat → List Sl → Prop) (hw : ∀ (o : Addr → Prop) (σ : L2.St) (H : Hp) (R : It → Hp → Prop), Ok w o σ H ρ → (∀ o' H', Go w o H o' H' → R (Itr lo n) H') → wi σ H R)
    (h0 : I 0 ρ) (h : ∀ i ρ', i < n → I i ρ' → S w ts (ρ'.set j (.dat (.int (lo + i)))) { e with nx := I (i + 1), ct := I (i + 1), bk := e.nx }) (hd : ∀ ρ', I n ρ' → e.nx ρ') : S w (tFor wi (gName j) ts) ρ e := by
  intro o σ H D ok kn kr kb kc
  refine hw o σ H _ ok ?_
  intro o1 H1 g1
  refine for_range (lo := lo) (n := n) (fun i σ' H' => ∃ o' ρ', Ok w o' σ' H' ρ' ∧ I i ρ') ⟨o1, ρ, ok.go g1, h0⟩ ?_ ?_
  · rintro i σ2 H2 hi ⟨o2, ρ2, ok2, i2⟩
    exact h i ρ2 hi i2 o2 _ H2 _ (ok2.setD j (x := .dat (.int (lo + i))) (Dp.int _) trivial) (fun o' σ' H' ρ' a b => ⟨o', ρ', a, b⟩) kr (fun o' σ' H' ρ' a b => kn o' σ' H' ρ' a b) (fun o' σ' H' ρ' a b => ⟨o', ρ', a, b⟩)
  · rintro σ2 H2 ⟨o2, ρ2, ok2, i2⟩
    exact kn o2 σ2 H2 ρ2 ok2 (hd ρ2 i2)
theorem s_forR1 {j : Nat} (h : A w tr ρ fun xs => ∃ n : Int, xs = [.dat (.int n)] ∧ (-(2 ^ 62) ≤ n ∧ n < 2 ^ 62) ∧ ∃ I : Nat → List Sl → Prop, I 0 ρ ∧
    (∀ (i : Nat) ρ', (i : Int) < n → I i ρ' → S w ts (ρ'.set j (.dat (.int (i : Int)))) { e with nx := I (i + 1), ct := I (i + 1), bk := e.nx }) ∧ ∀ ρ', I n.toNat ρ' → e.nx ρ') : S w (tFor (iRng1 tr) (gName j) ts) ρ e := by
  intro o σ H D ok kn kr kb kc
  refine h o σ H _ ok ?_
  rintro o1 H1 vs xs g1 r1 ⟨n, rfl, hn, I, h0, hs, hd⟩
  cases r1 with
  | cons ra rt =>
    cases rt
    cases ra
    refine ⟨n, rfl, hn.1, hn.2, ?_⟩
    refine for_range (lo := 0) (n := n.toNat) (fun i σ' H' => ∃ o' ρ', Ok w o' σ' H' ρ' ∧ I i ρ') ⟨o1, ρ, ok.go g1, h0⟩ ?_ ?_
    · rintro i σ2 H2 hi ⟨o2, ρ2, ok2, i2⟩
      have ez : (0 : Int) + (i : Int) = (i : Int) := Int.zero_add _
      show ts _ (σ2.set j (some (.int ((0 : Int) + (i : Int))))) H2
      rw [ez]
      exact hs i ρ2 (by omega) i2 o2 _ H2 _ (ok2.setD j (x := .dat (.int (i : Int))) (Dp.int _) trivial) (fun o' σ' H' ρ' a b => ⟨o', ρ', a, b⟩) kr (fun o' σ' H' ρ' a b => kn o' σ' H' ρ' a b) (fun o' σ' H' ρ' a b => ⟨o', ρ', a, b⟩)
    · rintro σ2 H2 ⟨o2, ρ2, ok2, i2⟩
      exact kn o2 σ2 H2 ρ2 ok2 (hd ρ2 i2)
end
end DL

/-! Defs over data, and the operations that a text needs. -/
namespace DL
open PySem PySem.Spec PyProof.Rows L2

/-! ### defs -/
/-- what a def does with data: given these, what its answer satisfies -/
abbrev Gs := List Sl → (PyData → Prop) → Prop
def spG (K : PySem.W.Frag) (G : Gs) : Sp := fun vs H Q _ => ∃ (bg : Option Addr) (o : Addr → Prop) (xs : List Sl) (P : PyData → Prop),
  (∀ a, o a → H a ≠ none) ∧ (∀ b, bg = some b → BagAt K H o b) ∧ VRs ⟨K, H, o, bg⟩ o H vs xs ∧ G xs P ∧
  ∀ o' H' v d, Bas ⟨K, H, o, bg⟩ o' H' → Dp K (hid H' o') v d → P d → Q v H'

theorem VRs.len {w : Wd} {o : Addr → Prop} {H : Hp} : ∀ {vs : List V} {xs : List Sl}, VRs w o H vs xs → vs.length = xs.length
  | _, _, .nil => rfl
  | _, _, .cons _ t => by rw [List.length_cons, List.length_cons, VRs.len t]
theorem VRs.get {w : Wd} {o : Addr → Prop} {H : Hp} : ∀ {vs : List V} {xs : List Sl} {i : Nat} {x : Sl}, VRs w o H vs xs → xs[i]? = some x → ∃ v, vs[i]? = some v ∧ VR w o H v x
  | _, _, _, _, .nil, e => by cases e
  | v :: _, _, 0, _, .cons r _, e => by cases e; exact ⟨v, rfl, r⟩
  | _ :: vs, _ :: xs, i + 1, x, .cons _ t, e => VRs.get (vs := vs) (xs := xs) (i := i) t (by simpa using e)

theorem ok_start {K : PySem.W.Frag} {H : Hp} {o : Addr → Prop} {bg : Option Addr} {N : List Str} {vs : List V} {xs : List Sl} {m : Nat}
    (h1 : ∀ a, o a → H a ≠ none) (h2 : ∀ b, bg = some b → BagAt K H o b) (h3 : VRs ⟨K, H, o, bg⟩ o H vs xs) (hm : m = N.length - vs.length) :
    Ok ⟨K, H, o, bg⟩ o (L2.start N vs) H (xs ++ List.replicate m .no) := by
  have hl := h3.len
  refine ⟨⟨Same.refl _, fun _ h => h, fun _ _ _ => rfl, fun b e => ⟨(h2 b e).1, h2 b e⟩, h1⟩, ?_, fun i x e => ?_, fun i j p q ys zs ne e1 e2 => ?_⟩
  · unfold L2.start
    rw [List.length_append, List.length_append, List.length_map, List.length_replicate, List.length_replicate, hl, hm]
    omega
  · by_cases hi : i < xs.length
    · rw [List.getElem?_append_left hi] at e
      obtain ⟨v, hv, r⟩ := h3.get e
      refine .inr ⟨v, ?_, r⟩
      unfold L2.start
      rw [List.getElem?_append_left (by rw [List.length_map]; omega), List.getElem?_map, hv]
      rfl
    · rw [List.getElem?_append_right (by omega), List.getElem?_replicate] at e
      split at e
      · cases e
        exact .inl rfl
      · cases e
  · have no : ∀ (k : Nat) (a : Addr) (us : List PyData), (xs ++ List.replicate m Sl.no)[k]? = some (.own a us) → False := by
      intro k a us f
      by_cases hk : k < xs.length
      · rw [List.getElem?_append_left hk] at f
        obtain ⟨v, hv, r⟩ := h3.get f
        obtain ⟨_, h4, h5, _⟩ := r
        exact h5 h4
      · rw [List.getElem?_append_right (by omega), List.getElem?_replicate] at f
        split at f
        · cases f
        · cases f
    exact (no i p ys e1).elim

section
variable {P : Program} {w : World} {K : PySem.W.Frag} {mg : Str → Option Value} {bs : Heap}
/-- a def by its body's term, told over data -/
theorem fnD {n : Nat} {x q : Str} {st : Stmt} {f : Addr} {fd : FuncData} {N ps : List Str} {G : Gs}
    (F : Fun K x q st f fd) (Sc : FnScope N ps (defScope st)) (len : ∀ xs R, G xs R → xs.length = ps.length)
    (body : ∀ (cd : Value) (A : Around) (out : List Env) (s : Shared) (H : Hp) (E : XK), A.guards = some [] →
      Room n (A.deeper (envOfC q (defScope st) s.heap.objs.size f cd)) →
      ∃ t, PSs (cxOf CX0 P w K mg bs N q (defScope st) f cd A out s H E).nox (defBody st) t ∧
        ∀ (H0 : Hp) (own0 : Addr → Prop) (bg : Option Addr) (xs : List Sl) (R : PyData → Prop), G xs R →
          S ⟨K, H0, own0, bg⟩ t (xs ++ List.replicate (N.length - ps.length) .no) { nx := fun _ => R .none, rt := R }) :
    FnG P w K mg bs (n + 1) f fd ps (spG K G) := by
  refine fnG F Sc (fun vs H Q E h => ?_) fun cd A out s H vs Q E hg hr h => ?_
  · obtain ⟨bg, o, xs, R, h1, h2, h3, h4, h5⟩ := h
    rw [h3.len]
    exact len xs R h4
  · obtain ⟨bg, o, xs, R, h1, h2, h3, h4, h5⟩ := h
    obtain ⟨t, ht, hb⟩ := body cd A out s H E hg hr
    refine ⟨t, ht, ?_⟩
    have hl : vs.length = ps.length := by
      rw [h3.len]
      exact len xs R h4
    refine hb H o bg xs R h4 o (L2.start N vs) H _ (ok_start h1 h2 h3 (by rw [hl])) ?_ ?_ ?_ ?_
    · intro o' σ' H' ρ' ok' r
      exact h5 o' H' .non .none ok'.toBas Dp.non r
    · intro o' H' v d b' r q
      exact h5 o' H' v d b' r q
    · intro o' σ' H' ρ' ok' r
      exact r.elim
    · intro o' σ' H' ρ' ok' r
      exact r.elim
end

def plainS : Sl → Bool
  | .own _ _ => false
  | _ => true
section
variable {w : Wd} {ρ : List Sl} {P : Sl → Prop} {te ta tb tc : TE} {tt tu : TT} {tr : TA} {ts t1 t2 : TS} {e : En} {d : PyData}
theorem VRs.plain {o : Addr → Prop} {H : Hp} {H0 : Hp} {o0 : Addr → Prop} : ∀ {vs : List V} {xs : List Sl}, xs.all plainS = true → VRs w o H vs xs → VRs ⟨w.K, H0, o0, w.bg⟩ o H vs xs
  | _, _, _, .nil => .nil
  | v :: vs, x :: xs, h, .cons r t => by
    have h2 : plainS x = true ∧ xs.all plainS = true := by simpa [List.all_cons] using h
    refine .cons ?_ (VRs.plain h2.2 t)
    cases x with
    | no => trivial
    | dat d => exact r
    | bag => exact r
    | own p xs => exact absurd h2.1 (by simp [plainS])
/-- a def is called -/
theorem e_call {G : Gs} {K : PySem.W.Frag} (hK : w.K = K) (h : A w tr ρ fun xs => xs.all plainS = true ∧ G xs fun d => P (.dat d)) : E w (tCall (spG K G) [] E0 tr) ρ P := by
  subst hK
  intro o σ H Q ok k
  refine h o σ H _ ok ?_
  intro o1 H1 vs xs g1 r1 ⟨hp, q⟩
  have b1 := ok.toBas.go g1
  show spG w.K G (vs ++ []) H1 Q E0
  rw [List.append_nil]
  refine ⟨w.bg, o1, xs, fun d => P (.dat d), b1.here, fun b e => (b1.bag b e).2, r1.plain hp, q, ?_⟩
  intro o' H' v d b' r p
  refine k o' H' v (.dat d) (g1.trans ⟨b'.grow, b'.sub, b'.keep, fun b e => (b'.bag b e).2, b'.here⟩) r p

/-! ### calls of built-ins -/
theorem cl_len : Cl w (fun xs H Q => ∃ x n, xs = [x] ∧ LenV w.K x H n ∧ Q (.int n) H) (fun xs P => ∃ x n, xs = [x] ∧
    (match x with
      | .dat (.list ds) => some ds.length
      | .dat (.tuple ds) => some ds.length
      | .dat (.str z) => if z.length ≤ sizeLine then some z.length else none
      | .own _ ds => some ds.length
      | _ => none) = some n ∧ P (.dat (.int (n : Nat)))) := by
  rintro o H vs xs P Q b r ⟨x, n, rfl, hn, q⟩ k
  cases r with
  | cons r t =>
    cases t
    cases x with
    | no => cases hn
    | bag => cases hn
    | own p ds =>
      obtain ⟨rfl, hp, n0, us, hv, ha⟩ := r
      cases hn
      refine ⟨_, _, rfl, .inl ⟨us, .inl (.inl hv), (DpAll.len ha).symm⟩, k o H _ _ b.refl (VR.dat (Dp.int _)) q⟩
    | dat c =>
      cases c with
      | list ds =>
        cases hn
        cases r with
        | lst hs ha => exact ⟨_, _, rfl, .inl ⟨_, hid_le.seq hs, (DpAll.len ha).symm⟩, k o H _ _ b.refl (VR.dat (Dp.int _)) q⟩
      | tuple ds =>
        cases hn
        cases r with
        | tup hs ha => exact ⟨_, _, rfl, .inr ⟨_, sqT_mono hid_le hs, (DpAll.len ha).symm⟩, k o H _ _ b.refl (VR.dat (Dp.int _)) q⟩
      | str z =>
        have hn : (if z.length ≤ sizeLine then some z.length else none) = some n := hn
        by_cases hl : z.length ≤ sizeLine
        · rw [if_pos hl] at hn
          cases hn
          cases r
          exact ⟨_, _, rfl, ⟨hl, rfl⟩, k o H _ _ b.refl (VR.dat (Dp.int _)) q⟩
        · rw [if_neg hl] at hn
          cases hn
      | none => cases hn
      | bool _ => cases hn
      | int _ => cases hn
      | dict _ => cases hn
theorem cl_abs : Cl w (fun xs H Q => ∃ i, xs = [.int i] ∧ Q (.int (if i < 0 then -i else i)) H) (fun xs P => ∃ i, xs = [.dat (.int i)] ∧ P (.dat (.int (if i < 0 then -i else i)))) := by
  rintro o H vs xs P Q b r ⟨i, rfl, q⟩ k
  cases r with
  | cons r t =>
    cases t
    cases r
    exact ⟨i, rfl, k o H _ _ b.refl (VR.dat (Dp.int _)) q⟩
theorem cl_int1 : Cl w (fun xs H Q => (∃ i, xs = [.int i] ∧ Q (.int i) H) ∨ ∃ k, xs = [.bl k] ∧ Q (.int (if k = true then 1 else 0)) H) (fun xs P => ∃ i, xs = [.dat (.int i)] ∧ P (.dat (.int i))) := by
  rintro o H vs xs P Q b r ⟨i, rfl, q⟩ k
  cases r with
  | cons r t =>
    cases t
    cases r
    exact .inl ⟨i, rfl, k o H _ _ b.refl (VR.dat (Dp.int _)) q⟩
theorem cl_max2 : Cl w (fun xs H Q => ∃ i j, xs = [.int i, .int j] ∧ Q (.int (if j > i then j else i)) H) (fun xs P => ∃ i j, xs = [.dat (.int i), .dat (.int j)] ∧ P (.dat (.int (if j > i then j else i)))) := by
  rintro o H vs xs P Q b r ⟨i, j, rfl, q⟩ k
  cases r with
  | cons r t =>
    cases t with
    | cons r2 t =>
      cases t
      cases r
      cases r2
      exact ⟨i, j, rfl, k o H _ _ b.refl (VR.dat (Dp.int _)) q⟩
theorem cl_strI : Cl w (fun xs H Q => ∃ i, xs = [.int i] ∧ i.natAbs.log2 < 1920 ∧ Q (.str (toString i)) H) (fun xs P => ∃ i : Int, xs = [.dat (.int i)] ∧ i.natAbs.log2 < 1920 ∧ P (.dat (.str (Str.ofString (toString i))))) := by
  rintro o H vs xs P Q b r ⟨i, rfl, hl, q⟩ k
  cases r with
  | cons r t =>
    cases t
    cases r
    exact ⟨i, rfl, hl, k o H _ _ b.refl (VR.dat (Dp.str _)) q⟩
theorem cl_gcd : Cl w rGcd (fun xs P => ∃ a b : Int, xs = [.dat (.int a), .dat (.int b)] ∧ P (.dat (.int ((Nat.gcd a.natAbs b.natAbs : Nat) : Int)))) := by
  rintro o H vs xs P Q b r ⟨i, j, rfl, q⟩ k
  cases r with
  | cons r t =>
    cases t with
    | cons r2 t =>
      cases t
      cases r
      cases r2
      exact ⟨i, j, rfl, k o H _ _ b.refl (VR.dat (Dp.int _)) q⟩
theorem cl_divmod : Cl w (fun xs H Q => ∃ i j, xs = [.int i, .int j] ∧ CDivP i j ∧ ∀ p, H p = none → Q (.ref p) (upd H p (.tup [.int (i / j), .int (i % j)])))
    (fun xs P => ∃ i j : Int, xs = [.dat (.int i), .dat (.int j)] ∧ CDivP i j ∧ P (.dat (.tuple [.int (i / j), .int (i % j)]))) := by
  rintro o H vs xs P Q b r ⟨i, j, rfl, hc, q⟩ k
  cases r with
  | cons r t =>
    cases t with
    | cons r2 t =>
      cases t
      cases r
      cases r2
      refine ⟨i, j, rfl, hc, fun p np => ?_⟩
      exact k o _ _ _ (b.new np) (VR.dat (Dp.tup (.inl (.inl (b.seen np))) (.cons (.int _) (.cons (.int _) .nil)))) q
theorem cl_repr : Cl w (rRepr w.K) (fun xs P => ∃ d, xs = [.dat d] ∧ okInts d = true ∧ d.shown.length ≤ sizeLine ∧ d.depth ≤ 60 ∧ P (.dat (.str d.shown))) := by
  rintro o H vs xs P Q b r ⟨d, rfl, h1, h2, h3, q⟩ k
  cases r with
  | cons r t =>
    cases t
    exact ⟨_, d, rfl, dp_mono hid_le d _ r, h1, h2, h3, k o H _ _ b.refl (VR.dat (Dp.str _)) q⟩

/-! ### methods of texts, slices -/
theorem e_bmS {r : V → List V → Hp → VK → Prop} {R : Str → List Sl → (Sl → Prop) → Prop}
    (hr : ∀ (o : Addr → Prop) (H : Hp) (z : Str) (vs : List V) (xs : List Sl) (P : Sl → Prop) (Q : VK), Bas w o H → VRs w o H vs xs → R z xs P → (∀ o' H' z d, Go w o H o' H' → VR w o' H' z d → P d → Q z H') → r (.str z) vs H Q)
    (h : E w te ρ fun x => ∃ z, x = .dat (.str z) ∧ A w tr ρ fun xs => R z xs P) : E w (tBM w.K "str" r te tr) ρ P := by
  intro o σ H Q ok k
  refine h o σ H _ ok ?_
  rintro o1 H1 v x g1 r1 ⟨z, rfl, q⟩
  cases r1
  refine ⟨rfl, ?_⟩
  refine q o1 σ H1 _ (ok.go g1) ?_
  intro o2 H2 vs xs g2 r2 q2
  exact hr o2 H2 z vs xs P Q (ok.toBas.go (g1.trans g2)) r2 q2 fun o' H' z d g r p => k o' H' z d ((g1.trans g2).trans g) r p
theorem e_zfill (h : E w te ρ fun x => ∃ z, x = .dat (.str z) ∧ A w tr ρ fun xs => ∃ i, xs = [.dat (.int i)] ∧ PadOk i = true ∧ P (.dat (.str (Txt.zfill z i)))) :
    E w (tBM w.K "str" (fun x xs H Q => ∃ (a : Str) (i : Int), x = .str a ∧ xs = [.int i] ∧ PadOk i = true ∧ Q (.str (Txt.zfill a i)) H) te tr) ρ P := by
  refine e_bmS (R := fun z xs P => ∃ i, xs = [.dat (.int i)] ∧ PadOk i = true ∧ P (.dat (.str (Txt.zfill z i)))) ?_ h
  rintro o H z vs xs P Q b r ⟨i, rfl, hp, q⟩ k
  cases r with
  | cons r t =>
    cases t
    cases r
    exact ⟨z, i, rfl, rfl, hp, k o H _ _ b.refl (VR.dat (Dp.str _)) q⟩
theorem e_join {ti : TE} (h : E w te ρ fun x => ∃ a : Str, x = .dat (.str a) ∧ E w ti ρ fun y => ∃ ys : List Str, (y = .dat (.list (ys.map PyData.str)) ∨ y = .dat (.tuple (ys.map PyData.str))) ∧
      (ys.map (·.length)).sum + ys.length * a.length ≤ 16777216 ∧ P (.dat (.str (Txt.join a ys)))) :
    E w (tM1 (fun x xs H Q => ∃ a p, ∃ ys : List Str, x = .str a ∧ xs = [.ref p] ∧ (SqL w.K H p (ys.map V.str) ∨ SqT w.K H p (ys.map V.str)) ∧
      (ys.map (·.length)).sum + ys.length * a.length ≤ 16777216 ∧ Q (.str (Txt.join a ys)) H) te ti) ρ P := by
  intro o σ H Q ok k
  refine h o σ H _ ok ?_
  rintro o1 H1 v x g1 r1 ⟨a, rfl, q⟩
  cases r1
  refine ⟨⟨a, rfl⟩, ?_⟩
  refine q o1 σ H1 _ (ok.go g1) ?_
  rintro o2 H2 u y g2 r2 ⟨ys, hy, hl, q2⟩
  have fin : Q (.str (Txt.join a ys)) H2 := k o2 H2 _ _ (g1.trans g2) (VR.dat (Dp.str _)) q2
  rcases hy with rfl | rfl
  · cases r2 with
    | lst hs ha =>
      have e := DpAll.strs ha
      rw [e] at hs
      exact ⟨a, _, ys, rfl, rfl, .inl (hid_le.seq hs), hl, fin⟩
  · cases r2 with
    | tup hs ha =>
      have e := DpAll.strs ha
      rw [e] at hs
      exact ⟨a, _, ys, rfl, rfl, .inr (sqT_mono hid_le hs), hl, fin⟩
theorem e_revL (h : E w te ρ fun x => ∃ ds, (x = .dat (.list ds) ∨ ∃ p, x = .own p ds) ∧ P (.dat (.list ds.reverse))) : E w (tRevL w.K te) ρ P := by
  intro o σ H Q ok k
  refine h o σ H _ ok ?_
  rintro o1 H1 v x g1 r1 ⟨ds, hx, q⟩
  have b1 := ok.toBas.go g1
  have fin : ∀ vs, DpAll w.K (hid H1 o1) vs ds → ∀ p, H1 p = none → Q (.ref p) (upd H1 p (.lst vs.reverse)) := fun vs ha p np => by
    have g2 := b1.new (u := .lst vs.reverse) np
    exact k o1 _ _ _ (g1.trans g2) (VR.dat (Dp.lst (.inl (.inl (b1.seen np))) (dpAll_mono g2.same _ _ (DpAll.rev ha)))) q
  rcases hx with rfl | ⟨p, rfl⟩
  · cases r1 with
    | lst hs ha => exact ⟨_, _, rfl, hid_le.seq hs, fin _ ha⟩
  · obtain ⟨rfl, hp, n, vs, e1, ha⟩ := r1
    exact ⟨_, vs, rfl, .inl (.inl e1), fin vs ha⟩
/-- an end of a slice -/
def O (w : Wd) (to : TO) (ρ : List Sl) (P : Option Int → Prop) : Prop := ∀ (o : Addr → Prop) (σ : L2.St) (H : Hp) (Q : Option Int → Hp → Prop), Ok w o σ H ρ →
  (∀ o' H' x, Go w o H o' H' → P x → Q x H') → to σ H Q
theorem o_none {P : Option Int → Prop} (q : P none) : O w tNoPart ρ P := fun o σ H Q ok k => k o H none ok.toBas.refl q
theorem o_some {P : Option Int → Prop} (h : E w te ρ fun x => ∃ i, x = .dat (.int i) ∧ P (some i)) : O w (tPart te) ρ P := by
  intro o σ H Q ok k
  refine h o σ H _ ok ?_
  rintro o1 H1 v x g1 r1 ⟨i, rfl, q⟩
  cases r1
  exact ⟨i, rfl, k o1 H1 _ g1 q⟩
theorem e_slS {tl th : TO} (h : E w te ρ fun x => ∃ z, x = .dat (.str z) ∧ z.length ≤ sizeLine ∧ O w tl ρ fun lo => O w th ρ fun hi => P (.dat (.str (cutS z lo hi)))) : E w (tSl rSlS te tl th) ρ P := by
  intro o σ H Q ok k
  refine h o σ H _ ok ?_
  rintro o1 H1 v x g1 r1 ⟨z, rfl, hz, q⟩
  cases r1
  refine q o1 σ H1 _ (ok.go g1) ?_
  intro o2 H2 lo g2 q2
  refine q2 o2 σ H2 _ (ok.go (g1.trans g2)) ?_
  intro o3 H3 hi g3 q3
  exact ⟨z, rfl, hz, k o3 H3 _ _ ((g1.trans g2).trans g3) (VR.dat (Dp.str _)) q3⟩
/-- x, y, z = a, b, c -/
theorem s_par3 {i j l : Nat} (h : A w tr ρ fun xs => ∃ x y z, xs = [x, y, z] ∧ notOwn x ∧ notOwn y ∧ notOwn z ∧ e.nx (((ρ.set i x).set j y).set l z)) : S w (tPar3 i j l tr) ρ e := by
  intro o σ H D ok kn kr kb kc
  refine h o σ H _ ok ?_
  rintro o1 H1 vs xs g1 r1 ⟨x, y, z, rfl, n1, n2, n3, q⟩
  cases r1 with
  | cons ra rt =>
    cases rt with
    | cons rb rt =>
      cases rt with
      | cons rc rt =>
        cases rt
        exact ⟨_, _, _, rfl, kn o1 _ H1 _ ((((ok.go g1).setD i ra n1).setD j rb n2).setD l rc n3) q⟩
end

/-! ### operations of any size -/
section
variable {X : Cx}
def CFd (i j : Int) : Prop := j ≠ 0 ∧ Builtin.divisionGoesByPylong i j = false
theorem op_fdivA : OpR X (binaryOp .FloorDiv) (rI CFd fun i j => .int (i.fdiv j)) := opI fun i j _ _ _ _ _ hc q =>
  floordiv_int hc.1 q (.inl hc.2)
def rMulS : R2 := fun x y H Q => ∃ (z : Str) (n : Int), x = .str z ∧ y = .int n ∧ MulOk z n ∧ Q (.str (Txt.mul z n)) H
theorem op_mulS : OpR X (binaryOp .Mult) rMulS := by
  intro pins s σ H x y v u Q I rx ry h
  obtain ⟨z, n, rfl, rfl, hc, q⟩ := h
  obtain ⟨t, rfl⟩ := rx
  obtain ⟨t', rfl⟩ := ry
  exact PySem.SB.mul hc fun t2 k => ⟨.str _, H, I.tok k, ⟨t2, rfl⟩, q⟩
abbrev rAddG : R2 := orR (rI0 fun i j => .int (i + j)) rAddS2
theorem op_addG : OpR X (binaryOp .Add) rAddG := opr_or op_add op_add_str
def CMulB (i j : Int) : Prop := CMulX i j ∨ CMul i j
theorem op_mulB : OpR X (binaryOp .Mult) (rI CMulB fun i j => .int (i * j)) := opI fun _ _ _ _ _ _ _ hc q =>
  hc.elim (fun h => mul_int q h.ok) fun h => mul_int q h.ok
abbrev rMulG : R2 := orR (rI CMulB fun i j => .int (i * j)) rMulS
theorem op_mulG : OpR X (binaryOp .Mult) rMulG := opr_or op_mulB op_mulS
end
section
variable {w : Wd}
theorem op2_mulS : Op2 w rMulS (fun x y P => ∃ (z : Str) (n : Int), x = .dat (.str z) ∧ y = .dat (.int n) ∧ MulOk z n ∧ P (.dat (.str (Txt.mul z n)))) := by
  rintro o H u v x y P Q b ru rv ⟨i, j, rfl, rfl, c, q⟩ k
  cases ru
  cases rv
  exact ⟨i, j, rfl, rfl, c, k o H _ _ b.refl (VR.dat (Dp.str _)) q⟩
end
end DL

/-! Data that == and repr take: how long its text is at most, how deep it is. -/
namespace DL
open PySem PySem.Spec PyProof.Rows L2
structure Fine (m k : Nat) (d : PyData) : Prop where
  num : okInts d = true
  lay : d.canLay0 = true
  len : d.shown.length ≤ m
  deep : d.depth ≤ k
structure Fines (m k : Nat) (ds : List PyData) : Prop where
  num : okAll ds = true
  lay : PyData.canLayAll0 ds = true
  len : ((PyData.shownAll ds).map fun t => t.length + 2).sum ≤ m
  deep : PyData.depthAll ds ≤ k
theorem text_le : ∀ (ts : List Str) (j : Nat) (acc : Str), (textFrom j acc ts).length ≤ acc.length + (ts.map fun t => t.length + 2).sum
  | [], j, acc => by
    show acc.length ≤ _
    omega
  | t :: r, j, acc => by
    have ih := text_le r (j + 1) (acc ++ (if j > 0 then ", " else "" : String) ++ t)
    show (textFrom (j + 1) (acc ++ (if j > 0 then ", " else "" : String) ++ t) r).length ≤ _
    rw [List.map_cons, List.sum_cons]
    have e : (acc ++ (if j > 0 then ", " else "" : String) ++ t : Str).length ≤ acc.length + 2 + t.length := by
      rw [strLen_append, strLen_append]
      have : ((if j > 0 then ", " else "" : String) : Str).length ≤ 2 := by
        split <;> decide +kernel
      omega
    omega
theorem list_le (ts : List Str) : (listText ts).length ≤ 2 + (ts.map fun t => t.length + 2).sum := by
  unfold listText
  rw [strLen_append]
  have h := text_le ts 0 "["
  have e1 : ("[" : Str).length = 1 := by decide +kernel
  have e2 : ("]" : Str).length = 1 := by decide +kernel
  omega
theorem join_le : ∀ ts : List Str, (Str.join ", " ts).length ≤ (ts.map fun t => t.length + 2).sum
  | [] => by
    show (Str.empty).length ≤ _
    exact Nat.zero_le _
  | [t] => by
    show t.length ≤ t.length + 2 + 0
    omega
  | t :: u :: r => by
    have ih := join_le (u :: r)
    show (t ++ ", " ++ Str.join ", " (u :: r) : Str).length ≤ _
    rw [strLen_append, strLen_append, List.map_cons, List.sum_cons]
    have e1 : (", " : Str).length = 2 := by decide +kernel
    omega
theorem tuple_le (ts : List Str) : (tupleText ts).length ≤ 3 + (ts.map fun t => t.length + 2).sum := by
  unfold tupleText
  rw [strLen_append, strLen_append]
  have h := join_le ts
  have e1 : ("(" : Str).length = 1 := by decide +kernel
  have e2 : ((if ts.length == 1 then ",)" else ")" : String) : Str).length ≤ 2 := by
    split <;> decide +kernel
  omega
theorem fine_int {i : Int} (h : i.natAbs < 2 ^ 12900) : Fine 4302 0 (.int i) := by
  have lt : i.natAbs < 10 ^ 4300 := Nat.lt_of_lt_of_le h (by
    have e : 2 ^ 12900 = (2 ^ 3) ^ 4300 := by rw [← Nat.pow_mul]
    rw [e]
    exact Nat.pow_le_pow_left (by decide) 4300)
  refine ⟨by simp [okInts, lt], rfl, ?_, Nat.le_refl _⟩
  show (Str.ofString (toString i)).length ≤ _
  rw [PySem.ofString_length]
  have := int_text_length_le10 (k := 4300) (by decide) lt
  omega
theorem fine_bool (b : Bool) : Fine 5 0 (.bool b) := by
  cases b <;> exact ⟨rfl, rfl, by decide +kernel, Nat.le_refl _⟩
theorem fine_none : Fine 4 0 .none := ⟨rfl, rfl, by decide +kernel, Nat.le_refl _⟩
theorem fine_nil : Fines 0 0 [] := ⟨rfl, rfl, Nat.le_refl _, Nat.le_refl _⟩
theorem fine_cons {m n k l : Nat} {d : PyData} {ds : List PyData} (h : Fine m k d) (t : Fines n l ds) : Fines (m + 2 + n) (max k l) (d :: ds) := by
  refine ⟨by simp [okAll, h.num, t.num], by simp [PyData.canLayAll0, h.lay, t.lay], ?_, ?_⟩
  · simp only [PyData.shownAll, List.map_cons, List.sum_cons]
    have := h.len
    have := t.len
    omega
  · simp only [PyData.depthAll]
    have := h.deep
    have := t.deep
    omega
theorem fine_list {m k : Nat} {ds : List PyData} (t : Fines m k ds) : Fine (m + 2) (k + 1) (.list ds) := by
  refine ⟨by simp [okInts, t.num], by simp [PyData.canLay0, t.lay], ?_, ?_⟩
  · simp only [PyData.shown]
    have := list_le (PyData.shownAll ds)
    have := t.len
    omega
  · simp only [PyData.depth]
    have := t.deep
    omega
theorem fine_tuple {m k : Nat} {ds : List PyData} (t : Fines m k ds) : Fine (m + 3) (k + 1) (.tuple ds) := by
  refine ⟨by simp [okInts, t.num], by simp [PyData.canLay0, t.lay], ?_, ?_⟩
  · simp only [PyData.shown]
    have := tuple_le (PyData.shownAll ds)
    have := t.len
    omega
  · simp only [PyData.depth]
    have := t.deep
    omega
theorem fine_str {z : Str} {n : Nat} (h : ∀ c ∈ z.cps.toList, c < 256) (hn : z.length ≤ n) : Fine (10 * n + 2) 0 (.str z) := by
  have ho : z.cps.all (· < 0x110000) = true := by
    rw [Array.all_eq_true']
    intro c hc
    have := h c (Array.mem_toList_iff.mpr hc)
    exact decide_eq_true (by omega)
  refine ⟨rfl, ho, ?_, Nat.le_refl _⟩
  show (reprText z).length ≤ _
  have := StrLaws.reprText_len z fun c hc => Nat.lt_trans (h c hc) (by decide)
  omega
theorem Fine.mono {m k m' k' : Nat} {d : PyData} (h : Fine m k d) (hm : m ≤ m') (hk : k ≤ k') : Fine m' k' d := ⟨h.num, h.lay, Nat.le_trans h.len hm, Nat.le_trans h.deep hk⟩
/-- what alike asks of the data that it is given twice -/
theorem Fine.shaped {m k : Nat} {d : PyData} (h : Fine m k d) (hk : k ≤ 60) : SeqAt.shaped d = true := by
  unfold SeqAt.shaped
  rw [h.lay, decide_eq_true (show d.depth ≤ 64 by have := h.deep; omega)]
  rfl
end DL

/-! The bag, lists put together and cut, comprehensions, loops over lists. -/
namespace DL
open PySem PySem.Spec PyProof.Rows L2

section
variable {X : Cx}
/-- an item of a list from its start on, read ahead of its change -/
def gL (K : PySem.W.Frag) : V → V → Hp → VK → Prop := fun o i H Q => ∃ p xs k v, o = .ref p ∧ i = .int k ∧ SqL K H p xs ∧ 0 ≤ k ∧ k < 2 ^ 63 ∧ xs[k.toNat]? = some v ∧ Q v H
theorem get_list : PGet X (gL X.K) := by
  intro pins s σ H o i ov iv Q I ro ri h
  obtain ⟨p, xs, k, v, rfl, rfl, hx, h0, h1, hv, q⟩ := h
  cases ro
  obtain ⟨t, rfl⟩ := ri
  obtain ⟨its, r, pl, hz⟩ := I.list hx
  obtain ⟨u, hu, ru⟩ := r.get hv
  exact wpAny_getItem_list pl.isList h0 h1 (by simpa using hu) ⟨v, H, I, ru, q⟩
/-- list + list -/
def rCatL (K : PySem.W.Frag) : R2 := fun x y H Q => ∃ a b xs ys, x = .ref a ∧ y = .ref b ∧ SqL K H a xs ∧ SqL K H b ys ∧ xs.length + ys.length ≤ sizeLine ∧ ∀ p, H p = none → Q (.ref p) (upd H p (.lst (xs ++ ys)))
theorem op_catL : OpR X (binaryOp .Add) (rCatL X.K) := by
  intro pins s σ H x y v u Q I rx ry h
  obtain ⟨a, b, xs, ys, rfl, rfl, ha, hb, hz, q⟩ := h
  cases rx
  cases ry
  obtain ⟨i1, r1, p1, z1⟩ := I.list ha
  obtain ⟨i2, r2, p2, z2⟩ := I.list hb
  obtain ⟨⟨c1, d1, da1, sl1⟩, e1, hc1, n1, hd1⟩ := p1.isList
  obtain ⟨⟨c2, d2, da2, sl2⟩, e2, hc2, n2, hd2⟩ := p2.isList
  simp only at hc1 hd1 hc2 hd2
  subst hc1 hd1 hc2 hd2
  have ea : i1.toArray ++ i2.toArray = (i1 ++ i2).toArray := by simp
  have l1 := r1.length
  have l2 := r2.length
  refine concat_meets ⟨_, e1, rfl⟩ ⟨_, e2, rfl⟩ noFill_list_add seq_list_add PySem.F.slot_list_add PySem.F.entry_list_add (PySem.F.args_list_add_2 _ _)
    (list_addW a b i1.toArray i2.toArray n1 n2 d1 d2 sl1 sl2 (by rw [List.size_toArray, List.size_toArray]; omega)) ⟨e1, e2, ?_⟩
  rw [ea]
  exact ⟨.ref _, _, I.lnew (t' := s.toks) (r1.append r2) (by rw [List.length_append]; omega), rfl, q _ I.fresh⟩
/-- texts are equal, or data are -/
def rEqSt : R2 := fun x y H Q => ∃ i j : Str, x = .str i ∧ y = .str j ∧ Q (.bl (decide (i = j))) H
theorem op_eqSt : OpR X (compareOp .Eq) rEqSt := by
  intro pins s σ H x y u v Q I rx ry h
  obtain ⟨i, j, rfl, rfl, q⟩ := h
  refine op_eq pins s σ H _ _ u v Q I rx ry ⟨rfl, ?_⟩
  have e : decide (V.str i = V.str j) = decide (i = j) := by
    by_cases h : i = j
    · rw [h]
      simp
    · rw [decide_eq_false h, decide_eq_false fun z => h (by injection z)]
  rw [e]
  exact q
theorem op_eqG (hu : X.A.units + 64 < cLine) : OpR X (compareOp .Eq) (orR rEqSt (rEqD X.K)) := opr_or op_eqSt (op_eqD hu)
end

section
variable {w : Wd} {ρ : List Sl} {P : Sl → Prop} {te ta tb tc tl : TE} {tt tu : TT} {tr : TA} {ts t1 t2 : TS} {e : En} {d : PyData}
theorem op2_eqSt : Op2 w rEqSt (fun x y P => ∃ i j : Str, x = .dat (.str i) ∧ y = .dat (.str j) ∧ P (.dat (.bool (decide (i = j))))) := by
  rintro o H u v x y P Q b ru rv ⟨i, j, rfl, rfl, q⟩ k
  cases ru
  cases rv
  exact ⟨i, j, rfl, rfl, k o H _ _ b.refl (VR.dat (Dp.bl _)) q⟩
/-- the items of a list that is data, or the def's own -/
def lstD : Sl → Option (List PyData)
  | .dat (.list ds) => some ds
  | .own _ ds => some ds
  | _ => none
theorem VR.lst {o : Addr → Prop} {H : Hp} {v : V} {x : Sl} {ds : List PyData} (r : VR w o H v x) (h : lstD x = some ds) : ∃ a vs, v = .ref a ∧ SqL w.K H a vs ∧ DpAll w.K (hid H o) vs ds := by
  cases x with
  | no => cases h
  | bag => cases h
  | own p xs =>
    cases h
    obtain ⟨rfl, hp, n, vs, e1, ha⟩ := r
    exact ⟨p, vs, rfl, .inl (.inl e1), ha⟩
  | dat c =>
    cases c with
    | list xs =>
      cases h
      cases r with
      | lst hs ha => exact ⟨_, _, rfl, hid_le.seq hs, ha⟩
    | none => cases h
    | bool _ => cases h
    | int _ => cases h
    | str _ => cases h
    | tuple _ => cases h
    | dict _ => cases h
theorem VR.lstGo {o : Addr → Prop} {H : Hp} {v : V} {x : Sl} {ds : List PyData} (b : Bas w o H) (r : VR w o H v x) (h : lstD x = some ds) :
    ∃ a vs, v = .ref a ∧ DpAll w.K (hid H o) vs ds ∧ ∀ o1 H1, Go w o H o1 H1 → SqL w.K H1 a vs ∧ DpAll w.K (hid H1 o1) vs ds := by
  cases x with
  | no => cases h
  | bag => cases h
  | own p xs =>
    cases h
    obtain ⟨rfl, hp, n, vs, e1, ha⟩ := r
    exact ⟨p, vs, rfl, ha, fun o1 H1 g => ⟨.inl (.inl ((g.keep p hp (b.nb n)).trans e1)), dpAll_mono g.same _ _ ha⟩⟩
  | dat c =>
    cases c with
    | list xs =>
      cases h
      cases r with
      | lst hs ha => exact ⟨_, _, rfl, ha, fun o1 H1 g => ⟨hid_le.seq (g.same.seq hs), dpAll_mono g.same _ _ ha⟩⟩
    | none => cases h
    | bool _ => cases h
    | int _ => cases h
    | str _ => cases h
    | tuple _ => cases h
    | dict _ => cases h
theorem op2_catL : Op2 w (rCatL w.K) (fun x y P => ∃ ds es, lstD x = some ds ∧ lstD y = some es ∧ ds.length + es.length ≤ sizeLine ∧ P (.dat (.list (ds ++ es)))) := by
  rintro o H u v x y P Q b ru rv ⟨ds, es, hx, hy, hz, q⟩ k
  obtain ⟨a, xs, rfl, s1, d1⟩ := ru.lst hx
  obtain ⟨a2, ys, rfl, s2, d2⟩ := rv.lst hy
  refine ⟨a, a2, xs, ys, rfl, rfl, s1, s2, by rw [DpAll.len d1, DpAll.len d2]; exact hz, fun p np => ?_⟩
  have g := b.new (u := .lst (xs ++ ys)) np
  exact k o _ _ _ g (VR.dat (Dp.lst (.inl (.inl (b.seen np))) (dpAll_mono g.same _ _ (DpAll.app d1 d2)))) q
def cutD (ds : List PyData) (lo hi : Option Int) : List PyData := (ds.drop (HT.sIx ds.length 0 lo)).take (HT.sIx ds.length ds.length hi - HT.sIx ds.length 0 lo)
theorem DpAll.cut {K : PySem.W.Frag} {H : Hp} {vs : List V} {ds : List PyData} (h : DpAll K H vs ds) (lo hi : Option Int) : DpAll K H (cutV vs lo hi) (cutD ds lo hi) := by
  unfold cutV cutD
  rw [DpAll.len h]
  exact DpAll.take _ (DpAll.drop _ h)
theorem e_slL {tlo thi : TO} (h : E w te ρ fun x => ∃ ds, lstD x = some ds ∧ O w tlo ρ fun lo => O w thi ρ fun hi => P (.dat (.list (cutD ds lo hi)))) : E w (tSl (rSlL w.K) te tlo thi) ρ P := by
  intro o σ H Q ok k
  refine h o σ H _ ok ?_
  rintro o1 H1 v x g1 r1 ⟨ds, hx, q⟩
  refine q o1 σ H1 _ (ok.go g1) ?_
  intro o2 H2 lo g2 q2
  refine q2 o2 σ H2 _ (ok.go (g1.trans g2)) ?_
  intro o3 H3 hi g3 q3
  have b3 := ok.toBas.go ((g1.trans g2).trans g3)
  obtain ⟨a, xs, rfl, s1, d1⟩ := (r1.go (ok.toBas.go g1) (g2.trans g3)).lst hx
  refine ⟨a, xs, rfl, s1, fun p np => ?_⟩
  have g := b3.new (u := .lst (cutV xs lo hi)) np
  exact k o3 _ _ _ (((g1.trans g2).trans g3).trans g) (VR.dat (Dp.lst (.inl (.inl (b3.seen np))) (dpAll_mono g.same _ _ (DpAll.cut d1 lo hi)))) q3

/-! ### the bag -/
theorem e_bagI {i : Nat} {c : Int} (h : ρ[i]? = some .bag) (hc : c = 0 ∨ c = 1 ∨ c = 2) (q : ∀ n : Int, P (.dat (.int n))) : E w (tOp (rIx w.K) (tVar i) (tC (.int c))) ρ P := by
  intro o σ H Q ok k
  rcases ok.slot i _ h with z | ⟨v, hv, b, hb, rfl⟩
  · cases z
  · obtain ⟨_, _, n0, n1, n2, l, ns, e1, e2, e3⟩ := ok.bag b hb
    refine ⟨_, hv, ?_⟩
    rcases hc with rfl | rfl | rfl
    · exact .inl ⟨b, _, 0, .int n0, rfl, rfl, .inl (.inl e1), rfl, k o H _ _ ok.toBas.refl (VR.dat (Dp.int _)) (q _)⟩
    · exact .inl ⟨b, _, 1, .int n1, rfl, rfl, .inl (.inl e1), rfl, k o H _ _ ok.toBas.refl (VR.dat (Dp.int _)) (q _)⟩
    · exact .inl ⟨b, _, 2, .int n2, rfl, rfl, .inl (.inl e1), rfl, k o H _ _ ok.toBas.refl (VR.dat (Dp.int _)) (q _)⟩
theorem e_bagL {i : Nat} (h : ρ[i]? = some .bag) (q : ∀ ns : List Int, ns.length ≤ 63 → P (.dat (.list (ns.map .int)))) : E w (tOp (rIx w.K) (tVar i) (tC (.int 3))) ρ P := by
  intro o σ H Q ok k
  rcases ok.slot i _ h with z | ⟨v, hv, b, hb, rfl⟩
  · cases z
  · obtain ⟨_, _, n0, n1, n2, l, ns, e1, e2, e3⟩ := ok.bag b hb
    exact ⟨_, hv, .inl ⟨b, _, 3, .ref l, rfl, rfl, .inl (.inl e1), rfl, k o H _ _ ok.toBas.refl (VR.dat (Dp.lst e2 (DpAll.ofInts ns))) (q _ e3)⟩⟩
theorem Ok.bagPut {o : Addr → Prop} {σ : L2.St} {H : Hp} {b : Addr} {c : Int} (ok : Ok w o σ H ρ) (hb : w.bg = some b) (hc : c = 0 ∨ c = 1 ∨ c = 2) (n : Int) :
    ∃ xs, H b = some (.lst xs) ∧ xs.length = 4 ∧ (∃ m, xs[c.toNat]? = some (.int m)) ∧ Go w o H o (upd H b (.lst (xs.set c.toNat (.int n)))) := by
  obtain ⟨_, ho, n0, n1, n2, l, ns, e1, e2, e3⟩ := ok.bag b hb
  have eq : ∀ u, hid (upd H b u) o = hid H o := by
    intro u
    funext a
    unfold hid
    split
    · rfl
    · rename_i na
      exact upd_ne fun z => na (z ▸ ho)
  have go : ∀ x0 x1 x2 : Int, Go w o H o (upd H b (.lst [.int x0, .int x1, .int x2, .ref l])) := by
    intro x0 x1 x2
    refine ⟨by rw [eq]; exact Same.refl _, fun _ h => h, fun a h nb => upd_ne fun z => nb (z ▸ hb), fun b2 hb2 => ?_, fun a h => ?_⟩
    · rw [hb] at hb2
      cases hb2
      exact ⟨ho, x0, x1, x2, l, ns, upd_same, by rw [eq]; exact e2, e3⟩
    · by_cases z : a = b
      · rw [z, upd_same]
        exact fun z => nomatch z
      · rw [upd_ne z]
        exact ok.here a h
  refine ⟨_, e1, rfl, ?_⟩
  rcases hc with rfl | rfl | rfl
  · exact ⟨⟨n0, rfl⟩, go n n1 n2⟩
  · exact ⟨⟨n1, rfl⟩, go n0 n n2⟩
  · exact ⟨⟨n2, rfl⟩, go n0 n1 n⟩
theorem s_bagSet {i : Nat} {c : Int} (h : ρ[i]? = some .bag) (hc : c = 0 ∨ c = 1 ∨ c = 2) (he : E w te ρ fun x => ∃ n, x = .dat (.int n) ∧ e.nx ρ) : S w (tAsg te (gSub (tVar i) (tC (.int c)) rSetL)) ρ e := by
  intro o σ H D ok kn kr kb kc
  refine he o σ H _ ok ?_
  rintro o1 H1 v x g1 r1 ⟨n, rfl, q⟩
  have ok1 := ok.go g1
  rcases ok1.slot i _ h with z | ⟨v2, hv, b, hb, rfl⟩
  · cases z
  · obtain ⟨xs, e1, el, em, g⟩ := ok1.bagPut hb hc n
    cases r1
    refine ⟨_, hv, b, xs, c, c.toNat, rfl, rfl, e1, ?_, kn o1 σ _ ρ (ok1.go g) q⟩
    rw [el]
    rcases hc with rfl | rfl | rfl <;> rfl
theorem s_bagAug {i : Nat} {c : Int} {f : Int → Int → Int} (h : ρ[i]? = some .bag) (hc : c = 0 ∨ c = 1 ∨ c = 2) (he : E w te ρ fun x => ∃ n, x = .dat (.int n) ∧ e.nx ρ) :
    S w (tAugS (tVar i) (tC (.int c)) te (gL w.K) (ipI f) rSetL) ρ e := by
  intro o σ H D ok kn kr kb kc
  rcases ok.slot i _ h with z | ⟨v2, hv, b, hb, rfl⟩
  · cases z
  · obtain ⟨xs, e1, el, ⟨m, em⟩, _⟩ := ok.bagPut hb hc 0
    refine ⟨_, hv, b, xs, c, .int m, rfl, rfl, .inl (.inl e1), by omega, by omega, em, ?_⟩
    refine he o σ H _ ok ?_
    rintro o1 H1 v x g1 r1 ⟨n, rfl, q⟩
    have ok1 := ok.go g1
    obtain ⟨xs1, e2, el2, em2, g⟩ := ok1.bagPut hb hc (f m n)
    cases r1
    refine ⟨m, n, rfl, rfl, b, xs1, c, c.toNat, rfl, rfl, e2, ?_, kn o1 σ _ ρ (ok1.go g) q⟩
    rw [el2]
    rcases hc with rfl | rfl | rfl <;> rfl

theorem cut_ints (ns : List Int) (lo hi : Option Int) : ∃ ms : List Int, cutD (ns.map PyData.int) lo hi = ms.map PyData.int ∧ ms.length ≤ ns.length := by
  refine ⟨(ns.drop (HT.sIx ns.length 0 lo)).take (HT.sIx ns.length ns.length hi - HT.sIx ns.length 0 lo), ?_, ?_⟩
  · unfold cutD
    rw [List.length_map, List.map_take, List.map_drop]
  · rw [List.length_take, List.length_drop]
    omega
theorem cut_nil (ns : List Int) (lo hi : Option Int) : (cutD (ns.map PyData.int) lo hi).length ≤ ns.length := by
  obtain ⟨ms, e, h⟩ := cut_ints ns lo hi
  rw [e, List.length_map]
  exact h
theorem cut_first (ns : List Int) (lo hi : Option Int) (z : Int) : ∃ c : Int, atI (cutD (ns.map PyData.int) lo hi ++ [PyData.int z]) 0 = some (.int c) := by
  obtain ⟨ms, e, h⟩ := cut_ints ns lo hi
  rw [e]
  cases ms with
  | nil => exact ⟨z, rfl⟩
  | cons m ms =>
    refine ⟨m, ?_⟩
    unfold atI ixN
    rw [if_pos (by decide), if_pos (by simp; omega)]
    rfl
/-! ### comprehensions -/
/-- the list that is being made -/
theorem lc_put {o : Addr → Prop} {σ : L2.St} {H : Hp} {D : Addr} {vs : List V} (ok : Ok w o σ H ρ) (hD : o D) (h0 : ¬ w.own0 D) (no : ∀ (j : Nat) (q : Addr) (zs : List PyData), ρ[j]? = some (.own q zs) → q ≠ D) :
    Ok w o σ (upd H D (.lst vs)) ρ ∧ hid (upd H D (.lst vs)) o = hid H o := by
  have eq : hid (upd H D (.lst vs)) o = hid H o := by
    funext a
    unfold hid
    split
    · rfl
    · rename_i na
      exact upd_ne fun z => na (z ▸ hD)
  have off : ∀ a, w.own0 a → a ≠ D := fun a h z => h0 (z ▸ h)
  refine ⟨⟨⟨by rw [eq]; exact ok.grow, ok.sub, fun a h nb => (upd_ne (off a h)).trans (ok.keep a h nb), fun b hb => ?_, fun a h => ?_⟩, ok.len, fun j y ej => ?_, ok.apart⟩, eq⟩
  · obtain ⟨b1, b2⟩ := ok.bag b hb
    exact ⟨b1, b2.go (by rw [eq]; exact Same.refl _) (upd_ne (off b b1)) b2.1⟩
  · by_cases z : a = D
    · rw [z, upd_same]
      exact fun z => nomatch z
    · rw [upd_ne z]
      exact ok.here a h
  · refine (ok.slot j y ej).imp id fun ⟨u, hu, r⟩ => ⟨u, hu, ?_⟩
    cases y with
    | no => trivial
    | bag => exact r
    | dat d =>
      show Dp w.K (hid (upd H D (.lst vs)) o) u d
      rw [eq]
      exact r
    | own q zs =>
      obtain ⟨e2, hq, nq, us2, e3, ha3⟩ := r
      refine ⟨e2, hq, nq, us2, (upd_ne (no j q zs ej)).trans e3, ?_⟩
      rw [eq]
      exact ha3
theorem Ok.wipe1 {o : Addr → Prop} {σ : L2.St} {H : Hp} (ok : Ok w o σ H ρ) (j : Nat) : Ok w o (σ.set j none) H (ρ.set j .no) := by
  refine ⟨ok.toBas, by rw [List.length_set, List.length_set]; exact ok.len, fun i x ei => ?_, fun i k p q xs ys ne e1 e2 => ?_⟩
  · by_cases hi : j = i
    · subst hi
      have hl : j < (ρ.set j .no).length := (List.getElem?_eq_some_iff.mp ei).1
      rw [List.length_set] at hl
      rw [List.getElem?_set_self hl] at ei
      cases ei
      exact .inl rfl
    · rw [List.getElem?_set_ne hi] at ei ⊢
      exact ok.slot i x ei
  · have back : ∀ (m : Nat) (q : Addr) (zs : List PyData), (ρ.set j Sl.no)[m]? = some (.own q zs) → ρ[m]? = some (.own q zs) := by
      intro m q zs f
      by_cases hm : j = m
      · subst hm
        have hl : j < (ρ.set j .no).length := (List.getElem?_eq_some_iff.mp f).1
        rw [List.length_set] at hl
        rw [List.getElem?_set_self hl] at f
        cases f
      · rw [List.getElem?_set_ne hm] at f
        exact f
    exact ok.apart i k p q xs ys ne (back i p xs e1) (back k q ys e2)
/-- what a turn of a comprehension must do -/
def Lc (w : Wd) (tt : TT) (te : TE) (ρ1 : List Sl) (I : Nat → List PyData → Prop) (i : Nat) (acc : List PyData) : Prop :=
  T w tt ρ1 fun b => if b = true then E w te ρ1 fun y => ∃ z, y = .dat z ∧ I (i + 1) (acc ++ [z]) else I (i + 1) acc
/-- what stands while the list at D is made -/
def LcS (w : Wd) (ρ : List Sl) (j : Nat) (σ : L2.St) (o : Addr → Prop) (H : Hp) (D : Addr) (I : Nat → List PyData → Prop) (i : Nat) (H1 : Hp) : Prop :=
  ∃ o1 acc vs, Ok w o1 (σ.set j none) H1 (ρ.set j .no) ∧ Go w o H o1 H1 ∧ o1 D ∧ H1 D = some (.lst vs) ∧ DpAll w.K (hid H1 o1) vs acc ∧ acc.length ≤ i ∧ I i acc
section
variable {j : Nat} {o : Addr → Prop} {σ : L2.St} {H : Hp} {D : Addr} {I : Nat → List PyData → Prop}
theorem lc_turn {i : Nat} {H1 : Hp} {d : PyData} {v : V} (hD : H D = none) (h00 : ¬ w.own0 D) (hn : ∀ (m : Nat) (q : Addr) (zs : List PyData), ρ[m]? = some (.own q zs) → q ≠ D) (hi : i < sizeLine) (st : LcS w ρ j σ o H D I i H1)
    (hv : ∀ o1 H1, Go w o H o1 H1 → Dp w.K (hid H1 o1) v d) (ht : ∀ acc, I i acc → Lc w tt te ((ρ.set j .no).set j (.dat d)) I i acc) :
    wipe ((wipe σ [j]).set j (some v)) [j] = wipe σ [j] ∧ tt ((wipe σ [j]).set j (some v)) H1 fun b H3 => if b = true then te ((wipe σ [j]).set j (some v)) H3 fun y H4 => ∃ acc, H4 D = some (.lst acc) ∧ acc.length < sizeLine ∧ LcS w ρ j σ o H D I (i + 1) (upd H4 D (.lst (acc ++ [y]))) else LcS w ρ j σ o H D I (i + 1) H3 := by
  obtain ⟨o1, acc, vs, ok1, g1, oD, e1, ha, hl, hI⟩ := st
  have hnb : w.bg ≠ some D := ok1.toBas.nb h00
  have okv := ok1.setD j (x := .dat d) (v := v) (hv o1 H1 g1) trivial
  have back : ∀ (o2 : Addr → Prop) (H2 : Hp) (ρ2 : List Sl) , Ok w o2 ((σ.set j none).set j (some v)) H2 ((ρ.set j .no).set j (.dat d)) → Ok w o2 (σ.set j none) H2 (ρ.set j .no) := by
    intro o2 H2 _ k2
    have k3 := k2.wipe1 j
    rw [List.set_set, List.set_set, List.set_set, List.set_set] at k3
    exact k3
  refine ⟨?_, ?_⟩
  · show ((σ.set j none).set j (some v)).set j none = σ.set j none
    rw [List.set_set, List.set_set]
  · refine ht acc hI o1 ((σ.set j none).set j (some v)) H1 _ okv ?_
    intro o2 H2 b g2 q2
    have keepD : H2 D = some (.lst vs) := (g2.keep D oD hnb).trans e1
    cases b with
    | false => exact ⟨o2, acc, vs, back o2 H2 ρ (okv.go g2), g1.trans g2, g2.sub D oD, keepD, dpAll_mono g2.same _ _ ha, by omega, q2⟩
    | true =>
      refine q2 o2 ((σ.set j none).set j (some v)) H2 _ (okv.go g2) ?_
      rintro o3 H3 y x g3 r3 ⟨z, rfl, q3⟩
      have keepD3 : H3 D = some (.lst vs) := (g3.keep D (g2.sub D oD) hnb).trans keepD
      have ok3 := back o3 H3 ρ ((okv.go g2).go g3)
      have oD3 := g3.sub D (g2.sub D oD)
      have no3 : ∀ (m : Nat) (q : Addr) (zs : List PyData), (ρ.set j Sl.no)[m]? = some (.own q zs) → q ≠ D := by
        intro m q zs f
        by_cases hm : j = m
        · subst hm
          have hl2 : j < (ρ.set j .no).length := (List.getElem?_eq_some_iff.mp f).1
          rw [List.length_set] at hl2
          rw [List.getElem?_set_self hl2] at f
          cases f
        · rw [List.getElem?_set_ne hm] at f
          exact hn m q zs f
      obtain ⟨ok4, eq4⟩ := lc_put (vs := vs ++ [y]) ok3 oD3 h00 no3
      have ha3 := dpAll_mono (g2.trans g3).same _ _ ha
      refine ⟨vs, keepD3, by rw [DpAll.len ha]; omega, o3, acc ++ [z], vs ++ [y], ok4, ?_, oD3, upd_same, by rw [eq4]; exact DpAll.app ha3 (.cons r3 .nil), by rw [List.length_append, List.length_singleton]; omega, q3⟩
      have g := (g1.trans g2).trans g3
      refine ⟨by rw [eq4]; exact g.same, g.sub, fun a h nb => (upd_ne fun z => ?_).trans (g.keep a h nb), fun b hb => (ok4.bag b hb).2, ok4.here⟩
      subst z
      exact ok1.here _ (g1.sub _ h) (by
        have : H1 a = H a := g1.keep a h nb
        rw [this]
        exact hD)
theorem lc_start {H1 : Hp} (ok : Ok w o σ H ρ) (hD : H D = none) (hI : I 0 []) : LcS w ρ j σ o H D I 0 (upd H D (.lst [])) := by
  have g := ok.toBas.newOwn (u := .lst []) hD
  exact ⟨_, [], [], (ok.wipe1 j).go g, g, .inr rfl, upd_same, .nil, Nat.le_refl _, hI⟩
theorem lc_end {n : Nat} {H1 : Hp} {Q : VK} (ok : Ok w o σ H ρ) (hD : H D = none) (st : LcS w ρ j σ o H D I n H1) (hp : ∀ acc, I n acc → acc.length ≤ n → P (.dat (.list acc)))
    (k : ∀ o' H' v x, Go w o H o' H' → VR w o' H' v x → P x → Q v H') : Q (.ref D) H1 := by
  obtain ⟨o1, acc, vs, ok1, g1, oD, e1, ha, hl, hI⟩ := st
  have less : ∀ a, (o1 a ∧ a ≠ D) → o1 a := fun a h => h.1
  have off : ∀ a, o a → a ≠ D := fun a h z => ok.here a h (z ▸ hD)
  refine k (fun a => o1 a ∧ a ≠ D) H1 _ (.dat (.list acc)) ⟨g1.same.trans (hid_less less), fun a h => ⟨g1.sub a h, off a h⟩, g1.keep, fun b hb => ?_, fun a h => g1.here a h.1⟩ (VR.dat (Dp.lst (.inl (.inl ?_)) (dpAll_mono (hid_less less) _ _ ha))) (hp acc hI hl)
  · have b2 := g1.bag b hb
    exact b2.go (hid_less less) rfl ⟨b2.1, fun z => off b (ok.bag b hb).2.1 z⟩
  · rw [hid_of fun z => z.2 rfl]
    exact e1
end
/-- [e for x in xs if ..], xs a list -/
theorem e_lcL {j : Nat} (h : E w tl ρ fun x => ∃ ds, lstD x = some ds ∧ ds.length ≤ sizeLine ∧ ∃ I : Nat → List PyData → Prop, I 0 [] ∧
      (∀ i d acc, ds[i]? = some d → I i acc → Lc w tt te ((ρ.set j .no).set j (.dat d)) I i acc) ∧ ∀ acc, I ds.length acc → acc.length ≤ ds.length → P (.dat (.list acc))) : E w (tLc (iList w.K tl) (gName j) tt te [j]) ρ P := by
  intro o σ H Q ok k
  refine h o σ H _ ok ?_
  rintro o1 H1 v x g1 r1 ⟨ds, hx, hz, I, h0, hs, hp⟩
  have ok1 := ok.go g1
  obtain ⟨a, xs, rfl, d1, src⟩ := r1.lstGo ok1.toBas hx
  refine ⟨a, rfl, ⟨xs, (src o1 H1 ok1.toBas.refl).1⟩, fun D hD => ?_⟩
  have h00 : ¬ w.own0 D := fun z => ok1.here D (ok1.sub D z) hD
  have hn : ∀ (m : Nat) (q : Addr) (zs : List PyData), ρ[m]? = some (.own q zs) → q ≠ D := by
    intro m q zs f z
    subst z
    rcases ok1.slot m _ f with z | ⟨u, _, _, hq, _⟩
    · cases z
    · exact ok1.here _ hq hD
  refine lc_list (xs := xs) (fun i H2 => LcS w ρ j σ o1 H1 D I i H2) (lc_start (H1 := H1) ok1 hD h0) (fun i H2 _ st => ?_) (fun i y H2 hy st => ?_) (fun H2 st => ?_)
  · obtain ⟨o2, _, _, _, g2, _⟩ := st
    exact (src o2 H2 g2).1
  · obtain ⟨d, hd, _⟩ := DpAll.gets d1 hy
    have hi : i < xs.length := (List.getElem?_eq_some_iff.mp hy).1
    exact lc_turn hD h00 hn (by rw [DpAll.len d1] at hi; omega) st (fun o2 H2 g2 => by
      obtain ⟨d2, hd2, rd2⟩ := DpAll.gets (src o2 H2 g2).2 hy
      rw [hd] at hd2
      cases hd2
      exact rd2) fun acc hI => hs i d acc hd hI
  · rw [DpAll.len d1] at st
    exact lc_end ok1 hD st hp fun o' H' v x g r p => k o' H' v x (g1.trans g) r p
/-- [e for x in range(n) if ..] -/
theorem e_lcR {j : Nat} (h : A w tr ρ fun xs => ∃ n : Int, xs = [.dat (.int n)] ∧ -(2 ^ 62) ≤ n ∧ n ≤ 1000000 ∧ ∃ I : Nat → List PyData → Prop, I 0 [] ∧
      (∀ (i : Nat) acc, (i : Int) < n → I i acc → Lc w tt te ((ρ.set j .no).set j (.dat (.int (i : Int)))) I i acc) ∧ ∀ acc, I n.toNat acc → acc.length ≤ n.toNat → P (.dat (.list acc))) : E w (tLc (iRng1 tr) (gName j) tt te [j]) ρ P := by
  intro o σ H Q ok k
  refine h o σ H _ ok ?_
  rintro o1 H1 vs xs g1 r1 ⟨n, rfl, hn1, hn2, I, h0, hs, hp⟩
  cases r1 with
  | cons ra rt =>
    cases rt
    cases ra
    have ok1 := ok.go g1
    refine ⟨n, rfl, hn1, by omega, fun D hD => ?_⟩
    have h00 : ¬ w.own0 D := fun z => ok1.here D (ok1.sub D z) hD
    have hn : ∀ (m : Nat) (q : Addr) (zs : List PyData), ρ[m]? = some (.own q zs) → q ≠ D := by
      intro m q zs f z
      subst z
      rcases ok1.slot m _ f with z | ⟨u, _, _, hq, _⟩
      · cases z
      · exact ok1.here _ hq hD
    refine lc_range (lo := 0) (n := n.toNat) (fun i H2 => LcS w ρ j σ o1 H1 D I i H2) (lc_start (H1 := H1) ok1 hD h0) (fun i H2 hi st => ?_) (fun H2 st => ?_)
    · have ez : (0 : Int) + (i : Int) = (i : Int) := Int.zero_add _
      rw [ez]
      have big : 1000000 < sizeLine := Nat.le_of_ble_eq_true rfl
      exact lc_turn hD h00 hn (by omega) st (fun o2 H2 g2 => Dp.int _) fun acc hI => hs i acc (by omega) hI
    · exact lc_end ok1 hD st hp fun o' H' v x g r p => k o' H' v x (g1.trans g) r p
end
end DL

/-! The law's bag is made; the law's own body behind it. -/
namespace DL
open PySem PySem.Spec PyProof.Rows L2

/-- the promise of the def that makes the bag -/
def spBag (K : PySem.W.Frag) : Sp := fun vs H Q _ => ∃ (a : Addr) (ns : List Int), vs = [.ref a] ∧ SqL K H a (ns.map V.int) ∧
  ∀ (H1 : Hp) (p l : Addr) (ms : List Int), Same H H1 → H p = none → H1 p = some (.lst [.int 0, .int 1234567891, .int 0, .ref l]) →
    SqL K H1 l (ms.map V.int) → ms.length ≤ 63 → Q (.ref p) H1

theorem hid_no {H : Hp} : hid H (fun _ => False) = H := by
  funext a
  exact hid_of id
theorem same_hid0 {H H1 : Hp} {o : Addr → Prop} (s : Same (hid H fun _ => False) (hid H1 o)) : Same H H1 := by
  rw [hid_no] at s
  exact s.trans hid_le
theorem bag_go {K : PySem.W.Frag} {H : Hp} {a : Addr} {ns : List Int} {Q : VK} {te : TE} {N : List Str} {m : Nat}
    (hS : SqL K H a (ns.map V.int)) (hN : N.length - 1 = m)
    (h : E ⟨K, H, fun _ => False, none⟩ te (.dat (.list (ns.map PyData.int)) :: List.replicate m .no)
      fun x => ∃ ms : List Int, ms.length ≤ 63 ∧ x = .dat (.list (ms.map PyData.int)))
    (k : ∀ (H1 : Hp) (p l : Addr) (ms : List Int), Same H H1 → H p = none → H1 p = some (.lst [.int 0, .int 1234567891, .int 0, .ref l]) →
      SqL K H1 l (ms.map V.int) → ms.length ≤ 63 → Q (.ref p) H1) :
    tRet (tLst (tCons (tC (.int 0)) (tCons (tC (.int 1234567891)) (tCons (tC (.int 0)) (tCons te tNil)))))
      { nx := fun _ H' => Q .non H', rt := Q } (L2.start N [.ref a]) H := by
  have ok : Ok ⟨K, H, fun _ => False, none⟩ (fun _ => False) (L2.start N [.ref a]) H ([.dat (.list (ns.map PyData.int))] ++ List.replicate m .no) := by
    refine ok_start (fun _ z => z.elim) (fun _ z => nomatch z) (.cons (VR.dat (Dp.lst ?_ (DpAll.ofInts ns))) .nil) ?_
    · rw [hid_no]
      exact hS
    · rw [List.length_singleton, hN]
  refine h (fun _ => False) _ H _ ok ?_
  rintro o' H' v x g r ⟨ms, hms, rfl⟩
  cases r with
  | lst hs ha =>
    have e := DpAll.ints ha
    subst e
    refine ⟨Nat.le_of_ble_eq_true rfl, fun p np => ?_⟩
    have sm : Same H H' := same_hid0 g.same
    have off : H p = none := by
      cases q : H p with
      | none => rfl
      | some y =>
        have := sm p y q
        rw [np] at this
        cases this
    refine k _ p _ ms (sm.trans (same_new np)) off upd_same ?_ hms
    exact (same_new np).seq (hid_le.seq hs)

theorem law_rest {K : PySem.W.Frag} {H1 : Hp} {a p l : Addr} {ms : List Int} {Q : VK} {ts : TS} {σ : L2.St} {m : Nat}
    (e1 : H1 p = some (.lst [.int 0, .int 1234567891, .int 0, .ref l])) (e2 : SqL K H1 l (ms.map V.int)) (e3 : ms.length ≤ 63)
    (hσ : σ = some (.ref a) :: some (.ref p) :: List.replicate m none)
    (h : S ⟨K, H1, fun b => b = p, some p⟩ ts (.no :: .bag :: List.replicate m .no) { nx := fun _ => False, rt := fun d => d = .bool true })
    (k : ∀ H', Q (.bl true) H') : ts { nx := fun _ H' => Q .non H', rt := Q } σ H1 := by
  subst hσ
  have lp : SqL K (hid H1 fun b => b = p) l (ms.map V.int) := by
    have ne : ∀ xs, xs = ms.map V.int → ¬ (l = p ∧ H1 l = some (.lst xs)) := by
      rintro xs rfl ⟨rfl, z⟩
      rw [e1] at z
      have z2 := congrArg (fun o => match o with | some (HO.lst ys) => ys[3]? | _ => none) z
      have z3 : some (V.ref l) = (ms.map V.int)[3]? := z2
      rw [List.getElem?_map] at z3
      cases q : ms[3]? with
      | none =>
        rw [q] at z3
        cases z3
      | some y =>
        rw [q] at z3
        cases z3
    rcases e2 with (e | ⟨o, e⟩) | e
    · refine .inl (.inl ?_)
      exact (hid_of (o := fun b => b = p) fun z => ne _ rfl ⟨z, e⟩).trans e
    · refine .inl (.inr ⟨o, ?_⟩)
      refine (hid_of (o := fun b => b = p) fun z => ?_).trans e
      have z : l = p := z
      subst z
      rw [e1] at e
      cases e
    · exact .inr e
  have ok : Ok ⟨K, H1, fun b => b = p, some p⟩ (fun b => b = p) (some (.ref a) :: some (.ref p) :: List.replicate m none) H1 (.no :: .bag :: List.replicate m .no) := by
    have bag : BagAt K H1 (fun b => b = p) p := ⟨rfl, 0, 1234567891, 0, l, ms, e1, lp, e3⟩
    refine ⟨⟨Same.refl _, fun _ z => z, fun _ _ _ => rfl, fun b e => ?_, fun b z => ?_⟩, ?_, fun i x e => ?_, fun i j q q' xs ys ne f1 f2 => ?_⟩
    · cases e
      exact ⟨rfl, bag⟩
    · rw [show b = p from z, e1]
      exact fun z => nomatch z
    · simp
    · match i, e with
      | 0, e =>
        cases e
        exact .inl rfl
      | 1, e =>
        cases e
        exact .inr ⟨_, rfl, p, rfl, rfl⟩
      | i + 2, e =>
        have e : (List.replicate m Sl.no)[i]? = some x := e
        rw [List.getElem?_replicate] at e
        split at e
        · cases e
          exact .inl rfl
        · cases e
    · match i, f1 with
      | 0, f1 => cases f1
      | 1, f1 => cases f1
      | i + 2, f1 =>
        have f1 : (List.replicate m Sl.no)[i]? = some (.own q xs) := f1
        rw [List.getElem?_replicate] at f1
        split at f1
        · cases f1
        · cases f1
  refine h (fun b => b = p) _ H1 _ ok ?_ ?_ ?_ ?_
  · intro _ _ _ _ _ z
    exact z.elim
  · rintro o' H' v d b r rfl
    cases r
    exact k H'
  · intro _ _ _ _ _ z
    exact z.elim
  · intro _ _ _ _ _ z
    exact z.elim
theorem T.mono {w : Wd} {tt : TT} {ρ : List Sl} {P P' : Bool → Prop} (h : T w tt ρ P) (q : ∀ b, P b → P' b) : T w tt ρ P' := fun o σ H Q ok k => h o σ H Q ok fun o' H' b g p => k o' H' b g (q b p)
end DL

namespace K3
open PySem PySem.Spec PyProof.Rows L2 DL

def topS (i : Nat) : Stmt := PySem.Challenge.pw_unwrittenrow_k03_whole_fractions_by_inte.main.body.getD i (.Pass ⟨0, 0, 0, 0⟩)
abbrev s_shown : Stmt := topS 2
theorem sc_shown : FnScope ["number", "parts", "rest"] ["number"] (defScope s_shown) :=
  ⟨rfl, rfl, rfl, by decide +kernel, rfl, by decide +kernel, by decide +kernel⟩
abbrev s_reduced : Stmt := topS 4
theorem sc_reduced : FnScope ["n", "d", "common"] ["n", "d"] (defScope s_reduced) :=
  ⟨rfl, rfl, rfl, by decide +kernel, rfl, by decide +kernel, by decide +kernel⟩
abbrev s_added : Stmt := topS 5
theorem sc_added : FnScope ["one", "other"] ["one", "other"] (defScope s_added) :=
  ⟨rfl, rfl, rfl, by decide +kernel, rfl, by decide +kernel, by decide +kernel⟩
abbrev s_times : Stmt := topS 6
theorem sc_times : FnScope ["one", "other"] ["one", "other"] (defScope s_times) :=
  ⟨rfl, rfl, rfl, by decide +kernel, rfl, by decide +kernel, by decide +kernel⟩
abbrev s_over : Stmt := topS 7
theorem sc_over : FnScope ["one", "other"] ["one", "other"] (defScope s_over) :=
  ⟨rfl, rfl, rfl, by decide +kernel, rfl, by decide +kernel, by decide +kernel⟩
abbrev s_compared : Stmt := topS 8
theorem sc_compared : FnScope ["one", "other", "apart"] ["one", "other"] (defScope s_compared) :=
  ⟨rfl, rfl, rfl, by decide +kernel, rfl, by decide +kernel, by decide +kernel⟩
abbrev s_half_to : Stmt := topS 9
theorem sc_half_to : FnScope ["e"] ["e"] (defScope s_half_to) :=
  ⟨rfl, rfl, rfl, by decide +kernel, rfl, by decide +kernel, by decide +kernel⟩
abbrev s__tens : Stmt := topS 12
theorem sc__tens : FnScope ["places", "scale", "_"] ["places"] (defScope s__tens) :=
  ⟨rfl, rfl, rfl, by decide +kernel, rfl, by decide +kernel, by decide +kernel⟩
abbrev s__with_point : Stmt := topS 13
theorem sc__with_point : FnScope ["number", "places", "digits"] ["number", "places"] (defScope s__with_point) :=
  ⟨rfl, rfl, rfl, by decide +kernel, rfl, by decide +kernel, by decide +kernel⟩
abbrev s_decimal_below : Stmt := topS 10
theorem sc_decimal_below : FnScope ["one", "places"] ["one", "places"] (defScope s_decimal_below) :=
  ⟨rfl, rfl, rfl, by decide +kernel, rfl, by decide +kernel, by decide +kernel⟩
abbrev s_decimal_above : Stmt := topS 11
theorem sc_decimal_above : FnScope ["one", "places"] ["one", "places"] (defScope s_decimal_above) :=
  ⟨rfl, rfl, rfl, by decide +kernel, rfl, by decide +kernel, by decide +kernel⟩
abbrev s__law_bag : Stmt := topS 15
theorem sc__law_bag : FnScope ["script", "cell"] ["script"] (defScope s__law_bag) :=
  ⟨rfl, rfl, rfl, by decide +kernel, rfl, by decide +kernel, by decide +kernel⟩
abbrev s__law_take : Stmt := topS 16
theorem sc__law_take : FnScope ["bag", "many", "cell", "stirred", "value", "begin", "second"] ["bag", "many"] (defScope s__law_take) :=
  ⟨rfl, rfl, rfl, by decide +kernel, rfl, by decide +kernel, by decide +kernel⟩
abbrev s__law_some : Stmt := topS 17
theorem sc__law_some : FnScope ["bag", "things"] ["bag", "things"] (defScope s__law_some) :=
  ⟨rfl, rfl, rfl, by decide +kernel, rfl, by decide +kernel, by decide +kernel⟩
abbrev s__law_alike : Stmt := topS 18
theorem sc__law_alike : FnScope ["found", "due"] ["found", "due"] (defScope s__law_alike) :=
  ⟨rfl, rfl, rfl, by decide +kernel, rfl, by decide +kernel, by decide +kernel⟩
abbrev s__law_common : Stmt := topS 19
theorem sc__law_common : FnScope ["one", "other"] ["one", "other"] (defScope s__law_common) :=
  ⟨rfl, rfl, rfl, by decide +kernel, rfl, by decide +kernel, by decide +kernel⟩
abbrev s__law_reduced : Stmt := topS 20
theorem sc__law_reduced : FnScope ["n", "d", "shared"] ["n", "d"] (defScope s__law_reduced) :=
  ⟨rfl, rfl, rfl, by decide +kernel, rfl, by decide +kernel, by decide +kernel⟩
abbrev s__law_pair : Stmt := topS 21
theorem sc__law_pair : FnScope ["bag", "n", "d"] ["bag"] (defScope s__law_pair) :=
  ⟨rfl, rfl, rfl, by decide +kernel, rfl, by decide +kernel, by decide +kernel⟩
abbrev s__law_ten : Stmt := topS 22
theorem sc__law_ten : FnScope ["places", "found", "turn"] ["places"] (defScope s__law_ten) :=
  ⟨rfl, rfl, rfl, by decide +kernel, rfl, by decide +kernel, by decide +kernel⟩
abbrev s__law_decimal : Stmt := topS 23
theorem sc__law_decimal : FnScope ["many", "places", "digits"] ["many", "places"] (defScope s__law_decimal) :=
  ⟨rfl, rfl, rfl, by decide +kernel, rfl, by decide +kernel, by decide +kernel⟩
abbrev s_law : Stmt := topS 24
theorem sc_law : FnScope ["script", "bag", "turn", "n", "d", "one", "other", "due", "less", "size", "places", "many", "low", "high", "first", "second", "by", "e", "half"] ["script"] (defScope s_law) :=
  ⟨rfl, rfl, rfl, by decide +kernel, rfl, by decide +kernel, by decide +kernel⟩
/-- what the top has left -/
structure Txt (K : PySem.W.Frag) (mg : Str → Option Value) where
  a_shown : Addr
  d_shown : FuncData
  F_shown : Fun K "shown" "shown" s_shown a_shown d_shown
  g_shown : mg "shown" = some (.ref a_shown)
  b_shown : L2.Binds K d_shown ["number"] []
  a_reduced : Addr
  d_reduced : FuncData
  F_reduced : Fun K "reduced" "reduced" s_reduced a_reduced d_reduced
  g_reduced : mg "reduced" = some (.ref a_reduced)
  b_reduced : L2.Binds K d_reduced ["n", "d"] []
  a_added : Addr
  d_added : FuncData
  F_added : Fun K "added" "added" s_added a_added d_added
  g_added : mg "added" = some (.ref a_added)
  b_added : L2.Binds K d_added ["one", "other"] []
  a_times : Addr
  d_times : FuncData
  F_times : Fun K "times" "times" s_times a_times d_times
  g_times : mg "times" = some (.ref a_times)
  b_times : L2.Binds K d_times ["one", "other"] []
  a_over : Addr
  d_over : FuncData
  F_over : Fun K "over" "over" s_over a_over d_over
  g_over : mg "over" = some (.ref a_over)
  b_over : L2.Binds K d_over ["one", "other"] []
  a_compared : Addr
  d_compared : FuncData
  F_compared : Fun K "compared" "compared" s_compared a_compared d_compared
  g_compared : mg "compared" = some (.ref a_compared)
  b_compared : L2.Binds K d_compared ["one", "other"] []
  a_half_to : Addr
  d_half_to : FuncData
  F_half_to : Fun K "half_to" "half_to" s_half_to a_half_to d_half_to
  g_half_to : mg "half_to" = some (.ref a_half_to)
  b_half_to : L2.Binds K d_half_to ["e"] []
  a__tens : Addr
  d__tens : FuncData
  F__tens : Fun K "_tens" "_tens" s__tens a__tens d__tens
  g__tens : mg "_tens" = some (.ref a__tens)
  b__tens : L2.Binds K d__tens ["places"] []
  a__with_point : Addr
  d__with_point : FuncData
  F__with_point : Fun K "_with_point" "_with_point" s__with_point a__with_point d__with_point
  g__with_point : mg "_with_point" = some (.ref a__with_point)
  b__with_point : L2.Binds K d__with_point ["number", "places"] []
  a_decimal_below : Addr
  d_decimal_below : FuncData
  F_decimal_below : Fun K "decimal_below" "decimal_below" s_decimal_below a_decimal_below d_decimal_below
  g_decimal_below : mg "decimal_below" = some (.ref a_decimal_below)
  b_decimal_below : L2.Binds K d_decimal_below ["one", "places"] []
  a_decimal_above : Addr
  d_decimal_above : FuncData
  F_decimal_above : Fun K "decimal_above" "decimal_above" s_decimal_above a_decimal_above d_decimal_above
  g_decimal_above : mg "decimal_above" = some (.ref a_decimal_above)
  b_decimal_above : L2.Binds K d_decimal_above ["one", "places"] []
  a__law_bag : Addr
  d__law_bag : FuncData
  F__law_bag : Fun K "_law_bag" "_law_bag" s__law_bag a__law_bag d__law_bag
  g__law_bag : mg "_law_bag" = some (.ref a__law_bag)
  b__law_bag : L2.Binds K d__law_bag ["script"] []
  a__law_take : Addr
  d__law_take : FuncData
  F__law_take : Fun K "_law_take" "_law_take" s__law_take a__law_take d__law_take
  g__law_take : mg "_law_take" = some (.ref a__law_take)
  b__law_take : L2.Binds K d__law_take ["bag", "many"] []
  a__law_some : Addr
  d__law_some : FuncData
  F__law_some : Fun K "_law_some" "_law_some" s__law_some a__law_some d__law_some
  g__law_some : mg "_law_some" = some (.ref a__law_some)
  b__law_some : L2.Binds K d__law_some ["bag", "things"] []
  a__law_alike : Addr
  d__law_alike : FuncData
  F__law_alike : Fun K "_law_alike" "_law_alike" s__law_alike a__law_alike d__law_alike
  g__law_alike : mg "_law_alike" = some (.ref a__law_alike)
  b__law_alike : L2.Binds K d__law_alike ["found", "due"] []
  a__law_common : Addr
  d__law_common : FuncData
  F__law_common : Fun K "_law_common" "_law_common" s__law_common a__law_common d__law_common
  g__law_common : mg "_law_common" = some (.ref a__law_common)
  b__law_common : L2.Binds K d__law_common ["one", "other"] []
  a__law_reduced : Addr
  d__law_reduced : FuncData
  F__law_reduced : Fun K "_law_reduced" "_law_reduced" s__law_reduced a__law_reduced d__law_reduced
  g__law_reduced : mg "_law_reduced" = some (.ref a__law_reduced)
  b__law_reduced : L2.Binds K d__law_reduced ["n", "d"] []
  a__law_pair : Addr
  d__law_pair : FuncData
  F__law_pair : Fun K "_law_pair" "_law_pair" s__law_pair a__law_pair d__law_pair
  g__law_pair : mg "_law_pair" = some (.ref a__law_pair)
  b__law_pair : L2.Binds K d__law_pair ["bag"] []
  a__law_ten : Addr
  d__law_ten : FuncData
  F__law_ten : Fun K "_law_ten" "_law_ten" s__law_ten a__law_ten d__law_ten
  g__law_ten : mg "_law_ten" = some (.ref a__law_ten)
  b__law_ten : L2.Binds K d__law_ten ["places"] []
  a__law_decimal : Addr
  d__law_decimal : FuncData
  F__law_decimal : Fun K "_law_decimal" "_law_decimal" s__law_decimal a__law_decimal d__law_decimal
  g__law_decimal : mg "_law_decimal" = some (.ref a__law_decimal)
  b__law_decimal : L2.Binds K d__law_decimal ["many", "places"] []
  a_law : Addr
  d_law : FuncData
  F_law : Fun K "law" "law" s_law a_law d_law
  g_law : mg "law" = some (.ref a_law)
  b_law : L2.Binds K d_law ["script"] []
  z_abs : mg "abs" = none
  z_divmod : mg "divmod" = none
  z_int : mg "int" = none
  z_len : mg "len" = none
  z_max : mg "max" = none
  z_range : mg "range" = none
  z_repr : mg "repr" = none
  z_str : mg "str" = none
  m_gcd : mg "gcd" = some (.builtin "math.gcd")
def spLaw (K : PySem.W.Frag) : Sp := fun vs H Q _ => ∃ (a : Addr) (ns : List Int), vs = [.ref a] ∧ SqL K H a (ns.map V.int) ∧ ns.length ≤ 63 ∧ ∀ H', Q (.bl true) H'
/-- less than 2 to the b, without its sign -/
def Sm (b : Nat) (i : Int) : Prop := i.natAbs < 2 ^ b
instance (b : Nat) (i : Int) : Decidable (Sm b i) := inferInstanceAs (Decidable (i.natAbs < 2 ^ b))
theorem Sm.mono {a b : Nat} {i : Int} (h : Sm a i) (k : a ≤ b) : Sm b i := Nat.lt_of_lt_of_le h (Nat.pow_le_pow_right (by decide) k)
theorem Sm.mul {a b : Nat} {i j : Int} (h : Sm a i) (k : Sm b j) : Sm (a + b) (i * j) := by
  unfold Sm at *
  rw [Int.natAbs_mul, Nat.pow_add]
  exact Nat.mul_lt_mul'' h k
theorem Sm.nat {b : Nat} {i : Int} (h : Sm b i) : Sm b (if i < 0 then -i else i) := by
  unfold Sm at *
  split <;> omega
theorem Sm.neg {a : Nat} {i : Int} (h : Sm a i) : Sm a (-i) := by
  unfold Sm at *
  rw [Int.natAbs_neg]
  exact h
theorem Sm.add {a : Nat} {i j : Int} (h : Sm a i) (k : Sm a j) : Sm (a + 1) (i + j) := by
  unfold Sm at *
  have := Int.natAbs_add_le i j
  rw [Nat.pow_succ]
  omega
theorem Sm.sub {a : Nat} {i j : Int} (h : Sm a i) (k : Sm a j) : Sm (a + 1) (i - j) := by
  rw [Int.sub_eq_add_neg]
  exact h.add k.neg
theorem Sm.mulX {a b : Nat} {i j : Int} (h : Sm a i) (k : Sm b j) (l : a + b ≤ 134217728) : CMulB i j := .inl (mulx_ok h k l)
theorem Sm.log {a : Nat} {i : Int} (h : Sm a i) (ha : 0 < a) : i.natAbs.log2 < a := by
  by_cases h0 : i.natAbs = 0
  · rw [h0]
    exact ha
  · exact (Nat.log2_lt h0).mpr h
theorem Sm.fd {i j : Int} (h : Sm 9000 i) (hj : j ≠ 0) : CFd i j := by
  refine ⟨hj, ?_⟩
  unfold Builtin.divisionGoesByPylong
  have hl : i.natAbs.log2 < 9000 := h.log (by decide)
  simp only [Bool.and_eq_false_iff, decide_eq_false_iff_not]
  by_cases h1 : ¬ (if (j == 0) = true then 0 else j.natAbs.log2 / 30 + 1) > 300
  · exact .inl h1
  · refine .inr ?_
    have h2 := Classical.not_not.mp h1
    have : (if (i == 0) = true then 0 else i.natAbs.log2 / 30 + 1) ≤ 300 := by
      split <;> omega
    omega
/-! ### fractions -/
def cm (n d : Int) : Int := if d < 0 then -((Nat.gcd n.natAbs d.natAbs : Nat) : Int) else ((Nat.gcd n.natAbs d.natAbs : Nat) : Int)
theorem cm_ne {n d : Int} (h : d ≠ 0) : cm n d ≠ 0 := by
  have : 0 < Nat.gcd n.natAbs d.natAbs := Nat.gcd_pos_of_pos_right _ (by omega)
  unfold cm
  split <;> omega
def rN (n d : Int) : Int := n.fdiv (cm n d)
def rD (n d : Int) : Int := d.fdiv (cm n d)
def fr (p : Int × Int) : PyData := .tuple [.int p.1, .int p.2]
def red (n d : Int) : Int × Int := (n.fdiv (cm n d), d.fdiv (cm n d))
section
open TL
/-! ### texts of numbers -/
theorem tl_inj {x y : Str} (h : tl x = tl y) : x = y := by
  rw [← mk_tl x, ← mk_tl y, h]
theorem tl_len (x : Str) : (tl x).length = x.length := by
  unfold tl Str.length
  rw [Array.length_toList]
theorem tl_app (x y : Str) : tl (x ++ y) = tl x ++ tl y := tl_append x y
abbrev Sn (n : Int) : Str := Str.ofString (toString n)
theorem tl_Sn {n : Int} (h : 0 ≤ n) : tl (Sn n) = numL n.toNat := by
  obtain ⟨k, rfl⟩ : ∃ k : Nat, n = (k : Int) := ⟨n.toNat, by omega⟩
  rw [Int.toNat_natCast]
  exact tl_num k
/-- with noughts ahead, to a length -/
def zl (k : Nat) (l : List Nat) : List Nat := List.replicate (k - l.length) 48 ++ l
theorem zl_len (k : Nat) (l : List Nat) : (zl k l).length = max k l.length := by
  unfold zl
  rw [List.length_append, List.length_replicate]
  omega
theorem tl_zfill {x : Str} {i : Int} (h : ∀ c, x.cps[0]? = some c → c ≠ 43 ∧ c ≠ 45) : tl (Txt.zfill x i) = zl i.toNat (tl x) := by
  unfold Txt.zfill zl
  rw [tl_len]
  by_cases hl : i ≤ (x.length : Int)
  · rw [if_pos hl, show i.toNat - x.length = 0 by omega]
    rfl
  · rw [if_neg hl]
    have e : zfilled x (i.toNat - x.length) = Builtin.Str.padded x (i.toNat - x.length) 0 48 := by
      unfold zfilled
      split
      · rename_i e
        exact absurd rfl (h _ e).1
      · rename_i e
        exact absurd rfl (h _ e).2
      · rfl
    rw [e]
    unfold Builtin.Str.padded tl
    simp
theorem first_dig {n : Int} (h : 0 ≤ n) : ∀ c, (Sn n).cps[0]? = some c → c ≠ 43 ∧ c ≠ 45 := by
  intro c hc
  have hm : c ∈ numL n.toNat := by
    rw [← tl_Sn h]
    unfold tl
    rw [← Array.getElem?_toList] at hc
    exact List.mem_of_getElem? hc
  have := numL_digits _ c hm
  omega
/-- the k last figures -/
def fw : Nat → Nat → List Nat
  | 0, _ => []
  | k + 1, r => fw k (r / 10) ++ [48 + r % 10]
theorem fw_zero : ∀ k, fw k 0 = List.replicate k 48
  | 0 => rfl
  | k + 1 => by
    show fw k (0 / 10) ++ [48 + 0 % 10] = _
    rw [Nat.zero_div, fw_zero k, List.replicate_succ']
theorem num_fw : ∀ (k q r : Nat), 1 ≤ q → r < 10 ^ k → numL (q * 10 ^ k + r) = numL q ++ fw k r
  | 0, q, r, hq, hr => by
    have : r = 0 := by omega
    subst this
    simp [fw]
  | k + 1, q, r, hq, hr => by
    have e : 10 ^ (k + 1) = 10 * 10 ^ k := by rw [Nat.pow_succ, Nat.mul_comm]
    have pos : 0 < 10 ^ k := Nat.pow_pos (by decide)
    have big : 10 ≤ q * 10 ^ (k + 1) + r := by
      have : 1 * 10 ≤ q * 10 ^ (k + 1) := Nat.mul_le_mul hq (by rw [e]; omega)
      omega
    have e2 : (q * 10 ^ (k + 1) + r) / 10 = q * 10 ^ k + r / 10 := by
      rw [e, show q * (10 * 10 ^ k) + r = 10 * (q * 10 ^ k) + r by rw [Nat.mul_left_comm]]
      omega
    have e3 : (q * 10 ^ (k + 1) + r) % 10 = r % 10 := by
      rw [e, show q * (10 * 10 ^ k) + r = 10 * (q * 10 ^ k) + r by rw [Nat.mul_left_comm]]
      omega
    rw [numL_step big, e2, e3, num_fw k q (r / 10) hq (by omega), List.append_assoc]
    rfl
theorem zl_fw : ∀ (k r : Nat), r < 10 ^ (k + 1) → zl (k + 1) (numL r) = fw (k + 1) r
  | 0, r, h => by
    rw [numL_lt (by omega)]
    show List.replicate (1 - 1) 48 ++ [48 + r] = [] ++ [48 + r % 10]
    rw [Nat.mod_eq_of_lt (by omega)]
    rfl
  | k + 1, r, h => by
    by_cases hr : r < 10
    · rw [numL_lt hr]
      show List.replicate (k + 1 + 1 - 1) 48 ++ [48 + r] = fw (k + 1) (r / 10) ++ [48 + r % 10]
      rw [Nat.div_eq_of_lt hr, Nat.mod_eq_of_lt hr, fw_zero]
      rfl
    · have ih := zl_fw k (r / 10) (by rw [Nat.pow_succ] at h; omega)
      rw [numL_step (by omega)]
      show _ = fw (k + 1) (r / 10) ++ [48 + r % 10]
      rw [← ih]
      unfold zl
      rw [List.length_append, List.length_singleton, show k + 1 + 1 - ((numL (r / 10)).length + 1) = k + 1 - (numL (r / 10)).length by omega, List.append_assoc]
theorem Sn_split {m : Int} (h : 10 ^ 60 ≤ m) : tl (Sn m) = tl (Sn (m / 10 ^ 60)) ++ tl (Txt.zfill (Sn (m % 10 ^ 60)) 60) := by
  have p0 : (0 : Int) < 10 ^ 60 := by decide
  have h0 : 0 ≤ m := by omega
  have hr : 0 ≤ m % 10 ^ 60 := Int.emod_nonneg _ (by omega)
  have hl : m % 10 ^ 60 < 10 ^ 60 := Int.emod_lt_of_pos _ p0
  have hq : 1 ≤ m / 10 ^ 60 := (Int.le_ediv_iff_mul_le p0).mpr (by omega)
  rw [tl_zfill (first_dig hr), tl_Sn h0, tl_Sn hr, tl_Sn (by omega)]
  show _ = _ ++ zl (59 + 1) _
  rw [zl_fw 59 _ (by omega), ← num_fw (59 + 1) _ _ (by omega) (by omega)]
  have e := Int.emod_add_mul_ediv m (10 ^ 60)
  congr 1
  omega
theorem tl_join0 {y : Str} (hy : tl y = []) : ∀ ys : List Str, tl (Txt.join y ys) = (ys.map tl).flatten := by
  intro ys
  rw [join_eq, tl_join, hy]
  have : ∀ l : List (List Nat), joinL [] l = l.flatten := by
    intro l
    induction l with
    | nil => rfl
    | cons a l ih =>
      cases l with
      | nil => simp [joinL]
      | cons b l =>
        show a ++ ([] ++ joinL [] (b :: l)) = _
        rw [ih]
        simp
  exact this _
theorem flat_len (ys : List Str) : (ys.map (·.length)).sum = ((ys.map tl).flatten).length := by
  induction ys with
  | nil => rfl
  | cons y ys ih =>
    rw [List.map_cons, List.map_cons, List.sum_cons, List.flatten_cons, List.length_append, ih, tl_len]
theorem Sn_len {n : Int} (h : 0 ≤ n) (s : Sm 1900 n) : (Sn n).length ≤ 1900 := by
  rw [← tl_len, tl_Sn h]
  refine numL_len (by decide) (Nat.lt_of_lt_of_le (show n.toNat < 2 ^ 1900 from ?_) (Nat.pow_le_pow_left (by decide) 1900))
  have : n.natAbs < 2 ^ 1900 := s
  omega
/-- a number with a point -/
def wp (n k : Int) : Str := if k = 0 then Txt.zfill (Sn n) (k + 1) else
  cutS (Txt.zfill (Sn n) (k + 1)) none (some ((Txt.zfill (Sn n) (k + 1)).length - k)) ++ "." ++ cutS (Txt.zfill (Sn n) (k + 1)) (some ((Txt.zfill (Sn n) (k + 1)).length - k)) none
theorem zf_len {n k : Int} (h : 0 ≤ n) (s : Sm 1900 n) (hk : 0 ≤ k) (hk2 : k ≤ 2000) : (Txt.zfill (Sn n) (k + 1)).length ≤ 2001 ∧ k + 1 ≤ ((Txt.zfill (Sn n) (k + 1)).length : Int) := by
  have e := zl_len (k + 1).toNat (tl (Sn n))
  rw [← tl_zfill (first_dig h), tl_len, tl_len] at e
  have := Sn_len h s
  omega
theorem mul_zero {n : Int} : tl (Txt.mul "0" n) = List.replicate n.toNat 48 := by
  unfold Txt.mul
  by_cases h1 : n < 1
  · rw [if_pos h1, show n.toNat = 0 by omega]
    rfl
  · rw [if_neg h1]
    by_cases h2 : n = 1
    · subst h2
      rfl
    · have h3 : ¬ (n == 1 || ("0" : Str).length == 0) = true := by
        simp only [Bool.or_eq_true, beq_iff_eq, not_or]
        exact ⟨h2, by decide⟩
      rw [if_neg h3]
      have key : ∀ (m : Nat) (acc : Array Nat), ((List.replicate m ("0" : Str).cps).foldl (· ++ ·) acc).toList = acc.toList ++ List.replicate m 48 := by
        intro m
        induction m with
        | zero => intro acc; simp
        | succ m ih =>
          intro acc
          rw [List.replicate_succ, List.foldl_cons, ih, List.replicate_succ]
          have : ("0" : Str).cps.toList = [48] := by decide +kernel
          rw [Array.toList_append, this]
          simp
      show ((List.replicate n.toNat ("0" : Str).cps).foldl (· ++ ·) #[]).toList = _
      rw [key]
      rfl
theorem pad_eq {n k : Int} (h : 0 ≤ n) : Txt.mul "0" (if k + 1 - ((Sn n).length : Int) > 0 then k + 1 - ((Sn n).length : Int) else 0) ++ Sn n = Txt.zfill (Sn n) (k + 1) := by
  refine tl_inj ?_
  rw [tl_app, mul_zero, tl_zfill (first_dig h)]
  unfold zl
  rw [tl_len]
  congr 2
  split <;> omega
theorem cut_neg1 {z : Str} {k : Int} (hk : 0 < k) (hz : k ≤ (z.length : Int)) : cutS z none (some (-k)) = cutS z none (some (z.length - k)) := by
  unfold cutS
  have e : HT.sIx z.length z.length (some (-k)) = HT.sIx z.length z.length (some ((z.length : Int) - k)) := by
    unfold HT.sIx
    dsimp only
    rw [if_pos (by omega), if_neg (by omega)]
    omega
  rw [e]
theorem cut_neg2 {z : Str} {k : Int} (hk : 0 < k) (hz : k ≤ (z.length : Int)) : cutS z (some (-k)) none = cutS z (some (z.length - k)) none := by
  unfold cutS
  have e : HT.sIx z.length 0 (some (-k)) = HT.sIx z.length 0 (some ((z.length : Int) - k)) := by
    unfold HT.sIx
    dsimp only
    rw [if_pos (by omega), if_neg (by omega)]
    omega
  rw [e]
theorem padok {k : Int} (h : 0 ≤ k) (h2 : k ≤ 2000) : PadOk (k + 1) = true := by
  unfold PadOk
  have e1 : fitsSsize (k + 1) = true := by
    unfold fitsSsize
    simp only [Bool.not_eq_true', Bool.or_eq_false_iff, decide_eq_false_iff_not]
    omega
  have e2 : Builtin.Str.tooLong (k + 1).toNat = false := by
    unfold Builtin.Str.tooLong
    rw [decide_eq_false_iff_not]
    have : 2001 ≤ sizeLine := Nat.le_of_ble_eq_true rfl
    omega
  rw [e1, e2]
  rfl
theorem cutS_len (z : Str) (lo hi : Option Int) : (cutS z lo hi).length ≤ z.length := by
  rw [← tl_len, ← tl_len z]
  show ((List.take _ (List.drop _ z.cps.toList)).toArray.toList).length ≤ _
  rw [List.toList_toArray, List.length_take, List.length_drop]
  show min _ ((tl z).length - _) ≤ _
  omega
theorem cut_fits {z : Str} {lo hi : Option Int} (h : z.length ≤ 2001) : (cutS z lo hi).length + ("." : Str).length ≤ sizeLine := by
  have := cutS_len z lo hi
  have e : ("." : Str).length = 1 := by decide +kernel
  have : 2002 ≤ sizeLine := Nat.le_of_ble_eq_true rfl
  omega
theorem cut_fits2 {z : Str} {lo hi lo2 hi2 : Option Int} (h : z.length ≤ 2001) : (cutS z lo hi ++ "." : Str).length + (cutS z lo2 hi2).length ≤ sizeLine := by
  rw [← tl_len, tl_app, List.length_append, tl_len, tl_len]
  have := cutS_len z lo hi
  have := cutS_len z lo2 hi2
  have e : ("." : Str).length = 1 := by decide +kernel
  have : 4003 ≤ sizeLine := Nat.le_of_ble_eq_true rfl
  omega
theorem mulok {n : Int} (h : 0 ≤ n) (h2 : n ≤ 2001) : MulOk "0" n := by
  have e : ("0" : Str).length = 1 := by decide +kernel
  refine ⟨?_, fun h3 _ => ?_, fun _ _ => ?_⟩
  · simp only [Bool.or_eq_false_iff, decide_eq_false_iff_not]
    omega
  · rw [e]
    have : (1 : Int) ≤ (2 ^ 63 - 1) / n := (Int.le_ediv_iff_mul_le (by omega)).mpr (by omega)
    omega
  · unfold Builtin.Str.tooLong
    rw [decide_eq_false_iff_not, e]
    have : 2001 ≤ sizeLine := Nat.le_of_ble_eq_true rfl
    omega
theorem cut_mem {z : Str} {lo hi : Option Int} {c : Nat} (h : c ∈ tl (cutS z lo hi)) : c ∈ tl z := by
  have h2 : c ∈ ((z.cps.toList.drop (HT.sIx z.length 0 lo)).take (HT.sIx z.length z.length hi - HT.sIx z.length 0 lo)).toArray.toList := h
  rw [List.toList_toArray] at h2
  exact List.mem_of_mem_drop (List.mem_of_mem_take h2)
theorem zf_mem {n k : Int} (h : 0 ≤ n) {c : Nat} (hc : c ∈ tl (Txt.zfill (Sn n) k)) : c < 256 := by
  rw [tl_zfill (first_dig h)] at hc
  unfold zl at hc
  rcases List.mem_append.mp hc with hc | hc
  · rw [List.eq_of_mem_replicate hc]
    decide
  · rw [tl_Sn h] at hc
    have := numL_digits _ c hc
    omega
theorem wp_fine {n k : Int} (h : 0 ≤ n) (s : Sm 1900 n) (k0 : 0 ≤ k) (k1 : k ≤ 2000) : Fine 40042 0 (.str (wp n k)) := by
  have zl := (zf_len h s k0 k1).1
  unfold wp
  split
  · exact (fine_str (fun c hc => zf_mem h hc) (Nat.le_trans zl (by decide : 2001 ≤ 4004))).mono (by decide) (Nat.le_refl _)
  · refine fine_str (fun c hc => ?_) (n := 4004) ?_
    · have hc2 : c ∈ tl (cutS (Txt.zfill (Sn n) (k + 1)) none (some (↑(Txt.zfill (Sn n) (k + 1)).length - k)) ++ "." ++ cutS (Txt.zfill (Sn n) (k + 1)) (some (↑(Txt.zfill (Sn n) (k + 1)).length - k)) none) := hc
      rw [tl_app, tl_app] at hc2
      rcases List.mem_append.mp hc2 with hc2 | hc2
      · rcases List.mem_append.mp hc2 with hc2 | hc2
        · exact zf_mem h (cut_mem hc2)
        · have e : tl "." = [46] := by decide +kernel
          rw [e] at hc2
          rw [List.mem_singleton.mp hc2]
          decide
      · exact zf_mem h (cut_mem hc2)
    · rw [← tl_len, tl_app, tl_app, List.length_append, List.length_append, tl_len, tl_len, tl_len]
      have a1 := cutS_len (Txt.zfill (Sn n) (k + 1)) none (some (↑(Txt.zfill (Sn n) (k + 1)).length - k))
      have a2 := cutS_len (Txt.zfill (Sn n) (k + 1)) (some (↑(Txt.zfill (Sn n) (k + 1)).length - k)) none
      have e : ("." : Str).length = 1 := by decide +kernel
      omega
theorem fine_fr {p : Int × Int} (h1 : Sm 12900 p.1) (h2 : Sm 12900 p.2) : Fine 8611 1 (fr p) := fine_tuple (fine_cons (fine_int h1) (fine_cons (fine_int h2) fine_nil))
theorem big40 {r : Int} (h0 : 0 ≤ r) (h1 : r < 99) : Sm 140 (10 ^ Int.toNat 40 + r) := by
  have e : (10 : Int) ^ Int.toNat 40 < 2 ^ 139 := by decide
  have e0 : (0 : Int) < 10 ^ Int.toNat 40 := by decide
  unfold Sm
  have e2 : ((2 ^ 140 : Nat) : Int) = 2 ^ 139 + 2 ^ 139 := by decide
  omega
theorem len_succ {ρ : List Sl} {n : Nat} (h : ρ.length = n + 1) : ∃ x r, ρ = x :: r ∧ r.length = n := by
  cases ρ with
  | nil => cases h
  | cons x r => exact ⟨x, r, rfl, by simpa using h⟩
theorem bg19 {ρ : List Sl} (h : ρ.length = 19 ∧ ρ[1]? = some .bag) : ∃ x0 x2 x3 x4 x5 x6 x7 x8 x9 x10 x11 x12 x13 x14 x15 x16 x17 x18,
    ρ = [x0, .bag, x2, x3, x4, x5, x6, x7, x8, x9, x10, x11, x12, x13, x14, x15, x16, x17, x18] := by
  obtain ⟨h0, hb⟩ := h
  obtain ⟨x0, r0, e0, h1⟩ := len_succ h0
  obtain ⟨x1, r1, e1, h2⟩ := len_succ h1
  obtain ⟨x2, r2, e2, h3⟩ := len_succ h2
  obtain ⟨x3, r3, e3, h4⟩ := len_succ h3
  obtain ⟨x4, r4, e4, h5⟩ := len_succ h4
  obtain ⟨x5, r5, e5, h6⟩ := len_succ h5
  obtain ⟨x6, r6, e6, h7⟩ := len_succ h6
  obtain ⟨x7, r7, e7, h8⟩ := len_succ h7
  obtain ⟨x8, r8, e8, h9⟩ := len_succ h8
  obtain ⟨x9, r9, e9, h10⟩ := len_succ h9
  obtain ⟨x10, r10, e10, h11⟩ := len_succ h10
  obtain ⟨x11, r11, e11, h12⟩ := len_succ h11
  obtain ⟨x12, r12, e12, h13⟩ := len_succ h12
  obtain ⟨x13, r13, e13, h14⟩ := len_succ h13
  obtain ⟨x14, r14, e14, h15⟩ := len_succ h14
  obtain ⟨x15, r15, e15, h16⟩ := len_succ h15
  obtain ⟨x16, r16, e16, h17⟩ := len_succ h16
  obtain ⟨x17, r17, e17, h18⟩ := len_succ h17
  obtain ⟨x18, r18, e18, h19⟩ := len_succ h18
  obtain rfl : r18 = [] := List.length_eq_zero_iff.mp h19
  subst e18 e17 e16 e15 e14 e13 e12 e11 e10 e9 e8 e7 e6 e5 e4 e3 e2 e1 e0
  cases hb
  exact ⟨_, _, _, _, _, _, _, _, _, _, _, _, _, _, _, _, _, _, rfl⟩
end
/-! ### fractions in lowest terms -/
structure Low (p : Int × Int) : Prop where
  pos : 0 < p.2
  cop : Nat.gcd p.1.natAbs p.2.natAbs = 1
theorem cm_dvd1 (n d : Int) : cm n d ∣ n := by
  unfold cm
  split
  · exact Int.neg_dvd.mpr (Int.ofNat_dvd_left.mpr (Nat.gcd_dvd_left _ _))
  · exact Int.ofNat_dvd_left.mpr (Nat.gcd_dvd_left _ _)
theorem cm_dvd2 (n d : Int) : cm n d ∣ d := by
  unfold cm
  split
  · exact Int.neg_dvd.mpr (Int.ofNat_dvd_left.mpr (Nat.gcd_dvd_right _ _))
  · exact Int.ofNat_dvd_left.mpr (Nat.gcd_dvd_right _ _)
theorem fdiv_of {a b c : Int} (hb : b ≠ 0) (h : a = b * c) : a.fdiv b = c := by
  rw [h]
  exact Int.mul_fdiv_cancel_left c hb
theorem red_parts {n d : Int} (h : d ≠ 0) : ∃ x y, n = cm n d * x ∧ d = cm n d * y ∧ red n d = (x, y) ∧ Low (x, y) := by
  have hc := cm_ne (n := n) h
  obtain ⟨x, hx⟩ := cm_dvd1 n d
  obtain ⟨y, hy⟩ := cm_dvd2 n d
  have abs : (cm n d).natAbs = Nat.gcd n.natAbs d.natAbs := by
    unfold cm
    split
    · rw [Int.natAbs_neg]
      rfl
    · rfl
  refine ⟨x, y, hx, hy, ?_, ?_, ?_⟩
  · unfold red
    rw [fdiv_of hc hx, fdiv_of hc hy]
  · show 0 < y
    have hy0 : y ≠ 0 := fun z => h (by rw [hy, z, Int.mul_zero])
    by_cases hd : d < 0
    · have c0 : cm n d < 0 := by
        unfold cm at hc ⊢
        rw [if_pos hd] at hc ⊢
        omega
      rcases Int.lt_or_lt_of_ne hy0 with z | z
      · have := Int.mul_pos_of_neg_of_neg c0 z
        omega
      · exact z
    · have c0 : 0 < cm n d := by
        unfold cm at hc ⊢
        rw [if_neg hd] at hc ⊢
        omega
      rcases Int.lt_or_lt_of_ne hy0 with z | z
      · have := Int.mul_neg_of_pos_of_neg c0 z
        omega
      · exact z
  · show Nat.gcd x.natAbs y.natAbs = 1
    have pos : 0 < Nat.gcd n.natAbs d.natAbs := by
      rw [← abs]
      omega
    have e : Nat.gcd n.natAbs d.natAbs = Nat.gcd n.natAbs d.natAbs * Nat.gcd x.natAbs y.natAbs := by
      have en : n.natAbs = Nat.gcd n.natAbs d.natAbs * x.natAbs := by
        rw [← abs, ← Int.natAbs_mul, ← hx]
      have ed : d.natAbs = Nat.gcd n.natAbs d.natAbs * y.natAbs := by
        rw [← abs, ← Int.natAbs_mul, ← hy]
      have e1 : Nat.gcd n.natAbs d.natAbs = Nat.gcd (Nat.gcd n.natAbs d.natAbs * x.natAbs) (Nat.gcd n.natAbs d.natAbs * y.natAbs) := by
        rw [← en, ← ed]
      rw [Nat.gcd_mul_left] at e1
      exact e1
    have e2 : Nat.gcd n.natAbs d.natAbs * 1 = Nat.gcd n.natAbs d.natAbs * Nat.gcd x.natAbs y.natAbs := by
      rw [Nat.mul_one]
      exact e
    exact (Nat.eq_of_mul_eq_mul_left pos e2).symm
theorem low_unique {p q : Int × Int} (hp : Low p) (hq : Low q) (h : p.1 * q.2 = q.1 * p.2) : p = q := by
  obtain ⟨x, y⟩ := p
  obtain ⟨u, v⟩ := q
  have hn : x.natAbs * v.natAbs = u.natAbs * y.natAbs := by
    rw [← Int.natAbs_mul, ← Int.natAbs_mul]
    exact congrArg Int.natAbs h
  have h1 : y.natAbs ∣ v.natAbs := by
    have : y.natAbs ∣ x.natAbs * v.natAbs := ⟨u.natAbs, by rw [hn, Nat.mul_comm]⟩
    exact Nat.Coprime.dvd_of_dvd_mul_left (Nat.Coprime.symm hp.cop) this
  have h2 : v.natAbs ∣ y.natAbs := by
    have : v.natAbs ∣ u.natAbs * y.natAbs := ⟨x.natAbs, by rw [← hn, Nat.mul_comm]⟩
    exact Nat.Coprime.dvd_of_dvd_mul_left (Nat.Coprime.symm hq.cop) this
  have e := Nat.dvd_antisymm h1 h2
  have p1 : 0 < y := hp.pos
  have p2 : 0 < v := hq.pos
  have ev : y = v := by omega
  subst ev
  have h3 : x * y = u * y := h
  have ex : x = u := Int.eq_of_mul_eq_mul_right (by omega) h3
  rw [ex]
theorem red_low {n d : Int} (h : d ≠ 0) : Low (red n d) := by
  obtain ⟨x, y, _, _, e, l⟩ := red_parts (n := n) h
  rw [e]
  exact l
theorem red_cross {n d : Int} (h : d ≠ 0) : (red n d).1 * d = n * (red n d).2 := by
  obtain ⟨x, y, h1, h2, e, _⟩ := red_parts (n := n) h
  rw [e]
  show x * d = n * y
  generalize cm n d = c at h1 h2
  rw [h1, h2, Int.mul_left_comm, Int.mul_assoc]
theorem red_eq {n d : Int} {p : Int × Int} (h : d ≠ 0) (l : Low p) (e : n * p.2 = p.1 * d) : red n d = p := by
  refine low_unique (red_low h) l ?_
  have hc := red_cross (n := n) h
  refine Int.eq_of_mul_eq_mul_right h ?_
  calc (red n d).1 * p.2 * d = ((red n d).1 * d) * p.2 := by rw [Int.mul_right_comm]
    _ = n * (red n d).2 * p.2 := by rw [hc]
    _ = (n * p.2) * (red n d).2 := by rw [Int.mul_right_comm]
    _ = p.1 * d * (red n d).2 := by rw [e]
    _ = p.1 * (red n d).2 * d := by rw [Int.mul_right_comm]
theorem red_sm {n d : Int} {a : Nat} (h : d ≠ 0) (sn : Sm a n) (sd : Sm a d) : Sm a (red n d).1 ∧ Sm a (red n d).2 := by
  have hc := cm_ne (n := n) h
  obtain ⟨x, y, h1, h2, e, _⟩ := red_parts (n := n) h
  rw [e]
  have le : ∀ z w : Int, z = cm n d * w → w.natAbs ≤ z.natAbs := by
    intro z w hz
    rw [hz, Int.natAbs_mul]
    exact Nat.le_mul_of_pos_left _ (by omega)
  exact ⟨Nat.lt_of_le_of_lt (le _ _ h1) sn, Nat.lt_of_le_of_lt (le _ _ h2) sd⟩
/-- the quotient, times what it was divided by -/
theorem over_back {p q : Int × Int} (lp : Low p) (lq : Low q) (h : q.1 ≠ 0) :
    red ((red (p.1 * q.2) (p.2 * q.1)).1 * q.1) ((red (p.1 * q.2) (p.2 * q.1)).2 * q.2) = p := by
  have p2 : p.2 ≠ 0 := by have := lp.pos; omega
  have q2 : q.2 ≠ 0 := by have := lq.pos; omega
  have hd : p.2 * q.1 ≠ 0 := Int.mul_ne_zero p2 h
  have hc := red_cross (n := p.1 * q.2) hd
  have hl := red_low (n := p.1 * q.2) hd
  generalize red (p.1 * q.2) (p.2 * q.1) = r at hc hl ⊢
  have r2 : r.2 ≠ 0 := by have := hl.pos; omega
  refine red_eq (Int.mul_ne_zero r2 q2) lp ?_
  calc r.1 * q.1 * p.2 = r.1 * (p.2 * q.1) := by rw [Int.mul_assoc, Int.mul_comm q.1]
    _ = p.1 * q.2 * r.2 := hc
    _ = p.1 * (r.2 * q.2) := by rw [Int.mul_assoc, Int.mul_comm q.2]
theorem neg_fdiv {m d : Int} (h : 0 < d) : -((-m).fdiv d) = (m + d - 1).fdiv d := by
  rw [Int.fdiv_eq_ediv_of_nonneg _ (by omega), Int.fdiv_eq_ediv_of_nonneg _ (by omega)]
  have h1 := Int.emod_add_mul_ediv (-m) d
  have h2 := Int.emod_nonneg (-m) (by omega : d ≠ 0)
  have h3 := Int.emod_lt_of_pos (-m) h
  generalize (-m) / d = k at h1 ⊢
  symm
  apply Int.le_antisymm
  · apply Int.le_of_lt_add_one
    apply Int.ediv_lt_of_lt_mul h
    have : (-k + 1) * d = d - d * k := by rw [Int.add_mul, Int.neg_mul, Int.one_mul, Int.mul_comm]; omega
    rw [this]
    omega
  · apply (Int.le_ediv_iff_mul_le h).mpr
    have : -k * d = -(d * k) := by rw [Int.neg_mul, Int.mul_comm]
    rw [this]
    omega
def sgn (z : Int) : Int := if z = 0 then 0 else if z > 0 then 1 else -1
theorem ten_sm : ∀ i : Nat, Sm (4 * i + 1) (10 ^ i)
  | 0 => by decide
  | i + 1 => by
    rw [Int.pow_succ]
    exact ((ten_sm i).mul (show Sm 4 10 by decide)).mono (by omega)
theorem fdiv_nn {m d : Int} (h : 0 ≤ m) (hd : 0 < d) : 0 ≤ m.fdiv d := by
  rw [Int.fdiv_eq_ediv_of_nonneg _ (by omega)]
  exact Int.ediv_nonneg h (by omega)
theorem fdiv_sm {m d : Int} {a : Nat} (h : 0 ≤ m) (hd : 0 < d) (s : Sm a m) : Sm a (m.fdiv d) := by
  have h1 := fdiv_nn h hd
  have h2 : m.fdiv d ≤ m := by
    rw [Int.fdiv_eq_ediv_of_nonneg _ (by omega)]
    exact Int.ediv_le_self d h
  unfold Sm at *
  omega
open TL
local macro_rules | `(tactic| walk_at "dl") => `(tactic| first
  | with_reducible refine s_seq ?_
  | with_reducible refine s_if (t_test ?_)
  | with_reducible refine s_if ?_
  | with_reducible refine s_ret ?_
  | with_reducible refine s_par ?_
  | with_reducible refine s_par3 ?_
  | ((with_reducible show S _ (tAsg _ (gTup _ _ _)) _ _); refine s_set2 rfl ?_)
  | with_reducible refine s_set ?_
  | with_reducible refine s_next ?_
  | ((with_reducible show DL.E _ (tOp (rIx _) (tVar _) (tC (V.int 3))) _ _); refine e_bagL rfl ?_)
  | ((with_reducible show DL.E _ (tOp (rIx _) (tVar _) (tC (V.int _))) _ _); refine e_bagI rfl (by decide) (fun c => ?_))
  | ((with_reducible show S _ (tAsg _ (gSub _ _ _)) _ _); refine s_bagSet rfl (by decide) ?_)
  | ((with_reducible show S _ (tAugS _ _ _ _ _ _) _ _); refine s_bagAug rfl (by decide) ?_)
  | ((with_reducible show DL.E _ (tVar _) _ _); refine e_var rfl (fun h => nomatch h) ?_)
  | with_reducible refine e_int ?_
  | with_reducible refine e_str ?_
  | with_reducible refine e_bl ?_
  | with_reducible refine e_non ?_
  | with_reducible refine e_op (op2_or op2_I0 op2_addS) ?_
  | with_reducible refine e_op (op2_or op2_I op2_mulS) ?_
  | with_reducible refine e_op op2_I0 ?_
  | with_reducible refine e_op op2_B0 ?_
  | with_reducible refine e_op op2_I ?_
  | with_reducible refine e_op op2_ix ?_
  | with_reducible refine e_op (op2_or op2_eqSt op2_eqD) ?_
  | with_reducible refine e_op op2_neD ?_
  | with_reducible refine e_neg ?_
  | with_reducible refine e_tup ?_
  | with_reducible refine e_lst ?_
  | with_reducible refine a_cons ?_
  | with_reducible refine a_nil ?_
  | with_reducible refine e_call rfl ?_
  | with_reducible refine e_cb cl_len ?_
  | with_reducible refine e_cb cl_abs ?_
  | with_reducible refine e_cb cl_int1 ?_
  | with_reducible refine e_cb cl_max2 ?_
  | with_reducible refine e_cb cl_strI ?_
  | with_reducible refine e_cb cl_gcd ?_
  | with_reducible refine e_cb cl_divmod ?_
  | with_reducible refine e_cb cl_repr ?_
  | with_reducible refine e_zfill ?_
  | with_reducible refine e_join ?_
  | with_reducible refine e_revL ?_
  | with_reducible refine e_slS ?_
  | with_reducible refine e_slL ?_
  | with_reducible refine e_op op2_catL ?_
  | with_reducible refine o_none ?_
  | with_reducible refine o_some ?_
  | with_reducible refine e_if (t_test ?_)
  | with_reducible refine e_if ?_
  | with_reducible refine e_andV ?_
  | with_reducible refine t_test ?_
  | with_reducible refine t_B ?_
  | with_reducible refine t_not ?_
  | with_reducible refine t_and ?_
  | ((with_reducible show En.nx _ _); dsimp only [List.set])
  | ((with_reducible show En.rt _ _); dsimp only)
  | ((with_reducible show _ ≤ sizeLine ∧ _); refine And.intro (Nat.le_of_ble_eq_true rfl) ?_)
  | ((with_reducible show List.all _ _ = true ∧ _); refine And.intro rfl ?_)
  | ((with_reducible show SeqAt.shaped _ = true ∧ _); refine And.intro rfl ?_)
  | ((with_reducible show CPow _ _ ∧ _); refine And.intro ⟨by decide, by decide, by decide⟩ ?_)
  | ((with_reducible show (_ : Int) ≠ _ ∧ _); refine And.intro (by decide) ?_)
  | ((with_reducible show CMulB _ _ ∧ _); refine And.intro (Or.inr (Or.inl ⟨by decide, by decide⟩)) ?_)
  | ((with_reducible show CMulB _ _ ∧ _); refine And.intro (Or.inr (Or.inr ⟨by decide, by decide⟩)) ?_)
  | ((with_reducible show notOwn _ ∧ _); refine And.intro trivial ?_)
  | refine Exists.intro _ (And.intro rfl ?_)
  | refine Exists.intro _ (Exists.intro _ (And.intro rfl ?_))
  | refine Or.inl (Exists.intro _ (Exists.intro _ (And.intro rfl (And.intro rfl ?_))))
  | refine Or.inr (Exists.intro _ (Exists.intro _ (And.intro rfl (And.intro rfl ?_))))
  | refine Exists.intro _ (Exists.intro _ (And.intro rfl (And.intro rfl ?_))))
local macro_rules | `(tactic| walk_at "dx") => `(tactic| ((fail_if_success (with_reducible show DL.E _ (tIf _ _ _) _ _)); (fail_if_success (with_reducible show DL.T _ (tAnd _ _) _ _)); walk_at "dl"))
section
variable {P : Program} {w : World} {K : PySem.W.Frag} {mg : Str → Option Value} {bs : Heap}
def gs_shown : Gs := fun xs R => xs.length = 1 ∧ ∃ n : Int, xs = [.dat (.int n)] ∧ 0 ≤ n ∧ Sm 1900 n ∧ R (.str (Sn n))
theorem ok_shown (T : Txt K mg) (nd : bs.NoDigits) : FnG P w K mg bs 1 T.a_shown T.d_shown ["number"] (spG K gs_shown) := by
  refine fnD T.F_shown sc_shown (fun xs R h => h.1) (fun cd A out s H E hg hr => ⟨_, (pss_cons (ps_set (i := 1) sc_shown.nd rfl (.inl rfl) (pe_lst pa_nil))
  (pss_cons (ps_while PassesOwn.never (pt_cmpR op_ge (pv 0) (pe_op op_pow pe_int pe_int) (nomark _))
  (pss_cons (ps_asg (pe_callB call_divmodW (by rfl) T.z_divmod (by decide +kernel) (pa_cons (pv 0) (pa_cons (pe_op op_pow pe_int pe_int) pa_nil))) (pg_tup (by rfl) (pgs_cons (pg_name (i := 0) sc_shown.nd rfl (.inl rfl)) (pgs_cons (pg_name (i := 2) sc_shown.nd rfl (.inl rfl)) pgs_nil))))
  (pss_one (ps_expr (pe_bm PySem.F.plainAttrs_list PySem.F.slot_list_append PySem.F.type_list_append mt_append (pv 1) (pa_cons (pe_bm PySem.F.plainAttrs_str PySem.F.slot_str_zfill PySem.F.type_str_zfill mt_zfill (pe_callTy call_str_int (by rfl) T.z_str (by decide +kernel) (pa_cons (pv 2) pa_nil)) (pa_cons pe_int pa_nil)) pa_nil))))))
  (pss_cons (ps_expr (pe_bm PySem.F.plainAttrs_list PySem.F.slot_list_append PySem.F.type_list_append mt_append (pv 1) (pa_cons (pe_callTy call_str_int (by rfl) T.z_str (by decide +kernel) (pa_cons (pv 0) pa_nil)) pa_nil)))
  (pss_one (ps_ret (pe_join pe_str (pe_revL (pv 1)))))))), fun H0 own0 bg xs R h => ?_⟩)
  obtain ⟨_, n, rfl, h0, sn, hR⟩ := h
  change S _ _ [.dat (.int n), .no, .no] _
  try dsimp only [cxOf]
  refine s_seq (s_setOwn (a_nil ⟨[], rfl, Nat.zero_le _, fun p => ?_⟩))
  dsimp only [List.set]
  refine s_seq (s_while (fun m ρ => ∃ (k : Int) (ss : List Str) (x : Sl), ρ = [.dat (.int k), .own p (ss.map PyData.str), x] ∧ m = k.toNat ∧ 0 ≤ k ∧ k ≤ n ∧
    tl (Sn n) = tl (Sn k) ++ (ss.reverse.map tl).flatten ∧ (ss = [] ∨ 2 ^ ss.length * k ≤ n ∧ 1 ≤ k)) (m0 := n.toNat) ⟨n, [], .no, rfl, rfl, h0, Int.le_refl _, by simp, .inl rfl⟩ ?_)
  rintro m ρ ⟨k, ss, x, rfl, rfl, k0, kn, ht, hl⟩
  have slen : ss.length < 1900 := by
    rcases hl with hl | ⟨hl, h1⟩
    · rw [hl]
      decide
    · refine (Nat.pow_lt_pow_iff_right (a := 2) (by decide)).mp ?_
      have a1 : n.natAbs < 2 ^ 1900 := sn
      have a2 : (2 : Int) ^ ss.length * 1 ≤ 2 ^ ss.length * k := Int.mul_le_mul_of_nonneg_left h1 (Int.pow_nonneg (by decide))
      have a3 : ((2 ^ ss.length : Nat) : Int) = (2 : Int) ^ ss.length := by
        rw [Int.natCast_pow]
        rfl
      omega
  have sk : Sm 1900 k := by
    unfold Sm at sn ⊢
    omega
  repeat walk_at "dl"
  refine ite2 (fun hc => ?_) (fun hc => ?_)
  · have hb : (10 : Int) ^ 60 ≤ k := of_decide_eq_true hc
    repeat walk_at "dl"
    have p0 : (0 : Int) < 10 ^ 60 := by decide
    refine ⟨⟨p0, (sk.mono (by decide : 1900 ≤ 9000)).fd (by decide) |>.2⟩, ?_⟩
    repeat walk_at "dl"
    refine s_app (p := p) (xs := ss.map PyData.str) rfl ?_ ?_
    · rw [List.length_map]
      exact Nat.lt_of_lt_of_le slen (Nat.le_of_ble_eq_true rfl)
    repeat walk_at "dl"
    have hr : 0 ≤ k % 10 ^ 60 := Int.emod_nonneg _ (by omega)
    have hl60 : k % 10 ^ 60 < 10 ^ 60 := Int.emod_lt_of_pos _ p0
    have hq : 1 ≤ k / 10 ^ 60 := (Int.le_ediv_iff_mul_le p0).mpr (by omega)
    refine ⟨(show Sm 1920 (k % 10 ^ 60) by
      refine Sm.mono (a := 200) ?_ (by decide)
      unfold Sm
      have : (10 : Int) ^ 60 < 2 ^ 200 := by decide
      omega).log (by decide), ?_⟩
    repeat walk_at "dl"
    refine ⟨by decide, ?_⟩
    repeat walk_at "dl"
    have less : k / 10 ^ 60 < k := by
      have e := Int.emod_add_mul_ediv k (10 ^ 60)
      omega
    refine ⟨(k / 10 ^ 60).toNat, by omega, k / 10 ^ 60, ss ++ [Txt.zfill (Sn (k % 10 ^ 60)) 60], .dat (.int (k % 10 ^ 60)), ?_, rfl, by omega, by omega, ?_, .inr ⟨?_, hq⟩⟩
    · rw [List.map_append]
      rfl
    · rw [ht, Sn_split hb, List.reverse_append, List.append_assoc]
      rfl
    · rw [List.length_append, List.length_singleton, Int.pow_succ]
      have e := Int.emod_add_mul_ediv k (10 ^ 60)
      rcases hl with hl | ⟨hl, h1⟩
      · rw [hl]
        show (2 : Int) ^ 0 * 2 * (k / 10 ^ 60) ≤ n
        omega
      · refine Int.le_trans ?_ hl
        rw [Int.mul_assoc]
        exact Int.mul_le_mul_of_nonneg_left (by omega) (Int.pow_nonneg (by decide))
  · repeat walk_at "dl"
    refine s_app (p := p) (xs := ss.map PyData.str) rfl ?_ ?_
    · rw [List.length_map]
      exact Nat.lt_of_lt_of_le slen (Nat.le_of_ble_eq_true rfl)
    repeat walk_at "dl"
    refine ⟨(sk.mono (by decide : 1900 ≤ 1920)).log (by decide), ?_⟩
    repeat walk_at "dl"
    refine ⟨_, .inr ⟨p, rfl⟩, ?_⟩
    have whole : tl (Txt.join "" ((ss ++ [Sn k]).reverse)) = tl (Sn n) := by
      rw [tl_join0 (by decide +kernel), ht, List.reverse_append]
      rfl
    refine ⟨(ss ++ [Sn k]).reverse, .inl ?_, ?_, ?_⟩
    · rw [List.map_reverse, List.map_append]
      rfl
    · have e0 : ("" : Str).length = 0 := by decide +kernel
      rw [e0, Nat.mul_zero, Nat.add_zero, flat_len, ← tl_join0 (y := "") (by decide +kernel), whole, tl_len]
      have := Sn_len h0 sn
      omega
    · refine ⟨_, rfl, ?_⟩
      rw [tl_inj whole]
      exact hR
end
section
variable {P : Program} {w : World} {K : PySem.W.Frag} {mg : Str → Option Value} {bs : Heap}
def gs_reduced : Gs := fun xs R => xs.length = 2 ∧ ∃ n d : Int, xs = [.dat (.int n), .dat (.int d)] ∧ d ≠ 0 ∧ Sm 9000 n ∧ Sm 9000 d ∧ R (fr (red n d))
theorem ok_reduced (T : Txt K mg) (nd : bs.NoDigits) : FnG P w K mg bs 1 T.a_reduced T.d_reduced ["n", "d"] (spG K gs_reduced) := by
  refine fnD T.F_reduced sc_reduced (fun xs R h => h.1) (fun cd A out s H E hg hr => ⟨_, (pss_cons (ps_set (i := 2) sc_reduced.nd rfl (.inl rfl) (pe_callBfun cr_gcd (by rfl) T.m_gcd (pa_cons (pv 0) (pa_cons (pv 1) pa_nil))))
  (pss_cons (ps_if (pt_cmpR op_lt (pv 1) pe_int (nomark _))
  (pss_one (ps_set (i := 2) sc_reduced.nd rfl (.inl rfl) (pe_un un_neg (pv 2))))
  pss_nil)
  (pss_one (ps_ret (pe_tup (pa_cons (pe_op op_fdivA (pv 0) (pv 2)) (pa_cons (pe_op op_fdivA (pv 1) (pv 2)) pa_nil))))))), fun H0 own0 bg xs R h => ?_⟩)
  obtain ⟨_, n, d, rfl, hd, sn, sd, hR⟩ := h
  change S _ _ [.dat (.int n), .dat (.int d), .no] _
  try dsimp only [cxOf]
  repeat walk_at "dl"
  have ne := cm_ne (n := n) hd
  refine ite2 (fun hc => ?_) (fun hc => ?_)
  · have e : cm n d = -((Nat.gcd n.natAbs d.natAbs : Nat) : Int) := if_pos (of_decide_eq_true hc)
    unfold red at hR
    rw [e] at ne hR
    repeat walk_at "dl"
    refine ⟨sn.fd ne, ?_⟩
    repeat walk_at "dl"
    refine ⟨sd.fd ne, ?_⟩
    repeat walk_at "dl"
    exact hR
  · have e : cm n d = ((Nat.gcd n.natAbs d.natAbs : Nat) : Int) := if_neg (fun z => hc (decide_eq_true z))
    unfold red at hR
    rw [e] at ne hR
    repeat walk_at "dl"
    refine ⟨sn.fd ne, ?_⟩
    repeat walk_at "dl"
    refine ⟨sd.fd ne, ?_⟩
    repeat walk_at "dl"
    exact hR
end
section
variable {P : Program} {w : World} {K : PySem.W.Frag} {mg : Str → Option Value} {bs : Heap}
def gs_added : Gs := fun xs R => xs.length = 2 ∧ ∃ p q : Int × Int, xs = [.dat (fr p), .dat (fr q)] ∧ (Sm 1000 p.1 ∧ Sm 1000 p.2 ∧ Sm 1000 q.1 ∧ Sm 1000 q.2 ∧ p.2 ≠ 0 ∧ q.2 ≠ 0) ∧ R (fr (red (p.1 * q.2 + q.1 * p.2) (p.2 * q.2)))
theorem ok_added (T : Txt K mg) (nd : bs.NoDigits) : FnG P w K mg bs 2 T.a_added T.d_added ["one", "other"] (spG K gs_added) := by
  have C_reduced := ok_reduced (P := P) (w := w) (bs := bs) T nd
  refine fnD T.F_added sc_added (fun xs R h => h.1) (fun cd A out s H E hg hr => ⟨_, (pss_one (ps_ret (pe_callG C_reduced hg (hr.mono (by decide)) (by rfl) T.g_reduced T.F_reduced.kp T.b_reduced (pa_cons (pe_op op_addG (pe_op op_mulG (pe_ix ix_seq (pv 0) pe_int (fun _ _ => rfl)) (pe_ix ix_seq (pv 1) pe_int (fun _ _ => rfl))) (pe_op op_mulG (pe_ix ix_seq (pv 1) pe_int (fun _ _ => rfl)) (pe_ix ix_seq (pv 0) pe_int (fun _ _ => rfl)))) (pa_cons (pe_op op_mulG (pe_ix ix_seq (pv 0) pe_int (fun _ _ => rfl)) (pe_ix ix_seq (pv 1) pe_int (fun _ _ => rfl))) pa_nil))))), fun H0 own0 bg xs R h => ?_⟩)
  obtain ⟨_, ⟨a, b⟩, ⟨c, d⟩, rfl, ⟨sa, sb, sc, sd, nb, nd2⟩, hR⟩ := h
  change S _ _ [.dat (.tuple [.int a, .int b]), .dat (.tuple [.int c, .int d])] _
  try dsimp only [cxOf]
  repeat walk_at "dl"
  refine ⟨Sm.mulX sa sd (by decide), ?_⟩
  repeat walk_at "dl"
  refine ⟨Sm.mulX sc sb (by decide), ?_⟩
  repeat walk_at "dl"
  refine ⟨Sm.mulX sb sd (by decide), ?_⟩
  repeat walk_at "dl"
  exact ⟨rfl, _, _, rfl, Int.mul_ne_zero nb nd2, ((sa.mul sd).add (sc.mul sb)).mono (by decide), (sb.mul sd).mono (by decide), _, rfl, hR⟩
end
section
variable {P : Program} {w : World} {K : PySem.W.Frag} {mg : Str → Option Value} {bs : Heap}
def gs_times : Gs := fun xs R => xs.length = 2 ∧ ∃ p q : Int × Int, xs = [.dat (fr p), .dat (fr q)] ∧ (Sm 1000 p.1 ∧ Sm 1000 p.2 ∧ Sm 1000 q.1 ∧ Sm 1000 q.2 ∧ p.2 ≠ 0 ∧ q.2 ≠ 0) ∧ R (fr (red (p.1 * q.1) (p.2 * q.2)))
theorem ok_times (T : Txt K mg) (nd : bs.NoDigits) : FnG P w K mg bs 2 T.a_times T.d_times ["one", "other"] (spG K gs_times) := by
  have C_reduced := ok_reduced (P := P) (w := w) (bs := bs) T nd
  refine fnD T.F_times sc_times (fun xs R h => h.1) (fun cd A out s H E hg hr => ⟨_, (pss_one (ps_ret (pe_callG C_reduced hg (hr.mono (by decide)) (by rfl) T.g_reduced T.F_reduced.kp T.b_reduced (pa_cons (pe_op op_mulG (pe_ix ix_seq (pv 0) pe_int (fun _ _ => rfl)) (pe_ix ix_seq (pv 1) pe_int (fun _ _ => rfl))) (pa_cons (pe_op op_mulG (pe_ix ix_seq (pv 0) pe_int (fun _ _ => rfl)) (pe_ix ix_seq (pv 1) pe_int (fun _ _ => rfl))) pa_nil))))), fun H0 own0 bg xs R h => ?_⟩)
  obtain ⟨_, ⟨a, b⟩, ⟨c, d⟩, rfl, ⟨sa, sb, sc, sd, nb, nd2⟩, hR⟩ := h
  change S _ _ [.dat (.tuple [.int a, .int b]), .dat (.tuple [.int c, .int d])] _
  try dsimp only [cxOf]
  repeat walk_at "dl"
  refine ⟨Sm.mulX sa sc (by decide), ?_⟩
  repeat walk_at "dl"
  refine ⟨Sm.mulX sb sd (by decide), ?_⟩
  repeat walk_at "dl"
  exact ⟨rfl, _, _, rfl, Int.mul_ne_zero nb nd2, (sa.mul sc).mono (by decide), (sb.mul sd).mono (by decide), _, rfl, hR⟩
end
section
variable {P : Program} {w : World} {K : PySem.W.Frag} {mg : Str → Option Value} {bs : Heap}
def gs_over : Gs := fun xs R => xs.length = 2 ∧ ∃ p q : Int × Int, xs = [.dat (fr p), .dat (fr q)] ∧ (Sm 1000 p.1 ∧ Sm 1000 p.2 ∧ Sm 1000 q.1 ∧ Sm 1000 q.2 ∧ p.2 ≠ 0 ∧ q.1 ≠ 0) ∧ R (fr (red (p.1 * q.2) (p.2 * q.1)))
theorem ok_over (T : Txt K mg) (nd : bs.NoDigits) : FnG P w K mg bs 2 T.a_over T.d_over ["one", "other"] (spG K gs_over) := by
  have C_reduced := ok_reduced (P := P) (w := w) (bs := bs) T nd
  refine fnD T.F_over sc_over (fun xs R h => h.1) (fun cd A out s H E hg hr => ⟨_, (pss_one (ps_ret (pe_callG C_reduced hg (hr.mono (by decide)) (by rfl) T.g_reduced T.F_reduced.kp T.b_reduced (pa_cons (pe_op op_mulG (pe_ix ix_seq (pv 0) pe_int (fun _ _ => rfl)) (pe_ix ix_seq (pv 1) pe_int (fun _ _ => rfl))) (pa_cons (pe_op op_mulG (pe_ix ix_seq (pv 0) pe_int (fun _ _ => rfl)) (pe_ix ix_seq (pv 1) pe_int (fun _ _ => rfl))) pa_nil))))), fun H0 own0 bg xs R h => ?_⟩)
  obtain ⟨_, ⟨a, b⟩, ⟨c, d⟩, rfl, ⟨sa, sb, sc, sd, nb, nd2⟩, hR⟩ := h
  change S _ _ [.dat (.tuple [.int a, .int b]), .dat (.tuple [.int c, .int d])] _
  try dsimp only [cxOf]
  repeat walk_at "dl"
  refine ⟨Sm.mulX sa sd (by decide), ?_⟩
  repeat walk_at "dl"
  refine ⟨Sm.mulX sb sc (by decide), ?_⟩
  repeat walk_at "dl"
  exact ⟨rfl, _, _, rfl, Int.mul_ne_zero nb nd2, (sa.mul sd).mono (by decide), (sb.mul sc).mono (by decide), _, rfl, hR⟩
end
section
variable {P : Program} {w : World} {K : PySem.W.Frag} {mg : Str → Option Value} {bs : Heap}
def gs_compared : Gs := fun xs R => xs.length = 2 ∧ ∃ p q : Int × Int, xs = [.dat (fr p), .dat (fr q)] ∧ (Sm 1000 p.1 ∧ Sm 1000 p.2 ∧ Sm 1000 q.1 ∧ Sm 1000 q.2) ∧ R (.int (sgn (p.1 * q.2 - q.1 * p.2)))
theorem ok_compared (T : Txt K mg) (nd : bs.NoDigits) : FnG P w K mg bs 1 T.a_compared T.d_compared ["one", "other"] (spG K gs_compared) := by
  refine fnD T.F_compared sc_compared (fun xs R h => h.1) (fun cd A out s H E hg hr => ⟨_, (pss_cons (ps_set (i := 2) sc_compared.nd rfl (.inl rfl) (pe_op op_sub (pe_op op_mulG (pe_ix ix_seq (pv 0) pe_int (fun _ _ => rfl)) (pe_ix ix_seq (pv 1) pe_int (fun _ _ => rfl))) (pe_op op_mulG (pe_ix ix_seq (pv 1) pe_int (fun _ _ => rfl)) (pe_ix ix_seq (pv 0) pe_int (fun _ _ => rfl)))))
  (pss_cons (ps_if (pt_cmpR op_lt (pv 2) pe_int (nomark _))
  (pss_one (ps_ret (pe_un un_neg pe_int)))
  pss_nil)
  (pss_one (ps_ret (pe_ifExp (pt_cmpR op_gt (pv 2) pe_int (nomark _)) pe_int pe_int))))), fun H0 own0 bg xs R h => ?_⟩)
  obtain ⟨_, ⟨a, b⟩, ⟨c, d⟩, rfl, ⟨sa, sb, sc, sd⟩, hR⟩ := h
  change S _ _ [.dat (.tuple [.int a, .int b]), .dat (.tuple [.int c, .int d]), .no] _
  try dsimp only [cxOf]
  repeat walk_at "dl"
  refine ⟨Sm.mulX sa sd (by decide), ?_⟩
  repeat walk_at "dl"
  refine ⟨Sm.mulX sc sb (by decide), ?_⟩
  have hR : R (.int (sgn (a * d - c * b))) := hR
  repeat walk_at "dl"
  generalize a * d - c * b = z at hR ⊢
  unfold sgn at hR
  refine ite2 (fun hc => ?_) (fun hc => ?_)
  · rw [if_neg (by have := of_decide_eq_true hc; omega), if_neg (by have := of_decide_eq_true hc; omega)] at hR
    repeat walk_at "dl"
    exact hR
  · have h0 : ¬ z < 0 := fun e => hc (decide_eq_true e)
    repeat walk_at "dl"
    refine ite2 (fun hc => ?_) (fun hc => ?_)
    · have := of_decide_eq_true hc
      rw [if_neg (by omega), if_pos (by omega)] at hR
      repeat walk_at "dl"
      exact hR
    · have h1 : ¬ 0 < z := fun e => hc (decide_eq_true e)
      rw [if_pos (by omega)] at hR
      repeat walk_at "dl"
      exact hR
end
section
variable {P : Program} {w : World} {K : PySem.W.Frag} {mg : Str → Option Value} {bs : Heap}
def gs_half_to : Gs := fun xs R => xs.length = 1 ∧ ∃ k : Int, xs = [.dat (.int k)] ∧ 0 ≤ k ∧ k ≤ 1000 ∧ R (.tuple [.int 1, .int (1 * 2 ^ k.toNat)])
theorem ok_half_to (T : Txt K mg) (nd : bs.NoDigits) : FnG P w K mg bs 1 T.a_half_to T.d_half_to ["e"] (spG K gs_half_to) := by
  refine fnD T.F_half_to sc_half_to (fun xs R h => h.1) (fun cd A out s H E hg hr => ⟨_, (pss_one (ps_ret (pe_tup (pa_cons pe_int (pa_cons (pe_op op_shlW pe_int (pv 0)) pa_nil))))), fun H0 own0 bg xs R h => ?_⟩)
  obtain ⟨_, k, rfl, k0, k1, hR⟩ := h
  change S _ _ [.dat (.int k)] _
  try dsimp only [cxOf]
  repeat walk_at "dl"
  refine ⟨⟨k0, by rw [show Builtin.Int.intBits 1 = 1 by decide +kernel]; omega⟩, ?_⟩
  repeat walk_at "dl"
  exact hR
end
section
variable {P : Program} {w : World} {K : PySem.W.Frag} {mg : Str → Option Value} {bs : Heap}
def gs__tens : Gs := fun xs R => xs.length = 1 ∧ ∃ k : Int, xs = [.dat (.int k)] ∧ 0 ≤ k ∧ k ≤ 1000 ∧ R (.int (10 ^ k.toNat))
theorem ok__tens (T : Txt K mg) (nd : bs.NoDigits) : FnG P w K mg bs 1 T.a__tens T.d__tens ["places"] (spG K gs__tens) := by
  refine fnD T.F__tens sc__tens (fun xs R h => h.1) (fun cd A out s H E hg hr => ⟨_, (pss_cons (ps_set (i := 1) sc__tens.nd rfl (.inl rfl) pe_int)
  (pss_cons (ps_for PassesOwn.never rfl (pi_range1 (by rfl) T.z_range (pa_cons (pv 0) pa_nil)) (pg_name (i := 2) sc__tens.nd rfl (.inl rfl))
  (pss_one (ps_set (i := 1) sc__tens.nd rfl (.inl rfl) (pe_op op_mulG (pv 1) pe_int))))
  (pss_one (ps_ret (pv 1))))), fun H0 own0 bg xs R h => ?_⟩)
  obtain ⟨_, k, rfl, k0, k1, hR⟩ := h
  change S _ _ [.dat (.int k), .no, .no] _
  try dsimp only [cxOf]
  repeat walk_at "dl"
  refine s_forR1 (a_cons ?_)
  repeat walk_at "dl"
  refine ⟨⟨by omega, by omega⟩, fun i ρ => ∃ x, ρ = [.dat (.int k), .dat (.int (10 ^ i)), x], ⟨.no, rfl⟩, ?_, ?_⟩
  · rintro i ρ hi ⟨x, rfl⟩
    repeat walk_at "dl"
    exact ⟨_, by rw [Int.pow_succ]⟩
  · rintro ρ ⟨x, rfl⟩
    repeat walk_at "dl"
    exact hR
end
section
variable {P : Program} {w : World} {K : PySem.W.Frag} {mg : Str → Option Value} {bs : Heap}
def gs__with_point : Gs := fun xs R => xs.length = 2 ∧ ∃ n k : Int, xs = [.dat (.int n), .dat (.int k)] ∧ 0 ≤ n ∧ Sm 1900 n ∧ 0 ≤ k ∧ k ≤ 2000 ∧ R (.str (wp n k))
theorem ok__with_point (T : Txt K mg) (nd : bs.NoDigits) : FnG P w K mg bs 2 T.a__with_point T.d__with_point ["number", "places"] (spG K gs__with_point) := by
  have C_shown := ok_shown (P := P) (w := w) (bs := bs) T nd
  refine fnD T.F__with_point sc__with_point (fun xs R h => h.1) (fun cd A out s H E hg hr => ⟨_, (pss_cons (ps_set (i := 2) sc__with_point.nd rfl (.inl rfl) (pe_bm PySem.F.plainAttrs_str PySem.F.slot_str_zfill PySem.F.type_str_zfill mt_zfill (pe_callG C_shown hg (hr.mono (by decide)) (by rfl) T.g_shown T.F_shown.kp T.b_shown (pa_cons (pv 0) pa_nil)) (pa_cons (pe_op op_addG (pv 1) pe_int) pa_nil)))
  (pss_cons (ps_if (pt_cmpR (op_eqG hr.units) (pv 1) pe_int (nomark _))
  (pss_one (ps_ret (pv 2)))
  pss_nil)
  (pss_one (ps_ret (pe_op op_addG (pe_op op_addG (pe_slice sl_str (pv 2) po_none (po_some (pe_op op_sub (pe_callB call_len (by rfl) T.z_len (by decide +kernel) (pa_cons (pv 2) pa_nil)) (pv 1)))) pe_str) (pe_slice sl_str (pv 2) (po_some (pe_op op_sub (pe_callB call_len (by rfl) T.z_len (by decide +kernel) (pa_cons (pv 2) pa_nil)) (pv 1))) po_none)))))), fun H0 own0 bg xs R h => ?_⟩)
  obtain ⟨_, n, k, rfl, h0, sn, k0, k1, hR⟩ := h
  change S _ _ [.dat (.int n), .dat (.int k), .no] _
  try dsimp only [cxOf]
  repeat walk_at "dl"
  refine ⟨rfl, n, rfl, h0, sn, ?_⟩
  repeat walk_at "dl"
  refine ⟨padok k0 k1, ?_⟩
  obtain ⟨z1, z2⟩ := zf_len h0 sn k0 k1
  unfold wp at hR
  generalize Txt.zfill (Sn n) (k + 1) = z at z1 z2 hR ⊢
  have zl1 : z.length ≤ sizeLine := Nat.le_trans z1 (Nat.le_of_ble_eq_true rfl)
  repeat walk_at "dl"
  refine ite2 (fun hc => ?_) (fun hc => ?_)
  · rw [if_pos (eq_of_beq hc)] at hR
    repeat walk_at "dl"
    exact hR
  · rw [if_neg (fun e => hc (by rw [e]; rfl))] at hR
    repeat walk_at "dl"
    refine ⟨zl1, ?_⟩
    repeat walk_at "dl"
    refine ⟨_, _, rfl, if_pos zl1, ?_⟩
    repeat walk_at "dl"
    refine ⟨cut_fits z1, ?_⟩
    repeat walk_at "dl"
    refine ⟨zl1, ?_⟩
    repeat walk_at "dl"
    refine ⟨_, _, rfl, if_pos zl1, ?_⟩
    repeat walk_at "dl"
    refine ⟨cut_fits2 z1, ?_⟩
    repeat walk_at "dl"
    exact hR
end
section
variable {P : Program} {w : World} {K : PySem.W.Frag} {mg : Str → Option Value} {bs : Heap}
def gs_decimal_below : Gs := fun xs R => xs.length = 2 ∧ ∃ (p : Int × Int) (k : Int), xs = [.dat (fr p), .dat (.int k)] ∧ (0 ≤ p.1 ∧ 0 < p.2 ∧ Sm 1000 p.1 ∧ 0 ≤ k ∧ k ≤ 100) ∧ R (.str (wp ((p.1 * 10 ^ k.toNat).fdiv p.2) k))
theorem ok_decimal_below (T : Txt K mg) (nd : bs.NoDigits) : FnG P w K mg bs 3 T.a_decimal_below T.d_decimal_below ["one", "places"] (spG K gs_decimal_below) := by
  have C__tens := ok__tens (P := P) (w := w) (bs := bs) T nd
  have C__with_point := ok__with_point (P := P) (w := w) (bs := bs) T nd
  refine fnD T.F_decimal_below sc_decimal_below (fun xs R h => h.1) (fun cd A out s H E hg hr => ⟨_, (pss_one (ps_ret (pe_callG C__with_point hg (hr.mono (by decide)) (by rfl) T.g__with_point T.F__with_point.kp T.b__with_point (pa_cons (pe_op op_fdivA (pe_op op_mulG (pe_ix ix_seq (pv 0) pe_int (fun _ _ => rfl)) (pe_callG C__tens hg (hr.mono (by decide)) (by rfl) T.g__tens T.F__tens.kp T.b__tens (pa_cons (pv 1) pa_nil))) (pe_ix ix_seq (pv 0) pe_int (fun _ _ => rfl))) (pa_cons (pv 1) pa_nil))))), fun H0 own0 bg xs R h => ?_⟩)
  obtain ⟨_, ⟨a, b⟩, k, rfl, ⟨ha, hb, sa, k0, k1⟩, hR⟩ := h
  change S _ _ [.dat (.tuple [.int a, .int b]), .dat (.int k)] _
  try dsimp only [cxOf]
  repeat walk_at "dl"
  refine ⟨rfl, k, rfl, k0, by omega, ?_⟩
  have st := (ten_sm k.toNat).mono (show 4 * k.toNat + 1 ≤ 500 by omega)
  repeat walk_at "dl"
  refine ⟨Sm.mulX sa st (by decide), ?_⟩
  repeat walk_at "dl"
  have sm := sa.mul st
  refine ⟨(sm.mono (by decide)).fd (show b ≠ 0 by have : 0 < b := hb; omega), ?_⟩
  repeat walk_at "dl"
  have m0 : 0 ≤ a * 10 ^ k.toNat := Int.mul_nonneg ha (Int.pow_nonneg (by decide))
  exact ⟨rfl, _, _, rfl, fdiv_nn m0 hb, (fdiv_sm m0 hb sm).mono (by decide), k0, by omega, _, rfl, hR⟩
end
section
variable {P : Program} {w : World} {K : PySem.W.Frag} {mg : Str → Option Value} {bs : Heap}
def gs_decimal_above : Gs := fun xs R => xs.length = 2 ∧ ∃ (p : Int × Int) (k : Int), xs = [.dat (fr p), .dat (.int k)] ∧ (0 ≤ p.1 ∧ 0 < p.2 ∧ Sm 1000 p.1 ∧ Sm 1000 p.2 ∧ 0 ≤ k ∧ k ≤ 100) ∧ R (.str (wp ((p.1 * 10 ^ k.toNat + p.2 - 1).fdiv p.2) k))
theorem ok_decimal_above (T : Txt K mg) (nd : bs.NoDigits) : FnG P w K mg bs 3 T.a_decimal_above T.d_decimal_above ["one", "places"] (spG K gs_decimal_above) := by
  have C__tens := ok__tens (P := P) (w := w) (bs := bs) T nd
  have C__with_point := ok__with_point (P := P) (w := w) (bs := bs) T nd
  refine fnD T.F_decimal_above sc_decimal_above (fun xs R h => h.1) (fun cd A out s H E hg hr => ⟨_, (pss_one (ps_ret (pe_callG C__with_point hg (hr.mono (by decide)) (by rfl) T.g__with_point T.F__with_point.kp T.b__with_point (pa_cons (pe_un un_neg (pe_op op_fdivA (pe_op op_mulG (pe_un un_neg (pe_ix ix_seq (pv 0) pe_int (fun _ _ => rfl))) (pe_callG C__tens hg (hr.mono (by decide)) (by rfl) T.g__tens T.F__tens.kp T.b__tens (pa_cons (pv 1) pa_nil))) (pe_ix ix_seq (pv 0) pe_int (fun _ _ => rfl)))) (pa_cons (pv 1) pa_nil))))), fun H0 own0 bg xs R h => ?_⟩)
  obtain ⟨_, ⟨a, b⟩, k, rfl, ⟨ha, hb, sa, sb, k0, k1⟩, hR⟩ := h
  change S _ _ [.dat (.tuple [.int a, .int b]), .dat (.int k)] _
  try dsimp only [cxOf]
  repeat walk_at "dl"
  refine ⟨rfl, k, rfl, k0, by omega, ?_⟩
  have st := (ten_sm k.toNat).mono (show 4 * k.toNat + 1 ≤ 500 by omega)
  repeat walk_at "dl"
  refine ⟨Sm.mulX sa.neg st (by decide), ?_⟩
  repeat walk_at "dl"
  have sm := sa.neg.mul st
  have hb : 0 < b := hb
  refine ⟨(sm.mono (by decide)).fd (show b ≠ 0 by omega), ?_⟩
  repeat walk_at "dl"
  have m0 : 0 ≤ a * 10 ^ k.toNat := Int.mul_nonneg ha (Int.pow_nonneg (by decide))
  have e : -((-a * 10 ^ k.toNat).fdiv b) = (a * 10 ^ k.toNat + b - 1).fdiv b := by
    rw [Int.neg_mul]
    exact neg_fdiv hb
  have m1 : 0 ≤ a * 10 ^ k.toNat + b - 1 := by omega
  have sm1 : Sm 1600 (a * 10 ^ k.toNat + b - 1) := ((((sa.mul st).mono (by decide : _ ≤ 1500)).add (sb.mono (by decide))).sub (show Sm 1501 1 by decide)).mono (by decide)
  rw [e]
  exact ⟨rfl, _, _, rfl, fdiv_nn m1 hb, (fdiv_sm m1 hb sm1).mono (by decide), k0, by omega, _, rfl, hR⟩
end
section
variable {P : Program} {w : World} {K : PySem.W.Frag} {mg : Str → Option Value} {bs : Heap}
theorem ok__law_bag (T : Txt K mg) (nd : bs.NoDigits) : FnG P w K mg bs 1 T.a__law_bag T.d__law_bag ["script"] (spBag K) := by
  refine fnG T.F__law_bag sc__law_bag (fun vs H Q E h => ?_) (fun cd A out s H vs Q E hg hr h => ?_)
  · obtain ⟨a, ns, rfl, _⟩ := h
    rfl
  · obtain ⟨a, ns, rfl, hS, k⟩ := h
    refine ⟨_, (pss_one (ps_ret (pe_lst (pa_cons pe_int (pa_cons pe_int (pa_cons pe_int (pa_cons (pe_lc (own := [("cell", 1)]) (g := gName 1) (tt := tYes) (by rfl) sc__law_bag.nd (pi_list (pe_slice sl_list (pv 0) po_none (po_some pe_int))) (blkOk_by (own := [("cell", 1)]) (N := ["script", "cell"]) (sc := defScope s__law_bag) (by decide +kernel)) (fun _ _ _ _ _ => pg_name (i := 1) sc__law_bag.nd rfl (Or.inl rfl)) (fun _ _ _ _ _ => pts_nil) (fun _ _ _ _ _ => (pe_callB call_abs (by rfl) T.z_abs (by decide +kernel) (pa_cons (pv 1) pa_nil)))) pa_nil))))))), ?_⟩
    refine bag_go (Q := Q) hS rfl ?_ k
    dsimp only [cxOf, List.map]
    repeat walk_at "dl"
    refine e_lcL ?_
    repeat walk_at "dl"
    have few : (DL.cutD (ns.map PyData.int) none (some 63)).length ≤ 63 := by
      unfold DL.cutD
      rw [List.length_take]
      have e1 := HT.sIx_none (ns.map PyData.int).length 0
      have e2 := HT.sIx_nat (ns.map PyData.int).length (ns.map PyData.int).length 63
      have e3 : HT.sIx (ns.map PyData.int).length (ns.map PyData.int).length (some 63) = min 63 (ns.map PyData.int).length := e2
      rw [e1, e3]
      omega
    obtain ⟨cs, hcs, _⟩ := cut_ints ns none (some 63)
    rw [hcs, List.length_map] at few
    rw [hcs]
    refine ⟨by rw [List.length_map]; exact Nat.le_trans few (Nat.le_of_ble_eq_true rfl), fun i acc => ∃ ms : List Int, acc = ms.map PyData.int, ⟨[], rfl⟩, ?_, ?_⟩
    · rintro i d acc hd ⟨ms, rfl⟩
      obtain ⟨c, rfl⟩ : ∃ c : Int, d = .int c := by
        rw [List.getElem?_map] at hd
        cases q : cs[i]? with
        | none =>
          rw [q] at hd
          cases hd
        | some c =>
          rw [q] at hd
          exact ⟨c, (Option.some.inj hd).symm⟩
      unfold Lc
      refine t_yes (iteT ?_)
      repeat walk_at "dl"
      refine ⟨ms ++ [if c < 0 then -c else c], ?_⟩
      rw [List.map_append]
      rfl
    · rintro acc ⟨ms, rfl⟩ hl
      repeat walk_at "dl"
      rw [List.length_map, List.length_map] at hl
      exact ⟨ms, by omega, rfl⟩
end
section
variable {P : Program} {w : World} {K : PySem.W.Frag} {mg : Str → Option Value} {bs : Heap}
def gs__law_take : Gs := fun xs R => xs.length = 2 ∧ ∃ n : Int, xs = [.bag, .dat (.int n)] ∧ 1 ≤ n ∧ n < 1073741824 ∧ ∀ r : Int, 0 ≤ r → r < n → R (.int r)
theorem ok__law_take (T : Txt K mg) (nd : bs.NoDigits) : FnG P w K mg bs 1 T.a__law_take T.d__law_take ["bag", "many"] (spG K gs__law_take) := by
  refine fnD T.F__law_take sc__law_take (fun xs R h => h.1) (fun cd A out s H E hg hr => ⟨_, (pss_cons (ps_if (pt_cmpR (op_eqG hr.units) (pe_ix ix_seq (pv 0) pe_int (fun _ _ => rfl)) pe_int (nomark _))
  (pss_cons (ps_set (i := 2) sc__law_take.nd rfl (.inl rfl) (pe_ix ix_seq (pe_op op_catL (pe_slice sl_list (pe_ix ix_seq (pv 0) pe_int (fun _ _ => rfl)) (po_some (pe_ix ix_seq (pv 0) pe_int (fun _ _ => rfl))) po_none) (pe_lst (pa_cons pe_int pa_nil))) pe_int (fun _ _ => rfl)))
  (pss_cons (ps_augS (pv 0) pe_int get_list pe_int ip_add set_list)
  (pss_cons (ps_if (pt_cmpR op_ge (pv 2) (pe_op op_pow pe_int pe_int) (nomark _))
  (pss_one (ps_asg (pv 2) (pg_sub (pv 0) pe_int set_list)))
  pss_nil)
  (pss_cons (ps_set (i := 3) sc__law_take.nd rfl (.inl rfl) (pe_op op_addG (pe_op op_addG (pe_op op_mulG (pe_ix ix_seq (pv 0) pe_int (fun _ _ => rfl)) pe_int) (pe_op op_modN (pe_callTy call_int1 (by rfl) T.z_int (by decide +kernel) (pa_cons (pv 2) pa_nil)) pe_int)) (pe_op op_mulG pe_int (pe_ix ix_seq (pv 0) pe_int (fun _ _ => rfl)))))
  (pss_one (ps_asg (pe_op op_modN (pe_callTy call_int1 (by rfl) T.z_int (by decide +kernel) (pa_cons (pv 3) pa_nil)) pe_int) (pg_sub (pv 0) pe_int set_list)))))))
  pss_nil)
  (pss_cons (ps_if (pt_cmpR op_gt (pe_ix ix_seq (pv 0) pe_int (fun _ _ => rfl)) pe_int (nomark _))
  (pss_cons (ps_set (i := 4) sc__law_take.nd rfl (.inl rfl) (pe_op op_modN (pe_callTy call_int1 (by rfl) T.z_int (by decide +kernel) (pa_cons (pe_ix ix_seq (pv 0) pe_int (fun _ _ => rfl)) pa_nil)) (pv 1)))
  (pss_cons (ps_asg (pe_op op_fdivA (pe_callTy call_int1 (by rfl) T.z_int (by decide +kernel) (pa_cons (pe_ix ix_seq (pv 0) pe_int (fun _ _ => rfl)) pa_nil)) (pv 1)) (pg_sub (pv 0) pe_int set_list))
  (pss_one (ps_ret (pv 4)))))
  pss_nil)
  (pss_cons (ps_set (i := 5) sc__law_take.nd rfl (.inl rfl) (pe_op op_modN (pe_callTy call_int1 (by rfl) T.z_int (by decide +kernel) (pa_cons (pe_op op_mulG (pe_op op_addG (pe_ix ix_seq (pv 0) pe_int (fun _ _ => rfl)) pe_int) pe_int) pa_nil)) pe_int))
  (pss_cons (ps_set (i := 6) sc__law_take.nd rfl (.inl rfl) (pe_op op_modN (pe_callTy call_int1 (by rfl) T.z_int (by decide +kernel) (pa_cons (pe_op op_mulG (pe_op op_modN (pe_callTy call_int1 (by rfl) T.z_int (by decide +kernel) (pa_cons (pe_op op_mulG (pv 5) (pv 5)) pa_nil)) pe_int) pe_int) pa_nil)) pe_int))
  (pss_one (ps_ret (pe_op op_modN (pe_callTy call_int1 (by rfl) T.z_int (by decide +kernel) (pa_cons (pe_op op_fdivA (pv 6) pe_int) pa_nil)) (pv 1)))))))), fun H0 own0 bg xs R h => ?_⟩)
  obtain ⟨_, n, rfl, n1, n2, hR⟩ := h
  change S _ _ [.bag, .dat (.int n), .no, .no, .no, .no, .no] _
  try dsimp only [cxOf]
  have nz : n ≠ 0 := by omega
  have np : ∀ c : Int, CFd c n := fun c => ⟨nz, PyProof.noPylong_small (by omega)⟩
  have md : ∀ c : Int, 0 ≤ c.fmod n ∧ c.fmod n < n := fun c => by
    rw [Int.fmod_eq_emod_of_nonneg _ (by omega)]
    exact ⟨Int.emod_nonneg _ nz, Int.emod_lt_of_pos _ (by omega)⟩
  have mo : ∀ (c : Int) (k : Int), 0 < k → 0 ≤ c.fmod k ∧ c.fmod k < k := fun c k hk => by
    rw [Int.fmod_eq_emod_of_nonneg _ (by omega)]
    exact ⟨Int.emod_nonneg _ (by omega), Int.emod_lt_of_pos _ hk⟩
  refine s_seq (S.cut (M := fun ρ => ∃ x2 x3, ρ = [.bag, .dat (.int n), x2, x3, .no, .no, .no]) ?_ ?_)
  · repeat walk_at "dl"
    refine ite2 (fun hc => ?_) (fun hc => ?_)
    · repeat walk_at "dl"
      intro ns hns
      repeat walk_at "dl"
      rename_i c1
      refine ⟨?_, ?_⟩
      · have := cut_nil ns (some c1) none
        have big : 64 ≤ sizeLine := Nat.le_of_ble_eq_true rfl
        show (cutD (ns.map PyData.int) (some c1) none).length + 1 ≤ sizeLine
        omega
      repeat walk_at "dl"
      obtain ⟨cell, hcell⟩ := cut_first ns (some c1) none 0
      refine ⟨_, _, rfl, hcell, ?_⟩
      repeat walk_at "dl"
      refine ite2 (fun hc => ?_) (fun hc => ?_)
      · repeat walk_at "dl"
        exact ⟨_, _, rfl⟩
      · repeat walk_at "dl"
        exact ⟨_, _, rfl⟩
    · repeat walk_at "dl"
      exact ⟨_, _, rfl⟩
  · rintro ρ ⟨x2, x3, rfl⟩
    repeat walk_at "dl"
    refine ite2 (fun hc => ?_) (fun hc => ?_)
    · repeat walk_at "dl"
      rename_i c1
      refine ⟨nz, ?_⟩
      repeat walk_at "dl"
      refine ⟨np _, ?_⟩
      repeat walk_at "dl"
      exact hR _ (md _).1 (md _).2
    · repeat walk_at "dl"
      rename_i c1
      have b1 := mo ((c1 + 1) * 39373) 1000000007 (by decide)
      generalize ((c1 + 1) * 39373).fmod 1000000007 = beg at b1 ⊢
      refine ⟨.inr (.inl ⟨by omega, by omega⟩), ?_⟩
      repeat walk_at "dl"
      refine ⟨⟨by decide, PyProof.noPylong_small (by decide)⟩, ?_⟩
      repeat walk_at "dl"
      refine ⟨nz, ?_⟩
      repeat walk_at "dl"
      exact hR _ (md _).1 (md _).2
end
section
variable {P : Program} {w : World} {K : PySem.W.Frag} {mg : Str → Option Value} {bs : Heap}
def gs__law_some : Gs := fun xs R => xs.length = 2 ∧ ∃ ds : List PyData, xs = [.bag, .dat (.list ds)] ∧ 0 < ds.length ∧ ds.length < 1073741824 ∧ ∀ d, d ∈ ds → R d
theorem ok__law_some (T : Txt K mg) (nd : bs.NoDigits) : FnG P w K mg bs 2 T.a__law_some T.d__law_some ["bag", "things"] (spG K gs__law_some) := by
  have C__law_take := ok__law_take (P := P) (w := w) (bs := bs) T nd
  refine fnD T.F__law_some sc__law_some (fun xs R h => h.1) (fun cd A out s H E hg hr => ⟨_, (pss_one (ps_ret (pe_ix ix_seq (pv 1) (pe_callG C__law_take hg (hr.mono (by decide)) (by rfl) T.g__law_take T.F__law_take.kp T.b__law_take (pa_cons (pv 0) (pa_cons (pe_callB call_len (by rfl) T.z_len (by decide +kernel) (pa_cons (pv 1) pa_nil)) pa_nil))) (fun _ _ => rfl)))), fun H0 own0 bg xs R h => ?_⟩)
  obtain ⟨_, ds, rfl, h0, h1, hR⟩ := h
  change S _ _ [.bag, .dat (.list ds)] _
  try dsimp only [cxOf]
  repeat walk_at "dl"
  refine ⟨rfl, _, rfl, by omega, by omega, fun r r0 r1 => ?_⟩
  have hr : r.toNat < ds.length := by omega
  have at_ : atI ds r = some ds[r.toNat] := by
    unfold atI ixN
    rw [if_pos r0, if_pos r1]
    exact List.getElem?_eq_getElem hr
  refine ⟨_, _, rfl, at_, _, rfl, hR _ (List.getElem_mem hr)⟩
end
section
variable {P : Program} {w : World} {K : PySem.W.Frag} {mg : Str → Option Value} {bs : Heap}
def gs__law_alike : Gs := fun xs R => xs.length = 2 ∧ ∃ (d : PyData) (m k : Nat), xs = [.dat d, .dat d] ∧ Fine m k d ∧ m ≤ 16000000 ∧ k ≤ 60 ∧ R (.bool true)
theorem ok__law_alike (T : Txt K mg) (nd : bs.NoDigits) : FnG P w K mg bs 1 T.a__law_alike T.d__law_alike ["found", "due"] (spG K gs__law_alike) := by
  refine fnD T.F__law_alike sc__law_alike (fun xs R h => h.1) (fun cd A out s H E hg hr => ⟨_, (pss_one (ps_ret (pe_and (pe_cmpR (op_eqG hr.units) (pv 0) (pv 1) (nomark _)) (pe_one (pe_cmpR (op_eqG hr.units) (pe_callB (call_repr hg nd hr.units) (by rfl) T.z_repr (by decide +kernel) (pa_cons (pv 0) pa_nil)) (pe_callB (call_repr hg nd hr.units) (by rfl) T.z_repr (by decide +kernel) (pa_cons (pv 1) pa_nil)) (nomark _)))))), fun H0 own0 bg xs R h => ?_⟩)
  obtain ⟨_, d, m, k, rfl, hd, hm, hk, hR⟩ := h
  change S _ _ [.dat d, .dat d] _
  try dsimp only [cxOf]
  have sz : d.shown.length ≤ sizeLine := Nat.le_trans hd.len (Nat.le_trans hm (Nat.le_of_ble_eq_true rfl))
  repeat walk_at "dl"
  refine ⟨hd.shaped hk, hd.shaped hk, ?_⟩
  rw [SeqAt.eqv_refl d hd.lay]
  repeat walk_at "dl"
  refine iteT ?_
  repeat walk_at "dl"
  refine ⟨hd.num, sz, Nat.le_trans hd.deep hk, ?_⟩
  repeat walk_at "dl"
  refine ⟨hd.num, sz, Nat.le_trans hd.deep hk, ?_⟩
  repeat walk_at "dl"
  rw [decide_eq_true rfl]
  exact hR
end
section
variable {P : Program} {w : World} {K : PySem.W.Frag} {mg : Str → Option Value} {bs : Heap}
def gs__law_common : Gs := fun xs R => xs.length = 2 ∧ ∃ a b : Int, xs = [.dat (.int a), .dat (.int b)] ∧ R (.int ((Nat.gcd a.natAbs b.natAbs : Nat) : Int))
theorem ok__law_common (T : Txt K mg) (nd : bs.NoDigits) : FnG P w K mg bs 1 T.a__law_common T.d__law_common ["one", "other"] (spG K gs__law_common) := by
  refine fnD T.F__law_common sc__law_common (fun xs R h => h.1) (fun cd A out s H E hg hr => ⟨_, (pss_cons (ps_par (i := 0) (j := 1) rfl sc__law_common.nd rfl rfl (by decide) rfl rfl (pa_cons (pe_callB call_abs (by rfl) T.z_abs (by decide +kernel) (pa_cons (pv 0) pa_nil)) (pa_cons (pe_callB call_abs (by rfl) T.z_abs (by decide +kernel) (pa_cons (pv 1) pa_nil)) pa_nil)) (by rfl))
  (pss_cons (ps_while PassesOwn.never (pt_cmpR op_gt (pv 1) pe_int (nomark _))
  (pss_one (ps_par (i := 0) (j := 1) rfl sc__law_common.nd rfl rfl (by decide) rfl rfl (pa_cons (pv 1) (pa_cons (pe_op op_modN (pe_callTy call_int1 (by rfl) T.z_int (by decide +kernel) (pa_cons (pv 0) pa_nil)) (pv 1)) pa_nil)) (by rfl))))
  (pss_one (ps_ret (pv 0))))), fun H0 own0 bg xs R h => ?_⟩)
  obtain ⟨_, a, b, rfl, hR⟩ := h
  change S _ _ [.dat (.int a), .dat (.int b)] _
  try dsimp only [cxOf]
  repeat walk_at "dl"
  refine (s_while (fun m ρ => ∃ x y : Int, ρ = [.dat (.int x), .dat (.int y)] ∧ m = y.toNat ∧ 0 ≤ x ∧ 0 ≤ y ∧ Nat.gcd x.natAbs y.natAbs = Nat.gcd a.natAbs b.natAbs)
    (m0 := (if b < 0 then -b else b).toNat) ⟨_, _, rfl, rfl, by split <;> omega, by split <;> omega, ?_⟩ ?_)
  · congr 1 <;> (split <;> omega)
  rintro m ρ ⟨x, y, rfl, rfl, x0, y0, hg2⟩
  repeat walk_at "dl"
  refine ite2 (fun hc => ?_) (fun hc => ?_)
  · have yp : 0 < y := of_decide_eq_true hc
    repeat walk_at "dl"
    refine ⟨by omega, ?_⟩
    repeat walk_at "dl"
    have e : x.fmod y = x % y := Int.fmod_eq_emod_of_nonneg _ (by omega)
    have r0 := Int.emod_nonneg x (by omega : y ≠ 0)
    have r1 := Int.emod_lt_of_pos x yp
    refine ⟨(x % y).toNat, by omega, y, x % y, by rw [← e], rfl, y0, r0, ?_⟩
    rw [← hg2]
    have en : (x % y).natAbs = x.natAbs % y.natAbs := by
      obtain ⟨n1, rfl⟩ : ∃ n : Nat, x = n := ⟨x.toNat, by omega⟩
      obtain ⟨n2, rfl⟩ : ∃ n : Nat, y = n := ⟨y.toNat, by omega⟩
      rfl
    rw [en, Nat.gcd_comm x.natAbs, Nat.gcd_rec y.natAbs x.natAbs, Nat.gcd_comm]
  · have yz : y = 0 := by
      have : ¬ 0 < y := fun e => hc (decide_eq_true e)
      omega
    subst yz
    repeat walk_at "dl"
    rw [← hg2] at hR
    have e : ((Nat.gcd x.natAbs (0 : Int).natAbs : Nat) : Int) = x := by
      show ((Nat.gcd x.natAbs 0 : Nat) : Int) = x
      rw [Nat.gcd_zero_right]
      omega
    rw [e] at hR
    exact hR
end
section
variable {P : Program} {w : World} {K : PySem.W.Frag} {mg : Str → Option Value} {bs : Heap}
def gs__law_reduced : Gs := fun xs R => xs.length = 2 ∧ ∃ n d : Int, xs = [.dat (.int n), .dat (.int d)] ∧ d ≠ 0 ∧ Sm 9000 n ∧ Sm 9000 d ∧ R (fr (red n d))
theorem ok__law_reduced (T : Txt K mg) (nd : bs.NoDigits) : FnG P w K mg bs 2 T.a__law_reduced T.d__law_reduced ["n", "d"] (spG K gs__law_reduced) := by
  have C__law_common := ok__law_common (P := P) (w := w) (bs := bs) T nd
  refine fnD T.F__law_reduced sc__law_reduced (fun xs R h => h.1) (fun cd A out s H E hg hr => ⟨_, (pss_cons (ps_set (i := 2) sc__law_reduced.nd rfl (.inl rfl) (pe_callG C__law_common hg (hr.mono (by decide)) (by rfl) T.g__law_common T.F__law_common.kp T.b__law_common (pa_cons (pv 0) (pa_cons (pv 1) pa_nil))))
  (pss_cons (ps_set (i := 2) sc__law_reduced.nd rfl (.inl rfl) (pe_ifExp (pt_cmpR op_gt (pv 1) pe_int (nomark _)) (pv 2) (pe_un un_neg (pv 2))))
  (pss_one (ps_ret (pe_tup (pa_cons (pe_op op_fdivA (pv 0) (pv 2)) (pa_cons (pe_op op_fdivA (pv 1) (pv 2)) pa_nil))))))), fun H0 own0 bg xs R h => ?_⟩)
  obtain ⟨_, n, d, rfl, hd, sn, sd, hR⟩ := h
  change S _ _ [.dat (.int n), .dat (.int d), .no] _
  try dsimp only [cxOf]
  repeat walk_at "dl"
  refine ⟨rfl, n, d, rfl, ?_⟩
  repeat walk_at "dl"
  have ne := cm_ne (n := n) hd
  refine ite2 (fun hc => ?_) (fun hc => ?_)
  · have e : cm n d = ((Nat.gcd n.natAbs d.natAbs : Nat) : Int) := if_neg (by have := of_decide_eq_true hc; omega)
    unfold red at hR
    rw [e] at ne hR
    repeat walk_at "dl"
    refine ⟨sn.fd ne, ?_⟩
    repeat walk_at "dl"
    refine ⟨sd.fd ne, ?_⟩
    repeat walk_at "dl"
    exact hR
  · have h0 : ¬ 0 < d := fun e => hc (decide_eq_true e)
    have e : cm n d = -((Nat.gcd n.natAbs d.natAbs : Nat) : Int) := if_pos (by omega)
    unfold red at hR
    rw [e] at ne hR
    repeat walk_at "dl"
    refine ⟨sn.fd ne, ?_⟩
    repeat walk_at "dl"
    refine ⟨sd.fd ne, ?_⟩
    repeat walk_at "dl"
    exact hR
end
section
variable {P : Program} {w : World} {K : PySem.W.Frag} {mg : Str → Option Value} {bs : Heap}
def gs__law_pair : Gs := fun xs R => xs.length = 1 ∧ xs = [.bag] ∧ ∀ n d : Int, Sm 140 n → Sm 140 d → d ≠ 0 → R (.tuple [.int n, .int d])
theorem ok__law_pair (T : Txt K mg) (nd : bs.NoDigits) : FnG P w K mg bs 3 T.a__law_pair T.d__law_pair ["bag"] (spG K gs__law_pair) := by
  have C__law_some := ok__law_some (P := P) (w := w) (bs := bs) T nd
  have C__law_take := ok__law_take (P := P) (w := w) (bs := bs) T nd
  refine fnD T.F__law_pair sc__law_pair (fun xs R h => h.1) (fun cd A out s H E hg hr => ⟨_, (pss_cons (ps_set (i := 1) sc__law_pair.nd rfl (.inl rfl) (pe_callG C__law_some hg (hr.mono (by decide)) (by rfl) T.g__law_some T.F__law_some.kp T.b__law_some (pa_cons (pv 0) (pa_cons (pe_lst (pa_cons pe_int (pa_cons pe_int (pa_cons (pe_un un_neg pe_int) (pa_cons pe_int (pa_cons pe_int (pa_cons (pe_callG C__law_take hg (hr.mono (by decide)) (by rfl) T.g__law_take T.F__law_take.kp T.b__law_take (pa_cons (pv 0) (pa_cons (pe_op op_pow pe_int pe_int) pa_nil))) (pa_cons (pe_un un_neg (pe_callG C__law_take hg (hr.mono (by decide)) (by rfl) T.g__law_take T.F__law_take.kp T.b__law_take (pa_cons (pv 0) (pa_cons (pe_op op_pow pe_int pe_int) pa_nil)))) (pa_cons (pe_op op_addG (pe_op op_pow pe_int pe_int) (pe_callG C__law_take hg (hr.mono (by decide)) (by rfl) T.g__law_take T.F__law_take.kp T.b__law_take (pa_cons (pv 0) (pa_cons pe_int pa_nil)))) pa_nil))))))))) pa_nil))))
  (pss_cons (ps_set (i := 2) sc__law_pair.nd rfl (.inl rfl) (pe_callG C__law_some hg (hr.mono (by decide)) (by rfl) T.g__law_some T.F__law_some.kp T.b__law_some (pa_cons (pv 0) (pa_cons (pe_lst (pa_cons pe_int (pa_cons pe_int (pa_cons pe_int (pa_cons pe_int (pa_cons pe_int (pa_cons (pe_op op_addG pe_int (pe_callG C__law_take hg (hr.mono (by decide)) (by rfl) T.g__law_take T.F__law_take.kp T.b__law_take (pa_cons (pv 0) (pa_cons (pe_op op_pow pe_int pe_int) pa_nil)))) (pa_cons (pe_op op_pow pe_int pe_int) (pa_cons pe_int pa_nil))))))))) pa_nil))))
  (pss_one (ps_ret (pe_tup (pa_cons (pv 1) (pa_cons (pe_op op_mulG (pv 2) (pe_callG C__law_some hg (hr.mono (by decide)) (by rfl) T.g__law_some T.F__law_some.kp T.b__law_some (pa_cons (pv 0) (pa_cons (pe_lst (pa_cons pe_int (pa_cons (pe_un un_neg pe_int) pa_nil))) pa_nil)))) pa_nil))))))), fun H0 own0 bg xs R h => ?_⟩)
  obtain ⟨_, rfl, hR⟩ := h
  change S _ _ [.bag, .no, .no] _
  try dsimp only [cxOf]
  repeat walk_at "dl"
  refine ⟨rfl, _, rfl, by decide, by decide, fun r1 r10 r11 => ?_⟩
  have b9 : (10 : Int) ^ Int.toNat 9 < 2 ^ 30 := by decide
  have b6 : (10 : Int) ^ Int.toNat 6 < 2 ^ 30 := by decide
  repeat walk_at "dl"
  refine ⟨rfl, _, rfl, by decide, by decide, fun r2 r20 r21 => ?_⟩
  repeat walk_at "dl"
  refine ⟨rfl, _, rfl, by decide, by decide, fun r3 r30 r31 => ?_⟩
  repeat walk_at "dl"
  refine ⟨rfl, _, rfl, Nat.le_of_ble_eq_true rfl, Nat.le_of_ble_eq_true rfl, fun d hd => ?_⟩
  obtain ⟨n, rfl, sn⟩ : ∃ n : Int, d = .int n ∧ Sm 140 n := by
    simp only [List.mem_cons, List.not_mem_nil, or_false] at hd
    have s30 : Sm 140 (2 ^ 30) := by decide
    rcases hd with rfl | rfl | rfl | rfl | rfl | rfl | rfl | rfl
    · exact ⟨_, rfl, by decide⟩
    · exact ⟨_, rfl, by decide⟩
    · exact ⟨_, rfl, by decide⟩
    · exact ⟨_, rfl, by decide⟩
    · exact ⟨_, rfl, by decide⟩
    · refine ⟨_, rfl, ?_⟩
      unfold Sm at s30 ⊢
      omega
    · refine ⟨_, rfl, ?_⟩
      unfold Sm at s30 ⊢
      omega
    · exact ⟨_, rfl, big40 r30 r31⟩
  repeat walk_at "dl"
  refine ⟨rfl, _, rfl, by decide, by decide, fun r4 r40 r41 => ?_⟩
  repeat walk_at "dl"
  refine ⟨rfl, _, rfl, Nat.le_of_ble_eq_true rfl, Nat.le_of_ble_eq_true rfl, fun d hd => ?_⟩
  obtain ⟨e, rfl, se, e0⟩ : ∃ e : Int, d = .int e ∧ Sm 139 e ∧ 0 < e := by
    simp only [List.mem_cons, List.not_mem_nil, or_false] at hd
    have s30 : Sm 139 (2 ^ 30) := by decide
    rcases hd with rfl | rfl | rfl | rfl | rfl | rfl | rfl | rfl
    · exact ⟨_, rfl, by decide, by decide⟩
    · exact ⟨_, rfl, by decide, by decide⟩
    · exact ⟨_, rfl, by decide, by decide⟩
    · exact ⟨_, rfl, by decide, by decide⟩
    · exact ⟨_, rfl, by decide, by decide⟩
    · refine ⟨_, rfl, ?_, by omega⟩
      unfold Sm at s30 ⊢
      omega
    · exact ⟨_, rfl, by decide, by decide⟩
    · exact ⟨_, rfl, by decide, by decide⟩
  repeat walk_at "dl"
  refine ⟨rfl, _, rfl, Nat.le_of_ble_eq_true rfl, Nat.le_of_ble_eq_true rfl, fun d hd => ?_⟩
  obtain ⟨f, rfl, hf⟩ : ∃ f : Int, d = .int f ∧ (f = 1 ∨ f = -1) := by
    simp only [List.mem_cons, List.not_mem_nil, or_false] at hd
    rcases hd with rfl | rfl
    · exact ⟨_, rfl, .inl rfl⟩
    · exact ⟨_, rfl, .inr rfl⟩
  have sf : Sm 1 f := by
    rcases hf with rfl | rfl <;> decide
  refine .inl ⟨_, _, rfl, rfl, Sm.mulX se sf (by decide), ?_⟩
  repeat walk_at "dl"
  refine hR _ _ sn (se.mul sf) (Int.mul_ne_zero (by omega) ?_)
  rcases hf with rfl | rfl <;> decide
end
section
variable {P : Program} {w : World} {K : PySem.W.Frag} {mg : Str → Option Value} {bs : Heap}
def gs__law_ten : Gs := fun xs R => xs.length = 1 ∧ ∃ k : Int, xs = [.dat (.int k)] ∧ 0 ≤ k ∧ k ≤ 1000 ∧ R (.int (10 ^ k.toNat))
theorem ok__law_ten (T : Txt K mg) (nd : bs.NoDigits) : FnG P w K mg bs 1 T.a__law_ten T.d__law_ten ["places"] (spG K gs__law_ten) := by
  refine fnD T.F__law_ten sc__law_ten (fun xs R h => h.1) (fun cd A out s H E hg hr => ⟨_, (pss_cons (ps_set (i := 1) sc__law_ten.nd rfl (.inl rfl) pe_int)
  (pss_cons (ps_for PassesOwn.never rfl (pi_range1 (by rfl) T.z_range (pa_cons (pv 0) pa_nil)) (pg_name (i := 2) sc__law_ten.nd rfl (.inl rfl))
  (pss_one (ps_set (i := 1) sc__law_ten.nd rfl (.inl rfl) (pe_op op_mulG (pv 1) pe_int))))
  (pss_one (ps_ret (pv 1))))), fun H0 own0 bg xs R h => ?_⟩)
  obtain ⟨_, k, rfl, k0, k1, hR⟩ := h
  change S _ _ [.dat (.int k), .no, .no] _
  try dsimp only [cxOf]
  repeat walk_at "dl"
  refine s_forR1 (a_cons ?_)
  repeat walk_at "dl"
  refine ⟨⟨by omega, by omega⟩, fun i ρ => ∃ x, ρ = [.dat (.int k), .dat (.int (10 ^ i)), x], ⟨.no, rfl⟩, ?_, ?_⟩
  · rintro i ρ hi ⟨x, rfl⟩
    repeat walk_at "dl"
    exact ⟨_, by rw [Int.pow_succ]⟩
  · rintro ρ ⟨x, rfl⟩
    repeat walk_at "dl"
    exact hR
end
section
variable {P : Program} {w : World} {K : PySem.W.Frag} {mg : Str → Option Value} {bs : Heap}
def gs__law_decimal : Gs := fun xs R => xs.length = 2 ∧ ∃ n k : Int, xs = [.dat (.int n), .dat (.int k)] ∧ 0 ≤ n ∧ Sm 1900 n ∧ 0 ≤ k ∧ k ≤ 2000 ∧ R (.str (wp n k))
theorem ok__law_decimal (T : Txt K mg) (nd : bs.NoDigits) : FnG P w K mg bs 1 T.a__law_decimal T.d__law_decimal ["many", "places"] (spG K gs__law_decimal) := by
  refine fnD T.F__law_decimal sc__law_decimal (fun xs R h => h.1) (fun cd A out s H E hg hr => ⟨_, (pss_cons (ps_set (i := 2) sc__law_decimal.nd rfl (.inl rfl) (pe_callTy call_str_int (by rfl) T.z_str (by decide +kernel) (pa_cons (pv 0) pa_nil)))
  (pss_cons (ps_set (i := 2) sc__law_decimal.nd rfl (.inl rfl) (pe_op op_addG (pe_op op_mulG pe_str (pe_callB (call_max2 rfl) (by rfl) T.z_max (by decide +kernel) (pa_cons pe_int (pa_cons (pe_op op_sub (pe_op op_addG (pv 1) pe_int) (pe_callB call_len (by rfl) T.z_len (by decide +kernel) (pa_cons (pv 2) pa_nil))) pa_nil)))) (pv 2)))
  (pss_one (ps_ret (pe_ifExp (pt_cmpR (op_eqG hr.units) (pv 1) pe_int (nomark _)) (pv 2) (pe_op op_addG (pe_op op_addG (pe_slice sl_str (pv 2) po_none (po_some (pe_un un_neg (pv 1)))) pe_str) (pe_slice sl_str (pv 2) (po_some (pe_un un_neg (pv 1))) po_none))))))), fun H0 own0 bg xs R h => ?_⟩)
  obtain ⟨_, n, k, rfl, h0, sn, k0, k1, hR⟩ := h
  change S _ _ [.dat (.int n), .dat (.int k), .no] _
  try dsimp only [cxOf]
  repeat walk_at "dl"
  refine ⟨(sn.mono (by decide : 1900 ≤ 1920)).log (by decide), ?_⟩
  repeat walk_at "dl"
  have sl := Sn_len h0 sn
  have slz : (Sn n).length ≤ sizeLine := Nat.le_trans sl (Nat.le_of_ble_eq_true rfl)
  refine ⟨_, _, rfl, if_pos slz, ?_⟩
  repeat walk_at "dl"
  have pe := pad_eq (k := k) h0
  obtain ⟨z1, z2⟩ := zf_len h0 sn k0 k1
  generalize hm : (if k + 1 - ((Sn n).length : Int) > 0 then k + 1 - ((Sn n).length : Int) else 0) = m at pe
  have m0 : 0 ≤ m ∧ m ≤ 2001 := by
    rw [← hm]
    split <;> omega
  refine ⟨mulok m0.1 m0.2, ?_⟩
  repeat walk_at "dl"
  refine ⟨?_, ?_⟩
  · have e := congrArg Str.length pe
    rw [← tl_len, tl_app, List.length_append, tl_len, tl_len] at e
    rw [e]
    exact Nat.le_trans z1 (Nat.le_of_ble_eq_true rfl)
  repeat walk_at "dl"
  unfold wp at hR
  rw [pe]
  generalize Txt.zfill (Sn n) (k + 1) = z at z1 z2 hR ⊢
  have zl1 : z.length ≤ sizeLine := Nat.le_trans z1 (Nat.le_of_ble_eq_true rfl)
  repeat walk_at "dl"
  refine ite2 (fun hc => ?_) (fun hc => ?_)
  · rw [if_pos (eq_of_beq hc)] at hR
    repeat walk_at "dl"
    exact hR
  · have kne : ¬ k = 0 := fun e => hc (by rw [e]; rfl)
    rw [if_neg kne, ← cut_neg1 (by omega) (by omega), ← cut_neg2 (by omega) (by omega)] at hR
    repeat walk_at "dl"
    refine ⟨zl1, ?_⟩
    repeat walk_at "dl"
    refine ⟨cut_fits z1, ?_⟩
    repeat walk_at "dl"
    refine ⟨zl1, ?_⟩
    repeat walk_at "dl"
    refine ⟨cut_fits2 z1, ?_⟩
    repeat walk_at "dl"
    exact hR
end
section
variable {P : Program} {w : World} {K : PySem.W.Frag} {mg : Str → Option Value} {bs : Heap}
theorem ok_law (T : Txt K mg) (nd : bs.NoDigits) : FnG P w K mg bs 4 T.a_law T.d_law ["script"] (spLaw K) := by
  have C__law_alike := ok__law_alike (P := P) (w := w) (bs := bs) T nd
  have C__law_bag := ok__law_bag (P := P) (w := w) (bs := bs) T nd
  have C__law_decimal := ok__law_decimal (P := P) (w := w) (bs := bs) T nd
  have C__law_pair := ok__law_pair (P := P) (w := w) (bs := bs) T nd
  have C__law_reduced := ok__law_reduced (P := P) (w := w) (bs := bs) T nd
  have C__law_some := ok__law_some (P := P) (w := w) (bs := bs) T nd
  have C__law_take := ok__law_take (P := P) (w := w) (bs := bs) T nd
  have C__law_ten := ok__law_ten (P := P) (w := w) (bs := bs) T nd
  have C_added := ok_added (P := P) (w := w) (bs := bs) T nd
  have C_compared := ok_compared (P := P) (w := w) (bs := bs) T nd
  have C_decimal_above := ok_decimal_above (P := P) (w := w) (bs := bs) T nd
  have C_decimal_below := ok_decimal_below (P := P) (w := w) (bs := bs) T nd
  have C_half_to := ok_half_to (P := P) (w := w) (bs := bs) T nd
  have C_over := ok_over (P := P) (w := w) (bs := bs) T nd
  have C_reduced := ok_reduced (P := P) (w := w) (bs := bs) T nd
  have C_times := ok_times (P := P) (w := w) (bs := bs) T nd
  refine fnG T.F_law sc_law (fun vs H Q E h => ?_) (fun cd A out s H vs Q E hg hr h => ?_)
  · obtain ⟨a, ns, rfl, _⟩ := h
    rfl
  obtain ⟨a, ns, rfl, hS, hlen, k⟩ := h
  refine ⟨_, (pss_cons (ps_set (i := 1) sc_law.nd rfl (.inl rfl) (pe_callG C__law_bag hg (hr.mono (by decide)) (by rfl) T.g__law_bag T.F__law_bag.kp T.b__law_bag (pa_cons (pv 0) pa_nil)))
  (pss_cons (ps_for PassesOwn.never rfl (pi_range1 (by rfl) T.z_range (pa_cons pe_int pa_nil)) (pg_name (i := 2) sc_law.nd rfl (.inl rfl))
  (pss_cons (ps_asg (pe_callG C__law_pair hg (hr.mono (by decide)) (by rfl) T.g__law_pair T.F__law_pair.kp T.b__law_pair (pa_cons (pv 1) pa_nil)) (pg_tup (by rfl) (pgs_cons (pg_name (i := 3) sc_law.nd rfl (.inl rfl)) (pgs_cons (pg_name (i := 4) sc_law.nd rfl (.inl rfl)) pgs_nil))))
  (pss_cons (ps_par (i := 5) (j := 6) rfl sc_law.nd rfl rfl (by decide) rfl rfl (pa_cons (pe_callG C__law_reduced hg (hr.mono (by decide)) (by rfl) T.g__law_reduced T.F__law_reduced.kp T.b__law_reduced (pa_cons (pv 3) (pa_cons (pv 4) pa_nil))) (pa_cons (pe_callG C__law_reduced hg (hr.mono (by decide)) (by rfl) T.g__law_reduced T.F__law_reduced.kp T.b__law_reduced (pa_cons (pe_ix ix_seq (pe_callG C__law_pair hg (hr.mono (by decide)) (by rfl) T.g__law_pair T.F__law_pair.kp T.b__law_pair (pa_cons (pv 1) pa_nil)) pe_int (fun _ _ => rfl)) (pa_cons (pe_ix ix_seq (pe_callG C__law_pair hg (hr.mono (by decide)) (by rfl) T.g__law_pair T.F__law_pair.kp T.b__law_pair (pa_cons (pv 1) pa_nil)) pe_int (fun _ _ => rfl)) pa_nil))) pa_nil)) (by rfl))
  (pss_cons (ps_set (i := 6) sc_law.nd rfl (.inl rfl) (pe_ifExp (pt_cmpR (op_eqG hr.units) (pe_callG C__law_take hg (hr.mono (by decide)) (by rfl) T.g__law_take T.F__law_take.kp T.b__law_take (pa_cons (pv 1) (pa_cons pe_int pa_nil))) pe_int (nomark _)) (pe_callG C__law_reduced hg (hr.mono (by decide)) (by rfl) T.g__law_reduced T.F__law_reduced.kp T.b__law_reduced (pa_cons (pe_op op_addG (pv 3) pe_int) (pa_cons (pv 4) pa_nil))) (pv 6)))
  (pss_cons (ps_set (i := 7) sc_law.nd rfl (.inl rfl) (pe_lst (pa_cons (pv 5) (pa_cons (pe_callG C__law_reduced hg (hr.mono (by decide)) (by rfl) T.g__law_reduced T.F__law_reduced.kp T.b__law_reduced (pa_cons (pe_op op_addG (pe_op op_mulG (pe_ix ix_seq (pv 5) pe_int (fun _ _ => rfl)) (pe_ix ix_seq (pv 6) pe_int (fun _ _ => rfl))) (pe_op op_mulG (pe_ix ix_seq (pv 6) pe_int (fun _ _ => rfl)) (pe_ix ix_seq (pv 5) pe_int (fun _ _ => rfl)))) (pa_cons (pe_op op_mulG (pe_ix ix_seq (pv 5) pe_int (fun _ _ => rfl)) (pe_ix ix_seq (pv 6) pe_int (fun _ _ => rfl))) pa_nil))) (pa_cons (pe_callG C__law_reduced hg (hr.mono (by decide)) (by rfl) T.g__law_reduced T.F__law_reduced.kp T.b__law_reduced (pa_cons (pe_op op_mulG (pe_ix ix_seq (pv 5) pe_int (fun _ _ => rfl)) (pe_ix ix_seq (pv 6) pe_int (fun _ _ => rfl))) (pa_cons (pe_op op_mulG (pe_ix ix_seq (pv 5) pe_int (fun _ _ => rfl)) (pe_ix ix_seq (pv 6) pe_int (fun _ _ => rfl))) pa_nil))) pa_nil)))))
  (pss_cons (ps_if (pt_not (pt_val (pe_callG C__law_alike hg (hr.mono (by decide)) (by rfl) T.g__law_alike T.F__law_alike.kp T.b__law_alike (pa_cons (pe_lst (pa_cons (pe_callG C_reduced hg (hr.mono (by decide)) (by rfl) T.g_reduced T.F_reduced.kp T.b_reduced (pa_cons (pv 3) (pa_cons (pv 4) pa_nil))) (pa_cons (pe_callG C_added hg (hr.mono (by decide)) (by rfl) T.g_added T.F_added.kp T.b_added (pa_cons (pv 5) (pa_cons (pv 6) pa_nil))) (pa_cons (pe_callG C_times hg (hr.mono (by decide)) (by rfl) T.g_times T.F_times.kp T.b_times (pa_cons (pv 5) (pa_cons (pv 6) pa_nil))) pa_nil)))) (pa_cons (pv 7) pa_nil)))))
  (pss_one (ps_ret pe_bl))
  pss_nil)
  (pss_cons (ps_set (i := 8) sc_law.nd rfl (.inl rfl) (pe_op op_sub (pe_op op_mulG (pe_ix ix_seq (pv 5) pe_int (fun _ _ => rfl)) (pe_ix ix_seq (pv 6) pe_int (fun _ _ => rfl))) (pe_op op_mulG (pe_ix ix_seq (pv 6) pe_int (fun _ _ => rfl)) (pe_ix ix_seq (pv 5) pe_int (fun _ _ => rfl)))))
  (pss_cons (ps_if (pt_not (pt_val (pe_callG C__law_alike hg (hr.mono (by decide)) (by rfl) T.g__law_alike T.F__law_alike.kp T.b__law_alike (pa_cons (pe_lst (pa_cons (pe_callG C_compared hg (hr.mono (by decide)) (by rfl) T.g_compared T.F_compared.kp T.b_compared (pa_cons (pv 5) (pa_cons (pv 6) pa_nil))) (pa_cons (pe_callG C_compared hg (hr.mono (by decide)) (by rfl) T.g_compared T.F_compared.kp T.b_compared (pa_cons (pv 5) (pa_cons (pv 5) pa_nil))) pa_nil))) (pa_cons (pe_lst (pa_cons (pe_ifExp (pt_cmpR (op_eqG hr.units) (pv 8) pe_int (nomark _)) pe_int (pe_ifExp (pt_cmpR op_gt (pv 8) pe_int (nomark _)) pe_int (pe_un un_neg pe_int))) (pa_cons pe_int pa_nil))) pa_nil)))))
  (pss_one (ps_ret pe_bl))
  pss_nil)
  (pss_cons (ps_if (PW.pt (pw_and (pt_cmpR (op_neD hr.units) (pe_ix ix_seq (pv 6) pe_int (fun _ _ => rfl)) pe_int (nomark _)) (pw_and1 (pt_not (pt_val (pe_callG C__law_alike hg (hr.mono (by decide)) (by rfl) T.g__law_alike T.F__law_alike.kp T.b__law_alike (pa_cons (pe_lst (pa_cons (pe_callG C_over hg (hr.mono (by decide)) (by rfl) T.g_over T.F_over.kp T.b_over (pa_cons (pv 5) (pa_cons (pv 6) pa_nil))) (pa_cons (pe_callG C_times hg (hr.mono (by decide)) (by rfl) T.g_times T.F_times.kp T.b_times (pa_cons (pe_callG C_over hg (hr.mono (by decide)) (by rfl) T.g_over T.F_over.kp T.b_over (pa_cons (pv 5) (pa_cons (pv 6) pa_nil))) (pa_cons (pv 6) pa_nil))) pa_nil))) (pa_cons (pe_lst (pa_cons (pe_callG C__law_reduced hg (hr.mono (by decide)) (by rfl) T.g__law_reduced T.F__law_reduced.kp T.b__law_reduced (pa_cons (pe_op op_mulG (pe_ix ix_seq (pv 5) pe_int (fun _ _ => rfl)) (pe_ix ix_seq (pv 6) pe_int (fun _ _ => rfl))) (pa_cons (pe_op op_mulG (pe_ix ix_seq (pv 5) pe_int (fun _ _ => rfl)) (pe_ix ix_seq (pv 6) pe_int (fun _ _ => rfl))) pa_nil))) (pa_cons (pv 5) pa_nil))) pa_nil))))))))
  (pss_one (ps_ret pe_bl))
  pss_nil)
  (pss_cons (ps_par (i := 9) (j := 10) rfl sc_law.nd rfl rfl (by decide) rfl rfl (pa_cons (pe_tup (pa_cons (pe_callB call_abs (by rfl) T.z_abs (by decide +kernel) (pa_cons (pe_ix ix_seq (pv 5) pe_int (fun _ _ => rfl)) pa_nil)) (pa_cons (pe_ix ix_seq (pv 5) pe_int (fun _ _ => rfl)) pa_nil))) (pa_cons (pe_callG C__law_some hg (hr.mono (by decide)) (by rfl) T.g__law_some T.F__law_some.kp T.b__law_some (pa_cons (pv 1) (pa_cons (pe_lst (pa_cons pe_int (pa_cons pe_int (pa_cons pe_int (pa_cons pe_int pa_nil))))) pa_nil))) pa_nil)) (by rfl))
  (pss_cons (ps_set (i := 11) sc_law.nd rfl (.inl rfl) (pe_op op_mulG (pe_ix ix_seq (pv 9) pe_int (fun _ _ => rfl)) (pe_callG C__law_ten hg (hr.mono (by decide)) (by rfl) T.g__law_ten T.F__law_ten.kp T.b__law_ten (pa_cons (pv 10) pa_nil))))
  (pss_cons (ps_par (i := 12) (j := 13) rfl sc_law.nd rfl rfl (by decide) rfl rfl (pa_cons (pe_op op_fdivA (pv 11) (pe_ix ix_seq (pv 9) pe_int (fun _ _ => rfl))) (pa_cons (pe_op op_fdivA (pe_op op_sub (pe_op op_addG (pv 11) (pe_ix ix_seq (pv 9) pe_int (fun _ _ => rfl))) pe_int) (pe_ix ix_seq (pv 9) pe_int (fun _ _ => rfl))) pa_nil)) (by rfl))
  (pss_one (ps_if (pt_not (pt_val (pe_callG C__law_alike hg (hr.mono (by decide)) (by rfl) T.g__law_alike T.F__law_alike.kp T.b__law_alike (pa_cons (pe_lst (pa_cons (pe_callG C_decimal_below hg (hr.mono (by decide)) (by rfl) T.g_decimal_below T.F_decimal_below.kp T.b_decimal_below (pa_cons (pv 9) (pa_cons (pv 10) pa_nil))) (pa_cons (pe_callG C_decimal_above hg (hr.mono (by decide)) (by rfl) T.g_decimal_above T.F_decimal_above.kp T.b_decimal_above (pa_cons (pv 9) (pa_cons (pv 10) pa_nil))) pa_nil))) (pa_cons (pe_lst (pa_cons (pe_callG C__law_decimal hg (hr.mono (by decide)) (by rfl) T.g__law_decimal T.F__law_decimal.kp T.b__law_decimal (pa_cons (pv 12) (pa_cons (pv 10) pa_nil))) (pa_cons (pe_callG C__law_decimal hg (hr.mono (by decide)) (by rfl) T.g__law_decimal T.F__law_decimal.kp T.b__law_decimal (pa_cons (pv 13) (pa_cons (pv 10) pa_nil))) pa_nil))) pa_nil)))))
  (pss_one (ps_ret pe_bl))
  pss_nil))))))))))))))
  (pss_cons (ps_par3 (i := 14) (j := 15) (l := 16) rfl sc_law.nd rfl rfl rfl (by decide) (by decide) (by decide) rfl rfl rfl (pa_cons pe_int (pa_cons pe_int (pa_cons (pe_callG C__law_some hg (hr.mono (by decide)) (by rfl) T.g__law_some T.F__law_some.kp T.b__law_some (pa_cons (pv 1) (pa_cons (pe_lst (pa_cons pe_int (pa_cons pe_int (pa_cons pe_int pa_nil)))) pa_nil))) pa_nil))) (by rfl))
  (pss_cons (ps_for PassesOwn.never rfl (pi_range1 (by rfl) T.z_range (pa_cons (pe_callG C__law_some hg (hr.mono (by decide)) (by rfl) T.g__law_some T.F__law_some.kp T.b__law_some (pa_cons (pv 1) (pa_cons (pe_lst (pa_cons pe_int (pa_cons pe_int (pa_cons (pe_callG C__law_take hg (hr.mono (by decide)) (by rfl) T.g__law_take T.F__law_take.kp T.b__law_take (pa_cons (pv 1) (pa_cons pe_int pa_nil))) pa_nil)))) pa_nil))) pa_nil)) (pg_name (i := 2) sc_law.nd rfl (.inl rfl))
  (pss_one (ps_par (i := 14) (j := 15) rfl sc_law.nd rfl rfl (by decide) rfl rfl (pa_cons (pv 15) (pa_cons (pe_op op_addG (pv 14) (pv 15)) pa_nil)) (by rfl))))
  (pss_cons (ps_if (pt_not (pt_val (pe_callG C__law_alike hg (hr.mono (by decide)) (by rfl) T.g__law_alike T.F__law_alike.kp T.b__law_alike (pa_cons (pe_callG C_reduced hg (hr.mono (by decide)) (by rfl) T.g_reduced T.F_reduced.kp T.b_reduced (pa_cons (pe_op op_mulG (pv 14) (pv 16)) (pa_cons (pe_op op_mulG (pe_un un_neg (pv 15)) (pv 16)) pa_nil))) (pa_cons (pe_tup (pa_cons (pe_un un_neg (pv 14)) (pa_cons (pv 15) pa_nil))) pa_nil)))))
  (pss_one (ps_ret pe_bl))
  pss_nil)
  (pss_cons (ps_par (i := 17) (j := 18) rfl sc_law.nd rfl rfl (by decide) rfl rfl (pa_cons (pe_callG C__law_some hg (hr.mono (by decide)) (by rfl) T.g__law_some T.F__law_some.kp T.b__law_some (pa_cons (pv 1) (pa_cons (pe_lst (pa_cons pe_int (pa_cons pe_int (pa_cons pe_int (pa_cons pe_int (pa_cons pe_int pa_nil)))))) pa_nil))) (pa_cons pe_int pa_nil)) (by rfl))
  (pss_cons (ps_for PassesOwn.never rfl (pi_range1 (by rfl) T.z_range (pa_cons (pv 17) pa_nil)) (pg_name (i := 2) sc_law.nd rfl (.inl rfl))
  (pss_one (ps_set (i := 18) sc_law.nd rfl (.inl rfl) (pe_op op_mulG (pv 18) pe_int))))
  (pss_one (ps_ret (pe_callG C__law_alike hg (hr.mono (by decide)) (by rfl) T.g__law_alike T.F__law_alike.kp T.b__law_alike (pa_cons (pe_callG C_half_to hg (hr.mono (by decide)) (by rfl) T.g_half_to T.F_half_to.kp T.b_half_to (pa_cons (pv 17) pa_nil)) (pa_cons (pe_tup (pa_cons pe_int (pa_cons (pv 18) pa_nil))) pa_nil)))))))))))), ?_⟩
  refine ⟨.ref a, rfl, ?_⟩
  refine ⟨a, ns, rfl, hS, ?_⟩
  intro H1 p l ms sm np e1 e2 e3
  dsimp only [gName]
  refine law_rest (m := 17) e1 e2 e3 rfl ?_ k
  try dsimp only [cxOf]
  refine s_seq (s_forR1 (a_cons (e_int (a_nil ⟨6, rfl, by decide, fun i ρ => ρ.length = 19 ∧ ρ[1]? = some .bag, ⟨rfl, rfl⟩, ?_, ?_⟩))))
  · rintro i ρ hi hb
    obtain ⟨x0, x2, x3, x4, x5, x6, x7, x8, x9, x10, x11, x12, x13, x14, x15, x16, x17, x18, rfl⟩ := bg19 hb
    try dsimp only [List.set]
    -- n, d = _law_pair(bag)
    repeat walk_at "dl"
    refine ⟨rfl, rfl, fun n d sn sd hd => ?_⟩
    repeat walk_at "dl"
    -- one, other
    refine ⟨rfl, n, d, rfl, hd, sn.mono (by decide), sd.mono (by decide), ?_⟩
    have lp := red_low (n := n) hd
    obtain ⟨sp1, sp2⟩ := red_sm hd sn sd
    obtain ⟨p1, hp1⟩ : ∃ p1, p1 = red n d := ⟨_, rfl⟩
    rw [← hp1] at lp sp1 sp2 ⊢
    repeat walk_at "dl"
    refine ⟨rfl, rfl, fun n2 d2 sn2 sd2 hd2 => ?_⟩
    repeat walk_at "dl"
    refine ⟨rfl, rfl, fun n3 d3 sn3 sd3 hd3 => ?_⟩
    repeat walk_at "dl"
    refine ⟨rfl, n2, d3, rfl, hd3, sn2.mono (by decide), sd3.mono (by decide), ?_⟩
    have lq := red_low (n := n2) hd3
    obtain ⟨sq1, sq2⟩ := red_sm hd3 sn2 sd3
    generalize red n2 d3 = q0 at lq sq1 sq2 ⊢
    repeat walk_at "dx"
    -- other once more
    refine DL.E.mono (P := fun x => ∃ q : Int × Int, x = .dat (fr q) ∧ Low q ∧ Sm 150 q.1 ∧ Sm 150 q.2) (e_if (t_test ?_)) ?_
    · repeat walk_at "dl"
      refine ⟨rfl, _, rfl, by decide, by decide, fun r r0 r1 => ?_⟩
      repeat walk_at "dl"
      refine ite2 (fun hc => ?_) (fun hc => ?_)
      · repeat walk_at "dl"
        have sn1 : Sm 141 (n + 1) := sn.add (show Sm 140 1 by decide)
        refine ⟨rfl, n + 1, d, rfl, hd, sn1.mono (by decide), sd.mono (by decide), ?_⟩
        obtain ⟨s1, s2⟩ := red_sm hd sn1 (sd.mono (by decide))
        exact ⟨_, rfl, red_low hd, s1.mono (by decide), s2.mono (by decide)⟩
      · repeat walk_at "dl"
        exact ⟨lq, sq1.mono (by decide), sq2.mono (by decide)⟩
    clear lq sq1 sq2
    rintro x ⟨q, rfl, lq, sq1, sq2⟩
    replace sp1 := sp1.mono (show 140 ≤ 150 by decide)
    replace sp2 := sp2.mono (show 140 ≤ 150 by decide)
    have p2 : p1.2 ≠ 0 := by have := lp.pos; omega
    have q2 : q.2 ≠ 0 := by have := lq.pos; omega
    have m1 : CMulB p1.1 q.2 := Sm.mulX sp1 sq2 (by decide)
    have m2 : CMulB q.1 p1.2 := Sm.mulX sq1 sp2 (by decide)
    have m3 : CMulB p1.2 q.2 := Sm.mulX sp2 sq2 (by decide)
    have m4 : CMulB p1.1 q.1 := Sm.mulX sp1 sq1 (by decide)
    have m5 : CMulB p1.2 q.1 := Sm.mulX sp2 sq1 (by decide)
    have s4 : Sm 1000 p1.1 ∧ Sm 1000 p1.2 ∧ Sm 1000 q.1 ∧ Sm 1000 q.2 := ⟨sp1.mono (by decide), sp2.mono (by decide), sq1.mono (by decide), sq2.mono (by decide)⟩
    have fi : ∀ {a b : Int}, b ≠ 0 → Sm 9000 a → Sm 9000 b → Fine 8611 1 (fr (red a b)) := fun {a b} hb sa sb =>
      fine_fr ((red_sm hb sa sb).1.mono (by decide)) ((red_sm hb sa sb).2.mono (by decide))
    have fp : Fine 8611 1 (fr p1) := fine_fr (sp1.mono (by decide)) (sp2.mono (by decide))
    -- due
    have sA : Sm 9000 (p1.1 * q.2 + q.1 * p1.2) := ((sp1.mul sq2).add (sq1.mul sp2)).mono (by decide)
    have sB : Sm 9000 (p1.2 * q.2) := (sp2.mul sq2).mono (by decide)
    have sC : Sm 9000 (p1.1 * q.1) := (sp1.mul sq1).mono (by decide)
    have nB : p1.2 * q.2 ≠ 0 := Int.mul_ne_zero p2 q2
    repeat walk_at "dx"
    refine ⟨m1, ?_⟩
    repeat walk_at "dx"
    refine ⟨m2, ?_⟩
    repeat walk_at "dx"
    refine ⟨m3, ?_⟩
    repeat walk_at "dx"
    refine ⟨rfl, _, _, rfl, nB, sA, sB, ?_⟩
    repeat walk_at "dx"
    refine ⟨m4, ?_⟩
    repeat walk_at "dx"
    refine ⟨m3, ?_⟩
    repeat walk_at "dx"
    refine ⟨rfl, _, _, rfl, nB, sC, sB, ?_⟩
    repeat walk_at "dx"
    -- [reduced(n, d), added(one, other), times(one, other)]
    refine ⟨rfl, _, _, rfl, hd, sn.mono (by decide), sd.mono (by decide), ?_⟩
    rw [← hp1]
    repeat walk_at "dx"
    refine ⟨rfl, p1, q, rfl, ⟨s4.1, s4.2.1, s4.2.2.1, s4.2.2.2, p2, q2⟩, ?_⟩
    repeat walk_at "dx"
    refine ⟨rfl, p1, q, rfl, ⟨s4.1, s4.2.1, s4.2.2.1, s4.2.2.2, p2, q2⟩, ?_⟩
    repeat walk_at "dx"
    refine ⟨rfl, _, _, _, rfl, fine_list (fine_cons fp (fine_cons (fi nB sA sB) (fine_cons (fi nB sC sB) fine_nil))), by decide, by decide, ?_⟩
    repeat walk_at "dx"
    refine iteF ?_
    repeat walk_at "dx"
    -- less
    refine ⟨m1, ?_⟩
    repeat walk_at "dx"
    refine ⟨m2, ?_⟩
    try dsimp only [List.set]
    repeat walk_at "dx"
    try dsimp only [List.set]
    -- [compared(one, other), compared(one, one)]
    refine ⟨rfl, p1, q, rfl, s4, ?_⟩
    repeat walk_at "dx"
    refine ⟨rfl, p1, p1, rfl, ⟨s4.1, s4.2.1, s4.1, s4.2.1⟩, ?_⟩
    rw [Int.sub_self]
    repeat walk_at "dx"
    generalize p1.1 * q.2 - q.1 * p1.2 = z
    refine DL.E.mono (P := fun x => x = .dat (.int (sgn z))) (e_if (t_test ?_)) ?_
    · repeat walk_at "dl"
      refine ite2 (fun hc => ?_) (fun hc => ?_)
      · repeat walk_at "dl"
        have e0 : z = 0 := eq_of_beq hc
        rw [e0]
        rfl
      · have e0 : ¬ z = 0 := fun e => hc (by rw [e]; rfl)
        repeat walk_at "dl"
        refine ite2 (fun hc => ?_) (fun hc => ?_)
        · repeat walk_at "dl"
          unfold sgn
          rw [if_neg e0, if_pos (of_decide_eq_true hc)]
        · repeat walk_at "dl"
          unfold sgn
          rw [if_neg e0, if_neg (fun e => hc (decide_eq_true e))]
    · rintro x rfl
      repeat walk_at "dx"
      have fs : ∀ z, Fine 4302 0 (.int (sgn z)) := fun z => fine_int (by
        unfold sgn
        split
        · decide
        · split <;> decide)
      refine ⟨rfl, _, _, _, rfl, fine_list (fine_cons (fs z) (fine_cons (fs 0) fine_nil)), by decide, by decide, ?_⟩
      repeat walk_at "dx"
      refine iteF ?_
      repeat walk_at "dx"
      -- over
      refine DL.T.mono (P := fun b => b = false) (t_and ?_) ?_
      · repeat walk_at "dl"
        refine ite2 (fun hc => ?_) (fun hc => ?_)
        · have q1 : q.1 ≠ 0 := fun e => by
            rw [e] at hc
            exact absurd hc (by decide)
          have so : Sm 1000 p1.1 ∧ Sm 1000 p1.2 ∧ Sm 1000 q.1 ∧ Sm 1000 q.2 ∧ p1.2 ≠ 0 ∧ q.1 ≠ 0 := ⟨s4.1, s4.2.1, s4.2.2.1, s4.2.2.2, p2, q1⟩
          have nO : p1.2 * q.1 ≠ 0 := Int.mul_ne_zero p2 q1
          have sX : Sm 300 (p1.1 * q.2) := (sp1.mul sq2).mono (by decide)
          have sY : Sm 300 (p1.2 * q.1) := (sp2.mul sq1).mono (by decide)
          have back := over_back lp lq q1
          obtain ⟨so1, so2⟩ := red_sm nO sX sY
          have lo := red_low (n := p1.1 * q.2) nO
          repeat walk_at "dl"
          refine ⟨rfl, p1, q, rfl, so, ?_⟩
          repeat walk_at "dl"
          refine ⟨rfl, p1, q, rfl, so, ?_⟩
          repeat walk_at "dl"
          refine ⟨rfl, red (p1.1 * q.2) (p1.2 * q.1), q, rfl, ⟨so1.mono (by decide), so2.mono (by decide), s4.2.2.1, s4.2.2.2, by have := lo.pos; omega, q2⟩, ?_⟩
          rw [back]
          repeat walk_at "dl"
          refine ⟨m1, ?_⟩
          repeat walk_at "dl"
          refine ⟨m5, ?_⟩
          repeat walk_at "dl"
          refine ⟨rfl, _, _, rfl, nO, sX.mono (by decide), sY.mono (by decide), ?_⟩
          repeat walk_at "dl"
          exact ⟨rfl, _, _, _, rfl, fine_list (fine_cons (fi nO (sX.mono (by decide)) (sY.mono (by decide))) (fine_cons fp fine_nil)), by decide, by decide, _, rfl, rfl⟩
        · rfl
      · rintro b rfl
        refine iteF ?_
        repeat walk_at "dx"
        -- size, places
        refine ⟨rfl, _, rfl, Nat.le_of_ble_eq_true rfl, Nat.le_of_ble_eq_true rfl, fun dk hdk => ?_⟩
        obtain ⟨kk, rfl, k0, k1⟩ : ∃ k : Int, dk = .int k ∧ 0 ≤ k ∧ k ≤ 20 := by
          simp only [List.mem_cons, List.not_mem_nil, or_false] at hdk
          rcases hdk with rfl | rfl | rfl | rfl
          · exact ⟨_, rfl, by decide, by decide⟩
          · exact ⟨_, rfl, by decide, by decide⟩
          · exact ⟨_, rfl, by decide, by decide⟩
          · exact ⟨_, rfl, by decide, by decide⟩
        have sz : Sm 150 (if p1.1 < 0 then -p1.1 else p1.1) := sp1.nat
        have z0 : 0 ≤ (if p1.1 < 0 then -p1.1 else p1.1) := by split <;> omega
        generalize (if p1.1 < 0 then -p1.1 else p1.1) = y at sz z0 ⊢
        try dsimp only [List.set]
        repeat walk_at "dx"
        try dsimp only [List.set]
        -- many
        refine ⟨rfl, kk, rfl, k0, by omega, ?_⟩
        have st : Sm 81 (10 ^ kk.toNat) := (ten_sm kk.toNat).mono (by omega)
        have sm1 := sz.mul st
        have m0 : 0 ≤ y * 10 ^ kk.toNat := Int.mul_nonneg z0 (Int.pow_nonneg (by decide))
        repeat walk_at "dx"
        refine ⟨Sm.mulX sz st (by decide), ?_⟩
        repeat walk_at "dx"
        have pp : 0 < p1.2 := lp.pos
        -- low, high
        refine ⟨(sm1.mono (by decide)).fd p2, ?_⟩
        repeat walk_at "dx"
        have sm2 : Sm 300 (y * 10 ^ kk.toNat + p1.2 - 1) := (((sm1.mono (show 150 + 81 ≤ 250 by decide)).add (sp2.mono (by decide))).sub (show Sm 251 1 by decide)).mono (by decide)
        refine ⟨(sm2.mono (by decide)).fd p2, ?_⟩
        try dsimp only [List.set]
        repeat walk_at "dx"
        try dsimp only [List.set]
        have m1b : 0 ≤ y * 10 ^ kk.toNat + p1.2 - 1 := by omega
        have lo0 := fdiv_nn m0 pp
        have los := (fdiv_sm m0 pp sm1).mono (show 150 + 81 ≤ 1900 by decide)
        have hi0 := fdiv_nn m1b pp
        have his := (fdiv_sm m1b pp sm2).mono (show 300 ≤ 1900 by decide)
        refine ⟨rfl, (y, p1.2), kk, rfl, ⟨z0, pp, sz.mono (by decide), k0, by omega⟩, ?_⟩
        repeat walk_at "dx"
        refine ⟨rfl, (y, p1.2), kk, rfl, ⟨z0, pp, sz.mono (by decide), s4.2.1, k0, by omega⟩, ?_⟩
        repeat walk_at "dx"
        refine ⟨rfl, _, kk, rfl, lo0, los, k0, by omega, ?_⟩
        repeat walk_at "dx"
        refine ⟨rfl, _, kk, rfl, hi0, his, k0, by omega, ?_⟩
        repeat walk_at "dx"
        refine ⟨rfl, _, _, _, rfl, fine_list (fine_cons (wp_fine lo0 los k0 (by omega)) (fine_cons (wp_fine hi0 his k0 (by omega)) fine_nil)), by decide, by decide, ?_⟩
        repeat walk_at "dx"
        refine iteF ?_
        repeat walk_at "dx"
        exact ⟨rfl, rfl⟩
  · intro ρ hb
    obtain ⟨x0, x2, x3, x4, x5, x6, x7, x8, x9, x10, x11, x12, x13, x14, x15, x16, x17, x18, rfl⟩ := bg19 hb
    try dsimp only
    repeat walk_at "dx"
    refine ⟨rfl, _, rfl, Nat.le_of_ble_eq_true rfl, Nat.le_of_ble_eq_true rfl, fun db hdb => ?_⟩
    obtain ⟨by1, rfl, b0, b1⟩ : ∃ k : Int, db = .int k ∧ 1 ≤ k ∧ k ≤ 7 := by
      simp only [List.mem_cons, List.not_mem_nil, or_false] at hdb
      rcases hdb with rfl | rfl | rfl
      · exact ⟨_, rfl, by decide, by decide⟩
      · exact ⟨_, rfl, by decide, by decide⟩
      · exact ⟨_, rfl, by decide, by decide⟩
    repeat walk_at "dx"
    try dsimp only [List.set]
    -- the great pair
    refine ⟨_, _, _, rfl, trivial, trivial, trivial, ?_⟩
    try dsimp only [List.set]
    refine s_seq (s_forR1 (a_cons ?_))
    repeat walk_at "dx"
    refine ⟨rfl, _, rfl, by decide, by decide, fun r r0 r1 => ?_⟩
    repeat walk_at "dx"
    refine ⟨rfl, _, rfl, Nat.le_of_ble_eq_true rfl, Nat.le_of_ble_eq_true rfl, fun dn hdn => ?_⟩
    obtain ⟨m, rfl, m0, m1⟩ : ∃ k : Int, dn = .int k ∧ 0 ≤ k ∧ k ≤ 3000 := by
      simp only [List.mem_cons, List.not_mem_nil, or_false] at hdn
      rcases hdn with rfl | rfl | rfl
      · exact ⟨_, rfl, by decide, by decide⟩
      · exact ⟨_, rfl, by decide, by decide⟩
      · exact ⟨_, rfl, r0, by omega⟩
    repeat walk_at "dx"
    refine ⟨⟨by omega, by omega⟩, fun i ρ => ∃ (f s : Int) (y2 : Sl), ρ = [x0, .bag, y2, x3, x4, x5, x6, x7, x8, x9, x10, x11, x12, x13, .dat (.int f), .dat (.int s), .dat (.int by1), x17, x18] ∧
      1 ≤ f ∧ 1 ≤ s ∧ Nat.gcd f.natAbs s.natAbs = 1 ∧ Sm (i + 1) f ∧ Sm (i + 1) s, ⟨1, 1, x2, rfl, by decide, by decide, by decide, by decide, by decide⟩, ?_, ?_⟩
    · rintro i ρ hi ⟨f, s, y2, rfl, f1, s1, hg1, sf, ss⟩
      try dsimp only [List.set]
      repeat walk_at "dx"
      refine ⟨s, f + s, _, rfl, s1, by omega, ?_, ss.mono (by omega), sf.add ss⟩
      have e : (f + s).natAbs = f.natAbs + s.natAbs := by omega
      rw [e, Nat.gcd_add_self_right, Nat.gcd_comm]
      exact hg1
    · rintro ρ ⟨f, s, y2, rfl, f1, s1, hg1, sf, ss⟩
      replace sf := sf.mono (show m.toNat + 1 ≤ 3100 by omega)
      replace ss := ss.mono (show m.toNat + 1 ≤ 3100 by omega)
      have sb : Sm 4 by1 := by
        unfold Sm
        omega
      try dsimp only
      repeat walk_at "dx"
      refine ⟨Sm.mulX sf sb (by decide), ?_⟩
      repeat walk_at "dx"
      refine ⟨Sm.mulX ss.neg sb (by decide), ?_⟩
      repeat walk_at "dx"
      have nd1 : -s * by1 ≠ 0 := Int.mul_ne_zero (by omega) (by omega)
      have low : Low (-f, s) := ⟨by show 0 < s; omega, by show Nat.gcd (-f).natAbs s.natAbs = 1; rw [Int.natAbs_neg]; exact hg1⟩
      have er : red (f * by1) (-s * by1) = (-f, s) := red_eq nd1 low (by
        show f * by1 * s = -f * (-s * by1)
        rw [Int.neg_mul, Int.neg_mul, Int.mul_neg, Int.neg_neg, Int.mul_assoc, Int.mul_comm by1 s])
      refine ⟨rfl, _, _, rfl, nd1, (sf.mul sb).mono (by decide), (ss.neg.mul sb).mono (by decide), ?_⟩
      rw [er]
      repeat walk_at "dx"
      refine ⟨rfl, fr (-f, s), _, _, rfl, fine_fr (sf.neg.mono (by decide)) (ss.mono (by decide)), by decide, by decide, ?_⟩
      repeat walk_at "dx"
      refine iteF ?_
      repeat walk_at "dx"
      -- e, half
      refine ⟨rfl, _, rfl, Nat.le_of_ble_eq_true rfl, Nat.le_of_ble_eq_true rfl, fun de hde => ?_⟩
      obtain ⟨ee, rfl, ee0, ee1⟩ : ∃ k : Int, de = .int k ∧ 0 ≤ k ∧ k ≤ 300 := by
        simp only [List.mem_cons, List.not_mem_nil, or_false] at hde
        rcases hde with rfl | rfl | rfl | rfl | rfl
        · exact ⟨_, rfl, by decide, by decide⟩
        · exact ⟨_, rfl, by decide, by decide⟩
        · exact ⟨_, rfl, by decide, by decide⟩
        · exact ⟨_, rfl, by decide, by decide⟩
        · exact ⟨_, rfl, by decide, by decide⟩
      repeat walk_at "dx"
      try dsimp only [List.set]
      refine s_seq (s_forR1 (a_cons ?_))
      repeat walk_at "dx"
      refine ⟨⟨by omega, by omega⟩, fun i ρ => ∃ (y2 : Sl), ρ = [x0, .bag, y2, x3, x4, x5, x6, x7, x8, x9, x10, x11, x12, x13, .dat (.int f), .dat (.int s), .dat (.int by1), .dat (.int ee), .dat (.int (2 ^ i))], ⟨y2, rfl⟩, ?_, ?_⟩
      · rintro i ρ hi ⟨y2, rfl⟩
        try dsimp only [List.set]
        repeat walk_at "dx"
        exact ⟨_, by rw [Int.pow_succ]⟩
      · rintro ρ ⟨y2, rfl⟩
        try dsimp only
        refine s_next ?_
        try dsimp only
        repeat walk_at "dx"
        refine ⟨rfl, ee, rfl, ee0, by omega, ?_⟩
        rw [Int.one_mul]
        repeat walk_at "dx"
        have two : Sm 301 (2 ^ ee.toNat) := by
          unfold Sm
          have e : ((2 : Int) ^ ee.toNat).natAbs = 2 ^ ee.toNat := by
            rw [Int.natAbs_pow]
            rfl
          rw [e]
          exact Nat.pow_lt_pow_right (by decide) (by omega)
        exact ⟨rfl, _, _, _, rfl, fine_tuple (fine_cons (fine_int (by decide)) (fine_cons (fine_int (two.mono (by decide))) fine_nil)), by decide, by decide, _, rfl, rfl⟩
end
section
variable {P : Program} {w : World} {K : PySem.W.Frag} {mg : Str → Option Value} {bs : Heap}
theorem all_mk {l : PySem.W.OpenLaw} {w : World} {K : PySem.W.Frag} {h : Heap} {mg : Str → Option Value} {fa : Addr} (X : K.In h) (Gn : h.Ns mainGlobals mg) (hfa : mg "law" = some (.ref fa))
    {f0 : Addr} {od0 an0 : Option Addr} {sl0 : Array (Option Value)} {oc0 kV0 dc0 pm0 cd0 ct0 : Value}
    {f1 : Addr} {od1 an1 : Option Addr} {sl1 : Array (Option Value)} {oc1 kV1 dc1 pm1 cd1 ct1 : Value}
    {f2 : Addr} {od2 an2 : Option Addr} {sl2 : Array (Option Value)} {oc2 kV2 dc2 pm2 cd2 ct2 : Value}
    {f3 : Addr} {od3 an3 : Option Addr} {sl3 : Array (Option Value)} {oc3 kV3 dc3 pm3 cd3 ct3 : Value}
    {f4 : Addr} {od4 an4 : Option Addr} {sl4 : Array (Option Value)} {oc4 kV4 dc4 pm4 cd4 ct4 : Value}
    {f5 : Addr} {od5 an5 : Option Addr} {sl5 : Array (Option Value)} {oc5 kV5 dc5 pm5 cd5 ct5 : Value}
    {f6 : Addr} {od6 an6 : Option Addr} {sl6 : Array (Option Value)} {oc6 kV6 dc6 pm6 cd6 ct6 : Value}
    {f7 : Addr} {od7 an7 : Option Addr} {sl7 : Array (Option Value)} {oc7 kV7 dc7 pm7 cd7 ct7 : Value}
    {f8 : Addr} {od8 an8 : Option Addr} {sl8 : Array (Option Value)} {oc8 kV8 dc8 pm8 cd8 ct8 : Value}
    {f9 : Addr} {od9 an9 : Option Addr} {sl9 : Array (Option Value)} {oc9 kV9 dc9 pm9 cd9 ct9 : Value}
    {f10 : Addr} {od10 an10 : Option Addr} {sl10 : Array (Option Value)} {oc10 kV10 dc10 pm10 cd10 ct10 : Value}
    {f11 : Addr} {od11 an11 : Option Addr} {sl11 : Array (Option Value)} {oc11 kV11 dc11 pm11 cd11 ct11 : Value}
    {f12 : Addr} {od12 an12 : Option Addr} {sl12 : Array (Option Value)} {oc12 kV12 dc12 pm12 cd12 ct12 : Value}
    {f13 : Addr} {od13 an13 : Option Addr} {sl13 : Array (Option Value)} {oc13 kV13 dc13 pm13 cd13 ct13 : Value}
    {f14 : Addr} {od14 an14 : Option Addr} {sl14 : Array (Option Value)} {oc14 kV14 dc14 pm14 cd14 ct14 : Value}
    {f15 : Addr} {od15 an15 : Option Addr} {sl15 : Array (Option Value)} {oc15 kV15 dc15 pm15 cd15 ct15 : Value}
    {f16 : Addr} {od16 an16 : Option Addr} {sl16 : Array (Option Value)} {oc16 kV16 dc16 pm16 cd16 ct16 : Value}
    {f17 : Addr} {od17 an17 : Option Addr} {sl17 : Array (Option Value)} {oc17 kV17 dc17 pm17 cd17 ct17 : Value}
    {f18 : Addr} {od18 an18 : Option Addr} {sl18 : Array (Option Value)} {oc18 kV18 dc18 pm18 cd18 ct18 : Value}
    {f19 : Addr} {od19 an19 : Option Addr} {sl19 : Array (Option Value)} {oc19 kV19 dc19 pm19 cd19 ct19 : Value}
    {f20 : Addr} {od20 an20 : Option Addr} {sl20 : Array (Option Value)} {oc20 kV20 dc20 pm20 cd20 ct20 : Value}
    (a0 : PySem.W.nsIn K mainGlobals "shown" = some (some (.ref f0)))
    (l0 : K.lookup f0 = some ⟨oc0, od0, .func (PySem.W.fnOf "shown" "shown" (defArgs s_shown) (defBody s_shown) (defScope s_shown) .none kV0 dc0 pm0 an0 cd0 ct0), sl0⟩)
    (c0 : PySem.W.codeIn K cd0 "shown" = true) (k0 : PySem.W.keepIn K (.ref f0) = true)
    (a1 : PySem.W.nsIn K mainGlobals "reduced" = some (some (.ref f1)))
    (l1 : K.lookup f1 = some ⟨oc1, od1, .func (PySem.W.fnOf "reduced" "reduced" (defArgs s_reduced) (defBody s_reduced) (defScope s_reduced) .none kV1 dc1 pm1 an1 cd1 ct1), sl1⟩)
    (c1 : PySem.W.codeIn K cd1 "reduced" = true) (k1 : PySem.W.keepIn K (.ref f1) = true)
    (a2 : PySem.W.nsIn K mainGlobals "added" = some (some (.ref f2)))
    (l2 : K.lookup f2 = some ⟨oc2, od2, .func (PySem.W.fnOf "added" "added" (defArgs s_added) (defBody s_added) (defScope s_added) .none kV2 dc2 pm2 an2 cd2 ct2), sl2⟩)
    (c2 : PySem.W.codeIn K cd2 "added" = true) (k2 : PySem.W.keepIn K (.ref f2) = true)
    (a3 : PySem.W.nsIn K mainGlobals "times" = some (some (.ref f3)))
    (l3 : K.lookup f3 = some ⟨oc3, od3, .func (PySem.W.fnOf "times" "times" (defArgs s_times) (defBody s_times) (defScope s_times) .none kV3 dc3 pm3 an3 cd3 ct3), sl3⟩)
    (c3 : PySem.W.codeIn K cd3 "times" = true) (k3 : PySem.W.keepIn K (.ref f3) = true)
    (a4 : PySem.W.nsIn K mainGlobals "over" = some (some (.ref f4)))
    (l4 : K.lookup f4 = some ⟨oc4, od4, .func (PySem.W.fnOf "over" "over" (defArgs s_over) (defBody s_over) (defScope s_over) .none kV4 dc4 pm4 an4 cd4 ct4), sl4⟩)
    (c4 : PySem.W.codeIn K cd4 "over" = true) (k4 : PySem.W.keepIn K (.ref f4) = true)
    (a5 : PySem.W.nsIn K mainGlobals "compared" = some (some (.ref f5)))
    (l5 : K.lookup f5 = some ⟨oc5, od5, .func (PySem.W.fnOf "compared" "compared" (defArgs s_compared) (defBody s_compared) (defScope s_compared) .none kV5 dc5 pm5 an5 cd5 ct5), sl5⟩)
    (c5 : PySem.W.codeIn K cd5 "compared" = true) (k5 : PySem.W.keepIn K (.ref f5) = true)
    (a6 : PySem.W.nsIn K mainGlobals "half_to" = some (some (.ref f6)))
    (l6 : K.lookup f6 = some ⟨oc6, od6, .func (PySem.W.fnOf "half_to" "half_to" (defArgs s_half_to) (defBody s_half_to) (defScope s_half_to) .none kV6 dc6 pm6 an6 cd6 ct6), sl6⟩)
    (c6 : PySem.W.codeIn K cd6 "half_to" = true) (k6 : PySem.W.keepIn K (.ref f6) = true)
    (a7 : PySem.W.nsIn K mainGlobals "_tens" = some (some (.ref f7)))
    (l7 : K.lookup f7 = some ⟨oc7, od7, .func (PySem.W.fnOf "_tens" "_tens" (defArgs s__tens) (defBody s__tens) (defScope s__tens) .none kV7 dc7 pm7 an7 cd7 ct7), sl7⟩)
    (c7 : PySem.W.codeIn K cd7 "_tens" = true) (k7 : PySem.W.keepIn K (.ref f7) = true)
    (a8 : PySem.W.nsIn K mainGlobals "_with_point" = some (some (.ref f8)))
    (l8 : K.lookup f8 = some ⟨oc8, od8, .func (PySem.W.fnOf "_with_point" "_with_point" (defArgs s__with_point) (defBody s__with_point) (defScope s__with_point) .none kV8 dc8 pm8 an8 cd8 ct8), sl8⟩)
    (c8 : PySem.W.codeIn K cd8 "_with_point" = true) (k8 : PySem.W.keepIn K (.ref f8) = true)
    (a9 : PySem.W.nsIn K mainGlobals "decimal_below" = some (some (.ref f9)))
    (l9 : K.lookup f9 = some ⟨oc9, od9, .func (PySem.W.fnOf "decimal_below" "decimal_below" (defArgs s_decimal_below) (defBody s_decimal_below) (defScope s_decimal_below) .none kV9 dc9 pm9 an9 cd9 ct9), sl9⟩)
    (c9 : PySem.W.codeIn K cd9 "decimal_below" = true) (k9 : PySem.W.keepIn K (.ref f9) = true)
    (a10 : PySem.W.nsIn K mainGlobals "decimal_above" = some (some (.ref f10)))
    (l10 : K.lookup f10 = some ⟨oc10, od10, .func (PySem.W.fnOf "decimal_above" "decimal_above" (defArgs s_decimal_above) (defBody s_decimal_above) (defScope s_decimal_above) .none kV10 dc10 pm10 an10 cd10 ct10), sl10⟩)
    (c10 : PySem.W.codeIn K cd10 "decimal_above" = true) (k10 : PySem.W.keepIn K (.ref f10) = true)
    (a11 : PySem.W.nsIn K mainGlobals "_law_bag" = some (some (.ref f11)))
    (l11 : K.lookup f11 = some ⟨oc11, od11, .func (PySem.W.fnOf "_law_bag" "_law_bag" (defArgs s__law_bag) (defBody s__law_bag) (defScope s__law_bag) .none kV11 dc11 pm11 an11 cd11 ct11), sl11⟩)
    (c11 : PySem.W.codeIn K cd11 "_law_bag" = true) (k11 : PySem.W.keepIn K (.ref f11) = true)
    (a12 : PySem.W.nsIn K mainGlobals "_law_take" = some (some (.ref f12)))
    (l12 : K.lookup f12 = some ⟨oc12, od12, .func (PySem.W.fnOf "_law_take" "_law_take" (defArgs s__law_take) (defBody s__law_take) (defScope s__law_take) .none kV12 dc12 pm12 an12 cd12 ct12), sl12⟩)
    (c12 : PySem.W.codeIn K cd12 "_law_take" = true) (k12 : PySem.W.keepIn K (.ref f12) = true)
    (a13 : PySem.W.nsIn K mainGlobals "_law_some" = some (some (.ref f13)))
    (l13 : K.lookup f13 = some ⟨oc13, od13, .func (PySem.W.fnOf "_law_some" "_law_some" (defArgs s__law_some) (defBody s__law_some) (defScope s__law_some) .none kV13 dc13 pm13 an13 cd13 ct13), sl13⟩)
    (c13 : PySem.W.codeIn K cd13 "_law_some" = true) (k13 : PySem.W.keepIn K (.ref f13) = true)
    (a14 : PySem.W.nsIn K mainGlobals "_law_alike" = some (some (.ref f14)))
    (l14 : K.lookup f14 = some ⟨oc14, od14, .func (PySem.W.fnOf "_law_alike" "_law_alike" (defArgs s__law_alike) (defBody s__law_alike) (defScope s__law_alike) .none kV14 dc14 pm14 an14 cd14 ct14), sl14⟩)
    (c14 : PySem.W.codeIn K cd14 "_law_alike" = true) (k14 : PySem.W.keepIn K (.ref f14) = true)
    (a15 : PySem.W.nsIn K mainGlobals "_law_common" = some (some (.ref f15)))
    (l15 : K.lookup f15 = some ⟨oc15, od15, .func (PySem.W.fnOf "_law_common" "_law_common" (defArgs s__law_common) (defBody s__law_common) (defScope s__law_common) .none kV15 dc15 pm15 an15 cd15 ct15), sl15⟩)
    (c15 : PySem.W.codeIn K cd15 "_law_common" = true) (k15 : PySem.W.keepIn K (.ref f15) = true)
    (a16 : PySem.W.nsIn K mainGlobals "_law_reduced" = some (some (.ref f16)))
    (l16 : K.lookup f16 = some ⟨oc16, od16, .func (PySem.W.fnOf "_law_reduced" "_law_reduced" (defArgs s__law_reduced) (defBody s__law_reduced) (defScope s__law_reduced) .none kV16 dc16 pm16 an16 cd16 ct16), sl16⟩)
    (c16 : PySem.W.codeIn K cd16 "_law_reduced" = true) (k16 : PySem.W.keepIn K (.ref f16) = true)
    (a17 : PySem.W.nsIn K mainGlobals "_law_pair" = some (some (.ref f17)))
    (l17 : K.lookup f17 = some ⟨oc17, od17, .func (PySem.W.fnOf "_law_pair" "_law_pair" (defArgs s__law_pair) (defBody s__law_pair) (defScope s__law_pair) .none kV17 dc17 pm17 an17 cd17 ct17), sl17⟩)
    (c17 : PySem.W.codeIn K cd17 "_law_pair" = true) (k17 : PySem.W.keepIn K (.ref f17) = true)
    (a18 : PySem.W.nsIn K mainGlobals "_law_ten" = some (some (.ref f18)))
    (l18 : K.lookup f18 = some ⟨oc18, od18, .func (PySem.W.fnOf "_law_ten" "_law_ten" (defArgs s__law_ten) (defBody s__law_ten) (defScope s__law_ten) .none kV18 dc18 pm18 an18 cd18 ct18), sl18⟩)
    (c18 : PySem.W.codeIn K cd18 "_law_ten" = true) (k18 : PySem.W.keepIn K (.ref f18) = true)
    (a19 : PySem.W.nsIn K mainGlobals "_law_decimal" = some (some (.ref f19)))
    (l19 : K.lookup f19 = some ⟨oc19, od19, .func (PySem.W.fnOf "_law_decimal" "_law_decimal" (defArgs s__law_decimal) (defBody s__law_decimal) (defScope s__law_decimal) .none kV19 dc19 pm19 an19 cd19 ct19), sl19⟩)
    (c19 : PySem.W.codeIn K cd19 "_law_decimal" = true) (k19 : PySem.W.keepIn K (.ref f19) = true)
    (a20 : PySem.W.nsIn K mainGlobals "law" = some (some (.ref f20)))
    (l20 : K.lookup f20 = some ⟨oc20, od20, .func (PySem.W.fnOf "law" "law" (defArgs s_law) (defBody s_law) (defScope s_law) .none kV20 dc20 pm20 an20 cd20 ct20), sl20⟩)
    (c20 : PySem.W.codeIn K cd20 "law" = true) (k20 : PySem.W.keepIn K (.ref f20) = true)
    (z_abs : PySem.W.nsIn K mainGlobals "abs" = some none)
    (z_divmod : PySem.W.nsIn K mainGlobals "divmod" = some none)
    (z_int : PySem.W.nsIn K mainGlobals "int" = some none)
    (z_len : PySem.W.nsIn K mainGlobals "len" = some none)
    (z_max : PySem.W.nsIn K mainGlobals "max" = some none)
    (z_range : PySem.W.nsIn K mainGlobals "range" = some none)
    (z_repr : PySem.W.nsIn K mainGlobals "repr" = some none)
    (z_str : PySem.W.nsIn K mainGlobals "str" = some none)
    (m_gcd : PySem.W.nsIn K mainGlobals "gcd" = some (some (.builtin "math.gcd"))) :
    ∃ fd : FuncData, (∀ (s : Shared) (v : Value), BindsTo s fd ⟨[v], []⟩ [("script", v)]) ∧
      ∀ bs : Heap, K.In bs → bs.Ns mainGlobals mg → bs.NoDigits → FnG l.prog w K mg bs 4 fa fd ["script"] (spLaw K) := by
  have e := hfa.symm.trans (PySem.W.mg_of X Gn a20)
  cases e
  have F0 := fun_mk (st := s_shown) l0 c0 k0
  have b0 := F0.binds (ps := ["number"]) fun _ _ _ _ _ _ us hl => match us, hl with | [_], _ => rfl
  have F1 := fun_mk (st := s_reduced) l1 c1 k1
  have b1 := F1.binds (ps := ["n", "d"]) fun _ _ _ _ _ _ us hl => match us, hl with | [_, _], _ => rfl
  have F2 := fun_mk (st := s_added) l2 c2 k2
  have b2 := F2.binds (ps := ["one", "other"]) fun _ _ _ _ _ _ us hl => match us, hl with | [_, _], _ => rfl
  have F3 := fun_mk (st := s_times) l3 c3 k3
  have b3 := F3.binds (ps := ["one", "other"]) fun _ _ _ _ _ _ us hl => match us, hl with | [_, _], _ => rfl
  have F4 := fun_mk (st := s_over) l4 c4 k4
  have b4 := F4.binds (ps := ["one", "other"]) fun _ _ _ _ _ _ us hl => match us, hl with | [_, _], _ => rfl
  have F5 := fun_mk (st := s_compared) l5 c5 k5
  have b5 := F5.binds (ps := ["one", "other"]) fun _ _ _ _ _ _ us hl => match us, hl with | [_, _], _ => rfl
  have F6 := fun_mk (st := s_half_to) l6 c6 k6
  have b6 := F6.binds (ps := ["e"]) fun _ _ _ _ _ _ us hl => match us, hl with | [_], _ => rfl
  have F7 := fun_mk (st := s__tens) l7 c7 k7
  have b7 := F7.binds (ps := ["places"]) fun _ _ _ _ _ _ us hl => match us, hl with | [_], _ => rfl
  have F8 := fun_mk (st := s__with_point) l8 c8 k8
  have b8 := F8.binds (ps := ["number", "places"]) fun _ _ _ _ _ _ us hl => match us, hl with | [_, _], _ => rfl
  have F9 := fun_mk (st := s_decimal_below) l9 c9 k9
  have b9 := F9.binds (ps := ["one", "places"]) fun _ _ _ _ _ _ us hl => match us, hl with | [_, _], _ => rfl
  have F10 := fun_mk (st := s_decimal_above) l10 c10 k10
  have b10 := F10.binds (ps := ["one", "places"]) fun _ _ _ _ _ _ us hl => match us, hl with | [_, _], _ => rfl
  have F11 := fun_mk (st := s__law_bag) l11 c11 k11
  have b11 := F11.binds (ps := ["script"]) fun _ _ _ _ _ _ us hl => match us, hl with | [_], _ => rfl
  have F12 := fun_mk (st := s__law_take) l12 c12 k12
  have b12 := F12.binds (ps := ["bag", "many"]) fun _ _ _ _ _ _ us hl => match us, hl with | [_, _], _ => rfl
  have F13 := fun_mk (st := s__law_some) l13 c13 k13
  have b13 := F13.binds (ps := ["bag", "things"]) fun _ _ _ _ _ _ us hl => match us, hl with | [_, _], _ => rfl
  have F14 := fun_mk (st := s__law_alike) l14 c14 k14
  have b14 := F14.binds (ps := ["found", "due"]) fun _ _ _ _ _ _ us hl => match us, hl with | [_, _], _ => rfl
  have F15 := fun_mk (st := s__law_common) l15 c15 k15
  have b15 := F15.binds (ps := ["one", "other"]) fun _ _ _ _ _ _ us hl => match us, hl with | [_, _], _ => rfl
  have F16 := fun_mk (st := s__law_reduced) l16 c16 k16
  have b16 := F16.binds (ps := ["n", "d"]) fun _ _ _ _ _ _ us hl => match us, hl with | [_, _], _ => rfl
  have F17 := fun_mk (st := s__law_pair) l17 c17 k17
  have b17 := F17.binds (ps := ["bag"]) fun _ _ _ _ _ _ us hl => match us, hl with | [_], _ => rfl
  have F18 := fun_mk (st := s__law_ten) l18 c18 k18
  have b18 := F18.binds (ps := ["places"]) fun _ _ _ _ _ _ us hl => match us, hl with | [_], _ => rfl
  have F19 := fun_mk (st := s__law_decimal) l19 c19 k19
  have b19 := F19.binds (ps := ["many", "places"]) fun _ _ _ _ _ _ us hl => match us, hl with | [_, _], _ => rfl
  have F20 := fun_mk (st := s_law) l20 c20 k20
  have b20 := F20.binds (ps := ["script"]) fun _ _ _ _ _ _ us hl => match us, hl with | [_], _ => rfl
  refine ⟨PySem.W.fnOf "law" "law" (defArgs s_law) (defBody s_law) (defScope s_law) .none kV20 dc20 pm20 an20 cd20 ct20, ?b, ?F⟩
  case F => exact fun bs _ _ nd => ok_law (T := (⟨_, _, F0, PySem.W.mg_of X Gn a0, b0,
    _, _, F1, PySem.W.mg_of X Gn a1, b1,
    _, _, F2, PySem.W.mg_of X Gn a2, b2,
    _, _, F3, PySem.W.mg_of X Gn a3, b3,
    _, _, F4, PySem.W.mg_of X Gn a4, b4,
    _, _, F5, PySem.W.mg_of X Gn a5, b5,
    _, _, F6, PySem.W.mg_of X Gn a6, b6,
    _, _, F7, PySem.W.mg_of X Gn a7, b7,
    _, _, F8, PySem.W.mg_of X Gn a8, b8,
    _, _, F9, PySem.W.mg_of X Gn a9, b9,
    _, _, F10, PySem.W.mg_of X Gn a10, b10,
    _, _, F11, PySem.W.mg_of X Gn a11, b11,
    _, _, F12, PySem.W.mg_of X Gn a12, b12,
    _, _, F13, PySem.W.mg_of X Gn a13, b13,
    _, _, F14, PySem.W.mg_of X Gn a14, b14,
    _, _, F15, PySem.W.mg_of X Gn a15, b15,
    _, _, F16, PySem.W.mg_of X Gn a16, b16,
    _, _, F17, PySem.W.mg_of X Gn a17, b17,
    _, _, F18, PySem.W.mg_of X Gn a18, b18,
    _, _, F19, PySem.W.mg_of X Gn a19, b19,
    _, _, F20, PySem.W.mg_of X Gn a20, b20,
    PySem.W.mg_none_of X Gn z_abs,
    PySem.W.mg_none_of X Gn z_divmod,
    PySem.W.mg_none_of X Gn z_int,
    PySem.W.mg_none_of X Gn z_len,
    PySem.W.mg_none_of X Gn z_max,
    PySem.W.mg_none_of X Gn z_range,
    PySem.W.mg_none_of X Gn z_repr,
    PySem.W.mg_none_of X Gn z_str,
    PySem.W.mg_of X Gn m_gcd⟩ : Txt K mg)) nd
  case b => exact fun s v => .of_eq rfl
end
end K3

open PySem PySem.W PyProof.Rows
set_option maxRecDepth 100000 in
set_option maxHeartbeats 0 in
theorem PySem.Challenge.cw_unwrittenrow_k03_whole_fractions_by_inte_holds : PySem.Challenge.rw_unwrittenrow_k03_whole_fractions_by_inte.Holds := by
  w_on; o_law; k_head; (case hw => w_witness2)
  k_fill
  refine DL.walkG (l := PySem.Challenge.rw_unwrittenrow_k03_whole_fractions_by_inte) (m := 63) (n := 4) (x := "script") (sp := K3.spLaw) rfl (by decide) rfl ⟨rfl, by decide, by decide⟩ (fun w h Y => PySem.W.kIn_of Y) ?F (fun K H a ns hl _ hS => ⟨a, ns, rfl, hS, hl, fun _ => rfl⟩)
  case F =>
    intro w mg fa h KX G hmg
    refine' K3.all_mk KX G hmg ?a0 ?l0 ?c0 ?k0 ?a1 ?l1 ?c1 ?k1 ?a2 ?l2 ?c2 ?k2 ?a3 ?l3 ?c3 ?k3 ?a4 ?l4 ?c4 ?k4 ?a5 ?l5 ?c5 ?k5 ?a6 ?l6 ?c6 ?k6 ?a7 ?l7 ?c7 ?k7 ?a8 ?l8 ?c8 ?k8 ?a9 ?l9 ?c9 ?k9 ?a10 ?l10 ?c10 ?k10 ?a11 ?l11 ?c11 ?k11 ?a12 ?l12 ?c12 ?k12 ?a13 ?l13 ?c13 ?k13 ?a14 ?l14 ?c14 ?k14 ?a15 ?l15 ?c15 ?k15 ?a16 ?l16 ?c16 ?k16 ?a17 ?l17 ?c17 ?k17 ?a18 ?l18 ?c18 ?k18 ?a19 ?l19 ?c19 ?k19 ?a20 ?l20 ?c20 ?k20 ?z_abs ?z_divmod ?z_int ?z_len ?z_max ?z_range ?z_repr ?z_str ?m_gcd
    (case a0 => k_is)
    (case l0 => k_is)
    (case c0 => k_is)
    (case k0 => k_is)
    (case a1 => k_is)
    (case l1 => k_is)
    (case c1 => k_is)
    (case k1 => k_is)
    (case a2 => k_is)
    (case l2 => k_is)
    (case c2 => k_is)
    (case k2 => k_is)
    (case a3 => k_is)
    (case l3 => k_is)
    (case c3 => k_is)
    (case k3 => k_is)
    (case a4 => k_is)
    (case l4 => k_is)
    (case c4 => k_is)
    (case k4 => k_is)
    (case a5 => k_is)
    (case l5 => k_is)
    (case c5 => k_is)
    (case k5 => k_is)
    (case a6 => k_is)
    (case l6 => k_is)
    (case c6 => k_is)
    (case k6 => k_is)
    (case a7 => k_is)
    (case l7 => k_is)
    (case c7 => k_is)
    (case k7 => k_is)
    (case a8 => k_is)
    (case l8 => k_is)
    (case c8 => k_is)
    (case k8 => k_is)
    (case a9 => k_is)
    (case l9 => k_is)
    (case c9 => k_is)
    (case k9 => k_is)
    (case a10 => k_is)
    (case l10 => k_is)
    (case c10 => k_is)
    (case k10 => k_is)
    (case a11 => k_is)
    (case l11 => k_is)
    (case c11 => k_is)
    (case k11 => k_is)
    (case a12 => k_is)
    (case l12 => k_is)
    (case c12 => k_is)
    (case k12 => k_is)
    (case a13 => k_is)
    (case l13 => k_is)
    (case c13 => k_is)
    (case k13 => k_is)
    (case a14 => k_is)
    (case l14 => k_is)
    (case c14 => k_is)
    (case k14 => k_is)
    (case a15 => k_is)
    (case l15 => k_is)
    (case c15 => k_is)
    (case k15 => k_is)
    (case a16 => k_is)
    (case l16 => k_is)
    (case c16 => k_is)
    (case k16 => k_is)
    (case a17 => k_is)
    (case l17 => k_is)
    (case c17 => k_is)
    (case k17 => k_is)
    (case a18 => k_is)
    (case l18 => k_is)
    (case c18 => k_is)
    (case k18 => k_is)
    (case a19 => k_is)
    (case l19 => k_is)
    (case c19 => k_is)
    (case k19 => k_is)
    (case a20 => k_is)
    (case l20 => k_is)
    (case c20 => k_is)
    (case k20 => k_is)
    (case z_abs => k_is)
    (case z_divmod => k_is)
    (case z_int => k_is)
    (case z_len => k_is)
    (case z_max => k_is)
    (case z_range => k_is)
    (case z_repr => k_is)
    (case z_str => k_is)
    (case m_gcd => k_is)
