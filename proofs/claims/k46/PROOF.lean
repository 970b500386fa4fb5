import PyProof.Rows.All
import Wide.All
import OpenK.AllK
import Wide.FinOn
import HandS.ForMost
import HandS.Wide
import HandS.WideBits
import HandS.Gcd
import HandS.StrMore
import HandS.Style
import PyProof.ReprRoads
import PyProof.Rows.Digits
import HandS.IsInst
import PyProof.P3Eq
import PyProof.StrLawsRepr
import HandS.More
import HandS.Walk
import HandS.TupAny
import KE.GoesMore
import KE.KTupSum
import HandS.Words
import KE.GoesZip
import KE.GoesEnum
import HandS.SortRule
import HandS.DictComp
import PyProof.P3In
import HandS.Deep
import HandS.SortKw
import HandS.ForDict
import HandS.Iter
import PySem.Challenge.RW_unwrittenrow_k46_whole_enclosures_show_w
set_option Elab.async false
set_option linter.all false
set_option maxRecDepth 100000
set_option maxHeartbeats 4000000
/-! Calls in which nothing is being shown around: the promise of a def where the guards are known. -/
namespace DL
open PySem PySem.Spec PyProof.Rows L2

/-- a def's promise, kept where no guard runs around -/
structure FnG (P : Program) (w : World) (K : PySem.W.Frag) (mg : Str → Option Value)
    (bs : Heap) (n : Nat) (f : Addr) (fd : FuncData) (ps : List Str) (sp : Sp) : Prop where
  len : ∀ vs H Q E, sp vs H Q E → vs.length = ps.length
  go : ∀ (A : Around) (out : List Env) (s : Shared) (H : Hp) (args : Args) (us : List Value)
      (vs : List V) (Q : VK) (E : XK), A.guards = some [] → Room n A →
    Env0 P w K mg bs A out s H → BindsTo s fd args (ps.zip us) → Vals vs us → sp vs H Q E →
    codeAny (model P w) A (.call (.ref f) args) (CR CX0 out P w H s Q E) s

theorem FnG.mono {P : Program} {w : World} {K : PySem.W.Frag} {mg : Str → Option Value}
    {bs : Heap} {n m : Nat} {f : Addr} {fd : FuncData} {ps : List Str} {sp : Sp}
    (F : FnG P w K mg bs n f fd ps sp) (h : n ≤ m) : FnG P w K mg bs m f fd ps sp :=
  ⟨F.len, fun A out s H args us vs Q E g r => F.go A out s H args us vs Q E g (r.mono h)⟩

/-- a body's term, told for each entry at which no guard runs -/
theorem fnG {P : Program} {w : World} {K : PySem.W.Frag} {mg : Str → Option Value} {bs : Heap}
    {n : Nat} {x q : Str} {st : Stmt} {f : Addr} {fd : FuncData} {N ps : List Str} {sp : Sp}
    (F : Fun K x q st f fd) (S : FnScope N ps (defScope st))
    (len : ∀ vs H Q E, sp vs H Q E → vs.length = ps.length)
    (body : ∀ (cd : Value) (A : Around) (out : List Env) (s : Shared) (H : Hp) (vs : List V) (Q : VK)
      (E : XK), A.guards = some [] →
      Room n (A.deeper (envOfC q (defScope st) s.heap.objs.size f cd)) → sp vs H Q E →
      ∃ t, PSs (cxOf CX0 P w K mg bs N q (defScope st) f cd A out s H E).nox (defBody st) t ∧
        t { nx := fun _ H' => Q .non H', rt := Q } (start N vs) H) :
    FnG P w K mg bs (n + 1) f fd ps sp := by
  obtain ⟨oc, od, kV, doc, pm, an, cdv, ct, osl, rfl, lk, hcd⟩ := F.ex
  refine ⟨len, ?_⟩
  intro A out s H args us vs Q E hgd hroom e0 hbind hvals hpre
  have KX : K.In s.heap := e0.mod.kin.keeps fun b o e => (e0.bs b o e).1
  have lim : s.heap.NoLimit := e0.mod.nolimit.keeps fun b o e => (e0.bs b o e).1
  have hlen := len _ _ _ _ hpre
  have hkinds : ∀ y ∈ ps.zip us, (defScope st).names.lookup y.1 = some .local ∨
      ((defScope st).names.lookup y.1 = some .cell ∧
        ((cellsFrom (s.heap.objs.size + 1) (defScope st).names []).lookup y.1).isSome = true) := by
    rintro ⟨nm, v⟩ hy
    rcases S.par nm (List.of_mem_zip hy).1 with z | z
    · exact Or.inl z
    · exact Or.inr ⟨z, PySem.W.cellsFrom_some _ _ _ (Or.inl z)⟩
  refine codeAny_call_function hroom.depth (KX _ _ lk) rfl S.co S.gen rfl
    (PySem.W.codeRec_of KX hcd) (hbind _ _ _ _ ?_)
  refine wpAny_newFunctionEnv_cells S.kind hkinds fun env he sb xin => ?_
  subst he
  refine ⟨lim.keeps xin.toInCall.keep, codeAny_func ?_⟩
  have I0 : Inv (cxOf CX0 P w K mg bs N q (defScope st) f cdv A out s H E) [] (start N vs) H sb :=
    inv_start S hroom.hd e0 hlen hvals xin
  obtain ⟨t, ht, hq⟩ := body cdv A out s H vs Q E hgd (hroom.deeper _) hpre
  refine wpAny_mono (ht.nox.run [] sb (start N vs) H _ I0 hq) (fun fl sz hs => ?_) fun e sz hs => hs
  cases fl with
  | next =>
    obtain ⟨σ1, H1, J, z⟩ := hs
    exact ⟨.non, H1, J.os, J.bare, J.base, J.hok, rfl, z⟩
  | ret u =>
    obtain ⟨v, σ1, H1, J, rv, z⟩ := hs
    exact ⟨v, H1, J.os, J.bare, J.base, J.hok, rv, z⟩
  | brk => obtain ⟨_, _, _, z⟩ := hs; exact z.elim
  | cont => obtain ⟨_, _, _, z⟩ := hs; exact z.elim

/-- such a def is called by its name -/
theorem pe_callG {X : Cx} {n : Nat} {f : Addr} {fd : FuncData} {ps : List Str} {sp : Sp}
    {x : Str} {p pos : Pos} {e : Expr} {es : List Expr} {t : TA}
    (F : FnG X.prog X.w X.K X.mg X.base n f fd ps sp) (hgd : X.A.guards = some [])
    (hroom : Room n X.A) (hg : Gl X x) (hm : X.mg x = some (.ref f))
    (hk : PySem.W.keepIn X.K (.ref f) = true) (hb : Binds X.K fd ps [])
    (hargs : PA X (e :: es) t) (hdb : (x == ("__debug__" : Str)) = false := by decide)
    (he : starEach (e :: es) X.env = (false, eval e X.env) :: starEach es X.env := by rfl)
    (hpl : (backTo pos (starEach es X.env)).any (·.1) = false := by rfl) :
    PE X (.Call (.Name x p) (e :: es) [] pos) (tCall sp [] E0 t) := by
  constructor
  intro pins s σ H Q I h
  refine wpAny_Call_Name_kw (ld_glob I hg hm ?_ hdb)
  refine PySem.W.callWith_K (h₀ := X.base) I.ok.mod.kin hk
    (thn (hargs.run pos pins s σ H _ I h) fun us sa ⟨vs, Ha, Ia, ra, qa⟩ => ⟨Ia.kIn, ?_⟩) he hpl
  have qb : sp (vs ++ []) Ha Q E0 := qa
  rw [List.append_nil] at qb
  have hl : (us ++ []).length = ps.length := by
    rw [List.append_nil, ← ra.length]
    exact F.len _ _ _ _ qb
  have hbd := hb sa us Ia.kIn hl
  rw [List.append_nil] at hbd
  refine wpAny_call (codeAny_mono (F.go X.A X.stack sa Ha ⟨us, []⟩ us vs Q E0 hgd hroom Ia.env0 hbd ra qb) ?_)
  intro r sz hz
  cases r with
  | error e => exact hz.elim
  | ok fl =>
    cases fl with
    | ret u => exact Ia.after hz
    | next => exact hz.elim
    | brk => exact hz.elim
    | cont => exact hz.elim
end DL

namespace DL
open PySem PySem.Spec PyProof.Rows L2

/-- the law's own call, from a heap of which at most the script is tracked -/
theorem law_from {P : Program} {w : World} {K : PySem.W.Frag} {mg mb : Str → Option Value} {n : Nat}
    {fa a : Addr} {fd : FuncData} {x : Str} {sp : Sp} {sh : Shared} {H : Hp}
    (kin : K.In sh.heap) (nsg : sh.heap.Ns mainGlobals mg) (nsb : sh.heap.Ns builtinsNs mb)
    (eqb : ∀ y : Str, y ≠ "__name__" → mb y = bootBuiltins y) (lim : sh.heap.NoLimit) (dig : sh.heap.NoDigits)
    (gens : sh.gens = #[]) (room : Room n callerA)
    (F : ∀ bs : Heap, K.In bs → bs.Ns mainGlobals mg → bs.NoDigits → FnG P w K mg bs n fa fd [x] sp)
    (bnd : ∀ (s : Shared) (u : Value), BindsTo s fd ⟨[u], []⟩ [(x, u)])
    (only : Only H) (good : HOk P w H sh.heap) (notd : ∀ b o es ep, sh.heap.get? b = some o → o.data = .dict es ep → H b = none)
    (nok : ∀ b o, K.lookup b = some o → H b = none)
    (pre : sp [.ref a] H (fun v _ => v = .bl true) fun _ _ _ => False) :
    codeAny (model P w) callerA (.call (.ref fa) ⟨[.ref a], []⟩)
      (fun r s' => r = .ok (.ret (.bool true)) ∧ OldK sh.heap s'.heap ∧ s'.os = sh.os ∧ AllBare s'.gens) sh := by
  have part : ∀ {b : Addr} {m : Str → Option Value}, sh.heap.Ns b m → (hidT sh.heap H).Ns b m := by
    rintro b m ⟨o, es, ep, e, d, more⟩
    exact ⟨o, es, ep, hidT_get e (notd b o es ep e d), d, more⟩
  have kinb : K.In (hidT sh.heap H) := fun b o e => hidT_get (kin b o e) (nok b o e)
  have mod : Mod K mg (hidT sh.heap H) :=
    ⟨kinb, part nsg, ⟨mb, part nsb, eqb⟩, let ⟨mc, h1, h2⟩ := lim; ⟨mc, part h1, h2⟩⟩
  have start0 : Env0 P w K mg (hidT sh.heap H) callerA [] sh H := by
    refine ⟨rfl, mod, fun b o e => of_hidT e, Nat.le_of_eq (hidT_size _ _), trivial, ?_, good, .of_eq gens⟩
    intro b hb
    exact absurd (show b ∈ ([] : List Addr) from hb) (by simp)
  refine codeAny_mono ((F _ kinb (part nsg) (let ⟨mc, h1, h2⟩ := dig; ⟨mc, part h1, h2⟩)).go callerA [] sh H ⟨[.ref a], []⟩ [.ref a] [.ref a] _ _ rfl
    room start0 (bnd sh (.ref a)) (.cons rfl .nil) pre) ?_
  intro r s' h
  cases r with
  | error e => exact h.elim
  | ok fl =>
    cases fl with
    | next => exact h.elim
    | brk => exact h.elim
    | cont => exact h.elim
    | ret u =>
      obtain ⟨v, H2, os, bare, un, hok2, rv, q⟩ := h
      obtain rfl : v = .bl true := q
      obtain rfl : u = Value.bool true := rv
      refine ⟨rfl, OldK.of_keep ?_, os, bare⟩
      intro b o e
      cases q : H b with
      | none =>
        refine un.keep b o e q ?_ (by simp)
        intro z
        exact absurd (show b ∈ ([] : List Addr) from z) (by simp)
      | some y =>
        rcases only b with z | ⟨ob, xs, z⟩
        · rw [q] at z
          cases z
        · obtain ⟨e1, _⟩ := good b _ z
          obtain ⟨e2, _⟩ := hok2 b _ (un.frzs b ob _ z)
          rw [e] at e1
          cases e1
          exact e2

theorem law_G {P : Program} {w : World} {K : PySem.W.Frag} {mg mb : Str → Option Value} {n : Nat}
    {fa a : Addr} {fd : FuncData} {x : Str} {sp : Sp} {sh : Shared} {vs : List Value} {ns : List Int}
    (kin : K.In sh.heap) (nsg : sh.heap.Ns mainGlobals mg) (nsb : sh.heap.Ns builtinsNs mb)
    (eqb : ∀ y : Str, y ≠ "__name__" → mb y = bootBuiltins y) (lim : sh.heap.NoLimit) (dig : sh.heap.NoDigits)
    (gens : sh.gens = #[]) (room : Room n callerA)
    (obj : sh.heap.get? a = some { cls := .type "list", data := .seq vs.toArray }) (hints : IntsAre vs ns)
    (few : ns.length ≤ sizeLine)
    (F : ∀ bs : Heap, K.In bs → bs.Ns mainGlobals mg → bs.NoDigits → FnG P w K mg bs n fa fd [x] sp)
    (bnd : ∀ (s : Shared) (u : Value), BindsTo s fd ⟨[u], []⟩ [(x, u)])
    (pre : ∀ H : Hp, Only H → SqL K H a (ns.map V.int) → sp [.ref a] H (fun v _ => v = .bl true) fun _ _ _ => False) :
    codeAny (model P w) callerA (.call (.ref fa) ⟨[.ref a], []⟩)
      (fun r s' => r = .ok (.ret (.bool true)) ∧ OldK sh.heap s'.heap ∧ s'.os = sh.os ∧ AllBare s'.gens) sh := by
  have rel := vals_ints hints
  have lens := hints.length
  have nodict : ∀ o es ep, sh.heap.get? a = some o → o.data = .dict es ep → False := by
    intro o es ep e d
    rw [obj] at e
    cases e
    have d2 : Data.seq vs.toArray _ = Data.dict es ep := d
    cases d2
  cases hk : K.lookup a with
  | some o =>
    have e := kin a o hk
    rw [obj] at e
    cases e
    have only : Only (fun _ => none) := fun _ => .inl rfl
    refine law_from kin nsg nsb eqb lim dig gens room F bnd only ?_ (fun _ _ _ _ _ _ => rfl) (fun _ _ _ => rfl)
      (pre _ only (.inr ⟨_, vs.toArray, _, hk, rfl, rfl, rfl, ?_, by simpa using rel⟩))
    · intro b u z
      have z2 : (none : Option HO) = some u := z
      cases z2
    · rw [List.size_toArray, lens]
      exact few
  | none =>
    let ob : Obj := { cls := .type "list", data := .seq vs.toArray }
    let H : Hp := fun b => if b = a then some (.frz ob (.lst (ns.map V.int))) else none
    have at_a : H a = some (.frz ob (.lst (ns.map V.int))) := if_pos rfl
    have off : ∀ b, b ≠ a → H b = none := fun b hb => if_neg hb
    have only : Only H := by
      intro b
      by_cases hb : b = a
      · rw [hb]
        exact .inr ⟨_, _, at_a⟩
      · exact .inl (off b hb)
    refine law_from kin nsg nsb eqb lim dig gens room F bnd only ?_ ?_ ?_ (pre _ only (.inl (.inr ⟨ob, at_a⟩)))
    · intro b u z
      by_cases hb : b = a
      · subst hb
        rw [at_a] at z
        cases z
        exact ⟨obj, by rw [List.length_map]; exact few, vs, _, rel, obj⟩
      · rw [off b hb] at z
        cases z
    · intro b o es ep e d
      by_cases hb : b = a
      · subst hb
        exact (nodict o es ep e d).elim
      · exact off b hb
    · intro b o e
      by_cases hb : b = a
      · subst hb
        rw [hk] at e
        cases e
      · exact off b hb

/-- the goal that the head leaves, from the law's promise -/
theorem walkG {l : PySem.W.OpenLaw} {m n : Nat} {q : Program} {loose : List Str}
    {XP : (Str → Option Value) → Heap → Prop} {YP : World → Heap → Prop} {d : DefRec} {K : Params → PySem.W.Frag}
    {sp : PySem.W.Frag → Sp} {x : Str}
    (hm : l.most = some m) (few : m ≤ sizeLine) (nodef : d.params.defaults = []) (room : Room n callerA)
    (hY : ∀ (w : World) (h : Heap), YP w h → (K w.params).In h)
    (F : ∀ (w : World) (mg : Str → Option Value) (fa : Addr) (h : Heap), (K w.params).In h →
      h.Ns mainGlobals mg → mg d.name = some (.ref fa) →
      ∃ fd : FuncData, (∀ (s : Shared) (u : Value), BindsTo s fd ⟨[u], []⟩ [(x, u)]) ∧
        ∀ bs : Heap, (K w.params).In bs → bs.Ns mainGlobals mg → bs.NoDigits → FnG l.prog w (K w.params) mg bs n fa fd [x] (sp (K w.params)))
    (pre : ∀ (K : PySem.W.Frag) (H : Hp) (a : Addr) (ns : List Int), ns.length ≤ m → Only H →
      SqL K H a (ns.map V.int) → sp K [.ref a] H (fun v _ => v = .bl true) fun _ _ _ => False) :
    PySem.W.WalkO q loose XP YP l.row.toRowW d [] (fun f vs => PySem.call f vs) := by
  refine Att.attach_call hm nodef ?_
  intro w sa sb mg mb fa o pm cd doc a vs ns G Y ho hd hcd hmg hobj hints hlen hgens
  have kin := hY w _ Y
  obtain ⟨fd, hb, hF⟩ := F w mg fa _ kin G.T.g hmg
  exact law_G kin G.T.g G.T.b G.T.builtins G.T.nolimit G.T.nodigits hgens room hobj hints (Nat.le_trans hlen few) hF hb
    (fun H hO hS => pre _ H a ns hlen hO hS)
end DL

/-! Data as it stands in the heap, dicts with keys that are ints or texts within; its repr, its ==. -/
namespace DL
open PySem PySem.Spec PyProof.Rows L2

def keyD : Key → PyData
  | .inl i => .int i
  | .inr x => .str x
mutual
inductive Dd (K : PySem.W.Frag) (H : Hp) : V → PyData → Prop
  | non : Dd K H .non .none
  | bl (b : Bool) : Dd K H (.bl b) (.bool b)
  | int (i : Int) : Dd K H (.int i) (.int i)
  | str (x : Str) : Dd K H (.str x) (.str x)
  | lst {a : Addr} {xs : List V} {ds : List PyData} : SqL K H a xs → DdAll K H xs ds → Dd K H (.ref a) (.list ds)
  | tup {a : Addr} {xs : List V} {ds : List PyData} : SqT K H a xs → DdAll K H xs ds → Dd K H (.ref a) (.tuple ds)
  | dic {a : Addr} {kvs : List (Key × V)} {ps : List (PyData × PyData)} : Rd H a (.dK kvs) → DdKv K H kvs ps → Dd K H (.ref a) (.dict ps)
inductive DdAll (K : PySem.W.Frag) (H : Hp) : List V → List PyData → Prop
  | nil : DdAll K H [] []
  | cons {v : V} {vs : List V} {d : PyData} {ds : List PyData} : Dd K H v d → DdAll K H vs ds → DdAll K H (v :: vs) (d :: ds)
inductive DdKv (K : PySem.W.Frag) (H : Hp) : List (Key × V) → List (PyData × PyData) → Prop
  | nil : DdKv K H [] []
  | cons {k : Key} {v : V} {d : PyData} {kvs : List (Key × V)} {ps : List (PyData × PyData)} : Dd K H v d → DdKv K H kvs ps → DdKv K H ((k, v) :: kvs) ((keyD k, d) :: ps)
end
theorem sqT_mono {K : PySem.W.Frag} {H H' : Hp} {a : Addr} {xs : List V} (e : Same H H') (h : SqT K H a xs) : SqT K H' a xs := by
  rcases h with (h | ⟨o, h⟩) | h
  · exact .inl (.inl (e _ _ h))
  · exact .inl (.inr ⟨o, e _ _ h⟩)
  · exact .inr h
theorem rd_mono {H H' : Hp} {a : Addr} {u : HO} (e : Same H H') (h : Rd H a u) : Rd H' a u := h.imp (fun z => e _ _ z) fun ⟨o, z⟩ => ⟨o, e _ _ z⟩
mutual
theorem dd_mono {K : PySem.W.Frag} {H H' : Hp} (e : Same H H') : ∀ {v : V} {d : PyData}, Dd K H v d → Dd K H' v d
  | _, _, .non => .non
  | _, _, .bl b => .bl b
  | _, _, .int i => .int i
  | _, _, .str x => .str x
  | _, _, .lst hs ha => .lst (e.seq hs) (ddAll_mono e ha)
  | _, _, .tup hs ha => .tup (sqT_mono e hs) (ddAll_mono e ha)
  | _, _, .dic hs ha => .dic (rd_mono e hs) (ddKv_mono e ha)
theorem ddAll_mono {K : PySem.W.Frag} {H H' : Hp} (e : Same H H') : ∀ {vs : List V} {ds : List PyData}, DdAll K H vs ds → DdAll K H' vs ds
  | _, _, .nil => .nil
  | _, _, .cons h1 h2 => .cons (dd_mono e h1) (ddAll_mono e h2)
theorem ddKv_mono {K : PySem.W.Frag} {H H' : Hp} (e : Same H H') : ∀ {vs : List (Key × V)} {ds : List (PyData × PyData)}, DdKv K H vs ds → DdKv K H' vs ds
  | _, _, .nil => .nil
  | _, _, .cons h1 h2 => .cons (dd_mono e h1) (ddKv_mono e h2)
end
mutual
theorem Dd.dp {K : PySem.W.Frag} {H : Hp} : ∀ {v : V} {d : PyData}, Dd K H v d → d.canLay0 = true → Dp K H v d
  | _, _, .non, _ => .non
  | _, _, .bl b, _ => .bl b
  | _, _, .int i, _ => .int i
  | _, _, .str x, _ => .str x
  | _, _, .lst hs ha, h => .lst hs (DdAll.dp ha (by simpa [PyData.canLay0] using h))
  | _, _, .tup hs ha, h => .tup hs (DdAll.dp ha (by simpa [PyData.canLay0] using h))
  | _, _, .dic hs ha, h => by simp [PyData.canLay0] at h
theorem DdAll.dp {K : PySem.W.Frag} {H : Hp} : ∀ {vs : List V} {ds : List PyData}, DdAll K H vs ds → PyData.canLayAll0 ds = true → DpAll K H vs ds
  | _, _, .nil, _ => .nil
  | _, _, .cons (d := d) (ds := ds) h1 h2, h => by
    have h' : PyData.canLay0 d = true ∧ PyData.canLayAll0 ds = true := by simpa [PyData.canLayAll0] using h
    exact .cons (Dd.dp h1 h'.1) (DdAll.dp h2 h'.2)
end

/-! ### repr -/
mutual
def okInts : PyData → Bool
  | .none | .bool _ | .str _ => true
  | .int i => decide (i.natAbs < 10 ^ 4300)
  | .list xs | .tuple xs => okAll xs
  | .dict kvs => okKv kvs
def okAll : List PyData → Bool
  | [] => true
  | x :: xs => okInts x && okAll xs
def okKv : List (PyData × PyData) → Bool
  | [] => true
  | (k, v) :: r => okInts k && okInts v && okKv r
end
theorem okKv_split : ∀ kvs : List (PyData × PyData), okKv kvs = true → okAll (kvs.map (·.1)) = true ∧ okAll (kvs.map (·.2)) = true
  | [], _ => ⟨rfl, rfl⟩
  | (k, v) :: r, h => by
    have h' : (okInts k = true ∧ okInts v = true) ∧ okKv r = true := by simpa [okKv] using h
    obtain ⟨h1, h2⟩ := okKv_split r h'.2
    simp only [List.map_cons, okAll, h'.1.1, h'.1.2, h1, h2, Bool.and_self, and_self]

section
variable {prog : Program} {w : World} {h₀ : Heap}
set_option maxRecDepth 100000 in
theorem reprK_int {i : Int} {t : Tok} {as : List Addr} {n : Nat} (nd : h₀.NoDigits) (hi : i.natAbs < 10 ^ 4300) :
    ReprK prog w as h₀ n (.int i t) (toString i) := by
  intro b hb A g E s Q hg hcl hu hk hQ
  have hn : b ≤ sizeLine := by omega
  have nds : s.heap.NoDigits := nd.keeps hk
  rw [pyReprUnder_leaf (v := .int i t) hn (fun _ e => nomatch e)]
  unfold pyRepr
  refine wpAny_bind (wpAny_pyReprObj_slot (T := "int") (idr := "int.__repr__") (by omega) (typeIs_int s i t)
    F.slot_int_repr.toG ?_)
  refine wpAny_call (codeAny_call_builtin F.slot_int_repr.plain F.entry_int_repr
    (F.slot_int_repr.check _ _ _ _ _ _ _ _ (typeIs_int _ i t) (F.args_int_repr_1 _) ?_))
  unfold Builtin.«int.__repr__»
  show wpAny _ _ (do let r ← Builtin.overDigitLimit? i; _) _ _ s
  refine wpAny_bind (overDigitLimit_any nds (fun _ => ?_) (fun ge => absurd hi (Nat.not_lt.mpr ge)))
  refine wpAny_bind (wpAny_mkStr (wpAny_pure ?_) (int_text_fits10 hi))
  exact ⟨_, _, rfl, wpAny_pure (hQ s.heap _ fun _ _ e => e)⟩
end
section
variable {X : Cx} {pins : List (Addr × Obj)} {σ : L2.St} {H : Hp} {s : Shared}
/-- what is read, and how it is shown -/
structure Shown (X : Cx) (s : Shared) (u : Value) (d : PyData) (bs : List Addr) : Prop where
  rd : ∃ as, Reads s.heap u d as
  at_ : ReadAtMost s.heap d.depth bs
  k : ReprK X.prog X.w bs s.heap d.depth u d.shown
structure ShownAll (X : Cx) (s : Shared) (us : List Value) (ds : List PyData) (bs : List Addr) : Prop where
  rd : ∃ as, ReadsAll s.heap us ds as
  at_ : ReadAtMost s.heap (PyData.depthAll ds) bs
  k : ReprAllK X.prog X.w bs s.heap (PyData.depthAll ds) us (PyData.shownAll ds)
theorem ramNil (h : Heap) (n : Nat) : ReadAtMost h n [] := fun _ z => nomatch z
theorem key_shown (nd : s.heap.NoDigits) {k : Key} {u : Value} (hk : keyIs k u = true) (ho : okInts (keyD k) = true) (hz : (keyD k).shown.length ≤ sizeLine) : Shown X s u (keyD k) [] := by
  rcases keyIs_shape hk with ⟨i, t, rfl, rfl⟩ | ⟨x, t, rfl, rfl⟩
  · refine ⟨⟨_, Reads.int i t⟩, ramNil _ _, ?_⟩
    show ReprK X.prog X.w [] s.heap _ _ (PyData.int i).shown
    simp only [PyData.shown]
    exact reprK_int nd (by simpa [okInts, keyD] using ho)
  · refine ⟨⟨_, Reads.str x t⟩, ramNil _ _, ?_⟩
    show ReprK X.prog X.w [] s.heap _ _ (PyData.str x).shown
    simp only [PyData.shown]
    exact .of_is (ReprIs.str x t (by simpa only [PyData.shown, keyD] using hz)) _ _ _
theorem ShownAll.cons {u : Value} {us : List Value} {d : PyData} {ds : List PyData} {b1 b2 : List Addr} (h : Shown X s u d b1) (t : ShownAll X s us ds b2) : ShownAll X s (u :: us) (d :: ds) (b1 ++ b2) := by
  obtain ⟨as, r1⟩ := h.rd
  obtain ⟨bs, r2⟩ := t.rd
  refine ⟨⟨_, .cons r1 r2⟩, ?_, ?_⟩
  · simp only [PyData.depthAll]
    exact (h.at_.mono (Nat.le_max_left _ _)).append (t.at_.mono (Nat.le_max_right _ _))
  · simp only [PyData.depthAll, PyData.shownAll]
    exact .cons ((h.k.more fun b hb => List.mem_append_left _ hb).level_le (Nat.le_max_left _ _)) (t.k.more_le (fun b hb => List.mem_append_right _ hb) (Nat.le_max_right _ _))
theorem ShownAll.nil : ShownAll X s [] [] [] := by
  refine ⟨⟨_, .nil⟩, ramNil _ _, ?_⟩
  simp only [PyData.depthAll, PyData.shownAll]
  exact .nil
mutual
theorem Dd.shows (I : Inv X pins σ H s) (nd : s.heap.NoDigits) : ∀ {v : V} {d : PyData}, Dd X.K H v d → ∀ u : Value, RelV v u → okInts d = true → d.shown.length ≤ sizeLine → ∃ bs, Shown X s u d bs
  | _, _, .non, u, r, _, _ => by
    cases r
    refine ⟨[], ⟨_, .none⟩, ramNil _ _, ?_⟩
    simp only [PyData.shown]
    exact .of_is ReprIs.none _ _ _
  | _, _, .bl b, u, r, _, _ => by
    cases r
    refine ⟨[], ⟨_, .bool b⟩, ramNil _ _, ?_⟩
    simp only [PyData.shown]
    exact .of_is (ReprIs.bool b) _ _ _
  | _, _, .int i, u, r, ho, _ => by
    obtain ⟨t, rfl⟩ := r
    refine ⟨[], ⟨_, .int i t⟩, ramNil _ _, ?_⟩
    simp only [PyData.shown]
    exact reprK_int nd (by simpa [okInts] using ho)
  | _, _, .str x, u, r, _, hz => by
    obtain ⟨t, rfl⟩ := r
    refine ⟨[], ⟨_, .str x t⟩, ramNil _ _, ?_⟩
    simp only [PyData.shown]
    exact .of_is (ReprIs.str x t (by simpa only [PyData.shown] using hz)) _ _ _
  | _, _, .lst (xs := xs) (ds := ds) hs ha, u, r, ho, hz => by
    have hz2 : (listText (PyData.shownAll ds)).length ≤ sizeLine := by simpa only [PyData.shown] using hz
    cases r
    obtain ⟨its, rv, ⟨o, n, e1, e2, _, e3⟩, _⟩ := I.list hs
    obtain ⟨bs, ⟨as, q1⟩, q2, q3⟩ := DdAll.shows I nd ha its rv (by simpa [okInts] using ho) (fun t ht => Nat.le_trans (listText_mem_le ht) hz2)
    have whole : Reads s.heap (.ref _) (.list ds) _ := .list e1 e2 e3 q1
    have apart := not_mem_of_deeper whole (by simp only [PyData.depth]; omega) q2
    refine ⟨_, ⟨_, whole⟩, ReadAtMost.cons whole (by simp only [PyData.depth]; omega) q2, ?_⟩
    simp only [PyData.depth, PyData.shown]
    cases its with
    | nil =>
      cases q1
      simp only [PyData.shownAll, listText_nil]
      exact ReprK.listEmpty e1 e2 e3
    | cons y l => exact ReprK.list e1 e2 e3 apart (by simpa using q3.length_eq) (fun i z e => q3.item i z (by simpa using e))
  | _, _, .tup (xs := xs) (ds := ds) hs ha, u, r, ho, hz => by
    have hz2 : (tupleText (PyData.shownAll ds)).length ≤ sizeLine := by simpa only [PyData.shown] using hz
    cases r
    obtain ⟨its, rv, ⟨o, e1, e2, n, e3⟩, _⟩ := I.tuple hs
    obtain ⟨bs, ⟨as, q1⟩, q2, q3⟩ := DdAll.shows I nd ha its rv (by simpa [okInts] using ho) (fun t ht => Nat.le_trans (tupleText_mem_le ht) hz2)
    have whole : Reads s.heap (.ref _) (.tuple ds) _ := .tuple e1 e2 e3 q1
    have apart := not_mem_of_deeper whole (by simp only [PyData.depth]; omega) q2
    refine ⟨_, ⟨_, whole⟩, ReadAtMost.cons whole (by simp only [PyData.depth]; omega) q2, ?_⟩
    simp only [PyData.depth, PyData.shown]
    exact ReprK.tuple e1 e2 e3 apart q3
  | _, _, .dic (kvs := kvs) (ps := ps) hs ha, u, r, ho, hz => by
    have hz2 : (dictText (PyData.shownKv ps)).length ≤ sizeLine := by simpa only [PyData.shown] using hz
    cases r
    obtain ⟨_, hsys, vs, hv, o, es, ep, e1, e2, e3, _, e4, _⟩ := (show ObjOk X.prog X.w H s.heap _ (.dK kvs) from hs.ok I.hok)
    obtain ⟨o1, o2⟩ := okKv_split ps (by simpa [okInts] using ho)
    obtain ⟨b1, b2, q1, q2⟩ := DdKv.shows I nd ha es.toList vs hv e4 o1 o2
      (fun t ht => let ⟨p, hp, hl⟩ := PyData.shownKv_key_le ps t ht; Nat.le_trans hl (Nat.le_trans (dictText_mem_le hp) hz2))
      (fun t ht => let ⟨p, hp, hl⟩ := PyData.shownKv_val_le ps t ht; Nat.le_trans hl (Nat.le_trans (dictText_mem_le hp) hz2))
    obtain ⟨as1, r1⟩ := q1.rd
    obtain ⟨as2, r2⟩ := q2.rd
    have whole : Reads s.heap (.ref _) (.dict ps) _ := .dict e1 e2.1 e3 r1 r2
    have hb : ReadAtMost s.heap (PyData.depthKv ps) (b1 ++ b2) := (q1.at_.mono (PyData.depthAll_keys_le ps)).append (q2.at_.mono (PyData.depthAll_vals_le ps))
    have apart := not_mem_of_deeper whole (by simp only [PyData.depth]; omega) hb
    refine ⟨_, ⟨_, whole⟩, ReadAtMost.cons whole (by simp only [PyData.depth]; omega) hb, ?_⟩
    simp only [PyData.depth, PyData.shown, PyData.shownKv_eq]
    exact ReprK.dict e1 e2.1 e3 hsys apart (ReprEntriesK.of_two es.toList _ _
      (q1.k.more_le (fun b hb => List.mem_append_left _ hb) (PyData.depthAll_keys_le ps)) (q2.k.more_le (fun b hb => List.mem_append_right _ hb) (PyData.depthAll_vals_le ps)))
theorem DdAll.shows (I : Inv X pins σ H s) (nd : s.heap.NoDigits) : ∀ {vs : List V} {ds : List PyData}, DdAll X.K H vs ds → ∀ us : List Value, Vals vs us → okAll ds = true → (∀ t ∈ PyData.shownAll ds, t.length ≤ sizeLine) → ∃ bs, ShownAll X s us ds bs
  | _, _, .nil, us, r, _, _ => by
    cases r
    exact ⟨_, .nil⟩
  | _, _, .cons (d := d) (ds := ds) h1 h2, us, r, ho, hz => by
    have ho2 : okInts d = true ∧ okAll ds = true := by simpa [okAll] using ho
    cases r with
    | cons r1 r2 =>
      obtain ⟨b1, q1⟩ := Dd.shows I nd h1 _ r1 ho2.1 (hz _ (by simp only [PyData.shownAll]; exact List.mem_cons_self ..))
      obtain ⟨b2, q2⟩ := DdAll.shows I nd h2 _ r2 ho2.2 (fun t ht => hz t (by simp only [PyData.shownAll]; exact List.mem_cons_of_mem _ ht))
      exact ⟨_, .cons q1 q2⟩
theorem DdKv.shows (I : Inv X pins σ H s) (nd : s.heap.NoDigits) : ∀ {kvs : List (Key × V)} {ps : List (PyData × PyData)}, DdKv X.K H kvs ps → ∀ (es : List DictEntry) (vs : List (Key × Value)), KV kvs vs → PySem.Pairs (mixKind X.prog X.w) es vs →
    okAll (ps.map (·.1)) = true → okAll (ps.map (·.2)) = true → (∀ t ∈ PyData.shownAll (ps.map (·.1)), t.length ≤ sizeLine) → (∀ t ∈ PyData.shownAll (ps.map (·.2)), t.length ≤ sizeLine) →
    ∃ b1 b2, ShownAll X s (es.map (·.key)) (ps.map (·.1)) b1 ∧ ShownAll X s (es.map (·.val)) (ps.map (·.2)) b2
  | _, _, .nil, es, vs, hv, hp, _, _, _, _ => by
    cases hv
    cases hp
    exact ⟨_, _, .nil, .nil⟩
  | _, _, .cons (k := k) (d := d) (ps := ps) h1 h2, es, vs, hv, hp, o1, o2, z1, z2 => by
    cases hv with
    | cons hx ht =>
      obtain ⟨ek, rv⟩ := hx
      cases hp with
      | cons ik ev hp2 =>
        rw [List.map_cons] at o1 o2 z1 z2
        have p1 : okInts (keyD k) = true ∧ okAll (ps.map (·.1)) = true := by simpa [okAll] using o1
        have p2 : okInts d = true ∧ okAll (ps.map (·.2)) = true := by simpa [okAll] using o2
        have y1 := z1 (keyD k).shown (by simp only [PyData.shownAll]; exact List.mem_cons_self ..)
        have y2 := z2 d.shown (by simp only [PyData.shownAll]; exact List.mem_cons_self ..)
        obtain ⟨c1, c2, t1, t2⟩ := DdKv.shows I nd h2 _ _ ht hp2 p1.2 p2.2 (fun t ht => z1 t (by simp only [PyData.shownAll]; exact List.mem_cons_of_mem _ ht)) (fun t ht => z2 t (by simp only [PyData.shownAll]; exact List.mem_cons_of_mem _ ht))
        obtain ⟨b2, s2⟩ := Dd.shows I nd h1 _ rv p2.1 y2
        rw [← ev] at s2
        have ek : k = _ := ek
        rw [← ek] at ik
        exact ⟨_, _, .cons (key_shown nd ik p1.1 y1) t1, .cons s2 t2⟩
end
end

section
variable {prog : Program} {w : World} {A : Around} {E : Value → Shared → Prop} {s : Shared} {Q : Value → Shared → Prop}
theorem repr_big {i : Int} {t : Tok} (nd : s.heap.NoDigits) (hi : i.natAbs < 10 ^ 4300) (hu : A.units + 2 < cLine)
    (h : ∀ tk u, Q (.str (toString i) u) { s with toks := tk }) :
    wpAny (model prog w) A (call (.builtin "repr") [.int i t]) Q E s := by
  refine call_repr_slot (T := "int") (idr := "int.__repr__") (by omega) (typeIs_int s i t) F.slot_int_repr.toG ?_
  refine wpAny_call (codeAny_call_builtin F.slot_int_repr.plain F.entry_int_repr
    (F.slot_int_repr.check _ _ _ _ _ _ _ _ (typeIs_int _ i t) (F.args_int_repr_1 _) ?_))
  unfold Builtin.«int.__repr__»
  show wpAny _ _ (do let r ← Builtin.overDigitLimit? i; _) _ _ s
  refine wpAny_bind (overDigitLimit_any nd (fun _ => ?_) (fun ge => absurd hi (Nat.not_lt.mpr ge)))
  refine wpAny_bind (wpAny_mkStr (wpAny_pure ?_) (int_text_fits10 hi))
  exact ⟨_, _, rfl, h _ _⟩
end
/-- repr of any data -/
def rRepr (K : PySem.W.Frag) : List V → Hp → VK → Prop := fun xs H Q => ∃ x d, xs = [x] ∧ Dd K H x d ∧
  okInts d = true ∧ d.shown.length ≤ sizeLine ∧ d.depth ≤ 60 ∧ Q (.str d.shown) H
theorem call_repr {X : Cx} (hg : X.A.guards = some []) (nd0 : X.base.NoDigits) (hu : X.A.units + 64 < cLine) :
    CallR X (.builtin "repr") (rRepr X.K) := by
  intro pins s σ H xs us Q I r h
  obtain ⟨x, d, rfl, hd, ho, hz, hdep, q⟩ := h
  obtain ⟨u, rfl, ru⟩ : ∃ u, us = [u] ∧ RelV x u := by
    cases r with
    | cons p t =>
      cases t
      exact ⟨_, rfl, p⟩
  have nd : s.heap.NoDigits := nd0.keeps I.bk
  have fin : ∀ (h' : Heap) (u2 tk : Tok), (∀ b o, s.heap.get? b = some o → h'.get? b = some o) → EP X pins σ Q (.str d.shown u2) { s with heap := h', toks := tk } :=
    fun h' u2 tk keep => ⟨.str d.shown, H, I.kept keep, ⟨_, rfl⟩, q⟩
  cases hd with
  | non =>
    cases ru
    refine PySem.P.repr_of_none ?_
    have := fin s.heap s.toks (s.toks + 1) fun _ _ e => e
    simpa only [PyData.shown] using this
  | bl b =>
    cases ru
    refine PySem.P.repr_of_bool ?_
    have := fin s.heap s.toks (s.toks + 1) fun _ _ e => e
    simpa only [PyData.shown] using this
  | str x =>
    obtain ⟨t, rfl⟩ := ru
    refine PySem.P.repr_of_str ?_ (by simpa only [PyData.shown] using hz)
    have := fin s.heap s.toks (s.toks + 1) fun _ _ e => e
    simpa only [PyData.shown] using this
  | int i =>
    obtain ⟨t, rfl⟩ := ru
    refine repr_big nd (by simpa [okInts] using ho) (by omega) ?_
    intro tk u
    have := fin s.heap u tk fun _ _ e => e
    simpa only [PyData.shown] using this
  | @lst a xs ds hs ha =>
    have hz2 : (listText (PyData.shownAll ds)).length ≤ sizeLine := by simpa only [PyData.shown] using hz
    cases ru
    obtain ⟨its, rv, ⟨o, n, e1, e2, _, e3⟩, _⟩ := I.list hs
    obtain ⟨bs, ⟨as, q1⟩, q2, q3⟩ := DdAll.shows I nd ha its rv (by simpa [okInts] using ho) (fun t ht => Nat.le_trans (listText_mem_le ht) hz2)
    have apart := not_mem_of_deeper (Reads.list e1 e2 e3 q1) (n := PyData.depthAll ds) (by simp only [PyData.depth]; omega) q2
    simp only [PyData.depth] at hdep
    simp only [PyData.shown] at fin
    refine call_repr_slot (T := "list") (idr := "list.__repr__") (by omega) ⟨o, e1, e2⟩ F.slot_list_repr.toG ?_
    cases its with
    | nil =>
      cases q1
      simp only [PyData.shownAll, listText_nil] at fin
      exact call_list_repr_empty ⟨o, e1, e2⟩ e1 e3 ⟨_, _, rfl, fin s.heap _ _ fun _ _ e => e⟩
    | cons y l =>
      exact call_list_reprK e1 e2 e3 apart (by simpa using q3.length_eq) (fun i z e => q3.item i z (by simpa using e)) hg
        (fun b _ => Clear.nil b) (by show X.A.units + 1 + _ < cLine; omega) (fun _ _ e => e) (fun h' u tk keep => ⟨_, _, rfl, fin h' u tk keep⟩) hz2
  | @tup a xs ds hs ha =>
    have hz2 : (tupleText (PyData.shownAll ds)).length ≤ sizeLine := by simpa only [PyData.shown] using hz
    cases ru
    obtain ⟨its, rv, ⟨o, e1, e2, n, e3⟩, _⟩ := I.tuple hs
    obtain ⟨bs, ⟨as, q1⟩, q2, q3⟩ := DdAll.shows I nd ha its rv (by simpa [okInts] using ho) (fun t ht => Nat.le_trans (tupleText_mem_le ht) hz2)
    have apart := not_mem_of_deeper (Reads.tuple e1 e2 e3 q1) (n := PyData.depthAll ds) (by simp only [PyData.depth]; omega) q2
    simp only [PyData.depth] at hdep
    simp only [PyData.shown] at fin
    refine call_repr_slot (T := "tuple") (idr := "tuple.__repr__") (by omega) ⟨o, e1, e2⟩ F.slot_tuple_repr ?_
    exact call_tuple_reprK e1 e2 e3 apart q3 hg (fun b _ => Clear.nil b) (by show X.A.units + 1 + _ < cLine; omega) (fun _ _ e => e)
      (fun h' u tk keep => ⟨_, _, rfl, fin h' u tk keep⟩) hz2
  | @dic a kvs ps hs ha =>
    have hz2 : (dictText (PyData.shownKv ps)).length ≤ sizeLine := by simpa only [PyData.shown] using hz
    cases ru
    obtain ⟨_, hsys, vs, hv, o, es, ep, e1, e2, e3, _, e4, _⟩ := (show ObjOk X.prog X.w H s.heap _ (.dK kvs) from hs.ok I.hok)
    obtain ⟨o1, o2⟩ := okKv_split ps (by simpa [okInts] using ho)
    obtain ⟨b1, b2, q1, q2⟩ := DdKv.shows I nd ha es.toList vs hv e4 o1 o2
      (fun t ht => let ⟨p, hp, hl⟩ := PyData.shownKv_key_le ps t ht; Nat.le_trans hl (Nat.le_trans (dictText_mem_le hp) hz2))
      (fun t ht => let ⟨p, hp, hl⟩ := PyData.shownKv_val_le ps t ht; Nat.le_trans hl (Nat.le_trans (dictText_mem_le hp) hz2))
    obtain ⟨as1, r1⟩ := q1.rd
    obtain ⟨as2, r2⟩ := q2.rd
    have whole : Reads s.heap (.ref a) (.dict ps) _ := .dict e1 e2.1 e3 r1 r2
    have hb : ReadAtMost s.heap (PyData.depthKv ps) (b1 ++ b2) := (q1.at_.mono (PyData.depthAll_keys_le ps)).append (q2.at_.mono (PyData.depthAll_vals_le ps))
    have apart := not_mem_of_deeper whole (by simp only [PyData.depth]; omega) hb
    simp only [PyData.depth] at hdep
    simp only [PyData.shown, PyData.shownKv_eq] at fin
    refine call_repr_slot (T := "dict") (idr := "dict.__repr__") (by omega) ⟨o, e1, e2.1⟩ F.slot_dict_repr ?_
    exact call_dict_reprK e1 e2.1 e3 hsys apart (ReprEntriesK.of_two es.toList _ _
      (q1.k.more_le (fun b hb => List.mem_append_left _ hb) (PyData.depthAll_keys_le ps)) (q2.k.more_le (fun b hb => List.mem_append_right _ hb) (PyData.depthAll_vals_le ps))) hg (fun b _ => Clear.nil b) (by show X.A.units + 1 + _ < cLine; omega) (fun _ _ e => e)
      (fun h' u tk keep => ⟨_, _, rfl, fin h' u tk keep⟩) (by rw [← PyData.shownKv_eq]; exact hz2)

/-! ### == -/
def rEqE (K : PySem.W.Frag) : R2 := fun x y H Q => ∃ d e, Dd K H x d ∧ Dd K H y e ∧ SeqAt.shaped d = true ∧ SeqAt.shaped e = true ∧ Q (.bl (PyData.eqv d e)) H
def rNeE (K : PySem.W.Frag) : R2 := fun x y H Q => ∃ d e, Dd K H x d ∧ Dd K H y e ∧ SeqAt.shaped d = true ∧ SeqAt.shaped e = true ∧ Q (.bl (!PyData.eqv d e)) H
section
variable {X : Cx}
theorem op_eqE (hu : X.A.units + 64 < cLine) : OpR X (compareOp .Eq) (rEqE X.K) := by
  intro pins s σ H x y v u Q I rx ry h
  obtain ⟨d, e, hd, he, sd, se, q⟩ := h
  exact op_eqD hu pins s σ H x y v u Q I rx ry ⟨d, e, hd.dp (SeqAt.canLay_of_shaped sd), he.dp (SeqAt.canLay_of_shaped se), sd, se, q⟩
theorem op_neE (hu : X.A.units + 64 < cLine) : OpR X (compareOp .NotEq) (rNeE X.K) := by
  intro pins s σ H x y v u Q I rx ry h
  obtain ⟨d, e, hd, he, sd, se, q⟩ := h
  exact op_neD hu pins s σ H x y v u Q I rx ry ⟨d, e, hd.dp (SeqAt.canLay_of_shaped sd), he.dp (SeqAt.canLay_of_shaped se), sd, se, q⟩
end
end DL

/-! Programs over data: what a slot holds is told as data, the heap is kept out of sight. -/
namespace DL
open PySem PySem.Spec PyProof.Rows L2

/-! ### heaps with some objects hidden -/
theorem same_new {H : Hp} {p : Addr} {o : HO} (h : H p = none) : Same H (upd H p o) := by
  intro b x e
  rw [upd_ne (ne_of_none e h)]
  exact e
theorem dp_mono {K : PySem.W.Frag} {H H' : Hp} (e : Same H H') (d : PyData) (v : V) (h : Dd K H v d) : Dd K H' v d := dd_mono e h
theorem dpAll_mono {K : PySem.W.Frag} {H H' : Hp} (e : Same H H') (ds : List PyData) (vs : List V) (h : DdAll K H vs ds) : DdAll K H' vs ds := ddAll_mono e h
theorem DdAll.len {K : PySem.W.Frag} {H : Hp} : ∀ {vs : List V} {ds : List PyData}, DdAll K H vs ds → vs.length = ds.length
  | [], _, h => by cases h; rfl
  | v :: vs, _, h => by
    cases h with
    | cons _ h2 => rw [List.length_cons, List.length_cons, DdAll.len h2]
theorem DdAll.get {K : PySem.W.Frag} {H : Hp} : ∀ {vs : List V} {ds : List PyData} {i : Nat} {d : PyData}, DdAll K H vs ds → ds[i]? = some d → ∃ v, vs[i]? = some v ∧ Dd K H v d
  | [], _, _, _, h, e => by cases h; cases e
  | v :: vs, _, 0, d, h, e => by
    cases h with
    | cons h1 _ =>
      cases e
      exact ⟨v, rfl, h1⟩
  | v :: vs, _, i + 1, d, h, e => by
    cases h with
    | cons _ h2 => exact DdAll.get (vs := vs) h2 e
theorem DdAll.gets {K : PySem.W.Frag} {H : Hp} : ∀ {vs : List V} {ds : List PyData} {i : Nat} {v : V}, DdAll K H vs ds → vs[i]? = some v → ∃ d, ds[i]? = some d ∧ Dd K H v d
  | [], _, _, _, h, e => by cases e
  | v :: vs, _, 0, _, h, e => by
    cases h with
    | cons h1 _ =>
      cases e
      exact ⟨_, rfl, h1⟩
  | v :: vs, d :: ds, i + 1, _, h, e => by
    cases h with
    | cons _ h2 => exact DdAll.gets (vs := vs) (ds := ds) (i := i) h2 e
theorem DdAll.app {K : PySem.W.Frag} {H : Hp} : ∀ {vs us : List V} {ds es : List PyData}, DdAll K H vs ds → DdAll K H us es → DdAll K H (vs ++ us) (ds ++ es)
  | [], _, _, _, h, k => by cases h; exact k
  | v :: vs, _, _, _, h, k => by
    cases h with
    | cons h1 h2 => exact .cons h1 (DdAll.app h2 k)
theorem DdAll.take {K : PySem.W.Frag} {H : Hp} : ∀ {vs : List V} {ds : List PyData} (n : Nat), DdAll K H vs ds → DdAll K H (vs.take n) (ds.take n)
  | _, _, 0, _ => .nil
  | [], _, n + 1, h => by cases h; exact .nil
  | v :: vs, _, n + 1, h => by
    cases h with
    | cons h1 h2 => exact .cons h1 (DdAll.take n h2)
theorem DdAll.drop {K : PySem.W.Frag} {H : Hp} : ∀ {vs : List V} {ds : List PyData} (n : Nat), DdAll K H vs ds → DdAll K H (vs.drop n) (ds.drop n)
  | _, _, 0, h => h
  | [], _, n + 1, h => by cases h; exact .nil
  | v :: vs, _, n + 1, h => by
    cases h with
    | cons h1 h2 => exact DdAll.drop n h2
theorem DdAll.rev {K : PySem.W.Frag} {H : Hp} : ∀ {vs : List V} {ds : List PyData}, DdAll K H vs ds → DdAll K H vs.reverse ds.reverse
  | [], _, h => by cases h; exact .nil
  | v :: vs, _, h => by
    cases h with
    | cons h1 h2 =>
      rw [List.reverse_cons, List.reverse_cons]
      exact DdAll.app (DdAll.rev h2) (.cons h1 .nil)
theorem DdAll.ofInts {K : PySem.W.Frag} {H : Hp} : ∀ (ns : List Int), DdAll K H (ns.map V.int) (ns.map PyData.int)
  | [] => .nil
  | n :: ns => .cons (.int n) (DdAll.ofInts ns)
theorem DdAll.ofStrs {K : PySem.W.Frag} {H : Hp} : ∀ (ns : List Str), DdAll K H (ns.map V.str) (ns.map PyData.str)
  | [] => .nil
  | n :: ns => .cons (.str n) (DdAll.ofStrs ns)
theorem DdAll.ints {K : PySem.W.Frag} {H : Hp} : ∀ {ns : List Int} {vs : List V}, DdAll K H vs (ns.map PyData.int) → vs = ns.map V.int
  | [], _, h => by cases h; rfl
  | n :: ns, _, h => by
    cases h with
    | cons h1 h2 =>
      cases h1
      rw [List.map_cons, DdAll.ints h2]
theorem DdAll.strs {K : PySem.W.Frag} {H : Hp} : ∀ {ns : List Str} {vs : List V}, DdAll K H vs (ns.map PyData.str) → vs = ns.map V.str
  | [], _, h => by cases h; rfl
  | n :: ns, _, h => by
    cases h with
    | cons h1 h2 =>
      cases h1
      rw [List.map_cons, DdAll.strs h2]
theorem DdAll.bools {K : PySem.W.Frag} {H : Hp} : ∀ {ns : List Bool} {vs : List V}, DdAll K H vs (ns.map PyData.bool) → vs = ns.map V.bl
  | [], _, h => by cases h; rfl
  | n :: ns, _, h => by
    cases h with
    | cons h1 h2 =>
      cases h1
      rw [List.map_cons, DdAll.bools h2]

open Classical in
/-- the heap without the objects of which o tells -/
noncomputable def hid (H : Hp) (o : Addr → Prop) : Hp := fun a => if o a then none else H a
theorem hid_of {H : Hp} {o : Addr → Prop} {a : Addr} (h : ¬ o a) : hid H o a = H a := if_neg h
theorem hid_some {H : Hp} {o : Addr → Prop} {a : Addr} {u : HO} (h : hid H o a = some u) : ¬ o a ∧ H a = some u := by
  unfold hid at h
  split at h
  · cases h
  · rename_i n
    exact ⟨n, h⟩
theorem hid_le {H : Hp} {o : Addr → Prop} : Same (hid H o) H := fun a u e => (hid_some e).2
theorem hid_less {H : Hp} {o o' : Addr → Prop} (h : ∀ a, o a → o' a) : Same (hid H o') (hid H o) := by
  intro a u e
  obtain ⟨n, e2⟩ := hid_some e
  rw [hid_of (fun z => n (h a z))]
  exact e2

/-! ### what a slot holds -/
inductive Sl where
  /-- nothing is known -/
  | no
  /-- data -/
  | dat (d : PyData)
  /-- a list of the def's own at p, which it may change -/
  | own (p : Addr) (xs : List PyData)
  /-- the bag -/
  | bag

/-- where a def's body stands: the heap at the entry, what its callers own, the bag -/
structure Wd where
  K : PySem.W.Frag
  H0 : Hp
  own0 : Addr → Prop
  bg : Option Addr

/-- the bag stands at b -/
def BagAt (K : PySem.W.Frag) (H : Hp) (o : Addr → Prop) (b : Addr) : Prop :=
  o b ∧ ∃ (c s t : Int) (l : Addr) (ns : List Int), H b = some (.lst [.int c, .int s, .int t, .ref l]) ∧ SqL K (hid H o) l (ns.map V.int) ∧ ns.length ≤ 63
structure Bas (w : Wd) (o : Addr → Prop) (H : Hp) : Prop where
  grow : Same (hid w.H0 w.own0) (hid H o)
  sub : ∀ a, w.own0 a → o a
  keep : ∀ a, w.own0 a → w.bg ≠ some a → H a = w.H0 a
  bag : ∀ b, w.bg = some b → w.own0 b ∧ BagAt w.K H o b
  here : ∀ a, o a → H a ≠ none
def VR (w : Wd) (o : Addr → Prop) (H : Hp) (v : V) : Sl → Prop
  | .no => True
  | .dat d => Dd w.K (hid H o) v d
  | .own p xs => v = .ref p ∧ o p ∧ ¬ w.own0 p ∧ ∃ vs, H p = some (.lst vs) ∧ DdAll w.K (hid H o) vs xs
  | .bag => ∃ b, w.bg = some b ∧ v = .ref b
structure Ok (w : Wd) (o : Addr → Prop) (σ : L2.St) (H : Hp) (ρ : List Sl) : Prop extends Bas w o H where
  len : σ.length = ρ.length
  slot : ∀ (i : Nat) (x : Sl), ρ[i]? = some x → x = .no ∨ ∃ v, σ[i]? = some (some v) ∧ VR w o H v x
  apart : ∀ (i j : Nat) (p q : Addr) (xs ys : List PyData), i ≠ j → ρ[i]? = some (.own p xs) → ρ[j]? = some (.own q ys) → p ≠ q
theorem VR.dat {w : Wd} {o : Addr → Prop} {H : Hp} {v : V} {d : PyData} (h : Dd w.K (hid H o) v d) : VR w o H v (.dat d) := h
/-- what a part of an expression may do -/
structure Go (w : Wd) (o : Addr → Prop) (H : Hp) (o' : Addr → Prop) (H' : Hp) : Prop where
  same : Same (hid H o) (hid H' o')
  sub : ∀ a, o a → o' a
  keep : ∀ a, o a → w.bg ≠ some a → H' a = H a
  bag : ∀ b, w.bg = some b → BagAt w.K H' o' b
  here : ∀ a, o' a → H' a ≠ none

section
variable {w : Wd} {o o1 o2 : Addr → Prop} {H H1 H2 : Hp} {σ : L2.St} {ρ : List Sl} {v : V} {x : Sl}
theorem Bas.refl (b : Bas w o H) : Go w o H o H := ⟨Same.refl _, fun _ h => h, fun _ _ _ => rfl, fun b' e => (b.bag b' e).2, b.here⟩
theorem Go.trans (a : Go w o H o1 H1) (b : Go w o1 H1 o2 H2) : Go w o H o2 H2 :=
  ⟨a.same.trans b.same, fun c h => b.sub c (a.sub c h), fun c h n => (b.keep c (a.sub c h) n).trans (a.keep c h n), b.bag, b.here⟩
theorem Bas.go (b : Bas w o H) (g : Go w o H o1 H1) : Bas w o1 H1 :=
  ⟨b.grow.trans g.same, fun a h => g.sub a (b.sub a h), fun a h n => (g.keep a (b.sub a h) n).trans (b.keep a h n), fun c e => ⟨(b.bag c e).1, g.bag c e⟩, g.here⟩
theorem Bas.nb (b : Bas w o H) {p : Addr} (h : ¬ w.own0 p) : w.bg ≠ some p := fun e => h (b.bag p e).1
theorem VR.go (b : Bas w o H) (g : Go w o H o1 H1) (r : VR w o H v x) : VR w o1 H1 v x := by
  cases x with
  | no => trivial
  | dat d => exact dp_mono g.same d v r
  | own p xs =>
    obtain ⟨e, hp, n, vs, hv, ha⟩ := r
    exact ⟨e, g.sub p hp, n, vs, (g.keep p hp (b.nb n)).trans hv, dpAll_mono g.same xs vs ha⟩
  | bag => exact r
theorem Ok.go (k : Ok w o σ H ρ) (g : Go w o H o1 H1) : Ok w o1 σ H1 ρ :=
  ⟨k.toBas.go g, k.len, fun i x e => (k.slot i x e).imp id fun ⟨v, hv, r⟩ => ⟨v, hv, r.go k.toBas g⟩, k.apart⟩
theorem BagAt.go {K : PySem.W.Frag} {b : Addr} (h : BagAt K H o b) (s : Same (hid H o) (hid H1 o1)) (e : H1 b = H b) (ho : o1 b) : BagAt K H1 o1 b := by
  obtain ⟨_, c, s', t, l, ns, e1, e2, e3⟩ := h
  exact ⟨ho, c, s', t, l, ns, e.trans e1, s.seq e2, e3⟩
/-- new data is laid -/
theorem Bas.new (b : Bas w o H) {p : Addr} {u : HO} (n : H p = none) : Go w o H o (upd H p u) := by
  have off : ∀ a, o a → a ≠ p := fun a h e => b.here a h (e ▸ n)
  have sm : Same (hid H o) (hid (upd H p u) o) := by
    intro a y e
    obtain ⟨na, e⟩ := hid_some e
    rw [hid_of na, upd_ne (ne_of_none e n)]
    exact e
  refine ⟨sm, fun _ h => h, fun a h _ => upd_ne (off a h), fun c e => ?_, fun a h => ?_⟩
  · obtain ⟨c1, c2⟩ := b.bag c e
    exact c2.go sm (upd_ne (off c c2.1)) c2.1
  · rw [upd_ne (off a h)]
    exact b.here a h
/-- the heap grows by data -/
theorem Bas.ext (b : Bas w o H) (e : Same H H1) : Go w o H o H1 := by
  have kp : ∀ a, o a → H1 a = H a := fun a h => by
    cases q : H a with
    | none => exact absurd q (b.here a h)
    | some y => exact e a y q
  have sm : Same (hid H o) (hid H1 o) := by
    intro a y q
    obtain ⟨na, q⟩ := hid_some q
    rw [hid_of na]
    exact e a y q
  refine ⟨sm, fun _ h => h, fun a h _ => kp a h, fun c q => ?_, fun a h => ?_⟩
  · obtain ⟨c1, c2⟩ := b.bag c q
    exact c2.go sm (kp c c2.1) c2.1
  · rw [kp a h]
    exact b.here a h
/-- new data is seen -/
theorem Bas.seen (b : Bas w o H) {p : Addr} {u : HO} (n : H p = none) : hid (upd H p u) o p = some u := by
  have np : ¬ o p := fun h => b.here p h n
  rw [hid_of np]
  exact upd_same
/-- an object of the def's own is laid -/
theorem Bas.newOwn (b : Bas w o H) {p : Addr} {u : HO} (n : H p = none) : Go w o H (fun a => o a ∨ a = p) (upd H p u) := by
  have off : ∀ a, o a → a ≠ p := fun a h e => b.here a h (e ▸ n)
  have sm : Same (hid H o) (hid (upd H p u) fun a => o a ∨ a = p) := by
    intro a y e
    obtain ⟨na, e⟩ := hid_some e
    have nap : a ≠ p := ne_of_none e n
    rw [hid_of (fun z => z.elim na nap), upd_ne nap]
    exact e
  refine ⟨sm, fun _ h => .inl h, fun a h _ => upd_ne (off a h), fun c e => ?_, fun a h => ?_⟩
  · obtain ⟨c1, c2⟩ := b.bag c e
    exact c2.go sm (upd_ne (off c c2.1)) (.inl c2.1)
  · by_cases e : a = p
    · rw [e, upd_same]
      exact fun z => nomatch z
    · rw [upd_ne e]
      exact b.here a (h.elim id fun z => absurd z e)
end

/-! ### the judgements -/
def E (w : Wd) (te : TE) (ρ : List Sl) (P : Sl → Prop) : Prop := ∀ (o : Addr → Prop) (σ : L2.St) (H : Hp) (Q : VK), Ok w o σ H ρ →
  (∀ o' H' v x, Go w o H o' H' → VR w o' H' v x → P x → Q v H') → te σ H Q
def T (w : Wd) (tt : TT) (ρ : List Sl) (P : Bool → Prop) : Prop := ∀ (o : Addr → Prop) (σ : L2.St) (H : Hp) (Q : Bool → Hp → Prop), Ok w o σ H ρ →
  (∀ o' H' b, Go w o H o' H' → P b → Q b H') → tt σ H Q
inductive VRs (w : Wd) (o : Addr → Prop) (H : Hp) : List V → List Sl → Prop
  | nil : VRs w o H [] []
  | cons {v : V} {x : Sl} {vs : List V} {xs : List Sl} : VR w o H v x → VRs w o H vs xs → VRs w o H (v :: vs) (x :: xs)
def A (w : Wd) (ta : TA) (ρ : List Sl) (P : List Sl → Prop) : Prop := ∀ (o : Addr → Prop) (σ : L2.St) (H : Hp) (Q : List V → Hp → Prop), Ok w o σ H ρ →
  (∀ o' H' vs xs, Go w o H o' H' → VRs w o' H' vs xs → P xs → Q vs H') → ta σ H Q
structure En where
  nx : List Sl → Prop
  rt : PyData → Prop
  bk : List Sl → Prop := fun _ => False
  ct : List Sl → Prop := fun _ => False
def S (w : Wd) (ts : TS) (ρ : List Sl) (e : En) : Prop := ∀ (o : Addr → Prop) (σ : L2.St) (H : Hp) (D : Ends), Ok w o σ H ρ →
  (∀ o' σ' H' ρ', Ok w o' σ' H' ρ' → e.nx ρ' → D.nx σ' H') →
  (∀ o' H' v d, Bas w o' H' → Dd w.K (hid H' o') v d → e.rt d → D.rt v H') →
  (∀ o' σ' H' ρ', Ok w o' σ' H' ρ' → e.bk ρ' → D.bk σ' H') →
  (∀ o' σ' H' ρ', Ok w o' σ' H' ρ' → e.ct ρ' → D.ct σ' H') → ts D σ H

section
variable {w : Wd} {ρ : List Sl} {P : Sl → Prop} {te ta tb tc : TE} {tt tu : TT} {tr : TA} {ts t1 t2 : TS} {e : En} {d : PyData}

theorem VRs.go {o o1 : Addr → Prop} {H H1 : Hp} (b : Bas w o H) (g : Go w o H o1 H1) : ∀ {vs : List V} {xs : List Sl}, VRs w o H vs xs → VRs w o1 H1 vs xs
  | _, _, .nil => .nil
  | _, _, .cons r t => .cons (r.go b g) (VRs.go b g t)
theorem VRs.dats {o : Addr → Prop} {H : Hp} : ∀ {vs : List V} {ds : List PyData}, VRs w o H vs (ds.map Sl.dat) → DdAll w.K (hid H o) vs ds
  | _, [], h => by cases h; exact .nil
  | _, d :: ds, h => by
    cases h with
    | cons r t => exact .cons r (VRs.dats t)

/-! ### expressions -/
theorem E.mono {P' : Sl → Prop} (h : E w te ρ P) (q : ∀ x, P x → P' x) : E w te ρ P' := fun o σ H Q ok k => h o σ H Q ok fun o' H' v x g r p => k o' H' v x g r (q x p)
theorem e_var {i : Nat} {x : Sl} (h : ρ[i]? = some x) (hx : x ≠ .no) (q : P x) : E w (tVar i) ρ P := by
  intro o σ H Q ok k
  rcases ok.slot i x h with z | ⟨v, hv, r⟩
  · exact absurd z hx
  · exact ⟨v, hv, k o H v x ok.toBas.refl r q⟩
theorem e_non (q : P (.dat .none)) : E w (tC .non) ρ P := fun o σ H Q ok k => k o H _ _ ok.toBas.refl (VR.dat Dd.non) q
theorem e_bl {b : Bool} (q : P (.dat (.bool b))) : E w (tC (.bl b)) ρ P := fun o σ H Q ok k => k o H _ _ ok.toBas.refl (VR.dat (Dd.bl b)) q
theorem e_int {i : Int} (q : P (.dat (.int i))) : E w (tC (.int i)) ρ P := fun o σ H Q ok k => k o H _ _ ok.toBas.refl (VR.dat (Dd.int i)) q
theorem e_str {z : Str} (q : P (.dat (.str z))) : E w (tC (.str z)) ρ P := fun o σ H Q ok k => k o H _ _ ok.toBas.refl (VR.dat (Dd.str z)) q

/-- what an operation on two values does with data -/
def Op2 (w : Wd) (r : R2) (R : Sl → Sl → (Sl → Prop) → Prop) : Prop := ∀ (o : Addr → Prop) (H : Hp) (u v : V) (x y : Sl) (P : Sl → Prop) (Q : VK), Bas w o H → VR w o H u x → VR w o H v y → R x y P →
  (∀ o' H' z d, Go w o H o' H' → VR w o' H' z d → P d → Q z H') → r u v H Q
theorem e_op {r : R2} {R : Sl → Sl → (Sl → Prop) → Prop} (hr : Op2 w r R) (h : E w ta ρ fun x => E w tb ρ fun y => R x y P) : E w (tOp r ta tb) ρ P := by
  intro o σ H Q ok k
  refine h o σ H _ ok ?_
  intro o1 H1 v x g1 r1 q1
  refine q1 o1 σ H1 _ (ok.go g1) ?_
  intro o2 H2 u y g2 r2 q2
  exact hr o2 H2 v u x y P Q (ok.go (g1.trans g2)).toBas (r1.go (ok.go g1).toBas g2) r2 q2 fun o' H' z d g r p => k o' H' z d ((g1.trans g2).trans g) r p
theorem op2_I0 {f : Int → Int → Int} : Op2 w (rI0 fun i j => .int (f i j)) (fun x y P => ∃ i j, x = .dat (.int i) ∧ y = .dat (.int j) ∧ P (.dat (.int (f i j)))) := by
  rintro o H u v x y P Q b ru rv ⟨i, j, rfl, rfl, q⟩ k
  cases ru
  cases rv
  exact ⟨i, j, rfl, rfl, k o H _ _ b.refl (VR.dat (Dd.int _)) q⟩
theorem op2_B0 {f : Int → Int → Bool} : Op2 w (rI0 fun i j => .bl (f i j)) (fun x y P => ∃ i j, x = .dat (.int i) ∧ y = .dat (.int j) ∧ P (.dat (.bool (f i j)))) := by
  rintro o H u v x y P Q b ru rv ⟨i, j, rfl, rfl, q⟩ k
  cases ru
  cases rv
  exact ⟨i, j, rfl, rfl, k o H _ _ b.refl (VR.dat (Dd.bl _)) q⟩
theorem op2_I {C : Int → Int → Prop} {f : Int → Int → Int} : Op2 w (rI C fun i j => .int (f i j)) (fun x y P => ∃ i j, x = .dat (.int i) ∧ y = .dat (.int j) ∧ C i j ∧ P (.dat (.int (f i j)))) := by
  rintro o H u v x y P Q b ru rv ⟨i, j, rfl, rfl, c, q⟩ k
  cases ru
  cases rv
  exact ⟨i, j, rfl, rfl, c, k o H _ _ b.refl (VR.dat (Dd.int _)) q⟩
theorem op2_eqD : Op2 w (rEqE w.K) (fun x y P => ∃ d e, x = .dat d ∧ y = .dat e ∧ SeqAt.shaped d = true ∧ SeqAt.shaped e = true ∧ P (.dat (.bool (PyData.eqv d e)))) := by
  rintro o H u v x y P Q b ru rv ⟨d, e, rfl, rfl, s1, s2, q⟩ k
  exact ⟨d, e, dp_mono hid_le d u ru, dp_mono hid_le e v rv, s1, s2, k o H _ _ b.refl (VR.dat (Dd.bl _)) q⟩
theorem op2_neD : Op2 w (rNeE w.K) (fun x y P => ∃ d e, x = .dat d ∧ y = .dat e ∧ SeqAt.shaped d = true ∧ SeqAt.shaped e = true ∧ P (.dat (.bool (!PyData.eqv d e)))) := by
  rintro o H u v x y P Q b ru rv ⟨d, e, rfl, rfl, s1, s2, q⟩ k
  exact ⟨d, e, dp_mono hid_le d u ru, dp_mono hid_le e v rv, s1, s2, k o H _ _ b.refl (VR.dat (Dd.bl _)) q⟩
def rAddS2 : R2 := fun x y H Q => ∃ i j, x = .str i ∧ y = .str j ∧ i.length + j.length ≤ sizeLine ∧ Q (.str (i ++ j)) H
theorem op2_addS : Op2 w rAddS2 (fun x y P => ∃ i j : Str, x = .dat (.str i) ∧ y = .dat (.str j) ∧ i.length + j.length ≤ sizeLine ∧ P (.dat (.str (i ++ j)))) := by
  rintro o H u v x y P Q b ru rv ⟨i, j, rfl, rfl, c, q⟩ k
  cases ru
  cases rv
  exact ⟨i, j, rfl, rfl, c, k o H _ _ b.refl (VR.dat (Dd.str _)) q⟩
/-- one value or the other kind -/
def orR (r1 r2 : R2) : R2 := fun x y H Q => r1 x y H Q ∨ r2 x y H Q
theorem opr_or {X : Cx} {f : Value → Value → Sem Value} {r1 r2 : R2} (h1 : OpR X f r1) (h2 : OpR X f r2) : OpR X f (orR r1 r2) := by
  intro pins s σ H x y u v Q I rx ry h
  rcases h with h | h
  · exact h1 pins s σ H x y u v Q I rx ry h
  · exact h2 pins s σ H x y u v Q I rx ry h
theorem op2_or {r1 r2 : R2} {R1 R2 : Sl → Sl → (Sl → Prop) → Prop} (h1 : Op2 w r1 R1) (h2 : Op2 w r2 R2) : Op2 w (orR r1 r2) (fun x y P => R1 x y P ∨ R2 x y P) := by
  intro o H u v x y P Q b ru rv h k
  rcases h with h | h
  · exact .inl (h1 o H u v x y P Q b ru rv h k)
  · exact .inr (h2 o H u v x y P Q b ru rv h k)
/-- an item -/
def ixD (x : Sl) (i : Int) : Option PyData := match x with
  | .dat (.list ds) => atI ds i
  | .dat (.tuple ds) => atI ds i
  | .own _ ds => atI ds i
  | .dat (.str z) => if z.length ≤ sizeLine then (atI z.cps.toList i).map fun c => .str ⟨#[c]⟩ else none
  | _ => none
theorem atI_dp {K : PySem.W.Frag} {H : Hp} {vs : List V} {ds : List PyData} {i : Int} {d : PyData} (h : DdAll K H vs ds) (e : atI ds i = some d) : ∃ v, atI vs i = some v ∧ Dd K H v d := by
  unfold atI at e ⊢
  rw [DdAll.len h]
  cases q : ixN ds.length i with
  | none =>
    rw [q] at e
    cases e
  | some j =>
    rw [q] at e
    exact DdAll.get h e
theorem op2_ix : Op2 w (rIx w.K) (fun x y P => ∃ i d, y = .dat (.int i) ∧ ixD x i = some d ∧ P (.dat d)) := by
  rintro o H u v x y P Q b ru rv ⟨i, d, rfl, he, q⟩ k
  cases rv
  cases x with
  | no => cases he
  | bag => cases he
  | own p xs =>
    obtain ⟨rfl, hp, n, vs, hv, ha⟩ := ru
    obtain ⟨z, hz, rz⟩ := atI_dp ha he
    exact .inl ⟨p, vs, i, z, rfl, rfl, .inl (.inl hv), hz, k o H z _ b.refl (VR.dat rz) q⟩
  | dat c =>
    cases c with
    | list ds =>
      cases ru with
      | lst hs ha =>
        obtain ⟨z, hz, rz⟩ := atI_dp ha he
        exact .inl ⟨_, _, i, z, rfl, rfl, hid_le.seq hs, hz, k o H z _ b.refl (VR.dat rz) q⟩
    | tuple ds =>
      cases ru with
      | tup hs ha =>
        obtain ⟨z, hz, rz⟩ := atI_dp ha he
        exact .inr (.inl ⟨_, _, i, z, rfl, rfl, sqT_mono hid_le hs, hz, k o H z _ b.refl (VR.dat rz) q⟩)
    | str s =>
      cases ru
      have he : (if s.length ≤ sizeLine then (atI s.cps.toList i).map fun c => PyData.str ⟨#[c]⟩ else none) = some d := he
      by_cases hl : s.length ≤ sizeLine
      · rw [if_pos hl] at he
        cases hc : atI s.cps.toList i with
        | none =>
          rw [hc] at he
          cases he
        | some c =>
          rw [hc] at he
          cases he
          exact .inr (.inr ⟨s, i, c, rfl, rfl, hl, hc, k o H _ _ b.refl (VR.dat (Dd.str _)) q⟩)
      · rw [if_neg hl] at he
        cases he
    | none => cases he
    | bool _ => cases he
    | int _ => cases he
    | dict _ => cases he
theorem e_neg (h : E w ta ρ fun x => ∃ i, x = .dat (.int i) ∧ P (.dat (.int (-i)))) : E w (tUn (rU fun i => .int (-i)) ta) ρ P := by
  intro o σ H Q ok k
  refine h o σ H _ ok ?_
  rintro o1 H1 v x g1 r1 ⟨i, rfl, q⟩
  cases r1
  exact ⟨i, rfl, k o1 H1 _ _ g1 (VR.dat (Dd.int _)) q⟩
theorem e_if {P : Sl → Prop} (h : T w tt ρ fun b => if b = true then E w ta ρ P else E w tb ρ P) : E w (tIf tt ta tb) ρ P := by
  intro o σ H Q ok k
  refine h o σ H _ ok ?_
  intro o1 H1 b g1 q
  cases b with
  | true => exact q o1 σ H1 Q (ok.go g1) fun o' H' v x g r p => k o' H' v x (g1.trans g) r p
  | false => exact q o1 σ H1 Q (ok.go g1) fun o' H' v x g r p => k o' H' v x (g1.trans g) r p
theorem e_andV (h : E w ta ρ fun x => ∃ b, x = .dat (.bool b) ∧ if b = true then E w tb ρ P else P (.dat (.bool false))) : E w (tAndV ta tb) ρ P := by
  intro o σ H Q ok k
  refine h o σ H _ ok ?_
  rintro o1 H1 v x g1 r1 ⟨b, rfl, q⟩
  cases r1
  refine ⟨b, rfl, ?_⟩
  cases b with
  | true => exact q o1 σ H1 Q (ok.go g1) fun o' H' v x g r p => k o' H' v x (g1.trans g) r p
  | false => exact k o1 H1 _ _ g1 (VR.dat (Dd.bl _)) q
theorem e_orV (h : E w ta ρ fun x => ∃ b, x = .dat (.bool b) ∧ if b = true then P (.dat (.bool true)) else E w tb ρ P) : E w (tOrV ta tb) ρ P := by
  intro o σ H Q ok k
  refine h o σ H _ ok ?_
  rintro o1 H1 v x g1 r1 ⟨b, rfl, q⟩
  cases r1
  refine ⟨b, rfl, ?_⟩
  cases b with
  | true => exact k o1 H1 _ _ g1 (VR.dat (Dd.bl _)) q
  | false => exact q o1 σ H1 Q (ok.go g1) fun o' H' v x g r p => k o' H' v x (g1.trans g) r p
theorem e_notV (h : E w ta ρ fun x => ∃ b, x = .dat (.bool b) ∧ P (.dat (.bool (!b)))) : E w (tNotV ta) ρ P := by
  intro o σ H Q ok k
  refine h o σ H _ ok ?_
  rintro o1 H1 v x g1 r1 ⟨b, rfl, q⟩
  cases r1
  exact ⟨b, rfl, k o1 H1 _ _ g1 (VR.dat (Dd.bl _)) q⟩

/-! ### argument lists, displays -/
def undats : List Sl → Option (List PyData)
  | [] => some []
  | .dat d :: xs => match undats xs with
    | some ds => some (d :: ds)
    | none => none
  | _ :: _ => none
theorem undats_some : ∀ {xs : List Sl} {ds : List PyData}, undats xs = some ds → xs = ds.map Sl.dat
  | [], _, h => by cases h; rfl
  | .dat d :: xs, ds, h => by
    have h : (match undats xs with
      | some ds => some (d :: ds)
      | none => none) = some ds := h
    cases q : undats xs with
    | none =>
      rw [q] at h
      cases h
    | some es =>
      rw [q] at h
      cases h
      rw [undats_some q]
      rfl
  | .no :: _, _, h => by cases h
  | .own _ _ :: _, _, h => by cases h
  | .bag :: _, _, h => by cases h
theorem a_nil {P : List Sl → Prop} (q : P []) : A w tNil ρ P := fun o σ H Q ok k => k o H [] [] ok.toBas.refl .nil q
theorem a_cons {P : List Sl → Prop} (h : E w te ρ fun x => A w tr ρ fun xs => P (x :: xs)) : A w (tCons te tr) ρ P := by
  intro o σ H Q ok k
  refine h o σ H _ ok ?_
  intro o1 H1 v x g1 r1 q1
  refine q1 o1 σ H1 _ (ok.go g1) ?_
  intro o2 H2 vs xs g2 r2 q2
  exact k o2 H2 (v :: vs) (x :: xs) (g1.trans g2) (.cons (r1.go (ok.go g1).toBas g2) r2) q2
theorem e_tup (h : A w tr ρ fun xs => ∃ ds, undats xs = some ds ∧ ds.length ≤ sizeLine ∧ P (.dat (.tuple ds))) : E w (tTup tr) ρ P := by
  intro o σ H Q ok k
  refine h o σ H _ ok ?_
  rintro o1 H1 vs xs g1 r1 ⟨ds, hu, hl, q⟩
  have hu2 := undats_some hu
  subst hu2
  have ha := VRs.dats r1
  refine ⟨by rw [DdAll.len ha]; exact hl, fun p np => ?_⟩
  have b1 := ok.toBas.go g1
  have g2 := b1.new (u := .tup vs) np
  exact k o1 _ _ _ (g1.trans g2) (VR.dat (Dd.tup (.inl (.inl (b1.seen np))) (dpAll_mono g2.same ds vs ha))) q
/-- a display of a list that is never changed -/
theorem e_lst (h : A w tr ρ fun xs => ∃ ds, undats xs = some ds ∧ ds.length ≤ sizeLine ∧ P (.dat (.list ds))) : E w (tLst tr) ρ P := by
  intro o σ H Q ok k
  refine h o σ H _ ok ?_
  rintro o1 H1 vs xs g1 r1 ⟨ds, hu, hl, q⟩
  have hu2 := undats_some hu
  subst hu2
  have ha := VRs.dats r1
  refine ⟨by rw [DdAll.len ha]; exact hl, fun p np => ?_⟩
  have b1 := ok.toBas.go g1
  have g2 := b1.new (u := .lst vs) np
  exact k o1 _ _ _ (g1.trans g2) (VR.dat (Dd.lst (.inl (.inl (b1.seen np))) (dpAll_mono g2.same ds vs ha))) q

/-- what a call upon values does with data -/
def Cl (w : Wd) (r : List V → Hp → VK → Prop) (R : List Sl → (Sl → Prop) → Prop) : Prop := ∀ (o : Addr → Prop) (H : Hp) (vs : List V) (xs : List Sl) (P : Sl → Prop) (Q : VK), Bas w o H → VRs w o H vs xs → R xs P →
  (∀ o' H' z d, Go w o H o' H' → VR w o' H' z d → P d → Q z H') → r vs H Q
theorem e_cb {r : List V → Hp → VK → Prop} {R : List Sl → (Sl → Prop) → Prop} (hr : Cl w r R) (h : A w tr ρ fun xs => R xs P) : E w (tCB r tr) ρ P := by
  intro o σ H Q ok k
  refine h o σ H _ ok ?_
  intro o1 H1 vs xs g1 r1 q1
  exact hr o1 H1 vs xs P Q (ok.toBas.go g1) r1 q1 fun o' H' z d g r p => k o' H' z d (g1.trans g) r p

/-! ### tests -/
theorem t_test {P : Bool → Prop} (h : E w te ρ fun x => ∃ b, x = .dat (.bool b) ∧ P b) : T w (tTest te) ρ P := by
  intro o σ H Q ok k
  refine h o σ H _ ok ?_
  rintro o1 H1 v x g1 r1 ⟨b, rfl, q⟩
  cases r1
  exact ⟨b, rfl, k o1 H1 b g1 q⟩
theorem t_B {P : Bool → Prop} (h : E w te ρ fun x => ∃ b, x = .dat (.bool b) ∧ P b) : T w (tB te) ρ P := by
  intro o σ H Q ok k
  refine h o σ H _ ok ?_
  rintro o1 H1 v x g1 r1 ⟨b, rfl, q⟩
  cases r1
  exact ⟨b, rfl, k o1 H1 b g1 q⟩
theorem t_and {P : Bool → Prop} (h : T w tt ρ fun b => if b = true then T w tu ρ P else P false) : T w (tAnd tt tu) ρ P := by
  intro o σ H Q ok k
  refine h o σ H _ ok ?_
  intro o1 H1 b g1 q
  cases b with
  | true => exact q o1 σ H1 Q (ok.go g1) fun o' H' b g p => k o' H' b (g1.trans g) p
  | false => exact k o1 H1 false g1 q
theorem t_or {P : Bool → Prop} (h : T w tt ρ fun b => if b = true then P true else T w tu ρ P) : T w (tOr tt tu) ρ P := by
  intro o σ H Q ok k
  refine h o σ H _ ok ?_
  intro o1 H1 b g1 q
  cases b with
  | true => exact k o1 H1 true g1 q
  | false => exact q o1 σ H1 Q (ok.go g1) fun o' H' b g p => k o' H' b (g1.trans g) p
theorem t_not {P : Bool → Prop} (h : T w tt ρ fun b => P (!b)) : T w (tNot tt) ρ P := by
  intro o σ H Q ok k
  refine h o σ H _ ok ?_
  intro o1 H1 b g1 q
  exact k o1 H1 (!b) g1 q
theorem t_yes {P : Bool → Prop} (q : P true) : T w tYes ρ P := fun o σ H Q ok k => k o H true ok.toBas.refl q

/-! ### statements -/
theorem s_next (q : e.nx ρ) : S w tNext ρ e := fun o σ H D ok kn kr kb kc => kn o σ H ρ ok q
theorem s_brk (q : e.bk ρ) : S w tBreak ρ e := fun o σ H D ok kn kr kb kc => kb o σ H ρ ok q
theorem s_cont (q : e.ct ρ) : S w tCont ρ e := fun o σ H D ok kn kr kb kc => kc o σ H ρ ok q
theorem s_seq (h : S w t1 ρ { e with nx := fun ρ' => S w t2 ρ' e }) : S w (tSeq t1 t2) ρ e := fun o σ H D ok kn kr kb kc =>
  h o σ H { D with nx := t2 D } ok (fun o' σ' H' ρ' ok' q => q o' σ' H' D ok' kn kr kb kc) kr kb kc
theorem s_if (h : T w tt ρ fun b => if b = true then S w t1 ρ e else S w t2 ρ e) : S w (tIfS tt t1 t2) ρ e := by
  intro o σ H D ok kn kr kb kc
  refine h o σ H _ ok ?_
  intro o1 H1 b g1 q
  cases b with
  | true => exact q o1 σ H1 D (ok.go g1) kn kr kb kc
  | false => exact q o1 σ H1 D (ok.go g1) kn kr kb kc
theorem s_ret (h : E w te ρ fun x => ∃ d, x = .dat d ∧ e.rt d) : S w (tRet te) ρ e := by
  intro o σ H D ok kn kr kb kc
  refine h o σ H _ ok ?_
  rintro o1 H1 v x g1 r1 ⟨d, rfl, q⟩
  exact kr o1 H1 v d (ok.toBas.go g1) r1 q
theorem s_retN (q : e.rt .none) : S w tRetN ρ e := fun o σ H D ok kn kr kb kc => kr o H .non .none ok.toBas Dd.non q
/-- a list of the def's own is handed out -/
theorem s_retOwn {i : Nat} {p : Addr} {xs : List PyData} (h : ρ[i]? = some (.own p xs)) (q : e.rt (.list xs)) : S w (tRet (tVar i)) ρ e := by
  intro o σ H D ok kn kr kb kc
  rcases ok.slot i _ h with z | ⟨v, hv, r⟩
  · cases z
  · obtain ⟨rfl, hp, n, vs, e1, ha⟩ := r
    refine ⟨_, hv, ?_⟩
    have less : ∀ a, (o a ∧ a ≠ p) → o a := fun a h => h.1
    have bs : Bas w (fun a => o a ∧ a ≠ p) H := by
      refine ⟨ok.grow.trans (hid_less less), fun a h => ⟨ok.sub a h, fun z => n (z ▸ h)⟩, ok.keep, fun b hb => ?_, fun a h => ok.here a h.1⟩
      obtain ⟨b1, b2⟩ := ok.bag b hb
      exact ⟨b1, b2.go (hid_less less) rfl ⟨b2.1, fun z => n (z ▸ b1)⟩⟩
    refine kr _ H _ _ bs (Dd.lst (.inl (.inl ?_)) (dpAll_mono (hid_less less) xs vs ha)) q
    rw [hid_of (fun z => z.2 rfl)]
    exact e1
theorem s_drop (h : E w te ρ fun _ => e.nx ρ) : S w (tDrop te) ρ e := by
  intro o σ H D ok kn kr kb kc
  refine h o σ H _ ok ?_
  intro o1 H1 v x g1 r1 q
  exact kn o1 σ H1 ρ (ok.go g1) q

def notOwn : Sl → Prop
  | .own _ _ => False
  | _ => True
theorem Ok.set {o : Addr → Prop} {σ : L2.St} {H : Hp} {v : V} {x : Sl} (ok : Ok w o σ H ρ) (i : Nat) (r : VR w o H v x) (hx : ∀ p xs, x = .own p xs → ∀ j q ys, j ≠ i → ρ[j]? = some (.own q ys) → p ≠ q) :
    Ok w o (σ.set i (some v)) H (ρ.set i x) := by
  refine ⟨ok.toBas, by rw [List.length_set, List.length_set]; exact ok.len, fun j y e => ?_, fun j k p q xs ys ne e1 e2 => ?_⟩
  · by_cases hj : i = j
    · subst hj
      have hl : i < (ρ.set i x).length := (List.getElem?_eq_some_iff.mp e).1
      rw [List.length_set] at hl
      rw [List.getElem?_set_self hl] at e
      cases e
      exact .inr ⟨v, List.getElem?_set_self (by rw [ok.len]; exact hl), r⟩
    · rw [List.getElem?_set_ne hj] at e
      rw [List.getElem?_set_ne hj]
      exact ok.slot j y e
  · by_cases hj : i = j
    · subst hj
      have hl : i < (ρ.set i x).length := (List.getElem?_eq_some_iff.mp e1).1
      rw [List.length_set] at hl
      rw [List.getElem?_set_self hl] at e1
      rw [List.getElem?_set_ne ne] at e2
      cases e1
      exact hx p xs rfl k q ys (Ne.symm ne) e2
    · rw [List.getElem?_set_ne hj] at e1
      by_cases hk : i = k
      · subst hk
        have hl : i < (ρ.set i x).length := (List.getElem?_eq_some_iff.mp e2).1
        rw [List.length_set] at hl
        rw [List.getElem?_set_self hl] at e2
        cases e2
        exact (hx q ys rfl j p xs (Ne.symm hj) e1).symm
      · rw [List.getElem?_set_ne hk] at e2
        exact ok.apart j k p q xs ys ne e1 e2
theorem Ok.setD {o : Addr → Prop} {σ : L2.St} {H : Hp} {v : V} {x : Sl} (ok : Ok w o σ H ρ) (i : Nat) (r : VR w o H v x) (hx : notOwn x) : Ok w o (σ.set i (some v)) H (ρ.set i x) :=
  ok.set i r fun p xs e => by subst e; exact hx.elim
/-- x = e -/
theorem s_set {i : Nat} (h : E w te ρ fun x => notOwn x ∧ e.nx (ρ.set i x)) : S w (tAsg te (gName i)) ρ e := by
  intro o σ H D ok kn kr kb kc
  refine h o σ H _ ok ?_
  rintro o1 H1 v x g1 r1 ⟨n, q⟩
  exact kn o1 _ H1 _ ((ok.go g1).setD i r1 n) q
/-- x = [..], a list that will be changed -/
theorem s_setOwn {i : Nat} (h : A w tr ρ fun xs => ∃ ds, undats xs = some ds ∧ ds.length ≤ sizeLine ∧ ∀ p, e.nx (ρ.set i (.own p ds))) : S w (tAsg (tLst tr) (gName i)) ρ e := by
  intro o σ H D ok kn kr kb kc
  refine h o σ H _ ok ?_
  rintro o1 H1 vs xs g1 r1 ⟨ds, hu, hl, q⟩
  have hu2 := undats_some hu
  subst hu2
  have ha := VRs.dats r1
  refine ⟨by rw [DdAll.len ha]; exact hl, fun p np => ?_⟩
  have ok1 := ok.go g1
  have g2 := ok1.toBas.newOwn (u := .lst vs) np
  have ok2 := ok1.go g2
  refine kn _ _ _ _ (ok2.set i (x := .own p ds) ⟨rfl, .inr rfl, fun z => ?_, vs, upd_same, dpAll_mono g2.same ds vs ha⟩ ?_) (q p)
  · exact ok1.here p (ok1.sub p z) np
  · intro p' xs' e' j q' ys' nj ej
    cases e'
    intro z
    subst z
    rcases ok1.slot j _ ej with z | ⟨u, hu, _, hq, _⟩
    · cases z
    · exact ok1.here _ hq np
/-- x op= e, ints -/
theorem s_aug {i : Nat} {f : Int → Int → Int} {a : Int} (hx : ρ[i]? = some (.dat (.int a))) (h : E w te ρ fun y => ∃ b, y = .dat (.int b) ∧ e.nx (ρ.set i (.dat (.int (f a b))))) : S w (tAug i te (ipI f)) ρ e := by
  intro o σ H D ok kn kr kb kc
  rcases ok.slot i _ hx with z | ⟨v, hv, r⟩
  · cases z
  · cases r
    refine ⟨_, hv, ?_⟩
    refine h o σ H _ ok ?_
    rintro o1 H1 u y g1 r1 ⟨b, rfl, q⟩
    cases r1
    exact ⟨a, b, rfl, rfl, kn o1 _ H1 _ ((ok.go g1).setD i (x := .dat (.int (f a b))) (Dd.int _) trivial) q⟩
/-- x, y = a, b -/
theorem s_par {i j : Nat} (h : A w tr ρ fun xs => ∃ x y, xs = [x, y] ∧ notOwn x ∧ notOwn y ∧ e.nx ((ρ.set i x).set j y)) : S w (tPar i j tr) ρ e := by
  intro o σ H D ok kn kr kb kc
  refine h o σ H _ ok ?_
  rintro o1 H1 vs xs g1 r1 ⟨x, y, rfl, n1, n2, q⟩
  cases r1 with
  | cons ra rt =>
    cases rt with
    | cons rb rt =>
      cases rt
      exact ⟨_, _, rfl, kn o1 _ H1 _ (((ok.go g1).setD i ra n1).setD j rb n2) q⟩
/-- x, y = e -/
theorem s_set2 {i j m : Nat} (hm : m = 2) (h : E w te ρ fun x => ∃ d1 d2, x = .dat (.tuple [d1, d2]) ∧ e.nx ((ρ.set i (.dat d1)).set j (.dat d2))) : S w (tAsg te (gTup w.K m (gCons (gName i) (gCons (gName j) gNil)))) ρ e := by
  subst hm
  intro o σ H D ok kn kr kb kc
  refine h o σ H _ ok ?_
  rintro o1 H1 v x g1 r1 ⟨d1, d2, rfl, q⟩
  cases r1 with
  | tup hs ha =>
    cases ha with
    | cons ra rt =>
      cases rt with
      | cons rb rt =>
        cases rt
        refine ⟨_, _, rfl, sqT_mono hid_le hs, rfl, _, _, rfl, _, _, rfl, rfl, ?_⟩
        exact kn o1 _ H1 _ (((ok.go g1).setD i (x := .dat d1) ra trivial).setD j (x := .dat d2) rb trivial) q
/-- a list of the def's own is changed -/
theorem Ok.put {o : Addr → Prop} {σ : L2.St} {H : Hp} {i : Nat} {p : Addr} {xs ys : List PyData} {vs : List V} (ok : Ok w o σ H ρ) (h : ρ[i]? = some (.own p xs)) (ha : DdAll w.K (hid H o) vs ys) :
    Ok w o σ (upd H p (.lst vs)) (ρ.set i (.own p ys)) := by
  rcases ok.slot i _ h with z | ⟨v, hv, rfl, hp, n, us, e1, ha0⟩
  · cases z
  · have eq : hid (upd H p (.lst vs)) o = hid H o := by
      funext a
      unfold hid
      split
      · rfl
      · rename_i na
        exact upd_ne fun z => na (z ▸ hp)
    have off : ∀ a, w.own0 a → a ≠ p := fun a h z => n (z ▸ h)
    refine ⟨⟨by rw [eq]; exact ok.grow, ok.sub, fun a h nb => (upd_ne (off a h)).trans (ok.keep a h nb), fun b hb => ?_, fun a h => ?_⟩, ?_, fun j y e => ?_, fun j k p1 q1 xs1 ys1 ne f1 f2 => ?_⟩
    · obtain ⟨b1, b2⟩ := ok.bag b hb
      exact ⟨b1, b2.go (by rw [eq]; exact Same.refl _) (upd_ne (off b b1)) b2.1⟩
    · by_cases z : a = p
      · rw [z, upd_same]
        exact fun z => nomatch z
      · rw [upd_ne z]
        exact ok.here a h
    · rw [List.length_set]
      exact ok.len
    · by_cases hj : i = j
      · subst hj
        have hl : i < (ρ.set i (.own p ys)).length := (List.getElem?_eq_some_iff.mp e).1
        rw [List.length_set] at hl
        rw [List.getElem?_set_self hl] at e
        cases e
        exact .inr ⟨_, hv, rfl, hp, n, vs, upd_same, by rw [eq]; exact ha⟩
      · rw [List.getElem?_set_ne hj] at e
        refine (ok.slot j y e).imp id fun ⟨u, hu, r⟩ => ⟨u, hu, ?_⟩
        cases y with
        | no => trivial
        | bag => exact r
        | dat d =>
          show Dd w.K (hid (upd H p (.lst vs)) o) u d
          rw [eq]
          exact r
        | own q zs =>
          obtain ⟨e2, hq, nq, us2, e3, ha3⟩ := r
          refine ⟨e2, hq, nq, us2, (upd_ne (fun z => ok.apart i j p q xs zs hj h e z.symm)).trans e3, ?_⟩
          rw [eq]
          exact ha3
    · have back : ∀ (m : Nat) (q : Addr) (zs : List PyData), (ρ.set i (.own p ys))[m]? = some (.own q zs) → ∃ zs', ρ[m]? = some (.own q zs') := by
        intro m q zs f
        by_cases hm : i = m
        · subst hm
          have hl : i < (ρ.set i (.own p ys)).length := (List.getElem?_eq_some_iff.mp f).1
          rw [List.length_set] at hl
          rw [List.getElem?_set_self hl] at f
          cases f
          exact ⟨xs, h⟩
        · rw [List.getElem?_set_ne hm] at f
          exact ⟨zs, f⟩
      obtain ⟨z1, g1⟩ := back j p1 xs1 f1
      obtain ⟨z2, g2⟩ := back k q1 ys1 f2
      exact ok.apart j k p1 q1 z1 z2 ne g1 g2
theorem s_app {i : Nat} {p : Addr} {xs : List PyData} (hx : ρ[i]? = some (.own p xs)) (hz : xs.length < sizeLine) (h : E w te ρ fun y => ∃ d, y = .dat d ∧ e.nx (ρ.set i (.own p (xs ++ [d])))) :
    S w (tDrop (tBM w.K "list" rAppend (tVar i) (tCons te tNil))) ρ e := by
  intro o σ H D ok kn kr kb kc
  rcases ok.slot i _ hx with z | ⟨v, hv, r⟩
  · cases z
  · obtain ⟨rfl, hp, n, vs, e1, ha⟩ := id r
    refine ⟨_, hv, .inl ⟨rfl, vs, .inl (.inl e1)⟩, ?_⟩
    refine h o σ H _ ok ?_
    rintro o1 H1 u y g1 r1 ⟨d, rfl, q⟩
    have e2 : H1 p = some (.lst vs) := (g1.keep p hp (ok.toBas.nb n)).trans e1
    refine ⟨p, vs, u, rfl, rfl, e2, by rw [DdAll.len ha]; exact hz, ?_⟩
    exact kn o1 σ _ _ ((ok.go g1).put hx (DdAll.app (dpAll_mono g1.same xs vs ha) (.cons r1 .nil))) q

theorem S.cut {M : List Sl → Prop} (h : S w ts ρ { e with nx := M }) (k : ∀ ρ', M ρ' → e.nx ρ') : S w ts ρ e := fun o σ H D ok kn kr kb kc =>
  h o σ H D ok (fun o' σ' H' ρ' ok' m => kn o' σ' H' ρ' ok' (k ρ' m)) kr kb kc
/-! ### loops -/
theorem s_while (I : Nat → List Sl → Prop) {m0 : Nat} (h0 : I m0 ρ) (h : ∀ m ρ', I m ρ' → T w tt ρ' fun b => if b = true then S w ts ρ' { e with nx := fun r => ∃ m', m' < m ∧ I m' r, ct := fun r => ∃ m', m' < m ∧ I m' r, bk := e.nx } else e.nx ρ') :
    S w (tWhile tt ts) ρ e := by
  intro o σ H D ok kn kr kb kc
  refine ⟨fun m σ' H' => ∃ o' ρ', Ok w o' σ' H' ρ' ∧ I m ρ', ⟨m0, o, ρ, ok, h0⟩, ?_⟩
  rintro m σ1 H1 ⟨o1, ρ1, ok1, i1⟩
  refine h m ρ1 i1 o1 σ1 H1 _ ok1 ?_
  intro o2 H2 b g2 q
  cases b with
  | false => exact kn o2 σ1 H2 ρ1 (ok1.go g2) q
  | true =>
    refine ⟨fun σ' H' => ∃ o' ρ', Ok w o' σ' H' ρ' ∧ ∃ m', m' < m ∧ I m' ρ', fun σ' H' ⟨o', ρ', a, m', b, c⟩ => ⟨m', b, o', ρ', a, c⟩, ?_⟩
    exact q o2 σ1 H2 _ (ok1.go g2) (fun o' σ' H' ρ' a b => ⟨o', ρ', a, b⟩) kr (fun o' σ' H' ρ' a b => kn o' σ' H' ρ' a b) (fun o' σ' H' ρ' a b => ⟨o', ρ', a, b⟩)
theorem s_forR {lo : Int} {n j : Nat} {wi : TI} (I : Nat → List Sl → Prop) (hw : ∀ (o : Addr → Prop) (σ : L2.St) (H : Hp) (R : It → Hp → Prop), Ok w o σ H ρ → (∀ o' H', Go w o H o' H' → R (Itr lo n) H') → wi σ H R)
    (h0 : I 0 ρ) (h : ∀ i ρ', i < n → I i ρ' → S w ts (ρ'.set j (.dat (.int (lo + i)))) { e with nx := I (i + 1), ct := I (i + 1), bk := e.nx }) (hd : ∀ ρ', I n ρ' → e.nx ρ') : S w (tFor wi (gName j) ts) ρ e := by
  intro o σ H D ok kn kr kb kc
  refine hw o σ H _ ok ?_
  intro o1 H1 g1
  refine for_range (lo := lo) (n := n) (fun i σ' H' => ∃ o' ρ', Ok w o' σ' H' ρ' ∧ I i ρ') ⟨o1, ρ, ok.go g1, h0⟩ ?_ ?_
  · rintro i σ2 H2 hi ⟨o2, ρ2, ok2, i2⟩
    exact h i ρ2 hi i2 o2 _ H2 _ (ok2.setD j (x := .dat (.int (lo + i))) (Dd.int _) trivial) (fun o' σ' H' ρ' a b => ⟨o', ρ', a, b⟩) kr (fun o' σ' H' ρ' a b => kn o' σ' H' ρ' a b) (fun o' σ' H' ρ' a b => ⟨o', ρ', a, b⟩)
  · rintro σ2 H2 ⟨o2, ρ2, ok2, i2⟩
    exact kn o2 σ2 H2 ρ2 ok2 (hd ρ2 i2)
theorem s_forR1 {j : Nat} (h : A w tr ρ fun xs => ∃ n : Int, xs = [.dat (.int n)] ∧ (-(2 ^ 62) ≤ n ∧ n < 2 ^ 62) ∧ ∃ I : Nat → List Sl → Prop, I 0 ρ ∧
    (∀ (i : Nat) ρ', (i : Int) < n → I i ρ' → S w ts (ρ'.set j (.dat (.int (i : Int)))) { e with nx := I (i + 1), ct := I (i + 1), bk := e.nx }) ∧ ∀ ρ', I n.toNat ρ' → e.nx ρ') : S w (tFor (iRng1 tr) (gName j) ts) ρ e := by
  intro o σ H D ok kn kr kb kc
  refine h o σ H _ ok ?_
  rintro o1 H1 vs xs g1 r1 ⟨n, rfl, hn, I, h0, hs, hd⟩
  cases r1 with
  | cons ra rt =>
    cases rt
    cases ra
    refine ⟨n, rfl, hn.1, hn.2, ?_⟩
    refine for_range (lo := 0) (n := n.toNat) (fun i σ' H' => ∃ o' ρ', Ok w o' σ' H' ρ' ∧ I i ρ') ⟨o1, ρ, ok.go g1, h0⟩ ?_ ?_
    · rintro i σ2 H2 hi ⟨o2, ρ2, ok2, i2⟩
      have ez : (0 : Int) + (i : Int) = (i : Int) := Int.zero_add _
      show ts _ (σ2.set j (some (.int ((0 : Int) + (i : Int))))) H2
      rw [ez]
      exact hs i ρ2 (by omega) i2 o2 _ H2 _ (ok2.setD j (x := .dat (.int (i : Int))) (Dd.int _) trivial) (fun o' σ' H' ρ' a b => ⟨o', ρ', a, b⟩) kr (fun o' σ' H' ρ' a b => kn o' σ' H' ρ' a b) (fun o' σ' H' ρ' a b => ⟨o', ρ', a, b⟩)
    · rintro σ2 H2 ⟨o2, ρ2, ok2, i2⟩
      exact kn o2 σ2 H2 ρ2 ok2 (hd ρ2 i2)
end
end DL

/-! Defs over data, and the operations that a text needs. -/
namespace DL
open PySem PySem.Spec PyProof.Rows L2

/-! ### defs -/
/-- what a def does with data: given these, what its answer satisfies -/
abbrev Gs := List Sl → (PyData → Prop) → Prop
def spG (K : PySem.W.Frag) (G : Gs) : Sp := fun vs H Q _ => ∃ (bg : Option Addr) (o : Addr → Prop) (xs : List Sl) (P : PyData → Prop),
  (∀ a, o a → H a ≠ none) ∧ (∀ b, bg = some b → BagAt K H o b) ∧ VRs ⟨K, H, o, bg⟩ o H vs xs ∧ G xs P ∧
  ∀ o' H' v d, Bas ⟨K, H, o, bg⟩ o' H' → Dd K (hid H' o') v d → P d → Q v H'

theorem VRs.len {w : Wd} {o : Addr → Prop} {H : Hp} : ∀ {vs : List V} {xs : List Sl}, VRs w o H vs xs → vs.length = xs.length
  | _, _, .nil => rfl
  | _, _, .cons _ t => by rw [List.length_cons, List.length_cons, VRs.len t]
theorem VRs.get {w : Wd} {o : Addr → Prop} {H : Hp} : ∀ {vs : List V} {xs : List Sl} {i : Nat} {x : Sl}, VRs w o H vs xs → xs[i]? = some x → ∃ v, vs[i]? = some v ∧ VR w o H v x
  | _, _, _, _, .nil, e => by cases e
  | v :: _, _, 0, _, .cons r _, e => by cases e; exact ⟨v, rfl, r⟩
  | _ :: vs, _ :: xs, i + 1, x, .cons _ t, e => VRs.get (vs := vs) (xs := xs) (i := i) t (by simpa using e)

theorem ok_start {K : PySem.W.Frag} {H : Hp} {o : Addr → Prop} {bg : Option Addr} {N : List Str} {vs : List V} {xs : List Sl} {m : Nat}
    (h1 : ∀ a, o a → H a ≠ none) (h2 : ∀ b, bg = some b → BagAt K H o b) (h3 : VRs ⟨K, H, o, bg⟩ o H vs xs) (hm : m = N.length - vs.length) :
    Ok ⟨K, H, o, bg⟩ o (L2.start N vs) H (xs ++ List.replicate m .no) := by
  have hl := h3.len
  refine ⟨⟨Same.refl _, fun _ h => h, fun _ _ _ => rfl, fun b e => ⟨(h2 b e).1, h2 b e⟩, h1⟩, ?_, fun i x e => ?_, fun i j p q ys zs ne e1 e2 => ?_⟩
  · unfold L2.start
    rw [List.length_append, List.length_append, List.length_map, List.length_replicate, List.length_replicate, hl, hm]
    omega
  · by_cases hi : i < xs.length
    · rw [List.getElem?_append_left hi] at e
      obtain ⟨v, hv, r⟩ := h3.get e
      refine .inr ⟨v, ?_, r⟩
      unfold L2.start
      rw [List.getElem?_append_left (by rw [List.length_map]; omega), List.getElem?_map, hv]
      rfl
    · rw [List.getElem?_append_right (by omega), List.getElem?_replicate] at e
      split at e
      · cases e
        exact .inl rfl
      · cases e
  · have no : ∀ (k : Nat) (a : Addr) (us : List PyData), (xs ++ List.replicate m Sl.no)[k]? = some (.own a us) → False := by
      intro k a us f
      by_cases hk : k < xs.length
      · rw [List.getElem?_append_left hk] at f
        obtain ⟨v, hv, r⟩ := h3.get f
        obtain ⟨_, h4, h5, _⟩ := r
        exact h5 h4
      · rw [List.getElem?_append_right (by omega), List.getElem?_replicate] at f
        split at f
        · cases f
        · cases f
    exact (no i p ys e1).elim

section
variable {P : Program} {w : World} {K : PySem.W.Frag} {mg : Str → Option Value} {bs : Heap}
/-- a def by its body's term, told over data -/
theorem fnD {n : Nat} {x q : Str} {st : Stmt} {f : Addr} {fd : FuncData} {N ps : List Str} {G : Gs}
    (F : Fun K x q st f fd) (Sc : FnScope N ps (defScope st)) (len : ∀ xs R, G xs R → xs.length = ps.length)
    (body : ∀ (cd : Value) (A : Around) (out : List Env) (s : Shared) (H : Hp) (E : XK), A.guards = some [] →
      Room n (A.deeper (envOfC q (defScope st) s.heap.objs.size f cd)) →
      ∃ t, PSs (cxOf CX0 P w K mg bs N q (defScope st) f cd A out s H E).nox (defBody st) t ∧
        ∀ (H0 : Hp) (own0 : Addr → Prop) (bg : Option Addr) (xs : List Sl) (R : PyData → Prop), G xs R →
          S ⟨K, H0, own0, bg⟩ t (xs ++ List.replicate (N.length - ps.length) .no) { nx := fun _ => R .none, rt := R }) :
    FnG P w K mg bs (n + 1) f fd ps (spG K G) := by
  refine fnG F Sc (fun vs H Q E h => ?_) fun cd A out s H vs Q E hg hr h => ?_
  · obtain ⟨bg, o, xs, R, h1, h2, h3, h4, h5⟩ := h
    rw [h3.len]
    exact len xs R h4
  · obtain ⟨bg, o, xs, R, h1, h2, h3, h4, h5⟩ := h
    obtain ⟨t, ht, hb⟩ := body cd A out s H E hg hr
    refine ⟨t, ht, ?_⟩
    have hl : vs.length = ps.length := by
      rw [h3.len]
      exact len xs R h4
    refine hb H o bg xs R h4 o (L2.start N vs) H _ (ok_start h1 h2 h3 (by rw [hl])) ?_ ?_ ?_ ?_
    · intro o' σ' H' ρ' ok' r
      exact h5 o' H' .non .none ok'.toBas Dd.non r
    · intro o' H' v d b' r q
      exact h5 o' H' v d b' r q
    · intro o' σ' H' ρ' ok' r
      exact r.elim
    · intro o' σ' H' ρ' ok' r
      exact r.elim
end

def plainS : Sl → Bool
  | .own _ _ => false
  | _ => true
section
variable {w : Wd} {ρ : List Sl} {P : Sl → Prop} {te ta tb tc : TE} {tt tu : TT} {tr : TA} {ts t1 t2 : TS} {e : En} {d : PyData}
theorem VRs.plain {o : Addr → Prop} {H : Hp} {H0 : Hp} {o0 : Addr → Prop} : ∀ {vs : List V} {xs : List Sl}, xs.all plainS = true → VRs w o H vs xs → VRs ⟨w.K, H0, o0, w.bg⟩ o H vs xs
  | _, _, _, .nil => .nil
  | v :: vs, x :: xs, h, .cons r t => by
    have h2 : plainS x = true ∧ xs.all plainS = true := by simpa [List.all_cons] using h
    refine .cons ?_ (VRs.plain h2.2 t)
    cases x with
    | no => trivial
    | dat d => exact r
    | bag => exact r
    | own p xs => exact absurd h2.1 (by simp [plainS])
/-- a def is called -/
theorem e_call {G : Gs} {K : PySem.W.Frag} (hK : w.K = K) (h : A w tr ρ fun xs => xs.all plainS = true ∧ G xs fun d => P (.dat d)) : E w (tCall (spG K G) [] E0 tr) ρ P := by
  subst hK
  intro o σ H Q ok k
  refine h o σ H _ ok ?_
  intro o1 H1 vs xs g1 r1 ⟨hp, q⟩
  have b1 := ok.toBas.go g1
  show spG w.K G (vs ++ []) H1 Q E0
  rw [List.append_nil]
  refine ⟨w.bg, o1, xs, fun d => P (.dat d), b1.here, fun b e => (b1.bag b e).2, r1.plain hp, q, ?_⟩
  intro o' H' v d b' r p
  refine k o' H' v (.dat d) (g1.trans ⟨b'.grow, b'.sub, b'.keep, fun b e => (b'.bag b e).2, b'.here⟩) r p

/-! ### calls of built-ins -/
theorem cl_len : Cl w (fun xs H Q => ∃ x n, xs = [x] ∧ LenV w.K x H n ∧ Q (.int n) H) (fun xs P => ∃ x n, xs = [x] ∧
    (match x with
      | .dat (.list ds) => some ds.length
      | .dat (.tuple ds) => some ds.length
      | .dat (.str z) => if z.length ≤ sizeLine then some z.length else none
      | .own _ ds => some ds.length
      | _ => none) = some n ∧ P (.dat (.int (n : Nat)))) := by
  rintro o H vs xs P Q b r ⟨x, n, rfl, hn, q⟩ k
  cases r with
  | cons r t =>
    cases t
    cases x with
    | no => cases hn
    | bag => cases hn
    | own p ds =>
      obtain ⟨rfl, hp, n0, us, hv, ha⟩ := r
      cases hn
      refine ⟨_, _, rfl, .inl ⟨us, .inl (.inl hv), (DdAll.len ha).symm⟩, k o H _ _ b.refl (VR.dat (Dd.int _)) q⟩
    | dat c =>
      cases c with
      | list ds =>
        cases hn
        cases r with
        | lst hs ha => exact ⟨_, _, rfl, .inl ⟨_, hid_le.seq hs, (DdAll.len ha).symm⟩, k o H _ _ b.refl (VR.dat (Dd.int _)) q⟩
      | tuple ds =>
        cases hn
        cases r with
        | tup hs ha => exact ⟨_, _, rfl, .inr ⟨_, sqT_mono hid_le hs, (DdAll.len ha).symm⟩, k o H _ _ b.refl (VR.dat (Dd.int _)) q⟩
      | str z =>
        have hn : (if z.length ≤ sizeLine then some z.length else none) = some n := hn
        by_cases hl : z.length ≤ sizeLine
        · rw [if_pos hl] at hn
          cases hn
          cases r
          exact ⟨_, _, rfl, ⟨hl, rfl⟩, k o H _ _ b.refl (VR.dat (Dd.int _)) q⟩
        · rw [if_neg hl] at hn
          cases hn
      | none => cases hn
      | bool _ => cases hn
      | int _ => cases hn
      | dict _ => cases hn
theorem cl_abs : Cl w (fun xs H Q => ∃ i, xs = [.int i] ∧ Q (.int (if i < 0 then -i else i)) H) (fun xs P => ∃ i, xs = [.dat (.int i)] ∧ P (.dat (.int (if i < 0 then -i else i)))) := by
  rintro o H vs xs P Q b r ⟨i, rfl, q⟩ k
  cases r with
  | cons r t =>
    cases t
    cases r
    exact ⟨i, rfl, k o H _ _ b.refl (VR.dat (Dd.int _)) q⟩
theorem cl_int1 : Cl w (fun xs H Q => (∃ i, xs = [.int i] ∧ Q (.int i) H) ∨ ∃ k, xs = [.bl k] ∧ Q (.int (if k = true then 1 else 0)) H) (fun xs P => ∃ i, xs = [.dat (.int i)] ∧ P (.dat (.int i))) := by
  rintro o H vs xs P Q b r ⟨i, rfl, q⟩ k
  cases r with
  | cons r t =>
    cases t
    cases r
    exact .inl ⟨i, rfl, k o H _ _ b.refl (VR.dat (Dd.int _)) q⟩
theorem cl_max2 : Cl w (fun xs H Q => ∃ i j, xs = [.int i, .int j] ∧ Q (.int (if j > i then j else i)) H) (fun xs P => ∃ i j, xs = [.dat (.int i), .dat (.int j)] ∧ P (.dat (.int (if j > i then j else i)))) := by
  rintro o H vs xs P Q b r ⟨i, j, rfl, q⟩ k
  cases r with
  | cons r t =>
    cases t with
    | cons r2 t =>
      cases t
      cases r
      cases r2
      exact ⟨i, j, rfl, k o H _ _ b.refl (VR.dat (Dd.int _)) q⟩
theorem cl_strI : Cl w (fun xs H Q => ∃ i, xs = [.int i] ∧ i.natAbs.log2 < 1920 ∧ Q (.str (toString i)) H) (fun xs P => ∃ i : Int, xs = [.dat (.int i)] ∧ i.natAbs.log2 < 1920 ∧ P (.dat (.str (Str.ofString (toString i))))) := by
  rintro o H vs xs P Q b r ⟨i, rfl, hl, q⟩ k
  cases r with
  | cons r t =>
    cases t
    cases r
    exact ⟨i, rfl, hl, k o H _ _ b.refl (VR.dat (Dd.str _)) q⟩
theorem cl_gcd : Cl w rGcd (fun xs P => ∃ a b : Int, xs = [.dat (.int a), .dat (.int b)] ∧ P (.dat (.int ((Nat.gcd a.natAbs b.natAbs : Nat) : Int)))) := by
  rintro o H vs xs P Q b r ⟨i, j, rfl, q⟩ k
  cases r with
  | cons r t =>
    cases t with
    | cons r2 t =>
      cases t
      cases r
      cases r2
      exact ⟨i, j, rfl, k o H _ _ b.refl (VR.dat (Dd.int _)) q⟩
theorem cl_divmod : Cl w (fun xs H Q => ∃ i j, xs = [.int i, .int j] ∧ CDivP i j ∧ ∀ p, H p = none → Q (.ref p) (upd H p (.tup [.int (i / j), .int (i % j)])))
    (fun xs P => ∃ i j : Int, xs = [.dat (.int i), .dat (.int j)] ∧ CDivP i j ∧ P (.dat (.tuple [.int (i / j), .int (i % j)]))) := by
  rintro o H vs xs P Q b r ⟨i, j, rfl, hc, q⟩ k
  cases r with
  | cons r t =>
    cases t with
    | cons r2 t =>
      cases t
      cases r
      cases r2
      refine ⟨i, j, rfl, hc, fun p np => ?_⟩
      exact k o _ _ _ (b.new np) (VR.dat (Dd.tup (.inl (.inl (b.seen np))) (.cons (.int _) (.cons (.int _) .nil)))) q
theorem cl_repr : Cl w (rRepr w.K) (fun xs P => ∃ d, xs = [.dat d] ∧ okInts d = true ∧ d.shown.length ≤ sizeLine ∧ d.depth ≤ 60 ∧ P (.dat (.str d.shown))) := by
  rintro o H vs xs P Q b r ⟨d, rfl, h1, h2, h3, q⟩ k
  cases r with
  | cons r t =>
    cases t
    exact ⟨_, d, rfl, dp_mono hid_le d _ r, h1, h2, h3, k o H _ _ b.refl (VR.dat (Dd.str _)) q⟩

/-! ### methods of texts, slices -/
theorem e_bmS {r : V → List V → Hp → VK → Prop} {R : Str → List Sl → (Sl → Prop) → Prop}
    (hr : ∀ (o : Addr → Prop) (H : Hp) (z : Str) (vs : List V) (xs : List Sl) (P : Sl → Prop) (Q : VK), Bas w o H → VRs w o H vs xs → R z xs P → (∀ o' H' z d, Go w o H o' H' → VR w o' H' z d → P d → Q z H') → r (.str z) vs H Q)
    (h : E w te ρ fun x => ∃ z, x = .dat (.str z) ∧ A w tr ρ fun xs => R z xs P) : E w (tBM w.K "str" r te tr) ρ P := by
  intro o σ H Q ok k
  refine h o σ H _ ok ?_
  rintro o1 H1 v x g1 r1 ⟨z, rfl, q⟩
  cases r1
  refine ⟨rfl, ?_⟩
  refine q o1 σ H1 _ (ok.go g1) ?_
  intro o2 H2 vs xs g2 r2 q2
  exact hr o2 H2 z vs xs P Q (ok.toBas.go (g1.trans g2)) r2 q2 fun o' H' z d g r p => k o' H' z d ((g1.trans g2).trans g) r p
theorem e_zfill (h : E w te ρ fun x => ∃ z, x = .dat (.str z) ∧ A w tr ρ fun xs => ∃ i, xs = [.dat (.int i)] ∧ PadOk i = true ∧ P (.dat (.str (Txt.zfill z i)))) :
    E w (tBM w.K "str" (fun x xs H Q => ∃ (a : Str) (i : Int), x = .str a ∧ xs = [.int i] ∧ PadOk i = true ∧ Q (.str (Txt.zfill a i)) H) te tr) ρ P := by
  refine e_bmS (R := fun z xs P => ∃ i, xs = [.dat (.int i)] ∧ PadOk i = true ∧ P (.dat (.str (Txt.zfill z i)))) ?_ h
  rintro o H z vs xs P Q b r ⟨i, rfl, hp, q⟩ k
  cases r with
  | cons r t =>
    cases t
    cases r
    exact ⟨z, i, rfl, rfl, hp, k o H _ _ b.refl (VR.dat (Dd.str _)) q⟩
theorem e_join {ti : TE} (h : E w te ρ fun x => ∃ a : Str, x = .dat (.str a) ∧ E w ti ρ fun y => ∃ ys : List Str, (y = .dat (.list (ys.map PyData.str)) ∨ y = .dat (.tuple (ys.map PyData.str))) ∧
      (ys.map (·.length)).sum + ys.length * a.length ≤ 16777216 ∧ P (.dat (.str (Txt.join a ys)))) :
    E w (tM1 (fun x xs H Q => ∃ a p, ∃ ys : List Str, x = .str a ∧ xs = [.ref p] ∧ (SqL w.K H p (ys.map V.str) ∨ SqT w.K H p (ys.map V.str)) ∧
      (ys.map (·.length)).sum + ys.length * a.length ≤ 16777216 ∧ Q (.str (Txt.join a ys)) H) te ti) ρ P := by
  intro o σ H Q ok k
  refine h o σ H _ ok ?_
  rintro o1 H1 v x g1 r1 ⟨a, rfl, q⟩
  cases r1
  refine ⟨⟨a, rfl⟩, ?_⟩
  refine q o1 σ H1 _ (ok.go g1) ?_
  rintro o2 H2 u y g2 r2 ⟨ys, hy, hl, q2⟩
  have fin : Q (.str (Txt.join a ys)) H2 := k o2 H2 _ _ (g1.trans g2) (VR.dat (Dd.str _)) q2
  rcases hy with rfl | rfl
  · cases r2 with
    | lst hs ha =>
      have e := DdAll.strs ha
      rw [e] at hs
      exact ⟨a, _, ys, rfl, rfl, .inl (hid_le.seq hs), hl, fin⟩
  · cases r2 with
    | tup hs ha =>
      have e := DdAll.strs ha
      rw [e] at hs
      exact ⟨a, _, ys, rfl, rfl, .inr (sqT_mono hid_le hs), hl, fin⟩
theorem e_revL (h : E w te ρ fun x => ∃ ds, (x = .dat (.list ds) ∨ ∃ p, x = .own p ds) ∧ P (.dat (.list ds.reverse))) : E w (tRevL w.K te) ρ P := by
  intro o σ H Q ok k
  refine h o σ H _ ok ?_
  rintro o1 H1 v x g1 r1 ⟨ds, hx, q⟩
  have b1 := ok.toBas.go g1
  have fin : ∀ vs, DdAll w.K (hid H1 o1) vs ds → ∀ p, H1 p = none → Q (.ref p) (upd H1 p (.lst vs.reverse)) := fun vs ha p np => by
    have g2 := b1.new (u := .lst vs.reverse) np
    exact k o1 _ _ _ (g1.trans g2) (VR.dat (Dd.lst (.inl (.inl (b1.seen np))) (dpAll_mono g2.same _ _ (DdAll.rev ha)))) q
  rcases hx with rfl | ⟨p, rfl⟩
  · cases r1 with
    | lst hs ha => exact ⟨_, _, rfl, hid_le.seq hs, fin _ ha⟩
  · obtain ⟨rfl, hp, n, vs, e1, ha⟩ := r1
    exact ⟨_, vs, rfl, .inl (.inl e1), fin vs ha⟩
/-- an end of a slice -/
def O (w : Wd) (to : TO) (ρ : List Sl) (P : Option Int → Prop) : Prop := ∀ (o : Addr → Prop) (σ : L2.St) (H : Hp) (Q : Option Int → Hp → Prop), Ok w o σ H ρ →
  (∀ o' H' x, Go w o H o' H' → P x → Q x H') → to σ H Q
theorem o_none {P : Option Int → Prop} (q : P none) : O w tNoPart ρ P := fun o σ H Q ok k => k o H none ok.toBas.refl q
theorem o_some {P : Option Int → Prop} (h : E w te ρ fun x => ∃ i, x = .dat (.int i) ∧ P (some i)) : O w (tPart te) ρ P := by
  intro o σ H Q ok k
  refine h o σ H _ ok ?_
  rintro o1 H1 v x g1 r1 ⟨i, rfl, q⟩
  cases r1
  exact ⟨i, rfl, k o1 H1 _ g1 q⟩
theorem e_slS {tl th : TO} (h : E w te ρ fun x => ∃ z, x = .dat (.str z) ∧ z.length ≤ sizeLine ∧ O w tl ρ fun lo => O w th ρ fun hi => P (.dat (.str (cutS z lo hi)))) : E w (tSl rSlS te tl th) ρ P := by
  intro o σ H Q ok k
  refine h o σ H _ ok ?_
  rintro o1 H1 v x g1 r1 ⟨z, rfl, hz, q⟩
  cases r1
  refine q o1 σ H1 _ (ok.go g1) ?_
  intro o2 H2 lo g2 q2
  refine q2 o2 σ H2 _ (ok.go (g1.trans g2)) ?_
  intro o3 H3 hi g3 q3
  exact ⟨z, rfl, hz, k o3 H3 _ _ ((g1.trans g2).trans g3) (VR.dat (Dd.str _)) q3⟩
/-- x, y, z = a, b, c -/
theorem s_par3 {i j l : Nat} (h : A w tr ρ fun xs => ∃ x y z, xs = [x, y, z] ∧ notOwn x ∧ notOwn y ∧ notOwn z ∧ e.nx (((ρ.set i x).set j y).set l z)) : S w (tPar3 i j l tr) ρ e := by
  intro o σ H D ok kn kr kb kc
  refine h o σ H _ ok ?_
  rintro o1 H1 vs xs g1 r1 ⟨x, y, z, rfl, n1, n2, n3, q⟩
  cases r1 with
  | cons ra rt =>
    cases rt with
    | cons rb rt =>
      cases rt with
      | cons rc rt =>
        cases rt
        exact ⟨_, _, _, rfl, kn o1 _ H1 _ ((((ok.go g1).setD i ra n1).setD j rb n2).setD l rc n3) q⟩
end

/-! ### operations of any size -/
section
variable {X : Cx}
def CFd (i j : Int) : Prop := j ≠ 0 ∧ Builtin.divisionGoesByPylong i j = false
theorem op_fdivA : OpR X (binaryOp .FloorDiv) (rI CFd fun i j => .int (i.fdiv j)) := opI fun i j _ _ _ _ _ hc q =>
  floordiv_int hc.1 q (.inl hc.2)
def rMulS : R2 := fun x y H Q => ∃ (z : Str) (n : Int), x = .str z ∧ y = .int n ∧ MulOk z n ∧ Q (.str (Txt.mul z n)) H
theorem op_mulS : OpR X (binaryOp .Mult) rMulS := by
  intro pins s σ H x y v u Q I rx ry h
  obtain ⟨z, n, rfl, rfl, hc, q⟩ := h
  obtain ⟨t, rfl⟩ := rx
  obtain ⟨t', rfl⟩ := ry
  exact PySem.SB.mul hc fun t2 k => ⟨.str _, H, I.tok k, ⟨t2, rfl⟩, q⟩
abbrev rAddG : R2 := orR (rI0 fun i j => .int (i + j)) rAddS2
theorem op_addG : OpR X (binaryOp .Add) rAddG := opr_or op_add op_add_str
def CMulB (i j : Int) : Prop := CMulX i j ∨ CMul i j
theorem op_mulB : OpR X (binaryOp .Mult) (rI CMulB fun i j => .int (i * j)) := opI fun _ _ _ _ _ _ _ hc q =>
  hc.elim (fun h => mul_int q h.ok) fun h => mul_int q h.ok
abbrev rMulG : R2 := orR (rI CMulB fun i j => .int (i * j)) rMulS
theorem op_mulG : OpR X (binaryOp .Mult) rMulG := opr_or op_mulB op_mulS
end
section
variable {w : Wd}
theorem op2_mulS : Op2 w rMulS (fun x y P => ∃ (z : Str) (n : Int), x = .dat (.str z) ∧ y = .dat (.int n) ∧ MulOk z n ∧ P (.dat (.str (Txt.mul z n)))) := by
  rintro o H u v x y P Q b ru rv ⟨i, j, rfl, rfl, c, q⟩ k
  cases ru
  cases rv
  exact ⟨i, j, rfl, rfl, c, k o H _ _ b.refl (VR.dat (Dd.str _)) q⟩
end
end DL

/-! Data that == and repr take: how long its text is at most, how deep it is. -/
namespace DL
open PySem PySem.Spec PyProof.Rows L2
structure Fine (m k : Nat) (d : PyData) : Prop where
  num : okInts d = true
  lay : d.canLay0 = true
  len : d.shown.length ≤ m
  deep : d.depth ≤ k
structure Fines (m k : Nat) (ds : List PyData) : Prop where
  num : okAll ds = true
  lay : PyData.canLayAll0 ds = true
  len : ((PyData.shownAll ds).map fun t => t.length + 2).sum ≤ m
  deep : PyData.depthAll ds ≤ k
theorem text_le : ∀ (ts : List Str) (j : Nat) (acc : Str), (textFrom j acc ts).length ≤ acc.length + (ts.map fun t => t.length + 2).sum
  | [], j, acc => by
    show acc.length ≤ _
    omega
  | t :: r, j, acc => by
    have ih := text_le r (j + 1) (acc ++ (if j > 0 then ", " else "" : String) ++ t)
    show (textFrom (j + 1) (acc ++ (if j > 0 then ", " else "" : String) ++ t) r).length ≤ _
    rw [List.map_cons, List.sum_cons]
    have e : (acc ++ (if j > 0 then ", " else "" : String) ++ t : Str).length ≤ acc.length + 2 + t.length := by
      rw [strLen_append, strLen_append]
      have : ((if j > 0 then ", " else "" : String) : Str).length ≤ 2 := by
        split <;> decide +kernel
      omega
    omega
theorem list_le (ts : List Str) : (listText ts).length ≤ 2 + (ts.map fun t => t.length + 2).sum := by
  unfold listText
  rw [strLen_append]
  have h := text_le ts 0 "["
  have e1 : ("[" : Str).length = 1 := by decide +kernel
  have e2 : ("]" : Str).length = 1 := by decide +kernel
  omega
theorem join_le : ∀ ts : List Str, (Str.join ", " ts).length ≤ (ts.map fun t => t.length + 2).sum
  | [] => by
    show (Str.empty).length ≤ _
    exact Nat.zero_le _
  | [t] => by
    show t.length ≤ t.length + 2 + 0
    omega
  | t :: u :: r => by
    have ih := join_le (u :: r)
    show (t ++ ", " ++ Str.join ", " (u :: r) : Str).length ≤ _
    rw [strLen_append, strLen_append, List.map_cons, List.sum_cons]
    have e1 : (", " : Str).length = 2 := by decide +kernel
    omega
theorem tuple_le (ts : List Str) : (tupleText ts).length ≤ 3 + (ts.map fun t => t.length + 2).sum := by
  unfold tupleText
  rw [strLen_append, strLen_append]
  have h := join_le ts
  have e1 : ("(" : Str).length = 1 := by decide +kernel
  have e2 : ((if ts.length == 1 then ",)" else ")" : String) : Str).length ≤ 2 := by
    split <;> decide +kernel
  omega
theorem fine_int {i : Int} (h : i.natAbs < 2 ^ 12900) : Fine 4302 0 (.int i) := by
  have lt : i.natAbs < 10 ^ 4300 := Nat.lt_of_lt_of_le h (by
    have e : 2 ^ 12900 = (2 ^ 3) ^ 4300 := by rw [← Nat.pow_mul]
    rw [e]
    exact Nat.pow_le_pow_left (by decide) 4300)
  refine ⟨by simp [okInts, lt], rfl, ?_, Nat.le_refl _⟩
  show (Str.ofString (toString i)).length ≤ _
  rw [PySem.ofString_length]
  have := int_text_length_le10 (k := 4300) (by decide) lt
  omega
theorem fine_bool (b : Bool) : Fine 5 0 (.bool b) := by
  cases b <;> exact ⟨rfl, rfl, by decide +kernel, Nat.le_refl _⟩
theorem fine_none : Fine 4 0 .none := ⟨rfl, rfl, by decide +kernel, Nat.le_refl _⟩
theorem fine_nil : Fines 0 0 [] := ⟨rfl, rfl, Nat.le_refl _, Nat.le_refl _⟩
theorem fine_cons {m n k l : Nat} {d : PyData} {ds : List PyData} (h : Fine m k d) (t : Fines n l ds) : Fines (m + 2 + n) (max k l) (d :: ds) := by
  refine ⟨by simp [okAll, h.num, t.num], by simp [PyData.canLayAll0, h.lay, t.lay], ?_, ?_⟩
  · simp only [PyData.shownAll, List.map_cons, List.sum_cons]
    have := h.len
    have := t.len
    omega
  · simp only [PyData.depthAll]
    have := h.deep
    have := t.deep
    omega
theorem fine_list {m k : Nat} {ds : List PyData} (t : Fines m k ds) : Fine (m + 2) (k + 1) (.list ds) := by
  refine ⟨by simp [okInts, t.num], by simp [PyData.canLay0, t.lay], ?_, ?_⟩
  · simp only [PyData.shown]
    have := list_le (PyData.shownAll ds)
    have := t.len
    omega
  · simp only [PyData.depth]
    have := t.deep
    omega
theorem fine_tuple {m k : Nat} {ds : List PyData} (t : Fines m k ds) : Fine (m + 3) (k + 1) (.tuple ds) := by
  refine ⟨by simp [okInts, t.num], by simp [PyData.canLay0, t.lay], ?_, ?_⟩
  · simp only [PyData.shown]
    have := tuple_le (PyData.shownAll ds)
    have := t.len
    omega
  · simp only [PyData.depth]
    have := t.deep
    omega
theorem fine_str {z : Str} {n : Nat} (h : ∀ c ∈ z.cps.toList, c < 256) (hn : z.length ≤ n) : Fine (10 * n + 2) 0 (.str z) := by
  have ho : z.cps.all (· < 0x110000) = true := by
    rw [Array.all_eq_true']
    intro c hc
    have := h c (Array.mem_toList_iff.mpr hc)
    exact decide_eq_true (by omega)
  refine ⟨rfl, ho, ?_, Nat.le_refl _⟩
  show (reprText z).length ≤ _
  have := StrLaws.reprText_len z fun c hc => Nat.lt_trans (h c hc) (by decide)
  omega
theorem Fine.mono {m k m' k' : Nat} {d : PyData} (h : Fine m k d) (hm : m ≤ m') (hk : k ≤ k') : Fine m' k' d := ⟨h.num, h.lay, Nat.le_trans h.len hm, Nat.le_trans h.deep hk⟩
/-- what alike asks of the data that it is given twice -/
theorem Fine.shaped {m k : Nat} {d : PyData} (h : Fine m k d) (hk : k ≤ 60) : SeqAt.shaped d = true := by
  unfold SeqAt.shaped
  rw [h.lay, decide_eq_true (show d.depth ≤ 64 by have := h.deep; omega)]
  rfl
end DL

/-! The bag, lists put together and cut, comprehensions, loops over lists. -/
namespace DL
open PySem PySem.Spec PyProof.Rows L2

section
variable {X : Cx}
/-- an item of a list from its start on, read ahead of its change -/
def gL (K : PySem.W.Frag) : V → V → Hp → VK → Prop := fun o i H Q => ∃ p xs k v, o = .ref p ∧ i = .int k ∧ SqL K H p xs ∧ 0 ≤ k ∧ k < 2 ^ 63 ∧ xs[k.toNat]? = some v ∧ Q v H
theorem get_list : PGet X (gL X.K) := by
  intro pins s σ H o i ov iv Q I ro ri h
  obtain ⟨p, xs, k, v, rfl, rfl, hx, h0, h1, hv, q⟩ := h
  cases ro
  obtain ⟨t, rfl⟩ := ri
  obtain ⟨its, r, pl, hz⟩ := I.list hx
  obtain ⟨u, hu, ru⟩ := r.get hv
  exact wpAny_getItem_list pl.isList h0 h1 (by simpa using hu) ⟨v, H, I, ru, q⟩
/-- list + list -/
def rCatL (K : PySem.W.Frag) : R2 := fun x y H Q => ∃ a b xs ys, x = .ref a ∧ y = .ref b ∧ SqL K H a xs ∧ SqL K H b ys ∧ xs.length + ys.length ≤ sizeLine ∧ ∀ p, H p = none → Q (.ref p) (upd H p (.lst (xs ++ ys)))
theorem op_catL : OpR X (binaryOp .Add) (rCatL X.K) := by
  intro pins s σ H x y v u Q I rx ry h
  obtain ⟨a, b, xs, ys, rfl, rfl, ha, hb, hz, q⟩ := h
  cases rx
  cases ry
  obtain ⟨i1, r1, p1, z1⟩ := I.list ha
  obtain ⟨i2, r2, p2, z2⟩ := I.list hb
  obtain ⟨⟨c1, d1, da1, sl1⟩, e1, hc1, n1, hd1⟩ := p1.isList
  obtain ⟨⟨c2, d2, da2, sl2⟩, e2, hc2, n2, hd2⟩ := p2.isList
  simp only at hc1 hd1 hc2 hd2
  subst hc1 hd1 hc2 hd2
  have ea : i1.toArray ++ i2.toArray = (i1 ++ i2).toArray := by simp
  have l1 := r1.length
  have l2 := r2.length
  refine concat_meets ⟨_, e1, rfl⟩ ⟨_, e2, rfl⟩ noFill_list_add seq_list_add PySem.F.slot_list_add PySem.F.entry_list_add (PySem.F.args_list_add_2 _ _)
    (list_addW a b i1.toArray i2.toArray n1 n2 d1 d2 sl1 sl2 (by rw [List.size_toArray, List.size_toArray]; omega)) ⟨e1, e2, ?_⟩
  rw [ea]
  exact ⟨.ref _, _, I.lnew (t' := s.toks) (r1.append r2) (by rw [List.length_append]; omega), rfl, q _ I.fresh⟩
/-- texts are equal, or data are -/
def rEqSt : R2 := fun x y H Q => ∃ i j : Str, x = .str i ∧ y = .str j ∧ Q (.bl (decide (i = j))) H
theorem op_eqSt : OpR X (compareOp .Eq) rEqSt := by
  intro pins s σ H x y u v Q I rx ry h
  obtain ⟨i, j, rfl, rfl, q⟩ := h
  refine op_eq pins s σ H _ _ u v Q I rx ry ⟨rfl, ?_⟩
  have e : decide (V.str i = V.str j) = decide (i = j) := by
    by_cases h : i = j
    · rw [h]
      simp
    · rw [decide_eq_false h, decide_eq_false fun z => h (by injection z)]
  rw [e]
  exact q
theorem op_eqG (hu : X.A.units + 64 < cLine) : OpR X (compareOp .Eq) (orR rEqSt (rEqE X.K)) := opr_or op_eqSt (op_eqE hu)
end

section
variable {w : Wd} {ρ : List Sl} {P : Sl → Prop} {te ta tb tc tl : TE} {tt tu : TT} {tr : TA} {ts t1 t2 : TS} {e : En} {d : PyData}
theorem op2_eqSt : Op2 w rEqSt (fun x y P => ∃ i j : Str, x = .dat (.str i) ∧ y = .dat (.str j) ∧ P (.dat (.bool (decide (i = j))))) := by
  rintro o H u v x y P Q b ru rv ⟨i, j, rfl, rfl, q⟩ k
  cases ru
  cases rv
  exact ⟨i, j, rfl, rfl, k o H _ _ b.refl (VR.dat (Dd.bl _)) q⟩
/-- the items of a list that is data, or the def's own -/
def lstD : Sl → Option (List PyData)
  | .dat (.list ds) => some ds
  | .own _ ds => some ds
  | _ => none
theorem VR.lst {o : Addr → Prop} {H : Hp} {v : V} {x : Sl} {ds : List PyData} (r : VR w o H v x) (h : lstD x = some ds) : ∃ a vs, v = .ref a ∧ SqL w.K H a vs ∧ DdAll w.K (hid H o) vs ds := by
  cases x with
  | no => cases h
  | bag => cases h
  | own p xs =>
    cases h
    obtain ⟨rfl, hp, n, vs, e1, ha⟩ := r
    exact ⟨p, vs, rfl, .inl (.inl e1), ha⟩
  | dat c =>
    cases c with
    | list xs =>
      cases h
      cases r with
      | lst hs ha => exact ⟨_, _, rfl, hid_le.seq hs, ha⟩
    | none => cases h
    | bool _ => cases h
    | int _ => cases h
    | str _ => cases h
    | tuple _ => cases h
    | dict _ => cases h
theorem VR.lstGo {o : Addr → Prop} {H : Hp} {v : V} {x : Sl} {ds : List PyData} (b : Bas w o H) (r : VR w o H v x) (h : lstD x = some ds) :
    ∃ a vs, v = .ref a ∧ DdAll w.K (hid H o) vs ds ∧ ∀ o1 H1, Go w o H o1 H1 → SqL w.K H1 a vs ∧ DdAll w.K (hid H1 o1) vs ds := by
  cases x with
  | no => cases h
  | bag => cases h
  | own p xs =>
    cases h
    obtain ⟨rfl, hp, n, vs, e1, ha⟩ := r
    exact ⟨p, vs, rfl, ha, fun o1 H1 g => ⟨.inl (.inl ((g.keep p hp (b.nb n)).trans e1)), dpAll_mono g.same _ _ ha⟩⟩
  | dat c =>
    cases c with
    | list xs =>
      cases h
      cases r with
      | lst hs ha => exact ⟨_, _, rfl, ha, fun o1 H1 g => ⟨hid_le.seq (g.same.seq hs), dpAll_mono g.same _ _ ha⟩⟩
    | none => cases h
    | bool _ => cases h
    | int _ => cases h
    | str _ => cases h
    | tuple _ => cases h
    | dict _ => cases h
theorem op2_catL : Op2 w (rCatL w.K) (fun x y P => ∃ ds es, lstD x = some ds ∧ lstD y = some es ∧ ds.length + es.length ≤ sizeLine ∧ P (.dat (.list (ds ++ es)))) := by
  rintro o H u v x y P Q b ru rv ⟨ds, es, hx, hy, hz, q⟩ k
  obtain ⟨a, xs, rfl, s1, d1⟩ := ru.lst hx
  obtain ⟨a2, ys, rfl, s2, d2⟩ := rv.lst hy
  refine ⟨a, a2, xs, ys, rfl, rfl, s1, s2, by rw [DdAll.len d1, DdAll.len d2]; exact hz, fun p np => ?_⟩
  have g := b.new (u := .lst (xs ++ ys)) np
  exact k o _ _ _ g (VR.dat (Dd.lst (.inl (.inl (b.seen np))) (dpAll_mono g.same _ _ (DdAll.app d1 d2)))) q
def cutD (ds : List PyData) (lo hi : Option Int) : List PyData := (ds.drop (HT.sIx ds.length 0 lo)).take (HT.sIx ds.length ds.length hi - HT.sIx ds.length 0 lo)
theorem DdAll.cut {K : PySem.W.Frag} {H : Hp} {vs : List V} {ds : List PyData} (h : DdAll K H vs ds) (lo hi : Option Int) : DdAll K H (cutV vs lo hi) (cutD ds lo hi) := by
  unfold cutV cutD
  rw [DdAll.len h]
  exact DdAll.take _ (DdAll.drop _ h)
theorem e_slL {tlo thi : TO} (h : E w te ρ fun x => ∃ ds, lstD x = some ds ∧ O w tlo ρ fun lo => O w thi ρ fun hi => P (.dat (.list (cutD ds lo hi)))) : E w (tSl (rSlL w.K) te tlo thi) ρ P := by
  intro o σ H Q ok k
  refine h o σ H _ ok ?_
  rintro o1 H1 v x g1 r1 ⟨ds, hx, q⟩
  refine q o1 σ H1 _ (ok.go g1) ?_
  intro o2 H2 lo g2 q2
  refine q2 o2 σ H2 _ (ok.go (g1.trans g2)) ?_
  intro o3 H3 hi g3 q3
  have b3 := ok.toBas.go ((g1.trans g2).trans g3)
  obtain ⟨a, xs, rfl, s1, d1⟩ := (r1.go (ok.toBas.go g1) (g2.trans g3)).lst hx
  refine ⟨a, xs, rfl, s1, fun p np => ?_⟩
  have g := b3.new (u := .lst (cutV xs lo hi)) np
  exact k o3 _ _ _ (((g1.trans g2).trans g3).trans g) (VR.dat (Dd.lst (.inl (.inl (b3.seen np))) (dpAll_mono g.same _ _ (DdAll.cut d1 lo hi)))) q3

/-! ### the bag -/
theorem e_bagI {i : Nat} {c : Int} (h : ρ[i]? = some .bag) (hc : c = 0 ∨ c = 1 ∨ c = 2) (q : ∀ n : Int, P (.dat (.int n))) : E w (tOp (rIx w.K) (tVar i) (tC (.int c))) ρ P := by
  intro o σ H Q ok k
  rcases ok.slot i _ h with z | ⟨v, hv, b, hb, rfl⟩
  · cases z
  · obtain ⟨_, _, n0, n1, n2, l, ns, e1, e2, e3⟩ := ok.bag b hb
    refine ⟨_, hv, ?_⟩
    rcases hc with rfl | rfl | rfl
    · exact .inl ⟨b, _, 0, .int n0, rfl, rfl, .inl (.inl e1), rfl, k o H _ _ ok.toBas.refl (VR.dat (Dd.int _)) (q _)⟩
    · exact .inl ⟨b, _, 1, .int n1, rfl, rfl, .inl (.inl e1), rfl, k o H _ _ ok.toBas.refl (VR.dat (Dd.int _)) (q _)⟩
    · exact .inl ⟨b, _, 2, .int n2, rfl, rfl, .inl (.inl e1), rfl, k o H _ _ ok.toBas.refl (VR.dat (Dd.int _)) (q _)⟩
theorem e_bagL {i : Nat} (h : ρ[i]? = some .bag) (q : ∀ ns : List Int, ns.length ≤ 63 → P (.dat (.list (ns.map .int)))) : E w (tOp (rIx w.K) (tVar i) (tC (.int 3))) ρ P := by
  intro o σ H Q ok k
  rcases ok.slot i _ h with z | ⟨v, hv, b, hb, rfl⟩
  · cases z
  · obtain ⟨_, _, n0, n1, n2, l, ns, e1, e2, e3⟩ := ok.bag b hb
    exact ⟨_, hv, .inl ⟨b, _, 3, .ref l, rfl, rfl, .inl (.inl e1), rfl, k o H _ _ ok.toBas.refl (VR.dat (Dd.lst e2 (DdAll.ofInts ns))) (q _ e3)⟩⟩
theorem Ok.bagPut {o : Addr → Prop} {σ : L2.St} {H : Hp} {b : Addr} {c : Int} (ok : Ok w o σ H ρ) (hb : w.bg = some b) (hc : c = 0 ∨ c = 1 ∨ c = 2) (n : Int) :
    ∃ xs, H b = some (.lst xs) ∧ xs.length = 4 ∧ (∃ m, xs[c.toNat]? = some (.int m)) ∧ Go w o H o (upd H b (.lst (xs.set c.toNat (.int n)))) := by
  obtain ⟨_, ho, n0, n1, n2, l, ns, e1, e2, e3⟩ := ok.bag b hb
  have eq : ∀ u, hid (upd H b u) o = hid H o := by
    intro u
    funext a
    unfold hid
    split
    · rfl
    · rename_i na
      exact upd_ne fun z => na (z ▸ ho)
  have go : ∀ x0 x1 x2 : Int, Go w o H o (upd H b (.lst [.int x0, .int x1, .int x2, .ref l])) := by
    intro x0 x1 x2
    refine ⟨by rw [eq]; exact Same.refl _, fun _ h => h, fun a h nb => upd_ne fun z => nb (z ▸ hb), fun b2 hb2 => ?_, fun a h => ?_⟩
    · rw [hb] at hb2
      cases hb2
      exact ⟨ho, x0, x1, x2, l, ns, upd_same, by rw [eq]; exact e2, e3⟩
    · by_cases z : a = b
      · rw [z, upd_same]
        exact fun z => nomatch z
      · rw [upd_ne z]
        exact ok.here a h
  refine ⟨_, e1, rfl, ?_⟩
  rcases hc with rfl | rfl | rfl
  · exact ⟨⟨n0, rfl⟩, go n n1 n2⟩
  · exact ⟨⟨n1, rfl⟩, go n0 n n2⟩
  · exact ⟨⟨n2, rfl⟩, go n0 n1 n⟩
theorem s_bagSet {i : Nat} {c : Int} (h : ρ[i]? = some .bag) (hc : c = 0 ∨ c = 1 ∨ c = 2) (he : E w te ρ fun x => ∃ n, x = .dat (.int n) ∧ e.nx ρ) : S w (tAsg te (gSub (tVar i) (tC (.int c)) rSetL)) ρ e := by
  intro o σ H D ok kn kr kb kc
  refine he o σ H _ ok ?_
  rintro o1 H1 v x g1 r1 ⟨n, rfl, q⟩
  have ok1 := ok.go g1
  rcases ok1.slot i _ h with z | ⟨v2, hv, b, hb, rfl⟩
  · cases z
  · obtain ⟨xs, e1, el, em, g⟩ := ok1.bagPut hb hc n
    cases r1
    refine ⟨_, hv, b, xs, c, c.toNat, rfl, rfl, e1, ?_, kn o1 σ _ ρ (ok1.go g) q⟩
    rw [el]
    rcases hc with rfl | rfl | rfl <;> rfl
theorem s_bagAug {i : Nat} {c : Int} {f : Int → Int → Int} (h : ρ[i]? = some .bag) (hc : c = 0 ∨ c = 1 ∨ c = 2) (he : E w te ρ fun x => ∃ n, x = .dat (.int n) ∧ e.nx ρ) :
    S w (tAugS (tVar i) (tC (.int c)) te (gL w.K) (ipI f) rSetL) ρ e := by
  intro o σ H D ok kn kr kb kc
  rcases ok.slot i _ h with z | ⟨v2, hv, b, hb, rfl⟩
  · cases z
  · obtain ⟨xs, e1, el, ⟨m, em⟩, _⟩ := ok.bagPut hb hc 0
    refine ⟨_, hv, b, xs, c, .int m, rfl, rfl, .inl (.inl e1), by omega, by omega, em, ?_⟩
    refine he o σ H _ ok ?_
    rintro o1 H1 v x g1 r1 ⟨n, rfl, q⟩
    have ok1 := ok.go g1
    obtain ⟨xs1, e2, el2, em2, g⟩ := ok1.bagPut hb hc (f m n)
    cases r1
    refine ⟨m, n, rfl, rfl, b, xs1, c, c.toNat, rfl, rfl, e2, ?_, kn o1 σ _ ρ (ok1.go g) q⟩
    rw [el2]
    rcases hc with rfl | rfl | rfl <;> rfl

theorem cut_ints (ns : List Int) (lo hi : Option Int) : ∃ ms : List Int, cutD (ns.map PyData.int) lo hi = ms.map PyData.int ∧ ms.length ≤ ns.length := by
  refine ⟨(ns.drop (HT.sIx ns.length 0 lo)).take (HT.sIx ns.length ns.length hi - HT.sIx ns.length 0 lo), ?_, ?_⟩
  · unfold cutD
    rw [List.length_map, List.map_take, List.map_drop]
  · rw [List.length_take, List.length_drop]
    omega
theorem cut_nil (ns : List Int) (lo hi : Option Int) : (cutD (ns.map PyData.int) lo hi).length ≤ ns.length := by
  obtain ⟨ms, e, h⟩ := cut_ints ns lo hi
  rw [e, List.length_map]
  exact h
theorem cut_first (ns : List Int) (lo hi : Option Int) (z : Int) : ∃ c : Int, atI (cutD (ns.map PyData.int) lo hi ++ [PyData.int z]) 0 = some (.int c) := by
  obtain ⟨ms, e, h⟩ := cut_ints ns lo hi
  rw [e]
  cases ms with
  | nil => exact ⟨z, rfl⟩
  | cons m ms =>
    refine ⟨m, ?_⟩
    unfold atI ixN
    rw [if_pos (by decide), if_pos (by simp; omega)]
    rfl
/-! ### comprehensions -/
/-- the list that is being made -/
theorem lc_put {o : Addr → Prop} {σ : L2.St} {H : Hp} {D : Addr} {vs : List V} (ok : Ok w o σ H ρ) (hD : o D) (h0 : ¬ w.own0 D) (no : ∀ (j : Nat) (q : Addr) (zs : List PyData), ρ[j]? = some (.own q zs) → q ≠ D) :
    Ok w o σ (upd H D (.lst vs)) ρ ∧ hid (upd H D (.lst vs)) o = hid H o := by
  have eq : hid (upd H D (.lst vs)) o = hid H o := by
    funext a
    unfold hid
    split
    · rfl
    · rename_i na
      exact upd_ne fun z => na (z ▸ hD)
  have off : ∀ a, w.own0 a → a ≠ D := fun a h z => h0 (z ▸ h)
  refine ⟨⟨⟨by rw [eq]; exact ok.grow, ok.sub, fun a h nb => (upd_ne (off a h)).trans (ok.keep a h nb), fun b hb => ?_, fun a h => ?_⟩, ok.len, fun j y ej => ?_, ok.apart⟩, eq⟩
  · obtain ⟨b1, b2⟩ := ok.bag b hb
    exact ⟨b1, b2.go (by rw [eq]; exact Same.refl _) (upd_ne (off b b1)) b2.1⟩
  · by_cases z : a = D
    · rw [z, upd_same]
      exact fun z => nomatch z
    · rw [upd_ne z]
      exact ok.here a h
  · refine (ok.slot j y ej).imp id fun ⟨u, hu, r⟩ => ⟨u, hu, ?_⟩
    cases y with
    | no => trivial
    | bag => exact r
    | dat d =>
      show Dd w.K (hid (upd H D (.lst vs)) o) u d
      rw [eq]
      exact r
    | own q zs =>
      obtain ⟨e2, hq, nq, us2, e3, ha3⟩ := r
      refine ⟨e2, hq, nq, us2, (upd_ne (no j q zs ej)).trans e3, ?_⟩
      rw [eq]
      exact ha3
theorem Ok.wipe1 {o : Addr → Prop} {σ : L2.St} {H : Hp} (ok : Ok w o σ H ρ) (j : Nat) : Ok w o (σ.set j none) H (ρ.set j .no) := by
  refine ⟨ok.toBas, by rw [List.length_set, List.length_set]; exact ok.len, fun i x ei => ?_, fun i k p q xs ys ne e1 e2 => ?_⟩
  · by_cases hi : j = i
    · subst hi
      have hl : j < (ρ.set j .no).length := (List.getElem?_eq_some_iff.mp ei).1
      rw [List.length_set] at hl
      rw [List.getElem?_set_self hl] at ei
      cases ei
      exact .inl rfl
    · rw [List.getElem?_set_ne hi] at ei ⊢
      exact ok.slot i x ei
  · have back : ∀ (m : Nat) (q : Addr) (zs : List PyData), (ρ.set j Sl.no)[m]? = some (.own q zs) → ρ[m]? = some (.own q zs) := by
      intro m q zs f
      by_cases hm : j = m
      · subst hm
        have hl : j < (ρ.set j .no).length := (List.getElem?_eq_some_iff.mp f).1
        rw [List.length_set] at hl
        rw [List.getElem?_set_self hl] at f
        cases f
      · rw [List.getElem?_set_ne hm] at f
        exact f
    exact ok.apart i k p q xs ys ne (back i p xs e1) (back k q ys e2)
/-- what a turn of a comprehension must do -/
def Lc (w : Wd) (tt : TT) (te : TE) (ρ1 : List Sl) (I : Nat → List PyData → Prop) (i : Nat) (acc : List PyData) : Prop :=
  T w tt ρ1 fun b => if b = true then E w te ρ1 fun y => ∃ z, y = .dat z ∧ I (i + 1) (acc ++ [z]) else I (i + 1) acc
/-- what stands while the list at D is made -/
def LcS (w : Wd) (ρ : List Sl) (j : Nat) (σ : L2.St) (o : Addr → Prop) (H : Hp) (D : Addr) (I : Nat → List PyData → Prop) (i : Nat) (H1 : Hp) : Prop :=
  ∃ o1 acc vs, Ok w o1 (σ.set j none) H1 (ρ.set j .no) ∧ Go w o H o1 H1 ∧ o1 D ∧ H1 D = some (.lst vs) ∧ DdAll w.K (hid H1 o1) vs acc ∧ acc.length ≤ i ∧ I i acc
section
variable {j : Nat} {o : Addr → Prop} {σ : L2.St} {H : Hp} {D : Addr} {I : Nat → List PyData → Prop}
theorem lc_turn {i : Nat} {H1 : Hp} {d : PyData} {v : V} (hD : H D = none) (h00 : ¬ w.own0 D) (hn : ∀ (m : Nat) (q : Addr) (zs : List PyData), ρ[m]? = some (.own q zs) → q ≠ D) (hi : i < sizeLine) (st : LcS w ρ j σ o H D I i H1)
    (hv : ∀ o1 H1, Go w o H o1 H1 → Dd w.K (hid H1 o1) v d) (ht : ∀ acc, I i acc → Lc w tt te ((ρ.set j .no).set j (.dat d)) I i acc) :
    wipe ((wipe σ [j]).set j (some v)) [j] = wipe σ [j] ∧ tt ((wipe σ [j]).set j (some v)) H1 fun b H3 => if b = true then te ((wipe σ [j]).set j (some v)) H3 fun y H4 => ∃ acc, H4 D = some (.lst acc) ∧ acc.length < sizeLine ∧ LcS w ρ j σ o H D I (i + 1) (upd H4 D (.lst (acc ++ [y]))) else LcS w ρ j σ o H D I (i + 1) H3 := by
  obtain ⟨o1, acc, vs, ok1, g1, oD, e1, ha, hl, hI⟩ := st
  have hnb : w.bg ≠ some D := ok1.toBas.nb h00
  have okv := ok1.setD j (x := .dat d) (v := v) (hv o1 H1 g1) trivial
  have back : ∀ (o2 : Addr → Prop) (H2 : Hp) (ρ2 : List Sl) , Ok w o2 ((σ.set j none).set j (some v)) H2 ((ρ.set j .no).set j (.dat d)) → Ok w o2 (σ.set j none) H2 (ρ.set j .no) := by
    intro o2 H2 _ k2
    have k3 := k2.wipe1 j
    rw [List.set_set, List.set_set, List.set_set, List.set_set] at k3
    exact k3
  refine ⟨?_, ?_⟩
  · show ((σ.set j none).set j (some v)).set j none = σ.set j none
    rw [List.set_set, List.set_set]
  · refine ht acc hI o1 ((σ.set j none).set j (some v)) H1 _ okv ?_
    intro o2 H2 b g2 q2
    have keepD : H2 D = some (.lst vs) := (g2.keep D oD hnb).trans e1
    cases b with
    | false => exact ⟨o2, acc, vs, back o2 H2 ρ (okv.go g2), g1.trans g2, g2.sub D oD, keepD, dpAll_mono g2.same _ _ ha, by omega, q2⟩
    | true =>
      refine q2 o2 ((σ.set j none).set j (some v)) H2 _ (okv.go g2) ?_
      rintro o3 H3 y x g3 r3 ⟨z, rfl, q3⟩
      have keepD3 : H3 D = some (.lst vs) := (g3.keep D (g2.sub D oD) hnb).trans keepD
      have ok3 := back o3 H3 ρ ((okv.go g2).go g3)
      have oD3 := g3.sub D (g2.sub D oD)
      have no3 : ∀ (m : Nat) (q : Addr) (zs : List PyData), (ρ.set j Sl.no)[m]? = some (.own q zs) → q ≠ D := by
        intro m q zs f
        by_cases hm : j = m
        · subst hm
          have hl2 : j < (ρ.set j .no).length := (List.getElem?_eq_some_iff.mp f).1
          rw [List.length_set] at hl2
          rw [List.getElem?_set_self hl2] at f
          cases f
        · rw [List.getElem?_set_ne hm] at f
          exact hn m q zs f
      obtain ⟨ok4, eq4⟩ := lc_put (vs := vs ++ [y]) ok3 oD3 h00 no3
      have ha3 := dpAll_mono (g2.trans g3).same _ _ ha
      refine ⟨vs, keepD3, by rw [DdAll.len ha]; omega, o3, acc ++ [z], vs ++ [y], ok4, ?_, oD3, upd_same, by rw [eq4]; exact DdAll.app ha3 (.cons r3 .nil), by rw [List.length_append, List.length_singleton]; omega, q3⟩
      have g := (g1.trans g2).trans g3
      refine ⟨by rw [eq4]; exact g.same, g.sub, fun a h nb => (upd_ne fun z => ?_).trans (g.keep a h nb), fun b hb => (ok4.bag b hb).2, ok4.here⟩
      subst z
      exact ok1.here _ (g1.sub _ h) (by
        have : H1 a = H a := g1.keep a h nb
        rw [this]
        exact hD)
theorem lc_start {H1 : Hp} (ok : Ok w o σ H ρ) (hD : H D = none) (hI : I 0 []) : LcS w ρ j σ o H D I 0 (upd H D (.lst [])) := by
  have g := ok.toBas.newOwn (u := .lst []) hD
  exact ⟨_, [], [], (ok.wipe1 j).go g, g, .inr rfl, upd_same, .nil, Nat.le_refl _, hI⟩
theorem lc_end {n : Nat} {H1 : Hp} {Q : VK} (ok : Ok w o σ H ρ) (hD : H D = none) (st : LcS w ρ j σ o H D I n H1) (hp : ∀ acc, I n acc → acc.length ≤ n → P (.dat (.list acc)))
    (k : ∀ o' H' v x, Go w o H o' H' → VR w o' H' v x → P x → Q v H') : Q (.ref D) H1 := by
  obtain ⟨o1, acc, vs, ok1, g1, oD, e1, ha, hl, hI⟩ := st
  have less : ∀ a, (o1 a ∧ a ≠ D) → o1 a := fun a h => h.1
  have off : ∀ a, o a → a ≠ D := fun a h z => ok.here a h (z ▸ hD)
  refine k (fun a => o1 a ∧ a ≠ D) H1 _ (.dat (.list acc)) ⟨g1.same.trans (hid_less less), fun a h => ⟨g1.sub a h, off a h⟩, g1.keep, fun b hb => ?_, fun a h => g1.here a h.1⟩ (VR.dat (Dd.lst (.inl (.inl ?_)) (dpAll_mono (hid_less less) _ _ ha))) (hp acc hI hl)
  · have b2 := g1.bag b hb
    exact b2.go (hid_less less) rfl ⟨b2.1, fun z => off b (ok.bag b hb).2.1 z⟩
  · rw [hid_of fun z => z.2 rfl]
    exact e1
end
/-- [e for x in xs if ..], xs a list -/
theorem e_lcL {j : Nat} (h : E w tl ρ fun x => ∃ ds, lstD x = some ds ∧ ds.length ≤ sizeLine ∧ ∃ I : Nat → List PyData → Prop, I 0 [] ∧
      (∀ i d acc, ds[i]? = some d → I i acc → Lc w tt te ((ρ.set j .no).set j (.dat d)) I i acc) ∧ ∀ acc, I ds.length acc → acc.length ≤ ds.length → P (.dat (.list acc))) : E w (tLc (iList w.K tl) (gName j) tt te [j]) ρ P := by
  intro o σ H Q ok k
  refine h o σ H _ ok ?_
  rintro o1 H1 v x g1 r1 ⟨ds, hx, hz, I, h0, hs, hp⟩
  have ok1 := ok.go g1
  obtain ⟨a, xs, rfl, d1, src⟩ := r1.lstGo ok1.toBas hx
  refine ⟨a, rfl, ⟨xs, (src o1 H1 ok1.toBas.refl).1⟩, fun D hD => ?_⟩
  have h00 : ¬ w.own0 D := fun z => ok1.here D (ok1.sub D z) hD
  have hn : ∀ (m : Nat) (q : Addr) (zs : List PyData), ρ[m]? = some (.own q zs) → q ≠ D := by
    intro m q zs f z
    subst z
    rcases ok1.slot m _ f with z | ⟨u, _, _, hq, _⟩
    · cases z
    · exact ok1.here _ hq hD
  refine lc_list (xs := xs) (fun i H2 => LcS w ρ j σ o1 H1 D I i H2) (lc_start (H1 := H1) ok1 hD h0) (fun i H2 _ st => ?_) (fun i y H2 hy st => ?_) (fun H2 st => ?_)
  · obtain ⟨o2, _, _, _, g2, _⟩ := st
    exact (src o2 H2 g2).1
  · obtain ⟨d, hd, _⟩ := DdAll.gets d1 hy
    have hi : i < xs.length := (List.getElem?_eq_some_iff.mp hy).1
    exact lc_turn hD h00 hn (by rw [DdAll.len d1] at hi; omega) st (fun o2 H2 g2 => by
      obtain ⟨d2, hd2, rd2⟩ := DdAll.gets (src o2 H2 g2).2 hy
      rw [hd] at hd2
      cases hd2
      exact rd2) fun acc hI => hs i d acc hd hI
  · rw [DdAll.len d1] at st
    exact lc_end ok1 hD st hp fun o' H' v x g r p => k o' H' v x (g1.trans g) r p
/-- [e for x in range(n) if ..] -/
theorem e_lcR {j : Nat} (h : A w tr ρ fun xs => ∃ n : Int, xs = [.dat (.int n)] ∧ -(2 ^ 62) ≤ n ∧ n ≤ 1000000 ∧ ∃ I : Nat → List PyData → Prop, I 0 [] ∧
      (∀ (i : Nat) acc, (i : Int) < n → I i acc → Lc w tt te ((ρ.set j .no).set j (.dat (.int (i : Int)))) I i acc) ∧ ∀ acc, I n.toNat acc → acc.length ≤ n.toNat → P (.dat (.list acc))) : E w (tLc (iRng1 tr) (gName j) tt te [j]) ρ P := by
  intro o σ H Q ok k
  refine h o σ H _ ok ?_
  rintro o1 H1 vs xs g1 r1 ⟨n, rfl, hn1, hn2, I, h0, hs, hp⟩
  cases r1 with
  | cons ra rt =>
    cases rt
    cases ra
    have ok1 := ok.go g1
    refine ⟨n, rfl, hn1, by omega, fun D hD => ?_⟩
    have h00 : ¬ w.own0 D := fun z => ok1.here D (ok1.sub D z) hD
    have hn : ∀ (m : Nat) (q : Addr) (zs : List PyData), ρ[m]? = some (.own q zs) → q ≠ D := by
      intro m q zs f z
      subst z
      rcases ok1.slot m _ f with z | ⟨u, _, _, hq, _⟩
      · cases z
      · exact ok1.here _ hq hD
    refine lc_range (lo := 0) (n := n.toNat) (fun i H2 => LcS w ρ j σ o1 H1 D I i H2) (lc_start (H1 := H1) ok1 hD h0) (fun i H2 hi st => ?_) (fun H2 st => ?_)
    · have ez : (0 : Int) + (i : Int) = (i : Int) := Int.zero_add _
      rw [ez]
      have big : 1000000 < sizeLine := Nat.le_of_ble_eq_true rfl
      exact lc_turn hD h00 hn (by omega) st (fun o2 H2 g2 => Dd.int _) fun acc hI => hs i acc (by omega) hI
    · exact lc_end ok1 hD st hp fun o' H' v x g r p => k o' H' v x (g1.trans g) r p
end
end DL

/-! The law's bag is made; the law's own body behind it. -/
namespace DL
open PySem PySem.Spec PyProof.Rows L2

/-- the promise of the def that makes the bag -/
def spBag (K : PySem.W.Frag) : Sp := fun vs H Q _ => ∃ (a : Addr) (ns : List Int), vs = [.ref a] ∧ SqL K H a (ns.map V.int) ∧
  ∀ (H1 : Hp) (p l : Addr) (ms : List Int), Same H H1 → H p = none → H1 p = some (.lst [.int 0, .int 1234567891, .int 0, .ref l]) →
    SqL K H1 l (ms.map V.int) → ms.length ≤ 63 → Q (.ref p) H1

theorem hid_no {H : Hp} : hid H (fun _ => False) = H := by
  funext a
  exact hid_of id
theorem same_hid0 {H H1 : Hp} {o : Addr → Prop} (s : Same (hid H fun _ => False) (hid H1 o)) : Same H H1 := by
  rw [hid_no] at s
  exact s.trans hid_le
theorem bag_go {K : PySem.W.Frag} {H : Hp} {a : Addr} {ns : List Int} {Q : VK} {te : TE} {N : List Str} {m : Nat}
    (hS : SqL K H a (ns.map V.int)) (hN : N.length - 1 = m)
    (h : E ⟨K, H, fun _ => False, none⟩ te (.dat (.list (ns.map PyData.int)) :: List.replicate m .no)
      fun x => ∃ ms : List Int, ms.length ≤ 63 ∧ x = .dat (.list (ms.map PyData.int)))
    (k : ∀ (H1 : Hp) (p l : Addr) (ms : List Int), Same H H1 → H p = none → H1 p = some (.lst [.int 0, .int 1234567891, .int 0, .ref l]) →
      SqL K H1 l (ms.map V.int) → ms.length ≤ 63 → Q (.ref p) H1) :
    tRet (tLst (tCons (tC (.int 0)) (tCons (tC (.int 1234567891)) (tCons (tC (.int 0)) (tCons te tNil)))))
      { nx := fun _ H' => Q .non H', rt := Q } (L2.start N [.ref a]) H := by
  have ok : Ok ⟨K, H, fun _ => False, none⟩ (fun _ => False) (L2.start N [.ref a]) H ([.dat (.list (ns.map PyData.int))] ++ List.replicate m .no) := by
    refine ok_start (fun _ z => z.elim) (fun _ z => nomatch z) (.cons (VR.dat (Dd.lst ?_ (DdAll.ofInts ns))) .nil) ?_
    · rw [hid_no]
      exact hS
    · rw [List.length_singleton, hN]
  refine h (fun _ => False) _ H _ ok ?_
  rintro o' H' v x g r ⟨ms, hms, rfl⟩
  cases r with
  | lst hs ha =>
    have e := DdAll.ints ha
    subst e
    refine ⟨Nat.le_of_ble_eq_true rfl, fun p np => ?_⟩
    have sm : Same H H' := same_hid0 g.same
    have off : H p = none := by
      cases q : H p with
      | none => rfl
      | some y =>
        have := sm p y q
        rw [np] at this
        cases this
    refine k _ p _ ms (sm.trans (same_new np)) off upd_same ?_ hms
    exact (same_new np).seq (hid_le.seq hs)

theorem law_rest {K : PySem.W.Frag} {H1 : Hp} {a p l : Addr} {ms : List Int} {Q : VK} {ts : TS} {σ : L2.St} {m : Nat}
    (e1 : H1 p = some (.lst [.int 0, .int 1234567891, .int 0, .ref l])) (e2 : SqL K H1 l (ms.map V.int)) (e3 : ms.length ≤ 63)
    (hσ : σ = some (.ref a) :: some (.ref p) :: List.replicate m none)
    (h : S ⟨K, H1, fun b => b = p, some p⟩ ts (.no :: .bag :: List.replicate m .no) { nx := fun _ => False, rt := fun d => d = .bool true })
    (k : ∀ H', Q (.bl true) H') : ts { nx := fun _ H' => Q .non H', rt := Q } σ H1 := by
  subst hσ
  have lp : SqL K (hid H1 fun b => b = p) l (ms.map V.int) := by
    have ne : ∀ xs, xs = ms.map V.int → ¬ (l = p ∧ H1 l = some (.lst xs)) := by
      rintro xs rfl ⟨rfl, z⟩
      rw [e1] at z
      have z2 := congrArg (fun o => match o with | some (HO.lst ys) => ys[3]? | _ => none) z
      have z3 : some (V.ref l) = (ms.map V.int)[3]? := z2
      rw [List.getElem?_map] at z3
      cases q : ms[3]? with
      | none =>
        rw [q] at z3
        cases z3
      | some y =>
        rw [q] at z3
        cases z3
    rcases e2 with (e | ⟨o, e⟩) | e
    · refine .inl (.inl ?_)
      exact (hid_of (o := fun b => b = p) fun z => ne _ rfl ⟨z, e⟩).trans e
    · refine .inl (.inr ⟨o, ?_⟩)
      refine (hid_of (o := fun b => b = p) fun z => ?_).trans e
      have z : l = p := z
      subst z
      rw [e1] at e
      cases e
    · exact .inr e
  have ok : Ok ⟨K, H1, fun b => b = p, some p⟩ (fun b => b = p) (some (.ref a) :: some (.ref p) :: List.replicate m none) H1 (.no :: .bag :: List.replicate m .no) := by
    have bag : BagAt K H1 (fun b => b = p) p := ⟨rfl, 0, 1234567891, 0, l, ms, e1, lp, e3⟩
    refine ⟨⟨Same.refl _, fun _ z => z, fun _ _ _ => rfl, fun b e => ?_, fun b z => ?_⟩, ?_, fun i x e => ?_, fun i j q q' xs ys ne f1 f2 => ?_⟩
    · cases e
      exact ⟨rfl, bag⟩
    · rw [show b = p from z, e1]
      exact fun z => nomatch z
    · simp
    · match i, e with
      | 0, e =>
        cases e
        exact .inl rfl
      | 1, e =>
        cases e
        exact .inr ⟨_, rfl, p, rfl, rfl⟩
      | i + 2, e =>
        have e : (List.replicate m Sl.no)[i]? = some x := e
        rw [List.getElem?_replicate] at e
        split at e
        · cases e
          exact .inl rfl
        · cases e
    · match i, f1 with
      | 0, f1 => cases f1
      | 1, f1 => cases f1
      | i + 2, f1 =>
        have f1 : (List.replicate m Sl.no)[i]? = some (.own q xs) := f1
        rw [List.getElem?_replicate] at f1
        split at f1
        · cases f1
        · cases f1
  refine h (fun b => b = p) _ H1 _ ok ?_ ?_ ?_ ?_
  · intro _ _ _ _ _ z
    exact z.elim
  · rintro o' H' v d b r rfl
    cases r
    exact k H'
  · intro _ _ _ _ _ z
    exact z.elim
  · intro _ _ _ _ _ z
    exact z.elim
theorem T.mono {w : Wd} {tt : TT} {ρ : List Sl} {P P' : Bool → Prop} (h : T w tt ρ P) (q : ∀ b, P b → P' b) : T w tt ρ P' := fun o σ H Q ok k => h o σ H Q ok fun o' H' b g p => k o' H' b g (q b p)
end DL

/-! Lists and tuples alike: enumerate, sums, slices, conversions; is None; a list times an int; loops over them. -/
namespace DL
open PySem PySem.Spec PyProof.Rows L2

/-! ### enumerate over a tuple -/
section
variable {prog : Program} {w : World} {A : Around} {E : Value → Shared → Prop} {s : Shared}
abbrev enumO (a : Addr) : Obj := { cls := .type "enumerate", data := .fields #[.none, .bool false, .ref a, rawInt 0, .none, .none] }
set_option maxHeartbeats 4000000 in
theorem meetsEnum {u : Value} {ob : Obj} {G : Heap → Prop} (B : Begins u ob G) :
    Meets (Builtin.«enumerate.__new__» ⟨[.type "enumerate", u], []⟩) (fun _ R s => G s.heap ∧
      R (.ok (.ret (.ref (s.heap.push ob).objs.size))) { s with heap := (s.heap.push ob).push (enumO s.heap.objs.size) }) :=
  .of_wp fun P w0 A0 R s0 hyp => by
    obtain ⟨hp, g0, d0, t0, o0⟩ := s0
    obtain ⟨hG, hyp⟩ := hyp
    have su := sub_enumerate
    have go : ∀ {A1 : Around} {E1 : Value → Shared → Prop} {Q1 : Value → Shared → Prop}, Q1 (.ref hp.objs.size) ⟨hp.push ob, g0, d0, t0, o0⟩ →
        wpAny (model P w0) A1 (pyIter u) Q1 E1 ⟨hp, g0, d0, t0, o0⟩ := fun z => B.iter P w0 _ _ ⟨hp, g0, d0, t0, o0⟩ _ hG z
    wp_walk using go
    refine wpAny_stack_any fun _ => wpAny_pure ?_
    split
    · rename_i c0 _ _ _ _ _
      cases (c0 == Value.type "enumerate")
      · wp_walk using go
        exact ⟨_, rfl, hyp⟩
      · wp_walk using go
        exact ⟨_, rfl, hyp⟩
    · wp_walk using go
      exact ⟨_, rfl, hyp⟩
theorem callEnum {u : Value} {ob : Obj} {G : Heap → Prop} {Q : Value → Shared → Prop} (B : Begins u ob G) (hG : G s.heap)
    (k : ∀ h1, IsEnum h1 (s.heap.objs.size + 1) s.heap.objs.size 0 .none → h1.get? s.heap.objs.size = some ob →
      (∀ b o, s.heap.get? b = some o → h1.get? b = some o) → Q (.ref (s.heap.objs.size + 1)) { s with heap := h1 }) :
    wpAny (model prog w) A (call (.type "enumerate") [u]) Q E s := by
  refine callType_new F.called_enumerate (by decide) (F.typeCall_enumerate_1 _) (F.newCall_enumerate_1 _) (fun o => F.args_object_init_2 o _) F.entry_enumerate_new (meetsEnum B) ⟨hG, ?_⟩
  have sz : (s.heap.push ob).objs.size = s.heap.objs.size + 1 := Heap.size_push ..
  show _ ∧ _
  rw [sz]
  have ie : IsEnum ((s.heap.push ob).push (enumO s.heap.objs.size)) (s.heap.objs.size + 1) s.heap.objs.size 0 .none := by
    have z := Heap.get?_push_size (s.heap.push ob) (o := enumO s.heap.objs.size) rfl
    rw [sz] at z
    exact z
  exact ⟨⟨_, ie, rfl⟩, k _ ie (Heap.get?_push_of_some _ (Heap.get?_push_size _ B.free)) fun b o z => Heap.get?_push_of_some _ (Heap.get?_push_of_some _ z)⟩
end
/-- the tuple at a, each item in a new pair -/
def IteT (K : PySem.W.Frag) (a : Addr) : It where
  go := fun i H => ∃ (ys : List V) (y : V), SqT K H a ys ∧ ys[i]? = some y
  yld := fun i H v H' => ∃ p y, v = .ref p ∧ H p = none ∧ H' = upd H p (.tup [.int (i : Nat), y]) ∧ ∀ ys, SqT K H a ys → ys[i]? = some y
  stop := fun i H => ∃ ys : List V, SqT K H a ys ∧ ys.length = i
def TnT (a e c : Addr) (i : Nat) (h : Heap) : Prop := (∃ v, IsEnum h e c ((i : Nat) : Int) v) ∧ h.IsTupleIter c a i ∧ e ≠ c ∧ e ≠ a ∧ a ≠ c
theorem two {b e c : Addr} (h : b ∈ [e, c]) : b = e ∨ b = c := by simpa using h
theorem turn_enumT {P : Program} {w : World} {K : PySem.W.Frag} {es : List Expr} {n0 : Nat} {ps : Pos} (a e c : Addr) :
    Turn P w K (.Tuple es n0 ps) (IteT K a) [e, c] e (TnT a e c) := by
  refine ⟨List.mem_cons_self .., ?_, ?_, ?_, ?_, ?_⟩
  · rintro i h ⟨⟨v, ie⟩, ⟨o, ho, hc, hd⟩, _⟩ b hb
    rcases two hb with rfl | rfl
    · exact ⟨_, ie, fun _ z => nomatch z⟩
    · exact ⟨o, ho, fun _ z => by rw [hd] at z; cases z⟩
  · rintro i h h1 ⟨⟨v, ie⟩, it, r⟩ kp
    exact ⟨⟨v, kp e (List.mem_cons_self ..) _ ie⟩, it.at fun o z => kp c (List.mem_cons_of_mem _ (List.mem_cons_self ..)) o z, r⟩
  · intro X eP ew eK calm i pins s σ H E1 I fp st hgo
    subst eP ew eK
    obtain ⟨⟨v, ie⟩, it, n1, n2, n3⟩ := st
    obtain ⟨ys, y, hq, hy⟩ := hgo
    obtain ⟨us, rv, pt, hz⟩ := I.tuple hq
    obtain ⟨u, hu, ru⟩ := rv.get hy
    have le : e < s.heap.objs.size := Heap.lt_size ie
    have lc : c < s.heap.objs.size := by
      obtain ⟨_, z, _⟩ := it
      exact Heap.lt_size z
    have hh : X.A.in1.handled = none := I.ok.hd calm
    have li : i < us.toArray.size := by
      rw [List.size_toArray]
      exact (List.getElem?_eq_some_iff.mp hu).1
    refine wpAny_pyNext_enum_itemD (Draws.tuple hh c a n3 us.toArray) ie ⟨it, pt⟩ li n1 (by simp [n1, n2]) fun x h1 tk px io st1 hT _ kp => ?_
    have ex : u = x := by
      have z : us.toArray[i]? = some u := by simpa using hu
      rw [z] at px
      exact Option.some.inj px
    subst ex
    refine ⟨_, rfl, wpAny_letOwnedTupleGo_enum (s := { s with heap := h1, toks := tk + 1 }) io fun h2 io2 sb => ?_⟩
    have hT2 : h2.get? s.heap.objs.size = some { cls := .type "tuple", data := .seq #[.int i tk, u] } := (sb.2 _ (Nat.ne_of_gt le)).trans hT
    have nu : ObjOk X.prog X.w (upd H s.heap.objs.size (.tup [.int (i : Nat), y])) h2 s.heap.objs.size (.tup [.int (i : Nat), y]) :=
      ⟨by show 2 ≤ sizeLine; decide, [.int i tk, u], .cons ⟨_, rfl⟩ (.cons ru .nil), ⟨_, hT2, rfl, _, rfl⟩⟩
    have off : ∀ {b : Addr}, b ∉ [e, c] → b ≠ e ∧ b ≠ c := fun {b} hb => ⟨fun z => hb (by simp [z]), fun z => hb (by simp [z])⟩
    have I1 : Inv X pins σ (upd H s.heap.objs.size (.tup [.int (i : Nat), y])) { s with heap := h2, toks := tk + 1 } :=
      I.turnedNew (ch := [e, c]) (fun b ob hb z => (sb.2 b (off hb).1).trans (kp b ob (off hb).1 (off hb).2 z)) fp (Nat.le_refl _) nu
    refine ⟨.ref s.heap.objs.size, _, I1, rfl, ⟨_, y, rfl, I.hok.fresh (Nat.le_refl _), rfl, fun zs hzs => ?_⟩, ⟨⟨u, ?_⟩, st1.1.at fun o z => (sb.2 c (Ne.symm n1)).trans z, n1, n2, n3⟩, fun b hb => ?_⟩
    · rw [I.tuple_inj hzs hq]
      exact hy
    · have z : ((i + 1 : Nat) : Int) = (i : Int) + 1 := by omega
      rw [z]
      exact io2
    · rcases two hb with rfl | rfl
      · rw [upd_ne (Nat.ne_of_lt le)]
        exact (fp _ hb).1
      · rw [upd_ne (Nat.ne_of_lt lc)]
        exact (fp _ hb).1
  · intro X eP ew eK calm i pins s σ H E1 I fp st hend
    subst eP ew eK
    obtain ⟨⟨v, ie⟩, it, n1, n2, n3⟩ := st
    obtain ⟨ys, hq, hl⟩ := hend
    obtain ⟨us, rv, pt, hz⟩ := I.tuple hq
    obtain ⟨f0, f1, f2, f3, f4, f5⟩ := fp c (List.mem_cons_of_mem _ (List.mem_cons_self ..))
    have hh : X.A.in1.handled = none := I.ok.hd calm
    have en : us.toArray.size = i := by
      rw [List.size_toArray, ← rv.length, hl]
    refine wpAny_pyNext_enum_endD (Draws.tuple hh c a n3 us.toArray) ie (by rw [en]; exact ⟨it, pt⟩) fun h1 eb => ⟨rfl, ?_⟩
    exact I.turned (t' := s.toks) (fun b o hb z => eb b o hb z) f0 f1 f3 f4 f5
  · rintro A1 i s Q E1 ⟨⟨v, ie⟩, _⟩ h
    exact wpAny_pyIter_enum ie h
/-- enumerate(x), of a list or a tuple -/
def iEnumA (K : PySem.W.Frag) (te : TE) : TI := fun σ H R => te σ H fun v H1 => ∃ a ys, v = .ref a ∧ ((SqL K H1 a ys ∧ R (Ite K a) H1) ∨ (SqT K H1 a ys ∧ R (IteT K a) H1))
section
variable {X : Cx}
theorem pi_enumA {e : Expr} {te : TE} {p pos tpos : Pos} {es : List Expr} {kk : Nat} (hg : Gl X "enumerate") (hm : X.mg "enumerate" = none) (he : PE X e te) (hs : starEach [e] X.env = [(false, eval e X.env)] := by rfl) :
    PI X (.Tuple es kk tpos) (.Call (.Name "enumerate" p) [e] [] pos) (iEnumA X.K te) := by
  refine ⟨fun pins s σ H R I hyp => ?_⟩
  have ha := (pa_cons he pa_nil hs).run pos pins s σ H (fun vs H1 => match vs with
    | [v] => ∃ a ys, v = .ref a ∧ ((SqL X.K H1 a ys ∧ R (Ite X.K a) H1) ∨ (SqT X.K H1 a ys ∧ R (IteT X.K a) H1))
    | _ => False) I hyp
  refine Call_ (ld_blt I hg hm boot_enumerate (PyProof.Rows.callWith_type1 (thn ha fun us s1 ⟨vs, H1, I1, r1, q1⟩ => ?_) hs rfl))
  cases r1 with
  | nil => exact q1.elim
  | cons r rr =>
    cases rr with
    | cons _ _ => exact q1.elim
    | nil =>
      obtain ⟨a, ys, rfl, q1⟩ := q1
      cases r
      have fresh2 : ∀ b ∈ [s1.heap.objs.size + 1, s1.heap.objs.size], FpOk X pins H1 b := fun b hb => by
        have lo : s1.heap.objs.size ≤ b := by
          rcases two hb with z | z
          · rw [z]
            exact Nat.le_add_right _ _
          · rw [z]
            exact Nat.le_refl _
        exact I1.fpOk lo (I1.hok.fresh lo)
      rcases q1 with ⟨hq, q⟩ | ⟨hq, q⟩
      · obtain ⟨us, rv, pl, hz⟩ := I1.list hq
        refine callEnum (begins_list a us.toArray) pl.isList fun h1 ie ii kp => wpAny_pyIter_enum ie ?_
        exact ⟨s1.heap.objs.size + 1, [s1.heap.objs.size + 1, s1.heap.objs.size], _, _, H1, rfl, I1.kept (t' := s1.toks) kp, turn_enum a _ _, ⟨⟨.none, ie⟩, ⟨_, ii, rfl, rfl⟩, Nat.succ_ne_self _⟩, fresh2, q⟩
      · obtain ⟨us, rv, pt, hz⟩ := I1.tuple hq
        have la : a < s1.heap.objs.size := by
          obtain ⟨_, z, _⟩ := id pt
          exact Heap.lt_size z
        refine callEnum (begins_tuple a us.toArray) pt fun h1 ie ii kp => wpAny_pyIter_enum ie ?_
        exact ⟨s1.heap.objs.size + 1, [s1.heap.objs.size + 1, s1.heap.objs.size], _, _, H1, rfl, I1.kept (t' := s1.toks) kp, turn_enumT a _ _, ⟨⟨.none, ie⟩, ⟨_, ii, rfl, rfl⟩, Nat.succ_ne_self _, Nat.ne_of_gt (Nat.lt_succ_of_lt la), Nat.ne_of_lt la⟩, fresh2, q⟩
theorem walk_enumT {K : PySem.W.Frag} {a : Addr} {xs : List V} : Walk (IteT K a) xs.length (fun H => SqT K H a xs) (YPair (fun i => some (.int (i : Nat))) (fun i => xs[i]?)) := by
  refine ⟨fun i _ hi q => ⟨xs, xs[i], q, by simp [hi]⟩, fun _ q => ⟨xs, q, rfl⟩, fun i H v H' _ q y => ?_⟩
  obtain ⟨T, x, h1, h2, h3, h4⟩ := y
  exact ⟨T, .int (i : Nat), x, h1, h2, h3, rfl, h4 xs q⟩

/-! ### sum, of a list or a tuple of ints -/
def rSumA (K : PySem.W.Frag) : List V → Hp → VK → Prop := fun vs H Q => ∃ (a : Addr) (ns : List Int), vs = [V.ref a] ∧ (SqL K H a (ns.map V.int) ∨ SqT K H a (ns.map V.int)) ∧ Q (.int ns.sum) H
theorem call_sumA (calm : X.calm = true) : CallR X (.builtin "sum") (rSumA X.K) := by
  rintro pins s σ H vs us Q I r ⟨a, ns, rfl, hs | hs, q⟩
  · exact cr_sum calm pins s σ H _ us Q I r ⟨a, ns, rfl, hs, q⟩
  · obtain ⟨its, rv, pt, _⟩ := I.tuple hs
    rw [Vals.ref1 r]
    have hi := rv.ints
    obtain ⟨zs, e⟩ := hi.allInts.items
    have hn : numsOf (intItems zs).toList = ns := by
      rw [← e]
      exact hi.numsOf
    rw [nums_intItems] at hn
    rw [e] at pt
    refine PySem.W.ktm_sumG (I.ok.hd calm) pt fun h1 tk t1 kp => ?_
    rw [preSum_eq, List.take_of_length_le (by simp), hn]
    exact ⟨.int ns.sum, H, I.kept kp, ⟨_, rfl⟩, q⟩
/-- x[lo:hi], of a list or a tuple -/
theorem sl_seqA : SlR X (fun x lo hi H Q => rSlL X.K x lo hi H Q ∨ rSlA X.K x lo hi H Q) := sl_list.or sl_tupA
/-- a list times an int -/
def rRepL (K : PySem.W.Frag) : R2 := fun x y H Q => ∃ l xs, x = .ref l ∧ y = .int 2 ∧ H l = some (.lst xs) ∧ xs.length * 2 ≤ sizeLine ∧ ∀ p, H p = none → Q (.ref p) (upd H p (.lst (xs ++ xs)))
theorem op_repL : OpR X (binaryOp .Mult) (rRepL X.K) := by
  rintro pins s σ H x y v u Q I rx ry ⟨l, xs, rfl, rfl, hH, hz, q⟩
  refine op_rep pins s σ H _ _ v u Q I rx ry ⟨l, 2, xs, rfl, rfl, hH, by decide, by decide, hz, fun p np => ?_⟩
  have e : (List.replicate (2 : Int).toNat xs).flatten = xs ++ xs := by
    show (List.replicate 2 xs).flatten = _
    simp [List.replicate]
  rw [e]
  exact q p np
end
end DL

/-! Data rules over lists and tuples alike; loops over them. -/
namespace DL
open PySem PySem.Spec PyProof.Rows L2
section
variable {w : Wd} {o o1 o2 : Addr → Prop} {H H1 H2 : Hp} {σ : L2.St} {ρ : List Sl} {v : V} {x : Sl} {P : Sl → Prop} {te ta tb tl : TE} {tt tu : TT} {tr : TA} {ts t1 t2 : TS} {e : En} {d : PyData}
/-- the items of a list or a tuple -/
def seqD : Sl → Option (List PyData)
  | .dat (.list ds) => some ds
  | .dat (.tuple ds) => some ds
  | .own _ ds => some ds
  | _ => none
theorem VR.seq {ds : List PyData} (r : VR w o H v x) (h : seqD x = some ds) : ∃ a vs, v = .ref a ∧ DdAll w.K (hid H o) vs ds ∧ (SqL w.K H a vs ∨ SqT w.K H a vs) := by
  cases x with
  | no => cases h
  | bag => cases h
  | own p xs =>
    cases h
    obtain ⟨rfl, hp, n, vs, e1, ha⟩ := r
    exact ⟨p, vs, rfl, ha, .inl (.inl (.inl e1))⟩
  | dat c =>
    cases c with
    | list xs =>
      cases h
      cases r with
      | lst hs ha => exact ⟨_, _, rfl, ha, .inl (hid_le.seq hs)⟩
    | tuple xs =>
      cases h
      cases r with
      | tup hs ha => exact ⟨_, _, rfl, ha, .inr (sqT_mono hid_le hs)⟩
    | none => cases h
    | bool _ => cases h
    | int _ => cases h
    | str _ => cases h
    | dict _ => cases h
theorem VR.seqDat {ds : List PyData} {c : PyData} (r : VR w o H v (.dat c)) (h : seqD (.dat c) = some ds) : ∃ a vs, v = .ref a ∧ DdAll w.K (hid H o) vs ds ∧ (SqL w.K (hid H o) a vs ∨ SqT w.K (hid H o) a vs) := by
  cases c with
  | list xs =>
    cases h
    cases r with
    | lst hs ha => exact ⟨_, _, rfl, ha, .inl hs⟩
  | tuple xs =>
    cases h
    cases r with
    | tup hs ha => exact ⟨_, _, rfl, ha, .inr hs⟩
  | none => cases h
  | bool _ => cases h
  | int _ => cases h
  | str _ => cases h
  | dict _ => cases h
theorem cl_sumA : Cl w (rSumA w.K) (fun xs P => ∃ (x : Sl) (ns : List Int), xs = [x] ∧ seqD x = some (ns.map PyData.int) ∧ P (.dat (.int ns.sum))) := by
  rintro o H vs xs P Q b r ⟨x, ns, rfl, hx, q⟩ k
  cases r with
  | cons r t =>
    cases t
    obtain ⟨a, us, rfl, ha, hs⟩ := r.seq hx
    have e := DdAll.ints ha
    subst e
    exact ⟨a, ns, rfl, hs, k o H _ _ b.refl (VR.dat (Dd.int _)) q⟩
theorem cl_lenQ : Cl w (fun xs H Q => ∃ x n, xs = [x] ∧ LenV w.K x H n ∧ Q (.int n) H) (fun xs P => ∃ (x : Sl) (ds : List PyData), xs = [x] ∧ seqD x = some ds ∧ P (.dat (.int (ds.length : Nat)))) := by
  rintro o H vs xs P Q b r ⟨x, ds, rfl, hx, q⟩ k
  cases r with
  | cons r t =>
    cases t
    obtain ⟨a, us, rfl, ha, hs⟩ := r.seq hx
    refine ⟨.ref a, ds.length, rfl, ?_, k o H _ _ b.refl (VR.dat (Dd.int _)) q⟩
    rcases hs with hs | hs
    · exact .inl ⟨us, hs, (DdAll.len ha).symm⟩
    · exact .inr ⟨us, hs, (DdAll.len ha).symm⟩
theorem cl_tuple : Cl w (fun xs H Q => ∃ p ys, xs = [.ref p] ∧ ((SqL w.K H p ys ∧ ∀ l, H l = none → Q (.ref l) (upd H l (.tup ys))) ∨ (SqT w.K H p ys ∧ Q (.ref p) H)))
    (fun xs P => ∃ x ds, xs = [x] ∧ seqD x = some ds ∧ P (.dat (.tuple ds))) := by
  rintro o H vs xs P Q b r ⟨x, ds, rfl, hx, q⟩ k
  cases r with
  | cons r t =>
    cases t
    have new : ∀ a us, DdAll w.K (hid H o) us ds → SqL w.K H a us → ∃ p ys, [V.ref a] = [.ref p] ∧ ((SqL w.K H p ys ∧ ∀ l, H l = none → Q (.ref l) (upd H l (.tup ys))) ∨ (SqT w.K H p ys ∧ Q (.ref p) H)) := by
      intro a us ha hs
      refine ⟨a, us, rfl, .inl ⟨hs, fun p np => ?_⟩⟩
      have g := b.new (u := .tup us) np
      exact k o _ _ _ g (VR.dat (Dd.tup (.inl (.inl (b.seen np))) (ddAll_mono g.same ha))) q
    cases x with
    | no => cases hx
    | bag => cases hx
    | own p zs =>
      obtain ⟨a, us, rfl, ha, hs⟩ := r.lst (show lstD (.own p zs) = some ds from hx)
      exact new a us hs ha
    | dat c =>
      cases c with
      | list zs =>
        obtain ⟨a, us, rfl, ha, hs⟩ := r.lst (show lstD (.dat (.list zs)) = some ds from hx)
        exact new a us hs ha
      | tuple zs =>
        cases hx
        cases id r with
        | tup hs ha => exact ⟨_, _, rfl, .inr ⟨sqT_mono hid_le hs, k o H _ _ b.refl r q⟩⟩
      | none => cases hx
      | bool _ => cases hx
      | int _ => cases hx
      | str _ => cases hx
      | dict _ => cases hx
theorem cl_list : Cl w (fun xs H Q => ∃ p ys, xs = [.ref p] ∧ (SqL w.K H p ys ∨ SqT w.K H p ys) ∧ ∀ l, H l = none → Q (.ref l) (upd H l (.lst ys)))
    (fun xs P => ∃ x ds, xs = [x] ∧ seqD x = some ds ∧ P (.dat (.list ds))) := by
  rintro o H vs xs P Q b r ⟨x, ds, rfl, hx, q⟩ k
  cases r with
  | cons r t =>
    cases t
    obtain ⟨a, us, rfl, ha, hs⟩ := r.seq hx
    refine ⟨a, us, rfl, hs, fun p np => ?_⟩
    have g := b.new (u := .lst us) np
    exact k o _ _ _ g (VR.dat (Dd.lst (.inl (.inl (b.seen np))) (ddAll_mono g.same ha))) q
/-- a slice -/
def cutX : Sl → Option Int → Option Int → Option PyData
  | .dat (.list ds), lo, hi => some (.list (cutD ds lo hi))
  | .dat (.tuple ds), lo, hi => some (.tuple (cutD ds lo hi))
  | .own _ ds, lo, hi => some (.list (cutD ds lo hi))
  | _, _, _ => none
theorem e_slA {tlo thi : TO} (h : E w te ρ fun x => O w tlo ρ fun lo => O w thi ρ fun hi => ∃ y, cutX x lo hi = some y ∧ P (.dat y)) :
    E w (tSl (fun x lo hi H Q => rSlL w.K x lo hi H Q ∨ rSlA w.K x lo hi H Q) te tlo thi) ρ P := by
  intro o σ H Q ok k
  refine h o σ H _ ok ?_
  rintro o1 H1 v x g1 r1 q
  refine q o1 σ H1 _ (ok.go g1) ?_
  intro o2 H2 lo g2 q2
  refine q2 o2 σ H2 _ (ok.go (g1.trans g2)) ?_
  rintro o3 H3 hi g3 ⟨y, hy, q3⟩
  have b3 := ok.toBas.go ((g1.trans g2).trans g3)
  have r3 := r1.go (ok.toBas.go g1) (g2.trans g3)
  have new : ∀ a xs ds, DdAll w.K (hid H3 o3) xs ds → SqL w.K H3 a xs → y = .list (cutD ds lo hi) → rSlL w.K (.ref a) lo hi H3 Q := by
    rintro a xs ds d1 s1 rfl
    refine ⟨a, xs, rfl, s1, fun p np => ?_⟩
    have g := b3.new (u := .lst (cutV xs lo hi)) np
    exact k o3 _ _ _ (((g1.trans g2).trans g3).trans g) (VR.dat (Dd.lst (.inl (.inl (b3.seen np))) (ddAll_mono g.same (DdAll.cut d1 lo hi)))) q3
  cases x with
  | no => cases hy
  | bag => cases hy
  | own p zs =>
    cases hy
    obtain ⟨a, us, rfl, hs, ha⟩ := r3.lst (show lstD (.own p zs) = some zs from rfl)
    exact .inl (new a us zs ha hs rfl)
  | dat c =>
    cases c with
    | list zs =>
      cases hy
      obtain ⟨a, us, rfl, hs, ha⟩ := r3.lst (show lstD (.dat (.list zs)) = some zs from rfl)
      exact .inl (new a us zs ha hs rfl)
    | tuple zs =>
      cases hy
      cases r3 with
      | tup hs ha =>
        rename_i a xs
        refine .inr ⟨a, xs, rfl, sqT_mono hid_le hs, fun hw => ?_, fun _ p np => ?_⟩
        · have ln := DdAll.len ha
          have e : cutD zs lo hi = zs := by
            unfold cutD
            rw [ln] at hw
            rw [hw.1, hw.2]
            simp
          rw [e] at q3
          exact k o3 _ _ _ ((g1.trans g2).trans g3) (VR.dat (Dd.tup hs ha)) q3
        · have g := b3.new (u := .tup (cutV xs lo hi)) np
          exact k o3 _ _ _ (((g1.trans g2).trans g3).trans g) (VR.dat (Dd.tup (.inl (.inl (b3.seen np))) (ddAll_mono g.same (DdAll.cut ha lo hi)))) q3
    | none => cases hy
    | bool _ => cases hy
    | int _ => cases hy
    | str _ => cases hy
    | dict _ => cases hy

/-! ### is None -/
def isNo : PyData → Bool
  | .none => true
  | _ => false
theorem no_iff {K : PySem.W.Frag} (r : Dd K H v d) : decide (v = V.non) = isNo d := by
  cases r <;> simp [isNo]
theorem op2_isN : Op2 w (fun x y H Q => y = .non ∧ Q (.bl (decide (x = .non))) H) (fun x y P => ∃ d, x = .dat d ∧ y = .dat .none ∧ P (.dat (.bool (isNo d)))) := by
  rintro o H u v x y P Q b ru rv ⟨d, rfl, rfl, q⟩ k
  cases rv
  refine ⟨rfl, ?_⟩
  rw [no_iff ru]
  exact k o H _ _ b.refl (VR.dat (Dd.bl _)) q
theorem op2_notN : Op2 w (fun x y H Q => y = .non ∧ Q (.bl (!decide (x = .non))) H) (fun x y P => ∃ d, x = .dat d ∧ y = .dat .none ∧ P (.dat (.bool (!isNo d)))) := by
  rintro o H u v x y P Q b ru rv ⟨d, rfl, rfl, q⟩ k
  cases rv
  refine ⟨rfl, ?_⟩
  rw [no_iff ru]
  exact k o H _ _ b.refl (VR.dat (Dd.bl _)) q
/-- [..] * 2 -/
theorem e_rep2 (h : A w tr ρ fun xs => ∃ ds, undats xs = some ds ∧ ds.length * 2 ≤ sizeLine ∧ P (.dat (.list (ds ++ ds)))) : E w (tOp (rRepL w.K) (tLst tr) (tC (.int 2))) ρ P := by
  intro o σ H Q ok k
  refine h o σ H _ ok ?_
  rintro o1 H1 vs xs g1 r1 ⟨ds, hu, hl, q⟩
  have hu2 := undats_some hu
  subst hu2
  have ha := VRs.dats r1
  have ln := DdAll.len ha
  refine ⟨by rw [ln]; omega, fun p np => ?_⟩
  have b1 := ok.toBas.go g1
  have g2 := b1.new (u := .lst vs) np
  have b2 := b1.go g2
  refine ⟨p, vs, rfl, rfl, upd_same, by rw [ln]; exact hl, fun p2 np2 => ?_⟩
  have g3 := b2.new (u := .lst (vs ++ vs)) np2
  have ha2 := ddAll_mono g2.same ha
  exact k o1 _ _ _ ((g1.trans g2).trans g3) (VR.dat (Dd.lst (.inl (.inl (b2.seen np2))) (ddAll_mono g3.same (DdAll.app ha2 ha2)))) q

/-! ### loops over lists and tuples -/
open Classical in
/-- from here on what stands now is kept -/
noncomputable def wAt (w : Wd) (o1 : Addr → Prop) (H1 : Hp) : Wd := ⟨w.K, fun a => if w.own0 a then w.H0 a else hid H1 o1 a, w.own0, w.bg⟩
theorem wAt_own {a : Addr} (h : w.own0 a) : (wAt w o1 H1).H0 a = w.H0 a := if_pos h
theorem wAt_hid (b : Bas w o1 H1) : hid (wAt w o1 H1).H0 (wAt w o1 H1).own0 = hid H1 o1 := by
  funext a
  by_cases h : w.own0 a
  · have e1 : hid (wAt w o1 H1).H0 (wAt w o1 H1).own0 a = none := if_pos h
    have e2 : hid H1 o1 a = none := if_pos (b.sub a h)
    rw [e1, e2]
  · have e1 : hid (wAt w o1 H1).H0 (wAt w o1 H1).own0 a = (wAt w o1 H1).H0 a := if_neg h
    rw [e1]
    exact if_neg h
theorem bas_in (b1 : Bas w o1 H1) (b : Bas w o H) (s : Same (hid H1 o1) (hid H o)) : Bas (wAt w o1 H1) o H :=
  ⟨by rw [wAt_hid b1]; exact s, b.sub, fun a h n => (b.keep a h n).trans (wAt_own (w := w) (o1 := o1) (H1 := H1) h).symm, b.bag, b.here⟩
theorem bas_out (b1 : Bas w o1 H1) (b : Bas (wAt w o1 H1) o H) : Bas w o H ∧ Same (hid H1 o1) (hid H o) := by
  have s : Same (hid H1 o1) (hid H o) := by
    have := b.grow
    rw [wAt_hid b1] at this
    exact this
  exact ⟨⟨b1.grow.trans s, b.sub, fun a h n => (b.keep a h n).trans (wAt_own (w := w) (o1 := o1) (H1 := H1) h), b.bag, b.here⟩, s⟩
theorem vr_at : VR (wAt w o1 H1) o H v x = VR w o H v x := by
  cases x <;> rfl
theorem ok_in (b1 : Bas w o1 H1) (k : Ok w o σ H ρ) (s : Same (hid H1 o1) (hid H o)) : Ok (wAt w o1 H1) o σ H ρ :=
  ⟨bas_in b1 k.toBas s, k.len, fun i x e => (k.slot i x e).imp id fun ⟨v, hv, r⟩ => ⟨v, hv, by rw [vr_at]; exact r⟩, k.apart⟩
theorem ok_out (b1 : Bas w o1 H1) (k : Ok (wAt w o1 H1) o σ H ρ) : Ok w o σ H ρ ∧ Same (hid H1 o1) (hid H o) := by
  obtain ⟨b, s⟩ := bas_out b1 k.toBas
  exact ⟨⟨b, k.len, fun i x e => (k.slot i x e).imp id fun ⟨v, hv, r⟩ => ⟨v, hv, by rw [vr_at] at r; exact r⟩, k.apart⟩, s⟩
/-- a loop's hypotheses: from I at each turn to I at the next, whatever stands at the entry -/
def Turns (w : Wd) (ts : TS) (e : En) (I : Nat → List Sl → Prop) (k : Nat) (ρ : List Sl) : Prop :=
  ∀ H0 : Hp, S ⟨w.K, H0, w.own0, w.bg⟩ ts ρ { e with nx := I (k + 1), ct := I (k + 1), bk := e.nx }
theorem s_forE {i j m : Nat} (hm : m = 2) (h : E w te ρ fun x => ∃ c ds, x = .dat c ∧ seqD (.dat c) = some ds ∧ ∃ I : Nat → List Sl → Prop, I 0 ρ ∧
      (∀ (k : Nat) (d : PyData) (ρ' : List Sl), ds[k]? = some d → I k ρ' → Turns w ts e I k ((ρ'.set i (.dat (.int (k : Int)))).set j (.dat d))) ∧ ∀ ρ', I ds.length ρ' → e.nx ρ') :
    S w (tFor (iEnumA w.K te) (gTup w.K m (gCons (gName i) (gCons (gName j) gNil))) ts) ρ e := by
  subst hm
  intro o σ H D ok kn kr kb kc
  refine h o σ H _ ok ?_
  rintro o1 H1 v x g1 r1 ⟨c, ds, rfl, hx, I, h0, hs, hd⟩
  have ok1 := ok.go g1
  obtain ⟨a, vs, rfl, ha, hq⟩ := r1.seqDat hx
  have ln := DdAll.len ha
  have b1 := ok1.toBas
  have okA := ok_in b1 ok1 (Same.refl _)
  have fin : ∀ σ' H', (∃ o' ρ', Ok (wAt w o1 H1) o' σ' H' ρ' ∧ I vs.length ρ') → D.nx σ' H' := by
    rintro σ' H' ⟨o', ρ', k1, i1⟩
    rw [ln] at i1
    exact kn o' σ' H' ρ' (ok_out b1 k1).1 (hd ρ' i1)
  have step : ∀ (k : Nat) (y : V) (σ2 : L2.St) (H2 H3 : Hp), k < vs.length → (∃ o' ρ', Ok (wAt w o1 H1) o' σ2 H2 ρ' ∧ I k ρ') →
      YPair (fun i => some (.int (i : Nat))) (fun i => vs[i]?) k H2 y H3 →
      gTup w.K 2 (gCons (gName i) (gCons (gName j) gNil)) y σ2 H3 fun σ4 H4 => ts { D with
        nx := fun σ' H' => ∃ o' ρ', Ok (wAt w o1 H1) o' σ' H' ρ' ∧ I (k + 1) ρ',
        ct := fun σ' H' => ∃ o' ρ', Ok (wAt w o1 H1) o' σ' H' ρ' ∧ I (k + 1) ρ', bk := D.nx } σ4 H4 := by
    rintro k y σ2 H2 H3 hk ⟨o2, ρ2, ok2, i2⟩ ⟨p, u1, u2, rfl, np, rfl, e1, e2⟩
    cases e1
    obtain ⟨_, s2⟩ := ok_out b1 ok2
    obtain ⟨d, hd1, rd⟩ := DdAll.gets (ddAll_mono s2 ha) e2
    have g := ok2.toBas.new (u := .tup [.int (k : Nat), u2]) np
    refine ⟨p, _, rfl, .inl (.inl upd_same), rfl, _, _, rfl, _, _, rfl, rfl, ?_⟩
    refine hs k d ρ2 hd1 i2 (wAt w o1 H1).H0 o2 _ _ _ (((ok2.go g).setD i (x := .dat (.int (k : Int))) (Dd.int _) trivial).setD j (x := .dat d) (dd_mono g.same rd) trivial) ?_ ?_ ?_ ?_
    · intro o' σ' H' ρ' a1 a2
      exact ⟨o', ρ', a1, a2⟩
    · intro o' H' v' d' a1 a2 a3
      exact kr o' H' v' d' (bas_out b1 a1).1 a2 a3
    · intro o' σ' H' ρ' a1 a2
      exact kn o' σ' H' ρ' (ok_out b1 a1).1 a2
    · intro o' σ' H' ρ' a1 a2
      exact ⟨o', ρ', a1, a2⟩
  refine ⟨a, vs, rfl, ?_⟩
  rcases hq with hq | hq
  · refine .inl ⟨hid_le.seq hq, ?_⟩
    exact for_it walk_enum (fun k σ' H' => ∃ o' ρ', Ok (wAt w o1 H1) o' σ' H' ρ' ∧ I k ρ') ⟨o1, ρ, okA, h0⟩
      (fun k σ' H' _ ⟨o', ρ', k1, _⟩ => hid_le.seq ((ok_out b1 k1).2.seq hq)) step fin
  · refine .inr ⟨sqT_mono hid_le hq, ?_⟩
    exact for_it walk_enumT (fun k σ' H' => ∃ o' ρ', Ok (wAt w o1 H1) o' σ' H' ρ' ∧ I k ρ') ⟨o1, ρ, okA, h0⟩
      (fun k σ' H' _ ⟨o', ρ', k1, _⟩ => sqT_mono hid_le (sqT_mono (ok_out b1 k1).2 hq)) step fin
theorem s_forT {j : Nat} (h : E w te ρ fun x => ∃ ds, x = .dat (.tuple ds) ∧ ∃ I : Nat → List Sl → Prop, I 0 ρ ∧
      (∀ (k : Nat) (d : PyData) (ρ' : List Sl), ds[k]? = some d → I k ρ' → Turns w ts e I k (ρ'.set j (.dat d))) ∧ ∀ ρ', I ds.length ρ' → e.nx ρ') :
    S w (tFor (iTup w.K te) (gName j) ts) ρ e := by
  intro o σ H D ok kn kr kb kc
  refine h o σ H _ ok ?_
  rintro o1 H1 v x g1 r1 ⟨ds, rfl, I, h0, hs, hd⟩
  have ok1 := ok.go g1
  cases r1 with
  | tup hq ha =>
    rename_i a vs
    have ln := DdAll.len ha
    have b1 := ok1.toBas
    have okA := ok_in b1 ok1 (Same.refl _)
    refine ⟨a, rfl, ⟨vs, sqT_mono hid_le hq⟩, ?_⟩
    refine for_it walk_tup (fun k σ' H' => ∃ o' ρ', Ok (wAt w o1 H1) o' σ' H' ρ' ∧ I k ρ') ⟨o1, ρ, okA, h0⟩ (fun k σ' H' _ ⟨o', ρ', k1, _⟩ => sqT_mono hid_le (sqT_mono (ok_out b1 k1).2 hq)) ?_ ?_
    · rintro k y σ2 H2 H3 hk ⟨o2, ρ2, ok2, i2⟩ ⟨rfl, e2⟩
      obtain ⟨_, s2⟩ := ok_out b1 ok2
      obtain ⟨d, hd1, rd⟩ := DdAll.gets (ddAll_mono s2 ha) e2
      refine hs k d ρ2 hd1 i2 (wAt w o1 H1).H0 o2 _ _ _ (ok2.setD j (x := .dat d) rd trivial) ?_ ?_ ?_ ?_
      · intro o' σ' H' ρ' a1 a2
        exact ⟨o', ρ', a1, a2⟩
      · intro o' H' v' d' a1 a2 a3
        exact kr o' H' v' d' (bas_out b1 a1).1 a2 a3
      · intro o' σ' H' ρ' a1 a2
        exact kn o' σ' H' ρ' (ok_out b1 a1).1 a2
      · intro o' σ' H' ρ' a1 a2
        exact ⟨o', ρ', a1, a2⟩
    · rintro σ' H' ⟨o', ρ', k1, i1⟩
      rw [ln] at i1
      exact kn o' σ' H' ρ' (ok_out b1 k1).1 (hd ρ' i1)
theorem s_forL {j : Nat} (h : E w te ρ fun x => ∃ ds, x = .dat (.list ds) ∧ ∃ I : Nat → List Sl → Prop, I 0 ρ ∧
      (∀ (k : Nat) (d : PyData) (ρ' : List Sl), ds[k]? = some d → I k ρ' → Turns w ts e I k (ρ'.set j (.dat d))) ∧ ∀ ρ', I ds.length ρ' → e.nx ρ') :
    S w (tFor (iList w.K te) (gName j) ts) ρ e := by
  intro o σ H D ok kn kr kb kc
  refine h o σ H _ ok ?_
  rintro o1 H1 v x g1 r1 ⟨ds, rfl, I, h0, hs, hd⟩
  have ok1 := ok.go g1
  cases r1 with
  | lst hq ha =>
    rename_i a vs
    have ln := DdAll.len ha
    have b1 := ok1.toBas
    have okA := ok_in b1 ok1 (Same.refl _)
    refine ⟨a, rfl, ⟨vs, hid_le.seq hq⟩, ?_⟩
    refine for_it walk_list (fun k σ' H' => ∃ o' ρ', Ok (wAt w o1 H1) o' σ' H' ρ' ∧ I k ρ') ⟨o1, ρ, okA, h0⟩ (fun k σ' H' _ ⟨o', ρ', k1, _⟩ => hid_le.seq ((ok_out b1 k1).2.seq hq)) ?_ ?_
    · rintro k y σ2 H2 H3 hk ⟨o2, ρ2, ok2, i2⟩ ⟨rfl, e2⟩
      obtain ⟨_, s2⟩ := ok_out b1 ok2
      obtain ⟨d, hd1, rd⟩ := DdAll.gets (ddAll_mono s2 ha) e2
      refine hs k d ρ2 hd1 i2 (wAt w o1 H1).H0 o2 _ _ _ (ok2.setD j (x := .dat d) rd trivial) ?_ ?_ ?_ ?_
      · intro o' σ' H' ρ' a1 a2
        exact ⟨o', ρ', a1, a2⟩
      · intro o' H' v' d' a1 a2 a3
        exact kr o' H' v' d' (bas_out b1 a1).1 a2 a3
      · intro o' σ' H' ρ' a1 a2
        exact kn o' σ' H' ρ' (ok_out b1 a1).1 a2
      · intro o' σ' H' ρ' a1 a2
        exact ⟨o', ρ', a1, a2⟩
    · rintro σ' H' ⟨o', ρ', k1, i1⟩
      rw [ln] at i1
      exact kn o' σ' H' ρ' (ok_out b1 k1).1 (hd ρ' i1)
end
end DL

/-! Comprehensions told by what they make; sizes of ints; lists of fine data. -/
namespace DL
open PySem PySem.Spec PyProof.Rows L2 TL
section
variable {w : Wd} {ρ : List Sl} {P : Sl → Prop} {te tl : TE} {tt : TT} {tr : TA}
/-- [e for i in range(n)], the i-th item told by f -/
theorem e_lcFn {j : Nat} (f : Nat → PyData) (h : A w tr ρ fun xs => ∃ n : Int, xs = [.dat (.int n)] ∧ -(2 ^ 62) ≤ n ∧ n ≤ 1000000 ∧
      (∀ i : Nat, (i : Int) < n → E w te ((ρ.set j .no).set j (.dat (.int (i : Int)))) fun y => y = .dat (f i)) ∧ P (.dat (.list ((List.range n.toNat).map f)))) :
    E w (tLc (iRng1 tr) (gName j) tYes te [j]) ρ P := by
  refine e_lcR ?_
  intro o σ H Q ok k
  refine h o σ H Q ok ?_
  rintro o' H' vs xs g r ⟨n, hx, h1, h2, hs, hp⟩
  refine k o' H' vs xs g r ⟨n, hx, h1, h2, fun i acc => acc = (List.range i).map f, rfl, ?_, ?_⟩
  · rintro i acc hi rfl
    unfold Lc
    refine t_yes (iteT ?_)
    refine E.mono (hs i hi) ?_
    rintro x rfl
    refine ⟨_, rfl, ?_⟩
    show List.map f (List.range i) ++ [f i] = List.map f (List.range (i + 1))
    rw [List.range_succ, List.map_append]
    rfl
  · rintro acc rfl _
    exact hp
/-- [e for i in range(n)], each item an int of which Pr holds -/
theorem e_lcInts {j : Nat} (Pr : Int → Prop) (h : A w tr ρ fun xs => ∃ n : Int, xs = [.dat (.int n)] ∧ 0 ≤ n ∧ n ≤ 1000000 ∧
      (∀ i : Nat, (i : Int) < n → E w te ((ρ.set j .no).set j (.dat (.int (i : Int)))) fun y => ∃ z : Int, y = .dat (.int z) ∧ Pr z) ∧
      ∀ ns : List Int, (ns.length : Int) = n → (∀ z ∈ ns, Pr z) → P (.dat (.list (ns.map PyData.int)))) :
    E w (tLc (iRng1 tr) (gName j) tYes te [j]) ρ P := by
  refine e_lcR ?_
  intro o σ H Q ok k
  refine h o σ H Q ok ?_
  rintro o' H' vs xs g r ⟨n, hx, h1, h2, hs, hp⟩
  refine k o' H' vs xs g r ⟨n, hx, by omega, h2, fun i acc => ∃ ns : List Int, acc = ns.map PyData.int ∧ ns.length = i ∧ ∀ z ∈ ns, Pr z, ⟨[], rfl, rfl, fun _ z => nomatch z⟩, ?_, ?_⟩
  · rintro i acc hi ⟨ns, rfl, hl, ha⟩
    unfold Lc
    refine t_yes (iteT ?_)
    refine E.mono (hs i hi) ?_
    rintro x ⟨z, rfl, hz⟩
    refine ⟨_, rfl, ns ++ [z], by rw [List.map_append]; rfl, by rw [List.length_append, hl]; rfl, fun y hy => ?_⟩
    rcases List.mem_append.mp hy with hy | hy
    · exact ha y hy
    · rw [List.mem_singleton.mp hy]
      exact hz
  · rintro acc ⟨ns, rfl, hl, ha⟩ _
    exact hp ns (by omega) ha
/-- [1 for d in ds if ..] -/
theorem e_lcCnt {j : Nat} (g : PyData → Bool) (h : E w tl ρ fun x => ∃ ds, lstD x = some ds ∧ ds.length ≤ sizeLine ∧
      (∀ d ∈ ds, T w tt ((ρ.set j .no).set j (.dat d)) fun b => b = g d) ∧ P (.dat (.list (List.replicate (ds.filter g).length (.int 1))))) :
    E w (tLc (iList w.K tl) (gName j) tt (tC (.int 1)) [j]) ρ P := by
  refine e_lcL ?_
  refine E.mono h ?_
  rintro x ⟨ds, hx, hz, ht, hp⟩
  refine ⟨ds, hx, hz, fun i acc => acc = List.replicate ((ds.take i).filter g).length (.int 1), rfl, ?_, ?_⟩
  · rintro i d acc hd rfl
    unfold Lc
    have hm : d ∈ ds := List.mem_of_getElem? hd
    have e : ds.take (i + 1) = ds.take i ++ [d] := by
      rw [List.take_succ, hd]
      rfl
    intro o σ H Q ok k
    refine ht d hm o σ H Q ok ?_
    rintro o' H' b gg rfl
    refine k o' H' _ gg ?_
    cases q : g d with
    | true =>
      refine iteT (e_int ⟨_, rfl, ?_⟩)
      show _ = _
      rw [e, List.filter_append, List.length_append]
      simp [q, List.replicate_succ']
    | false =>
      refine iteF ?_
      show _ = _
      rw [e, List.filter_append, List.length_append]
      simp [q]
  · rintro acc rfl _
    rw [List.take_length]
    exact hp
end
/-- less than 2 to the b, without its sign -/
def Sm (b : Nat) (i : Int) : Prop := i.natAbs < 2 ^ b
instance (b : Nat) (i : Int) : Decidable (Sm b i) := inferInstanceAs (Decidable (i.natAbs < 2 ^ b))
theorem Sm.mono {a b : Nat} {i : Int} (h : Sm a i) (k : a ≤ b) : Sm b i := Nat.lt_of_lt_of_le h (Nat.pow_le_pow_right (by decide) k)
theorem Sm.mul {a b : Nat} {i j : Int} (h : Sm a i) (k : Sm b j) : Sm (a + b) (i * j) := by
  unfold Sm at *
  rw [Int.natAbs_mul, Nat.pow_add]
  exact Nat.mul_lt_mul'' h k
theorem Sm.neg {a : Nat} {i : Int} (h : Sm a i) : Sm a (-i) := by
  unfold Sm at *
  rw [Int.natAbs_neg]
  exact h
theorem Sm.add {a : Nat} {i j : Int} (h : Sm a i) (k : Sm a j) : Sm (a + 1) (i + j) := by
  unfold Sm at *
  have := Int.natAbs_add_le i j
  rw [Nat.pow_succ]
  omega
theorem Sm.sub {a : Nat} {i j : Int} (h : Sm a i) (k : Sm a j) : Sm (a + 1) (i - j) := by
  rw [Int.sub_eq_add_neg]
  exact h.add k.neg
theorem Sm.le {a : Nat} {i j : Int} (h : Sm a j) (h0 : 0 ≤ i) (h1 : i ≤ j) : Sm a i := by
  unfold Sm at *
  omega
theorem Sm.mulX {a b : Nat} {i j : Int} (h : Sm a i) (k : Sm b j) (l : a + b ≤ 134217728) : CMulB i j := .inl (mulx_ok h k l)
theorem Sm.log {a : Nat} {i : Int} (h : Sm a i) (ha : 0 < a) : i.natAbs.log2 < a := by
  by_cases h0 : i.natAbs = 0
  · rw [h0]
    exact ha
  · exact (Nat.log2_lt h0).mpr h
theorem Sm.fd {i j : Int} (h : Sm 9000 i) (hj : j ≠ 0) : CFd i j := by
  refine ⟨hj, ?_⟩
  unfold Builtin.divisionGoesByPylong
  have hl : i.natAbs.log2 < 9000 := h.log (by decide)
  simp only [Bool.and_eq_false_iff, decide_eq_false_iff_not]
  by_cases h1 : ¬ (if (j == 0) = true then 0 else j.natAbs.log2 / 30 + 1) > 300
  · exact .inl h1
  · refine .inr ?_
    have h2 := Classical.not_not.mp h1
    have : (if (i == 0) = true then 0 else i.natAbs.log2 / 30 + 1) ≤ 300 := by
      split <;> omega
    omega
theorem two_sm (k : Nat) : Sm (k + 1) (2 ^ k) := by
  unfold Sm
  rw [Int.natAbs_pow]
  exact Nat.pow_lt_pow_right (by decide) (by omega)
theorem Sm.shl {a : Nat} {i j : Int} (h : Sm a i) (hj : 0 ≤ j) (l : a + j.toNat ≤ 134217728) : CShl i j := by
  obtain ⟨k, rfl⟩ : ∃ k : Nat, j = (k : Int) := ⟨j.toNat, by omega⟩
  exact shl_ok h (by simpa using l)
/-- all of them fine -/
theorem fines_all {m k : Nat} : ∀ {ds : List PyData}, (∀ d ∈ ds, Fine m k d) → Fines ((m + 2) * ds.length) k ds
  | [], _ => ⟨rfl, rfl, Nat.zero_le _, Nat.zero_le _⟩
  | d :: ds, h => by
    have t := fine_cons (h d (List.mem_cons_self ..)) (fines_all fun e he => h e (List.mem_cons_of_mem _ he))
    refine ⟨t.num, t.lay, Nat.le_trans t.len ?_, Nat.le_trans t.deep (by rw [Nat.max_self]; exact Nat.le_refl _)⟩
    rw [List.length_cons, Nat.mul_succ]
    omega
theorem atI_of {α : Type} {xs : List α} {i : Nat} {x : α} (h : xs[i]? = some x) : atI xs (i : Int) = some x := by
  have hl : i < xs.length := (List.getElem?_eq_some_iff.mp h).1
  unfold atI ixN
  rw [if_pos (by omega), if_pos (by omega)]
  simpa using h
theorem of_atI {α : Type} {xs : List α} {i : Int} {x : α} (h0 : 0 ≤ i) (h : atI xs i = some x) : xs[i.toNat]? = some x := by
  unfold atI ixN at h
  rw [if_pos h0] at h
  by_cases hl : i < (xs.length : Int)
  · rw [if_pos hl] at h
    exact h
  · rw [if_neg hl] at h
    cases h
theorem map_getE {α β : Type} {f : α → β} {xs : List α} {i : Nat} {y : β} (h : (xs.map f)[i]? = some y) : ∃ x, xs[i]? = some x ∧ y = f x := by
  rw [List.getElem?_map] at h
  cases q : xs[i]? with
  | none =>
    rw [q] at h
    cases h
  | some x =>
    rw [q] at h
    exact ⟨x, rfl, (Option.some.inj h).symm⟩
theorem cutD_take {ds : List PyData} {i : Int} (h0 : 0 ≤ i) (h1 : i ≤ (ds.length : Int)) : cutD ds none (some i) = ds.take i.toNat := by
  obtain ⟨k, rfl⟩ : ∃ k : Nat, i = (k : Int) := ⟨i.toNat, by omega⟩
  have e1 := HT.sIx_none ds.length 0
  have e2 := HT.sIx_nat ds.length ds.length k
  unfold cutD
  rw [e1, e2]
  simp
end DL

/-! The rules that name the frag, told for a frag that is given: so they can stand in blocks within blocks. -/
namespace DL
open PySem PySem.Spec PyProof.Rows L2
section
variable {X : Cx} {K : PySem.W.Frag}
theorem call_lenK (h : X.K = K) : CallR X (.builtin "len") (fun xs H Q => ∃ x n, xs = [x] ∧ LenV K x H n ∧ Q (.int n) H) := by
  subst h
  exact call_len
theorem call_sumK (h : X.K = K) (calm : X.calm = true) : CallR X (.builtin "sum") (rSumA K) := by
  subst h
  exact call_sumA calm
theorem op_eqK (h : X.K = K) (hu : X.A.units + 64 < cLine) : OpR X (compareOp .Eq) (orR rEqSt (rEqE K)) := by
  subst h
  exact op_eqG hu
/-- texts are unlike, or data are -/
def rNeSt : R2 := fun x y H Q => ∃ i j : Str, x = .str i ∧ y = .str j ∧ Q (.bl (!decide (i = j))) H
theorem op_neSt : OpR X (compareOp .NotEq) rNeSt := by
  intro pins s σ H x y u v Q I rx ry h
  obtain ⟨i, j, rfl, rfl, q⟩ := h
  refine op_ne pins s σ H _ _ u v Q I rx ry ⟨rfl, ?_⟩
  have e : decide (V.str i = V.str j) = decide (i = j) := by
    by_cases h : i = j
    · rw [h]
      simp
    · rw [decide_eq_false h, decide_eq_false fun z => h (by injection z)]
  rw [e]
  exact q
theorem op_neK (h : X.K = K) (hu : X.A.units + 64 < cLine) : OpR X (compareOp .NotEq) (orR rNeSt (rNeE K)) := by
  subst h
  exact opr_or op_neSt (op_neE hu)
theorem pi_listK {tg l : Expr} {tl : TE} (h : X.K = K) (hl : PE X l tl) : PI X tg l (iList K tl) := by
  subst h
  exact pi_list hl
theorem ix_seqK (h : X.K = K) : IxR X (rIx K) := by
  subst h
  exact ix_seq
theorem call_tupleK (h : X.K = K) : CallR X (.type "tuple") (fun xs H Q => ∃ p ys, xs = [.ref p] ∧ ((SqL K H p ys ∧ ∀ l, H l = none → Q (.ref l) (upd H l (.tup ys))) ∨ (SqT K H p ys ∧ Q (.ref p) H))) := by
  subst h
  exact call_tuple_of
theorem call_listK (h : X.K = K) : CallR X (.type "list") (fun xs H Q => ∃ p ys, xs = [.ref p] ∧ (SqL K H p ys ∨ SqT K H p ys) ∧ ∀ l, H l = none → Q (.ref l) (upd H l (.lst ys))) := by
  subst h
  exact call_list_of
end
theorem op2_neSt {w : Wd} : Op2 w rNeSt (fun x y P => ∃ i j : Str, x = .dat (.str i) ∧ y = .dat (.str j) ∧ P (.dat (.bool (!decide (i = j))))) := by
  rintro o H u v x y P Q b ru rv ⟨i, j, rfl, rfl, q⟩ k
  cases ru
  cases rv
  exact ⟨i, j, rfl, rfl, k o H _ _ b.refl (VR.dat (Dd.bl _)) q⟩
end DL

/-! Walks over a list or a tuple, whichever; zip of any two of these; chains of two comparisons. -/
namespace DL
open PySem PySem.Spec PyProof.Rows L2 TL

/-! ### one or the other -/
def SqB (b : Bool) (K : PySem.W.Frag) (H : Hp) (a : Addr) (xs : List V) : Prop := match b with
  | true => SqT K H a xs
  | false => SqL K H a xs
theorem SqB.mono {b : Bool} {K : PySem.W.Frag} {H H' : Hp} {a : Addr} {xs : List V} (s : Same H H') (h : SqB b K H a xs) : SqB b K H' a xs := by
  cases b with
  | true => exact sqT_mono s h
  | false => exact s.seq h
def IsItB (b : Bool) (h : Heap) (c a : Addr) (i : Nat) : Prop := match b with
  | true => h.IsTupleIter c a i
  | false => h.IsListIter c a i
def IsSqB (b : Bool) (h : Heap) (a : Addr) (us : Array Value) : Prop := match b with
  | true => h.IsTuple a us
  | false => h.IsList a us
def itO (b : Bool) (a : Addr) : Obj := match b with
  | true => { cls := .type "tuple_iterator", data := .fields #[.ref a, .int 0 0] }
  | false => { cls := .type "list_iterator", data := .fields #[.ref a, .int 0 0] }
theorem beginsB (b : Bool) (a : Addr) (us : Array Value) : Begins (.ref a) (itO b a) fun h => IsSqB b h a us := by
  cases b with
  | true => exact begins_tuple a us
  | false => exact begins_list a us
theorem drawsB {P : Program} {w : World} {A : Around} (b : Bool) (hh : A.handled = none) (c a : Addr) (ne : a ≠ c) (us : Array Value) :
    Draws P w A c [c, a] us.size (fun i v => us[i]? = some v) (fun i h => IsItB b h c a i ∧ IsSqB b h a us) := by
  cases b with
  | true => exact Draws.tuple hh c a ne us
  | false => exact Draws.list hh c a ne us
theorem isItB_new {b : Bool} {h : Heap} {c a : Addr} (e : h.get? c = some (itO b a)) : IsItB b h c a 0 := by
  cases b with
  | true => exact ⟨_, e, rfl, rfl⟩
  | false => exact ⟨_, e, rfl, rfl⟩
theorem isItB_obj {b : Bool} {h : Heap} {c a : Addr} {i : Nat} (e : IsItB b h c a i) : ∃ o, h.get? c = some o ∧ ∀ v, o.data ≠ .cell v := by
  cases b with
  | true =>
    obtain ⟨o, e1, _, d⟩ := e
    exact ⟨o, e1, fun v z => by rw [d] at z; cases z⟩
  | false =>
    obtain ⟨o, e1, _, d⟩ := e
    exact ⟨o, e1, fun v z => by rw [d] at z; cases z⟩
theorem isItB_at {b : Bool} {h h' : Heap} {c a : Addr} {i : Nat} (e : IsItB b h c a i) (k : ∀ o, h.get? c = some o → h'.get? c = some o) : IsItB b h' c a i := by
  cases b with
  | true => exact Heap.IsTupleIter.at e k
  | false => exact Heap.IsListIter.at e k
section
variable {X : Cx} {pins : List (Addr × Obj)} {σ : L2.St} {H : Hp} {s : Shared} {a : Addr} {xs ys : List V}
theorem inv_sqB (I : Inv X pins σ H s) {b : Bool} (h : SqB b X.K H a xs) : ∃ us : List Value, Vals xs us ∧ IsSqB b s.heap a us.toArray ∧ a < s.heap.objs.size := by
  cases b with
  | true =>
    obtain ⟨us, r, p, _⟩ := I.tuple h
    obtain ⟨_, z, _⟩ := id p
    exact ⟨us, r, p, Heap.lt_size z⟩
  | false =>
    obtain ⟨us, r, p, _⟩ := I.list h
    exact ⟨us, r, p.isList, p.lt⟩
theorem inv_injB (I : Inv X pins σ H s) {b : Bool} (h1 : SqB b X.K H a xs) (h2 : SqB b X.K H a ys) : xs = ys := by
  cases b with
  | true => exact I.tuple_inj h1 h2
  | false => exact I.list_inj h1 h2
end

/-! ### zip -/
def ItzB (K : PySem.W.Frag) (b1 b2 : Bool) (a b : Addr) : It where
  go := fun i H => ∃ (xs ys : List V), SqB b1 K H a xs ∧ SqB b2 K H b ys ∧ i < xs.length ∧ i < ys.length
  yld := fun i H v H' => ∃ p x y, v = .ref p ∧ H p = none ∧ H' = upd H p (.tup [x, y]) ∧ (∀ xs, SqB b1 K H a xs → xs[i]? = some x) ∧ ∀ ys, SqB b2 K H b ys → ys[i]? = some y
  stop := fun i H => ∃ xs ys : List V, SqB b1 K H a xs ∧ SqB b2 K H b ys ∧ min xs.length ys.length = i
def zipFp (N : Nat) : List Addr := [N + 4, N + 2, N + 3, N, N + 1]
def TnZ (N : Nat) (b1 b2 : Bool) (a b : Addr) (i : Nat) (h : Heap) : Prop :=
  IsZip h (N + 4) (N + 2) (N + 3) .none ∧ IsTupOf2 h (N + 2) (.ref N) (.ref (N + 1)) ∧ (∃ v1 v2, IsTupOf2 h (N + 3) v1 v2) ∧ IsItB b1 h N a i ∧ IsItB b2 h (N + 1) b i
theorem five {N c : Nat} (h : c ∈ zipFp N) : c = N + 4 ∨ c = N + 2 ∨ c = N + 3 ∨ c = N ∨ c = N + 1 := by simpa [zipFp] using h
theorem turn_zipB {P : Program} {w : World} {K : PySem.W.Frag} {es : List Expr} {n0 : Nat} {ps : Pos} (N : Nat) (b1 b2 : Bool) (a b : Addr) (la : a < N) (lb : b < N) :
    Turn P w K (.Tuple es n0 ps) (ItzB K b1 b2 a b) (zipFp N) (N + 4) (TnZ N b1 b2 a b) := by
  have m4 : (N + 4) ∈ zipFp N := by simp [zipFp]
  have m2 : (N + 2) ∈ zipFp N := by simp [zipFp]
  have m3 : (N + 3) ∈ zipFp N := by simp [zipFp]
  have m0 : N ∈ zipFp N := by simp [zipFp]
  have m1 : (N + 1) ∈ zipFp N := by simp [zipFp]
  have wr : ∀ c : Addr, c ∉ zipFp N → c ∉ [N + 4, N + 3, N, N + 1] := by
    intro c hc hm
    refine hc ?_
    have e : c = N + 4 ∨ c = N + 3 ∨ c = N ∨ c = N + 1 := by simpa using hm
    rcases e with rfl | rfl | rfl | rfl <;> assumption
  have W : ∀ (X : Cx) (us1 us2 : List Value), X.A.handled = none →
      WalksT X.prog X.w X.A (N + 4) _ _ _ _ _ _ := fun X us1 us2 hh =>
    WalksT.zipD2 (zip_sep2 (N := N) (fp1 := [a]) (fp2 := [b]) (by simpa using la) (by simpa using lb))
      (drawsB (P := X.prog) (w := X.w) (A := X.A.in1) b1 hh N a (Nat.ne_of_lt la) us1.toArray)
      (drawsB (P := X.prog) (w := X.w) (A := X.A.in1) b2 hh (N + 1) b (Nat.ne_of_lt (Nat.lt_succ_of_lt lb)) us2.toArray)
  refine ⟨m4, ?_, ?_, ?_, ?_, ?_⟩
  · rintro i h ⟨z, t, ⟨v1, v2, o⟩, i1, i2⟩ c hc
    rcases five hc with rfl | rfl | rfl | rfl | rfl
    · exact ⟨_, z, fun _ q => nomatch q⟩
    · exact ⟨_, t, fun _ q => nomatch q⟩
    · exact ⟨_, o, fun _ q => nomatch q⟩
    · exact isItB_obj i1
    · exact isItB_obj i2
  · rintro i h h1 ⟨z, t, ⟨v1, v2, o⟩, i1, i2⟩ kp
    exact ⟨kp _ m4 _ z, kp _ m2 _ t, ⟨v1, v2, kp _ m3 _ o⟩, isItB_at i1 fun o e => kp _ m0 o e, isItB_at i2 fun o e => kp _ m1 o e⟩
  · intro X eP ew eK calm i pins s σ H E1 I fp st hgo
    subst eP ew eK
    obtain ⟨z, t, ⟨v1, v2, o⟩, i1, i2⟩ := st
    obtain ⟨xs, ys, hx, hy, lx, ly⟩ := hgo
    obtain ⟨us1, r1, p1, _⟩ := inv_sqB I hx
    obtain ⟨us2, r2, p2, _⟩ := inv_sqB I hy
    have hh : X.A.handled = none := I.ok.hd calm
    have e1 : us1.toArray.size = xs.length := by rw [List.size_toArray, r1.length]
    have e2 : us2.toArray.size = ys.length := by rw [List.size_toArray, r2.length]
    refine (W X us1 us2 hh).item i s _ _ (by rw [e1, e2]; omega) ⟨z, t, ⟨v1, v2, o⟩, ⟨i1, p1⟩, i2, p2⟩ fun T vals h1 tk pv hT isT mid kp => ?_
    obtain ⟨u1, u2, q1, q2, rfl⟩ := pv
    have apart := (W X us1 us2 hh).apart _ _ _ mid
    refine ⟨_, rfl, (W X us1 us2 hh).go es n0 ps i T { s with heap := h1, toks := tk } _ _ mid fun h2 st2 kp2 => ?_⟩
    obtain ⟨x, hx1, rx⟩ : ∃ x, xs[i]? = some x ∧ RelV x u1 := by
      obtain ⟨u, hu, ru⟩ := r1.get (List.getElem?_eq_getElem lx)
      have : us1.toArray[i]? = some u := by simpa using hu
      rw [this] at q1
      cases q1
      exact ⟨_, List.getElem?_eq_getElem lx, ru⟩
    obtain ⟨y, hy1, ry⟩ : ∃ y, ys[i]? = some y ∧ RelV y u2 := by
      obtain ⟨u, hu, ru⟩ := r2.get (List.getElem?_eq_getElem ly)
      have : us2.toArray[i]? = some u := by simpa using hu
      rw [this] at q2
      cases q2
      exact ⟨_, List.getElem?_eq_getElem ly, ru⟩
    have nu : ObjOk X.prog X.w (upd H T (.tup [x, y])) h2 T (.tup [x, y]) :=
      ⟨by show 2 ≤ sizeLine; decide, [u1, u2], .cons rx (.cons ry .nil), isT.at fun o e => kp2 _ o apart e⟩
    have I1 : Inv X pins σ (upd H T (.tup [x, y])) { s with heap := h2, toks := tk } :=
      I.turnedNew (ch := zipFp N) (fun c ob hc e => kp2 c ob (wr c hc) (kp c ob (wr c hc) e)) fp hT nu
    have lt : ∀ c ∈ zipFp N, c < s.heap.objs.size := by
      intro c hc
      rcases five hc with rfl | rfl | rfl | rfl | rfl
      · exact Heap.lt_size z
      · exact Heap.lt_size t
      · exact Heap.lt_size o
      · obtain ⟨_, e, _⟩ := isItB_obj i1
        exact Heap.lt_size e
      · obtain ⟨_, e, _⟩ := isItB_obj i2
        exact Heap.lt_size e
    refine ⟨.ref T, _, I1, rfl, ⟨T, x, y, rfl, I.hok.fresh hT, rfl, fun zs hz => ?_, fun zs hz => ?_⟩, ⟨st2.1, st2.2.1, st2.2.2.1, st2.2.2.2.1.1, st2.2.2.2.2.1⟩, fun c hc => ?_⟩
    · rw [inv_injB I hz hx]
      exact hx1
    · rw [inv_injB I hz hy]
      exact hy1
    · rw [upd_ne (Nat.ne_of_lt (Nat.lt_of_lt_of_le (lt c hc) hT))]
      exact (fp c hc).1
  · intro X eP ew eK calm i pins s σ H E1 I fp st hend
    subst eP ew eK
    obtain ⟨z, t, ⟨v1, v2, o⟩, i1, i2⟩ := st
    obtain ⟨xs, ys, hx, hy, he⟩ := hend
    obtain ⟨us1, r1, p1, _⟩ := inv_sqB I hx
    obtain ⟨us2, r2, p2, _⟩ := inv_sqB I hy
    have hh : X.A.handled = none := I.ok.hd calm
    have e1 : us1.toArray.size = xs.length := by rw [List.size_toArray, r1.length]
    have e2 : us2.toArray.size = ys.length := by rw [List.size_toArray, r2.length]
    refine (W X us1 us2 hh).done s _ _ (by rw [e1, e2, he]; exact ⟨z, t, ⟨v1, v2, o⟩, ⟨i1, p1⟩, i2, p2⟩) fun h1 tk kp => ⟨rfl, ?_⟩
    exact I.turnedL (ch := zipFp N) (fun c ob hc e => kp c ob (wr c hc) e) fp
  · rintro A1 i s Q E1 ⟨z, _⟩ h
    exact wpAny_pyIter_zip z h
theorem walk_zipB {K : PySem.W.Frag} {b1 b2 : Bool} {a b : Addr} {xs ys : List V} : Walk (ItzB K b1 b2 a b) (min xs.length ys.length) (fun H => SqB b1 K H a xs ∧ SqB b2 K H b ys) (YPair (fun i => xs[i]?) (fun i => ys[i]?)) := by
  refine ⟨fun i H hi q => ⟨xs, ys, q.1, q.2, by omega, by omega⟩, fun H q => ⟨xs, ys, q.1, q.2, rfl⟩, fun i H v H' hi q y => ?_⟩
  obtain ⟨p, x, z, h1, h2, h3, h4, h5⟩ := y
  exact ⟨p, x, z, h1, h2, h3, h4 xs q.1, h5 ys q.2⟩
def iZipB (K : PySem.W.Frag) (ta : TA) : TI := fun σ H R => ta σ H fun vs H1 => ∃ b1 b2 a b xs ys, vs = [.ref a, .ref b] ∧ SqB b1 K H1 a xs ∧ SqB b2 K H1 b ys ∧ R (ItzB K b1 b2 a b) H1
section
variable {X : Cx} {K : PySem.W.Frag}
theorem pi_zipB {e e2 : Expr} {ta : TA} {p pos tpos : Pos} {es : List Expr} {kk : Nat} (hK : X.K = K) (hg : Gl X "zip") (hm : X.mg "zip" = none) (ha : PA X [e, e2] ta)
    (hs : starEach [e, e2] X.env = (false, eval e X.env) :: starEach [e2] X.env := by rfl) (hpl : (backTo pos (starEach [e2] X.env)).any (·.1) = false := by rfl) :
    PI X (.Tuple es kk tpos) (.Call (.Name "zip" p) [e, e2] [] pos) (iZipB K ta) := by
  subst hK
  refine ⟨fun pins s σ H R I hyp => ?_⟩
  refine Call_ (ld_blt I hg hm PyProof.Rows.boot_zip (PyProof.Rows.callWith_type1 (thn (ha.run pos pins s σ H _ I hyp) fun us s1 ⟨vs, H1, I1, r1, q1⟩ => ?_) hs hpl))
  obtain ⟨b1, b2, a, b, xs, ys, rfl, hx, hy, q⟩ := q1
  cases r1 with
  | cons r rr =>
    cases rr with
    | cons r' rr =>
      cases rr
      cases r
      cases r'
      obtain ⟨us1, v1, p1, l1⟩ := inv_sqB I1 hx
      obtain ⟨us2, v2, p2, l2⟩ := inv_sqB I1 hy
      refine zip_begins2 (beginsB b1 a us1.toArray) (beginsB b2 b us2.toArray) p1 p2 fun h1 z t o i1 i2 sz kp => wpAny_pyIter_zip z ?_
      refine ⟨s1.heap.objs.size + 4, zipFp s1.heap.objs.size, _, _, H1, rfl, I1.kept (t' := s1.toks) kp, turn_zipB s1.heap.objs.size b1 b2 a b l1 l2, ⟨z, t, ⟨_, _, o⟩, isItB_new i1, isItB_new i2⟩, fun c hc => ?_, q⟩
      have lo : s1.heap.objs.size ≤ c := by
        rcases five hc with e | e | e | e | e <;> rw [e]
        · exact Nat.le_add_right _ _
        · exact Nat.le_add_right _ _
        · exact Nat.le_add_right _ _
        · exact Nat.le_refl _
        · exact Nat.le_add_right _ _
      exact I1.fpOk lo (I1.hok.fresh lo)

/-! ### x, of a list or a tuple -/
def iSeq (K : PySem.W.Frag) (tl : TE) : TI := fun σ H R => tl σ H fun x H1 => ∃ a xs, x = .ref a ∧ ((SqL K H1 a xs ∧ R (Itl K a) H1) ∨ (SqT K H1 a xs ∧ R (Itt K a) H1))
theorem pi_seqK {tg l : Expr} {tl : TE} (hK : X.K = K) (hl : PE X l tl) : PI X tg l (iSeq K tl) := by
  subst hK
  refine ⟨fun pins s σ H R I hyp => ?_⟩
  refine thn (hl.run pins s σ H _ I hyp) fun v s1 ⟨x, H1, I1, r1, a, xs, ex, q1⟩ => ?_
  subst ex
  cases r1
  have new : ∀ b ∈ [s1.heap.objs.size], FpOk X pins H1 b := fun b hb => by
    rw [List.mem_singleton.mp hb]
    exact I1.fpOk (Nat.le_refl _) (I1.hok.fresh (Nat.le_refl _))
  rcases q1 with ⟨hq, q⟩ | ⟨hq, q⟩
  · obtain ⟨us, rv, p, _⟩ := I1.list hq
    exact wpAny_pyIter_list p.isList ⟨s1.heap.objs.size, [s1.heap.objs.size], _, _, H1, rfl, I1.kept (t' := s1.toks) fun b o e => Heap.get?_push_of_some _ e, turn_list a _, ⟨_, Heap.get?_push_size _ rfl, rfl, rfl⟩, new, q⟩
  · obtain ⟨us, rv, p, _⟩ := I1.tuple hq
    exact wpAny_pyIter_tuple (show s1.heap.IsTuple a us.toArray from p) ⟨s1.heap.objs.size, [s1.heap.objs.size], _, _, H1, rfl, I1.kept (t' := s1.toks) fun b o e => Heap.get?_push_of_some _ e, turn_tuple a _, ⟨_, Heap.get?_push_size _ rfl, rfl, rfl⟩, new, q⟩
end
section
variable {w : Wd} {o o1 : Addr → Prop} {H H1 : Hp} {ρ : List Sl} {P : Sl → Prop} {te ta tb tc tl : TE} {tt : TT} {tr : TA} {ts : TS} {e : En}
/-- a chain of two comparisons of ints -/
theorem e_chain {f g : Int → Int → Bool} (h : E w ta ρ fun x => E w tb ρ fun y => ∃ i j, x = .dat (.int i) ∧ y = .dat (.int j) ∧
      if f i j = true then E w tc ρ fun z => ∃ k, z = .dat (.int k) ∧ P (.dat (.bool (g j k))) else P (.dat (.bool false))) :
    E w (tChain (rI0 fun i j => .bl (f i j)) (rI0 fun i j => .bl (g i j)) ta tb tc) ρ P := by
  intro o σ H Q ok k
  refine h o σ H _ ok ?_
  intro o1 H1 v x g1 r1 q1
  refine q1 o1 σ H1 _ (ok.go g1) ?_
  rintro o2 H2 u y g2 r2 ⟨i, j, rfl, rfl, q⟩
  cases r1
  cases r2
  refine ⟨i, j, rfl, rfl, f i j, rfl, ?_⟩
  cases hf : f i j with
  | false =>
    rw [hf] at q
    exact k o2 H2 _ _ (g1.trans g2) (VR.dat (Dd.bl _)) q
  | true =>
    rw [hf] at q
    refine q o2 σ H2 _ (ok.go (g1.trans g2)) ?_
    rintro o3 H3 t z g3 r3 ⟨m, rfl, q3⟩
    cases r3
    exact ⟨j, m, rfl, rfl, k o3 H3 _ _ ((g1.trans g2).trans g3) (VR.dat (Dd.bl _)) q3⟩
theorem VR.seqB {ds : List PyData} {c : PyData} {v : V} (r : VR w o H v (.dat c)) (h : seqD (.dat c) = some ds) : ∃ b a vs, v = .ref a ∧ DdAll w.K (hid H o) vs ds ∧ SqB b w.K (hid H o) a vs := by
  obtain ⟨a, vs, e, ha, hs | hs⟩ := r.seqDat h
  · exact ⟨false, a, vs, e, ha, hs⟩
  · exact ⟨true, a, vs, e, ha, hs⟩
/-- for x, y in zip(a, b) -/
theorem s_forZ {i j m : Nat} (hm : m = 2) (h : A w tr ρ fun xs => ∃ c1 c2 ds es, xs = [.dat c1, .dat c2] ∧ seqD (.dat c1) = some ds ∧ seqD (.dat c2) = some es ∧ ∃ I : Nat → List Sl → Prop, I 0 ρ ∧
      (∀ (k : Nat) (d1 d2 : PyData) (ρ' : List Sl), ds[k]? = some d1 → es[k]? = some d2 → I k ρ' → Turns w ts e I k ((ρ'.set i (.dat d1)).set j (.dat d2))) ∧ ∀ ρ', I (min ds.length es.length) ρ' → e.nx ρ') :
    S w (tFor (iZipB w.K tr) (gTup w.K m (gCons (gName i) (gCons (gName j) gNil))) ts) ρ e := by
  subst hm
  intro o σ H D ok kn kr kb kc
  refine h o σ H _ ok ?_
  rintro o1 H1 us xs g1 r1 ⟨c1, c2, ds, es, rfl, hx, hy, I, h0, hs, hd⟩
  have ok1 := ok.go g1
  cases r1 with
  | cons ra rt =>
    cases rt with
    | cons rb rt =>
      cases rt
      obtain ⟨b1, a, vs, rfl, ha, hq⟩ := VR.seqB ra hx
      obtain ⟨b2, b, ws, rfl, hb, hr⟩ := VR.seqB rb hy
      have l1 := DdAll.len ha
      have l2 := DdAll.len hb
      have bs1 := ok1.toBas
      have okA := ok_in bs1 ok1 (Same.refl _)
      refine ⟨b1, b2, a, b, vs, ws, rfl, hq.mono hid_le, hr.mono hid_le, ?_⟩
      refine for_it walk_zipB (fun k σ' H' => ∃ o' ρ', Ok (wAt w o1 H1) o' σ' H' ρ' ∧ I k ρ') ⟨o1, ρ, okA, h0⟩
        (fun k σ' H' _ ⟨o', ρ', k1, _⟩ => ⟨((hq.mono (ok_out bs1 k1).2)).mono hid_le, ((hr.mono (ok_out bs1 k1).2)).mono hid_le⟩) ?_ ?_
      · rintro k y σ2 H2 H3 hk ⟨o2, ρ2, ok2, i2⟩ ⟨p, u1, u2, rfl, np, rfl, e1, e2⟩
        obtain ⟨_, s2⟩ := ok_out bs1 ok2
        obtain ⟨d1, hd1, rd1⟩ := DdAll.gets (ddAll_mono s2 ha) e1
        obtain ⟨d2, hd2, rd2⟩ := DdAll.gets (ddAll_mono s2 hb) e2
        have g := ok2.toBas.new (u := .tup [u1, u2]) np
        refine ⟨p, _, rfl, .inl (.inl upd_same), rfl, _, _, rfl, _, _, rfl, rfl, ?_⟩
        refine hs k d1 d2 ρ2 hd1 hd2 i2 (wAt w o1 H1).H0 o2 _ _ _ (((ok2.go g).setD i (x := .dat d1) (dd_mono g.same rd1) trivial).setD j (x := .dat d2) (dd_mono g.same rd2) trivial) ?_ ?_ ?_ ?_
        · intro o' σ' H' ρ' a1 a2
          exact ⟨o', ρ', a1, a2⟩
        · intro o' H' v' d' a1 a2 a3
          exact kr o' H' v' d' (bas_out bs1 a1).1 a2 a3
        · intro o' σ' H' ρ' a1 a2
          exact kn o' σ' H' ρ' (ok_out bs1 a1).1 a2
        · intro o' σ' H' ρ' a1 a2
          exact ⟨o', ρ', a1, a2⟩
      · rintro σ' H' ⟨o', ρ', k1, i1⟩
        rw [l1, l2] at i1
        exact kn o' σ' H' ρ' (ok_out bs1 k1).1 (hd ρ' i1)
/-- for x in a -/
theorem s_forS {j : Nat} (h : E w te ρ fun x => ∃ c ds, x = .dat c ∧ seqD (.dat c) = some ds ∧ ∃ I : Nat → List Sl → Prop, I 0 ρ ∧
      (∀ (k : Nat) (d : PyData) (ρ' : List Sl), ds[k]? = some d → I k ρ' → Turns w ts e I k (ρ'.set j (.dat d))) ∧ ∀ ρ', I ds.length ρ' → e.nx ρ') :
    S w (tFor (iSeq w.K te) (gName j) ts) ρ e := by
  intro o σ H D ok kn kr kb kc
  refine h o σ H _ ok ?_
  rintro o1 H1 v x g1 r1 ⟨c, ds, rfl, hx, I, h0, hs, hd⟩
  have ok1 := ok.go g1
  obtain ⟨a, vs, rfl, ha, hq⟩ := r1.seqDat hx
  have ln := DdAll.len ha
  have b1 := ok1.toBas
  have okA := ok_in b1 ok1 (Same.refl _)
  have fin : ∀ σ' H', (∃ o' ρ', Ok (wAt w o1 H1) o' σ' H' ρ' ∧ I vs.length ρ') → D.nx σ' H' := by
    rintro σ' H' ⟨o', ρ', k1, i1⟩
    rw [ln] at i1
    exact kn o' σ' H' ρ' (ok_out b1 k1).1 (hd ρ' i1)
  have step : ∀ (k : Nat) (y : V) (σ2 : L2.St) (H2 H3 : Hp), k < vs.length → (∃ o' ρ', Ok (wAt w o1 H1) o' σ2 H2 ρ' ∧ I k ρ') → YAt vs k H2 y H3 →
      gName j y σ2 H3 fun σ4 H4 => ts { D with
        nx := fun σ' H' => ∃ o' ρ', Ok (wAt w o1 H1) o' σ' H' ρ' ∧ I (k + 1) ρ',
        ct := fun σ' H' => ∃ o' ρ', Ok (wAt w o1 H1) o' σ' H' ρ' ∧ I (k + 1) ρ', bk := D.nx } σ4 H4 := by
    rintro k y σ2 H2 H3 hk ⟨o2, ρ2, ok2, i2⟩ ⟨rfl, e2⟩
    obtain ⟨_, s2⟩ := ok_out b1 ok2
    obtain ⟨d, hd1, rd⟩ := DdAll.gets (ddAll_mono s2 ha) e2
    refine hs k d ρ2 hd1 i2 (wAt w o1 H1).H0 o2 _ _ _ (ok2.setD j (x := .dat d) rd trivial) ?_ ?_ ?_ ?_
    · intro o' σ' H' ρ' a1 a2
      exact ⟨o', ρ', a1, a2⟩
    · intro o' H' v' d' a1 a2 a3
      exact kr o' H' v' d' (bas_out b1 a1).1 a2 a3
    · intro o' σ' H' ρ' a1 a2
      exact kn o' σ' H' ρ' (ok_out b1 a1).1 a2
    · intro o' σ' H' ρ' a1 a2
      exact ⟨o', ρ', a1, a2⟩
  refine ⟨a, vs, rfl, ?_⟩
  rcases hq with hq | hq
  · refine .inl ⟨hid_le.seq hq, ?_⟩
    exact for_it walk_list (fun k σ' H' => ∃ o' ρ', Ok (wAt w o1 H1) o' σ' H' ρ' ∧ I k ρ') ⟨o1, ρ, okA, h0⟩
      (fun k σ' H' _ ⟨o', ρ', k1, _⟩ => hid_le.seq ((ok_out b1 k1).2.seq hq)) step fin
  · refine .inr ⟨sqT_mono hid_le hq, ?_⟩
    exact for_it walk_tup (fun k σ' H' => ∃ o' ρ', Ok (wAt w o1 H1) o' σ' H' ρ' ∧ I k ρ') ⟨o1, ρ, okA, h0⟩
      (fun k σ' H' _ ⟨o', ρ', k1, _⟩ => sqT_mono hid_le (sqT_mono (ok_out b1 k1).2 hq)) step fin
/-- [e for x in a if ..] -/
theorem e_lcS {j : Nat} (h : E w tl ρ fun x => ∃ c ds, x = .dat c ∧ seqD (.dat c) = some ds ∧ ds.length ≤ sizeLine ∧ ∃ I : Nat → List PyData → Prop, I 0 [] ∧
      (∀ i d acc, ds[i]? = some d → I i acc → Lc w tt te ((ρ.set j .no).set j (.dat d)) I i acc) ∧ ∀ acc, I ds.length acc → acc.length ≤ ds.length → P (.dat (.list acc))) : E w (tLc (iSeq w.K tl) (gName j) tt te [j]) ρ P := by
  intro o σ H Q ok k
  refine h o σ H _ ok ?_
  rintro o1 H1 v x g1 r1 ⟨c, ds, rfl, hx, hz, I, h0, hs, hp⟩
  have ok1 := ok.go g1
  obtain ⟨b, a, vs, rfl, ha, hq⟩ := VR.seqB r1 hx
  have ln := DdAll.len ha
  have kp : ∀ o2 H2, Go w o1 H1 o2 H2 → SqB b w.K H2 a vs ∧ DdAll w.K (hid H2 o2) vs ds := fun o2 H2 g => ⟨(hq.mono g.same).mono hid_le, ddAll_mono g.same ha⟩
  have main : ∀ (D : Addr) (hD : H1 D = none) (J : It), Walk J vs.length (fun H => SqB b w.K H a vs) (YAt vs) → ∃ W : Nat → Nat → Hp → Prop, (∃ m, W 0 m (upd H1 D (.lst []))) ∧ ∀ i m H, W i m H →
      (J.stop i H ∧ Q (.ref D) H) ∨ (J.go i H ∧ ∃ Nx : Hp → Prop, (∀ H', Nx H' → ∃ m', m' < m ∧ W (i + 1) m' H') ∧ ∀ x H', J.yld i H x H' → gName j x (wipe σ [j]) H' fun σ2 H2 => wipe σ2 [j] = wipe σ [j] ∧ tt σ2 H2 fun b H3 =>
        if b = true then te σ2 H3 fun y H4 => ∃ acc, H4 D = some (.lst acc) ∧ acc.length < sizeLine ∧ Nx (upd H4 D (.lst (acc ++ [y]))) else Nx H3) := by
    intro D hD J wk
    have h00 : ¬ w.own0 D := fun z => ok1.here D (ok1.sub D z) hD
    have hn : ∀ (m : Nat) (q : Addr) (zs : List PyData), ρ[m]? = some (.own q zs) → q ≠ D := by
      intro m q zs f z
      subst z
      rcases ok1.slot m _ f with z | ⟨u, _, _, hq, _⟩
      · cases z
      · exact ok1.here _ hq hD
    refine lc_it wk (fun i H2 => LcS w ρ j σ o1 H1 D I i H2) (lc_start (H1 := H1) ok1 hD h0) (fun i H2 _ st => ?_) (fun i y H2 H3 hi st yy => ?_) (fun H2 st => ?_)
    · obtain ⟨o2, _, _, _, g2, _⟩ := st
      exact (kp o2 H2 g2).1
    · obtain ⟨rfl, hy⟩ := yy
      obtain ⟨d, hd, _⟩ := DdAll.gets ha hy
      exact lc_turn hD h00 hn (by omega) st (fun o2 H2 g2 => by
        obtain ⟨d2, hd2, rd2⟩ := DdAll.gets (kp o2 H2 g2).2 hy
        rw [hd] at hd2
        cases hd2
        exact rd2) fun acc hI => hs i d acc hd hI
    · rw [ln] at st
      exact lc_end ok1 hD st hp fun o' H' v x g r p => k o' H' v x (g1.trans g) r p
  refine ⟨a, vs, rfl, ?_⟩
  cases b with
  | false => exact .inl ⟨hid_le.seq hq, fun D hD => main D hD _ walk_list⟩
  | true => exact .inr ⟨sqT_mono hid_le hq, fun D hD => main D hD _ walk_tup⟩
/-- [e for x in a], each item an int of which Pr holds -/
theorem e_lcSInts {j : Nat} (Pr : Int → Prop) (h : E w tl ρ fun x => ∃ c ds, x = .dat c ∧ seqD (.dat c) = some ds ∧ ds.length ≤ sizeLine ∧
      (∀ (i : Nat) d, ds[i]? = some d → E w te ((ρ.set j .no).set j (.dat d)) fun y => ∃ z : Int, y = .dat (.int z) ∧ Pr z) ∧
      ∀ ns : List Int, ns.length = ds.length → (∀ z ∈ ns, Pr z) → P (.dat (.list (ns.map PyData.int)))) :
    E w (tLc (iSeq w.K tl) (gName j) tYes te [j]) ρ P := by
  refine e_lcS ?_
  refine E.mono h ?_
  rintro x ⟨c, ds, rfl, hx, hz, hs, hp⟩
  refine ⟨c, ds, rfl, hx, hz, fun i acc => ∃ ns : List Int, acc = ns.map PyData.int ∧ ns.length = i ∧ ∀ z ∈ ns, Pr z, ⟨[], rfl, rfl, fun _ z => nomatch z⟩, ?_, ?_⟩
  · rintro i d acc hi ⟨ns, rfl, hl, ha⟩
    unfold Lc
    refine t_yes (iteT ?_)
    refine E.mono (hs i d hi) ?_
    rintro x ⟨z, rfl, hz⟩
    refine ⟨_, rfl, ns ++ [z], by rw [List.map_append]; rfl, by rw [List.length_append, hl]; rfl, fun y hy => ?_⟩
    rcases List.mem_append.mp hy with hy | hy
    · exact ha y hy
    · rw [List.mem_singleton.mp hy]
      exact hz
  · rintro acc ⟨ns, rfl, hl, ha⟩ _
    exact hp ns hl ha
end
end DL

/-! sorted of told coins: tuples of a tuple of ints, an int, a truth. -/
namespace DL
open PySem PySem.Spec PyProof.Rows L2 TL

abbrev Coin := List Int × Int × Bool
def nmD (ns : List Int) : PyData := .tuple (ns.map .int)
def cD (c : Coin) : PyData := .tuple [nmD c.1, .int c.2.1, .bool c.2.2]
def ltC (c c' : Coin) : Bool := if c.1 = c'.1 then decide (c.2.1 < c'.2.1) else HT.lexLt c.1 c'.1
/-! ### the order -/
theorem lex_irr : ∀ a : List Int, HT.lexLt a a = false
  | [] => rfl
  | x :: a => by rw [HT.lexLt_cons, if_pos rfl]; exact lex_irr a
theorem lex_asym : ∀ a b : List Int, HT.lexLt a b = true → HT.lexLt b a = false
  | [], [], h => by cases h
  | [], _ :: _, _ => rfl
  | _ :: _, [], h => by cases h
  | x :: a, y :: b, h => by
    rw [HT.lexLt_cons] at h ⊢
    by_cases e : x = y
    · rw [if_pos e] at h
      rw [if_pos e.symm]
      exact lex_asym a b h
    · rw [if_neg e] at h
      rw [if_neg fun z => e z.symm]
      exact decide_eq_false (by have := of_decide_eq_true h; omega)
theorem lex_tot : ∀ a b : List Int, HT.lexLt a b = false → HT.lexLt b a = false → a = b
  | [], [], _, _ => rfl
  | [], _ :: _, h, _ => by cases h
  | _ :: _, [], _, h => by cases h
  | x :: a, y :: b, h1, h2 => by
    rw [HT.lexLt_cons] at h1 h2
    by_cases e : x = y
    · rw [if_pos e] at h1
      rw [if_pos e.symm] at h2
      rw [e, lex_tot a b h1 h2]
    · rw [if_neg e] at h1
      rw [if_neg fun z => e z.symm] at h2
      have := of_decide_eq_false h1
      have := of_decide_eq_false h2
      omega
theorem lex_tr : ∀ a b c : List Int, HT.lexLt a b = true → HT.lexLt b c = true → HT.lexLt a c = true
  | [], _, [], h1, h2 => by
    rename_i b
    cases b with
    | nil => cases h1
    | cons _ _ => cases h2
  | [], _, _ :: _, _, _ => rfl
  | _ :: _, [], _, h1, _ => by cases h1
  | _ :: _, _ :: _, [], _, h2 => by cases h2
  | x :: a, y :: b, z :: c, h1, h2 => by
    rw [HT.lexLt_cons] at h1 h2 ⊢
    by_cases e1 : x = y
    · subst e1
      rw [if_pos rfl] at h1
      by_cases e2 : x = z
      · rw [if_pos e2] at h2 ⊢
        exact lex_tr a b c h1 h2
      · rw [if_neg e2] at h2 ⊢
        exact h2
    · rw [if_neg e1] at h1
      have i1 := of_decide_eq_true h1
      by_cases e2 : y = z
      · subst e2
        rw [if_neg e1]
        exact h1
      · rw [if_neg e2] at h2
        have i2 := of_decide_eq_true h2
        rw [if_neg (by omega)]
        exact decide_eq_true (by omega)
theorem ltC_swo : SrtO.Swo ltC := by
  refine ⟨fun x y h => ?_, fun x y z h1 h2 => ?_⟩
  · unfold ltC at h ⊢
    by_cases e : x.1 = y.1
    · rw [if_pos e] at h
      rw [if_pos e.symm]
      exact decide_eq_false (by have := of_decide_eq_true h; omega)
    · rw [if_neg e] at h
      rw [if_neg fun z => e z.symm]
      exact lex_asym _ _ h
  · unfold ltC at h1 h2 ⊢
    by_cases e1 : y.1 = x.1
    · rw [if_pos e1] at h1
      have i1 := of_decide_eq_false h1
      by_cases e2 : z.1 = y.1
      · rw [if_pos e2] at h2
        have i2 := of_decide_eq_false h2
        rw [if_pos (e2.trans e1)]
        exact decide_eq_false (by omega)
      · rw [if_neg e2] at h2
        rw [if_neg fun q => e2 (q.trans e1.symm), ← e1]
        exact h2
    · rw [if_neg e1] at h1
      by_cases e2 : z.1 = y.1
      · rw [if_neg fun q => e1 (e2.symm.trans q), e2]
        exact h1
      · rw [if_neg e2] at h2
        have g1 : HT.lexLt x.1 y.1 = true := by
          cases q : HT.lexLt x.1 y.1 with
          | true => rfl
          | false => exact absurd (lex_tot _ _ h1 q) e1
        have g2 : HT.lexLt y.1 z.1 = true := by
          cases q : HT.lexLt y.1 z.1 with
          | true => rfl
          | false => exact absurd (lex_tot _ _ h2 q) e2
        have g3 := lex_tr _ _ _ g1 g2
        have ne : z.1 ≠ x.1 := fun q => by
          rw [q, lex_irr] at g3
          cases g3
        rw [if_neg ne]
        exact lex_asym _ _ g3
/-- the one sorted arrangement -/
theorem sorted_one {a b c : List Coin} (h1 : SrtO.Srtd ltC a) (s1 : SrtO.Stb ltC a c) (h2 : SrtO.Srtd ltC b) (s2 : SrtO.Stb ltC b c) : a = b :=
  SrtO.stb_uniq ltC_swo h1 h2 ⟨s1.perm.trans s2.perm.symm, fun x => (s1.cls x).trans (s2.cls x).symm⟩
/-! ### as they stand in memory -/
structure CoinAt (h : Heap) (v : Value) (c : Coin) : Prop where
  ex : ∃ b o n b2 o2 n2 t, ∃ us : List Value, v = .ref b ∧ h.get? b = some o ∧ o.cls = .type "tuple" ∧ o.data = .seq #[.ref b2, .int c.2.1 t, .bool c.2.2] n ∧
    h.get? b2 = some o2 ∧ o2.cls = .type "tuple" ∧ o2.data = .seq us.toArray n2 ∧ IntsAre us c.1
theorem CoinAt.keeps {h h' : Heap} {v : Value} {c : Coin} (x : CoinAt h v c) (k : ∀ b o, h.get? b = some o → o.cls = .type "tuple" → h'.get? b = some o) : CoinAt h' v c := by
  obtain ⟨b, o, n, b2, o2, n2, t, us, e, h1, c1, d1, h2, c2, d2, i⟩ := x.ex
  exact ⟨b, o, n, b2, o2, n2, t, us, e, k _ _ h1 c1, c1, d1, k _ _ h2 c2, c2, d2, i⟩
theorem ints_reads {h : Heap} : ∀ {ns : List Int} {us : List Value} {as : List Addr}, ReadsAll h us (ns.map PyData.int) as → IntsAre us ns
  | [], _, _, r => by
    cases r
    exact .nil
  | n :: ns, _, _, r => by
    cases r with
    | cons r1 r2 =>
      cases r1
      exact .cons _ _ (ints_reads r2)
theorem reads_ints {h : Heap} : ∀ {us : List Value} {ns : List Int}, IntsAre us ns → ∃ as, ReadsAll h us (ns.map PyData.int) as
  | _, _, .nil => ⟨_, .nil⟩
  | _, _, .cons _ _ t => by
    obtain ⟨as, r⟩ := reads_ints t
    exact ⟨_, .cons (.int _ _) r⟩
theorem coinAt_of {h : Heap} {v : Value} {c : Coin} {as : List Addr} (r : Reads h v (cD c) as) : CoinAt h v c := by
  unfold cD nmD at r
  cases r with
  | tuple h1 c1 d1 ra =>
    rename_i b o vs n
    obtain ⟨l, hl⟩ : ∃ l, vs.toList = l := ⟨_, rfl⟩
    rw [hl] at ra
    cases ra with
    | cons r1 ra =>
      cases ra with
      | cons r2 ra =>
        cases ra with
        | cons r3 ra =>
          cases ra
          cases r2
          cases r3
          cases r1 with
          | tuple h2 c2 d2 rb =>
            rename_i las t b2 o2 vs2 n2
            have e : vs = #[.ref b2, .int c.2.1 t, .bool c.2.2] := by
              rw [← Array.toArray_toList (xs := vs), hl]
            rw [e] at d1
            exact ⟨b, o, n, b2, o2, n2, t, vs2.toList, rfl, h1, c1, d1, h2, c2, by rw [Array.toArray_toList]; exact d2, ints_reads rb⟩
theorem eqv_ints : ∀ ns ms : List Int, PyData.eqvAll (ns.map PyData.int) (ms.map PyData.int) = decide (ns = ms)
  | [], [] => rfl
  | [], _ :: _ => by simp [PyData.eqvAll]
  | _ :: _, [] => by simp [PyData.eqvAll]
  | x :: a, y :: b => by
    rw [List.map_cons, List.map_cons]
    show (PyData.eqv (.int x) (.int y) && PyData.eqvAll (a.map PyData.int) (b.map PyData.int)) = _
    rw [eqv_ints a b]
    have e : PyData.eqv (.int x) (.int y) = decide (x = y) := rfl
    rw [e]
    by_cases h1 : x = y
    · by_cases h2 : a = b
      · simp [h1, h2]
      · simp [h1, h2]
    · simp [h1]
theorem eqv_nm (ns ms : List Int) : PyData.eqv (nmD ns) (nmD ms) = decide (ns = ms) := by
  unfold nmD
  show PyData.eqvAll _ _ = _
  exact eqv_ints ns ms
theorem lay_ints : ∀ ns : List Int, PyData.canLayAll0 (ns.map PyData.int) = true
  | [] => rfl
  | n :: ns => by
    rw [List.map_cons]
    show (PyData.canLay0 (.int n) && _) = true
    rw [lay_ints ns]
    rfl
theorem depth_ints : ∀ ns : List Int, PyData.depthAll (ns.map PyData.int) = 0
  | [] => rfl
  | n :: ns => by
    rw [List.map_cons]
    show max (PyData.depth (.int n)) (PyData.depthAll _) = 0
    rw [depth_ints ns]
    rfl
theorem nm_lay (ns : List Int) : (nmD ns).canLay0 = true := lay_ints ns
theorem nm_depth (ns : List Int) : (nmD ns).depth = 1 := by
  show PyData.depthAll _ + 1 = 1
  rw [depth_ints]
theorem c_lay (c : Coin) : (cD c).canLay0 = true := by
  show ((nmD c.1).canLay0 && _) = true
  rw [nm_lay]
  rfl
theorem cs_lay : ∀ cs : List Coin, PyData.canLayAll0 (cs.map cD) = true
  | [] => rfl
  | c :: cs => by
    rw [List.map_cons]
    show ((cD c).canLay0 && _) = true
    rw [c_lay, cs_lay cs]
    rfl
/-- the coin that data tells -/
def intOf : PyData → Option Int
  | .int i => some i
  | _ => none
def unC : PyData → Coin
  | .tuple [.tuple ds, .int k, .bool t] => (ds.filterMap intOf, k, t)
  | _ => ([], 0, false)
theorem unC_cD (c : Coin) : unC (cD c) = c := by
  have e : ∀ ns : List Int, (ns.map PyData.int).filterMap intOf = ns := by
    intro ns
    induction ns with
    | nil => rfl
    | cons n ns ih => rw [List.map_cons, List.filterMap_cons]; simp [intOf, ih]
  show ((c.1.map PyData.int).filterMap intOf, c.2.1, c.2.2) = c
  rw [e]
section
variable {prog : Program} {w : World} {A : Around} {E : Value → Shared → Prop} {s : Shared}
theorem coin_cmp {vs : List Value} {f : Value → Coin} (hu : A.units + 8 < cLine) (hp : ∀ v ∈ vs, CoinAt s.heap v (f v)) (hd : ∀ v ∈ vs, ∀ u ∈ vs, (f v).1 = (f u).1 → (f v).2.1 = (f u).2.1 → f v = f u) :
    SrtO.Cmp prog w A s (tuples' false) (fun p => p.1 ∈ vs) (SrtO.lt2 fun v u => ltC (f v) (f u)) := by
  intro p q hm hm'
  obtain ⟨b, o, n, b2, o2, n2, t, us, e, h1, c1, d1, h2, c2, d2, i⟩ := (hp _ hm).ex
  obtain ⟨b', o', n', b2', o2', n2', t', us', e', h1', c1', d1', h2', c2', d2', i'⟩ := (hp _ hm').ex
  have dist := hd _ hm _ hm'
  show wpAny (model prog w) A (keyLt' (tuples' false) p.1 q.1) (fun r s' => s' = s ∧ r = ltC (f p.1) (f q.1)) (fun _ _ => False) s
  generalize f p.1 = c at *
  generalize f q.1 = c' at *
  rw [e, e']
  refine PySem.W.kat_lt h1 d1 h1' d1' ?_
  show PySem.W.KatLex prog w A false (decide (3 < 3)) _ [(.ref b2, .ref b2'), (.int c.2.1 t, .int c'.2.1 t'), (.bool c.2.2, .bool c'.2.2)] 0 s
  obtain ⟨as, ra⟩ := reads_ints (h := s.heap) i
  obtain ⟨as', ra'⟩ := reads_ints (h := s.heap) i'
  have r1 : Reads s.heap (.ref b2) (nmD c.1) as := .tuple h2 c2 d2 ra
  have r2 : Reads s.heap (.ref b2') (nmD c'.1) as' := .tuple h2' c2' d2' ra'
  have room : A.units + min (nmD c.1).depth (nmD c'.1).depth < cLine := by
    rw [nm_depth, nm_depth]
    omega
  refine PySem.W.kat_cons (SeqAt.eqAt_reads _ _ A s _ _ _ _ r1 r2 (nm_lay _) (nm_lay _) room prog w _ _ ?_)
  rw [eqv_nm]
  unfold ltC
  refine PySem.W.kat_go (fun e1 => ?_) (fun e1 => ?_)
  · have n1 : c.1 = c'.1 := of_decide_eq_true e1
    rw [if_pos n1]
    refine PySem.W.kat_yes (PySem.W.kat_cons (SeqAt.EqAt.int_int _ t _ t' prog w _ _ ?_))
    refine PySem.W.kat_go (fun e2 => ?_) (fun e2 => ?_)
    · have k1 : c.2.1 = c'.2.1 := by simpa using e2
      have ec := dist n1 k1
      subst ec
      refine PySem.W.kat_yes (PySem.W.kat_cons (SeqAt.EqAt.bool_bool _ _ prog w _ _ ?_))
      refine PySem.W.kat_go (fun _ => ?_) (fun e3 => ?_)
      · exact PySem.W.kat_yes (PySem.W.kat_nil ⟨rfl, (decide_eq_false (Int.lt_irrefl _)).symm⟩)
      · rw [beq_self_eq_true] at e3
        cases e3
    · exact PySem.W.kat_no (PySem.W.kat_one _ _ (PyProof.Rows.lt_int (show s = s ∧ _ = _ from ⟨rfl, rfl⟩)))
  · have n1 : ¬ c.1 = c'.1 := of_decide_eq_false e1
    rw [if_neg n1]
    refine PySem.W.kat_no (PySem.W.kat_one _ _ ?_)
    exact HT.lt_tupInts (show IsTup s.heap b2 us.toArray from ⟨o2, h2, c2, n2, d2⟩) ⟨o2', h2', c2', n2', d2'⟩ (by simpa using i) (by simpa using i') (by omega) (show s = s ∧ _ = _ from ⟨rfl, rfl⟩)
theorem coin_firsts {h : Heap} {f : Value → Coin} : ∀ {vs : List Value}, (∀ v ∈ vs, CoinAt h v (f v)) → ∃ fs, PySem.W.KatTups h vs fs ∧ fs.length = vs.length ∧ ∀ u ∈ fs, ∃ b o, u = .ref b ∧ h.get? b = some o ∧ o.cls = .type "tuple"
  | [], _ => ⟨[], trivial, rfl, fun _ z => nomatch z⟩
  | v :: vs, hp => by
    obtain ⟨fs, k, l, m⟩ := coin_firsts (vs := vs) fun u hu => hp u (List.mem_cons_of_mem _ hu)
    obtain ⟨b, o, n, b2, o2, n2, t, us, e, h1, c1, d1, h2, c2, d2, i⟩ := (hp v (List.mem_cons_self ..)).ex
    subst e
    refine ⟨.ref b2 :: fs, PySem.W.KatTups.cons h1 c1 d1 rfl k, by rw [List.length_cons, List.length_cons, l], fun u hu => ?_⟩
    rcases List.mem_cons.mp hu with rfl | hu
    · exact ⟨b2, o2, rfl, h2, c2⟩
    · exact m u hu
theorem coins_sortable {a : Addr} {vs : List Value} {f : Value → Coin} (h0 : 0 < vs.length) (hu : A.units + 8 < cLine) (hp : ∀ v ∈ vs, CoinAt s.heap v (f v))
    (hd : ∀ v ∈ vs, ∀ u ∈ vs, (f v).1 = (f u).1 → (f v).2.1 = (f u).2.1 → f v = f u) (ha : ∀ o, s.heap.get? a = some o → o.cls ≠ .type "tuple") : SrtO.SortableO prog w A s a vs fun v u => ltC (f v) (f u) := by
  intro h' keep
  have hp' : ∀ v ∈ vs, CoinAt h' v (f v) := fun v hm => (hp v hm).keeps fun b o e c => keep b o (fun z => by subst z; exact ha o e c) e
  obtain ⟨fs, h1, h2, h3⟩ := coin_firsts hp'
  refine ⟨tuples' false, fun Q E hq => ?_, coin_cmp hu hp' hd⟩
  refine PySem.W.kat_kind (T := .type "tuple") h1 (by omega) (fun u hm => ?_) (by rfl) ?_
  · obtain ⟨b, o, rfl, e, c⟩ := h3 u hm
    rw [← c]
    exact (PySem.W.Looks.ld e).andThen .now
  · have e : (Value.type "tuple" != Value.type "tuple") = false := by first | decide +kernel | rfl | decide
    rw [e]
    exact hq
end
/-- sorted(xs), a list of told coins, no two of one name and place unless they are one -/
def rSortC (K : PySem.W.Frag) : List V → Hp → VK → Prop := fun vs H Q => ∃ (a : Addr) (xs : List V) (cs : List Coin) (H0 : Hp), vs = [V.ref a] ∧ SqL K H a xs ∧ Same H0 H ∧ DdAll K H0 xs (cs.map cD) ∧
  (∀ c ∈ cs, ∀ c' ∈ cs, c.1 = c'.1 → c.2.1 = c'.2.1 → c = c') ∧
  ∀ (ys : List V) (es : List Coin) (p : Addr), DdAll K H0 ys (es.map cD) → SrtO.Srtd ltC es → SrtO.Stb ltC es cs → H p = none → Q (.ref p) (upd H p (.lst ys))
theorem ddAll_map {α : Type} {K : PySem.W.Frag} {H : Hp} {g : α → V} {f : α → PyData} : ∀ {l : List α}, (∀ v ∈ l, Dd K H (g v) (f v)) → DdAll K H (l.map g) (l.map f)
  | [], _ => .nil
  | v :: vs, h => .cons (h v (List.mem_cons_self ..)) (ddAll_map fun u hu => h u (List.mem_cons_of_mem _ hu))
theorem ddAll_of {α : Type} {K : PySem.W.Frag} {H : Hp} {g : α → V} {f : α → PyData} : ∀ {l : List α}, DdAll K H (l.map g) (l.map f) → ∀ v ∈ l, Dd K H (g v) (f v)
  | [], _, _, hv => nomatch hv
  | v :: vs, h, u, hu => by
    rw [List.map_cons, List.map_cons] at h
    cases h with
    | cons h1 h2 =>
      rcases List.mem_cons.mp hu with rfl | hu
      · exact h1
      · exact ddAll_of h2 u hu
theorem ddAll_refs {K : PySem.W.Frag} {H : Hp} : ∀ {xs : List V} {cs : List Coin}, DdAll K H xs (cs.map cD) → ∀ x ∈ xs, ∃ a, x = V.ref a
  | [], _, _, _, hx => nomatch hx
  | x :: xs, [], h, _, _ => by cases h
  | x :: xs, c :: cs, h, y, hy => by
    rw [List.map_cons] at h
    cases h with
    | cons h1 h2 =>
      rcases List.mem_cons.mp hy with rfl | hy
      · unfold cD at h1
        cases h1 with
        | tup _ _ => exact ⟨_, rfl⟩
      · exact ddAll_refs h2 y hy
theorem readsAll_mem {h : Heap} : ∀ {vs : List Value} {cs : List Coin} {as : List Addr}, ReadsAll h vs (cs.map cD) as → ∀ v ∈ vs, ∃ c ∈ cs, ∃ bs, Reads h v (cD c) bs
  | [], _, _, _, _, hv => nomatch hv
  | v :: vs, [], _, r, _, _ => by cases r
  | v :: vs, c :: cs, _, r, u, hu => by
    rw [List.map_cons] at r
    cases r with
    | cons r1 r2 =>
      rcases List.mem_cons.mp hu with rfl | hu
      · exact ⟨c, List.mem_cons_self .., _, r1⟩
      · obtain ⟨c', m, bs, r'⟩ := readsAll_mem r2 u hu
        exact ⟨c', List.mem_cons_of_mem _ m, bs, r'⟩
section
variable {X : Cx}
theorem call_sortC (hu : X.A.units + 64 < cLine) : CallR X (.builtin "sorted") (rSortC X.K) := by
  rintro pins s σ H vs us Q I r ⟨a, xs, cs, H0, rfl, hs, hsame, hd0, hdist, q⟩
  have hd := ddAll_mono hsame hd0
  obtain ⟨its, rv, hl, hz⟩ := I.list hs
  obtain ⟨u, rfl, ru⟩ := vals1 r
  obtain rfl : u = Value.ref a := ru
  obtain ⟨as, rd⟩ := Dp.readsAll I _ _ _ (DdAll.dp hd (cs_lay cs)) rv
  have em : its.map (SeqAt.readOf s.heap) = cs.map cD := SeqAt.readsAll_map _ _ _ (cs_lay cs) rd
  obtain ⟨f, hf⟩ : ∃ f : Value → Coin, f = fun v => unC (SeqAt.readOf s.heap v) := ⟨_, rfl⟩
  have ef : its.map f = cs := by
    have := congrArg (List.map unC) em
    rw [List.map_map, List.map_map] at this
    have e2 : cs.map (unC ∘ cD) = cs := by
      have e3 : (unC ∘ cD) = id := funext fun c => unC_cD c
      rw [e3, List.map_id]
    rw [e2] at this
    rw [hf]
    exact this
  have hp : ∀ v ∈ its, CoinAt s.heap v (f v) ∧ f v ∈ cs := by
    intro v hv
    obtain ⟨c, hc, bs, r1⟩ := readsAll_mem rd v hv
    have e : f v = c := by
      rw [hf]
      show unC (SeqAt.readOf s.heap v) = c
      rw [SeqAt.readOf_eq (c_lay c) r1, unC_cD]
    rw [e]
    exact ⟨coinAt_of r1, hc⟩
  obtain ⟨e1, e2⟩ := refs_back rv (ddAll_refs hd)
  have len := rv.length
  have hz2 : its.length ≤ sizeLine := by omega
  have hdd : ∀ v ∈ its, Dd X.K H0 (backV v) (cD (f v)) := by
    refine ddAll_of (g := backV) (f := fun v => cD (f v)) ?_
    have e3 : its.map (fun v => cD (f v)) = cs.map cD := by
      rw [← ef, List.map_map]
      rfl
    rw [e3, ← e1]
    exact hd0
  refine SrtO.sorted_ord (ltv := fun v u => ltC (f v) (f u)) ⟨fun x y => ltC_swo.asym _ _, fun x y z => ltC_swo.tr _ _ _⟩ hl.isList hz2 (fun h2 h1 b hb kk => ?_) fun out h1 h2 => ?_
  · refine coins_sortable (s := { s with heap := h1 }) (by omega) ?_ (fun v hv => (hp v hv).1.keeps fun c o e _ => (kk c o e).2) (fun v hv u hu => hdist _ (hp v hv).2 _ (hp u hu).2) fun o e => ?_
    · show X.A.units + 2 + 8 < cLine
      omega
    · have e' : some o = some (seqObj "list" its.toArray 0) := e.symm.trans hb
      cases e'
      intro c
      exact absurd (Value.type.inj c) (by decide)
  · have m : ∀ v ∈ out, v ∈ its := fun v hv => h2.perm.mem_iff.mp hv
    obtain ⟨n, hn⟩ := PyProof.Rows.sortedAll_at s.heap its out.toArray
    have lo := h2.perm.length_eq
    refine ⟨.ref _, upd H (s.heap.objs.size + 1) (.lst (out.map backV)), I.laid (t' := s.toks) (fun _ _ => PyProof.Rows.sortedAll_old) (Nat.le_succ _) ⟨by rw [List.length_map]; omega, out, n, vals_back fun u hu => e2 u (m u hu), hn⟩, rfl, ?_⟩
    refine q (out.map backV) (out.map f) _ ?_ (SrtO.srtd_map h1) ?_ (I.hok.fresh (Nat.le_succ _))
    · rw [List.map_map]
      exact ddAll_map fun v hv => hdd v (m v hv)
    · rw [← ef]
      exact SrtO.Stb.map ltC_swo f h2
end
end DL

/-! Rules over data for coins: sorted, dicts from ints to truths, truth of lists and tuples, tuples put together, not in. -/
namespace DL
open PySem PySem.Spec PyProof.Rows L2 TL
section
variable {X : Cx} {K : PySem.W.Frag}
theorem call_sortK (h : X.K = K) (hu : X.A.units + 64 < cLine) : CallR X (.builtin "sorted") (rSortC K) := by
  subst h
  exact call_sortC hu
/-- the truth of a value -/
def tTru (K : PySem.W.Frag) (te : TE) : TT := fun σ H Q => te σ H fun x H1 => ∃ k, TruV K x H1 k ∧ Q k H1
theorem pt_truK {a : Expr} {ta : TE} (h : X.K = K) (ha : PE X a ta) (he : ∀ whole, isTrue a X.env whole = (do let v ← whole; standAt a.pos; holding [v] (truthy v)) := by intro _; rfl) : PT X a (tTru K ta) := by
  subst h
  exact pt_truth ha he
theorem op_catK (h : X.K = K) : OpR X (binaryOp .Add) (rCatA K) := by
  subst h
  exact op_catA
theorem pi_tupK {tg l : Expr} {tl : TE} (h : X.K = K) (hl : PE X l tl) : PI X tg l (iTup K tl) := by
  subst h
  exact pi_tup hl
/-- d not in xs, in xs: by == -/
def rNotInE (K : PySem.W.Frag) : R2 := fun x y H Q => ∃ d ds, Dd K H x d ∧ Dd K H y (.list ds) ∧ SeqAt.shaped d = true ∧ SeqAt.shaped (.list ds) = true ∧ Q (.bl (!ds.any fun z => PyData.eqv z d)) H
theorem op_notInK (h : X.K = K) (hu : X.A.units + 65 < cLine) : OpR X (compareOp .NotIn) (rNotInE K) := by
  subst h
  intro pins s σ H x y v u Q I rx ry h
  obtain ⟨d, ds, hd, he, sd, se, q⟩ := h
  exact op_notInD hu pins s σ H x y v u Q I rx ry ⟨d, ds, hd.dp (SeqAt.canLay_of_shaped sd), he.dp (SeqAt.canLay_of_shaped se), sd, se, q⟩
end
/-! ### dicts from ints to truths -/
abbrev Tl := List (Int × Bool)
def tlD (ps : Tl) : PyData := .dict (ps.map fun p => (.int p.1, .bool p.2))
def tlV (ps : Tl) : List (Key × V) := ps.map fun p => (.inl p.1, .bl p.2)
def putT (ps : Tl) (k : Int) (t : Bool) : Tl := if (ps.any fun p => decide (p.1 = k)) = true then ps.map (fun p => if p.1 = k then (p.1, t) else p) else ps ++ [(k, t)]
def lukT (ps : Tl) (k : Int) : Option Bool := (ps.find? fun p => decide (p.1 = k)).map (·.2)
theorem put_tlV (ps : Tl) (k : Int) (t : Bool) : putK (tlV ps) (.inl k) (.bl t) = tlV (putT ps k t) := by
  unfold putK putT tlV
  rw [List.any_map]
  have e : ((fun kv : Key × V => decide (kv.1 = Sum.inl k)) ∘ fun p : Int × Bool => ((Sum.inl p.1 : Key), V.bl p.2)) = fun p : Int × Bool => decide (p.1 = k) := by
    funext p
    show decide ((Sum.inl p.1 : Key) = Sum.inl k) = decide (p.1 = k)
    by_cases h : p.1 = k
    · rw [h]
      simp
    · rw [decide_eq_false h, decide_eq_false fun z => h (Sum.inl.inj z)]
  rw [e]
  split
  · rw [List.map_map, List.map_map]
    refine List.map_congr_left fun p _ => ?_
    show (if (Sum.inl p.1 : Key) = Sum.inl k then ((Sum.inl p.1 : Key), V.bl t) else ((Sum.inl p.1 : Key), V.bl p.2)) = ((Sum.inl (if p.1 = k then (p.1, t) else p).1 : Key), V.bl (if p.1 = k then (p.1, t) else p).2)
    by_cases h : p.1 = k
    · rw [if_pos h, if_pos (by rw [h])]
    · rw [if_neg h, if_neg fun z => h (Sum.inl.inj z)]
  · rw [List.map_append]
    rfl
theorem val_tlV (ps : Tl) (k : Int) : valV (tlV ps) (.inl k) = (lukT ps k).map V.bl := by
  unfold valV lukT tlV
  rw [List.find?_map, Option.map_map, Option.map_map]
  have e : ((fun kv : Key × V => decide (kv.1 = Sum.inl k)) ∘ fun p : Int × Bool => ((Sum.inl p.1 : Key), V.bl p.2)) = fun p : Int × Bool => decide (p.1 = k) := by
    funext p
    show decide ((Sum.inl p.1 : Key) = Sum.inl k) = decide (p.1 = k)
    by_cases h : p.1 = k
    · rw [h]
      simp
    · rw [decide_eq_false h, decide_eq_false fun z => h (Sum.inl.inj z)]
  rw [e]
  rfl
theorem dd_tl {K : PySem.W.Frag} {H : Hp} {a : Addr} (ps : Tl) (h : Rd H a (.dK (tlV ps))) : Dd K H (.ref a) (tlD ps) := by
  refine Dd.dic h ?_
  clear h
  induction ps with
  | nil => exact .nil
  | cons p ps ih => exact .cons (k := .inl p.1) (.bl p.2) ih
theorem tl_dd {K : PySem.W.Frag} {H : Hp} {v : V} {ps : Tl} (h : Dd K H v (tlD ps)) : ∃ a, v = .ref a ∧ Rd H a (.dK (tlV ps)) := by
  unfold tlD at h
  cases h with
  | dic hr hk =>
    rename_i a kvs
    refine ⟨a, rfl, ?_⟩
    have e : kvs = tlV ps := by
      clear hr
      induction ps generalizing kvs with
      | nil =>
        cases hk
        rfl
      | cons p ps ih =>
        rw [List.map_cons] at hk
        cases kvs with
        | nil => cases hk
        | cons kv kvs =>
          obtain ⟨k, v⟩ := kv
          cases k with
          | inl i =>
            generalize hq : (PyData.int p.1, PyData.bool p.2) = q at hk
            cases hk with
            | cons h1 h2 =>
              cases hq
              cases h1
              rw [ih h2]
              rfl
          | inr x =>
            generalize hq : (PyData.int p.1, PyData.bool p.2) = q at hk
            cases hk with
            | cons h1 h2 => cases hq
    rw [← e]
    exact hr
section
variable {w : Wd} {o o1 : Addr → Prop} {H H1 : Hp} {ρ : List Sl} {P : Sl → Prop} {te ta tb tc tl td ty : TE} {tt : TT} {tr : TA} {ts : TS} {e : En}
theorem cl_sortC : Cl w (rSortC w.K) (fun xs P => ∃ (x : Sl) (cs : List Coin), xs = [x] ∧ lstD x = some (cs.map cD) ∧ (∀ c ∈ cs, ∀ c' ∈ cs, c.1 = c'.1 → c.2.1 = c'.2.1 → c = c') ∧
    ∀ es : List Coin, SrtO.Srtd ltC es → SrtO.Stb ltC es cs → P (.dat (.list (es.map cD)))) := by
  rintro o H vs xs P Q b r ⟨x, cs, rfl, hx, hd, q⟩ k
  cases r with
  | cons r t =>
    cases t
    obtain ⟨a, us, rfl, hs, ha⟩ := r.lst hx
    refine ⟨a, us, cs, hid H o, rfl, hs, hid_le, ha, hd, fun ys es p hy h1 h2 np => ?_⟩
    have g := b.new (u := .lst ys) np
    exact k o _ _ _ g (VR.dat (Dd.lst (.inl (.inl (b.seen np))) (ddAll_mono g.same hy))) (q es h1 h2)
theorem t_tru {P : Bool → Prop} (h : E w te ρ fun x => ∃ ds, seqD x = some ds ∧ P (!ds.isEmpty)) : T w (tTru w.K te) ρ P := by
  intro o σ H Q ok k
  refine h o σ H _ ok ?_
  rintro o1 H1 v x g1 r1 ⟨ds, hx, q⟩
  obtain ⟨a, us, rfl, ha, hs⟩ := r1.seq hx
  have e : us.isEmpty = ds.isEmpty := by
    cases ha <;> rfl
  refine ⟨!ds.isEmpty, ?_, k o1 H1 _ g1 q⟩
  rw [← e]
  rcases hs with hs | hs
  · exact .inl ⟨us, hs, rfl⟩
  · exact .inr (.inl ⟨us, hs, rfl⟩)
theorem op2_catT : Op2 w (rCatA w.K) (fun x y P => ∃ ds es, x = .dat (.tuple ds) ∧ y = .dat (.tuple es) ∧ ds.length + es.length ≤ sizeLine ∧ P (.dat (.tuple (ds ++ es)))) := by
  rintro o H u v x y P Q b ru rv ⟨ds, es, rfl, rfl, hz, q⟩ k
  have ru' := ru
  have rv' := rv
  cases ru' with
  | tup h1 a1 =>
    cases rv' with
    | tup h2 a2 =>
      rename_i p xs p2 ys
      have l1 := DdAll.len a1
      have l2 := DdAll.len a2
      refine ⟨_, _, xs, ys, rfl, rfl, sqT_mono hid_le h1, sqT_mono hid_le h2, by omega, fun e => ?_, fun _ e => ?_, fun _ _ p np => ?_⟩
      · subst e
        cases a1
        exact k o H _ _ b.refl rv q
      · subst e
        cases a2
        rw [List.append_nil] at q
        exact k o H _ _ b.refl ru q
      · have g := b.new (u := .tup (xs ++ ys)) np
        exact k o _ _ _ g (VR.dat (Dd.tup (.inl (.inl (b.seen np))) (ddAll_mono g.same (DdAll.app a1 a2)))) q
theorem op2_notIn : Op2 w (rNotInE w.K) (fun x y P => ∃ d ds, x = .dat d ∧ lstD y = some ds ∧ SeqAt.shaped d = true ∧ SeqAt.shaped (.list ds) = true ∧ P (.dat (.bool (!ds.any fun z => PyData.eqv z d)))) := by
  rintro o H u v x y P Q b ru rv ⟨d, ds, rfl, hy, s1, s2, q⟩ k
  obtain ⟨a, us, rfl, hs, ha⟩ := rv.lst hy
  exact ⟨d, ds, dd_mono hid_le ru, Dd.lst hs (ddAll_mono hid_le ha), s1, s2, k o H _ _ b.refl (VR.dat (Dd.bl _)) q⟩
/-- x >> 30, x & 1 -/
theorem op2_odd : Op2 w (fun x y H Q => ∃ n : Nat, x = .int (n : Int) ∧ y = .int 1 ∧ Q (.int ((n % 2 : Nat) : Int)) H) (fun x y P => ∃ n : Nat, x = .dat (.int (n : Int)) ∧ y = .dat (.int 1) ∧ P (.dat (.int ((n % 2 : Nat) : Int)))) := by
  rintro o H u v x y P Q b ru rv ⟨n, rfl, rfl, q⟩ k
  cases ru
  cases rv
  exact ⟨n, rfl, rfl, k o H _ _ b.refl (VR.dat (Dd.int _)) q⟩
/-- k in told -/
theorem t_din {P : Bool → Prop} (h : E w ty ρ fun y => E w td ρ fun x => ∃ k ps, y = .dat (.int k) ∧ x = .dat (tlD ps) ∧ P (lukT ps k).isSome) : T w (tTest (tDIn ty td)) ρ P := by
  intro o σ H Q ok k
  refine h o σ H _ ok ?_
  intro o1 H1 v y g1 r1 q1
  refine q1 o1 σ H1 _ (ok.go g1) ?_
  rintro o2 H2 u x g2 r2 ⟨i, ps, rfl, rfl, q⟩
  cases r1
  obtain ⟨a, rfl, hr⟩ := tl_dd r2
  refine ⟨a, (lukT ps i).map V.bl, rfl, .inl ⟨tlV ps, .inl i, rd_mono hid_le hr, rfl, (val_tlV ps i).symm⟩, (lukT ps i).isSome, by rw [Option.isSome_map], k o2 H2 _ (g1.trans g2) q⟩
/-- told[k] -/
theorem e_dget (h : E w td ρ fun x => E w ty ρ fun y => ∃ k ps t, y = .dat (.int k) ∧ x = .dat (tlD ps) ∧ lukT ps k = some t ∧ P (.dat (.bool t))) : E w (tDGet td ty) ρ P := by
  intro o σ H Q ok k
  refine h o σ H _ ok ?_
  intro o1 H1 v x g1 r1 q1
  refine q1 o1 σ H1 _ (ok.go g1) ?_
  rintro o2 H2 u y g2 r2 ⟨i, ps, t, rfl, rfl, e, q⟩
  cases r2
  obtain ⟨a, rfl, hr⟩ := tl_dd (r1.go (ok.go g1).toBas g2)
  refine ⟨a, .bl t, rfl, .inl ⟨tlV ps, .inl i, rd_mono hid_le hr, rfl, ?_⟩, k o2 H2 _ _ (g1.trans g2) (VR.dat (Dd.bl t)) q⟩
  rw [val_tlV, e]
  rfl
end
end DL

/-! Comprehensions with targets of several names, dict comprehensions, loops over triples. -/
namespace DL
open PySem PySem.Spec PyProof.Rows L2 TL
/-! ### slots taken away -/
def clr {α : Type} (n : α) (xs : List α) : List Nat → List α
  | [] => xs
  | v :: vs => (clr n xs vs).set v n
theorem clr_get {α : Type} (n : α) (xs : List α) : ∀ (vs : List Nat) (k : Nat), (clr n xs vs)[k]? = if k ∈ vs then (xs[k]?).map (fun _ => n) else xs[k]?
  | [], k => by simp [clr]
  | v :: vs, k => by
    show ((clr n xs vs).set v n)[k]? = _
    rw [List.getElem?_set', clr_get n xs vs k]
    by_cases h : v = k
    · subst h
      simp only [List.mem_cons, true_or, if_true]
      split <;> cases xs[v]? <;> rfl
    · rw [if_neg h]
      have e : (k ∈ v :: vs) ↔ (k ∈ vs) := by
        simp only [List.mem_cons]
        exact ⟨fun z => z.elim (fun z => absurd z.symm h) id, .inr⟩
      by_cases hk : k ∈ vs
      · rw [if_pos hk, if_pos (e.mpr hk)]
      · rw [if_neg hk, if_neg fun z => hk (e.mp z)]
theorem clr_set {α : Type} {n a : α} {xs : List α} {vs : List Nat} {i : Nat} (h : i ∈ vs) : clr n (xs.set i a) vs = clr n xs vs := by
  apply List.ext_getElem?
  intro k
  rw [clr_get, clr_get, List.getElem?_set']
  by_cases hk : k ∈ vs
  · rw [if_pos hk, if_pos hk]
    split <;> cases xs[k]? <;> rfl
  · rw [if_neg hk, if_neg hk, if_neg fun (z : i = k) => hk (z ▸ h)]
theorem clr_clr {α : Type} {n : α} {xs : List α} {vs : List Nat} : clr n (clr n xs vs) vs = clr n xs vs := by
  apply List.ext_getElem?
  intro k
  rw [clr_get, clr_get]
  by_cases hk : k ∈ vs
  · rw [if_pos hk, if_pos hk]
    cases xs[k]? <;> rfl
  · rw [if_neg hk, if_neg hk]
theorem wipe_clr (σ : L2.St) : ∀ vs : List Nat, wipe σ vs = clr none σ vs
  | [] => rfl
  | v :: vs => by
    show (wipe σ vs).set v none = (clr none σ vs).set v none
    rw [wipe_clr σ vs]
theorem clr_no {ρ : List Sl} {vs : List Nat} {m : Nat} {x : Sl} (h : (clr Sl.no ρ vs)[m]? = some x) (hx : x ≠ .no) : ρ[m]? = some x := by
  rw [clr_get] at h
  split at h
  · cases e : ρ[m]? with
    | none => rw [e] at h; cases h
    | some y =>
      rw [e] at h
      cases h
      exact absurd rfl hx
  · exact h
section
variable {w : Wd} {o o1 : Addr → Prop} {H H1 : Hp} {σ : L2.St} {ρ : List Sl} {P : Sl → Prop} {te tl tk tv : TE} {tt : TT} {ts : TS} {e : En} {D : Addr} {vs : List Nat}
theorem Ok.clr (ok : Ok w o σ H ρ) : ∀ vs : List Nat, Ok w o (wipe σ vs) H (DL.clr Sl.no ρ vs)
  | [] => ok
  | v :: vs => (Ok.clr ok vs).wipe1 v
/-- an object of the def's own changes at D -/
theorem put_own {u : HO} (ok : Ok w o σ H ρ) (hD : o D) (h0 : ¬ w.own0 D) (no : ∀ (j : Nat) (q : Addr) (zs : List PyData), ρ[j]? = some (.own q zs) → q ≠ D) :
    Ok w o σ (upd H D u) ρ ∧ hid (upd H D u) o = hid H o := by
  have eq : hid (upd H D u) o = hid H o := by
    funext a
    unfold hid
    split
    · rfl
    · rename_i na
      exact upd_ne fun z => na (z ▸ hD)
  have off : ∀ a, w.own0 a → a ≠ D := fun a h z => h0 (z ▸ h)
  refine ⟨⟨⟨by rw [eq]; exact ok.grow, ok.sub, fun a h nb => (upd_ne (off a h)).trans (ok.keep a h nb), fun b hb => ?_, fun a h => ?_⟩, ok.len, fun j y ej => ?_, ok.apart⟩, eq⟩
  · obtain ⟨b1, b2⟩ := ok.bag b hb
    exact ⟨b1, b2.go (by rw [eq]; exact Same.refl _) (upd_ne (off b b1)) b2.1⟩
  · by_cases z : a = D
    · rw [z, upd_same]
      exact fun z => nomatch z
    · rw [upd_ne z]
      exact ok.here a h
  · refine (ok.slot j y ej).imp id fun ⟨u2, hu, r⟩ => ⟨u2, hu, ?_⟩
    cases y with
    | no => trivial
    | bag => exact r
    | dat d =>
      show Dd w.K (hid (upd H D u) o) u2 d
      rw [eq]
      exact r
    | own q zs =>
      obtain ⟨e2, hq, nq, us2, e3, ha3⟩ := r
      refine ⟨e2, hq, nq, us2, (upd_ne (no j q zs ej)).trans e3, ?_⟩
      rw [eq]
      exact ha3
/-- what stands while the object at D is made -/
def LcG (w : Wd) (vs : List Nat) (ρ : List Sl) (σ : L2.St) (o : Addr → Prop) (H : Hp) (D : Addr) (R : (Addr → Prop) → Hp → HO → Prop) (H1 : Hp) : Prop :=
  ∃ o1 u, Ok w o1 (wipe σ vs) H1 (DL.clr Sl.no ρ vs) ∧ Go w o H o1 H1 ∧ o1 D ∧ H1 D = some u ∧ R o1 H1 u
theorem lcg_start {R : (Addr → Prop) → Hp → HO → Prop} {u : HO} (ok : Ok w o σ H ρ) (hD : H D = none) (h0 : R (fun a => o a ∨ a = D) (upd H D u) u) : LcG w vs ρ σ o H D R (upd H D u) := by
  have g := ok.toBas.newOwn (u := u) hD
  exact ⟨_, u, (ok.clr vs).go g, g, .inr rfl, upd_same, h0⟩
/-- a new object beside -/
theorem lcg_new {R : (Addr → Prop) → Hp → HO → Prop} (hR : ∀ o1 H1 o2 H2 u, Go w o1 H1 o2 H2 → R o1 H1 u → R o2 H2 u) {p : Addr} {u : HO} (st : LcG w vs ρ σ o H D R H1) (np : H1 p = none) : LcG w vs ρ σ o H D R (upd H1 p u) := by
  obtain ⟨o1, u1, ok1, g1, oD, e1, r⟩ := st
  have g := ok1.toBas.new (u := u) np
  refine ⟨o1, u1, ok1.go g, g1.trans g, oD, ?_, hR _ _ _ _ _ g r⟩
  rw [upd_ne]
  · exact e1
  · intro z
    subst z
    rw [np] at e1
    cases e1
/-- the object at D changes -/
theorem lcg_put {R2 : (Addr → Prop) → Hp → HO → Prop} {u2 : HO} {σ2 : L2.St} {ρ2 : List Sl} {o2 : Addr → Prop} {H2 : Hp} (hD : H D = none) (h00 : ¬ w.own0 D)
    (hn : ∀ (m : Nat) (q : Addr) (zs : List PyData), ρ[m]? = some (.own q zs) → q ≠ D) (ok : Ok w o σ H ρ)
    (ok2 : Ok w o2 σ2 H2 ρ2) (g2 : Go w o H o2 H2) (oD : o2 D) (hσ : wipe σ2 vs = wipe σ vs) (hρ : DL.clr Sl.no ρ2 vs = DL.clr Sl.no ρ vs) (hr : ∀ H3, hid H3 o2 = hid H2 o2 → R2 o2 H3 u2) : LcG w vs ρ σ o H D R2 (upd H2 D u2) := by
  have ok3 := ok2.clr vs
  rw [hσ, hρ] at ok3
  have no3 : ∀ (m : Nat) (q : Addr) (zs : List PyData), (DL.clr Sl.no ρ vs)[m]? = some (.own q zs) → q ≠ D := fun m q zs f => hn m q zs (clr_no f (fun z => nomatch z))
  obtain ⟨ok4, eq4⟩ := put_own (u := u2) ok3 oD h00 no3
  refine ⟨o2, u2, ok4, ⟨by rw [eq4]; exact g2.same, g2.sub, fun a h nb => (upd_ne fun z => ?_).trans (g2.keep a h nb), fun b hb => (ok4.bag b hb).2, ok4.here⟩, oD, upd_same, hr _ eq4⟩
  subst z
  exact ok.here _ h hD
theorem lcg_same {R2 : (Addr → Prop) → Hp → HO → Prop} {u : HO} {σ2 : L2.St} {ρ2 : List Sl} {o2 : Addr → Prop} {H2 : Hp}
    (ok2 : Ok w o2 σ2 H2 ρ2) (g2 : Go w o H o2 H2) (oD : o2 D) (e2 : H2 D = some u) (hσ : wipe σ2 vs = wipe σ vs) (hρ : DL.clr Sl.no ρ2 vs = DL.clr Sl.no ρ vs) (hr : R2 o2 H2 u) : LcG w vs ρ σ o H D R2 H2 := by
  have ok3 := ok2.clr vs
  rw [hσ, hρ] at ok3
  exact ⟨o2, u, ok3, g2, oD, e2, hr⟩
/-- the end: data -/
theorem lcg_end {R : (Addr → Prop) → Hp → HO → Prop} {Q : VK} (ok : Ok w o σ H ρ) (hD : H D = none) (st : LcG w vs ρ σ o H D R H1)
    (hp : ∀ o1 u, Go w o H o1 H1 → R o1 H1 u → H1 D = some u → ∃ d, P (.dat d) ∧ Dd w.K (hid H1 fun a => o1 a ∧ a ≠ D) (.ref D) d)
    (k : ∀ o' H' v x, Go w o H o' H' → VR w o' H' v x → P x → Q v H') : Q (.ref D) H1 := by
  obtain ⟨o1, u, ok1, g1, oD, e1, r⟩ := st
  have less : ∀ a, (o1 a ∧ a ≠ D) → o1 a := fun a h => h.1
  have off : ∀ a, o a → a ≠ D := fun a h z => ok.here a h (z ▸ hD)
  obtain ⟨d, hd, rd⟩ := hp o1 u g1 r e1
  refine k (fun a => o1 a ∧ a ≠ D) H1 _ (.dat d) ⟨g1.same.trans (hid_less less), fun a h => ⟨g1.sub a h, off a h⟩, g1.keep, fun b hb => ?_, fun a h => g1.here a h.1⟩ rd hd
  have b2 := g1.bag b hb
  exact b2.go (hid_less less) rfl ⟨b2.1, fun z => off b (ok.bag b hb).2.1 z⟩
theorem own_apart (ok : Ok w o σ H ρ) (hD : H D = none) : (¬ w.own0 D) ∧ ∀ (m : Nat) (q : Addr) (zs : List PyData), ρ[m]? = some (.own q zs) → q ≠ D := by
  refine ⟨fun z => ok.here D (ok.sub D z) hD, ?_⟩
  intro m q zs f z
  subst z
  rcases ok.slot m _ f with z | ⟨u, _, _, hq, _⟩
  · cases z
  · exact ok.here _ hq hD
end
/-! ### lists -/
def RL (w : Wd) (I : Nat → List PyData → Prop) (i : Nat) (o : Addr → Prop) (H : Hp) (u : HO) : Prop := ∃ acc us, u = .lst us ∧ DdAll w.K (hid H o) us acc ∧ acc.length ≤ i ∧ I i acc
theorem RL.go {w : Wd} {I : Nat → List PyData → Prop} {i : Nat} : ∀ o1 H1 o2 H2 u, Go w o1 H1 o2 H2 → RL w I i o1 H1 u → RL w I i o2 H2 u := by
  rintro o1 H1 o2 H2 u g ⟨acc, us, rfl, ha, hl, hI⟩
  exact ⟨acc, us, rfl, ddAll_mono g.same ha, hl, hI⟩
theorem lcg_turn {w : Wd} {o : Addr → Prop} {H H1 : Hp} {σ σ2 : L2.St} {ρ ρ2 : List Sl} {te : TE} {tt : TT} {D : Addr} {vs : List Nat} {I : Nat → List PyData → Prop} {i : Nat} (ok : Ok w o σ H ρ) (hD : H D = none) (hi : i < sizeLine) (st : LcG w vs ρ σ o H D (RL w I i) H1)
    (hσ : wipe σ2 vs = wipe σ vs) (hρ : DL.clr Sl.no ρ2 vs = DL.clr Sl.no ρ vs) (hok : ∀ o1, Ok w o1 (wipe σ vs) H1 (DL.clr Sl.no ρ vs) → Go w o H o1 H1 → Ok w o1 σ2 H1 ρ2) (ht : ∀ acc, I i acc → Lc w tt te ρ2 I i acc) :
    tt σ2 H1 fun b H3 => if b = true then te σ2 H3 fun y H4 => ∃ acc, H4 D = some (.lst acc) ∧ acc.length < sizeLine ∧ LcG w vs ρ σ o H D (RL w I (i + 1)) (upd H4 D (.lst (acc ++ [y]))) else LcG w vs ρ σ o H D (RL w I (i + 1)) H3 := by
  obtain ⟨h00, hn⟩ := own_apart ok hD
  obtain ⟨o1, u, ok1, g1, oD, e1, acc, us, rfl, ha, hl, hI⟩ := st
  have okv := hok o1 ok1 g1
  have hnb : w.bg ≠ some D := ok1.toBas.nb h00
  refine ht acc hI o1 σ2 H1 _ okv ?_
  intro o2 H2 b g2 q2
  have keepD : H2 D = some (.lst us) := (g2.keep D oD hnb).trans e1
  cases b with
  | false => exact lcg_same (okv.go g2) (g1.trans g2) (g2.sub D oD) keepD hσ hρ ⟨acc, us, rfl, ddAll_mono g2.same ha, by omega, q2⟩
  | true =>
    refine q2 o2 σ2 H2 _ (okv.go g2) ?_
    rintro o3 H3 y x g3 r3 ⟨z, rfl, q3⟩
    have keepD3 : H3 D = some (.lst us) := (g3.keep D (g2.sub D oD) hnb).trans keepD
    refine ⟨us, keepD3, by rw [DdAll.len ha]; omega, lcg_put hD h00 hn ok ((okv.go g2).go g3) ((g1.trans g2).trans g3) (g3.sub D (g2.sub D oD)) hσ hρ fun H4 e4 => ⟨acc ++ [z], us ++ [y], rfl, ?_, ?_, q3⟩⟩
    · rw [e4]
      exact DdAll.app (ddAll_mono (g2.trans g3).same ha) (.cons r3 .nil)
    · rw [List.length_append, List.length_singleton]
      omega
section
variable {w : Wd} {o o1 : Addr → Prop} {H H1 : Hp} {σ : L2.St} {ρ : List Sl} {P : Sl → Prop} {te tl tk tv : TE} {tt : TT} {ts : TS} {e : En}
theorem rl_end {I : Nat → List PyData → Prop} {n : Nat} {Q : VK} {D : Addr} {vs : List Nat} (ok : Ok w o σ H ρ) (hD : H D = none) (st : LcG w vs ρ σ o H D (RL w I n) H1) (hp : ∀ acc, I n acc → acc.length ≤ n → P (.dat (.list acc)))
    (k : ∀ o' H' v x, Go w o H o' H' → VR w o' H' v x → P x → Q v H') : Q (.ref D) H1 := by
  refine lcg_end ok hD st ?_ k
  rintro o1 u g ⟨acc, us, rfl, ha, hl, hI⟩ e1
  refine ⟨_, hp acc hI hl, Dd.lst (.inl (.inl ?_)) (ddAll_mono (hid_less fun a h => h.1) ha)⟩
  rw [hid_of fun z => z.2 rfl]
  exact e1
/-- [e for i, x in enumerate(a) if ..] -/
theorem e_lcE {i j m : Nat} (hm : m = 2) (h : E w tl ρ fun x => ∃ c ds, x = .dat c ∧ seqD (.dat c) = some ds ∧ ds.length ≤ sizeLine ∧ ∃ I : Nat → List PyData → Prop, I 0 [] ∧
      (∀ (k : Nat) d acc, ds[k]? = some d → I k acc → Lc w tt te (((DL.clr Sl.no ρ [i, j]).set i (.dat (.int (k : Int)))).set j (.dat d)) I k acc) ∧ ∀ acc, I ds.length acc → acc.length ≤ ds.length → P (.dat (.list acc))) :
    E w (tLc (iEnumA w.K tl) (gTup w.K m (gCons (gName i) (gCons (gName j) gNil))) tt te [i, j]) ρ P := by
  subst hm
  intro o σ H Q ok k
  refine h o σ H _ ok ?_
  rintro o1 H1 v x g1 r1 ⟨c, ds, rfl, hx, hz, I, h0, hs, hp⟩
  have ok1 := ok.go g1
  obtain ⟨a, us, rfl, ha, hq⟩ := r1.seqDat hx
  have ln := DdAll.len ha
  have main : ∀ (D : Addr) (hD : H1 D = none) (J : It) (G : Hp → Prop), (∀ o2 H2, Go w o1 H1 o2 H2 → G H2) → Walk J us.length G (YPair (fun i => some (.int (i : Nat))) (fun i => us[i]?)) → ∃ W : Nat → Nat → Hp → Prop, (∃ m, W 0 m (upd H1 D (.lst []))) ∧ ∀ n m H, W n m H →
      (J.stop n H ∧ Q (.ref D) H) ∨ (J.go n H ∧ ∃ Nx : Hp → Prop, (∀ H', Nx H' → ∃ m', m' < m ∧ W (n + 1) m' H') ∧ ∀ x H', J.yld n H x H' → gTup w.K 2 (gCons (gName i) (gCons (gName j) gNil)) x (wipe σ [i, j]) H' fun σ2 H2 => wipe σ2 [i, j] = wipe σ [i, j] ∧ tt σ2 H2 fun b H3 =>
        if b = true then te σ2 H3 fun y H4 => ∃ acc, H4 D = some (.lst acc) ∧ acc.length < sizeLine ∧ Nx (upd H4 D (.lst (acc ++ [y]))) else Nx H3) := by
    intro D hD J G hG wk
    refine lc_it wk (fun n H2 => LcG w [i, j] ρ σ o1 H1 D (RL w I n) H2) (lcg_start ok1 hD ⟨[], [], rfl, .nil, Nat.le_refl _, h0⟩) (fun n H2 _ st => ?_) (fun n y H2 H3 hi st yy => ?_) (fun H2 st => ?_)
    · obtain ⟨o2, _, _, g2, _⟩ := st
      exact hG o2 H2 g2
    · obtain ⟨p, u1, u2, rfl, np, rfl, e1, e2⟩ := yy
      cases e1
      obtain ⟨d, hd, _⟩ := DdAll.gets ha e2
      have st' := lcg_new (u := .tup [.int (n : Nat), u2]) RL.go st np
      refine ⟨p, _, rfl, .inl (.inl upd_same), rfl, _, _, rfl, _, _, rfl, rfl, ?_⟩
      have hσ : wipe (((wipe σ [i, j]).set i (some (.int (n : Nat)))).set j (some u2)) [i, j] = wipe σ [i, j] := by
        simp only [wipe_clr]
        rw [clr_set (by simp), clr_set (by simp), clr_clr]
      refine ⟨hσ, ?_⟩
      refine lcg_turn (ρ2 := ((DL.clr Sl.no ρ [i, j]).set i (.dat (.int (n : Int)))).set j (.dat d)) ok1 hD (by omega) st' hσ (by rw [clr_set (by simp), clr_set (by simp), clr_clr]) (fun o2 k2 g2 => ?_) fun acc hI => hs n d acc hd hI
      have rd : Dd w.K (hid (upd H2 p (.tup [.int (n : Nat), u2])) o2) u2 d := by
        obtain ⟨d2, hd2, rd2⟩ := DdAll.gets (ddAll_mono g2.same ha) e2
        rw [hd] at hd2
        cases hd2
        exact rd2
      exact (k2.setD i (x := .dat (.int (n : Int))) (Dd.int _) trivial).setD j (x := .dat d) rd trivial
    · rw [ln] at st
      exact rl_end ok1 hD st hp fun o' H' v x g r p => k o' H' v x (g1.trans g) r p
  refine ⟨a, us, rfl, ?_⟩
  rcases hq with hq | hq
  · exact .inl ⟨hid_le.seq hq, fun D hD => main D hD _ _ (fun o2 H2 g => hid_le.seq (g.same.seq hq)) walk_enum⟩
  · exact .inr ⟨sqT_mono hid_le hq, fun D hD => main D hD _ _ (fun o2 H2 g => sqT_mono hid_le (sqT_mono g.same hq)) walk_enumT⟩
/-- x = [e for y in a if ..], a list that will be changed -/
theorem s_setLcS {i j : Nat} (h : E w tl ρ fun x => ∃ c ds, x = .dat c ∧ seqD (.dat c) = some ds ∧ ds.length ≤ sizeLine ∧ ∃ I : Nat → List PyData → Prop, I 0 [] ∧
      (∀ (k : Nat) d acc, ds[k]? = some d → I k acc → Lc w tt te ((DL.clr Sl.no ρ [j]).set j (.dat d)) I k acc) ∧ ∀ acc p, I ds.length acc → acc.length ≤ ds.length → e.nx (ρ.set i (.own p acc))) :
    S w (tAsg (tLc (iSeq w.K tl) (gName j) tt te [j]) (gName i)) ρ e := by
  intro o σ H En ok kn kr kb kc
  refine h o σ H _ ok ?_
  rintro o1 H1 v x g1 r1 ⟨c, ds, rfl, hx, hz, I, h0, hs, hp⟩
  have ok1 := ok.go g1
  obtain ⟨a, us, rfl, ha, hq⟩ := r1.seqDat hx
  have ln := DdAll.len ha
  have main : ∀ (D : Addr) (hD : H1 D = none) (J : It) (G : Hp → Prop), (∀ o2 H2, Go w o1 H1 o2 H2 → G H2) → Walk J us.length G (YAt us) → ∃ W : Nat → Nat → Hp → Prop, (∃ m, W 0 m (upd H1 D (.lst []))) ∧ ∀ n m H, W n m H →
      (J.stop n H ∧ gName i (.ref D) σ H En.nx) ∨ (J.go n H ∧ ∃ Nx : Hp → Prop, (∀ H', Nx H' → ∃ m', m' < m ∧ W (n + 1) m' H') ∧ ∀ x H', J.yld n H x H' → gName j x (wipe σ [j]) H' fun σ2 H2 => wipe σ2 [j] = wipe σ [j] ∧ tt σ2 H2 fun b H3 =>
        if b = true then te σ2 H3 fun y H4 => ∃ acc, H4 D = some (.lst acc) ∧ acc.length < sizeLine ∧ Nx (upd H4 D (.lst (acc ++ [y]))) else Nx H3) := by
    intro D hD J G hG wk
    refine lc_it (Qd := fun H => gName i (.ref D) σ H En.nx) wk (fun n H2 => LcG w [j] ρ σ o1 H1 D (RL w I n) H2) (lcg_start ok1 hD ⟨[], [], rfl, .nil, Nat.le_refl _, h0⟩) (fun n H2 _ st => ?_) (fun n y H2 H3 hi st yy => ?_) (fun H2 st => ?_)
    · obtain ⟨o2, _, _, g2, _⟩ := st
      exact hG o2 H2 g2
    · obtain ⟨rfl, e2⟩ := yy
      obtain ⟨d, hd, _⟩ := DdAll.gets ha e2
      have hσ : wipe ((wipe σ [j]).set j (some y)) [j] = wipe σ [j] := by
        simp only [wipe_clr]
        rw [clr_set (by simp), clr_clr]
      refine ⟨hσ, ?_⟩
      refine lcg_turn (ρ2 := (DL.clr Sl.no ρ [j]).set j (.dat d)) ok1 hD (by omega) st hσ (by rw [clr_set (by simp), clr_clr]) (fun o2 k2 g2 => ?_) fun acc hI => hs n d acc hd hI
      have rd : Dd w.K (hid H3 o2) y d := by
        obtain ⟨d2, hd2, rd2⟩ := DdAll.gets (ddAll_mono g2.same ha) e2
        rw [hd] at hd2
        cases hd2
        exact rd2
      exact k2.setD j (x := .dat d) rd trivial
    · rw [ln] at st
      obtain ⟨h00, hn⟩ := own_apart ok1 hD
      obtain ⟨o2, u, ok2, g2, oD, e1, acc, xs, rfl, hacc, hl, hI⟩ := st
      refine kn o2 _ _ _ ((ok1.go g2).set i (x := .own D acc) ⟨rfl, oD, h00, xs, e1, hacc⟩ ?_) (hp acc D hI hl)
      rintro p' xs' e' m q' ys' nj ej
      cases e'
      exact (hn m q' ys' ej).symm
  refine ⟨a, us, rfl, ?_⟩
  rcases hq with hq | hq
  · exact .inl ⟨hid_le.seq hq, fun D hD => main D hD _ _ (fun o2 H2 g => hid_le.seq (g.same.seq hq)) walk_list⟩
  · exact .inr ⟨sqT_mono hid_le hq, fun D hD => main D hD _ _ (fun o2 H2 g => sqT_mono hid_le (sqT_mono g.same hq)) walk_tup⟩
/-- for x, y, z in a -/
theorem s_for3 {i j l m : Nat} (hm : m = 3) (h : E w te ρ fun x => ∃ c ds, x = .dat c ∧ seqD (.dat c) = some ds ∧ (∀ d ∈ ds, ∃ d1 d2 d3, d = .tuple [d1, d2, d3]) ∧ ∃ I : Nat → List Sl → Prop, I 0 ρ ∧
      (∀ (k : Nat) (d1 d2 d3 : PyData) (ρ' : List Sl), ds[k]? = some (.tuple [d1, d2, d3]) → I k ρ' → Turns w ts e I k (((ρ'.set i (.dat d1)).set j (.dat d2)).set l (.dat d3))) ∧ ∀ ρ', I ds.length ρ' → e.nx ρ') :
    S w (tFor (iSeq w.K te) (gTup w.K m (gCons (gName i) (gCons (gName j) (gCons (gName l) gNil)))) ts) ρ e := by
  subst hm
  intro o σ H D ok kn kr kb kc
  refine h o σ H _ ok ?_
  rintro o1 H1 v x g1 r1 ⟨c, ds, rfl, hx, h3, I, h0, hs, hd⟩
  have ok1 := ok.go g1
  obtain ⟨a, vs, rfl, ha, hq⟩ := r1.seqDat hx
  have ln := DdAll.len ha
  have b1 := ok1.toBas
  have okA := ok_in b1 ok1 (Same.refl _)
  have fin : ∀ σ' H', (∃ o' ρ', Ok (wAt w o1 H1) o' σ' H' ρ' ∧ I vs.length ρ') → D.nx σ' H' := by
    rintro σ' H' ⟨o', ρ', k1, i1⟩
    rw [ln] at i1
    exact kn o' σ' H' ρ' (ok_out b1 k1).1 (hd ρ' i1)
  have step : ∀ (k : Nat) (y : V) (σ2 : L2.St) (H2 H3 : Hp), k < vs.length → (∃ o' ρ', Ok (wAt w o1 H1) o' σ2 H2 ρ' ∧ I k ρ') → YAt vs k H2 y H3 →
      gTup w.K 3 (gCons (gName i) (gCons (gName j) (gCons (gName l) gNil))) y σ2 H3 fun σ4 H4 => ts { D with
        nx := fun σ' H' => ∃ o' ρ', Ok (wAt w o1 H1) o' σ' H' ρ' ∧ I (k + 1) ρ',
        ct := fun σ' H' => ∃ o' ρ', Ok (wAt w o1 H1) o' σ' H' ρ' ∧ I (k + 1) ρ', bk := D.nx } σ4 H4 := by
    rintro k y σ2 H2 H3 hk ⟨o2, ρ2, ok2, i2⟩ ⟨rfl, e2⟩
    obtain ⟨_, s2⟩ := ok_out b1 ok2
    obtain ⟨d, hd1, rd⟩ := DdAll.gets (ddAll_mono s2 ha) e2
    obtain ⟨d1, d2, d3, rfl⟩ := h3 d (List.mem_of_getElem? hd1)
    cases rd with
    | tup hs1 ha1 =>
      cases ha1 with
      | cons ra ha1 =>
        cases ha1 with
        | cons rb ha1 =>
          cases ha1 with
          | cons rc ha1 =>
            cases ha1
            refine ⟨_, _, rfl, sqT_mono hid_le hs1, rfl, _, _, rfl, _, _, rfl, _, _, rfl, rfl, ?_⟩
            refine hs k d1 d2 d3 ρ2 hd1 i2 (wAt w o1 H1).H0 o2 _ _ _ (((ok2.setD i (x := .dat d1) ra trivial).setD j (x := .dat d2) rb trivial).setD l (x := .dat d3) rc trivial) ?_ ?_ ?_ ?_
            · intro o' σ' H' ρ' a1 a2
              exact ⟨o', ρ', a1, a2⟩
            · intro o' H' v' d' a1 a2 a3
              exact kr o' H' v' d' (bas_out b1 a1).1 a2 a3
            · intro o' σ' H' ρ' a1 a2
              exact kn o' σ' H' ρ' (ok_out b1 a1).1 a2
            · intro o' σ' H' ρ' a1 a2
              exact ⟨o', ρ', a1, a2⟩
  refine ⟨a, vs, rfl, ?_⟩
  rcases hq with hq | hq
  · refine .inl ⟨hid_le.seq hq, ?_⟩
    exact for_it walk_list (fun k σ' H' => ∃ o' ρ', Ok (wAt w o1 H1) o' σ' H' ρ' ∧ I k ρ') ⟨o1, ρ, okA, h0⟩
      (fun k σ' H' _ ⟨o', ρ', k1, _⟩ => hid_le.seq ((ok_out b1 k1).2.seq hq)) step fin
  · refine .inr ⟨sqT_mono hid_le hq, ?_⟩
    exact for_it walk_tup (fun k σ' H' => ∃ o' ρ', Ok (wAt w o1 H1) o' σ' H' ρ' ∧ I k ρ') ⟨o1, ρ, okA, h0⟩
      (fun k σ' H' _ ⟨o', ρ', k1, _⟩ => sqT_mono hid_le (sqT_mono (ok_out b1 k1).2 hq)) step fin
/-! ### dicts -/
theorem dc_it {J : It} {n : Nat} {G : Hp → Prop} {Y : Nat → Hp → V → Hp → Prop} (w : Walk J n G Y) {g : TG} {tt : TT} {tk tv : TE} {vs : List Nat} {σ : L2.St} {H1 : Hp} {D : Addr} {Qd : Hp → Prop} (Pv : Nat → Hp → Prop) (h0 : Pv 0 (upd H1 D (.dK []))) (hG : ∀ i H, i ≤ n → Pv i H → G H)
    (hs : ∀ i x H H', i < n → Pv i H → Y i H x H' → g x (wipe σ vs) H' fun σ2 H2 => wipe σ2 vs = wipe σ vs ∧ tt σ2 H2 fun b H3 =>
      if b = true then tk σ2 H3 fun y H4 => tv σ2 H4 fun z H5 => ∃ kvs k, y = kV k ∧ H5 D = some (.dK kvs) ∧ kvs.length < sizeLine ∧ Pv (i + 1) (upd H5 D (.dK (putK kvs k z))) else Pv (i + 1) H3) (hd : ∀ H, Pv n H → Qd H) :
    ∃ W : Nat → Nat → Hp → Prop, (∃ m, W 0 m (upd H1 D (.dK []))) ∧ ∀ i m H, W i m H →
      (J.stop i H ∧ Qd H) ∨ (J.go i H ∧ ∃ Nx : Hp → Prop, (∀ H', Nx H' → ∃ m', m' < m ∧ W (i + 1) m' H') ∧ ∀ x H', J.yld i H x H' → g x (wipe σ vs) H' fun σ2 H2 => wipe σ2 vs = wipe σ vs ∧ tt σ2 H2 fun b H3 =>
        if b = true then tk σ2 H3 fun y H4 => tv σ2 H4 fun z H5 => ∃ kvs k, y = kV k ∧ H5 D = some (.dK kvs) ∧ kvs.length < sizeLine ∧ Nx (upd H5 D (.dK (putK kvs k z))) else Nx H3) := by
  refine ⟨fun i m H => m = n - i ∧ i ≤ n ∧ Pv i H, ⟨n, by simp, Nat.zero_le _, h0⟩, ?_⟩
  rintro i m H ⟨rfl, hi, p⟩
  have q := hG i H hi p
  by_cases hlt : i < n
  · refine .inr ⟨w.goes i H hlt q, Pv (i + 1), fun H' p' => ⟨n - (i + 1), by omega, rfl, hlt, p'⟩, fun x H' y => hs i x H H' hlt p (w.yields i H x H' hlt q y)⟩
  · have e : i = n := by omega
    subst e
    exact .inl ⟨w.stops H q, hd H p⟩
/-- what stands in a dict of told coins behind i of them -/
def toldBy (g : Coin → Bool) (cs : List Coin) : Tl := cs.foldl (fun ps c => if g c = true then putT ps c.2.1 c.2.2 else ps) []
theorem putT_len (ps : Tl) (k : Int) (t : Bool) : (putT ps k t).length ≤ ps.length + 1 := by
  unfold putT
  split
  · rw [List.length_map]
    omega
  · rw [List.length_append, List.length_singleton]
    omega
theorem told_len (g : Coin → Bool) : ∀ (cs : List Coin) (ps : Tl), (cs.foldl (fun ps c => if g c = true then putT ps c.2.1 c.2.2 else ps) ps).length ≤ ps.length + cs.length
  | [], ps => Nat.le_refl _
  | c :: cs, ps => by
    rw [List.foldl_cons, List.length_cons]
    refine Nat.le_trans (told_len g cs _) ?_
    have := putT_len ps c.2.1 c.2.2
    split <;> omega
def RT (g : Coin → Bool) (cs : List Coin) (i : Nat) (_ : Addr → Prop) (_ : Hp) (u : HO) : Prop := u = .dK (tlV (toldBy g (cs.take i)))
/-- {k: t for its, k, t in a if ..} -/
theorem e_dcC {i j l m : Nat} (hm : m = 3) (g : Coin → Bool) (h : E w tl ρ fun x => ∃ (c : PyData) (cs : List Coin), x = .dat c ∧ seqD (.dat c) = some (cs.map cD) ∧ cs.length ≤ sizeLine ∧
      (∀ c ∈ cs, T w tt ((((DL.clr Sl.no ρ [i, j, l]).set i (.dat (nmD c.1))).set j (.dat (.int c.2.1))).set l (.dat (.bool c.2.2))) fun b => b = g c ∧
        (b = true → E w tk ((((DL.clr Sl.no ρ [i, j, l]).set i (.dat (nmD c.1))).set j (.dat (.int c.2.1))).set l (.dat (.bool c.2.2))) fun y => y = .dat (.int c.2.1) ∧
          E w tv ((((DL.clr Sl.no ρ [i, j, l]).set i (.dat (nmD c.1))).set j (.dat (.int c.2.1))).set l (.dat (.bool c.2.2))) fun z => z = .dat (.bool c.2.2))) ∧
      P (.dat (tlD (toldBy g cs)))) :
    E w (tDc (iSeq w.K tl) (gTup w.K m (gCons (gName i) (gCons (gName j) (gCons (gName l) gNil)))) tt tk tv [i, j, l]) ρ P := by
  subst hm
  intro o σ H Q ok k
  refine h o σ H _ ok ?_
  rintro o1 H1 v x g1 r1 ⟨c, cs, rfl, hx, hz, hs, hp⟩
  have ok1 := ok.go g1
  obtain ⟨a, us, rfl, ha, hq⟩ := r1.seqDat hx
  have ln := DdAll.len ha
  rw [List.length_map] at ln
  have main : ∀ (D : Addr) (hD : H1 D = none) (J : It) (G : Hp → Prop), (∀ o2 H2, Go w o1 H1 o2 H2 → G H2) → Walk J us.length G (YAt us) → ∃ W : Nat → Nat → Hp → Prop, (∃ m, W 0 m (upd H1 D (.dK []))) ∧ ∀ n m H, W n m H →
      (J.stop n H ∧ Q (.ref D) H) ∨ (J.go n H ∧ ∃ Nx : Hp → Prop, (∀ H', Nx H' → ∃ m', m' < m ∧ W (n + 1) m' H') ∧ ∀ x H', J.yld n H x H' → gTup w.K 3 (gCons (gName i) (gCons (gName j) (gCons (gName l) gNil))) x (wipe σ [i, j, l]) H' fun σ2 H2 => wipe σ2 [i, j, l] = wipe σ [i, j, l] ∧ tt σ2 H2 fun b H3 =>
        if b = true then tk σ2 H3 fun y H4 => tv σ2 H4 fun z H5 => ∃ kvs k, y = kV k ∧ H5 D = some (.dK kvs) ∧ kvs.length < sizeLine ∧ Nx (upd H5 D (.dK (putK kvs k z))) else Nx H3) := by
    intro D hD J G hG wk
    obtain ⟨h00, hn⟩ := own_apart ok1 hD
    refine dc_it wk (fun n H2 => LcG w [i, j, l] ρ σ o1 H1 D (RT g cs n) H2) (lcg_start ok1 hD rfl) (fun n H2 _ st => ?_) (fun n y H2 H3 hi st yy => ?_) (fun H2 st => ?_)
    · obtain ⟨o2, _, _, g2, _⟩ := st
      exact hG o2 H2 g2
    · obtain ⟨rfl, e2⟩ := yy
      obtain ⟨o2, u, ok2, g2, oD, e1, rfl⟩ := st
      obtain ⟨d, hd, rd⟩ := DdAll.gets (ddAll_mono g2.same ha) e2
      obtain ⟨cc, hc, rfl⟩ := map_getE hd
      have hnb : w.bg ≠ some D := ok2.toBas.nb h00
      have tk1 : cs.take (n + 1) = cs.take n ++ [cc] := by
        rw [List.take_succ, hc]
        rfl
      have tl1 : toldBy g (cs.take (n + 1)) = if g cc = true then putT (toldBy g (cs.take n)) cc.2.1 cc.2.2 else toldBy g (cs.take n) := by
        unfold toldBy
        rw [tk1, List.foldl_append]
        rfl
      cases rd with
      | tup hs1 ha1 =>
        cases ha1 with
        | cons ra ha1 =>
          cases ha1 with
          | cons rb ha1 =>
            cases ha1 with
            | cons rc ha1 =>
              cases ha1
              rename_i p u1 u2 u3
              have hσ : wipe ((((wipe σ [i, j, l]).set i (some u1)).set j (some u2)).set l (some u3)) [i, j, l] = wipe σ [i, j, l] := by
                simp only [wipe_clr]
                rw [clr_set (by simp), clr_set (by simp), clr_set (by simp), clr_clr]
              have hρ : DL.clr Sl.no ((((DL.clr Sl.no ρ [i, j, l]).set i (.dat (nmD cc.1))).set j (.dat (.int cc.2.1))).set l (.dat (.bool cc.2.2))) [i, j, l] = DL.clr Sl.no ρ [i, j, l] := by
                rw [clr_set (by simp), clr_set (by simp), clr_set (by simp), clr_clr]
              refine ⟨_, _, rfl, sqT_mono hid_le hs1, rfl, _, _, rfl, _, _, rfl, _, _, rfl, rfl, hσ, ?_⟩
              have ok3 := ((ok2.setD i (x := .dat (nmD cc.1)) ra trivial).setD j (x := .dat (.int cc.2.1)) rb trivial).setD l (x := .dat (.bool cc.2.2)) rc trivial
              refine hs cc (List.mem_of_getElem? hc) o2 _ _ _ ok3 ?_
              rintro o4 H4 b g4 ⟨rfl, hb⟩
              have keep4 : H4 D = some (.dK (tlV (toldBy g (cs.take n)))) := (g4.keep D oD hnb).trans e1
              by_cases hg : g cc = true
              · rw [if_pos hg]
                refine hb hg o4 _ _ _ (ok3.go g4) ?_
                rintro o5 H5 y5 x5 g5 r5 ⟨rfl, hv⟩
                refine hv o5 _ _ _ ((ok3.go g4).go g5) ?_
                rintro o6 H6 y6 x6 g6 r6 rfl
                cases r5
                cases r6
                have keep6 : H6 D = some (.dK (tlV (toldBy g (cs.take n)))) := (g6.keep D (g5.sub D (g4.sub D oD)) hnb).trans ((g5.keep D (g4.sub D oD) hnb).trans keep4)
                refine ⟨tlV (toldBy g (cs.take n)), .inl cc.2.1, rfl, keep6, ?_, ?_⟩
                · have := told_len g (cs.take n) []
                  have e : (tlV (toldBy g (cs.take n))).length = (toldBy g (cs.take n)).length := List.length_map ..
                  rw [e]
                  rw [List.length_take] at this
                  unfold toldBy
                  simp only [List.length_nil] at this
                  omega
                · refine lcg_put hD h00 hn ok1 (((ok3.go g4).go g5).go g6) (((g2.trans g4).trans g5).trans g6) (g6.sub D (g5.sub D (g4.sub D oD))) hσ hρ fun H7 _ => ?_
                  show HO.dK _ = HO.dK _
                  rw [put_tlV, tl1, if_pos hg]
              · rw [if_neg hg]
                refine lcg_same (ok3.go g4) (g2.trans g4) (g4.sub D oD) keep4 hσ hρ ?_
                show HO.dK _ = HO.dK _
                rw [tl1, if_neg hg]
    · refine lcg_end ok1 hD st ?_ fun o' H' v x g r p => k o' H' v x (g1.trans g) r p
      rintro o2 u g2 ru e1
      have ru : u = .dK (tlV (toldBy g (cs.take us.length))) := ru
      rw [ln, List.take_length] at ru
      subst ru
      refine ⟨_, hp, dd_tl _ (.inl ?_)⟩
      rw [hid_of fun z => z.2 rfl]
      exact e1
  refine ⟨a, us, rfl, ?_⟩
  rcases hq with hq | hq
  · exact .inl ⟨hid_le.seq hq, fun D hD => main D hD _ _ (fun o2 H2 g => hid_le.seq (g.same.seq hq)) walk_list⟩
  · exact .inr ⟨sqT_mono hid_le hq, fun D hD => main D hD _ _ (fun o2 H2 g => sqT_mono hid_le (sqT_mono g.same hq)) walk_tup⟩
/-! ### int of a truth, odd ones -/
def asI : PyData → Option Int
  | .int i => some i
  | .bool b => some (if b = true then 1 else 0)
  | _ => none
theorem cl_intB : Cl w (fun xs H Q => (∃ i, xs = [.int i] ∧ Q (.int i) H) ∨ ∃ k, xs = [.bl k] ∧ Q (.int (if k = true then 1 else 0)) H) (fun xs P => ∃ d i, xs = [.dat d] ∧ asI d = some i ∧ P (.dat (.int i))) := by
  rintro o H vs xs P Q b r ⟨d, i, rfl, hx, q⟩ k
  cases r with
  | cons r t =>
    cases t
    cases d with
    | int n =>
      cases hx
      cases r
      exact .inl ⟨_, rfl, k o H _ _ b.refl (VR.dat (Dd.int _)) q⟩
    | bool c =>
      cases hx
      cases r
      exact .inr ⟨_, rfl, k o H _ _ b.refl (VR.dat (Dd.int _)) q⟩
    | none => cases hx
    | str _ => cases hx
    | list _ => cases hx
    | tuple _ => cases hx
    | dict _ => cases hx
theorem op2_oddI : Op2 w (fun x y H Q => ∃ n : Nat, x = .int (n : Int) ∧ y = .int 1 ∧ Q (.int ((n % 2 : Nat) : Int)) H) (fun x y P => ∃ i : Int, x = .dat (.int i) ∧ y = .dat (.int 1) ∧ 0 ≤ i ∧ P (.dat (.int (i % 2)))) := by
  rintro o H u v x y P Q b ru rv ⟨i, rfl, rfl, h0, q⟩ k
  cases ru
  cases rv
  obtain ⟨n, rfl⟩ : ∃ n : Nat, i = (n : Int) := ⟨i.toNat, by omega⟩
  exact ⟨n, rfl, rfl, k o H _ _ b.refl (VR.dat (Dd.int _)) q⟩
/-- k in told, as a value -/
theorem e_din {td ty : TE} (h : E w ty ρ fun y => E w td ρ fun x => ∃ k ps, y = .dat (.int k) ∧ x = .dat (tlD ps) ∧ P (.dat (.bool (lukT ps k).isSome))) : E w (tDIn ty td) ρ P := by
  intro o σ H Q ok k
  refine h o σ H _ ok ?_
  intro o1 H1 v y g1 r1 q1
  refine q1 o1 σ H1 _ (ok.go g1) ?_
  rintro o2 H2 u x g2 r2 ⟨i, ps, rfl, rfl, q⟩
  cases r1
  obtain ⟨a, rfl, hr⟩ := tl_dd r2
  exact ⟨a, (lukT ps i).map V.bl, rfl, .inl ⟨tlV ps, .inl i, rd_mono hid_le hr, rfl, (val_tlV ps i).symm⟩, k o2 H2 _ _ (g1.trans g2) (by rw [Option.isSome_map]; exact VR.dat (Dd.bl _)) q⟩
end
section
variable {X : Cx} {K : PySem.W.Frag}
theorem units65 {k : Nat} {A : Around} (r : Room k A) : A.units + 65 < cLine := by have := r.un; omega
theorem units1 {k : Nat} {A : Around} (r : Room k A) : A.units + 1 < cLine := by have := r.un; omega
theorem pi_enumK {e : Expr} {te : TE} {p pos tpos : Pos} {es : List Expr} {kk : Nat} (hK : X.K = K) (hg : Gl X "enumerate") (hm : X.mg "enumerate" = none) (he : PE X e te) (hs : starEach [e] X.env = [(false, eval e X.env)] := by rfl) :
    PI X (.Tuple es kk tpos) (.Call (.Name "enumerate" p) [e] [] pos) (iEnumA K te) := by
  subst hK
  exact pi_enumA hg hm he hs
theorem pg_tupK {es : List Expr} {k : Nat} {pos : Pos} {t : TGs} {n : Nat} (hK : X.K = K) (hc : X.calm = true) (h : PGs X es t)
    (hn : (assignEach es X.env).length = n := by rfl) (hst : (assignEach es X.env).findIdx? (·.1) = none := by rfl) : PG X (.Tuple es k pos) (gTup K n t) := by
  subst hK
  exact pg_tup hc h hn hst
theorem sl_seqK (hK : X.K = K) : SlR X (fun x lo hi H Q => rSlL K x lo hi H Q ∨ rSlA K x lo hi H Q) := by
  subst hK
  exact sl_seqA
end
end DL

/-! Four names at once, a new list and another at once, the least of two. -/
namespace DL
open PySem PySem.Spec PyProof.Rows L2 TL
section
variable {w : Wd} {o : Addr → Prop} {H : Hp} {σ : L2.St} {ρ : List Sl} {te : TE} {e : En}
/-- x, y, z, u = e -/
theorem s_set4 {i j l m n : Nat} (hn : n = 4) (h : E w te ρ fun x => ∃ d1 d2 d3 d4, x = .dat (.tuple [d1, d2, d3, d4]) ∧ e.nx ((((ρ.set i (.dat d1)).set j (.dat d2)).set l (.dat d3)).set m (.dat d4))) :
    S w (tAsg te (gTup w.K n (gCons (gName i) (gCons (gName j) (gCons (gName l) (gCons (gName m) gNil)))))) ρ e := by
  subst hn
  intro o σ H D ok kn kr kb kc
  refine h o σ H _ ok ?_
  rintro o1 H1 v x g1 r1 ⟨d1, d2, d3, d4, rfl, q⟩
  cases r1 with
  | tup hs ha =>
    cases ha with
    | cons ra rt =>
      cases rt with
      | cons rb rt =>
        cases rt with
        | cons rc rt =>
          cases rt with
          | cons rd rt =>
            cases rt
            refine ⟨_, _, rfl, sqT_mono hid_le hs, rfl, _, _, rfl, _, _, rfl, _, _, rfl, _, _, rfl, rfl, ?_⟩
            exact kn o1 _ H1 _ (((((ok.go g1).setD i (x := .dat d1) ra trivial).setD j (x := .dat d2) rb trivial).setD l (x := .dat d3) rc trivial).setD m (x := .dat d4) rd trivial) q
/-- x, y = [], e: x a list that will be changed -/
theorem s_parOwn {i j : Nat} (h : E w te ρ fun y => notOwn y ∧ ∀ p, e.nx ((ρ.set i (.own p [])).set j y)) : S w (tPar i j (tCons (tLst tNil) (tCons te tNil))) ρ e := by
  intro o σ H D ok kn kr kb kc
  refine ⟨Nat.zero_le _, fun p np => ?_⟩
  have g2 := ok.toBas.newOwn (u := .lst []) np
  have ok2 := ok.go g2
  have n0 : ¬ w.own0 p := fun z => ok.here p (ok.sub p z) np
  refine h _ σ _ _ ok2 ?_
  rintro o3 H3 u y g3 r3 ⟨n, q⟩
  have keep : H3 p = some (.lst []) := (g3.keep p (.inr rfl) (ok2.toBas.nb n0)).trans upd_same
  refine ⟨_, _, rfl, kn o3 _ H3 _ (((ok2.go g3).set i (x := .own p []) ⟨rfl, g3.sub p (.inr rfl), n0, [], keep, .nil⟩ ?_).setD j r3 n) (q p)⟩
  intro p' xs' e' m q' ys' nm em
  cases e'
  intro z
  subst z
  rcases ok.slot m _ em with z | ⟨u2, hu, _, hq, _⟩
  · cases z
  · exact ok.here _ hq np
theorem cl_min2 : Cl w (fun xs H Q => ∃ i j, xs = [.int i, .int j] ∧ Q (.int (if j < i then j else i)) H) (fun xs P => ∃ i j, xs = [.dat (.int i), .dat (.int j)] ∧ P (.dat (.int (if j < i then j else i)))) := by
  rintro o H vs xs P Q b r ⟨i, j, rfl, q⟩ k
  cases r with
  | cons ra rt =>
    cases rt with
    | cons rb rt =>
      cases rt
      cases ra
      cases rb
      exact ⟨i, j, rfl, k o H _ _ b.refl (VR.dat (Dd.int _)) q⟩
end
end DL

/-! Dicts from ints to ints: sums by powers, sorted keys, bits of an int. -/
namespace DL
open PySem PySem.Spec PyProof.Rows L2 TL
section
variable {X : Cx}
/-- sorted(d, reverse=b), the keys ints -/
def rSortDR (b : Bool) : List V → List V → Hp → VK → Prop := fun vs zs H Q => ∃ (a : Addr) (kvs : List (Key × V)) (ks : List Int), vs = [V.ref a] ∧ zs = [.bl b] ∧ Rd H a (.dK kvs) ∧ kvs.map (·.1) = ks.map Sum.inl ∧
  ∀ (ys : List Int) (p : Addr), ys.Perm ks → OrdB b ys → H p = none → Q (.ref p) (upd H p (.lst (ys.map V.int)))
theorem call_sortDR {b : Bool} (hcalm : X.calm = true) : CallRK X (.builtin "sorted") [Str.ofString "reverse"] (rSortDR b) := by
  intro pins s σ H xs zs us ws Q I r rz q
  obtain ⟨a, kvs, ks, rfl, rfl, hd, hks, q⟩ := q
  obtain rfl := Vals.ref1 r
  obtain ⟨w1, rfl, e1⟩ := vals1 rz
  obtain rfl : w1 = Value.bool b := e1
  obtain ⟨z, lo, vs, rel, dd⟩ := dk_rd I.hok hd
  obtain ⟨ep, hat⟩ := dd.dictAt
  have hkeys : vs.map (·.1) = ks.map Sum.inl := rel.keys.symm.trans hks
  have hl : vs.length = ks.length := by
    have e := congrArg List.length hkeys
    rw [List.length_map, List.length_map] at e
    exact e
  have h16 : vs.length ≤ sizeLine := by rw [← rel.length]; exact z
  refine call_function_entry_kw PyProof.Rows.kind_sorted PyProof.Rows.plain_sorted PyProof.Rows.entry_sorted (PyProof.Rows.args_sorted_rev _ _) ?_
  unfold Builtin.«sorted»
  refine wpAny_bind (m := checkCount "sorted" 1 1 _) (wpAny_pure ?_)
  refine wpAny_bind (PySem.W.kdu_collect (A := X.A.in1) (PySem.W.kdl_dict (knd := mixKind X.prog X.w) (kvs := vs) (ep := ep) lo) (I.ok.hd hcalm) hat h16 fun h' tk acc hk hacc => ?_)
  have hal : acc.toList.length = ks.length := by rw [Array.length_toList, hacc.1, hl]
  have hS : IntsAre acc.toList ks := ints_each hal fun j v e => by
    obtain ⟨k, x, e1, e2⟩ := hacc.2 j v (by rw [← Array.getElem?_toList]; exact e)
    have e3 : (vs.map (·.1))[j]? = some k := by rw [List.getElem?_map, e1]; rfl
    rw [hkeys, List.getElem?_map] at e3
    cases e4 : ks[j]? with
    | none => rw [e4] at e3; cases e3
    | some y =>
      rw [e4] at e3
      have e5 : Sum.inl y = k := Option.some.inj e3
      subst e5
      rcases keyIs_shape (show keyIs (Sum.inl y) v = true from e2) with ⟨i, t, ek, ev⟩ | ⟨z, t, ek, ev⟩
      · cases ek
        exact ⟨y, t, rfl, ev⟩
      · cases ek
  have I1 : Inv X pins σ H { s with heap := h', toks := tk } := I.kept hk
  have hz : acc.toList.length ≤ sizeLine := by rw [hal, ← hl]; exact h16
  refine wpAny_bind (wpAny_newList ?_ hz)
  have hoL : (h'.push (seqObj "list" acc.toList.toArray 0)).get? h'.objs.size = some (seqObj "list" acc.toList.toArray 0) := Heap.get?_push_size _ rfl
  show wpAny _ _ _ _ _ { s with heap := h'.push (seqObj "list" acc.toList.toArray 0), toks := tk }
  refine wpAny_bind (wpAny_holding (wpAny_call_entry_kw PyProof.Rows.slot_list_sort ⟨_, hoL, rfl⟩ PyProof.Rows.entry_list_sort ?_ (PyProof.Rows.args_list_sort_rev _ _)))
  refine SrtR.list_sort_ordR (s := { s with heap := h'.push (seqObj "list" acc.toList.toArray 0), toks := tk }) SrtO.swo_int hoL hz (fun h2 => SrtO.ints_sortable hS h2) fun out h1 h2 => ⟨_, rfl, ?_⟩
  obtain ⟨ns', k1, k2, k3⟩ := SrtR.ints_outR hS h1 h2
  obtain ⟨e', he'⟩ := PyProof.Rows.sortedHeap_at (vs := acc.toList) (out := if b = true then out.toArray.reverse else out.toArray) hoL
  have hlen : (ns'.map V.int).length ≤ sizeLine := by
    rw [List.length_map, k2.length_eq, ← hl]
    exact h16
  have e0 : ((if b = true then out.toArray.reverse else out.toArray).toList).toArray = (if b = true then out.toArray.reverse else out.toArray) := by rw [Array.toArray_toList]
  refine wpAny_pure ⟨_, rfl, .ref h'.objs.size, upd H h'.objs.size (.lst (ns'.map V.int)), I1.laid (t' := tk) (fun b u e => ?_) (Nat.le_refl _)
    (show ObjOk X.prog X.w _ _ _ (.lst (ns'.map V.int)) from ⟨hlen, _, e', vals_of_ints k1, by rw [e0]; exact he'⟩), rfl, q _ _ k2 k3 (I1.hok.fresh (Nat.le_refl _))⟩
  have hb : b < h'.objs.size := Heap.lt_size e
  rw [PyProof.Rows.sortedHeap_old (Nat.ne_of_lt hb) (by rw [size_push']; exact Nat.lt_succ_of_lt hb)]
  exact Heap.get?_push_of_some _ e
end
/-! ### dicts from ints to ints -/
abbrev Il := List (Int × Int)
def ilD (ps : Il) : PyData := .dict (ps.map fun p => (.int p.1, .int p.2))
def ilV (ps : Il) : List (Key × V) := ps.map fun p => (.inl p.1, .int p.2)
def putI (ps : Il) (k t : Int) : Il := if (ps.any fun p => decide (p.1 = k)) = true then ps.map (fun p => if p.1 = k then (p.1, t) else p) else ps ++ [(k, t)]
def lukI (ps : Il) (k : Int) : Option Int := (ps.find? fun p => decide (p.1 = k)).map (·.2)
theorem put_ilV (ps : Il) (k t : Int) : putK (ilV ps) (.inl k) (.int t) = ilV (putI ps k t) := by
  unfold putK putI ilV
  rw [List.any_map]
  have e : ((fun kv : Key × V => decide (kv.1 = Sum.inl k)) ∘ fun p : Int × Int => ((Sum.inl p.1 : Key), V.int p.2)) = fun p : Int × Int => decide (p.1 = k) := by
    funext p
    show decide ((Sum.inl p.1 : Key) = Sum.inl k) = decide (p.1 = k)
    by_cases h : p.1 = k
    · rw [h]
      simp
    · rw [decide_eq_false h, decide_eq_false fun z => h (Sum.inl.inj z)]
  rw [e]
  split
  · rw [List.map_map, List.map_map]
    refine List.map_congr_left fun p _ => ?_
    show (if (Sum.inl p.1 : Key) = Sum.inl k then ((Sum.inl p.1 : Key), V.int t) else ((Sum.inl p.1 : Key), V.int p.2)) = ((Sum.inl (if p.1 = k then (p.1, t) else p).1 : Key), V.int (if p.1 = k then (p.1, t) else p).2)
    by_cases h : p.1 = k
    · rw [if_pos h, if_pos (by rw [h])]
    · rw [if_neg h, if_neg fun z => h (Sum.inl.inj z)]
  · rw [List.map_append]
    rfl
theorem val_ilV (ps : Il) (k : Int) : valV (ilV ps) (.inl k) = (lukI ps k).map V.int := by
  unfold valV lukI ilV
  rw [List.find?_map, Option.map_map, Option.map_map]
  have e : ((fun kv : Key × V => decide (kv.1 = Sum.inl k)) ∘ fun p : Int × Int => ((Sum.inl p.1 : Key), V.int p.2)) = fun p : Int × Int => decide (p.1 = k) := by
    funext p
    show decide ((Sum.inl p.1 : Key) = Sum.inl k) = decide (p.1 = k)
    by_cases h : p.1 = k
    · rw [h]
      simp
    · rw [decide_eq_false h, decide_eq_false fun z => h (Sum.inl.inj z)]
  rw [e]
  rfl
theorem dd_il {K : PySem.W.Frag} {H : Hp} {a : Addr} (ps : Il) (h : Rd H a (.dK (ilV ps))) : Dd K H (.ref a) (ilD ps) := by
  refine Dd.dic h ?_
  clear h
  induction ps with
  | nil => exact .nil
  | cons p ps ih => exact .cons (k := .inl p.1) (.int p.2) ih
theorem il_dd {K : PySem.W.Frag} {H : Hp} {v : V} {ps : Il} (h : Dd K H v (ilD ps)) : ∃ a, v = .ref a ∧ Rd H a (.dK (ilV ps)) := by
  unfold ilD at h
  cases h with
  | dic hr hk =>
    rename_i a kvs
    refine ⟨a, rfl, ?_⟩
    have e : kvs = ilV ps := by
      clear hr
      induction ps generalizing kvs with
      | nil =>
        cases hk
        rfl
      | cons p ps ih =>
        rw [List.map_cons] at hk
        cases kvs with
        | nil => cases hk
        | cons kv kvs =>
          obtain ⟨k, v⟩ := kv
          cases k with
          | inl i =>
            generalize hq : (PyData.int p.1, PyData.int p.2) = q at hk
            cases hk with
            | cons h1 h2 =>
              cases hq
              cases h1
              rw [ih h2]
              rfl
          | inr x =>
            generalize hq : (PyData.int p.1, PyData.int p.2) = q at hk
            cases hk with
            | cons h1 h2 => cases hq
    rw [← e]
    exact hr
theorem putI_len (ps : Il) (k t : Int) : (putI ps k t).length ≤ ps.length + 1 := by
  unfold putI
  split
  · rw [List.length_map]
    omega
  · rw [List.length_append, List.length_singleton]
    omega
/-- a pile of numbers at powers, summed by powers -/
def sumsBy (ps : Il) : Il := ps.foldl (fun s p => putI s p.2 ((lukI s p.2).getD 0 + p.1)) []
theorem sums_len : ∀ (ps s : Il), (ps.foldl (fun s p => putI s p.2 ((lukI s p.2).getD 0 + p.1)) s).length ≤ s.length + ps.length
  | [], s => Nat.le_refl _
  | p :: ps, s => by
    rw [List.foldl_cons, List.length_cons]
    refine Nat.le_trans (sums_len ps _) ?_
    have := putI_len s p.2 ((lukI s p.2).getD 0 + p.1)
    omega
def pD (p : Int × Int) : PyData := .tuple [.int p.1, .int p.2]
theorem clr_same {α : Type} {n : α} {xs : List α} {vs : List Nat} {i : Nat} (h : i ∈ vs) : (DL.clr n xs vs).set i n = DL.clr n xs vs := by
  apply List.ext_getElem?
  intro k
  rw [List.getElem?_set', clr_get]
  by_cases e : i = k
  · subst e
    rw [if_pos rfl, if_pos h]
    cases xs[i]? <;> rfl
  · rw [if_neg e]
section
variable {w : Wd} {o o1 : Addr → Prop} {H H1 : Hp} {σ : L2.St} {ρ : List Sl} {P : Sl → Prop} {te tl tk tv : TE} {tt : TT} {ts : TS} {e : En}
theorem Ok.setNo (ok : Ok w o σ H ρ) (j : Nat) (x : Option V) : Ok w o (σ.set j x) H (ρ.set j .no) := by
  refine ⟨ok.toBas, by rw [List.length_set, List.length_set]; exact ok.len, fun i y ei => ?_, fun i k p q xs ys ne e1 e2 => ?_⟩
  · by_cases hi : j = i
    · subst hi
      have hl : j < (ρ.set j .no).length := (List.getElem?_eq_some_iff.mp ei).1
      rw [List.length_set] at hl
      rw [List.getElem?_set_self hl] at ei
      cases ei
      exact .inl rfl
    · rw [List.getElem?_set_ne hi] at ei ⊢
      exact ok.slot i y ei
  · have back : ∀ (m : Nat) (q : Addr) (zs : List PyData), (ρ.set j Sl.no)[m]? = some (.own q zs) → ρ[m]? = some (.own q zs) := by
      intro m q zs f
      by_cases hm : j = m
      · subst hm
        have hl : j < (ρ.set j .no).length := (List.getElem?_eq_some_iff.mp f).1
        rw [List.length_set] at hl
        rw [List.getElem?_set_self hl] at f
        cases f
      · rw [List.getElem?_set_ne hm] at f
        exact f
    exact ok.apart i k p q xs ys ne (back i p xs e1) (back k q ys e2)
theorem Ok.forget (ok : Ok w o σ H ρ) (j : Nat) : Ok w o σ H (ρ.set j .no) := by
  by_cases hj : j < σ.length
  · have e : σ.set j σ[j] = σ := List.set_getElem_self hj
    have := ok.setNo j σ[j]
    rw [e] at this
    exact this
  · rw [List.set_eq_of_length_le (by rw [← ok.len]; omega)]
    exact ok
theorem clr_len {α : Type} (n : α) (xs : List α) : ∀ vs : List Nat, (DL.clr n xs vs).length = xs.length
  | [] => rfl
  | v :: vs => by
    show ((DL.clr n xs vs).set v n).length = _
    rw [List.length_set, clr_len n xs vs]
/-- sums = {}; for c, e in pile: sums[e] = sums.get(e, 0) + c; return sums -/
theorem s_sums {i j l m : Nat} (hm : m = 2) (hij : i ≠ j) (hil : i ≠ l) (hjl : j ≠ l) (hi : i < ρ.length) (hj : j < ρ.length) (hl : l < ρ.length)
    (h : E w tl (DL.clr Sl.no ρ [i, j, l]) fun x => ∃ (c : PyData) (ps : Il), x = .dat c ∧ seqD (.dat c) = some (ps.map pD) ∧ ps.length ≤ sizeLine ∧ e.rt (ilD (sumsBy ps))) :
    S w (tSeq (tAsg tDNewK (gName i)) (tSeq (tFor (iSeq w.K tl) (gTup w.K m (gCons (gName j) (gCons (gName l) gNil))) (sDPut (tVar i) (tVar l) (tOp rAddG (tDGet2 (tVar i) (tVar l) (tC (.int 0))) (tVar j)))) (tRet (tVar i)))) ρ e := by
  subst hm
  intro o σ H D ok kn kr kb kc
  intro p np
  have g0 := ok.toBas.newOwn (u := .dK []) np
  obtain ⟨h00, hn⟩ := own_apart ok np
  have ok1 : Ok w (fun a => o a ∨ a = p) (σ.set i (some (.ref p))) (upd H p (.dK [])) (DL.clr Sl.no ρ [i, j, l]) := (((ok.forget l).forget j).setNo i (some (.ref p))).go g0
  have nb : w.bg ≠ some p := ok1.toBas.nb h00
  have no : ∀ (m : Nat) (q : Addr) (zs : List PyData), (DL.clr Sl.no ρ [i, j, l])[m]? = some (.own q zs) → q ≠ p := fun m q zs f => hn m q zs (clr_no f (fun z => nomatch z))
  have iσ : i < σ.length := by rw [ok.len]; exact hi
  refine h _ _ _ _ ok1 ?_
  rintro o2 H2 v x g2 r2 ⟨c, ps, rfl, hx, hz, hrt⟩
  have ok2 := ok1.go g2
  have e2 : H2 p = some (.dK []) := (g2.keep p (.inr rfl) nb).trans upd_same
  obtain ⟨a, us, rfl, ha, hq⟩ := r2.seqDat hx
  have ln := DdAll.len ha
  rw [List.length_map] at ln
  have main : ∀ (J : It) (G : Hp → Prop), (∀ o' H', Same (hid H2 o2) (hid H' o') → G H') → Walk J us.length G (YAt us) → ∃ W : Nat → Nat → L2.St → Hp → Prop, (∃ m, W 0 m (σ.set i (some (.ref p))) H2) ∧ ∀ n m σ H, W n m σ H →
      (J.stop n H ∧ tRet (tVar i) D σ H) ∨ (J.go n H ∧ ∃ N : L2.St → Hp → Prop, (∀ σ' H', N σ' H' → ∃ m', m' < m ∧ W (n + 1) m' σ' H') ∧ ∀ x H', J.yld n H x H' → gTup w.K 2 (gCons (gName j) (gCons (gName l) gNil)) x σ H' fun σ2 H2 =>
        sDPut (tVar i) (tVar l) (tOp rAddG (tDGet2 (tVar i) (tVar l) (tC (.int 0))) (tVar j)) { D with nx := N, ct := N, bk := tRet (tVar i) D } σ2 H2) := by
    intro J G hG wk
    refine for_it (D := { D with nx := tRet (tVar i) D }) wk (fun k σ' H' => ∃ o', Ok w o' σ' H' (DL.clr Sl.no ρ [i, j, l]) ∧ Same (hid H2 o2) (hid H' o') ∧ o' p ∧ σ'[i]? = some (some (.ref p)) ∧ H' p = some (.dK (ilV (sumsBy (ps.take k)))))
      ⟨o2, ok2, Same.refl _, g2.sub p (.inr rfl), List.getElem?_set_self iσ, e2⟩ (fun k σ' H' _ ⟨o', _, s', _⟩ => hG o' H' s') ?_ ?_
    · rintro k y σ' H' H'' hk ⟨o', ok', s', op, hi', hp'⟩ ⟨rfl, ey⟩
      obtain ⟨d, hd, rd⟩ := DdAll.gets (ddAll_mono s' ha) ey
      obtain ⟨pr, hpr, rfl⟩ := map_getE hd
      have tk1 : ps.take (k + 1) = ps.take k ++ [pr] := by
        rw [List.take_succ, hpr]
        rfl
      have su : sumsBy (ps.take (k + 1)) = putI (sumsBy (ps.take k)) pr.2 ((lukI (sumsBy (ps.take k)) pr.2).getD 0 + pr.1) := by
        unfold sumsBy
        rw [tk1, List.foldl_append]
        rfl
      cases rd with
      | tup hs1 ha1 =>
        cases ha1 with
        | cons ra ha1 =>
          cases ha1 with
          | cons rb ha1 =>
            cases ha1
            cases ra
            cases rb
            have sl : σ'.length = ρ.length := by rw [ok'.len, clr_len]
            refine ⟨_, _, rfl, sqT_mono hid_le hs1, rfl, _, _, rfl, _, _, rfl, rfl, ?_⟩
            have ok4 := (ok'.setNo j (some (V.int pr.1))).setNo l (some (V.int pr.2))
            rw [clr_same (by simp), clr_same (by simp)] at ok4
            generalize hσ : (σ'.set j (some (V.int pr.1))).set l (some (V.int pr.2)) = σ4 at ok4
            have i4 : σ4[i]? = some (some (.ref p)) := by
              rw [← hσ, List.getElem?_set_ne (Ne.symm hil), List.getElem?_set_ne (Ne.symm hij)]
              exact hi'
            have j4 : σ4[j]? = some (some (.int pr.1)) := by
              rw [← hσ, List.getElem?_set_ne (Ne.symm hjl), List.getElem?_set_self (by omega)]
            have l4 : σ4[l]? = some (some (.int pr.2)) := by
              rw [← hσ, List.getElem?_set_self (by rw [List.length_set]; omega)]
            have get : ((lukI (sumsBy (ps.take k)) pr.2).map V.int).getD (.int 0) = .int ((lukI (sumsBy (ps.take k)) pr.2).getD 0) := by
              cases lukI (sumsBy (ps.take k)) pr.2 <;> rfl
            refine ⟨.ref p, i4, p, rfl, .inl ⟨_, .inl hp'⟩, .int pr.2, l4, (lukI (sumsBy (ps.take k)) pr.2).map V.int, .inl ⟨_, .inl pr.2, .inl hp', rfl, (val_ilV _ _).symm⟩, ?_⟩
            rw [get]
            refine ⟨.int pr.1, j4, .inl ⟨_, _, rfl, rfl, ?_⟩⟩
            refine ⟨.ref p, i4, .int pr.2, l4, p, _, rfl, DPut.k (k := .inl pr.2) hp' ?_, ?_⟩
            · have := sums_len (ps.take k) []
              have e : (ilV (sumsBy (ps.take k))).length = (sumsBy (ps.take k)).length := List.length_map ..
              rw [e]
              rw [List.length_take] at this
              unfold sumsBy
              simp only [List.length_nil] at this
              omega
            · obtain ⟨ok5, eq5⟩ := put_own (u := .dK (putK (ilV (sumsBy (ps.take k))) (.inl pr.2) (.int ((lukI (sumsBy (ps.take k)) pr.2).getD 0 + pr.1)))) ok4 op h00 no
              refine ⟨o', ok5, ?_, op, i4, ?_⟩
              · rw [eq5]
                exact s'
              · rw [upd_same, put_ilV, su]
    · rintro σ' H' ⟨o', ok', s', op, hi', hp'⟩
      rw [ln, List.take_length] at hp'
      have less : ∀ a, (o' a ∧ a ≠ p) → o' a := fun a h => h.1
      have bs : Bas w (fun a => o' a ∧ a ≠ p) H' := by
        refine ⟨ok'.grow.trans (hid_less less), fun a h => ⟨ok'.sub a h, fun z => h00 (z ▸ h)⟩, ok'.keep, fun b hb => ?_, fun a h => ok'.here a h.1⟩
        obtain ⟨b1, b2⟩ := ok'.bag b hb
        exact ⟨b1, b2.go (hid_less less) rfl ⟨b2.1, fun z => h00 (z ▸ b1)⟩⟩
      refine ⟨.ref p, hi', kr _ H' _ _ bs (dd_il _ (.inl ?_)) hrt⟩
      rw [hid_of (fun z => z.2 rfl)]
      exact hp'
  refine ⟨a, us, rfl, ?_⟩
  rcases hq with hq | hq
  · exact .inl ⟨hid_le.seq hq, main _ _ (fun o' H' s' => hid_le.seq (s'.seq hq)) walk_list⟩
  · exact .inr ⟨sqT_mono hid_le hq, main _ _ (fun o' H' s' => sqT_mono hid_le (sqT_mono s' hq)) walk_tup⟩
end
end DL

/-! The items of a dict walked, its keys sorted, bits. -/
namespace DL
open PySem PySem.Spec PyProof.Rows L2 TL
theorem upd_comm {H : Hp} {a b : Addr} {u v : HO} (h : a ≠ b) : upd (upd H a u) b v = upd (upd H b v) a u := by
  funext c
  by_cases ha : c = a
  · subst ha
    rw [upd_same, upd_ne h, upd_same]
  · by_cases hb : c = b
    · subst hb
      rw [upd_same, upd_ne ha, upd_same]
    · rw [upd_ne hb, upd_ne ha, upd_ne ha, upd_ne hb]
theorem upd_back {H : Hp} {a : Addr} {u v : HO} (h : H a = some v) : upd (upd H a u) a v = H := by
  funext c
  by_cases hc : c = a
  · subst hc
    rw [upd_same, h]
  · rw [upd_ne hc, upd_ne hc]
/-- an expression whose dict may be locked meanwhile -/
def tMay (t : TE) : TE := fun σ H Q => t σ H Q ∨ tLockE t σ H Q
theorem pe_may {X : Cx} {e : Expr} {t : TE} (h : PE X e t) : PE X e (tMay t) := by
  refine ⟨fun pins s σ H Q I hw => ?_⟩
  rcases hw with hw | hw
  · exact h.run pins s σ H Q I hw
  · exact (pe_lock h).run pins s σ H Q I hw
section
variable {w : Wd} {o : Addr → Prop} {H : Hp} {σ : L2.St} {ρ : List Sl} {P : Sl → Prop} {te tl td ty : TE} {tt : TT} {tr : TA}
def absT (j : Nat) : TE := tCB (fun xs H Q => ∃ i, xs = [.int i] ∧ Q (.int (if i < 0 then -i else i)) H) (tCons (tVar j) tNil)
def absI (i : Int) : Int := if i < 0 then -i else i
theorem items_core {k i j : Nat} {d : Addr} {od : Obj} {ps : Il} {loc : Hp → Hp} {Q : VK} (ok : Ok w o σ H ρ) (hk : σ[k]? = some (some (.ref d))) (hj : j < σ.length) (hd0 : ¬ o d) (hz : ps.length ≤ sizeLine)
    (hne : H d ≠ none) (l1 : ∀ Hu x v, x ≠ d → loc (upd Hu x v) = upd (loc Hu) x v) (l2 : ∀ Hu x, x ≠ d → loc Hu x = Hu x) (l3 : ∀ Hu, Hu d = H d → loc Hu d = some (.frz od (.dK (ilV ps))))
    (q : ∀ D Hu, LcG w [i, j] ρ σ o H D (RL w (fun _ acc => acc = ps.map fun p => .int (absI p.2)) ps.length) Hu → H D = none → Hu d = H d → Q (.ref D) (loc Hu)) :
    tLc (iItems (tVar k)) (gTup w.K 2 (gCons (gName i) (gCons (gName j) gNil))) tYes (absT j) [i, j] σ (loc H) Q := by
  refine ⟨.ref d, hk, d, od, ilV ps, rfl, l3 H rfl, fun D hD => ?_⟩
  have hDd : D ≠ d := fun z => by
    rw [z, l3 H rfl] at hD
    cases hD
  have hD0 : H D = none := by rw [← l2 H D hDd]; exact hD
  obtain ⟨h00, hn⟩ := own_apart ok hD0
  have lk : (ilV ps).length = ps.length := List.length_map ..
  refine lc_it (walk_items (o := od) (d := d) (kvs := ilV ps)) (fun n H' => ∃ Hu, H' = loc Hu ∧ Hu d = H d ∧ LcG w [i, j] ρ σ o H D (RL w (fun n acc => acc = (ps.take n).map fun p => .int (absI p.2)) n) Hu) ?_ ?_ ?_ ?_
  · refine ⟨upd H D (.lst []), (l1 H D _ hDd).symm, upd_ne (Ne.symm hDd), lcg_start ok hD0 ⟨[], [], rfl, .nil, Nat.le_refl _, rfl⟩⟩
  · rintro n H' _ ⟨Hu, rfl, hu, _⟩
    exact l3 Hu hu
  · rintro n y H2 H3 hn1 ⟨Hu, rfl, hu, st⟩ ⟨T, x, c, rfl, nT, rfl, e1, e2⟩
    have hTd : T ≠ d := fun z => by
      rw [z, l3 Hu hu] at nT
      cases nT
    have nTu : Hu T = none := by rw [← l2 Hu T hTd]; exact nT
    rw [lk] at hn1
    have hp : ps[n]? = some ps[n] := List.getElem?_eq_getElem hn1
    have ec : c = V.int ps[n].2 := by
      have : ((ilV ps)[n]?.map Prod.snd) = some c := e2
      unfold ilV at this
      rw [List.getElem?_map, hp] at this
      exact (Option.some.inj this).symm
    subst ec
    have st2 := lcg_new (u := .tup [x, .int ps[n].2]) RL.go st nTu
    obtain ⟨o1, u, ok1, g1, oD, eD, acc, us, rfl, ha, hl, hI⟩ := st2
    have hσ : wipe (((wipe σ [i, j]).set i (some x)).set j (some (V.int ps[n].2))) [i, j] = wipe σ [i, j] := by
      simp only [wipe_clr]
      rw [clr_set (by simp), clr_set (by simp), clr_clr]
    refine ⟨T, _, rfl, .inl (.inl upd_same), rfl, _, _, rfl, _, _, rfl, rfl, hσ, ?_⟩
    have j2 : (((wipe σ [i, j]).set i (some x)).set j (some (V.int ps[n].2)))[j]? = some (some (V.int ps[n].2)) := List.getElem?_set_self (by rw [List.length_set, wipe_length]; exact hj)
    unfold tYes
    refine iteT ?_
    refine ⟨_, j2, ps[n].2, rfl, us, ?_, ?_, upd (upd Hu T (.tup [x, .int ps[n].2])) D (.lst (us ++ [.int (absI ps[n].2)])), ?_, ?_, ?_⟩
    · rw [← l1 Hu T _ hTd, l2 _ D hDd]
      exact eD
    · rw [DdAll.len ha]
      omega
    · rw [l1 _ D _ hDd, l1 Hu T _ hTd]
      rfl
    · rw [upd_ne (Ne.symm hDd), upd_ne (Ne.symm hTd)]
      exact hu
    · refine lcg_put hD0 h00 hn ok ok1 g1 oD (by simp only [wipe_clr]; rw [clr_clr]) clr_clr fun H4 e4 => ⟨acc ++ [.int (absI ps[n].2)], _, rfl, ?_, ?_, ?_⟩
      · rw [e4]
        exact DdAll.app ha (.cons (Dd.int _) .nil)
      · rw [List.length_append, List.length_singleton]
        omega
      · dsimp only at hI ⊢
        rw [hI, List.take_succ, hp, List.map_append]
        rfl
  · rintro H' ⟨Hu, rfl, hu, st⟩
    rw [lk] at st
    refine q D Hu ?_ hD0 hu
    obtain ⟨o1, u, ok1, g1, oD, eD, acc, us, e, ha, hl, hI⟩ := st
    refine ⟨o1, u, ok1, g1, oD, eD, acc, us, e, ha, hl, ?_⟩
    dsimp only at hI ⊢
    rw [hI, List.take_length]
/-- [abs(c) for e, c in d.items()] -/
theorem e_absItems {k i j m : Nat} {ps : Il} (hm : m = 2) (hk : ρ[k]? = some (.dat (ilD ps))) (hj : j < ρ.length) (hz : ps.length ≤ sizeLine) (q : P (.dat (.list (ps.map fun p => .int (absI p.2))))) :
    E w (tMay (tLc (iItems (tVar k)) (gTup w.K m (gCons (gName i) (gCons (gName j) gNil))) tYes (absT j) [i, j])) ρ P := by
  subst hm
  intro o σ H Q ok kk
  rcases ok.slot k _ hk with z | ⟨v, hv, r⟩
  · cases z
  obtain ⟨d, rfl, hr⟩ := il_dd r
  have hjs : j < σ.length := by rw [ok.len]; exact hj
  have fin : ∀ D Hu, LcG w [i, j] ρ σ o H D (RL w (fun _ acc => acc = ps.map fun p => .int (absI p.2)) ps.length) Hu → H D = none → Q (.ref D) Hu := fun D Hu st hD0 =>
    rl_end ok hD0 st (fun acc hI _ => by rw [hI]; exact q) kk
  rcases hr with hr | ⟨od, hr⟩
  · obtain ⟨nd, hr⟩ := hid_some hr
    refine .inr ⟨d, _, hr, trivial, fun od => ?_⟩
    refine items_core (od := od) (ps := ps) (loc := fun Hu => upd Hu d (.frz od (.dK (ilV ps)))) ok hv hjs nd hz (by rw [hr]; exact fun z => nomatch z) (fun Hu x v hx => upd_comm hx) (fun Hu x hx => upd_ne hx) (fun Hu _ => upd_same) fun D Hu st hD0 hu => ⟨upd_same, ?_⟩
    rw [upd_back (hu.trans hr)]
    exact fin D Hu st hD0
  · obtain ⟨nd, hr⟩ := hid_some hr
    refine .inl ?_
    exact items_core (od := od) (ps := ps) (loc := fun Hu => Hu) ok hv hjs nd hz (by rw [hr]; exact fun z => nomatch z) (fun _ _ _ _ => rfl) (fun _ _ _ => rfl) (fun Hu hu => hu.trans hr) fun D Hu st hD0 _ => fin D Hu st hD0
/-- [e for i, j in a if ..] -/
theorem e_lcP2 {i j m : Nat} (hm : m = 2) (h : E w tl ρ fun x => ∃ c ds, x = .dat c ∧ seqD (.dat c) = some ds ∧ (∀ d ∈ ds, ∃ d1 d2, d = .tuple [d1, d2]) ∧ ds.length ≤ sizeLine ∧ ∃ I : Nat → List PyData → Prop, I 0 [] ∧
      (∀ (k : Nat) d1 d2 acc, ds[k]? = some (.tuple [d1, d2]) → I k acc → Lc w tt te (((DL.clr Sl.no ρ [i, j]).set i (.dat d1)).set j (.dat d2)) I k acc) ∧ ∀ acc, I ds.length acc → acc.length ≤ ds.length → P (.dat (.list acc))) :
    E w (tLc (iSeq w.K tl) (gTup w.K m (gCons (gName i) (gCons (gName j) gNil))) tt te [i, j]) ρ P := by
  subst hm
  intro o σ H Q ok k
  refine h o σ H _ ok ?_
  rintro o1 H1 v x g1 r1 ⟨c, ds, rfl, hx, h3, hz, I, h0, hs, hp⟩
  have ok1 := ok.go g1
  obtain ⟨a, us, rfl, ha, hq⟩ := r1.seqDat hx
  have ln := DdAll.len ha
  have main : ∀ (D : Addr) (hD : H1 D = none) (J : It) (G : Hp → Prop), (∀ o2 H2, Go w o1 H1 o2 H2 → G H2) → Walk J us.length G (YAt us) → ∃ W : Nat → Nat → Hp → Prop, (∃ m, W 0 m (upd H1 D (.lst []))) ∧ ∀ n m H, W n m H →
      (J.stop n H ∧ Q (.ref D) H) ∨ (J.go n H ∧ ∃ Nx : Hp → Prop, (∀ H', Nx H' → ∃ m', m' < m ∧ W (n + 1) m' H') ∧ ∀ x H', J.yld n H x H' → gTup w.K 2 (gCons (gName i) (gCons (gName j) gNil)) x (wipe σ [i, j]) H' fun σ2 H2 => wipe σ2 [i, j] = wipe σ [i, j] ∧ tt σ2 H2 fun b H3 =>
        if b = true then te σ2 H3 fun y H4 => ∃ acc, H4 D = some (.lst acc) ∧ acc.length < sizeLine ∧ Nx (upd H4 D (.lst (acc ++ [y]))) else Nx H3) := by
    intro D hD J G hG wk
    refine lc_it wk (fun n H2 => LcG w [i, j] ρ σ o1 H1 D (RL w I n) H2) (lcg_start ok1 hD ⟨[], [], rfl, .nil, Nat.le_refl _, h0⟩) (fun n H2 _ st => ?_) (fun n y H2 H3 hi st yy => ?_) (fun H2 st => ?_)
    · obtain ⟨o2, _, _, g2, _⟩ := st
      exact hG o2 H2 g2
    · obtain ⟨rfl, e2⟩ := yy
      have g9 : ∃ o9, Go w o1 H1 o9 H3 := by
        obtain ⟨o9, _, _, g9, _⟩ := st
        exact ⟨o9, g9⟩
      obtain ⟨o9, g9⟩ := g9
      obtain ⟨d, hd, rd⟩ := DdAll.gets ha e2
      obtain ⟨d1, d2, rfl⟩ := h3 d (List.mem_of_getElem? hd)
      cases rd with
      | tup hs1 ha1 =>
        cases ha1 with
        | cons r1 ha1 =>
          cases ha1 with
          | cons r2 ha1 =>
            cases ha1
            rename_i q u1 u2
            have hσ : wipe (((wipe σ [i, j]).set i (some u1)).set j (some u2)) [i, j] = wipe σ [i, j] := by
              simp only [wipe_clr]
              rw [clr_set (by simp), clr_set (by simp), clr_clr]
            refine ⟨_, _, rfl, sqT_mono hid_le (sqT_mono g9.same hs1), rfl, _, _, rfl, _, _, rfl, rfl, hσ, ?_⟩
            exact lcg_turn (ρ2 := ((DL.clr Sl.no ρ [i, j]).set i (.dat d1)).set j (.dat d2)) ok1 hD (by omega) st hσ (by rw [clr_set (by simp), clr_set (by simp), clr_clr]) (fun o2 k2 g2 => ((k2).setD i (x := .dat d1) (dd_mono g2.same r1) trivial).setD j (x := .dat d2) (dd_mono g2.same r2) trivial) fun acc hI => hs n d1 d2 acc hd hI
    · rw [ln] at st
      exact rl_end ok1 hD st hp fun o' H' v x g r p => k o' H' v x (g1.trans g) r p
  refine ⟨a, us, rfl, ?_⟩
  rcases hq with hq | hq
  · exact .inl ⟨hid_le.seq hq, fun D hD => main D hD _ _ (fun o2 H2 g => hid_le.seq (g.same.seq hq)) walk_list⟩
  · exact .inr ⟨sqT_mono hid_le hq, fun D hD => main D hD _ _ (fun o2 H2 g => sqT_mono hid_le (sqT_mono g.same hq)) walk_tup⟩
/-- [e for i, j, l in a if ..] -/
theorem e_lcP3 {i j l m : Nat} (hm : m = 3) (h : E w tl ρ fun x => ∃ c ds, x = .dat c ∧ seqD (.dat c) = some ds ∧ (∀ d ∈ ds, ∃ d1 d2 d3, d = .tuple [d1, d2, d3]) ∧ ds.length ≤ sizeLine ∧ ∃ I : Nat → List PyData → Prop, I 0 [] ∧
      (∀ (k : Nat) d1 d2 d3 acc, ds[k]? = some (.tuple [d1, d2, d3]) → I k acc → Lc w tt te ((((DL.clr Sl.no ρ [i, j, l]).set i (.dat d1)).set j (.dat d2)).set l (.dat d3)) I k acc) ∧ ∀ acc, I ds.length acc → acc.length ≤ ds.length → P (.dat (.list acc))) :
    E w (tLc (iSeq w.K tl) (gTup w.K m (gCons (gName i) (gCons (gName j) (gCons (gName l) gNil)))) tt te [i, j, l]) ρ P := by
  subst hm
  intro o σ H Q ok k
  refine h o σ H _ ok ?_
  rintro o1 H1 v x g1 r1 ⟨c, ds, rfl, hx, h3, hz, I, h0, hs, hp⟩
  have ok1 := ok.go g1
  obtain ⟨a, us, rfl, ha, hq⟩ := r1.seqDat hx
  have ln := DdAll.len ha
  have main : ∀ (D : Addr) (hD : H1 D = none) (J : It) (G : Hp → Prop), (∀ o2 H2, Go w o1 H1 o2 H2 → G H2) → Walk J us.length G (YAt us) → ∃ W : Nat → Nat → Hp → Prop, (∃ m, W 0 m (upd H1 D (.lst []))) ∧ ∀ n m H, W n m H →
      (J.stop n H ∧ Q (.ref D) H) ∨ (J.go n H ∧ ∃ Nx : Hp → Prop, (∀ H', Nx H' → ∃ m', m' < m ∧ W (n + 1) m' H') ∧ ∀ x H', J.yld n H x H' → gTup w.K 3 (gCons (gName i) (gCons (gName j) (gCons (gName l) gNil))) x (wipe σ [i, j, l]) H' fun σ2 H2 => wipe σ2 [i, j, l] = wipe σ [i, j, l] ∧ tt σ2 H2 fun b H3 =>
        if b = true then te σ2 H3 fun y H4 => ∃ acc, H4 D = some (.lst acc) ∧ acc.length < sizeLine ∧ Nx (upd H4 D (.lst (acc ++ [y]))) else Nx H3) := by
    intro D hD J G hG wk
    refine lc_it wk (fun n H2 => LcG w [i, j, l] ρ σ o1 H1 D (RL w I n) H2) (lcg_start ok1 hD ⟨[], [], rfl, .nil, Nat.le_refl _, h0⟩) (fun n H2 _ st => ?_) (fun n y H2 H3 hi st yy => ?_) (fun H2 st => ?_)
    · obtain ⟨o2, _, _, g2, _⟩ := st
      exact hG o2 H2 g2
    · obtain ⟨rfl, e2⟩ := yy
      have g9 : ∃ o9, Go w o1 H1 o9 H3 := by
        obtain ⟨o9, _, _, g9, _⟩ := st
        exact ⟨o9, g9⟩
      obtain ⟨o9, g9⟩ := g9
      obtain ⟨d, hd, rd⟩ := DdAll.gets ha e2
      obtain ⟨d1, d2, d3, rfl⟩ := h3 d (List.mem_of_getElem? hd)
      cases rd with
      | tup hs1 ha1 =>
        cases ha1 with
        | cons r1 ha1 =>
          cases ha1 with
          | cons r2 ha1 =>
            cases ha1 with
            | cons r3 ha1 =>
              cases ha1
              rename_i q u1 u2 u3
              have hσ : wipe ((((wipe σ [i, j, l]).set i (some u1)).set j (some u2)).set l (some u3)) [i, j, l] = wipe σ [i, j, l] := by
                simp only [wipe_clr]
                rw [clr_set (by simp), clr_set (by simp), clr_set (by simp), clr_clr]
              refine ⟨_, _, rfl, sqT_mono hid_le (sqT_mono g9.same hs1), rfl, _, _, rfl, _, _, rfl, _, _, rfl, rfl, hσ, ?_⟩
              exact lcg_turn (ρ2 := (((DL.clr Sl.no ρ [i, j, l]).set i (.dat d1)).set j (.dat d2)).set l (.dat d3)) ok1 hD (by omega) st hσ (by rw [clr_set (by simp), clr_set (by simp), clr_set (by simp), clr_clr]) (fun o2 k2 g2 => (((k2).setD i (x := .dat d1) (dd_mono g2.same r1) trivial).setD j (x := .dat d2) (dd_mono g2.same r2) trivial).setD l (x := .dat d3) (dd_mono g2.same r3) trivial) fun acc hI => hs n d1 d2 d3 acc hd hI
    · rw [ln] at st
      exact rl_end ok1 hD st hp fun o' H' v x g r p => k o' H' v x (g1.trans g) r p
  refine ⟨a, us, rfl, ?_⟩
  rcases hq with hq | hq
  · exact .inl ⟨hid_le.seq hq, fun D hD => main D hD _ _ (fun o2 H2 g => hid_le.seq (g.same.seq hq)) walk_list⟩
  · exact .inr ⟨sqT_mono hid_le hq, fun D hD => main D hD _ _ (fun o2 H2 g => sqT_mono hid_le (sqT_mono g.same hq)) walk_tup⟩
/-- sorted(d, reverse=b) -/
theorem e_sortDR {b : Bool} (h : A w tr ρ fun xs => ∃ ps : Il, xs = [.dat (ilD ps)] ∧ ∀ ys : List Int, ys.Perm (ps.map (·.1)) → OrdB b ys → P (.dat (.list (ys.map .int)))) :
    E w (tCKw (rSortDR b) tr (tCons (tC (.bl b)) tNil)) ρ P := by
  intro o σ H Q ok k
  refine h o σ H _ ok ?_
  rintro o1 H1 vs xs g1 r1 ⟨ps, rfl, q⟩
  cases r1 with
  | cons ra rt =>
    cases rt
    obtain ⟨a, rfl, hr⟩ := il_dd ra
    refine ⟨a, ilV ps, ps.map (·.1), rfl, rfl, rd_mono hid_le hr, ?_, fun ys p h1 h2 np => ?_⟩
    · unfold ilV
      rw [List.map_map, List.map_map]
      rfl
    · have g2 := (ok.go g1).toBas.new (u := .lst (ys.map V.int)) np
      exact k o1 _ _ _ (g1.trans g2) (VR.dat (Dd.lst (.inl (.inl ((ok.go g1).toBas.seen np))) (DdAll.ofInts ys))) (q ys h1 h2)
/-- x.bit_length() -/
theorem e_bits (h : E w te ρ fun x => ∃ i : Int, x = .dat (.int i) ∧ P (.dat (.int ((Builtin.Int.intBits i : Nat) : Int)))) : E w (tBits te) ρ P := by
  intro o σ H Q ok k
  refine h o σ H _ ok ?_
  rintro o1 H1 v x g1 r1 ⟨i, rfl, q⟩
  cases r1
  exact ⟨i, rfl, k o1 H1 _ _ g1 (VR.dat (Dd.int _)) q⟩
/-- d[k], ints -/
theorem e_iget (h : E w td ρ fun x => E w ty ρ fun y => ∃ k ps t, y = .dat (.int k) ∧ x = .dat (ilD ps) ∧ lukI ps k = some t ∧ P (.dat (.int t))) : E w (tDGet td ty) ρ P := by
  intro o σ H Q ok k
  refine h o σ H _ ok ?_
  intro o1 H1 v x g1 r1 q1
  refine q1 o1 σ H1 _ (ok.go g1) ?_
  rintro o2 H2 u y g2 r2 ⟨i, ps, t, rfl, rfl, e, q⟩
  cases r2
  obtain ⟨a, rfl, hr⟩ := il_dd (r1.go (ok.go g1).toBas g2)
  refine ⟨a, .int t, rfl, .inl ⟨ilV ps, .inl i, rd_mono hid_le hr, rfl, ?_⟩, k o2 H2 _ _ (g1.trans g2) (VR.dat (Dd.int t)) q⟩
  rw [val_ilV, e]
  rfl
end
end DL

/-! Three names from a tuple, a comprehension over zip. -/
namespace DL
open PySem PySem.Spec PyProof.Rows L2 TL
section
variable {w : Wd} {o : Addr → Prop} {H : Hp} {σ : L2.St} {ρ : List Sl} {P : Sl → Prop} {te : TE} {tr : TA} {tt : TT} {e : En}
/-- x, y, z = e -/
theorem s_set3 {i j l n : Nat} (hn : n = 3) (h : E w te ρ fun x => ∃ d1 d2 d3, x = .dat (.tuple [d1, d2, d3]) ∧ e.nx (((ρ.set i (.dat d1)).set j (.dat d2)).set l (.dat d3))) :
    S w (tAsg te (gTup w.K n (gCons (gName i) (gCons (gName j) (gCons (gName l) gNil))))) ρ e := by
  subst hn
  intro o σ H D ok kn kr kb kc
  refine h o σ H _ ok ?_
  rintro o1 H1 v x g1 r1 ⟨d1, d2, d3, rfl, q⟩
  cases r1 with
  | tup hs ha =>
    cases ha with
    | cons ra rt =>
      cases rt with
      | cons rb rt =>
        cases rt with
        | cons rc rt =>
          cases rt
          refine ⟨_, _, rfl, sqT_mono hid_le hs, rfl, _, _, rfl, _, _, rfl, _, _, rfl, rfl, ?_⟩
          exact kn o1 _ H1 _ ((((ok.go g1).setD i (x := .dat d1) ra trivial).setD j (x := .dat d2) rb trivial).setD l (x := .dat d3) rc trivial) q
/-- [e for x, y in zip(a, b) if ..] -/
theorem e_lcZ {i j m : Nat} (hm : m = 2) (h : A w tr ρ fun xs => ∃ c1 c2 ds es, xs = [.dat c1, .dat c2] ∧ seqD (.dat c1) = some ds ∧ seqD (.dat c2) = some es ∧ ds.length ≤ sizeLine ∧ ∃ I : Nat → List PyData → Prop, I 0 [] ∧
      (∀ (k : Nat) d1 d2 acc, ds[k]? = some d1 → es[k]? = some d2 → I k acc → Lc w tt te (((DL.clr Sl.no ρ [i, j]).set i (.dat d1)).set j (.dat d2)) I k acc) ∧ ∀ acc, I (min ds.length es.length) acc → P (.dat (.list acc))) :
    E w (tLc (iZipB w.K tr) (gTup w.K m (gCons (gName i) (gCons (gName j) gNil))) tt te [i, j]) ρ P := by
  subst hm
  intro o σ H Q ok k
  refine h o σ H _ ok ?_
  rintro o1 H1 vs xs g1 r1 ⟨c1, c2, ds, es, rfl, hx1, hx2, hz, I, h0, hs, hp⟩
  have ok1 := ok.go g1
  cases r1 with
  | cons ra rt =>
    cases rt with
    | cons rb rt =>
      cases rt
      obtain ⟨b1, a1, us, rfl, ha1, hq1⟩ := VR.seqB ra hx1
      obtain ⟨b2, a2, vs, rfl, ha2, hq2⟩ := VR.seqB rb hx2
      have l1 := DdAll.len ha1
      have l2 := DdAll.len ha2
      refine ⟨b1, b2, a1, a2, us, vs, rfl, hq1.mono hid_le, hq2.mono hid_le, fun D hD => ?_⟩
      refine lc_it (walk_zipB (xs := us) (ys := vs)) (fun n H2 => LcG w [i, j] ρ σ o1 H1 D (RL w I n) H2) (lcg_start ok1 hD ⟨[], [], rfl, .nil, Nat.le_refl _, h0⟩) (fun n H2 _ st => ?_) (fun n y H2 H3 hi st yy => ?_) (fun H2 st => ?_)
      · obtain ⟨o2, _, _, g2, _⟩ := st
        exact ⟨(hq1.mono g2.same).mono hid_le, (hq2.mono g2.same).mono hid_le⟩
      · obtain ⟨p, u1, u2, rfl, np, rfl, e1, e2⟩ := yy
        obtain ⟨d1, hd1, rd1⟩ := DdAll.gets ha1 e1
        obtain ⟨d2, hd2, rd2⟩ := DdAll.gets ha2 e2
        have st' := lcg_new (u := .tup [u1, u2]) RL.go st np
        have hσ : wipe (((wipe σ [i, j]).set i (some u1)).set j (some u2)) [i, j] = wipe σ [i, j] := by
          simp only [wipe_clr]
          rw [clr_set (by simp), clr_set (by simp), clr_clr]
        refine ⟨p, _, rfl, .inl (.inl upd_same), rfl, _, _, rfl, _, _, rfl, rfl, hσ, ?_⟩
        exact lcg_turn (ρ2 := ((DL.clr Sl.no ρ [i, j]).set i (.dat d1)).set j (.dat d2)) ok1 hD (by omega) st' hσ (by rw [clr_set (by simp), clr_set (by simp), clr_clr])
          (fun o2 k2 g2 => (k2.setD i (x := .dat d1) (dd_mono g2.same rd1) trivial).setD j (x := .dat d2) (dd_mono g2.same rd2) trivial) fun acc hI => hs n d1 d2 acc hd1 hd2 hI
      · rw [l1, l2] at st
        exact rl_end ok1 hD st (fun acc hI _ => hp acc hI) fun o' H' v x g r p => k o' H' v x (g1.trans g) r p
end
end DL

namespace K9
open PySem PySem.Spec PyProof.Rows L2 DL

def topS (i : Nat) : Stmt := PySem.Challenge.pw_unwrittenrow_k46_whole_enclosures_show_w.main.body.getD i (.Pass ⟨0, 0, 0, 0⟩)
abbrev s_spring : Stmt := topS 4
theorem sc_spring : FnScope ["seed", "name", "k", "i", "j", "x", "a"] ["seed", "name", "k"] (defScope s_spring) :=
  ⟨rfl, rfl, rfl, by decide +kernel, rfl, by decide +kernel, by decide +kernel⟩
abbrev s__coin_by : Stmt := topS 7
theorem sc__coin_by : FnScope ["told", "seed", "name", "k"] ["told", "seed", "name", "k"] (defScope s__coin_by) :=
  ⟨rfl, rfl, rfl, by decide +kernel, rfl, by decide +kernel, by decide +kernel⟩
abbrev s__told_of : Stmt := topS 6
theorem sc__told_of : FnScope ["coins", "name", "other", "k", "truth"] ["coins", "name"] (defScope s__told_of) :=
  ⟨rfl, rfl, rfl, by decide +kernel, rfl, by decide +kernel, by decide +kernel⟩
abbrev s_coin : Stmt := topS 5
theorem sc_coin : FnScope ["coins", "name", "k"] ["coins", "name", "k"] (defScope s_coin) :=
  ⟨rfl, rfl, rfl, by decide +kernel, rfl, by decide +kernel, by decide +kernel⟩
abbrev s__by_powers : Stmt := topS 10
theorem sc__by_powers : FnScope ["pile", "sums", "c", "e"] ["pile"] (defScope s__by_powers) :=
  ⟨rfl, rfl, rfl, by decide +kernel, rfl, by decide +kernel, by decide +kernel⟩
abbrev s_compared : Stmt := topS 9
theorem sc_compared : FnScope ["one", "other", "apart", "left", "met", "at", "e", "_", "c"] ["one", "other"] (defScope s_compared) :=
  ⟨rfl, rfl, rfl, by decide +kernel, rfl, by decide +kernel, by decide +kernel⟩
abbrev s_made_by : Stmt := topS 12
theorem sc_made_by : FnScope ["shares", "c", "d", "total", "low", "high", "ahead", "index", "share"] ["shares", "c", "d"] (defScope s_made_by) :=
  ⟨rfl, rfl, rfl, by decide +kernel, rfl, by decide +kernel, by decide +kernel⟩
abbrev s__with_next : Stmt := topS 14
theorem sc__with_next : FnScope ["c", "coins", "name", "d"] ["c", "coins", "name", "d"] (defScope s__with_next) :=
  ⟨rfl, rfl, rfl, by decide +kernel, rfl, by decide +kernel, by decide +kernel⟩
abbrev s_chosen : Stmt := topS 13
theorem sc_chosen : FnScope ["shares", "coins", "name", "most", "c", "d", "index"] ["shares", "coins", "name", "most"] (defScope s_chosen) :=
  ⟨rfl, rfl, rfl, by decide +kernel, rfl, by decide +kernel, by decide +kernel⟩
abbrev s__is_ahead_shown : Stmt := topS 16
theorem sc__is_ahead_shown : FnScope ["numbers", "index", "c", "d", "rest", "ahead", "_", "high", "e", "low"] ["numbers", "index", "c", "d"] (defScope s__is_ahead_shown) :=
  ⟨rfl, rfl, rfl, by decide +kernel, rfl, by decide +kernel, by decide +kernel⟩
abbrev s__is_behind_shown : Stmt := topS 17
theorem sc__is_behind_shown : FnScope ["numbers", "index", "c", "d", "rest", "behind", "_", "high", "e", "low"] ["numbers", "index", "c", "d"] (defScope s__is_behind_shown) :=
  ⟨rfl, rfl, rfl, by decide +kernel, rfl, by decide +kernel, by decide +kernel⟩
abbrev s_is_shown : Stmt := topS 15
theorem sc_is_shown : FnScope ["numbers", "index", "c", "d"] ["numbers", "index", "c", "d"] (defScope s_is_shown) :=
  ⟨rfl, rfl, rfl, by decide +kernel, rfl, by decide +kernel, by decide +kernel⟩
abbrev s__least_shown : Stmt := topS 19
theorem sc__least_shown : FnScope ["numbers", "c", "d", "low", "high", "middle"] ["numbers", "c", "d"] (defScope s__least_shown) :=
  ⟨rfl, rfl, rfl, by decide +kernel, rfl, by decide +kernel, by decide +kernel⟩
abbrev s_shown_within : Stmt := topS 18
theorem sc_shown_within : FnScope ["numbers", "coins", "name", "most", "c", "d", "index"] ["numbers", "coins", "name", "most"] (defScope s_shown_within) :=
  ⟨rfl, rfl, rfl, by decide +kernel, rfl, by decide +kernel, by decide +kernel⟩
abbrev s__law_bag : Stmt := topS 21
theorem sc__law_bag : FnScope ["script", "cell"] ["script"] (defScope s__law_bag) :=
  ⟨rfl, rfl, rfl, by decide +kernel, rfl, by decide +kernel, by decide +kernel⟩
abbrev s__law_take : Stmt := topS 22
theorem sc__law_take : FnScope ["bag", "many", "cell", "stirred", "value", "begin", "second"] ["bag", "many"] (defScope s__law_take) :=
  ⟨rfl, rfl, rfl, by decide +kernel, rfl, by decide +kernel, by decide +kernel⟩
abbrev s__law_some : Stmt := topS 23
theorem sc__law_some : FnScope ["bag", "things"] ["bag", "things"] (defScope s__law_some) :=
  ⟨rfl, rfl, rfl, by decide +kernel, rfl, by decide +kernel, by decide +kernel⟩
abbrev s__law_alike : Stmt := topS 24
theorem sc__law_alike : FnScope ["found", "due"] ["found", "due"] (defScope s__law_alike) :=
  ⟨rfl, rfl, rfl, by decide +kernel, rfl, by decide +kernel, by decide +kernel⟩
abbrev s__law_great : Stmt := topS 25
theorem sc__law_great : FnScope ["bag", "way", "found"] ["bag"] (defScope s__law_great) :=
  ⟨rfl, rfl, rfl, by decide +kernel, rfl, by decide +kernel, by decide +kernel⟩
abbrev s__law_name : Stmt := topS 26
theorem sc__law_name : FnScope ["bag", "i"] ["bag"] (defScope s__law_name) :=
  ⟨rfl, rfl, rfl, by decide +kernel, rfl, by decide +kernel, by decide +kernel⟩
abbrev s__law_seed : Stmt := topS 27
theorem sc__law_seed : FnScope ["bag"] ["bag"] (defScope s__law_seed) :=
  ⟨rfl, rfl, rfl, by decide +kernel, rfl, by decide +kernel, by decide +kernel⟩
abbrev s__law_many_coins : Stmt := topS 28
theorem sc__law_many_coins : FnScope ["bag", "names", "found", "turn", "one", "told"] ["bag", "names"] (defScope s__law_many_coins) :=
  ⟨rfl, rfl, rfl, by decide +kernel, rfl, by decide +kernel, by decide +kernel⟩
abbrev s__law_power : Stmt := topS 29
theorem sc__law_power : FnScope ["d", "found", "base"] ["d"] (defScope s__law_power) :=
  ⟨rfl, rfl, rfl, by decide +kernel, rfl, by decide +kernel, by decide +kernel⟩
abbrev s__law_shares : Stmt := topS 30
theorem sc__law_shares : FnScope ["bag", "way", "many", "turn"] ["bag"] (defScope s__law_shares) :=
  ⟨rfl, rfl, rfl, by decide +kernel, rfl, by decide +kernel, by decide +kernel⟩
abbrev s__law_enclosure : Stmt := topS 31
theorem sc__law_enclosure : FnScope ["bag", "share", "slack", "e", "power", "low"] ["bag", "share", "slack"] (defScope s__law_enclosure) :=
  ⟨rfl, rfl, rfl, by decide +kernel, rfl, by decide +kernel, by decide +kernel⟩
abbrev s__law_narrower : Stmt := topS 32
theorem sc__law_narrower : FnScope ["bag", "share", "enclosure", "low", "high", "e", "power", "near"] ["bag", "share", "enclosure"] (defScope s__law_narrower) :=
  ⟨rfl, rfl, rfl, by decide +kernel, rfl, by decide +kernel, by decide +kernel⟩
abbrev s__law_held : Stmt := topS 33
theorem sc__law_held : FnScope ["bag", "enclosure", "low", "high", "e", "first", "last"] ["bag", "enclosure"] (defScope s__law_held) :=
  ⟨rfl, rfl, rfl, by decide +kernel, rfl, by decide +kernel, by decide +kernel⟩
abbrev s_law : Stmt := topS 34
theorem sc_law : FnScope ["script", "bag", "turn", "shares", "name", "wide", "narrow", "exact", "others", "d", "c", "index", "shown", "coins", "found", "made", "share", "one", "again", "numbers"] ["script"] (defScope s_law) :=
  ⟨rfl, rfl, rfl, by decide +kernel, rfl, by decide +kernel, by decide +kernel⟩
/-- what the top has left -/
structure Txt (K : PySem.W.Frag) (mg : Str → Option Value) where
  a_spring : Addr
  d_spring : FuncData
  F_spring : Fun K "spring" "spring" s_spring a_spring d_spring
  g_spring : mg "spring" = some (.ref a_spring)
  b_spring : L2.Binds K d_spring ["seed", "name", "k"] []
  a__coin_by : Addr
  d__coin_by : FuncData
  F__coin_by : Fun K "_coin_by" "_coin_by" s__coin_by a__coin_by d__coin_by
  g__coin_by : mg "_coin_by" = some (.ref a__coin_by)
  b__coin_by : L2.Binds K d__coin_by ["told", "seed", "name", "k"] []
  a__told_of : Addr
  d__told_of : FuncData
  F__told_of : Fun K "_told_of" "_told_of" s__told_of a__told_of d__told_of
  g__told_of : mg "_told_of" = some (.ref a__told_of)
  b__told_of : L2.Binds K d__told_of ["coins", "name"] []
  a_coin : Addr
  d_coin : FuncData
  F_coin : Fun K "coin" "coin" s_coin a_coin d_coin
  g_coin : mg "coin" = some (.ref a_coin)
  b_coin : L2.Binds K d_coin ["coins", "name", "k"] []
  a__by_powers : Addr
  d__by_powers : FuncData
  F__by_powers : Fun K "_by_powers" "_by_powers" s__by_powers a__by_powers d__by_powers
  g__by_powers : mg "_by_powers" = some (.ref a__by_powers)
  b__by_powers : L2.Binds K d__by_powers ["pile"] []
  a_compared : Addr
  d_compared : FuncData
  F_compared : Fun K "compared" "compared" s_compared a_compared d_compared
  g_compared : mg "compared" = some (.ref a_compared)
  b_compared : L2.Binds K d_compared ["one", "other"] []
  a_made_by : Addr
  d_made_by : FuncData
  F_made_by : Fun K "made_by" "made_by" s_made_by a_made_by d_made_by
  g_made_by : mg "made_by" = some (.ref a_made_by)
  b_made_by : L2.Binds K d_made_by ["shares", "c", "d"] []
  a__with_next : Addr
  d__with_next : FuncData
  F__with_next : Fun K "_with_next" "_with_next" s__with_next a__with_next d__with_next
  g__with_next : mg "_with_next" = some (.ref a__with_next)
  b__with_next : L2.Binds K d__with_next ["c", "coins", "name", "d"] []
  a_chosen : Addr
  d_chosen : FuncData
  F_chosen : Fun K "chosen" "chosen" s_chosen a_chosen d_chosen
  g_chosen : mg "chosen" = some (.ref a_chosen)
  b_chosen : L2.Binds K d_chosen ["shares", "coins", "name", "most"] []
  a__is_ahead_shown : Addr
  d__is_ahead_shown : FuncData
  F__is_ahead_shown : Fun K "_is_ahead_shown" "_is_ahead_shown" s__is_ahead_shown a__is_ahead_shown d__is_ahead_shown
  g__is_ahead_shown : mg "_is_ahead_shown" = some (.ref a__is_ahead_shown)
  b__is_ahead_shown : L2.Binds K d__is_ahead_shown ["numbers", "index", "c", "d"] []
  a__is_behind_shown : Addr
  d__is_behind_shown : FuncData
  F__is_behind_shown : Fun K "_is_behind_shown" "_is_behind_shown" s__is_behind_shown a__is_behind_shown d__is_behind_shown
  g__is_behind_shown : mg "_is_behind_shown" = some (.ref a__is_behind_shown)
  b__is_behind_shown : L2.Binds K d__is_behind_shown ["numbers", "index", "c", "d"] []
  a_is_shown : Addr
  d_is_shown : FuncData
  F_is_shown : Fun K "is_shown" "is_shown" s_is_shown a_is_shown d_is_shown
  g_is_shown : mg "is_shown" = some (.ref a_is_shown)
  b_is_shown : L2.Binds K d_is_shown ["numbers", "index", "c", "d"] []
  a__least_shown : Addr
  d__least_shown : FuncData
  F__least_shown : Fun K "_least_shown" "_least_shown" s__least_shown a__least_shown d__least_shown
  g__least_shown : mg "_least_shown" = some (.ref a__least_shown)
  b__least_shown : L2.Binds K d__least_shown ["numbers", "c", "d"] []
  a_shown_within : Addr
  d_shown_within : FuncData
  F_shown_within : Fun K "shown_within" "shown_within" s_shown_within a_shown_within d_shown_within
  g_shown_within : mg "shown_within" = some (.ref a_shown_within)
  b_shown_within : L2.Binds K d_shown_within ["numbers", "coins", "name", "most"] []
  a__law_bag : Addr
  d__law_bag : FuncData
  F__law_bag : Fun K "_law_bag" "_law_bag" s__law_bag a__law_bag d__law_bag
  g__law_bag : mg "_law_bag" = some (.ref a__law_bag)
  b__law_bag : L2.Binds K d__law_bag ["script"] []
  a__law_take : Addr
  d__law_take : FuncData
  F__law_take : Fun K "_law_take" "_law_take" s__law_take a__law_take d__law_take
  g__law_take : mg "_law_take" = some (.ref a__law_take)
  b__law_take : L2.Binds K d__law_take ["bag", "many"] []
  a__law_some : Addr
  d__law_some : FuncData
  F__law_some : Fun K "_law_some" "_law_some" s__law_some a__law_some d__law_some
  g__law_some : mg "_law_some" = some (.ref a__law_some)
  b__law_some : L2.Binds K d__law_some ["bag", "things"] []
  a__law_alike : Addr
  d__law_alike : FuncData
  F__law_alike : Fun K "_law_alike" "_law_alike" s__law_alike a__law_alike d__law_alike
  g__law_alike : mg "_law_alike" = some (.ref a__law_alike)
  b__law_alike : L2.Binds K d__law_alike ["found", "due"] []
  a__law_great : Addr
  d__law_great : FuncData
  F__law_great : Fun K "_law_great" "_law_great" s__law_great a__law_great d__law_great
  g__law_great : mg "_law_great" = some (.ref a__law_great)
  b__law_great : L2.Binds K d__law_great ["bag"] []
  a__law_name : Addr
  d__law_name : FuncData
  F__law_name : Fun K "_law_name" "_law_name" s__law_name a__law_name d__law_name
  g__law_name : mg "_law_name" = some (.ref a__law_name)
  b__law_name : L2.Binds K d__law_name ["bag"] []
  a__law_seed : Addr
  d__law_seed : FuncData
  F__law_seed : Fun K "_law_seed" "_law_seed" s__law_seed a__law_seed d__law_seed
  g__law_seed : mg "_law_seed" = some (.ref a__law_seed)
  b__law_seed : L2.Binds K d__law_seed ["bag"] []
  a__law_many_coins : Addr
  d__law_many_coins : FuncData
  F__law_many_coins : Fun K "_law_many_coins" "_law_many_coins" s__law_many_coins a__law_many_coins d__law_many_coins
  g__law_many_coins : mg "_law_many_coins" = some (.ref a__law_many_coins)
  b__law_many_coins : L2.Binds K d__law_many_coins ["bag", "names"] []
  a__law_power : Addr
  d__law_power : FuncData
  F__law_power : Fun K "_law_power" "_law_power" s__law_power a__law_power d__law_power
  g__law_power : mg "_law_power" = some (.ref a__law_power)
  b__law_power : L2.Binds K d__law_power ["d"] []
  a__law_shares : Addr
  d__law_shares : FuncData
  F__law_shares : Fun K "_law_shares" "_law_shares" s__law_shares a__law_shares d__law_shares
  g__law_shares : mg "_law_shares" = some (.ref a__law_shares)
  b__law_shares : L2.Binds K d__law_shares ["bag"] []
  a__law_enclosure : Addr
  d__law_enclosure : FuncData
  F__law_enclosure : Fun K "_law_enclosure" "_law_enclosure" s__law_enclosure a__law_enclosure d__law_enclosure
  g__law_enclosure : mg "_law_enclosure" = some (.ref a__law_enclosure)
  b__law_enclosure : L2.Binds K d__law_enclosure ["bag", "share", "slack"] []
  a__law_narrower : Addr
  d__law_narrower : FuncData
  F__law_narrower : Fun K "_law_narrower" "_law_narrower" s__law_narrower a__law_narrower d__law_narrower
  g__law_narrower : mg "_law_narrower" = some (.ref a__law_narrower)
  b__law_narrower : L2.Binds K d__law_narrower ["bag", "share", "enclosure"] []
  a__law_held : Addr
  d__law_held : FuncData
  F__law_held : Fun K "_law_held" "_law_held" s__law_held a__law_held d__law_held
  g__law_held : mg "_law_held" = some (.ref a__law_held)
  b__law_held : L2.Binds K d__law_held ["bag", "enclosure"] []
  a_law : Addr
  d_law : FuncData
  F_law : Fun K "law" "law" s_law a_law d_law
  g_law : mg "law" = some (.ref a_law)
  b_law : L2.Binds K d_law ["script"] []
  z_abs : mg "abs" = none
  z_enumerate : mg "enumerate" = none
  z_int : mg "int" = none
  z_len : mg "len" = none
  z_max : mg "max" = none
  z_range : mg "range" = none
  z_repr : mg "repr" = none
  z_sorted : mg "sorted" = none
  z_sum : mg "sum" = none
  z_tuple : mg "tuple" = none
  z_zip : mg "zip" = none
  k_PRIME : Tok
  c_PRIME : mg "PRIME" = some (.int 2305843009213693951 k_PRIME)
  k_STEEP : Tok
  c_STEEP : mg "STEEP" = some (.int 48271 k_STEEP)
  k_LIFT : Tok
  c_LIFT : mg "LIFT" = some (.int 2147483629 k_LIFT)
def spLaw (K : PySem.W.Frag) : Sp := fun vs H Q _ => ∃ (a : Addr) (ns : List Int), vs = [.ref a] ∧ SqL K H a (ns.map V.int) ∧ ns.length ≤ 63 ∧ ∀ H', Q (.bl true) H'
theorem get_lt {α : Type} {xs : List α} {k : Nat} {x : α} (h : xs[k]? = some x) : k < xs.length := (List.getElem?_eq_some_iff.mp h).1
/-! ### names -/
structure NmOk (nm : List Int) : Prop where
  two : nm = [] ∨ ∃ i j, nm = [i, j]
  pos : ∀ i ∈ nm, 0 ≤ i ∧ Sm 204 i
def nI : List Int → Int
  | [i, _] => i + 1
  | _ => 0
def nJ : List Int → Int
  | [_, j] => j + 1
  | _ => 0
theorem NmOk.i {nm : List Int} (h : NmOk nm) : 0 ≤ nI nm ∧ Sm 205 (nI nm) := by
  rcases h.two with rfl | ⟨i, j, rfl⟩
  · decide
  · obtain ⟨h1, h2⟩ := h.pos i (by simp)
    exact ⟨by show 0 ≤ i + 1; omega, h2.add (show Sm 204 1 by decide)⟩
theorem NmOk.j {nm : List Int} (h : NmOk nm) : 0 ≤ nJ nm ∧ Sm 205 (nJ nm) := by
  rcases h.two with rfl | ⟨i, j, rfl⟩
  · decide
  · obtain ⟨h1, h2⟩ := h.pos j (by simp)
    exact ⟨by show 0 ≤ j + 1; omega, h2.add (show Sm 204 1 by decide)⟩
theorem nm_shaped (nm : List Int) : SeqAt.shaped (nmD nm) = true := by
  unfold SeqAt.shaped
  rw [nm_lay, nm_depth]
  rfl
theorem nm0_shaped : SeqAt.shaped (.tuple []) = true := nm_shaped []
theorem pair_shaped (nm : List Int) (k : Int) : SeqAt.shaped (.tuple [nmD nm, .int k]) = true := by
  unfold SeqAt.shaped
  have e1 : (PyData.tuple [nmD nm, .int k]).canLay0 = true := by
    show (PyData.canLay0 (nmD nm) && true) = true
    rw [nm_lay]
    rfl
  have e2 : (PyData.tuple [nmD nm, .int k]).depth = 2 := by
    simp only [PyData.depth, PyData.depthAll, nm_depth]
    decide
  rw [e1, e2]
  rfl
theorem eqv_pair (nm nm2 : List Int) (k k2 : Int) : PyData.eqv (.tuple [nmD nm, .int k]) (.tuple [nmD nm2, .int k2]) = decide (nm = nm2 ∧ k = k2) := by
  show (PyData.eqv (nmD nm) (nmD nm2) && (decide (k = k2) && true)) = _
  rw [eqv_nm]
  by_cases h1 : nm = nm2 <;> by_cases h2 : k = k2 <;> simp [h1, h2]
theorem eqv_nm0 (nm : List Int) : PyData.eqv (nmD nm) (.tuple []) = decide (nm = []) := eqv_nm nm []
theorem fine_sm {a : Nat} {i : Int} (h : Sm a i) (ha : a ≤ 12900) : Fine 4302 0 (.int i) := fine_int (h.mono ha)
theorem fine_nm {nm : List Int} (h : NmOk nm) : Fine 8611 1 (nmD nm) := by
  have f : Fines ((4302 + 2) * (nm.map PyData.int).length) 0 (nm.map PyData.int) := fines_all fun d hd => by
    obtain ⟨i, hi, rfl⟩ := List.mem_map.mp hd
    exact fine_sm (h.pos i hi).2 (by decide)
  refine (fine_tuple f).mono ?_ (by decide)
  rw [List.length_map]
  rcases h.two with rfl | ⟨i, j, rfl⟩
  · decide
  · show (4302 + 2) * 2 + 3 ≤ _
    decide
/-! ### the spring -/
def sStep (x a : Int) : Int := ((x + a + 1) * (x + a + 1) * 48271 + 2147483629).fmod 2305843009213693951
def sList (nm : List Int) (k : Int) : List Int := [nI nm, nJ nm, k, 1, 2]
def sAt (seed : Int) (nm : List Int) (k : Int) (n : Nat) : Int := ((sList nm k).take n).foldl sStep (seed.fmod 2305843009213693951)
def spr (seed : Int) (nm : List Int) (k : Int) : Bool := decide (sAt seed nm k 5 / 2 ^ 30 % 2 = 1)
theorem mod_b (c : Int) : 0 ≤ c.fmod 2305843009213693951 ∧ c.fmod 2305843009213693951 < 2305843009213693951 := by
  rw [Int.fmod_eq_emod_of_nonneg _ (by omega)]
  exact ⟨Int.emod_nonneg _ (by omega), Int.emod_lt_of_pos _ (by omega)⟩
theorem sAt_b (seed : Int) (nm : List Int) (k : Int) (n : Nat) : 0 ≤ sAt seed nm k n ∧ sAt seed nm k n < 2305843009213693951 := by
  unfold sAt
  generalize (sList nm k).take n = xs
  have h0 := mod_b seed
  generalize seed.fmod 2305843009213693951 = x at h0 ⊢
  induction xs generalizing x with
  | nil => exact h0
  | cons a xs ih => exact ih _ (mod_b _)
theorem sAt_s (seed : Int) (nm : List Int) (k : Int) (n : Nat) : Sm 61 (sAt seed nm k n) := by
  have := sAt_b seed nm k n
  unfold Sm
  omega
theorem sAt_succ {seed : Int} {nm : List Int} {k a : Int} {n : Nat} (h : (sList nm k)[n]? = some a) : sAt seed nm k (n + 1) = sStep (sAt seed nm k n) a := by
  unfold sAt
  rw [List.take_succ, h, List.foldl_append]
  rfl
theorem sList_b {nm : List Int} {k a : Int} {n : Nat} (h : NmOk nm) (k0 : 0 ≤ k) (ks : Sm 204 k) (e : (sList nm k)[n]? = some a) : 0 ≤ a ∧ Sm 205 a := by
  have m := List.mem_of_getElem? e
  simp only [sList, List.mem_cons, List.not_mem_nil, or_false] at m
  rcases m with rfl | rfl | rfl | rfl | rfl
  · exact h.i
  · exact h.j
  · exact ⟨k0, ks.mono (by decide)⟩
  · decide
  · decide
theorem spr_law (seed : Int) (nm : List Int) (k : Int) : decide ((sAt seed nm k 5).fdiv 1073741824 - ((sAt seed nm k 5).fdiv 1073741824).fdiv 2 * 2 = 1) = spr seed nm k := by
  unfold spr
  generalize sAt seed nm k 5 = x
  rw [Int.fdiv_eq_ediv_of_nonneg _ (by omega), Int.fdiv_eq_ediv_of_nonneg _ (by omega)]
  have e : (2 : Int) ^ 30 = 1073741824 := by decide
  rw [e]
  refine decide_eq_decide.mpr ?_
  omega
/-! ### told coins -/
structure CsOk (cs : List Coin) : Prop where
  few : cs.length ≤ 600
  nm : ∀ c ∈ cs, NmOk c.1
  k : ∀ c ∈ cs, 0 ≤ c.2.1 ∧ Sm 60 c.2.1
  one : ∀ c ∈ cs, ∀ c' ∈ cs, c.1 = c'.1 → c.2.1 = c'.2.1 → c = c'
def coinsD (seed : Int) (cs : List Coin) : PyData := .tuple [.int seed, .tuple (cs.map cD)]
def hit (nm : List Int) (k : Int) (c : Coin) : Bool := decide (c.1 = nm ∧ c.2.1 = k)
def coinB (seed : Int) (cs : List Coin) (nm : List Int) (k : Int) : Bool := match cs.find? (hit nm k) with
  | some c => c.2.2
  | none => spr seed nm k
theorem luk_put (ps : Tl) (k k2 : Int) (t : Bool) : lukT (putT ps k t) k2 = if k = k2 then some t else lukT ps k2 := by
  unfold lukT putT
  by_cases h : (ps.any fun p => decide (p.1 = k)) = true
  · rw [if_pos h]
    induction ps with
    | nil => cases h
    | cons p ps ih =>
      rw [List.map_cons, List.find?_cons, List.find?_cons]
      by_cases hp : p.1 = k
      · rw [if_pos hp]
        by_cases hk : k = k2
        · rw [if_pos hk]
          have e : decide (p.1 = k2) = true := decide_eq_true (hp.trans hk)
          rw [e]
          rfl
        · rw [if_neg hk]
          have e : decide (p.1 = k2) = false := decide_eq_false fun z => hk (hp.symm.trans z)
          rw [e]
          dsimp only
          by_cases h2 : (ps.any fun p => decide (p.1 = k)) = true
          · have := ih h2
            rw [if_neg hk] at this
            exact this
          · have e2 : ps.map (fun p => if p.1 = k then (p.1, t) else p) = ps := by
              refine (List.map_congr_left fun q hq => ?_).trans (List.map_id ps)
              rw [if_neg fun z => h2 (List.any_eq_true.mpr ⟨q, hq, decide_eq_true z⟩)]
              rfl
            rw [e2]
      · rw [if_neg hp]
        have h2 : (ps.any fun p => decide (p.1 = k)) = true := by
          rw [List.any_cons, decide_eq_false hp] at h
          simpa using h
        by_cases hk : p.1 = k2
        · have e : decide (p.1 = k2) = true := decide_eq_true hk
          rw [e]
          dsimp only
          rw [if_neg fun z => hp (hk.trans z.symm)]
        · have e : decide (p.1 = k2) = false := decide_eq_false hk
          rw [e]
          exact ih h2
  · rw [if_neg h, List.find?_append]
    by_cases hk : k = k2
    · subst hk
      rw [if_pos rfl]
      have e : ps.find? (fun p => decide (p.1 = k)) = none := by
        rw [List.find?_eq_none]
        intro q hq z
        exact h (List.any_eq_true.mpr ⟨q, hq, z⟩)
      rw [e, List.find?_cons, decide_eq_true rfl]
      rfl
    · rw [if_neg hk, List.find?_cons, decide_eq_false hk, List.find?_nil, Option.or_none]
theorem luk_told {nm : List Int} {k : Int} : ∀ (cs : List Coin) (ps : Tl), (∀ c ∈ cs, ∀ c' ∈ cs, c.1 = c'.1 → c.2.1 = c'.2.1 → c = c') →
    lukT (cs.foldl (fun ps c => if decide (c.1 = nm) = true then putT ps c.2.1 c.2.2 else ps) ps) k = ((cs.find? (hit nm k)).map (·.2.2)).or (lukT ps k)
  | [], ps, _ => by simp
  | c :: cs, ps, h => by
    rw [List.foldl_cons, luk_told cs _ fun x hx y hy => h x (List.mem_cons_of_mem _ hx) y (List.mem_cons_of_mem _ hy), List.find?_cons]
    by_cases h1 : c.1 = nm
    · rw [decide_eq_true h1, if_pos rfl, luk_put]
      by_cases h2 : c.2.1 = k
      · have e : hit nm k c = true := decide_eq_true ⟨h1, h2⟩
        rw [if_pos h2, e]
        dsimp only
        cases e2 : cs.find? (hit nm k) with
        | none => rfl
        | some c2 =>
          have hm := List.mem_of_find?_eq_some e2
          have hh := List.find?_some e2
          have hh := of_decide_eq_true hh
          have := h c (List.mem_cons_self ..) c2 (List.mem_cons_of_mem _ hm) (h1.trans hh.1.symm) (h2.trans hh.2.symm)
          rw [this]
          rfl
      · have e : hit nm k c = false := decide_eq_false fun z => h2 z.2
        rw [if_neg h2, e]
    · rw [decide_eq_false h1, if_neg (by decide)]
      have e : hit nm k c = false := decide_eq_false fun z => h1 z.1
      rw [e]
def told (cs : List Coin) (nm : List Int) : Tl := toldBy (fun c => decide (c.1 = nm)) cs
theorem told_luk {cs : List Coin} (h : CsOk cs) (nm : List Int) (k : Int) : lukT (told cs nm) k = (cs.find? (hit nm k)).map (·.2.2) := by
  unfold told toldBy
  rw [luk_told cs [] h.one]
  cases cs.find? (hit nm k) <;> rfl
theorem told_coin {cs : List Coin} (h : CsOk cs) (seed : Int) (nm : List Int) (k : Int) : coinB seed cs nm k = (match lukT (told cs nm) k with | some t => t | none => spr seed nm k) := by
  rw [told_luk h]
  unfold coinB
  cases cs.find? (hit nm k) <;> rfl
theorem find_drop {cs : List Coin} {p : Coin → Bool} {k : Nat} {c : Coin} (h : cs[k]? = some c) (hp : p c = false) : (cs.drop (k + 1)).find? p = (cs.drop k).find? p := by
  obtain ⟨hk, e⟩ := List.getElem?_eq_some_iff.mp h
  rw [List.drop_eq_getElem_cons hk, List.find?_cons, e, hp]
theorem find_here {cs : List Coin} {p : Coin → Bool} {k : Nat} {c : Coin} (h : cs[k]? = some c) (hp : p c = true) : (cs.drop k).find? p = some c := by
  obtain ⟨hk, e⟩ := List.getElem?_eq_some_iff.mp h
  rw [List.drop_eq_getElem_cons hk, List.find?_cons, e, hp]
/-! ### beginnings -/
def beg (seed : Int) (cs : List Coin) (nm : List Int) : Nat → Int
  | 0 => 0
  | n + 1 => 2 * beg seed cs nm n + (if coinB seed cs nm n = true then 1 else 0)
theorem beg_b (seed : Int) (cs : List Coin) (nm : List Int) : ∀ n : Nat, 0 ≤ beg seed cs nm n ∧ beg seed cs nm n < 2 ^ n
  | 0 => ⟨Int.le_refl _, by show (0 : Int) < 1; decide⟩
  | n + 1 => by
    have ih := beg_b seed cs nm n
    have e : (2 : Int) ^ (n + 1) = 2 * 2 ^ n := by rw [Int.pow_succ, Int.mul_comm]
    rw [e]
    unfold beg
    split <;> omega
theorem beg_s (seed : Int) (cs : List Coin) (nm : List Int) (n : Nat) : Sm (n + 1) (beg seed cs nm n) := by
  have h := beg_b seed cs nm n
  exact (two_sm n).le h.1 (by omega)
/-! ### coins told -/
def addT (nm : List Int) (ts : List Bool) : List Coin := ts.zipIdx.map fun p => (nm, (p.2 : Int), p.1)
theorem addT_len (nm : List Int) (ts : List Bool) : (addT nm ts).length = ts.length := by
  unfold addT
  rw [List.length_map, List.length_zipIdx]
theorem addT_succ {nm : List Int} {ts : List Bool} {n : Nat} {t : Bool} (h : ts[n]? = some t) : addT nm (ts.take (n + 1)) = addT nm (ts.take n) ++ [(nm, (n : Int), t)] := by
  have hl := get_lt h
  unfold addT
  rw [List.take_succ, h]
  show ((ts.take n ++ [t]).zipIdx.map _) = _
  rw [List.zipIdx_append, List.map_append]
  congr 1
  show [(nm, ((0 + (ts.take n).length : Nat) : Int), t)] = _
  rw [List.length_take, Nat.min_eq_left (Nat.le_of_lt hl), Nat.zero_add]
theorem addT_mem {nm : List Int} {ts : List Bool} {c : Coin} (h : c ∈ addT nm ts) : ∃ n : Nat, c.1 = nm ∧ c.2.1 = (n : Int) ∧ ts[n]? = some c.2.2 := by
  obtain ⟨p, hp, rfl⟩ := List.mem_map.mp h
  refine ⟨p.2, rfl, rfl, ?_⟩
  exact List.mem_zipIdx_iff_getElem?.mp hp
def newT (cs : List Coin) (nm : List Int) (ts : List Bool) : List Coin := cs.filter (fun c => decide (c.1 ≠ nm)) ++ addT nm ts
theorem newT_one {cs : List Coin} (h : CsOk cs) (nm : List Int) (ts : List Bool) : ∀ c ∈ newT cs nm ts, ∀ c' ∈ newT cs nm ts, c.1 = c'.1 → c.2.1 = c'.2.1 → c = c' := by
  intro c hc c' hc' e1 e2
  rcases List.mem_append.mp hc with a | a <;> rcases List.mem_append.mp hc' with b | b
  · exact h.one c (List.mem_filter.mp a).1 c' (List.mem_filter.mp b).1 e1 e2
  · obtain ⟨n, b1, _⟩ := addT_mem b
    exact absurd (e1.trans b1) (of_decide_eq_true (List.mem_filter.mp a).2)
  · obtain ⟨n, a1, _⟩ := addT_mem a
    exact absurd (e1.symm.trans a1) (of_decide_eq_true (List.mem_filter.mp b).2)
  · obtain ⟨n, a1, a2, a3⟩ := addT_mem a
    obtain ⟨m, b1, b2, b3⟩ := addT_mem b
    have e : n = m := by omega
    subst e
    rw [a3] at b3
    have e3 := Option.some.inj b3
    obtain ⟨x1, x2, x3⟩ := c
    obtain ⟨y1, y2, y3⟩ := c'
    simp only at e1 e2 e3
    rw [e1, e2, e3]
structure TsOk (ts : List Bool) : Prop where
  few : ts.length ≤ 30
theorem fine_c {c : Coin} (h1 : NmOk c.1) (h2 : Sm 60 c.2.1) : Fine 12929 2 (cD c) := by
  have f := fine_tuple (fine_cons (fine_nm h1) (fine_cons (fine_sm h2 (by decide)) (fine_cons (fine_bool c.2.2) fine_nil)))
  exact f.mono (by decide) (by decide)
theorem fine_coins {seed : Int} {cs : List Coin} (hs : Sm 140 seed) (hl : cs.length ≤ 1000) (h : ∀ c ∈ cs, NmOk c.1 ∧ Sm 60 c.2.1) : Fine 13000000 4 (coinsD seed cs) := by
  have f : Fines ((12929 + 2) * (cs.map cD).length) 2 (cs.map cD) := fines_all fun d hd => by
    obtain ⟨c, hc, rfl⟩ := List.mem_map.mp hd
    exact fine_c (h c hc).1 (h c hc).2
  have g := fine_tuple (fine_cons (fine_sm hs (by decide)) (fine_cons (fine_tuple f) fine_nil))
  refine g.mono ?_ (by decide)
  rw [List.length_map]
  omega
theorem CsOk.fine {seed : Int} {cs : List Coin} (hs : Sm 140 seed) (h : CsOk cs) : Fine 13000000 4 (coinsD seed cs) := fine_coins hs (by have := h.few; omega) fun c hc => ⟨h.nm c hc, (h.k c hc).2⟩
theorem beg_t {seed : Int} {cs : List Coin} {nm : List Int} {n : Nat} (h : coinB seed cs nm (n : Int) = true) : beg seed cs nm (n + 1) = 2 * beg seed cs nm n + 1 := by
  show 2 * beg seed cs nm n + (if coinB seed cs nm n = true then 1 else 0) = _
  rw [if_pos h]
theorem beg_f {seed : Int} {cs : List Coin} {nm : List Int} {n : Nat} (h : ¬ coinB seed cs nm (n : Int) = true) : beg seed cs nm (n + 1) = 2 * beg seed cs nm n + 0 := by
  show 2 * beg seed cs nm n + (if coinB seed cs nm n = true then 1 else 0) = _
  rw [if_neg h]
theorem filt_succ {α : Type} {p : α → Bool} {xs : List α} {k : Nat} {x : α} (h : xs[k]? = some x) : (xs.take (k + 1)).filter p = if p x = true then (xs.take k).filter p ++ [x] else (xs.take k).filter p := by
  rw [List.take_succ, h, List.filter_append]
  show _ ++ List.filter p [x] = _
  by_cases hp : p x = true
  · rw [if_pos hp, List.filter_cons_of_pos hp]
    rfl
  · rw [if_neg hp, List.filter_cons_of_neg hp]
    exact List.append_nil _
theorem not_dec {p : Prop} [Decidable p] : ((!decide p) = true) = (decide (¬ p) = true) := by
  by_cases h : p <;> simp [h]
theorem CsOk.perm {cs es : List Coin} (h : CsOk cs) (p : es.Perm cs) : CsOk es :=
  ⟨by rw [p.length_eq]; exact h.few, fun c hc => h.nm c (p.mem_iff.mp hc), fun c hc => h.k c (p.mem_iff.mp hc), fun c hc c' hc' => h.one c (p.mem_iff.mp hc) c' (p.mem_iff.mp hc')⟩
theorem CsOk.add {cs : List Coin} {nm : List Int} {k : Int} {b : Bool} (h : CsOk cs) (hl : cs.length < 600) (hn : NmOk nm) (hk : 0 ≤ k ∧ Sm 60 k) (no : ∀ c ∈ cs, ¬ (c.1 = nm ∧ c.2.1 = k)) : CsOk (cs ++ [(nm, k, b)]) := by
  refine ⟨by rw [List.length_append]; show cs.length + 1 ≤ 600; omega, fun c hc => ?_, fun c hc => ?_, fun c hc c' hc' e1 e2 => ?_⟩
  · rcases List.mem_append.mp hc with a | a
    · exact h.nm c a
    · rw [List.mem_singleton.mp a]
      exact hn
  · rcases List.mem_append.mp hc with a | a
    · exact h.k c a
    · rw [List.mem_singleton.mp a]
      exact hk
  · rcases List.mem_append.mp hc with a | a <;> rcases List.mem_append.mp hc' with b | b
    · exact h.one c a c' b e1 e2
    · rw [List.mem_singleton.mp b] at e1 e2
      exact absurd ⟨e1, e2⟩ (no c a)
    · rw [List.mem_singleton.mp a] at e1 e2
      exact absurd ⟨e1.symm, e2.symm⟩ (no c' b)
    · rw [List.mem_singleton.mp a, List.mem_singleton.mp b]
def pairD (c : Coin) : PyData := .tuple [nmD c.1, .int c.2.1]
theorem any_pair (cs : List Coin) (nm : List Int) (k : Int) : ((cs.map fun c => PyData.tuple [nmD c.1, .int c.2.1]).any fun z => PyData.eqv z (.tuple [nmD nm, .int k])) = cs.any fun c => decide (c.1 = nm ∧ c.2.1 = k) := by
  rw [List.any_map]
  congr 1
  funext c
  exact eqv_pair c.1 nm c.2.1 k
theorem pairs_shaped {cs : List Coin} (h : CsOk cs) : SeqAt.shaped (.list (cs.map fun c => PyData.tuple [nmD c.1, .int c.2.1])) = true := by
  have f : Fines ((12929 + 2) * (cs.map fun c => PyData.tuple [nmD c.1, .int c.2.1]).length) 2 (cs.map fun c => PyData.tuple [nmD c.1, .int c.2.1]) := fines_all fun d hd => by
    obtain ⟨c, hc, rfl⟩ := List.mem_map.mp hd
    have g := fine_tuple (fine_cons (fine_nm (h.nm c hc)) (fine_cons (fine_sm (h.k c hc).2 (by decide)) fine_nil))
    exact g.mono (by decide) (by decide)
  exact (fine_list f).shaped (by decide)
theorem len_succ {ρ : List Sl} {n : Nat} (h : ρ.length = n + 1) : ∃ x r, ρ = x :: r ∧ r.length = n := by
  cases ρ with
  | nil => cases h
  | cons x r => exact ⟨x, r, rfl, by simpa using h⟩
/-! ### what told coins answer -/
theorem hit_some {es : List Coin} {nm : List Int} {k : Int} {c : Coin} (e : es.find? (hit nm k) = some c) : c.1 = nm ∧ c.2.1 = k := by
  have z : hit nm k c = true := List.find?_some e
  exact of_decide_eq_true z
theorem coin_mem {seed : Int} {es : List Coin} {nm : List Int} {k : Int} {t : Bool} (one : ∀ c ∈ es, ∀ c' ∈ es, c.1 = c'.1 → c.2.1 = c'.2.1 → c = c') (h : (nm, k, t) ∈ es) : coinB seed es nm k = t := by
  unfold coinB
  cases e : es.find? (hit nm k) with
  | none =>
    rw [List.find?_eq_none] at e
    exact absurd (decide_eq_true ⟨rfl, rfl⟩) (e _ h)
  | some c =>
    have hc := List.mem_of_find?_eq_some e
    have hh := hit_some e
    have := one c hc (nm, k, t) h hh.1 hh.2
    rw [this]
theorem coin_no {seed : Int} {es : List Coin} {nm : List Int} {k : Int} (h : ∀ c ∈ es, c.1 = nm → c.2.1 = k → False) : coinB seed es nm k = spr seed nm k := by
  unfold coinB
  cases e : es.find? (hit nm k) with
  | none => rfl
  | some c =>
    have hh := hit_some e
    exact (h c (List.mem_of_find?_eq_some e) hh.1 hh.2).elim
theorem mem_addT {nm : List Int} {ts : List Bool} {n : Nat} {t : Bool} (h : ts[n]? = some t) : (nm, (n : Int), t) ∈ addT nm ts :=
  List.mem_map.mpr ⟨(t, n), List.mem_zipIdx_iff_getElem?.mpr h, rfl⟩
section
variable {cs es : List Coin} {nm : List Int} {ts : List Bool} (h : CsOk cs) (p : es.Perm (newT cs nm ts))
include h p
theorem new_one : ∀ c ∈ es, ∀ c' ∈ es, c.1 = c'.1 → c.2.1 = c'.2.1 → c = c' := fun c hc c' hc' => newT_one h nm ts c (p.mem_iff.mp hc) c' (p.mem_iff.mp hc')
theorem new_ok (hn : NmOk nm) (hl : cs.length + ts.length ≤ 600) : CsOk es := by
  have e := p.length_eq
  unfold newT at e
  rw [List.length_append, addT_len] at e
  have := List.length_filter_le (fun c : Coin => decide (c.1 ≠ nm)) cs
  refine ⟨by omega, fun c hc => ?_, fun c hc => ?_, new_one h p⟩
  · rcases List.mem_append.mp (p.mem_iff.mp hc) with a | a
    · exact h.nm c (List.mem_filter.mp a).1
    · obtain ⟨n, a1, _⟩ := addT_mem a
      rw [a1]
      exact hn
  · rcases List.mem_append.mp (p.mem_iff.mp hc) with a | a
    · exact h.k c (List.mem_filter.mp a).1
    · obtain ⟨n, a1, a2, a3⟩ := addT_mem a
      have := get_lt a3
      rw [a2]
      exact ⟨by omega, Sm.mono (a := 20) (by unfold Sm; omega) (by decide)⟩
theorem new_len : es.length ≤ cs.length + ts.length := by
  have e := p.length_eq
  unfold newT at e
  rw [List.length_append, addT_len] at e
  have := List.length_filter_le (fun c : Coin => decide (c.1 ≠ nm)) cs
  omega
theorem new_at {seed : Int} {k : Nat} {t : Bool} (e : ts[k]? = some t) : coinB seed es nm (k : Int) = t :=
  coin_mem (new_one h p) (p.mem_iff.mpr (List.mem_append_right _ (mem_addT e)))
theorem new_far {seed : Int} {k : Nat} (e : ts.length ≤ k) : coinB seed es nm (k : Int) = spr seed nm k := by
  refine coin_no fun c hc e1 e2 => ?_
  rcases List.mem_append.mp (p.mem_iff.mp hc) with a | a
  · exact absurd e1 (of_decide_eq_true (List.mem_filter.mp a).2)
  · obtain ⟨n, a1, a2, a3⟩ := addT_mem a
    have := get_lt a3
    omega
theorem new_other {seed : Int} {m : List Int} {k : Int} (hm : m ≠ nm) : coinB seed es m k = coinB seed cs m k := by
  cases e : cs.find? (hit m k) with
  | none =>
    rw [List.find?_eq_none] at e
    have r : coinB seed cs m k = spr seed m k := coin_no fun c hc e1 e2 => e c hc (decide_eq_true ⟨e1, e2⟩)
    rw [r]
    refine coin_no fun c hc e1 e2 => ?_
    rcases List.mem_append.mp (p.mem_iff.mp hc) with a | a
    · exact e c (List.mem_filter.mp a).1 (decide_eq_true ⟨e1, e2⟩)
    · obtain ⟨n, a1, _⟩ := addT_mem a
      exact hm (e1.symm.trans a1)
  | some c =>
    have hc := List.mem_of_find?_eq_some e
    have hh := hit_some e
    obtain ⟨c1, c2, c3⟩ := c
    obtain ⟨rfl, rfl⟩ := hh
    rw [coin_mem h.one hc]
    exact coin_mem (new_one h p) (p.mem_iff.mpr (List.mem_append_left _ (List.mem_filter.mpr ⟨hc, decide_eq_true hm⟩)))
theorem beg_other {seed : Int} {m : List Int} (hm : m ≠ nm) : ∀ n : Nat, beg seed es m n = beg seed cs m n
  | 0 => rfl
  | n + 1 => by
    unfold beg
    rw [beg_other hm n, new_other h p hm]
end
/-! ### digits -/
def bits (c : Nat) : Nat → List Bool
  | 0 => []
  | n + 1 => bits c n ++ [decide (c / 2 ^ n % 2 = 1)]
def digs (c d : Nat) : List Bool := (bits c d).reverse
theorem bits_len (c : Nat) : ∀ n, (bits c n).length = n
  | 0 => rfl
  | n + 1 => by
    unfold bits
    rw [List.length_append, bits_len c n]
    rfl
theorem digs_len (c d : Nat) : (digs c d).length = d := by
  unfold digs
  rw [List.length_reverse, bits_len]
def two (a : Int) (b : Bool) : Int := 2 * a + (if b = true then 1 else 0)
theorem two_digs (c : Nat) : ∀ (n : Nat) (a : Int), (bits c n).reverse.foldl two a = a * 2 ^ n + ((c % 2 ^ n : Nat) : Int)
  | 0, a => by
    show a = a * 1 + ((c % 1 : Nat) : Int)
    rw [Nat.mod_one]
    simp
  | n + 1, a => by
    unfold bits
    rw [List.reverse_append, List.reverse_singleton, List.singleton_append, List.foldl_cons, two_digs c n]
    have e1 : (2 : Nat) ^ (n + 1) = 2 ^ n * 2 := Nat.pow_succ ..
    have e2 : (2 : Int) ^ (n + 1) = 2 ^ n * 2 := Int.pow_succ ..
    rw [e1, e2, Nat.mod_mul, Int.natCast_add, Int.natCast_mul]
    unfold two
    have e3 : ((2 ^ n : Nat) : Int) = 2 ^ n := by simp
    rw [e3]
    have hb : (if decide (c / 2 ^ n % 2 = 1) = true then (1 : Int) else 0) = ((c / 2 ^ n % 2 : Nat) : Int) := by
      by_cases hq : c / 2 ^ n % 2 = 1
      · rw [if_pos (decide_eq_true hq), hq]
        rfl
      · rw [if_neg fun z => hq (of_decide_eq_true z)]
        have : c / 2 ^ n % 2 = 0 := by omega
        rw [this]
        rfl
    rw [hb]
    generalize ((c / 2 ^ n % 2 : Nat) : Int) = b
    generalize ((c % 2 ^ n : Nat) : Int) = r
    generalize (2 : Int) ^ n = q
    rw [Int.add_mul, ← Int.mul_assoc a q 2, Int.mul_comm q b, Int.mul_comm (2 * a) q, Int.mul_comm (a * q) 2, Int.mul_comm q (2 * a), Int.mul_assoc 2 a q]
    omega
theorem digs_val {c d : Nat} (h : c < 2 ^ d) : (digs c d).foldl two 0 = (c : Int) := by
  unfold digs
  rw [two_digs, Nat.mod_eq_of_lt h]
  simp
theorem beg_new {seed : Int} {cs es : List Coin} {nm : List Int} {ts : List Bool} (h : CsOk cs) (p : es.Perm (newT cs nm ts)) : ∀ n : Nat, n ≤ ts.length → beg seed es nm n = (ts.take n).foldl two 0
  | 0, _ => rfl
  | n + 1, hn => by
    have hk : n < ts.length := by omega
    have e : ts[n]? = some ts[n] := List.getElem?_eq_getElem hk
    rw [List.take_succ, e, List.foldl_append]
    unfold beg
    rw [beg_new h p n (by omega), new_at h p e]
    rfl
theorem beg_all {seed : Int} {cs es : List Coin} {nm : List Int} {c d : Nat} (h : CsOk cs) (p : es.Perm (newT cs nm (digs c d))) (hc : c < 2 ^ d) : beg seed es nm d = (c : Int) := by
  rw [beg_new h p d (by rw [digs_len]; exact Nat.le_refl _)]
  rw [List.take_of_length_le (by rw [digs_len]; exact Nat.le_refl _), digs_val hc]
/-! ### shares -/
structure Shs (ss : List Int) : Prop where
  ne : 0 < ss.length
  few : ss.length ≤ 40
  pos : ∀ s ∈ ss, 1 ≤ s ∧ Sm 140 s
/-- the sum of the first k -/
def pre (ss : List Int) (k : Nat) : Int := (ss.take k).sum
theorem pre_zero (ss : List Int) : pre ss 0 = 0 := rfl
theorem pre_all (ss : List Int) : pre ss ss.length = ss.sum := by
  unfold pre
  rw [List.take_length]
theorem pre_succ {ss : List Int} {k : Nat} {s : Int} (h : ss[k]? = some s) : pre ss (k + 1) = pre ss k + s := by
  unfold pre
  rw [List.take_succ, h, List.sum_append]
  simp
theorem get_some {α : Type} {xs : List α} {k : Nat} (h : k < xs.length) : ∃ x, xs[k]? = some x := ⟨xs[k], List.getElem?_eq_getElem h⟩
section
variable {ss : List Int} (hs : Shs ss)
include hs
theorem Shs.at {k : Nat} {s : Int} (h : ss[k]? = some s) : 1 ≤ s ∧ Sm 140 s := hs.pos s (List.mem_of_getElem? h)
theorem Shs.grow : ∀ {k : Nat}, k ≤ ss.length → (k : Int) ≤ pre ss k ∧ pre ss k ≤ k * 2 ^ 140
  | 0, _ => by
    rw [pre_zero]
    decide
  | k + 1, hk => by
    obtain ⟨s, h⟩ := get_some (show k < ss.length by omega)
    have ih := Shs.grow (k := k) (by omega)
    have h1 := (hs.at h).1
    have h2 : s.natAbs < 2 ^ 140 := (hs.at h).2
    rw [pre_succ h]
    have e : ((k + 1 : Nat) : Int) * 2 ^ 140 = (k : Int) * 2 ^ 140 + 2 ^ 140 := by
      rw [Int.natCast_add, Int.add_mul]
      simp
    rw [e]
    omega
theorem Shs.step {k : Nat} (hk : k < ss.length) : pre ss k < pre ss (k + 1) := by
  obtain ⟨s, h⟩ := get_some hk
  rw [pre_succ h]
  have := (hs.at h).1
  omega
theorem Shs.mono : ∀ {j k : Nat}, j ≤ k → k ≤ ss.length → pre ss j ≤ pre ss k
  | j, 0, h, _ => by
    have : j = 0 := by omega
    rw [this]
    exact Int.le_refl _
  | j, k + 1, h, hk => by
    by_cases e : j = k + 1
    · rw [e]
      exact Int.le_refl _
    · have := Shs.mono (j := j) (k := k) (by omega) (by omega)
      have := hs.step (show k < ss.length by omega)
      omega
theorem Shs.tot : 1 ≤ ss.sum ∧ Sm 146 ss.sum := by
  have h := hs.grow (Nat.le_refl _)
  rw [pre_all] at h
  have := hs.ne
  have := hs.few
  refine ⟨by omega, ?_⟩
  unfold Sm
  have e : ((2 ^ 146 : Nat) : Int) = 64 * 2 ^ 140 := by decide
  have h2 : (ss.length : Int) * 2 ^ 140 ≤ 40 * 2 ^ 140 := Int.mul_le_mul_of_nonneg_right (by omega) (by decide)
  omega
theorem Shs.sm {k : Nat} (hk : k ≤ ss.length) : 0 ≤ pre ss k ∧ pre ss k ≤ ss.sum ∧ Sm 146 (pre ss k) := by
  have h1 := hs.grow hk
  have h2 := hs.mono hk (Nat.le_refl _)
  rw [pre_all] at h2
  have h3 := hs.tot.2
  exact ⟨by omega, h2, h3.le (by omega) h2⟩
end
/-! ### what is made -/
def mk (T c p : Int) : List Int → Int → Nat → PyData
  | [], _, _ => .none
  | s :: r, a, i => if a * p ≤ c * T ∧ (c + 1) * T ≤ (a + s) * p then .int (i : Int) else mk T c p r (a + s) (i + 1)
/-- what a BEGINNING makes -/
def mb (ss : List Int) (c p : Int) : PyData := mk ss.sum c p ss 0 0
def mkAt (ss : List Int) (c p : Int) (k : Nat) : PyData := mk ss.sum c p (ss.drop k) (pre ss k) k
theorem mkAt_zero {ss : List Int} {c p : Int} : mkAt ss c p 0 = mb ss c p := rfl
theorem mkAt_step {ss : List Int} {c p : Int} {k : Nat} {s : Int} (h : ss[k]? = some s) :
    mkAt ss c p k = if pre ss k * p ≤ c * ss.sum ∧ (c + 1) * ss.sum ≤ (pre ss k + s) * p then .int (k : Int) else mkAt ss c p (k + 1) := by
  have hl := get_lt h
  have e : ss.drop k = s :: ss.drop (k + 1) := by
    rw [List.drop_eq_getElem_cons hl]
    have : ss[k] = s := by
      rw [List.getElem?_eq_getElem hl] at h
      exact Option.some.inj h
    rw [this]
  unfold mkAt
  rw [e, pre_succ h]
  rfl
theorem mkAt_end {ss : List Int} {c p : Int} : mkAt ss c p ss.length = .none := by
  unfold mkAt
  rw [List.drop_length]
  rfl
def Hit (ss : List Int) (c p : Int) (i : Nat) : Prop := i < ss.length ∧ pre ss i * p ≤ c * ss.sum ∧ (c + 1) * ss.sum ≤ pre ss (i + 1) * p
theorem hit_iff {ss : List Int} {c p : Int} {k : Nat} {s : Int} (h : ss[k]? = some s) :
    (pre ss k * p ≤ c * ss.sum ∧ (c + 1) * ss.sum ≤ (pre ss k + s) * p) ↔ Hit ss c p k := by
  unfold Hit
  rw [pre_succ h]
  exact ⟨fun z => ⟨get_lt h, z⟩, fun z => z.2⟩
theorem hit_uniq {ss : List Int} {c p : Int} (hs : Shs ss) (hp : 0 < p) {i j : Nat} (h1 : Hit ss c p i) (h2 : Hit ss c p j) : i = j := by
  have key : ∀ {i j : Nat}, Hit ss c p i → Hit ss c p j → ¬ i < j := by
    rintro i j ⟨_, _, a⟩ ⟨hl, b, _⟩ hij
    have m : pre ss (i + 1) * p ≤ pre ss j * p := Int.mul_le_mul_of_nonneg_right (hs.mono (by omega) (by omega)) (by omega)
    have e : (c + 1) * ss.sum = c * ss.sum + ss.sum := by rw [Int.add_mul, Int.one_mul]
    have := hs.tot.1
    omega
  have a := key h1 h2
  have b := key h2 h1
  omega
theorem mk_hit {ss : List Int} {c p : Int} (hs : Shs ss) (hp : 0 < p) {i : Nat} (h : Hit ss c p i) : ∀ m k, m + k = i → mkAt ss c p k = .int (i : Int)
  | 0, k, e => by
    have e : k = i := by omega
    subst e
    obtain ⟨s, hk⟩ := get_some h.1
    rw [mkAt_step hk, if_pos ((hit_iff hk).mpr h)]
  | m + 1, k, e => by
    have := h.1
    obtain ⟨s, hk⟩ := get_some (show k < ss.length by omega)
    rw [mkAt_step hk, if_neg, mk_hit hs hp h m (k + 1) (by omega)]
    intro z
    have := hit_uniq hs hp ((hit_iff hk).mp z) h
    omega
theorem mk_no {ss : List Int} {c p : Int} (h : ∀ i, ¬ Hit ss c p i) : ∀ m k, m + k = ss.length → mkAt ss c p k = .none
  | 0, k, e => by
    have e : k = ss.length := by omega
    rw [e]
    exact mkAt_end
  | m + 1, k, e => by
    obtain ⟨s, hk⟩ := get_some (show k < ss.length by omega)
    rw [mkAt_step hk, if_neg, mk_no h m (k + 1) (by omega)]
    intro z
    exact h k ((hit_iff hk).mp z)
theorem mb_cases {ss : List Int} {c p : Int} (hs : Shs ss) (hp : 0 < p) : (∃ i, Hit ss c p i ∧ mb ss c p = .int (i : Int)) ∨ ((∀ i, ¬ Hit ss c p i) ∧ mb ss c p = .none) := by
  by_cases h : ∃ i, Hit ss c p i
  · obtain ⟨i, hi⟩ := h
    exact .inl ⟨i, hi, mk_hit hs hp hi i 0 rfl⟩
  · have h : ∀ i, ¬ Hit ss c p i := fun i z => h ⟨i, z⟩
    exact .inr ⟨h, mk_no h ss.length 0 rfl⟩
theorem mb_hit {ss : List Int} {c p : Int} (hs : Shs ss) (hp : 0 < p) {i : Nat} (h : Hit ss c p i) : mb ss c p = .int (i : Int) := mk_hit hs hp h i 0 rfl
theorem mb_int {ss : List Int} {c p : Int} (hs : Shs ss) (hp : 0 < p) {z : Int} (h : mb ss c p = .int z) : ∃ i : Nat, z = (i : Int) ∧ Hit ss c p i := by
  rcases mb_cases (c := c) hs hp with ⟨i, hi, e⟩ | ⟨_, e⟩
  · rw [e] at h
    exact ⟨i, (PyData.int.inj h).symm, hi⟩
  · rw [e] at h
    cases h
theorem fine_shs {ss : List Int} (hs : Shs ss) : Fines 200000 0 (ss.map PyData.int) := by
  have t := fines_all (m := 4302) (k := 0) (ds := ss.map PyData.int) fun d hd => by
    obtain ⟨s, hm, rfl⟩ := List.mem_map.mp hd
    exact fine_int ((hs.pos s hm).2.mono (by decide))
  have := hs.few
  exact ⟨t.num, t.lay, Nat.le_trans t.len (by rw [List.length_map]; omega), t.deep⟩
theorem bg12 {ρ : List Sl} (h : ρ.length = 12 ∧ ρ[1]? = some .bag) : ∃ x0 x2 x3 x4 x5 x6 x7 x8 x9 x10 x11, ρ = [x0, .bag, x2, x3, x4, x5, x6, x7, x8, x9, x10, x11] := by
  obtain ⟨h0, hb⟩ := h
  obtain ⟨x0, r0, rfl, h1⟩ := len_succ h0
  obtain ⟨x1, r1, rfl, h2⟩ := len_succ h1
  obtain ⟨x2, r2, rfl, h3⟩ := len_succ h2
  obtain ⟨x3, r3, rfl, h4⟩ := len_succ h3
  obtain ⟨x4, r4, rfl, h5⟩ := len_succ h4
  obtain ⟨x5, r5, rfl, h6⟩ := len_succ h5
  obtain ⟨x6, r6, rfl, h7⟩ := len_succ h6
  obtain ⟨x7, r7, rfl, h8⟩ := len_succ h7
  obtain ⟨x8, r8, rfl, h9⟩ := len_succ h8
  obtain ⟨x9, r9, rfl, h10⟩ := len_succ h9
  obtain ⟨x10, r10, rfl, h11⟩ := len_succ h10
  obtain ⟨x11, r11, rfl, h12⟩ := len_succ h11
  obtain rfl : r11 = [] := List.length_eq_zero_iff.mp h12
  cases hb
  exact ⟨_, _, _, _, _, _, _, _, _, _, _, rfl⟩
/-! ### what coins choose -/
def pick (x : PyData) (d : Nat) (r : PyData) : PyData := match x with
  | .none => r
  | x => .tuple [x, .int (d : Int)]
def chs (ss : List Int) (seed : Int) (cs : List Coin) (nm : List Int) : Nat → Nat → PyData
  | 0, _ => .none
  | n + 1, d => pick (mb ss (beg seed cs nm d) (2 ^ d)) d (chs ss seed cs nm n (d + 1))
section
variable {ss : List Int} {seed : Int} {cs : List Coin} {nm : List Int}
theorem chs_hit {n d : Nat} {i : Int} (h : mb ss (beg seed cs nm d) (2 ^ d) = .int i) : chs ss seed cs nm (n + 1) d = .tuple [.int i, .int (d : Int)] := by
  show pick _ d _ = _
  rw [h]
  rfl
theorem chs_no {n d : Nat} (h : mb ss (beg seed cs nm d) (2 ^ d) = .none) : chs ss seed cs nm (n + 1) d = chs ss seed cs nm n (d + 1) := by
  show pick _ d _ = _
  rw [h]
  rfl
theorem chs_cases (hs : Shs ss) : ∀ n d : Nat, chs ss seed cs nm n d = .none ∨ ∃ i m : Nat, i < ss.length ∧ m < n ∧ chs ss seed cs nm n d = .tuple [.int (i : Int), .int ((d + m : Nat) : Int)] ∧
      chs ss seed cs nm (m + 1) d = .tuple [.int (i : Int), .int ((d + m : Nat) : Int)] ∧ chs ss seed cs nm m d = .none
  | 0, d => .inl rfl
  | n + 1, d => by
    rcases mb_cases (c := beg seed cs nm d) (p := 2 ^ d) hs (Int.pow_pos (by decide)) with ⟨i, hi, e⟩ | ⟨_, e⟩
    · refine .inr ⟨i, 0, hi.1, by omega, chs_hit e, chs_hit e, rfl⟩
    · rcases chs_cases hs n (d + 1) with h | ⟨i, m, h1, h2, h3, h4, h5⟩
      · exact .inl ((chs_no e).trans h)
      · have ed : d + 1 + m = d + (m + 1) := by omega
        rw [ed] at h3 h4
        exact .inr ⟨i, m + 1, h1, by omega, (chs_no e).trans h3, (chs_no e).trans h4, (chs_no e).trans h5⟩
end
theorem cs_nil : CsOk [] := ⟨Nat.zero_le _, fun _ h => (nomatch h), fun _ h => (nomatch h), fun _ h => (nomatch h)⟩
theorem cut_one (m : Nat) : cutD ((List.range m).map fun _ => PyData.none) none (some 1) = [] ∨ cutD ((List.range m).map fun _ => PyData.none) none (some 1) = [.none] := by
  cases m with
  | zero => exact .inl rfl
  | succ m =>
    refine .inr ?_
    rw [cutD_take (by decide) (by rw [List.length_map, List.length_range]; omega), List.range_succ_eq_map]
    rfl
/-! ### piles of numbers at powers -/
theorem perm_sum {l l' : List Int} (h : l.Perm l') : l.sum = l'.sum := by
  induction h with
  | nil => rfl
  | cons x _ ih => rw [List.sum_cons, List.sum_cons, ih]
  | swap x y l =>
    simp only [List.sum_cons]
    omega
  | trans _ _ a b => exact a.trans b
def KN (s : Il) : Prop := (s.map (·.1)).Nodup
def wI (g : Int → Int → Int) (s : Il) : Int := (s.map fun p => g p.1 p.2).sum
def vP (ps : Il) : Int := (ps.map fun p => p.1 * 2 ^ p.2.toNat).sum
def wL (g : Int → Int → Int) (s : Il) (k : Int) : Int := match lukI s k with
  | some x => g k x
  | none => 0
theorem rep_keys (s : Il) (k t : Int) : (s.map (fun p => if p.1 = k then (p.1, t) else p)).map (·.1) = s.map (·.1) := by
  rw [List.map_map]
  refine List.map_congr_left fun p _ => ?_
  show (if p.1 = k then (p.1, t) else p).1 = p.1
  split <;> rfl
theorem any_key (s : Il) (k : Int) : (s.any fun p => decide (p.1 = k)) = true ↔ k ∈ s.map (·.1) := by
  rw [List.any_eq_true, List.mem_map]
  constructor
  · rintro ⟨p, hp, h⟩
    exact ⟨p, hp, of_decide_eq_true h⟩
  · rintro ⟨p, hp, h⟩
    exact ⟨p, hp, decide_eq_true h⟩
theorem put_keys (s : Il) (k t : Int) : (putI s k t).map (·.1) = if k ∈ s.map (·.1) then s.map (·.1) else s.map (·.1) ++ [k] := by
  unfold putI
  by_cases h : (s.any fun p => decide (p.1 = k)) = true
  · rw [if_pos h, if_pos ((any_key s k).mp h), rep_keys]
  · rw [if_neg h, if_neg fun z => h ((any_key s k).mpr z), List.map_append]
    rfl
theorem kn_put {s : Il} (h : KN s) (k t : Int) : KN (putI s k t) := by
  unfold KN
  rw [put_keys]
  split
  · exact h
  · rename_i hk
    rw [List.nodup_append]
    refine ⟨h, by simp, ?_⟩
    intro a ha b hb e
    rw [List.mem_singleton.mp hb] at e
    exact hk (e ▸ ha)
theorem luk_cons (p : Int × Int) (s : Il) (k : Int) : lukI (p :: s) k = if p.1 = k then some p.2 else lukI s k := by
  unfold lukI
  rw [List.find?_cons]
  by_cases h : p.1 = k
  · rw [if_pos h, decide_eq_true h]
    rfl
  · rw [if_neg h, decide_eq_false h]
theorem luk_none {s : Il} {k : Int} (h : k ∉ s.map (·.1)) : lukI s k = none := by
  induction s with
  | nil => rfl
  | cons p s ih =>
    rw [List.map_cons, List.mem_cons] at h
    rw [luk_cons, if_neg fun z => h (.inl z.symm), ih fun z => h (.inr z)]
theorem luk_mem {s : Il} (h : KN s) {p : Int × Int} (hp : p ∈ s) : lukI s p.1 = some p.2 := by
  induction s with
  | nil => exact nomatch hp
  | cons q s ih =>
    have hn : q.1 ∉ s.map (·.1) ∧ KN s := List.nodup_cons.mp h
    rw [luk_cons]
    rcases List.mem_cons.mp hp with rfl | hp
    · rw [if_pos rfl]
    · rw [if_neg fun (z : q.1 = p.1) => hn.1 (by rw [z]; exact List.mem_map.mpr ⟨p, hp, rfl⟩)]
      exact ih hn.2 hp
theorem w_rep (g : Int → Int → Int) {s : Il} (h : KN s) {k t : Int} (hk : k ∈ s.map (·.1)) : wI g (s.map (fun p => if p.1 = k then (p.1, t) else p)) = wI g s + (g k t - wL g s k) := by
  induction s with
  | nil => exact nomatch hk
  | cons p s ih =>
    have hn : p.1 ∉ s.map (·.1) ∧ KN s := List.nodup_cons.mp h
    unfold wI wL
    rw [luk_cons, List.map_cons, List.map_cons, List.map_cons, List.sum_cons, List.sum_cons]
    by_cases hp : p.1 = k
    · rw [if_pos hp, if_pos hp]
      have e : s.map (fun p => if p.1 = k then (p.1, t) else p) = s := by
        refine (List.map_congr_left fun q hq => ?_).trans (List.map_id s)
        rw [if_neg fun (z : q.1 = k) => hn.1 (by rw [hp, ← z]; exact List.mem_map.mpr ⟨q, hq, rfl⟩)]
        rfl
      rw [e]
      dsimp only
      rw [hp]
      omega
    · rw [if_neg hp, if_neg hp]
      have hk2 : k ∈ s.map (·.1) := (List.mem_cons.mp hk).resolve_left fun z => hp z.symm
      have := ih hn.2 hk2
      unfold wI wL at this
      rw [this]
      omega
theorem w_put (g : Int → Int → Int) {s : Il} (h : KN s) (k t : Int) : wI g (putI s k t) = wI g s + (g k t - wL g s k) := by
  unfold putI
  by_cases hk : (s.any fun p => decide (p.1 = k)) = true
  · rw [if_pos hk]
    exact w_rep g h ((any_key s k).mp hk)
  · rw [if_neg hk]
    have e : wL g s k = 0 := by
      unfold wL
      rw [luk_none fun z => hk ((any_key s k).mpr z)]
    rw [e]
    unfold wI
    rw [List.map_append, List.sum_append]
    simp
theorem absI_add (a b : Int) : absI (a + b) ≤ absI a + absI b := by
  unfold absI
  split <;> split <;> split <;> omega
theorem absI_nn (a : Int) : 0 ≤ absI a := by
  unfold absI
  split <;> omega
def gV (e c : Int) : Int := c * 2 ^ e.toNat
def gA (_ c : Int) : Int := absI c
theorem sums_all : ∀ (ps s : Il), KN s → KN (ps.foldl (fun s p => putI s p.2 ((lukI s p.2).getD 0 + p.1)) s) ∧ wI gV (ps.foldl (fun s p => putI s p.2 ((lukI s p.2).getD 0 + p.1)) s) = wI gV s + vP ps ∧
    wI gA (ps.foldl (fun s p => putI s p.2 ((lukI s p.2).getD 0 + p.1)) s) ≤ wI gA s + (ps.map fun p => absI p.1).sum ∧
    ∀ k ∈ (ps.foldl (fun s p => putI s p.2 ((lukI s p.2).getD 0 + p.1)) s).map (·.1), k ∈ s.map (·.1) ∨ k ∈ ps.map (·.2)
  | [], s, h => ⟨h, by simp [vP], by simp, fun k hk => .inl hk⟩
  | p :: ps, s, h => by
    rw [List.foldl_cons]
    obtain ⟨h1, h2, h3, h4⟩ := sums_all ps _ (kn_put h p.2 ((lukI s p.2).getD 0 + p.1))
    refine ⟨h1, ?_, ?_, fun k hk => ?_⟩
    · rw [h2, w_put gV h]
      have e : wL gV s p.2 = gV p.2 ((lukI s p.2).getD 0) := by
        unfold wL gV
        cases lukI s p.2 with
        | none => simp
        | some x => rfl
      rw [e]
      unfold gV vP
      rw [Int.add_mul, List.map_cons, List.sum_cons]
      omega
    · refine Int.le_trans h3 ?_
      rw [w_put gA h]
      have e : wL gA s p.2 = gA p.2 ((lukI s p.2).getD 0) := by
        unfold wL gA
        cases lukI s p.2 with
        | none => rfl
        | some x => rfl
      rw [e, List.map_cons, List.sum_cons]
      unfold gA
      have := absI_add ((lukI s p.2).getD 0) p.1
      omega
    · rcases h4 k hk with h5 | h5
      · rw [put_keys] at h5
        split at h5
        · exact .inl h5
        · rcases List.mem_append.mp h5 with h6 | h6
          · exact .inl h6
          · rw [List.mem_singleton.mp h6]
            exact .inr (List.mem_cons_self ..)
      · exact .inr (List.mem_cons_of_mem _ h5)
theorem keys_sum (g : Int → Int → Int) {s : Il} (h : KN s) {ys : List Int} (p : ys.Perm (s.map (·.1))) : (ys.map fun e => g e ((lukI s e).getD 0)).sum = wI g s := by
  rw [perm_sum (p.map _), List.map_map]
  unfold wI
  congr 1
  refine List.map_congr_left fun q hq => ?_
  show g q.1 ((lukI s q.1).getD 0) = _
  rw [luk_mem h hq]
  rfl
def sg (x : Int) : Int := if x < 0 then -1 else if x > 0 then 1 else 0
theorem sg_rest {x q r : Int} (h : absI r < absI x * q) : sg (x * q + r) = sg x := by
  have hr : -(absI x * q) < r ∧ r < absI x * q := by
    unfold absI at h ⊢
    split at h <;> constructor <;> omega
  unfold absI at hr
  unfold sg
  by_cases h0 : x < 0
  · rw [if_pos h0] at hr ⊢
    rw [if_pos (by rw [Int.neg_mul] at hr; omega)]
  · rw [if_neg h0] at hr ⊢
    by_cases h1 : x > 0
    · rw [if_pos h1, if_neg (by omega), if_pos (by omega)]
    · have : x = 0 := by omega
      subst this
      rw [Int.zero_mul] at hr
      omega
theorem sg_mul {x q : Int} (hq : 0 < q) : sg (x * q) = sg x := by
  have := @sg_rest x q 0
  by_cases h : x = 0
  · subst h
    rw [Int.zero_mul]
  · rw [Int.add_zero] at this
    refine this ?_
    have e : absI 0 = 0 := rfl
    rw [e]
    refine Int.mul_pos ?_ hq
    unfold absI
    split <;> omega
theorem two_pos (n : Nat) : (0 : Int) < 2 ^ n := Int.pow_pos (by decide)
theorem two_add {a b : Nat} (h : a ≤ b) : (2 : Int) ^ b = 2 ^ (b - a) * 2 ^ a := by
  rw [← Int.pow_add]
  congr 1
  omega
theorem rest_le (cf : Int → Int) (b : Nat) : ∀ zs : List Int, (∀ e ∈ zs, e.toNat ≤ b) → absI (zs.map fun e => cf e * 2 ^ e.toNat).sum ≤ (zs.map fun e => absI (cf e)).sum * 2 ^ b
  | [], _ => by
    show absI 0 ≤ 0 * 2 ^ b
    rw [Int.zero_mul]
    decide
  | e :: zs, h => by
    rw [List.map_cons, List.sum_cons, List.map_cons, List.sum_cons, Int.add_mul]
    have ih := rest_le cf b zs fun e he => h e (List.mem_cons_of_mem _ he)
    have h1 := absI_add (cf e * 2 ^ e.toNat) (zs.map fun e => cf e * 2 ^ e.toNat).sum
    have h2 : absI (cf e * 2 ^ e.toNat) ≤ absI (cf e) * 2 ^ b := by
      have hb := two_add (h e (List.mem_cons_self ..))
      have p1 := two_pos e.toNat
      have p2 := two_pos (b - e.toNat)
      have e1 : absI (cf e * 2 ^ e.toNat) = absI (cf e) * 2 ^ e.toNat := by
        unfold absI
        by_cases hc : cf e < 0
        · rw [if_pos hc, if_pos (Int.mul_neg_of_neg_of_pos hc p1), Int.neg_mul]
        · rw [if_neg hc, if_neg (by have := Int.mul_nonneg (show 0 ≤ cf e by omega) (Int.le_of_lt p1); omega)]
      rw [e1, hb]
      have := absI_nn (cf e)
      refine Int.mul_le_mul_of_nonneg_left ?_ this
      have : 1 * 2 ^ e.toNat ≤ 2 ^ (b - e.toNat) * (2 : Int) ^ e.toNat := Int.mul_le_mul_of_nonneg_right (by omega) (Int.le_of_lt p1)
      omega
    omega
theorem bits_lt {x : Int} (h : 0 ≤ x) : x < 2 ^ Builtin.Int.intBits x := by
  unfold Builtin.Int.intBits
  by_cases hx : x = 0
  · subst hx
    decide
  · rw [if_neg (by simpa using hx)]
    have := Nat.lt_log2_self (n := x.natAbs)
    have e : ((2 ^ (x.natAbs.log2 + 1) : Nat) : Int) = 2 ^ (x.natAbs.log2 + 1) := by simp
    omega
structure Pile (ps : Il) : Prop where
  few : ps.length ≤ 100
  sm : ∀ p ∈ ps, Sm 600 p.1 ∧ 0 ≤ p.2 ∧ p.2 ≤ 1000
def negP (ps : Il) : Il := ps.map fun p => (-p.1, p.2)
theorem vP_app (a b : Il) : vP (a ++ b) = vP a + vP b := by
  unfold vP
  rw [List.map_append, List.sum_append]
theorem vP_neg : ∀ a : Il, vP (negP a) = - vP a
  | [] => rfl
  | p :: a => by
    have ih := vP_neg a
    unfold vP negP at ih ⊢
    rw [List.map_cons, List.map_cons, List.map_cons, List.sum_cons, List.sum_cons, ih]
    dsimp only
    rw [Int.neg_mul]
    omega
theorem abs_sum (ps : Il) (b : Nat) (h : ∀ p ∈ ps, Sm b p.1) : 0 ≤ (ps.map fun p => absI p.1).sum ∧ (ps.map fun p => absI p.1).sum ≤ ps.length * 2 ^ b := by
  induction ps with
  | nil =>
    show (0 : Int) ≤ 0 ∧ (0 : Int) ≤ ((0 : Nat) : Int) * 2 ^ b
    rw [Int.natCast_zero, Int.zero_mul]
    decide
  | cons p ps ih =>
    obtain ⟨a1, a2⟩ := ih fun q hq => h q (List.mem_cons_of_mem _ hq)
    have hp : p.1.natAbs < 2 ^ b := h p (List.mem_cons_self ..)
    have e : ((2 ^ b : Nat) : Int) = 2 ^ b := by simp
    have h1 : absI p.1 ≤ 2 ^ b := by
      unfold absI
      split <;> omega
    have h0 := absI_nn p.1
    rw [List.map_cons, List.sum_cons, List.length_cons, Int.natCast_add, Int.add_mul]
    omega
/-- what stands while the powers are gone down -/
structure Down (D : Il) (ys : List Int) : Prop where
  kn : KN D
  perm : ys.Perm (D.map (·.1))
  desc : ys.Pairwise (· ≥ ·)
  key : ∀ e ∈ ys, 0 ≤ e ∧ e ≤ 1000
  abs : wI gA D ≤ 200 * 2 ^ 600
def cfD (D : Il) (e : Int) : Int := (lukI D e).getD 0
def Sd (D : Il) (ys : List Int) (k : Nat) : Int := ((ys.take k).map fun e => cfD D e * 2 ^ e.toNat).sum
def Ad (D : Il) (ys : List Int) (k : Nat) : Int := ((ys.drop k).map fun e => absI (cfD D e)).sum
section
variable {D : Il} {ys : List Int} (h : Down D ys)
include h
theorem Down.get {e : Int} (he : e ∈ ys) : lukI D e = some (cfD D e) := by
  have hk := h.perm.mem_iff.mp he
  obtain ⟨p, hp, rfl⟩ := List.mem_map.mp hk
  unfold cfD
  rw [luk_mem h.kn hp]
  rfl
theorem Down.all : Sd D ys ys.length = wI gV D := by
  unfold Sd
  rw [List.take_length]
  exact keys_sum gV h.kn h.perm
theorem Down.a0 : Ad D ys 0 = wI gA D := keys_sum gA h.kn h.perm
omit h in
theorem sd_succ {k : Nat} {e : Int} (he : ys[k]? = some e) : Sd D ys (k + 1) = Sd D ys k + cfD D e * 2 ^ e.toNat := by
  unfold Sd
  rw [List.take_succ, he, List.map_append, List.sum_append]
  simp
omit h in
theorem ad_succ {k : Nat} {e : Int} (he : ys[k]? = some e) : Ad D ys k = absI (cfD D e) + Ad D ys (k + 1) := by
  obtain ⟨hk, e1⟩ := List.getElem?_eq_some_iff.mp he
  unfold Ad
  rw [List.drop_eq_getElem_cons hk, e1, List.map_cons, List.sum_cons]
omit h in
theorem ad_nn : ∀ zs : List Int, 0 ≤ (zs.map fun e => absI (cfD D e)).sum
  | [] => Int.le_refl _
  | e :: zs => by
    rw [List.map_cons, List.sum_cons]
    have := ad_nn zs
    have := absI_nn (cfD D e)
    omega
theorem Down.ad_le (k : Nat) : Ad D ys k ≤ wI gA D := by
  rw [← h.a0]
  have e : ys = ys.take k ++ ys.drop k := (List.take_append_drop k ys).symm
  have : Ad D ys 0 = ((ys.take k).map fun e => absI (cfD D e)).sum + Ad D ys k := by
    unfold Ad
    rw [List.drop_zero]
    conv => lhs; rw [e]
    rw [List.map_append, List.sum_append]
  have := ad_nn (D := D) (ys.take k)
  omega
theorem Down.low {j k : Nat} {a e : Int} (hj : ys[j]? = some a) (hk : ys[k]? = some e) (hjk : j ≤ k) : e ≤ a := by
  obtain ⟨lj, ej⟩ := List.getElem?_eq_some_iff.mp hj
  obtain ⟨lk, ek⟩ := List.getElem?_eq_some_iff.mp hk
  by_cases e0 : j = k
  · subst e0
    omega
  · have := List.pairwise_iff_getElem.mp h.desc j k lj lk (by omega)
    omega
/-- the rest is small -/
theorem Down.rest {k : Nat} {e : Int} (hk : ys[k]? = some e) : ∃ r, wI gV D = Sd D ys k + r ∧ absI r ≤ Ad D ys k * 2 ^ e.toNat := by
  refine ⟨((ys.drop k).map fun e => cfD D e * 2 ^ e.toNat).sum, ?_, ?_⟩
  · rw [← h.all]
    unfold Sd
    rw [List.take_length]
    conv => lhs; rw [← List.take_append_drop k ys]
    rw [List.map_append, List.sum_append]
  · refine rest_le (cfD D) e.toNat (ys.drop k) fun z hz => ?_
    obtain ⟨m, hm⟩ := List.getElem?_of_mem hz
    rw [List.getElem?_drop] at hm
    have := h.low hk hm (by omega)
    omega
/-- how great what was met can be -/
theorem Down.met {k : Nat} {met at_ : Int} (hm : met * 2 ^ at_.toNat = Sd D ys k) : Sm 1700 met := by
  have h1 : absI (Sd D ys k) ≤ wI gA D * 2 ^ 1000 := by
    unfold Sd
    refine Int.le_trans (rest_le (cfD D) 1000 (ys.take k) fun e he => ?_) ?_
    · have := (h.key e (List.mem_of_mem_take he)).2
      omega
    · refine Int.mul_le_mul_of_nonneg_right ?_ (Int.le_of_lt (two_pos _))
      rw [← h.a0]
      have e : Ad D ys 0 = ((ys.take k).map fun e => absI (cfD D e)).sum + Ad D ys k := by
        unfold Ad
        rw [List.drop_zero]
        conv => lhs; rw [← List.take_append_drop k ys]
        rw [List.map_append, List.sum_append]
      have : 0 ≤ Ad D ys k := ad_nn _
      omega
  have h2 : absI met ≤ absI (Sd D ys k) := by
    rw [← hm]
    have p := two_pos at_.toNat
    have e1 : absI (met * 2 ^ at_.toNat) = absI met * 2 ^ at_.toNat := by
      unfold absI
      by_cases hc : met < 0
      · rw [if_pos hc, if_pos (Int.mul_neg_of_neg_of_pos hc p), Int.neg_mul]
      · rw [if_neg hc, if_neg (by have := Int.mul_nonneg (show 0 ≤ met by omega) (Int.le_of_lt p); omega)]
    rw [e1]
    have := Int.mul_le_mul_of_nonneg_left (show (1 : Int) ≤ 2 ^ at_.toNat by omega) (absI_nn met)
    omega
  have h3 : wI gA D * 2 ^ 1000 ≤ 200 * 2 ^ 600 * 2 ^ 1000 := Int.mul_le_mul_of_nonneg_right h.abs (Int.le_of_lt (two_pos _))
  have h4 : (200 : Int) * 2 ^ 600 * 2 ^ 1000 < 2 ^ 1700 := by
    rw [Int.mul_assoc, ← Int.pow_add]
    have e5 : (2 : Int) ^ 1700 = 2 ^ 100 * 2 ^ (600 + 1000) := by rw [← Int.pow_add]
    rw [e5]
    exact Int.mul_lt_mul_of_pos_right (by decide) (two_pos _)
  have e6 : ((2 ^ 1700 : Nat) : Int) = 2 ^ 1700 := by rw [Int.natCast_pow]; rfl
  have h5 : absI met < 2 ^ 1700 := Int.lt_of_le_of_lt h2 (Int.lt_of_le_of_lt h1 (Int.lt_of_le_of_lt h3 h4))
  unfold Sm
  unfold absI at h5
  split at h5 <;> omega
theorem Down.stop {k : Nat} {met at_ e : Int} (hm : met * 2 ^ at_.toNat = Sd D ys k) (h0 : met ≠ 0) (he : ys[k]? = some e) (hae : e ≤ at_) (he0 : 0 ≤ e)
    (c : at_ - e ≥ ((Builtin.Int.intBits (Ad D ys k) : Nat) : Int) ∨ absI met * 2 ^ (at_ - e).toNat > Ad D ys k) : sg met = sg (wI gV D) := by
  obtain ⟨r, hv, hr⟩ := h.rest he
  have an : 0 ≤ Ad D ys k := ad_nn _
  have big : Ad D ys k < absI met * 2 ^ (at_ - e).toNat := by
    rcases c with c | c
    · have b1 := bits_lt an
      have ma : 1 ≤ absI met := by
        unfold absI
        split <;> omega
      have b2 := two_add (show Builtin.Int.intBits (Ad D ys k) ≤ (at_ - e).toNat by omega)
      have p1 := two_pos (Builtin.Int.intBits (Ad D ys k))
      have p2 := two_pos ((at_ - e).toNat - Builtin.Int.intBits (Ad D ys k))
      have b3 : 1 * 2 ^ Builtin.Int.intBits (Ad D ys k) ≤ 2 ^ ((at_ - e).toNat - Builtin.Int.intBits (Ad D ys k)) * (2 : Int) ^ Builtin.Int.intBits (Ad D ys k) := Int.mul_le_mul_of_nonneg_right (by omega) (Int.le_of_lt p1)
      have b4 := Int.mul_le_mul_of_nonneg_right ma (Int.le_of_lt (two_pos (at_ - e).toNat))
      omega
    · exact c
  have eq : at_.toNat = (at_ - e).toNat + e.toNat := by omega
  rw [hv, ← hm]
  symm
  refine sg_rest ?_
  rw [eq, Int.pow_add, ← Int.mul_assoc]
  exact Int.lt_of_le_of_lt hr (Int.mul_lt_mul_of_pos_right big (two_pos _))
end
/-! ### enclosures -/
abbrev En3 := Int × Int × Int
def tD (t : En3) : PyData := .tuple [.int t.1, .int t.2.1, .int t.2.2]
structure EsOk (ts : List En3) : Prop where
  few : ts.length ≤ 40
  ok : ∀ t ∈ ts, 0 ≤ t.1 ∧ 0 ≤ t.2.1 ∧ Sm 300 t.1 ∧ Sm 300 t.2.1 ∧ 0 ≤ t.2.2 ∧ t.2.2 ≤ 100
def lowS (ts : List En3) : Int := (ts.map fun t => t.1 * 2 ^ t.2.2.toNat).sum
def highS (ts : List En3) : Int := (ts.map fun t => t.2.1 * 2 ^ t.2.2.toNat).sum
def aheadB (ts : List En3) (i c d : Nat) : Bool := decide (highS (ts.take i) * (2 ^ d - c) ≤ c * lowS (ts.drop i))
def behindB (ts : List En3) (i c d : Nat) : Bool := decide ((c + 1) * highS (ts.drop (i + 1)) ≤ (2 ^ d - c - 1) * lowS (ts.take (i + 1)))
theorem cutD_drop {ds : List PyData} {i : Int} (h0 : 0 ≤ i) (h1 : i ≤ (ds.length : Int)) : DL.cutD ds (some i) none = ds.drop i.toNat := by
  obtain ⟨k, rfl⟩ : ∃ k : Nat, i = (k : Int) := ⟨i.toNat, by omega⟩
  have e1 := HT.sIx_none ds.length ds.length
  have e2 := HT.sIx_nat ds.length 0 k
  have hk : min k ds.length = k := by omega
  unfold DL.cutD
  rw [e1, e2]
  first
    | (rw [hk, Int.toNat_natCast]; exact List.take_of_length_le (by rw [List.length_drop]; omega))
    | (simp only [Int.toNat_natCast]; exact List.take_of_length_le (by rw [List.length_drop]; omega))
def pileH (ts : List En3) (r : Int) : Il := ts.map fun t => (t.2.1 * r, t.2.2)
def pileL (ts : List En3) (r : Int) : Il := ts.map fun t => (r * t.1, t.2.2)
def pileH2 (ts : List En3) (r : Int) : Il := ts.map fun t => (r * t.2.1, t.2.2)
theorem vP_H : ∀ (ts : List En3) (r : Int), vP (pileH ts r) = highS ts * r
  | [], r => by show (0 : Int) = 0 * r; rw [Int.zero_mul]
  | t :: ts, r => by
    have ih := vP_H ts r
    unfold vP pileH highS at ih ⊢
    rw [List.map_cons, List.map_cons, List.map_cons, List.sum_cons, List.sum_cons, ih, Int.add_mul]
    dsimp only
    rw [Int.mul_assoc, Int.mul_comm r, ← Int.mul_assoc]
theorem vP_L : ∀ (ts : List En3) (r : Int), vP (pileL ts r) = r * lowS ts
  | [], r => by show (0 : Int) = r * 0; rw [Int.mul_zero]
  | t :: ts, r => by
    have ih := vP_L ts r
    unfold vP pileL lowS at ih ⊢
    rw [List.map_cons, List.map_cons, List.map_cons, List.sum_cons, List.sum_cons, ih, Int.mul_add]
    dsimp only
    rw [Int.mul_assoc]
theorem vP_H2 : ∀ (ts : List En3) (r : Int), vP (pileH2 ts r) = r * highS ts
  | [], r => by show (0 : Int) = r * 0; rw [Int.mul_zero]
  | t :: ts, r => by
    have ih := vP_H2 ts r
    unfold vP pileH2 highS at ih ⊢
    rw [List.map_cons, List.map_cons, List.map_cons, List.sum_cons, List.sum_cons, ih, Int.mul_add]
    dsimp only
    rw [Int.mul_assoc]
theorem EsOk.sub {ts us : List En3} (h : EsOk ts) (hl : us.length ≤ ts.length) (hm : ∀ t ∈ us, t ∈ ts) : EsOk us := ⟨Nat.le_trans hl h.few, fun t ht => h.ok t (hm t ht)⟩
theorem EsOk.take {ts : List En3} (h : EsOk ts) (k : Nat) : EsOk (ts.take k) := h.sub (by rw [List.length_take]; omega) fun t ht => List.mem_of_mem_take ht
theorem EsOk.drop {ts : List En3} (h : EsOk ts) (k : Nat) : EsOk (ts.drop k) := h.sub (by rw [List.length_drop]; omega) fun t ht => List.mem_of_mem_drop ht
theorem pile_H {ts : List En3} {r : Int} (h : EsOk ts) (hr : Sm 200 r) : Pile (pileH ts r) := by
  refine ⟨by unfold pileH; rw [List.length_map]; have := h.few; omega, fun p hp => ?_⟩
  obtain ⟨t, ht, rfl⟩ := List.mem_map.mp hp
  obtain ⟨a, b, c, d, e, f⟩ := h.ok t ht
  exact ⟨(d.mul hr).mono (by decide), e, by show t.2.2 ≤ 1000; omega⟩
theorem pile_L {ts : List En3} {r : Int} (h : EsOk ts) (hr : Sm 200 r) : Pile (pileL ts r) := by
  refine ⟨by unfold pileL; rw [List.length_map]; have := h.few; omega, fun p hp => ?_⟩
  obtain ⟨t, ht, rfl⟩ := List.mem_map.mp hp
  obtain ⟨a, b, c, d, e, f⟩ := h.ok t ht
  exact ⟨(hr.mul c).mono (by decide), e, by show t.2.2 ≤ 1000; omega⟩
theorem pile_H2 {ts : List En3} {r : Int} (h : EsOk ts) (hr : Sm 200 r) : Pile (pileH2 ts r) := by
  refine ⟨by unfold pileH2; rw [List.length_map]; have := h.few; omega, fun p hp => ?_⟩
  obtain ⟨t, ht, rfl⟩ := List.mem_map.mp hp
  obtain ⟨a, b, c, d, e, f⟩ := h.ok t ht
  exact ⟨(hr.mul d).mono (by decide), e, by show t.2.2 ≤ 1000; omega⟩
theorem sg_le {x : Int} : decide (sg x ≤ 0) = decide (x ≤ 0) := by
  unfold sg
  refine decide_eq_decide.mpr ?_
  split
  · omega
  · split <;> omega
theorem sums_nn {ts : List En3} (h : EsOk ts) : 0 ≤ lowS ts ∧ 0 ≤ highS ts := by
  obtain ⟨hf, h⟩ := h
  clear hf
  induction ts with
  | nil => exact ⟨Int.le_refl _, Int.le_refl _⟩
  | cons t ts ih =>
    obtain ⟨a, b⟩ := ih fun t ht => h t (List.mem_cons_of_mem _ ht)
    obtain ⟨c, d, _⟩ := h t (List.mem_cons_self ..)
    have p := two_pos t.2.2.toNat
    have e1 := Int.mul_nonneg c (Int.le_of_lt p)
    have e2 := Int.mul_nonneg d (Int.le_of_lt p)
    unfold lowS at a ⊢
    unfold highS at b ⊢
    rw [List.map_cons, List.map_cons, List.sum_cons, List.sum_cons]
    omega
theorem low_app (a b : List En3) : lowS (a ++ b) = lowS a + lowS b := by
  unfold lowS
  rw [List.map_append, List.sum_append]
theorem high_app (a b : List En3) : highS (a ++ b) = highS a + highS b := by
  unfold highS
  rw [List.map_append, List.sum_append]
theorem behind_up {ts : List En3} (h : EsOk ts) {c d i : Nat} (hc : c < 2 ^ d) (hb : behindB ts i c d = true) : behindB ts (i + 1) c d = true := by
  have hb := of_decide_eq_true hb
  refine decide_eq_true ?_
  have e1 : ts.drop (i + 1) = (ts.drop (i + 1)).take 1 ++ ts.drop (i + 2) := by
    conv => lhs; rw [← List.take_append_drop 1 (ts.drop (i + 1))]
    rw [List.drop_drop]
  have e2 : ts.take (i + 2) = ts.take (i + 1) ++ (ts.drop (i + 1)).take 1 := by
    rw [← List.take_add]
  have n1 := (sums_nn ((h.drop (i + 1)).take 1))
  have pc : (c : Int) + 1 ≤ 2 ^ d := by
    have e : ((2 ^ d : Nat) : Int) = 2 ^ d := by simp
    omega
  rw [e1, high_app] at hb
  show _ * highS (ts.drop (i + 2)) ≤ _ * lowS (ts.take (i + 2))
  rw [e2, low_app]
  have m1 := Int.mul_nonneg (show (0 : Int) ≤ (c : Int) + 1 by omega) n1.2
  have m2 := Int.mul_nonneg (show (0 : Int) ≤ 2 ^ d - (c : Int) - 1 by omega) n1.1
  rw [Int.mul_add] at hb ⊢
  omega
theorem behind_ups {ts : List En3} (h : EsOk ts) {c d i : Nat} (hc : c < 2 ^ d) (hb : behindB ts i c d = true) : ∀ j, i ≤ j → behindB ts j c d = true
  | 0, hj => by
    have : i = 0 := by omega
    rw [← this]
    exact hb
  | j + 1, hj => by
    by_cases e : i = j + 1
    · rw [← e]
      exact hb
    · exact behind_up h hc (behind_ups h hc hb j (by omega))
theorem behind_last {ts : List En3} (h : EsOk ts) {c d : Nat} (hc : c < 2 ^ d) {i : Nat} (hi : ts.length ≤ i + 1) : behindB ts i c d = true := by
  refine decide_eq_true ?_
  rw [List.drop_eq_nil_of_le hi]
  have pc : (c : Int) + 1 ≤ 2 ^ d := by
    have e : ((2 ^ d : Nat) : Int) = 2 ^ d := by simp
    omega
  have m2 := Int.mul_nonneg (show (0 : Int) ≤ 2 ^ d - (c : Int) - 1 by omega) (sums_nn (h.take (i + 1))).1
  have e0 : highS [] = 0 := rfl
  rw [e0, Int.mul_zero]
  exact m2
/-- the least that is shown from behind, if it is shown from ahead too -/
def lsh (ts : List En3) (c d : Nat) : PyData := match (List.range ts.length).find? (fun i => behindB ts i c d) with
  | some m => if aheadB ts m c d = true then .int (m : Int) else .none
  | none => .none
theorem lsh_at {ts : List En3} {c d m : Nat} (hm : m < ts.length) (hb : behindB ts m c d = true) (hn : ∀ j, j < m → behindB ts j c d = false) : lsh ts c d = if aheadB ts m c d = true then .int (m : Int) else .none := by
  have e : (List.range ts.length).find? (fun i => behindB ts i c d) = some m := by
    rw [List.find?_range_eq_some]
    refine ⟨hb, by simpa using hm, fun j hj => ?_⟩
    rw [hn j hj]
    rfl
  unfold lsh
  rw [e]
def shw (ts : List En3) (seed : Int) (cs : List Coin) (nm : List Int) : Nat → Nat → PyData
  | 0, _ => .none
  | n + 1, d => pick (lsh ts (beg seed cs nm d).toNat d) d (shw ts seed cs nm n (d + 1))
theorem lsh_cases (ts : List En3) (c d : Nat) : (∃ m : Nat, m < ts.length ∧ lsh ts c d = .int (m : Int) ∧ aheadB ts m c d = true ∧ behindB ts m c d = true) ∨ lsh ts c d = .none := by
  unfold lsh
  cases e : (List.range ts.length).find? (fun i => behindB ts i c d) with
  | none => exact .inr rfl
  | some m =>
    have h1 := List.mem_range.mp (List.mem_of_find?_eq_some e)
    have h2 : behindB ts m c d = true := (List.find?_range_eq_some.mp e).1
    dsimp only
    by_cases ha : aheadB ts m c d = true
    · rw [if_pos ha]
      exact .inl ⟨m, h1, rfl, ha, h2⟩
    · rw [if_neg ha]
      exact .inr rfl
theorem beg_nat (seed : Int) (cs : List Coin) (nm : List Int) (n : Nat) : (((beg seed cs nm n).toNat : Nat) : Int) = beg seed cs nm n ∧ (beg seed cs nm n).toNat < 2 ^ n := by
  have h := beg_b seed cs nm n
  have e : ((2 ^ n : Nat) : Int) = 2 ^ n := by simp
  constructor <;> omega
theorem shw_hit {ts : List En3} {seed : Int} {cs : List Coin} {nm : List Int} {n d : Nat} {i : Int} (h : lsh ts (beg seed cs nm d).toNat d = .int i) : shw ts seed cs nm (n + 1) d = .tuple [.int i, .int (d : Int)] := by
  show pick _ d _ = _
  rw [h]
  rfl
theorem shw_no {ts : List En3} {seed : Int} {cs : List Coin} {nm : List Int} {n d : Nat} (h : lsh ts (beg seed cs nm d).toNat d = .none) : shw ts seed cs nm (n + 1) d = shw ts seed cs nm n (d + 1) := by
  show pick _ d _ = _
  rw [h]
  rfl
/-! ### enclosures that hold numbers -/
def lv (t : En3) : Int := t.1 * 2 ^ t.2.2.toNat
def hv (t : En3) : Int := t.2.1 * 2 ^ t.2.2.toNat
inductive Le2 : List Int → List Int → Prop
  | nil : Le2 [] []
  | cons {x y : Int} {xs ys : List Int} (h : x ≤ y) (t : Le2 xs ys) : Le2 (x :: xs) (y :: ys)
theorem Le2.sum {xs ys : List Int} (h : Le2 xs ys) : xs.sum ≤ ys.sum := by
  induction h with
  | nil => exact Int.le_refl _
  | cons h _ ih =>
    rw [List.sum_cons, List.sum_cons]
    omega
theorem Le2.take {xs ys : List Int} (h : Le2 xs ys) : ∀ k, Le2 (xs.take k) (ys.take k) := by
  induction h with
  | nil => intro k; rw [List.take_nil]; exact .nil
  | cons h _ ih =>
    intro k
    cases k with
    | zero => exact .nil
    | succ k => exact .cons h (ih k)
theorem Le2.drop {xs ys : List Int} (h : Le2 xs ys) : ∀ k, Le2 (xs.drop k) (ys.drop k) := by
  induction h with
  | nil => intro k; rw [List.drop_nil]; exact .nil
  | cons h t ih =>
    intro k
    cases k with
    | zero => exact .cons h t
    | succ k => exact ih k
theorem Le2.of : ∀ {xs ys : List Int}, xs.length = ys.length → (∀ (k : Nat) (x y : Int), xs[k]? = some x → ys[k]? = some y → x ≤ y) → Le2 xs ys
  | [], [], _, _ => .nil
  | x :: xs, y :: ys, hl, h => .cons (h 0 x y rfl rfl) (Le2.of (by simpa using hl) fun k a b ha hb => h (k + 1) a b (by simpa using ha) (by simpa using hb))
  | [], _ :: _, hl, _ => by simp at hl
  | _ :: _, [], hl, _ => by simp at hl
structure Fit (t : En3) (s : Int) : Prop where
  lo : 0 ≤ t.1
  hi : 0 ≤ t.2.1
  ls : Sm 150 t.1
  hs : Sm 150 t.2.1
  e : 0 ≤ t.2.2 ∧ t.2.2 ≤ 7
  low : lv t ≤ s
  high : s ≤ hv t
  top : hv t < 2 ^ 139
structure Fits (ts : List En3) (ss : List Int) : Prop where
  len : ts.length = ss.length
  fit : ∀ (k : Nat) t s, ts[k]? = some t → ss[k]? = some s → Fit t s
theorem Fits.ok {ts : List En3} {ss : List Int} (h : Fits ts ss) (hl : ss.length ≤ 40) : EsOk ts := by
  refine ⟨by rw [h.len]; exact hl, fun t ht => ?_⟩
  obtain ⟨k, hk⟩ := List.getElem?_of_mem ht
  have hk2 := get_lt hk
  have hk3 : k < ss.length := by rw [← h.len]; exact hk2
  have f := h.fit k t ss[k] hk (List.getElem?_eq_getElem hk3)
  exact ⟨f.lo, f.hi, f.ls.mono (by decide), f.hs.mono (by decide), f.e.1, by have := f.e.2; omega⟩
theorem Fits.lows {ts : List En3} {ss : List Int} (h : Fits ts ss) : Le2 (ts.map lv) ss :=
  Le2.of (by rw [List.length_map]; exact h.len) fun k x y hx hy => by
    obtain ⟨t, ht, rfl⟩ := map_getE hx
    exact (h.fit k t y ht hy).low
theorem Fits.highs {ts : List En3} {ss : List Int} (h : Fits ts ss) : Le2 ss (ts.map hv) :=
  Le2.of (by rw [List.length_map]; exact h.len.symm) fun k x y hx hy => by
    obtain ⟨t, ht, rfl⟩ := map_getE hy
    exact (h.fit k t x ht hx).high
theorem low_take (ts : List En3) (i : Nat) : lowS (ts.take i) = ((ts.map lv).take i).sum := by
  rw [← List.map_take]
  rfl
theorem low_drop (ts : List En3) (i : Nat) : lowS (ts.drop i) = ((ts.map lv).drop i).sum := by
  rw [← List.map_drop]
  rfl
theorem high_take (ts : List En3) (i : Nat) : highS (ts.take i) = ((ts.map hv).take i).sum := by
  rw [← List.map_take]
  rfl
theorem high_drop (ts : List En3) (i : Nat) : highS (ts.drop i) = ((ts.map hv).drop i).sum := by
  rw [← List.map_drop]
  rfl
theorem rest_sum (ss : List Int) (i : Nat) : (ss.drop i).sum = ss.sum - pre ss i := by
  unfold pre
  have e : ss.sum = (ss.take i ++ ss.drop i).sum := by rw [List.take_append_drop]
  rw [List.sum_append] at e
  omega
/-- what is shown is hit, whatever the enclosures hold -/
theorem shown_hit {ts : List En3} {ss : List Int} (h : Fits ts ss) {i c d : Nat} (hi : i < ss.length) (hc : c < 2 ^ d) (ha : aheadB ts i c d = true) (hb : behindB ts i c d = true) : Hit ss (c : Int) (2 ^ d) i := by
  have ha := of_decide_eq_true ha
  have hb := of_decide_eq_true hb
  have ec : ((2 ^ d : Nat) : Int) = 2 ^ d := by simp
  rw [high_take, low_drop] at ha
  rw [high_drop, low_take] at hb
  have a1 := (h.highs.take i).sum
  have a2 := (h.lows.drop i).sum
  have b1 := (h.highs.drop (i + 1)).sum
  have b2 := (h.lows.take (i + 1)).sum
  rw [rest_sum ss] at a2 b1
  have a1 : pre ss i ≤ ((ts.map hv).take i).sum := a1
  have b2 : ((ts.map lv).take (i + 1)).sum ≤ pre ss (i + 1) := b2
  have p1 : (0 : Int) ≤ 2 ^ d - (c : Int) := by omega
  have p2 : (0 : Int) ≤ (c : Int) := by omega
  have p3 : (0 : Int) ≤ 2 ^ d - (c : Int) - 1 := by omega
  have m1 := Int.mul_le_mul_of_nonneg_right a1 p1
  have m2 := Int.mul_le_mul_of_nonneg_left a2 p2
  have m3 := Int.mul_le_mul_of_nonneg_left b1 (show (0 : Int) ≤ (c : Int) + 1 by omega)
  have m4 := Int.mul_le_mul_of_nonneg_left b2 p3
  have e1 : pre ss i * (2 ^ d - (c : Int)) = pre ss i * 2 ^ d - (c : Int) * pre ss i := by rw [Int.mul_sub, Int.mul_comm (pre ss i) (c : Int)]
  have e2 : (c : Int) * (ss.sum - pre ss i) = (c : Int) * ss.sum - (c : Int) * pre ss i := Int.mul_sub ..
  have e3 : ((c : Int) + 1) * (ss.sum - pre ss (i + 1)) = ((c : Int) + 1) * ss.sum - ((c : Int) + 1) * pre ss (i + 1) := Int.mul_sub ..
  have e4 : (2 ^ d - (c : Int) - 1) * pre ss (i + 1) = pre ss (i + 1) * 2 ^ d - ((c : Int) + 1) * pre ss (i + 1) := by
    have : (2 ^ d - (c : Int) - 1) = 2 ^ d - ((c : Int) + 1) := by omega
    rw [this, Int.sub_mul, Int.mul_comm (2 ^ d)]
  refine ⟨hi, ?_, ?_⟩ <;> omega
structure Nar (ts us : List En3) : Prop where
  low : Le2 (us.map lv) (ts.map lv)
  high : Le2 (ts.map hv) (us.map hv)
theorem nar_ahead {ts us : List En3} (h : Nar ts us) {i c d : Nat} (hc : c < 2 ^ d) (ha : aheadB us i c d = true) : aheadB ts i c d = true := by
  have ha := of_decide_eq_true ha
  refine decide_eq_true ?_
  have ec : ((2 ^ d : Nat) : Int) = 2 ^ d := by simp
  rw [high_take, low_drop] at ha ⊢
  have m1 := Int.mul_le_mul_of_nonneg_right (h.high.take i).sum (show (0 : Int) ≤ 2 ^ d - (c : Int) by omega)
  have m2 := Int.mul_le_mul_of_nonneg_left (h.low.drop i).sum (show (0 : Int) ≤ (c : Int) by omega)
  omega
theorem nar_behind {ts us : List En3} (h : Nar ts us) {i c d : Nat} (hc : c < 2 ^ d) (ha : behindB us i c d = true) : behindB ts i c d = true := by
  have ha := of_decide_eq_true ha
  refine decide_eq_true ?_
  have ec : ((2 ^ d : Nat) : Int) = 2 ^ d := by simp
  rw [high_drop, low_take] at ha ⊢
  have m1 := Int.mul_le_mul_of_nonneg_left (h.high.drop (i + 1)).sum (show (0 : Int) ≤ (c : Int) + 1 by omega)
  have m2 := Int.mul_le_mul_of_nonneg_left (h.low.take (i + 1)).sum (show (0 : Int) ≤ 2 ^ d - (c : Int) - 1 by omega)
  omega
def exactT (ss : List Int) : List En3 := ss.map fun s => (s, s, 0)
theorem exact_v (ss : List Int) : (exactT ss).map lv = ss ∧ (exactT ss).map hv = ss := by
  unfold exactT
  constructor
  · rw [List.map_map]
    refine (List.map_congr_left fun s _ => ?_).trans (List.map_id ss)
    show s * 2 ^ 0 = s
    omega
  · rw [List.map_map]
    refine (List.map_congr_left fun s _ => ?_).trans (List.map_id ss)
    show s * 2 ^ 0 = s
    omega
theorem exact_hit {ss : List Int} {i c d : Nat} (hi : i < ss.length) (h : Hit ss (c : Int) (2 ^ d) i) : aheadB (exactT ss) i c d = true ∧ behindB (exactT ss) i c d = true := by
  obtain ⟨_, h1, h2⟩ := h
  obtain ⟨x1, x2⟩ := exact_v ss
  have e1 : pre ss i * (2 ^ d - (c : Int)) = pre ss i * 2 ^ d - (c : Int) * pre ss i := by rw [Int.mul_sub, Int.mul_comm (pre ss i) (c : Int)]
  have e2 : (c : Int) * (ss.sum - pre ss i) = (c : Int) * ss.sum - (c : Int) * pre ss i := Int.mul_sub ..
  have e3 : ((c : Int) + 1) * (ss.sum - pre ss (i + 1)) = ((c : Int) + 1) * ss.sum - ((c : Int) + 1) * pre ss (i + 1) := Int.mul_sub ..
  have e4 : (2 ^ d - (c : Int) - 1) * pre ss (i + 1) = pre ss (i + 1) * 2 ^ d - ((c : Int) + 1) * pre ss (i + 1) := by
    have : (2 ^ d - (c : Int) - 1) = 2 ^ d - ((c : Int) + 1) := by omega
    rw [this, Int.sub_mul, Int.mul_comm (2 ^ d)]
  constructor
  · refine decide_eq_true ?_
    rw [high_take, low_drop, x1, x2, rest_sum]
    show pre ss i * _ ≤ _
    omega
  · refine decide_eq_true ?_
    rw [high_drop, low_take, x1, x2, rest_sum]
    show _ ≤ _ * pre ss (i + 1)
    omega
theorem hit_dec {ss : List Int} (hs : Shs ss) {c d i : Nat} : PyData.eqv (mb ss (c : Int) (2 ^ d)) (.int (i : Int)) = true ↔ Hit ss (c : Int) (2 ^ d) i := by
  rcases mb_cases (c := (c : Int)) (p := 2 ^ d) hs (two_pos d) with ⟨j, hj, e⟩ | ⟨hn, e⟩
  · rw [e]
    constructor
    · intro h
      have : (j : Int) = (i : Int) := of_decide_eq_true (show decide ((j : Int) = (i : Int)) = true from h)
      have : j = i := by omega
      rw [← this]
      exact hj
    · intro h
      rw [hit_uniq hs (two_pos d) hj h]
      exact decide_eq_true rfl
  · rw [e]
    constructor
    · intro h
      exact nomatch h
    · intro h
      exact absurd h (hn i)
theorem exact_shown {ss : List Int} (h0 : ∀ s ∈ ss, 0 ≤ s) {c d i : Nat} (hf : Fits (exactT ss) ss) (hi : i < ss.length) (hc : c < 2 ^ d) : (aheadB (exactT ss) i c d && behindB (exactT ss) i c d) = true ↔ Hit ss (c : Int) (2 ^ d) i := by
  constructor
  · intro h
    rw [Bool.and_eq_true] at h
    exact shown_hit hf hi hc h.1 h.2
  · intro h
    obtain ⟨a, b⟩ := exact_hit hi h
    rw [a, b]
    rfl
/-- both that go on make the same -/
theorem go_on {ss : List Int} {c p : Int} (hs : Shs ss) {i : Nat} (h : Hit ss c p i) : Hit ss (2 * c) (2 * p) i ∧ Hit ss (2 * c + 1) (2 * p) i := by
  obtain ⟨h1, h2, h3⟩ := h
  have hT := hs.tot.1
  have e1 : pre ss i * (2 * p) = 2 * (pre ss i * p) := by rw [Int.mul_left_comm]
  have e2 : pre ss (i + 1) * (2 * p) = 2 * (pre ss (i + 1) * p) := by rw [Int.mul_left_comm]
  have e3 : 2 * c * ss.sum = 2 * (c * ss.sum) := Int.mul_assoc ..
  have e4 : (c + 1) * ss.sum = c * ss.sum + ss.sum := by rw [Int.add_mul, Int.one_mul]
  have e5 : (2 * c + 1) * ss.sum = 2 * (c * ss.sum) + ss.sum := by rw [Int.add_mul, Int.one_mul, e3]
  have e6 : (2 * c + 1 + 1) * ss.sum = 2 * (c * ss.sum) + 2 * ss.sum := by rw [Int.add_mul, e5, Int.one_mul]; omega
  rw [e4] at h3
  refine ⟨⟨h1, ?_, ?_⟩, h1, ?_, ?_⟩
  · rw [e1, e3]
    omega
  · rw [e2, e5]
    omega
  · rw [e1, e5]
    omega
  · rw [e2, e6]
    omega
/-- going on keeps what is made -/
theorem mb_on {ss : List Int} (hs : Shs ss) {seed : Int} {cs : List Coin} {nm : List Int} {i : Nat} : ∀ (k d : Nat), Hit ss (beg seed cs nm d) (2 ^ d) i → Hit ss (beg seed cs nm (d + k)) (2 ^ (d + k)) i
  | 0, d, h => h
  | k + 1, d, h => by
    have ih := mb_on hs k d h
    obtain ⟨g1, g2⟩ := go_on hs ih
    have e : (2 : Int) ^ (d + (k + 1)) = 2 * 2 ^ (d + k) := by rw [← Nat.add_assoc, Int.pow_succ, Int.mul_comm]
    rw [e]
    show Hit ss (2 * beg seed cs nm (d + k) + (if coinB seed cs nm (d + k : Nat) = true then 1 else 0)) _ i
    split
    · exact g2
    · rw [Int.add_zero]
      exact g1
/-- what shown_within finds, chosen makes -/
theorem chs_last {ss : List Int} (hs : Shs ss) {seed : Int} {cs : List Coin} {nm : List Int} {i : Nat} : ∀ (m d : Nat), chs ss seed cs nm (m + 1) d = .tuple [.int (i : Int), .int ((d + m : Nat) : Int)] → Hit ss (beg seed cs nm (d + m)) (2 ^ (d + m)) i
  | 0, d, h => by
    rcases mb_cases (c := beg seed cs nm d) (p := 2 ^ d) hs (two_pos d) with ⟨j, hj, e⟩ | ⟨_, e⟩
    · rw [chs_hit e] at h
      injection h with h
      injection h with h1 _
      have q1 : (j : Int) = i := PyData.int.inj h1
      have q2 : j = i := by omega
      subst q2
      exact hj
    · rw [chs_no e] at h
      exact nomatch h
  | m + 1, d, h => by
    rcases mb_cases (c := beg seed cs nm d) (p := 2 ^ d) hs (two_pos d) with ⟨j, hj, e⟩ | ⟨_, e⟩
    · rw [chs_hit e] at h
      injection h with h
      injection h with _ h2
      injection h2 with h2 _
      have := PyData.int.inj h2
      omega
    · rw [chs_no e] at h
      have ed : d + (m + 1) = d + 1 + m := by omega
      rw [ed] at h ⊢
      exact chs_last hs m (d + 1) h
theorem shw_one {ss : List Int} (hs : Shs ss) {ts : List En3} (hf : Fits ts ss) {seed : Int} {cs : List Coin} {nm : List Int} : ∀ (n d0 : Nat), shw ts seed cs nm n d0 = .none ∨ ∃ i m d1 : Nat, i < ss.length ∧ m < n ∧
    shw ts seed cs nm n d0 = .tuple [.int (i : Int), .int ((d0 + m : Nat) : Int)] ∧ chs ss seed cs nm n d0 = .tuple [.int (i : Int), .int ((d0 + d1 : Nat) : Int)] ∧ d1 ≤ m
  | 0, d0 => .inl rfl
  | n + 1, d0 => by
    obtain ⟨b1, b2⟩ := beg_nat seed cs nm d0
    rcases lsh_cases ts (beg seed cs nm d0).toNat d0 with ⟨i, hi, e, ha, hb⟩ | e
    · have hi : i < ss.length := by rw [← hf.len]; exact hi
      have h := shown_hit hf hi b2 ha hb
      rw [b1] at h
      exact .inr ⟨i, 0, 0, hi, by omega, shw_hit e, chs_hit (mb_hit hs (two_pos d0) h), Nat.le_refl _⟩
    · rcases shw_one hs hf (seed := seed) (cs := cs) (nm := nm) n (d0 + 1) with h | ⟨i, m, d1, h1, h2, h3, h4, h5⟩
      · exact .inl ((shw_no e).trans h)
      · refine .inr ?_
        have ed : ∀ m, d0 + 1 + m = d0 + (m + 1) := fun m => by omega
        rcases mb_cases (c := beg seed cs nm d0) (p := 2 ^ d0) hs (two_pos d0) with ⟨j, hj, e2⟩ | ⟨_, e2⟩
        · have h4' := h4
          refine ⟨i, m + 1, 0, h1, by omega, ?_, ?_, by omega⟩
          · rw [shw_no e, h3, ed]
          · have k1 := mb_on hs (d1 + 1) d0 hj
            have k2 : Hit ss (beg seed cs nm (d0 + 1 + d1)) (2 ^ (d0 + 1 + d1)) i := by
              rcases chs_cases (seed := seed) (cs := cs) (nm := nm) hs n (d0 + 1) with z | ⟨a, q, _, _, z1, z2, z3⟩
              · rw [z] at h4
                exact nomatch h4
              · rw [z1] at h4
                injection h4 with h4
                injection h4 with h6 h7
                injection h7 with h7 _
                have q1 : (a : Int) = i := PyData.int.inj h6
                have q2 : ((d0 + 1 + q : Nat) : Int) = ((d0 + 1 + d1 : Nat) : Int) := PyData.int.inj h7
                have q3 : q = d1 := by omega
                have q4 : a = i := by omega
                subst q3
                subst q4
                exact chs_last hs q (d0 + 1) z2
            have e3 : d0 + (d1 + 1) = d0 + 1 + d1 := by omega
            rw [e3] at k1
            have := hit_uniq hs (two_pos _) k1 k2
            rw [chs_hit e2, this]
            rfl
        · refine ⟨i, m + 1, d1 + 1, h1, by omega, ?_, ?_, by omega⟩
          · rw [shw_no e, h3, ed]
          · rw [chs_no e2, h4, ed]
theorem lsh_exact {ss : List Int} (hs : Shs ss) (hf : Fits (exactT ss) ss) {c d : Nat} (hc : c < 2 ^ d) : lsh (exactT ss) c d = mb ss (c : Int) (2 ^ d) := by
  have el : (exactT ss).length = ss.length := List.length_map ..
  rcases mb_cases (c := (c : Int)) (p := 2 ^ d) hs (two_pos d) with ⟨i, hi, e⟩ | ⟨hn, e⟩
  · obtain ⟨a, b⟩ := exact_hit hi.1 hi
    rw [e, lsh_at (by rw [el]; exact hi.1) b, if_pos a]
    intro j hj
    cases hb : behindB (exactT ss) j c d with
    | false => rfl
    | true =>
      have hb := of_decide_eq_true hb
      obtain ⟨x1, x2⟩ := exact_v ss
      rw [high_drop, low_take, x1, x2, rest_sum ss] at hb
      have hb : ((c : Int) + 1) * (ss.sum - pre ss (j + 1)) ≤ (2 ^ d - (c : Int) - 1) * pre ss (j + 1) := hb
      have e3 : ((c : Int) + 1) * (ss.sum - pre ss (j + 1)) = ((c : Int) + 1) * ss.sum - ((c : Int) + 1) * pre ss (j + 1) := Int.mul_sub ..
      have e4 : (2 ^ d - (c : Int) - 1) * pre ss (j + 1) = pre ss (j + 1) * 2 ^ d - ((c : Int) + 1) * pre ss (j + 1) := by
        have : (2 ^ d - (c : Int) - 1) = 2 ^ d - ((c : Int) + 1) := by omega
        rw [this, Int.sub_mul, Int.mul_comm (2 ^ d)]
      have m1 := Int.mul_le_mul_of_nonneg_right (hs.mono (show j + 1 ≤ i by omega) (Nat.le_of_lt hi.1)) (Int.le_of_lt (two_pos d))
      have h2 := hi.2.1
      have e5 : ((c : Int) + 1) * ss.sum = (c : Int) * ss.sum + ss.sum := by rw [Int.add_mul, Int.one_mul]
      have := hs.tot.1
      omega
  · rw [e]
    rcases lsh_cases (exactT ss) c d with ⟨m, hm, _, ha, hb⟩ | h
    · exact absurd (shown_hit hf (by rw [← el]; exact hm) hc ha hb) (hn m)
    · exact h
theorem shw_exact {ss : List Int} (hs : Shs ss) (hf : Fits (exactT ss) ss) {seed : Int} {cs : List Coin} {nm : List Int} : ∀ n d : Nat, shw (exactT ss) seed cs nm n d = chs ss seed cs nm n d
  | 0, _ => rfl
  | n + 1, d => by
    obtain ⟨b1, b2⟩ := beg_nat seed cs nm d
    show pick (lsh (exactT ss) (beg seed cs nm d).toNat d) d (shw (exactT ss) seed cs nm n (d + 1)) = pick (mb ss (beg seed cs nm d) (2 ^ d)) d (chs ss seed cs nm n (d + 1))
    rw [lsh_exact hs hf b2, b1, shw_exact hs hf n (d + 1)]
theorem exact_fits {ss : List Int} (hs : Shs ss) (h9 : ∀ s ∈ ss, Sm 120 s) : Fits (exactT ss) ss := by
  refine ⟨List.length_map .., fun k t s ht hk => ?_⟩
  obtain ⟨s2, h2, rfl⟩ := map_getE ht
  rw [hk] at h2
  cases h2
  obtain ⟨a, b⟩ := hs.at hk
  have e : s * 2 ^ (0 : Int).toNat = s := by
    show s * 2 ^ 0 = s
    omega
  exact ⟨by show 0 ≤ s; omega, by show 0 ≤ s; omega, b.mono (by decide), b.mono (by decide), ⟨by show (0 : Int) ≤ 0; decide, by show (0 : Int) ≤ 7; decide⟩, by show s * 2 ^ (0 : Int).toNat ≤ s; omega, by show s ≤ s * 2 ^ (0 : Int).toNat; omega, by
    show s * 2 ^ (0 : Int).toNat < 2 ^ 139
    have h : s.natAbs < 2 ^ 120 := h9 s (List.mem_of_getElem? hk)
    have e2 : (2 : Nat) ^ 120 < 2 ^ 139 := by decide
    have e3 : ((2 ^ 139 : Nat) : Int) = 2 ^ 139 := by simp
    omega⟩
theorem Shs.cut7 {ss : List Int} (h : Shs ss) : Shs (ss.take 7) := by
  refine ⟨?_, ?_, fun s hs => h.pos s (List.mem_of_mem_take hs)⟩
  · rw [List.length_take]
    have := h.ne
    omega
  · rw [List.length_take]
    have := h.few
    omega
/-- floors and ceilings -/
theorem fl_le {s p : Int} (hp : 0 < p) : s.fdiv p * p ≤ s ∧ s < (s.fdiv p + 1) * p := by
  rw [Int.fdiv_eq_ediv_of_nonneg _ (Int.le_of_lt hp)]
  exact ⟨Int.ediv_mul_le s (by omega), Int.lt_ediv_add_one_mul_self s hp⟩
theorem cl_ge {s p : Int} (hp : 0 < p) : s ≤ (s + p - 1).fdiv p * p ∧ (s + p - 1).fdiv p * p ≤ s + p - 1 := by
  obtain ⟨a, b⟩ := fl_le (s := s + p - 1) hp
  rw [Int.add_mul, Int.one_mul] at b
  exact ⟨by omega, a⟩
theorem fl_nn {s p : Int} (hp : 0 < p) (hs : 0 ≤ s) : 0 ≤ s.fdiv p ∧ s.fdiv p ≤ s := by
  rw [Int.fdiv_eq_ediv_of_nonneg _ (Int.le_of_lt hp)]
  exact ⟨Int.ediv_nonneg hs (Int.le_of_lt hp), Int.ediv_le_self _ hs⟩
theorem bg20 {ρ : List Sl} (h : ρ.length = 20 ∧ ρ[1]? = some .bag) : ∃ x0 x2 x3 x4 x5 x6 x7 x8 x9 x10 x11 x12 x13 x14 x15 x16 x17 x18 x19, ρ = [x0, .bag, x2, x3, x4, x5, x6, x7, x8, x9, x10, x11, x12, x13, x14, x15, x16, x17, x18, x19] := by
  obtain ⟨h0, hb⟩ := h
  obtain ⟨x0, r0, rfl, h1⟩ := len_succ h0
  obtain ⟨x1, r1, rfl, h2⟩ := len_succ h1
  obtain ⟨x2, r2, rfl, h3⟩ := len_succ h2
  obtain ⟨x3, r3, rfl, h4⟩ := len_succ h3
  obtain ⟨x4, r4, rfl, h5⟩ := len_succ h4
  obtain ⟨x5, r5, rfl, h6⟩ := len_succ h5
  obtain ⟨x6, r6, rfl, h7⟩ := len_succ h6
  obtain ⟨x7, r7, rfl, h8⟩ := len_succ h7
  obtain ⟨x8, r8, rfl, h9⟩ := len_succ h8
  obtain ⟨x9, r9, rfl, h10⟩ := len_succ h9
  obtain ⟨x10, r10, rfl, h11⟩ := len_succ h10
  obtain ⟨x11, r11, rfl, h12⟩ := len_succ h11
  obtain ⟨x12, r12, rfl, h13⟩ := len_succ h12
  obtain ⟨x13, r13, rfl, h14⟩ := len_succ h13
  obtain ⟨x14, r14, rfl, h15⟩ := len_succ h14
  obtain ⟨x15, r15, rfl, h16⟩ := len_succ h15
  obtain ⟨x16, r16, rfl, h17⟩ := len_succ h16
  obtain ⟨x17, r17, rfl, h18⟩ := len_succ h17
  obtain ⟨x18, r18, rfl, h19⟩ := len_succ h18
  obtain ⟨x19, r19, rfl, h20⟩ := len_succ h19
  obtain rfl : r19 = [] := List.length_eq_zero_iff.mp h20
  cases hb
  exact ⟨_, _, _, _, _, _, _, _, _, _, _, _, _, _, _, _, _, _, _, rfl⟩
theorem top_sm {t : En3} {s h : Int} (f : Fit t s) (h0 : 0 ≤ h) (h1 : h ≤ hv t) : Sm 140 h := by
  have := f.top
  have e3 : ((2 ^ 140 : Nat) : Int) = 2 ^ 140 := by simp
  have e4 : (2 : Int) ^ 139 < 2 ^ 140 := by decide
  unfold Sm
  omega
theorem fits_snoc {ts : List En3} {ss : List Int} {k : Nat} {t : En3} {s : Int} (h : Fits ts (ss.take k)) (hk : ss[k]? = some s) (f : Fit t s) : Fits (ts ++ [t]) (ss.take (k + 1)) := by
  have hl := get_lt hk
  have l1 : ts.length = k := by rw [h.len, List.length_take]; omega
  refine ⟨by rw [List.length_append, List.length_take, l1]; show k + 1 = _; omega, fun j x y hx hy => ?_⟩
  have hj := get_lt hx
  rw [List.length_append, l1] at hj
  have hj : j < k + 1 := hj
  rw [List.getElem?_take] at hy
  rw [if_pos hj] at hy
  by_cases e : j = k
  · subst e
    rw [hk] at hy
    cases hy
    rw [List.getElem?_append_right (by omega), l1, Nat.sub_self] at hx
    cases hx
    exact f
  · rw [List.getElem?_append_left (by omega)] at hx
    exact h.fit j x y hx (by rw [List.getElem?_take, if_pos (by omega)]; exact hy)
theorem Le2.snoc {xs ys : List Int} {x y : Int} (h : Le2 xs ys) (hxy : x ≤ y) : Le2 (xs ++ [x]) (ys ++ [y]) := by
  induction h with
  | nil => exact .cons hxy .nil
  | cons h _ ih => exact .cons h ih
theorem nar_snoc {ts us : List En3} {k : Nat} {t u : En3} (h : Nar ts (us.take k)) (hk : us[k]? = some u) (h1 : lv u ≤ lv t) (h2 : hv t ≤ hv u) : Nar (ts ++ [t]) (us.take (k + 1)) := by
  obtain ⟨a, b⟩ := h
  rw [List.take_succ, hk]
  refine ⟨?_, ?_⟩
  · rw [List.map_append, List.map_append]
    exact a.snoc h1
  · rw [List.map_append, List.map_append]
    exact b.snoc h2
theorem Le2.refl : ∀ xs : List Int, Le2 xs xs
  | [] => .nil
  | x :: xs => .cons (Int.le_refl x) (Le2.refl xs)
theorem nar_exact {ts : List En3} {ss : List Int} (h : Fits ts ss) : Nar (exactT ss) ts := by
  obtain ⟨x1, x2⟩ := exact_v ss
  exact ⟨by rw [x1]; exact h.lows, by rw [x2]; exact h.highs⟩
theorem cut7 (ds : List PyData) : DL.cutD ds none (some 7) = ds.take 7 := by
  have e1 := HT.sIx_none ds.length 0
  have e2 := HT.sIx_nat ds.length ds.length 7
  unfold DL.cutD
  have e3 : ((7 : Nat) : Int) = (7 : Int) := rfl
  rw [e3] at e2
  rw [e1, e2, List.drop_zero, Nat.sub_zero]
  rw [List.take_eq_take_iff]
  omega
theorem mb_shaped {ss : List Int} (hs : Shs ss) {c : Int} {d : Nat} : SeqAt.shaped (mb ss c (2 ^ d)) = true := by
  rcases mb_cases (c := c) (p := 2 ^ d) hs (two_pos d) with ⟨j, _, e⟩ | ⟨_, e⟩ <;> rw [e] <;> rfl
open TL
local macro_rules | `(tactic| walk_at "dl") => `(tactic| first
  | with_reducible refine s_seq ?_
  | with_reducible refine s_if (t_test ?_)
  | with_reducible refine s_if ?_
  | with_reducible refine s_ret ?_
  | with_reducible refine s_par ?_
  | with_reducible refine s_par3 ?_
  | ((with_reducible show S _ (tAsg _ (gTup _ _ _)) _ _); refine s_set2 rfl ?_)
  | with_reducible refine s_set ?_
  | with_reducible refine s_next ?_
  | ((with_reducible show DL.E _ (tOp (rIx _) (tVar _) (tC (V.int 3))) _ _); refine e_bagL rfl ?_)
  | ((with_reducible show DL.E _ (tOp (rIx _) (tVar _) (tC (V.int _))) _ _); refine e_bagI rfl (by decide) (fun c => ?_))
  | ((with_reducible show S _ (tAsg _ (gSub _ _ _)) _ _); refine s_bagSet rfl (by decide) ?_)
  | ((with_reducible show S _ (tAugS _ _ _ _ _ _) _ _); refine s_bagAug rfl (by decide) ?_)
  | ((with_reducible show DL.E _ (tVar _) _ _); refine e_var rfl (fun h => nomatch h) ?_)
  | with_reducible refine e_int ?_
  | with_reducible refine e_str ?_
  | with_reducible refine e_bl ?_
  | with_reducible refine e_non ?_
  | with_reducible refine e_rep2 ?_
  | with_reducible refine e_op op2_isN ?_
  | with_reducible refine e_op op2_notN ?_
  | with_reducible refine e_op (op2_or op2_I0 op2_addS) ?_
  | with_reducible refine e_op (op2_or op2_I op2_mulS) ?_
  | with_reducible refine e_op op2_I0 ?_
  | with_reducible refine e_op op2_B0 ?_
  | with_reducible refine e_op op2_I ?_
  | with_reducible refine e_op op2_ix ?_
  | with_reducible refine e_op (op2_or op2_eqSt op2_eqD) ?_
  | with_reducible refine e_op (op2_or op2_neSt op2_neD) ?_
  | with_reducible refine e_neg ?_
  | with_reducible refine e_op op2_catT ?_
  | with_reducible refine e_op op2_notIn ?_
  | with_reducible refine e_op op2_oddI ?_
  | with_reducible refine e_cb cl_sortC ?_
  | with_reducible refine e_cb cl_min2 ?_
  | ((with_reducible show (0 : Int) ≤ _ ∧ _); refine And.intro (by decide) ?_)
  | with_reducible refine e_chain ?_
  | with_reducible refine e_tup ?_
  | with_reducible refine e_lst ?_
  | with_reducible refine a_cons ?_
  | with_reducible refine a_nil ?_
  | with_reducible refine e_call rfl ?_
  | with_reducible refine e_cb cl_lenQ ?_
  | with_reducible refine e_cb cl_abs ?_
  | with_reducible refine e_cb cl_intB ?_
  | with_reducible refine e_cb cl_max2 ?_
  | with_reducible refine e_cb cl_strI ?_
  | with_reducible refine e_cb cl_gcd ?_
  | with_reducible refine e_cb cl_divmod ?_
  | with_reducible refine e_cb cl_repr ?_
  | with_reducible refine e_cb cl_sumA ?_
  | with_reducible refine e_cb cl_tuple ?_
  | with_reducible refine e_cb cl_list ?_
  | with_reducible refine e_zfill ?_
  | with_reducible refine e_join ?_
  | with_reducible refine e_revL ?_
  | with_reducible refine e_slS ?_
  | with_reducible refine e_slL ?_
  | with_reducible refine e_slA ?_
  | with_reducible refine e_op op2_catL ?_
  | with_reducible refine o_none ?_
  | with_reducible refine o_some ?_
  | with_reducible refine e_if (t_test ?_)
  | with_reducible refine e_if ?_
  | with_reducible refine e_andV ?_
  | with_reducible refine t_test ?_
  | with_reducible refine t_B ?_
  | with_reducible refine t_not ?_
  | with_reducible refine t_and ?_
  | with_reducible refine t_or ?_
  | ((with_reducible show En.nx _ _); dsimp only [List.set])
  | ((with_reducible show En.rt _ _); dsimp only)
  | ((with_reducible show _ ≤ sizeLine ∧ _); refine And.intro (Nat.le_of_ble_eq_true rfl) ?_)
  | ((with_reducible show List.all _ _ = true ∧ _); refine And.intro rfl ?_)
  | ((with_reducible show SeqAt.shaped _ = true ∧ _); refine And.intro rfl ?_)
  | ((with_reducible show CPow _ _ ∧ _); refine And.intro ⟨by decide, by decide, by decide⟩ ?_)
  | ((with_reducible show (_ : Int) ≠ _ ∧ _); refine And.intro (by decide) ?_)
  | ((with_reducible show CMulB _ _ ∧ _); refine And.intro (Or.inr (Or.inl ⟨by decide, by decide⟩)) ?_)
  | ((with_reducible show CMulB _ _ ∧ _); refine And.intro (Or.inr (Or.inr ⟨by decide, by decide⟩)) ?_)
  | ((with_reducible show notOwn _ ∧ _); refine And.intro trivial ?_)
  | refine Exists.intro _ (And.intro rfl ?_)
  | refine Exists.intro _ (Exists.intro _ (And.intro rfl ?_))
  | refine Or.inl (Exists.intro _ (Exists.intro _ (And.intro rfl (And.intro rfl ?_))))
  | refine Or.inr (Exists.intro _ (Exists.intro _ (And.intro rfl (And.intro rfl ?_))))
  | refine Exists.intro _ (Exists.intro _ (And.intro rfl (And.intro rfl ?_))))
local macro_rules | `(tactic| walk_at "dx") => `(tactic| ((fail_if_success (with_reducible show DL.E _ (tIf _ _ _) _ _)); (fail_if_success (with_reducible show DL.T _ (tAnd _ _) _ _)); walk_at "dl"))
local macro_rules | `(tactic| walk_at "ds") => `(tactic| ((fail_if_success (with_reducible show S _ (tSeq _ _) _ _)); walk_at "dl"))
section
variable {P : Program} {w : World} {K : PySem.W.Frag} {mg : Str → Option Value} {bs : Heap}
def gs_spring : Gs := fun xs R => xs.length = 3 ∧ ∃ (seed : Int) (nm : List Int) (k : Int), xs = [.dat (.int seed), .dat (nmD nm), .dat (.int k)] ∧ NmOk nm ∧ (0 ≤ k ∧ Sm 204 k) ∧ R (.bool (spr seed nm k))
theorem ok_spring (T : Txt K mg) (nd : bs.NoDigits) : FnG P w K mg bs 1 T.a_spring T.d_spring ["seed", "name", "k"] (spG K gs_spring) := by
  refine fnD T.F_spring sc_spring (fun xs R h => h.1) (fun cd A out s H E hg hr => ⟨_, (pss_cons (ps_asg (pe_ifExp (pt_truK (K := K) rfl (pv 1)) (pe_tup (pa_cons (pe_op op_addG (pe_ix (ix_seqK (K := K) rfl) (pv 1) pe_int (fun _ _ => rfl)) pe_int) (pa_cons (pe_op op_addG (pe_ix (ix_seqK (K := K) rfl) (pv 1) pe_int (fun _ _ => rfl)) pe_int) pa_nil))) (pe_tup (pa_cons pe_int (pa_cons pe_int pa_nil)))) (pg_tup (by rfl) (pgs_cons (pg_name (i := 3) sc_spring.nd rfl (.inl rfl)) (pgs_cons (pg_name (i := 4) sc_spring.nd rfl (.inl rfl)) pgs_nil))))
  (pss_cons (ps_set (i := 5) sc_spring.nd rfl (.inl rfl) (pe_op op_modN (pv 0) (pe_glob (v := .int 2305843009213693951) (by rfl) T.c_PRIME ⟨_, rfl⟩)))
  (pss_cons (ps_for PassesOwn.never rfl (pi_seqK (K := K) rfl (pe_tup (pa_cons (pv 3) (pa_cons (pv 4) (pa_cons (pv 2) (pa_cons pe_int (pa_cons pe_int pa_nil))))))) (pg_name (i := 6) sc_spring.nd rfl (.inl rfl))
  (pss_one (ps_set (i := 5) sc_spring.nd rfl (.inl rfl) (pe_op op_modN (pe_op op_addG (pe_op op_mulG (pe_op op_mulG (pe_op op_addG (pe_op op_addG (pv 5) (pv 6)) pe_int) (pe_op op_addG (pe_op op_addG (pv 5) (pv 6)) pe_int)) (pe_glob (v := .int 48271) (by rfl) T.c_STEEP ⟨_, rfl⟩)) (pe_glob (v := .int 2147483629) (by rfl) T.c_LIFT ⟨_, rfl⟩)) (pe_glob (v := .int 2305843009213693951) (by rfl) T.c_PRIME ⟨_, rfl⟩)))))
  (pss_one (ps_ret (pe_cmpR (op_eqK (K := K) rfl (by exact hr.units)) (pe_op op_odd (pe_op op_shr (pv 5) pe_int) pe_int) pe_int (nomark _))))))), fun H0 own0 bg xs R h => ?_⟩)
  obtain ⟨_, seed, nm, k, rfl, hn, ⟨k0, ks⟩, hR⟩ := h
  change S _ _ [.dat (.int seed), .dat (nmD nm), .dat (.int k), .no, .no, .no, .no] _
  try dsimp only [cxOf]
  repeat walk_at "dx"
  refine DL.E.mono (P := fun x => x = .dat (.tuple [.int (nI nm), .int (nJ nm)])) (e_if (t_tru ?_)) ?_
  · refine e_var rfl (fun h => nomatch h) ⟨nm.map .int, rfl, ?_⟩
    rcases hn.two with rfl | ⟨i, j, rfl⟩
    · refine iteF ?_
      repeat walk_at "dl"
      rfl
    · refine iteT ?_
      repeat walk_at "dl"
      rfl
  rintro x rfl
  refine ⟨_, _, rfl, ?_⟩
  repeat walk_at "dl"
  refine s_forS (DL.E.mono (P := fun x => x = .dat (.tuple ((sList nm k).map .int))) ?_ ?_)
  · repeat walk_at "dl"
    rfl
  rintro x rfl
  refine ⟨_, _, rfl, rfl, fun n ρ => ∃ x6, ρ = [.dat (.int seed), .dat (nmD nm), .dat (.int k), .dat (.int (nI nm)), .dat (.int (nJ nm)), .dat (.int (sAt seed nm k n)), x6], ⟨.no, rfl⟩, ?_, ?_⟩
  · rintro n d ρ' hd ⟨x6, rfl⟩ H1
    obtain ⟨a, ha, rfl⟩ := map_getE hd
    obtain ⟨a0, as⟩ := sList_b hn k0 ks ha
    have s1 : Sm 207 (sAt seed nm k n + a + 1) := ((((sAt_s seed nm k n).mono (by decide : 61 ≤ 205)).add as).add ((show Sm 1 1 by decide).mono (by decide))).mono (by decide)
    try dsimp only [List.set]
    repeat walk_at "dl"
    refine ⟨Sm.mulX s1 s1 (by decide), ?_⟩
    repeat walk_at "dl"
    exact ⟨_, by rw [sAt_succ ha]; rfl⟩
  rintro ρ' ⟨x6, rfl⟩
  repeat walk_at "dl"
  refine ⟨rfl, Int.ediv_nonneg (sAt_b seed nm k _).1 (by decide), ?_⟩
  repeat walk_at "dl"
  exact hR
end
section
variable {P : Program} {w : World} {K : PySem.W.Frag} {mg : Str → Option Value} {bs : Heap}
def gs__coin_by : Gs := fun xs R => xs.length = 4 ∧ ∃ (seed : Int) (cs : List Coin) (nm : List Int) (k : Int), xs = [.dat (tlD (told cs nm)), .dat (.int seed), .dat (nmD nm), .dat (.int k)] ∧ CsOk cs ∧ NmOk nm ∧ (0 ≤ k ∧ Sm 204 k) ∧ R (.bool (coinB seed cs nm k))
theorem ok__coin_by (T : Txt K mg) (nd : bs.NoDigits) : FnG P w K mg bs 2 T.a__coin_by T.d__coin_by ["told", "seed", "name", "k"] (spG K gs__coin_by) := by
  have C_spring := ok_spring (P := P) (w := w) (bs := bs) T nd
  refine fnD T.F__coin_by sc__coin_by (fun xs R h => h.1) (fun cd A out s H E hg hr => ⟨_, (pss_one (ps_ret (pe_ifExp (pt_cmp (pc_din (units1 hr) (pv 3) (pv 0))) (pe_dget (units1 hr) (pv 0) (pv 3) (fun _ _ => rfl)) (pe_callG C_spring hg (hr.mono (by decide)) (by rfl) T.g_spring T.F_spring.kp T.b_spring (pa_cons (pv 1) (pa_cons (pv 2) (pa_cons (pv 3) pa_nil))))))), fun H0 own0 bg xs R h => ?_⟩)
  obtain ⟨_, seed, cs, nm, k, rfl, hcs, hn, hk, hR⟩ := h
  change S _ _ [.dat (tlD (told cs nm)), .dat (.int seed), .dat (nmD nm), .dat (.int k)] _
  try dsimp only [cxOf]
  rw [told_coin hcs] at hR
  repeat walk_at "dx"
  refine e_if (t_B (e_din ?_))
  repeat walk_at "dl"
  cases e : lukT (told cs nm) k with
  | some t =>
    rw [e] at hR
    refine iteT ?_
    refine e_dget ?_
    repeat walk_at "dl"
    refine ⟨_, _, t, rfl, rfl, e, ?_⟩
    repeat walk_at "dl"
    exact hR
  | none =>
    rw [e] at hR
    refine iteF ?_
    repeat walk_at "dl"
    refine ⟨rfl, seed, nm, k, rfl, hn, hk, ?_⟩
    repeat walk_at "dl"
    exact hR
end
section
variable {P : Program} {w : World} {K : PySem.W.Frag} {mg : Str → Option Value} {bs : Heap}
def gs__told_of : Gs := fun xs R => xs.length = 2 ∧ ∃ (seed : Int) (cs : List Coin) (nm : List Int), xs = [.dat (coinsD seed cs), .dat (nmD nm)] ∧ CsOk cs ∧ R (tlD (told cs nm))
theorem ok__told_of (T : Txt K mg) (nd : bs.NoDigits) : FnG P w K mg bs 1 T.a__told_of T.d__told_of ["coins", "name"] (spG K gs__told_of) := by
  refine fnD T.F__told_of sc__told_of (fun xs R h => h.1) (fun cd A out s H E hg hr => ⟨_, (pss_one (ps_ret (pe_dc (own := [("other", 2), ("k", 3), ("truth", 4)]) (g := gTup K 3 (gCons (gName 2) (gCons (gName 3) (gCons (gName 4) gNil)))) (by rfl) sc__told_of.nd (pi_seqK (K := K) rfl (pe_ix (ix_seqK (K := K) rfl) (pv 0) pe_int (fun _ _ => rfl))) (blkOk_by (own := [("other", 2), ("k", 3), ("truth", 4)]) (N := ["coins", "name", "other", "k", "truth"]) (sc := defScope s__told_of) (by decide +kernel)) (fun _ _ _ _ _ => pg_tupK (K := K) rfl (by rfl) (pgs_cons (pg_name (i := 2) sc__told_of.nd rfl (Or.inl rfl)) (pgs_cons (pg_name (i := 3) sc__told_of.nd rfl (Or.inl rfl)) (pgs_cons (pg_name (i := 4) sc__told_of.nd rfl (Or.inl rfl)) pgs_nil)))) (fun _ _ _ _ _ => pts_one (pt_cmpR (op_eqK (K := K) rfl (by exact hr.units)) (pv 2) (pv 1) (nomark _))) (fun _ _ _ _ _ => (pv 3)) (fun _ _ _ _ _ => (pv 4))))), fun H0 own0 bg xs R h => ?_⟩)
  obtain ⟨_, seed, cs, nm, rfl, hcs, hR⟩ := h
  change S _ _ [.dat (coinsD seed cs), .dat (nmD nm), .no, .no, .no] _
  try dsimp only [cxOf]
  repeat walk_at "dl"
  refine e_dcC rfl (fun c => decide (c.1 = nm)) (DL.E.mono (P := fun x => x = .dat (.tuple (cs.map cD))) ?_ ?_)
  · repeat walk_at "dl"
    rfl
  rintro x rfl
  refine ⟨_, cs, rfl, rfl, Nat.le_trans hcs.few (Nat.le_of_ble_eq_true rfl), fun c hc => ?_, ?_⟩
  · dsimp only [DL.clr, List.set]
    repeat walk_at "dl"
    refine ⟨nm_shaped _, nm_shaped _, ?_⟩
    rw [eqv_nm]
    refine ⟨_, rfl, rfl, fun _ => ?_⟩
    repeat walk_at "dl"
    refine ⟨rfl, ?_⟩
    repeat walk_at "dl"
    rfl
  · repeat walk_at "dl"
    exact hR
end
section
variable {P : Program} {w : World} {K : PySem.W.Frag} {mg : Str → Option Value} {bs : Heap}
def gs_coin : Gs := fun xs R => xs.length = 3 ∧ ∃ (seed : Int) (cs : List Coin) (nm : List Int) (k : Int), xs = [.dat (coinsD seed cs), .dat (nmD nm), .dat (.int k)] ∧ CsOk cs ∧ NmOk nm ∧ (0 ≤ k ∧ Sm 204 k) ∧ R (.bool (coinB seed cs nm k))
theorem ok_coin (T : Txt K mg) (nd : bs.NoDigits) : FnG P w K mg bs 3 T.a_coin T.d_coin ["coins", "name", "k"] (spG K gs_coin) := by
  have C__coin_by := ok__coin_by (P := P) (w := w) (bs := bs) T nd
  have C__told_of := ok__told_of (P := P) (w := w) (bs := bs) T nd
  refine fnD T.F_coin sc_coin (fun xs R h => h.1) (fun cd A out s H E hg hr => ⟨_, (pss_one (ps_ret (pe_callG C__coin_by hg (hr.mono (by decide)) (by rfl) T.g__coin_by T.F__coin_by.kp T.b__coin_by (pa_cons (pe_callG C__told_of hg (hr.mono (by decide)) (by rfl) T.g__told_of T.F__told_of.kp T.b__told_of (pa_cons (pv 0) (pa_cons (pv 1) pa_nil))) (pa_cons (pe_ix (ix_seqK (K := K) rfl) (pv 0) pe_int (fun _ _ => rfl)) (pa_cons (pv 1) (pa_cons (pv 2) pa_nil))))))), fun H0 own0 bg xs R h => ?_⟩)
  obtain ⟨_, seed, cs, nm, k, rfl, hcs, hn, hk, hR⟩ := h
  change S _ _ [.dat (coinsD seed cs), .dat (nmD nm), .dat (.int k)] _
  try dsimp only [cxOf]
  repeat walk_at "dl"
  refine ⟨rfl, seed, cs, nm, rfl, hcs, ?_⟩
  repeat walk_at "dl"
  refine ⟨rfl, seed, cs, nm, k, rfl, hcs, hn, hk, ?_⟩
  repeat walk_at "dl"
  exact hR
end
section
variable {P : Program} {w : World} {K : PySem.W.Frag} {mg : Str → Option Value} {bs : Heap}
def gs__by_powers : Gs := fun xs R => xs.length = 1 ∧ ∃ (y : PyData) (ps : Il), xs = [.dat y] ∧ seqD (.dat y) = some (ps.map pD) ∧ ps.length ≤ 1000 ∧ R (ilD (sumsBy ps))
theorem ok__by_powers (T : Txt K mg) (nd : bs.NoDigits) : FnG P w K mg bs 1 T.a__by_powers T.d__by_powers ["pile"] (spG K gs__by_powers) := by
  refine fnD T.F__by_powers sc__by_powers (fun xs R h => h.1) (fun cd A out s H E hg hr => ⟨_, (pss_cons (ps_set (i := 1) sc__by_powers.nd rfl (.inl rfl) pe_dnewK)
  (pss_cons (ps_for PassesOwn.never rfl (pi_seqK (K := K) rfl (pv 0)) (pg_tup (by rfl) (pgs_cons (pg_name (i := 2) sc__by_powers.nd rfl (.inl rfl)) (pgs_cons (pg_name (i := 3) sc__by_powers.nd rfl (.inl rfl)) pgs_nil)))
  (pss_one (ps_dput (units1 hr) (pv 1) (pv 3) (pe_op op_addG (pe_dget2 (units1 hr) (pv 1) (pv 3) pe_int ⟨by rfl, by rfl, by rfl, by rfl⟩) (pv 2)) (by rfl))))
  (pss_one (ps_ret (pv 1))))), fun H0 own0 bg xs R h => ?_⟩)
  obtain ⟨_, y, ps, rfl, hy, hl, hR⟩ := h
  change S _ _ [.dat y, .no, .no, .no] _
  try dsimp only [cxOf]
  refine s_sums rfl (by decide) (by decide) (by decide) (by simp) (by simp) (by simp) ?_
  dsimp only [DL.clr, List.set]
  exact e_var rfl (fun h => nomatch h) ⟨y, ps, rfl, hy, Nat.le_trans hl (Nat.le_of_ble_eq_true rfl), hR⟩
end
section
variable {P : Program} {w : World} {K : PySem.W.Frag} {mg : Str → Option Value} {bs : Heap}
def gs_compared : Gs := fun xs R => xs.length = 2 ∧ ∃ (y z : PyData) (ps qs : Il), xs = [.dat y, .dat z] ∧ seqD (.dat y) = some (ps.map pD) ∧ seqD (.dat z) = some (qs.map pD) ∧ Pile ps ∧ Pile qs ∧ R (.int (sg (vP ps - vP qs)))
theorem ok_compared (T : Txt K mg) (nd : bs.NoDigits) : FnG P w K mg bs 2 T.a_compared T.d_compared ["one", "other"] (spG K gs_compared) := by
  have C__by_powers := ok__by_powers (P := P) (w := w) (bs := bs) T nd
  refine fnD T.F_compared sc_compared (fun xs R h => h.1) (fun cd A out s H E hg hr => ⟨_, (pss_cons (ps_set (i := 2) sc_compared.nd rfl (.inl rfl) (pe_callG C__by_powers hg (hr.mono (by decide)) (by rfl) T.g__by_powers T.F__by_powers.kp T.b__by_powers (pa_cons (pe_op op_catL (pe_lc (own := [("c", 8), ("e", 6)]) (g := gTup K 2 (gCons (gName 8) (gCons (gName 6) gNil))) (tt := tYes) (by rfl) sc_compared.nd (pi_seqK (K := K) rfl (pv 0)) (blkOk_by (own := [("c", 8), ("e", 6)]) (N := ["one", "other", "apart", "left", "met", "at", "e", "_", "c"]) (sc := defScope s_compared) (by decide +kernel)) (fun _ _ _ _ _ => pg_tupK (K := K) rfl (by rfl) (pgs_cons (pg_name (i := 8) sc_compared.nd rfl (Or.inl rfl)) (pgs_cons (pg_name (i := 6) sc_compared.nd rfl (Or.inl rfl)) pgs_nil))) (fun _ _ _ _ _ => pts_nil) (fun _ _ _ _ _ => (pe_tup (pa_cons (pv 8) (pa_cons (pv 6) pa_nil))))) (pe_lc (own := [("c", 8), ("e", 6)]) (g := gTup K 2 (gCons (gName 8) (gCons (gName 6) gNil))) (tt := tYes) (by rfl) sc_compared.nd (pi_seqK (K := K) rfl (pv 1)) (blkOk_by (own := [("c", 8), ("e", 6)]) (N := ["one", "other", "apart", "left", "met", "at", "e", "_", "c"]) (sc := defScope s_compared) (by decide +kernel)) (fun _ _ _ _ _ => pg_tupK (K := K) rfl (by rfl) (pgs_cons (pg_name (i := 8) sc_compared.nd rfl (Or.inl rfl)) (pgs_cons (pg_name (i := 6) sc_compared.nd rfl (Or.inl rfl)) pgs_nil))) (fun _ _ _ _ _ => pts_nil) (fun _ _ _ _ _ => (pe_tup (pa_cons (pe_un un_neg (pv 8)) (pa_cons (pv 6) pa_nil)))))) pa_nil)))
  (pss_cons (ps_set (i := 3) sc_compared.nd rfl (.inl rfl) (pe_callB (call_sumK (K := K) rfl rfl) (by rfl) T.z_sum (by decide +kernel) (pa_cons (pe_may (pe_lc (own := [("_", 7), ("c", 8)]) (g := gTup K 2 (gCons (gName 7) (gCons (gName 8) gNil))) (tt := tYes) (by rfl) sc_compared.nd (pi_items (pv 2)) (blkOk_by (own := [("_", 7), ("c", 8)]) (N := ["one", "other", "apart", "left", "met", "at", "e", "_", "c"]) (sc := defScope s_compared) (by decide +kernel)) (fun _ _ _ _ _ => pg_tupK (K := K) rfl (by rfl) (pgs_cons (pg_name (i := 7) sc_compared.nd rfl (Or.inl rfl)) (pgs_cons (pg_name (i := 8) sc_compared.nd rfl (Or.inl rfl)) pgs_nil))) (fun _ _ _ _ _ => pts_nil) (fun _ _ _ _ _ => (pe_callB call_abs (by rfl) T.z_abs (by decide +kernel) (pa_cons (pv 8) pa_nil))))) pa_nil)))
  (pss_cons (ps_asg (pe_tup (pa_cons pe_int (pa_cons pe_int pa_nil))) (pg_tup (by rfl) (pgs_cons (pg_name (i := 4) sc_compared.nd rfl (.inl rfl)) (pgs_cons (pg_name (i := 5) sc_compared.nd rfl (.inl rfl)) pgs_nil))))
  (pss_cons (ps_for PassesOwn.never rfl (pi_seqK (K := K) rfl (pe_callBK (call_sortDR (b := true) rfl) (by rfl) T.z_sorted (by decide +kernel) (pa_cons (pv 2) pa_nil) (pk_cons pe_bl pk_nil))) (pg_name (i := 6) sc_compared.nd rfl (.inl rfl))
  (pss_cons (ps_if (PW.pt (pw_and (pt_cmpR (op_neK (K := K) rfl (by exact hr.units)) (pv 4) pe_int (nomark _)) (pw_and1 (PW.pt (pw_or (pt_cmpR op_ge (pe_op op_sub (pv 5) (pv 6)) (pe_bits (pv 3)) (nomark _)) (pw_or1 (pt_cmpR op_gt (pe_op op_shlW (pe_callB call_abs (by rfl) T.z_abs (by decide +kernel) (pa_cons (pv 4) pa_nil)) (pe_op op_sub (pv 5) (pv 6))) (pv 3) (nomark _))))))))
  (pss_one ps_break)
  pss_nil)
  (pss_cons (ps_set (i := 4) sc_compared.nd rfl (.inl rfl) (pe_op op_addG (pe_dget (units1 hr) (pv 2) (pv 6) (fun _ _ => rfl)) (pe_ifExp (pt_cmpR (op_neK (K := K) rfl (by exact hr.units)) (pv 4) pe_int (nomark _)) (pe_op op_shlW (pv 4) (pe_op op_sub (pv 5) (pv 6))) pe_int)))
  (pss_cons (ps_set (i := 5) sc_compared.nd rfl (.inl rfl) (pv 6))
  (pss_one (ps_aug (i := 3) sc_compared.nd rfl (.inl rfl) (pe_callB call_abs (by rfl) T.z_abs (by decide +kernel) (pa_cons (pe_dget (units1 hr) (pv 2) (pv 6) (fun _ _ => rfl)) pa_nil)) ip_sub))))))
  (pss_cons (ps_if (pt_cmpR op_lt (pv 4) pe_int (nomark _))
  (pss_one (ps_ret (pe_un un_neg pe_int)))
  pss_nil)
  (pss_one (ps_ret (pe_ifExp (pt_cmpR op_gt (pv 4) pe_int (nomark _)) pe_int pe_int)))))))), fun H0 own0 bg xs R h => ?_⟩)
  obtain ⟨_, y, z, ps, qs, rfl, hy, hz, hp, hq, hR⟩ := h
  change S _ _ [.dat y, .dat z, .no, .no, .no, .no, .no, .no, .no] _
  try dsimp only [cxOf]
  have big : 10000 < sizeLine := Nat.le_of_ble_eq_true rfl
  have f1 := hp.few
  have f2 := hq.few
  have two : ∀ (ps : Il) (d : PyData), d ∈ ps.map pD → ∃ d1 d2, d = .tuple [d1, d2] := fun ps d hd => by
    obtain ⟨p, _, rfl⟩ := List.mem_map.mp hd
    exact ⟨_, _, rfl⟩
  refine s_seq ?_
  repeat walk_at "ds"
  refine e_lcP2 rfl (e_var rfl (fun h => nomatch h) ⟨y, ps.map pD, rfl, hy, two ps, by rw [List.length_map]; omega, fun k acc => acc = (ps.take k).map pD, rfl, ?_, ?_⟩)
  · rintro k d1 d2 acc hd rfl
    obtain ⟨p, hpk, e⟩ := map_getE hd
    have e : PyData.tuple [d1, d2] = .tuple [.int p.1, .int p.2] := e
    cases e
    dsimp only [DL.clr, List.set]
    unfold Lc
    refine t_yes (iteT ?_)
    repeat walk_at "dl"
    dsimp only
    rw [List.take_succ, hpk, List.map_append]
    rfl
  rintro acc rfl _
  rw [List.length_map, List.take_length]
  refine e_lcP2 rfl (e_var rfl (fun h => nomatch h) ⟨z, qs.map pD, rfl, hz, two qs, by rw [List.length_map]; omega, fun k acc => acc = (negP (qs.take k)).map pD, rfl, ?_, ?_⟩)
  · rintro k d1 d2 acc hd rfl
    obtain ⟨p, hpk, e⟩ := map_getE hd
    have e : PyData.tuple [d1, d2] = .tuple [.int p.1, .int p.2] := e
    cases e
    dsimp only [DL.clr, List.set]
    unfold Lc
    refine t_yes (iteT ?_)
    repeat walk_at "dl"
    dsimp only
    unfold negP
    rw [List.take_succ, hpk, List.map_append, List.map_append]
    rfl
  rintro acc rfl _
  rw [List.length_map, List.take_length]
  refine ⟨_, _, rfl, rfl, ?_, ?_⟩
  · unfold negP
    rw [List.length_map, List.length_map, List.length_map]
    omega
  repeat walk_at "ds"
  refine ⟨rfl, _, ps ++ negP qs, rfl, by rw [List.map_append]; rfl, by unfold negP; rw [List.length_append, List.length_map]; omega, ?_⟩
  obtain ⟨s1, s2, s3, s4⟩ := sums_all (ps ++ negP qs) [] List.nodup_nil
  obtain ⟨D, hD⟩ : ∃ D, D = sumsBy (ps ++ negP qs) := ⟨_, rfl⟩
  have lD : D.length ≤ 200 := by
    rw [hD]
    have := sums_len (ps ++ negP qs) []
    unfold sumsBy
    unfold negP at this ⊢
    simp only [List.length_nil, List.length_append, List.length_map] at this
    omega
  rw [← hD]
  have s1 : KN D := by rw [hD]; exact s1
  have s2 : wI gV D = vP ps - vP qs := by
    rw [hD]
    refine s2.trans ?_
    rw [vP_app, vP_neg]
    show 0 + _ = _
    omega
  have all : ∀ p ∈ ps ++ negP qs, Sm 600 p.1 ∧ 0 ≤ p.2 ∧ p.2 ≤ 1000 := fun p h => by
    rcases List.mem_append.mp h with h | h
    · exact hp.sm p h
    · obtain ⟨r, hr, rfl⟩ := List.mem_map.mp h
      have := hq.sm r hr
      exact ⟨this.1.neg, this.2⟩
  have s3 : wI gA D ≤ 200 * 2 ^ 600 := by
    rw [hD]
    refine Int.le_trans s3 ?_
    have a1 := (abs_sum (ps ++ negP qs) 600 fun p h => (all p h).1).2
    have a2 : ((ps ++ negP qs).length : Int) ≤ 200 := by
      unfold negP
      rw [List.length_append, List.length_map]
      omega
    have a3 := Int.mul_le_mul_of_nonneg_right a2 (Int.le_of_lt (two_pos 600))
    show 0 + _ ≤ _
    omega
  have s4 : ∀ k ∈ D.map (·.1), 0 ≤ k ∧ k ≤ 1000 := fun k hk => by
    rw [hD] at hk
    rcases s4 k hk with h | h
    · exact nomatch h
    · obtain ⟨p, hp1, rfl⟩ := List.mem_map.mp h
      exact (all p hp1).2
  rw [← s2] at hR
  clear hD
  repeat walk_at "ds"
  refine s_seq ?_
  repeat walk_at "ds"
  refine e_absItems rfl rfl (by simp) (by omega) ?_
  repeat walk_at "ds"
  refine ⟨_, D.map fun p => absI p.2, rfl, by rw [List.map_map]; rfl, ?_⟩
  have eA : (D.map fun p => absI p.2).sum = wI gA D := rfl
  rw [eA]
  repeat walk_at "ds"
  refine s_seq ?_
  repeat walk_at "ds"
  refine s_seq (S.cut (M := fun ρ => ∃ (x3 : Sl) (met : Int) (x5 x6 : Sl), ρ = [.dat y, .dat z, .dat (ilD D), x3, .dat (.int met), x5, x6, .no, .no] ∧ sg met = sg (wI gV D)) (s_forS (e_sortDR (a_cons (e_var rfl (fun h => nomatch h) (a_nil ⟨D, rfl, fun ys hperm hord => ?_⟩))))) ?_)
  · have dn : Down D ys := ⟨s1, hperm, hord, fun e he => s4 e (hperm.mem_iff.mp he), s3⟩
    refine ⟨_, ys.map .int, rfl, rfl, fun k ρ => ∃ (met at_ : Int) (x6 : Sl), ρ = [.dat y, .dat z, .dat (ilD D), .dat (.int (Ad D ys k)), .dat (.int met), .dat (.int at_), x6, .no, .no] ∧ met * 2 ^ at_.toNat = Sd D ys k ∧ (k = 0 → met = 0) ∧ (∀ j, k = j + 1 → ys[j]? = some at_), ⟨0, 0, .no, by rw [dn.a0]; rfl, Int.zero_mul _, fun _ => rfl, fun j h => by omega⟩, ?_, ?_⟩
    · rintro k d ρ' hk ⟨met, at_, x6, rfl, hm, hm0, hat⟩ H1
      obtain ⟨e, he, rfl⟩ := map_getE hk
      obtain ⟨e0, e1⟩ := dn.key e (List.mem_of_getElem? he)
      have sm := dn.met hm
      have an : 0 ≤ Ad D ys k := ad_nn _
      have al := Int.le_trans (dn.ad_le k) dn.abs
      have hae : met ≠ 0 → e ≤ at_ ∧ at_ ≤ 1000 := fun hne => by
        obtain ⟨j, rfl⟩ : ∃ j, k = j + 1 := ⟨k - 1, by
          have : k ≠ 0 := fun z => hne (hm0 z)
          omega⟩
        have hj := hat j rfl
        exact ⟨dn.low hj he (by omega), (dn.key at_ (List.mem_of_getElem? hj)).2⟩
      have sab : Sm 1700 (absI met) := by
        unfold absI
        split
        · exact sm.neg
        · exact sm
      try dsimp only [List.set]
      refine s_seq (S.cut (M := fun ρ => ρ = [.dat y, .dat z, .dat (ilD D), .dat (.int (Ad D ys k)), .dat (.int met), .dat (.int at_), .dat (.int e), .no, .no]) ?_ ?_)
      · repeat walk_at "dl"
        refine ite2 (fun hc => ?_) (fun hc => ?_)
        · have hne : met ≠ 0 := fun z => by
            rw [z] at hc
            exact nomatch hc
          obtain ⟨g1, g2⟩ := hae hne
          repeat walk_at "dl"
          refine e_bits ?_
          repeat walk_at "dl"
          refine ite2 (fun hc2 => ?_) (fun hc2 => ?_)
          · refine iteT ?_
            exact s_brk ⟨_, met, _, _, rfl, dn.stop hm hne he g1 e0 (.inl (of_decide_eq_true hc2))⟩
          · repeat walk_at "dl"
            refine ⟨Sm.shl sab (by omega) (by omega), ?_⟩
            repeat walk_at "dl"
            refine ite2 (fun hc3 => ?_) (fun hc3 => ?_)
            · exact s_brk ⟨_, met, _, _, rfl, dn.stop hm hne he g1 e0 (.inr (of_decide_eq_true hc3))⟩
            · repeat walk_at "dl"
        · repeat walk_at "dl"
          refine iteF ?_
          repeat walk_at "dl"
      rintro ρ' rfl
      refine s_seq (s_set ?_)
      refine e_op (op2_or op2_I0 op2_addS) (e_iget (e_var rfl (fun h => nomatch h) (e_var rfl (fun h => nomatch h) ⟨e, D, _, rfl, rfl, dn.get (List.mem_of_getElem? he), ?_⟩)))
      refine DL.E.mono (P := fun x => ∃ v : Int, x = .dat (.int v) ∧ v * 2 ^ e.toNat = Sd D ys k) (e_if (t_test ?_)) ?_
      · repeat walk_at "dl"
        refine ite2 (fun hc => ?_) (fun hc => ?_)
        · have hne : met ≠ 0 := fun z => by
            rw [z] at hc
            exact nomatch hc
          obtain ⟨g1, g2⟩ := hae hne
          repeat walk_at "dl"
          refine ⟨Sm.shl sm (by omega) (by omega), ?_⟩
          refine ⟨_, rfl, ?_⟩
          rw [← hm, Int.mul_assoc, ← Int.pow_add]
          congr 2
          omega
        · repeat walk_at "dl"
          have h0 : met = 0 := by
            by_cases h : met = 0
            · exact h
            · exact absurd (show (!(met == 0)) = true by simpa using h) hc
          rw [← hm, h0, Int.zero_mul, Int.zero_mul]
      rintro x ⟨v, rfl, hv⟩
      refine .inl ⟨_, _, rfl, rfl, trivial, ?_⟩
      try dsimp only [List.set]
      repeat walk_at "dl"
      refine s_aug rfl ?_
      refine e_cb cl_abs (a_cons (e_iget (e_var rfl (fun h => nomatch h) (e_var rfl (fun h => nomatch h) ⟨e, D, _, rfl, rfl, dn.get (List.mem_of_getElem? he), ?_⟩))))
      repeat walk_at "dl"
      refine ⟨cfD D e + v, e, .dat (.int e), ?_, ?_, fun h => by omega, fun j h => ?_⟩
      · have := ad_succ (D := D) he
        have e9 : Ad D ys k - (if cfD D e < 0 then -cfD D e else cfD D e) = Ad D ys (k + 1) := by
          have e8 : absI (cfD D e) = if cfD D e < 0 then -cfD D e else cfD D e := rfl
          omega
        rw [← e9]
      · rw [sd_succ he, Int.add_mul, hv]
        omega
      · have : j = k := by omega
        rw [this]
        exact he
    · rintro ρ' ⟨met, at_, x6, rfl, hm, _, _⟩
      refine ⟨_, met, _, _, rfl, ?_⟩
      rw [List.length_map] at hm
      rw [← dn.all, ← hm, sg_mul (two_pos _)]
  rintro ρ' ⟨x3, met, x5, x6, rfl, hsg⟩
  rw [← hsg] at hR
  unfold sg at hR
  repeat walk_at "dl"
  refine ite2 (fun hc => ?_) (fun hc => ?_)
  · rw [if_pos (of_decide_eq_true hc)] at hR
    repeat walk_at "dl"
    exact hR
  · rw [if_neg fun z => hc (decide_eq_true z)] at hR
    repeat walk_at "dl"
    refine ite2 (fun hc2 => ?_) (fun hc2 => ?_)
    · rw [if_pos (of_decide_eq_true hc2)] at hR
      repeat walk_at "dl"
      exact hR
    · rw [if_neg fun z => hc2 (decide_eq_true z)] at hR
      repeat walk_at "dl"
      exact hR
end
section
variable {P : Program} {w : World} {K : PySem.W.Frag} {mg : Str → Option Value} {bs : Heap}
def gs_made_by : Gs := fun xs R => xs.length = 3 ∧ ∃ (y : PyData) (ss : List Int) (c d : Int), xs = [.dat y, .dat (.int c), .dat (.int d)] ∧ seqD (.dat y) = some (ss.map PyData.int) ∧ Shs ss ∧ (0 ≤ c ∧ Sm 320 c ∧ 0 ≤ d ∧ d ≤ 310) ∧ R (mb ss c (2 ^ d.toNat))
theorem ok_made_by (T : Txt K mg) (nd : bs.NoDigits) : FnG P w K mg bs 1 T.a_made_by T.d_made_by ["shares", "c", "d"] (spG K gs_made_by) := by
  refine fnD T.F_made_by sc_made_by (fun xs R h => h.1) (fun cd A out s H E hg hr => ⟨_, (pss_cons (ps_set (i := 3) sc_made_by.nd rfl (.inl rfl) (pe_callB (call_sumK (K := K) rfl rfl) (by rfl) T.z_sum (by decide +kernel) (pa_cons (pv 0) pa_nil)))
  (pss_cons (ps_par (i := 4) (j := 5) rfl sc_made_by.nd rfl rfl (by decide) rfl rfl (pa_cons (pe_op op_mulG (pv 1) (pv 3)) (pa_cons (pe_op op_mulG (pe_op op_addG (pv 1) pe_int) (pv 3)) pa_nil)) (by rfl))
  (pss_cons (ps_set (i := 6) sc_made_by.nd rfl (.inl rfl) pe_int)
  (pss_cons (ps_for PassesOwn.never rfl (pi_enumK (K := K) rfl (by rfl) T.z_enumerate (pv 0)) (pg_tup (by rfl) (pgs_cons (pg_name (i := 7) sc_made_by.nd rfl (.inl rfl)) (pgs_cons (pg_name (i := 8) sc_made_by.nd rfl (.inl rfl)) pgs_nil)))
  (pss_cons (ps_if (PW.pt (pw_and (pt_cmpR op_le (pe_op op_shlW (pv 6) (pv 2)) (pv 4) (nomark _)) (pw_and1 (pt_cmpR op_le (pv 5) (pe_op op_shlW (pe_op op_addG (pv 6) (pv 8)) (pv 2)) (nomark _)))))
  (pss_one (ps_ret (pv 7)))
  pss_nil)
  (pss_one (ps_aug (i := 6) sc_made_by.nd rfl (.inl rfl) (pv 8) ip_add))))
  (pss_one (ps_ret pe_non)))))), fun H0 own0 bg xs R h => ?_⟩)
  obtain ⟨_, y, ss, c, d, rfl, hy, hs, ⟨c0, sc, d0, d1⟩, hR⟩ := h
  change S _ _ [.dat y, .dat (.int c), .dat (.int d), .no, .no, .no, .no, .no, .no] _
  try dsimp only [cxOf]
  obtain ⟨t1, st⟩ := hs.tot
  repeat walk_at "dl"
  refine ⟨_, ss, rfl, hy, ?_⟩
  repeat walk_at "dl"
  refine ⟨Sm.mulX sc st (by decide), ?_⟩
  repeat walk_at "dl"
  refine ⟨Sm.mulX (sc.add ((show Sm 1 1 by decide).mono (show 1 ≤ 320 by decide))) st (by decide), ?_⟩
  repeat walk_at "dl"
  have dn : ((d.toNat : Nat) : Int) = d := by omega
  refine s_forE rfl (e_var rfl (fun h => nomatch h) ⟨y, _, rfl, hy, fun k ρ => ∃ x7 x8, ρ = [.dat y, .dat (.int c), .dat (.int d), .dat (.int ss.sum), .dat (.int (c * ss.sum)), .dat (.int ((c + 1) * ss.sum)), .dat (.int (pre ss k)), x7, x8] ∧
    mkAt ss c (2 ^ d.toNat) k = mb ss c (2 ^ d.toNat), ⟨.no, .no, rfl, rfl⟩, ?_, ?_⟩)
  · rintro k dd ρ' hk ⟨x7, x8, rfl, hm⟩ H1
    obtain ⟨s, hks, rfl⟩ := map_getE hk
    have hl := get_lt hks
    obtain ⟨p0, p1, ps⟩ := hs.sm (show k ≤ ss.length by omega)
    obtain ⟨q0, q1, qs⟩ := hs.sm (show k + 1 ≤ ss.length by omega)
    rw [pre_succ hks] at q0 q1 qs
    rw [mkAt_step hks] at hm
    try dsimp only [List.set]
    repeat walk_at "dl"
    refine ⟨Sm.shl ps d0 (by omega), ?_⟩
    repeat walk_at "dl"
    refine ite2 (fun hc => ?_) (fun hc => ?_)
    · have h1 := of_decide_eq_true hc
      repeat walk_at "dl"
      refine ⟨Sm.shl qs d0 (by omega), ?_⟩
      repeat walk_at "dl"
      refine ite2 (fun hc => ?_) (fun hc => ?_)
      · rw [if_pos ⟨h1, of_decide_eq_true hc⟩] at hm
        repeat walk_at "dl"
        rw [hm]
        exact hR
      · rw [if_neg fun z => hc (decide_eq_true z.2)] at hm
        repeat walk_at "dl"
        refine s_aug rfl ?_
        repeat walk_at "dl"
        exact ⟨_, _, by rw [pre_succ hks], hm⟩
    · rw [if_neg fun z => hc (decide_eq_true z.1)] at hm
      repeat walk_at "dl"
      refine iteF ?_
      repeat walk_at "dl"
      refine s_aug rfl ?_
      repeat walk_at "dl"
      exact ⟨_, _, by rw [pre_succ hks], hm⟩
  · rintro ρ' ⟨x7, x8, rfl, hm⟩
    repeat walk_at "dl"
    rw [List.length_map, mkAt_end] at hm
    rw [← hm] at hR
    exact hR
end
section
variable {P : Program} {w : World} {K : PySem.W.Frag} {mg : Str → Option Value} {bs : Heap}
def gs__with_next : Gs := fun xs R => xs.length = 4 ∧ ∃ (seed : Int) (cs : List Coin) (nm : List Int) (n : Nat), xs = [.dat (.int (beg seed cs nm n)), .dat (coinsD seed cs), .dat (nmD nm), .dat (.int (n : Int))] ∧ CsOk cs ∧ NmOk nm ∧ n ≤ 100 ∧ R (.int (beg seed cs nm (n + 1)))
theorem ok__with_next (T : Txt K mg) (nd : bs.NoDigits) : FnG P w K mg bs 4 T.a__with_next T.d__with_next ["c", "coins", "name", "d"] (spG K gs__with_next) := by
  have C_coin := ok_coin (P := P) (w := w) (bs := bs) T nd
  refine fnD T.F__with_next sc__with_next (fun xs R h => h.1) (fun cd A out s H E hg hr => ⟨_, (pss_one (ps_ret (pe_op op_addG (pe_op op_mulG pe_int (pv 0)) (pe_ifExp (pt_val (pe_callG C_coin hg (hr.mono (by decide)) (by rfl) T.g_coin T.F_coin.kp T.b_coin (pa_cons (pv 1) (pa_cons (pv 2) (pa_cons (pv 3) pa_nil))))) pe_int pe_int)))), fun H0 own0 bg xs R h => ?_⟩)
  obtain ⟨_, seed, cs, nm, n, rfl, hcs, hn, hl, hR⟩ := h
  change S _ _ [.dat (.int (beg seed cs nm n)), .dat (coinsD seed cs), .dat (nmD nm), .dat (.int (n : Int))] _
  try dsimp only [cxOf]
  repeat walk_at "dl"
  refine ⟨rfl, seed, cs, nm, (n : Int), rfl, hcs, hn, ⟨by omega, Sm.mono (a := 20) (by unfold Sm; omega) (by decide)⟩, ?_⟩
  repeat walk_at "dl"
  refine ite2 (fun hc => ?_) (fun hc => ?_)
  · repeat walk_at "dl"
    rw [← beg_t hc]
    exact hR
  · repeat walk_at "dl"
    rw [← beg_f hc]
    exact hR
end
section
variable {P : Program} {w : World} {K : PySem.W.Frag} {mg : Str → Option Value} {bs : Heap}
def gs_chosen : Gs := fun xs R => xs.length = 4 ∧ ∃ (y : PyData) (ss : List Int) (seed : Int) (cs : List Coin) (nm : List Int) (most : Nat), xs = [.dat y, .dat (coinsD seed cs), .dat (nmD nm), .dat (.int (most : Int))] ∧ seqD (.dat y) = some (ss.map PyData.int) ∧ Shs ss ∧ CsOk cs ∧ NmOk nm ∧ most ≤ 80 ∧ R (chs ss seed cs nm (most + 1) 0)
theorem ok_chosen (T : Txt K mg) (nd : bs.NoDigits) : FnG P w K mg bs 5 T.a_chosen T.d_chosen ["shares", "coins", "name", "most"] (spG K gs_chosen) := by
  have C__with_next := ok__with_next (P := P) (w := w) (bs := bs) T nd
  have C_made_by := ok_made_by (P := P) (w := w) (bs := bs) T nd
  refine fnD T.F_chosen sc_chosen (fun xs R h => h.1) (fun cd A out s H E hg hr => ⟨_, (pss_cons (ps_set (i := 4) sc_chosen.nd rfl (.inl rfl) pe_int)
  (pss_cons (ps_for PassesOwn.never rfl (pi_range1 (by rfl) T.z_range (pa_cons (pe_op op_addG (pv 3) pe_int) pa_nil)) (pg_name (i := 5) sc_chosen.nd rfl (.inl rfl))
  (pss_cons (ps_set (i := 6) sc_chosen.nd rfl (.inl rfl) (pe_callG C_made_by hg (hr.mono (by decide)) (by rfl) T.g_made_by T.F_made_by.kp T.b_made_by (pa_cons (pv 0) (pa_cons (pv 4) (pa_cons (pv 5) pa_nil)))))
  (pss_cons (ps_if (pt_cmpR op_notN (pv 6) pe_non (nomark _))
  (pss_one (ps_ret (pe_tup (pa_cons (pv 6) (pa_cons (pv 5) pa_nil)))))
  pss_nil)
  (pss_one (ps_set (i := 4) sc_chosen.nd rfl (.inl rfl) (pe_callG C__with_next hg (hr.mono (by decide)) (by rfl) T.g__with_next T.F__with_next.kp T.b__with_next (pa_cons (pv 4) (pa_cons (pv 1) (pa_cons (pv 2) (pa_cons (pv 5) pa_nil))))))))))
  (pss_one (ps_ret pe_non)))), fun H0 own0 bg xs R h => ?_⟩)
  obtain ⟨_, y, ss, seed, cs, nm, most, rfl, hy, hs, hcs, hn, hm, hR⟩ := h
  change S _ _ [.dat y, .dat (coinsD seed cs), .dat (nmD nm), .dat (.int (most : Int)), .no, .no, .no] _
  try dsimp only [cxOf]
  repeat walk_at "dl"
  refine s_forR1 (a_cons ?_)
  repeat walk_at "dl"
  refine ⟨by omega, fun i ρ => ∃ x5 x6, ρ = [.dat y, .dat (coinsD seed cs), .dat (nmD nm), .dat (.int (most : Int)), .dat (.int (beg seed cs nm i)), x5, x6] ∧ (i ≤ most + 1 → chs ss seed cs nm (most + 1 - i) i = chs ss seed cs nm (most + 1) 0), ⟨.no, .no, rfl, fun _ => rfl⟩, ?_, ?_⟩
  · rintro i ρ' hi ⟨x5, x6, rfl, hI⟩
    have hi : i < most + 1 := by omega
    have hI := hI (by omega)
    obtain ⟨r, hr⟩ : ∃ r, most + 1 - i = r + 1 := ⟨most - i, by omega⟩
    rw [hr] at hI
    try dsimp only [List.set]
    repeat walk_at "dl"
    refine ⟨rfl, y, ss, _, (i : Int), rfl, hy, hs, ⟨(beg_b seed cs nm i).1, (beg_s seed cs nm i).mono (by omega), by omega, by omega⟩, ?_⟩
    rw [Int.toNat_natCast]
    rcases mb_cases (c := beg seed cs nm i) (p := 2 ^ i) hs (Int.pow_pos (by decide)) with ⟨j, hj, e⟩ | ⟨_, e⟩
    · rw [e]
      repeat walk_at "dl"
      refine ⟨rfl, ?_⟩
      repeat walk_at "dl"
      refine iteT ?_
      repeat walk_at "dl"
      rw [← hI, chs_hit e] at hR
      exact hR
    · rw [e]
      repeat walk_at "dl"
      refine ⟨rfl, ?_⟩
      repeat walk_at "dl"
      refine iteF ?_
      repeat walk_at "dl"
      refine ⟨rfl, seed, cs, nm, i, rfl, hcs, hn, by omega, ?_⟩
      repeat walk_at "dl"
      refine fun _ => ?_
      rw [← hI, chs_no e]
      congr 1
      omega
  rintro ρ' ⟨x5, x6, rfl, hI⟩
  have hI := hI (by omega)
  repeat walk_at "dl"
  have e0 : most + 1 - ((most : Int) + 1).toNat = 0 := by omega
  rw [e0] at hI
  rw [← hI] at hR
  exact hR
end
section
variable {P : Program} {w : World} {K : PySem.W.Frag} {mg : Str → Option Value} {bs : Heap}
def gs__is_ahead_shown : Gs := fun xs R => xs.length = 4 ∧ ∃ (ts : List En3) (i c d : Nat), xs = [.dat (.list (ts.map tD)), .dat (.int (i : Int)), .dat (.int (c : Int)), .dat (.int (d : Int))] ∧ EsOk ts ∧ i ≤ ts.length ∧ d ≤ 80 ∧ c < 2 ^ d ∧ R (.bool (aheadB ts i c d))
theorem ok__is_ahead_shown (T : Txt K mg) (nd : bs.NoDigits) : FnG P w K mg bs 3 T.a__is_ahead_shown T.d__is_ahead_shown ["numbers", "index", "c", "d"] (spG K gs__is_ahead_shown) := by
  have C_compared := ok_compared (P := P) (w := w) (bs := bs) T nd
  refine fnD T.F__is_ahead_shown sc__is_ahead_shown (fun xs R h => h.1) (fun cd A out s H E hg hr => ⟨_, (pss_cons (ps_set (i := 4) sc__is_ahead_shown.nd rfl (.inr rfl) (pe_op op_sub (pe_op op_shlW pe_int (pv 3)) (pv 2)))
  (pss_cons (ps_setLc (i := 5) (own := [("_", 6), ("high", 7), ("e", 8)]) (g := gTup K 3 (gCons (gName 6) (gCons (gName 7) (gCons (gName 8) gNil)))) (tt := tYes) (by rfl) sc__is_ahead_shown.nd rfl rfl (by rfl) (pi_seqK (K := K) rfl (pe_slice (sl_seqK (K := K) rfl) (pv 0) po_none (po_some (pv 1)))) (blkOk_by (own := [("_", 6), ("high", 7), ("e", 8)]) (N := ["numbers", "index", "c", "d", "rest", "ahead", "_", "high", "e", "low"]) (sc := defScope s__is_ahead_shown) (by decide +kernel)) (fun _ _ _ _ _ => pg_tupK (K := K) rfl (by rfl) (pgs_cons (pg_name (i := 6) sc__is_ahead_shown.nd rfl (Or.inl rfl)) (pgs_cons (pg_name (i := 7) sc__is_ahead_shown.nd rfl (Or.inl rfl)) (pgs_cons (pg_name (i := 8) sc__is_ahead_shown.nd rfl (Or.inl rfl)) pgs_nil)))) (fun _ _ _ _ _ => pts_nil) (fun _ _ _ _ _ => (pe_tup (pa_cons (pe_op op_mulG (pv 7) (pv 4)) (pa_cons (pv 8) pa_nil)))))
  (pss_one (ps_ret (pe_cmpR op_le (pe_callG C_compared hg (hr.mono (by decide)) (by rfl) T.g_compared T.F_compared.kp T.b_compared (pa_cons (pv 5) (pa_cons (pe_lc (own := [("low", 9), ("_", 6), ("e", 8)]) (g := gTup K 3 (gCons (gName 9) (gCons (gName 6) (gCons (gName 8) gNil)))) (tt := tYes) (by rfl) sc__is_ahead_shown.nd (pi_seqK (K := K) rfl (pe_slice (sl_seqK (K := K) rfl) (pv 0) (po_some (pv 1)) po_none)) (blkOk_by (own := [("low", 9), ("_", 6), ("e", 8)]) (N := ["numbers", "index", "c", "d", "rest", "ahead", "_", "high", "e", "low"]) (sc := defScope s__is_ahead_shown) (by decide +kernel)) (fun _ _ _ _ _ => pg_tupK (K := K) rfl (by rfl) (pgs_cons (pg_name (i := 9) sc__is_ahead_shown.nd rfl (Or.inl rfl)) (pgs_cons (pg_name (i := 6) sc__is_ahead_shown.nd rfl (Or.inl rfl)) (pgs_cons (pg_name (i := 8) sc__is_ahead_shown.nd rfl (Or.inl rfl)) pgs_nil)))) (fun _ _ _ _ _ => pts_nil) (fun _ _ _ _ _ => (pe_tup (pa_cons (pe_op op_mulG (pv 2) (pv 9)) (pa_cons (pv 8) pa_nil))))) pa_nil))) pe_int (nomark _)))))), fun H0 own0 bg xs R h => ?_⟩)
  obtain ⟨_, ts, i, c, d, rfl, ht, hi, hd, hc, hR⟩ := h
  change S _ _ [.dat (.list (ts.map tD)), .dat (.int (i : Int)), .dat (.int (c : Int)), .dat (.int (d : Int)), .no, .no, .no, .no, .no, .no] _
  try dsimp only [cxOf]
  have big : 1000 < sizeLine := Nat.le_of_ble_eq_true rfl
  have few := ht.few
  have ec : ((2 ^ d : Nat) : Int) = 2 ^ d := by simp
  have tw : Sm 81 (2 ^ d) := (two_sm d).mono (by omega)
  have sc : Sm 81 (c : Int) := tw.le (by omega) (by omega)
  have sr : Sm 81 (2 ^ d - (c : Int)) := tw.le (by omega) (by omega)
  have three : ∀ (us : List En3) (x : PyData), x ∈ us.map tD → ∃ d1 d2 d3, x = .tuple [d1, d2, d3] := fun us x hx => by
    obtain ⟨t, _, rfl⟩ := List.mem_map.mp hx
    exact ⟨_, _, _, rfl⟩
  refine s_seq ?_
  repeat walk_at "ds"
  refine ⟨Sm.shl (show Sm 2 1 by decide) (by omega) (by omega), ?_⟩
  repeat walk_at "ds"
  rw [Int.toNat_natCast, Int.one_mul]
  refine s_seq (s_set (e_lcP3 rfl (DL.E.mono (P := fun x => x = .dat (.list ((ts.take i).map tD))) ?_ ?_)))
  · repeat walk_at "dl"
    rw [cutD_take (by omega) (by rw [List.length_map]; omega), ← List.map_take]
    rfl
  rintro x rfl
  refine ⟨_, (ts.take i).map tD, rfl, rfl, three _, by rw [List.length_map, List.length_take]; omega, fun k acc => acc = (pileH ((ts.take i).take k) (2 ^ d - (c : Int))).map pD, rfl, ?_, ?_⟩
  · rintro k d1 d2 d3 acc hx rfl
    obtain ⟨t, hk, e⟩ := map_getE hx
    have e : PyData.tuple [d1, d2, d3] = .tuple [.int t.1, .int t.2.1, .int t.2.2] := e
    cases e
    have ok := (ht.take i).ok t (List.mem_of_getElem? hk)
    dsimp only [DL.clr, List.set]
    unfold Lc
    refine t_yes (iteT ?_)
    repeat walk_at "dl"
    refine ⟨Sm.mulX ok.2.2.2.1 sr (by decide), ?_⟩
    repeat walk_at "dl"
    dsimp only
    unfold pileH
    rw [List.take_succ (l := ts.take i), hk, List.map_append, List.map_append]
    rfl
  rintro acc rfl _
  rw [List.length_map, List.take_length]
  refine ⟨trivial, ?_⟩
  try dsimp only [List.set]
  repeat walk_at "dl"
  refine e_lcP3 rfl (DL.E.mono (P := fun x => x = .dat (.list ((ts.drop i).map tD))) ?_ ?_)
  · repeat walk_at "dl"
    rw [cutD_drop (by omega) (by rw [List.length_map]; omega), ← List.map_drop]
    rfl
  rintro x rfl
  refine ⟨_, (ts.drop i).map tD, rfl, rfl, three _, by rw [List.length_map, List.length_drop]; omega, fun k acc => acc = (pileL ((ts.drop i).take k) (c : Int)).map pD, rfl, ?_, ?_⟩
  · rintro k d1 d2 d3 acc hx rfl
    obtain ⟨t, hk, e⟩ := map_getE hx
    have e : PyData.tuple [d1, d2, d3] = .tuple [.int t.1, .int t.2.1, .int t.2.2] := e
    cases e
    have ok := (ht.drop i).ok t (List.mem_of_getElem? hk)
    dsimp only [DL.clr, List.set]
    unfold Lc
    refine t_yes (iteT ?_)
    repeat walk_at "dl"
    refine ⟨Sm.mulX sc ok.2.2.1 (by decide), ?_⟩
    repeat walk_at "dl"
    dsimp only
    unfold pileL
    rw [List.take_succ (l := ts.drop i), hk, List.map_append, List.map_append]
    rfl
  rintro acc rfl _
  rw [List.length_map, List.take_length]
  repeat walk_at "dl"
  refine ⟨rfl, _, _, pileH (ts.take i) (2 ^ d - (c : Int)), pileL (ts.drop i) (c : Int), rfl, rfl, rfl, pile_H (ht.take i) (sr.mono (by decide)), pile_L (ht.drop i) (sc.mono (by decide)), ?_⟩
  repeat walk_at "dl"
  rw [sg_le, vP_H, vP_L]
  have e9 : decide (highS (ts.take i) * (2 ^ d - (c : Int)) - (c : Int) * lowS (ts.drop i) ≤ 0) = aheadB ts i c d := decide_eq_decide.mpr (by omega)
  rw [e9]
  exact hR
end
section
variable {P : Program} {w : World} {K : PySem.W.Frag} {mg : Str → Option Value} {bs : Heap}
def gs__is_behind_shown : Gs := fun xs R => xs.length = 4 ∧ ∃ (ts : List En3) (i c d : Nat), xs = [.dat (.list (ts.map tD)), .dat (.int (i : Int)), .dat (.int (c : Int)), .dat (.int (d : Int))] ∧ EsOk ts ∧ i < ts.length ∧ d ≤ 80 ∧ c < 2 ^ d ∧ R (.bool (behindB ts i c d))
theorem ok__is_behind_shown (T : Txt K mg) (nd : bs.NoDigits) : FnG P w K mg bs 3 T.a__is_behind_shown T.d__is_behind_shown ["numbers", "index", "c", "d"] (spG K gs__is_behind_shown) := by
  have C_compared := ok_compared (P := P) (w := w) (bs := bs) T nd
  refine fnD T.F__is_behind_shown sc__is_behind_shown (fun xs R h => h.1) (fun cd A out s H E hg hr => ⟨_, (pss_cons (ps_set (i := 4) sc__is_behind_shown.nd rfl (.inr rfl) (pe_op op_sub (pe_op op_sub (pe_op op_shlW pe_int (pv 3)) (pv 2)) pe_int))
  (pss_cons (ps_setLc (i := 5) (own := [("_", 6), ("high", 7), ("e", 8)]) (g := gTup K 3 (gCons (gName 6) (gCons (gName 7) (gCons (gName 8) gNil)))) (tt := tYes) (by rfl) sc__is_behind_shown.nd rfl rfl (by rfl) (pi_seqK (K := K) rfl (pe_slice (sl_seqK (K := K) rfl) (pv 0) (po_some (pe_op op_addG (pv 1) pe_int)) po_none)) (blkOk_by (own := [("_", 6), ("high", 7), ("e", 8)]) (N := ["numbers", "index", "c", "d", "rest", "behind", "_", "high", "e", "low"]) (sc := defScope s__is_behind_shown) (by decide +kernel)) (fun _ _ _ _ _ => pg_tupK (K := K) rfl (by rfl) (pgs_cons (pg_name (i := 6) sc__is_behind_shown.nd rfl (Or.inl rfl)) (pgs_cons (pg_name (i := 7) sc__is_behind_shown.nd rfl (Or.inl rfl)) (pgs_cons (pg_name (i := 8) sc__is_behind_shown.nd rfl (Or.inl rfl)) pgs_nil)))) (fun _ _ _ _ _ => pts_nil) (fun _ _ _ _ _ => (pe_tup (pa_cons (pe_op op_mulG (pe_op op_addG (pv 2) pe_int) (pv 7)) (pa_cons (pv 8) pa_nil)))))
  (pss_one (ps_ret (pe_cmpR op_le (pe_callG C_compared hg (hr.mono (by decide)) (by rfl) T.g_compared T.F_compared.kp T.b_compared (pa_cons (pv 5) (pa_cons (pe_lc (own := [("low", 9), ("_", 6), ("e", 8)]) (g := gTup K 3 (gCons (gName 9) (gCons (gName 6) (gCons (gName 8) gNil)))) (tt := tYes) (by rfl) sc__is_behind_shown.nd (pi_seqK (K := K) rfl (pe_slice (sl_seqK (K := K) rfl) (pv 0) po_none (po_some (pe_op op_addG (pv 1) pe_int)))) (blkOk_by (own := [("low", 9), ("_", 6), ("e", 8)]) (N := ["numbers", "index", "c", "d", "rest", "behind", "_", "high", "e", "low"]) (sc := defScope s__is_behind_shown) (by decide +kernel)) (fun _ _ _ _ _ => pg_tupK (K := K) rfl (by rfl) (pgs_cons (pg_name (i := 9) sc__is_behind_shown.nd rfl (Or.inl rfl)) (pgs_cons (pg_name (i := 6) sc__is_behind_shown.nd rfl (Or.inl rfl)) (pgs_cons (pg_name (i := 8) sc__is_behind_shown.nd rfl (Or.inl rfl)) pgs_nil)))) (fun _ _ _ _ _ => pts_nil) (fun _ _ _ _ _ => (pe_tup (pa_cons (pe_op op_mulG (pv 4) (pv 9)) (pa_cons (pv 8) pa_nil))))) pa_nil))) pe_int (nomark _)))))), fun H0 own0 bg xs R h => ?_⟩)
  obtain ⟨_, ts, i, c, d, rfl, ht, hi, hd, hc, hR⟩ := h
  change S _ _ [.dat (.list (ts.map tD)), .dat (.int (i : Int)), .dat (.int (c : Int)), .dat (.int (d : Int)), .no, .no, .no, .no, .no, .no] _
  try dsimp only [cxOf]
  have big : 1000 < sizeLine := Nat.le_of_ble_eq_true rfl
  have few := ht.few
  have ec : ((2 ^ d : Nat) : Int) = 2 ^ d := by simp
  have tw : Sm 81 (2 ^ d) := (two_sm d).mono (by omega)
  have sc : Sm 81 (c : Int) := tw.le (by omega) (by omega)
  have sr : Sm 81 (2 ^ d - (c : Int) - 1) := tw.le (by omega) (by omega)
  have sc1 : Sm 81 ((c : Int) + 1) := tw.le (by omega) (by omega)
  have three : ∀ (us : List En3) (x : PyData), x ∈ us.map tD → ∃ d1 d2 d3, x = .tuple [d1, d2, d3] := fun us x hx => by
    obtain ⟨t, _, rfl⟩ := List.mem_map.mp hx
    exact ⟨_, _, _, rfl⟩
  refine s_seq ?_
  repeat walk_at "ds"
  refine ⟨Sm.shl (show Sm 2 1 by decide) (by omega) (by omega), ?_⟩
  repeat walk_at "ds"
  rw [Int.toNat_natCast, Int.one_mul]
  refine s_seq (s_set (e_lcP3 rfl (DL.E.mono (P := fun x => x = .dat (.list ((ts.drop (i + 1)).map tD))) ?_ ?_)))
  · repeat walk_at "dl"
    rw [cutD_drop (by omega) (by rw [List.length_map]; omega), ← List.map_drop]
    rfl
  rintro x rfl
  refine ⟨_, (ts.drop (i + 1)).map tD, rfl, rfl, three _, by rw [List.length_map, List.length_drop]; omega, fun k acc => acc = (pileH2 ((ts.drop (i + 1)).take k) ((c : Int) + 1)).map pD, rfl, ?_, ?_⟩
  · rintro k d1 d2 d3 acc hx rfl
    obtain ⟨t, hk, e⟩ := map_getE hx
    have e : PyData.tuple [d1, d2, d3] = .tuple [.int t.1, .int t.2.1, .int t.2.2] := e
    cases e
    have ok := (ht.drop (i + 1)).ok t (List.mem_of_getElem? hk)
    dsimp only [DL.clr, List.set]
    unfold Lc
    refine t_yes (iteT ?_)
    repeat walk_at "dl"
    refine ⟨Sm.mulX sc1 ok.2.2.2.1 (by decide), ?_⟩
    repeat walk_at "dl"
    dsimp only
    unfold pileH2
    rw [List.take_succ (l := ts.drop (i + 1)), hk, List.map_append, List.map_append]
    rfl
  rintro acc rfl _
  rw [List.length_map, List.take_length]
  refine ⟨trivial, ?_⟩
  try dsimp only [List.set]
  repeat walk_at "dl"
  refine e_lcP3 rfl (DL.E.mono (P := fun x => x = .dat (.list ((ts.take (i + 1)).map tD))) ?_ ?_)
  · repeat walk_at "dl"
    rw [cutD_take (by omega) (by rw [List.length_map]; omega), ← List.map_take]
    rfl
  rintro x rfl
  refine ⟨_, (ts.take (i + 1)).map tD, rfl, rfl, three _, by rw [List.length_map, List.length_take]; omega, fun k acc => acc = (pileL ((ts.take (i + 1)).take k) (2 ^ d - (c : Int) - 1)).map pD, rfl, ?_, ?_⟩
  · rintro k d1 d2 d3 acc hx rfl
    obtain ⟨t, hk, e⟩ := map_getE hx
    have e : PyData.tuple [d1, d2, d3] = .tuple [.int t.1, .int t.2.1, .int t.2.2] := e
    cases e
    have ok := (ht.take (i + 1)).ok t (List.mem_of_getElem? hk)
    dsimp only [DL.clr, List.set]
    unfold Lc
    refine t_yes (iteT ?_)
    repeat walk_at "dl"
    refine ⟨Sm.mulX sr ok.2.2.1 (by decide), ?_⟩
    repeat walk_at "dl"
    dsimp only
    unfold pileL
    rw [List.take_succ (l := ts.take (i + 1)), hk, List.map_append, List.map_append]
    rfl
  rintro acc rfl _
  rw [List.length_map, List.take_length]
  repeat walk_at "dl"
  refine ⟨rfl, _, _, pileH2 (ts.drop (i + 1)) ((c : Int) + 1), pileL (ts.take (i + 1)) (2 ^ d - (c : Int) - 1), rfl, rfl, rfl, pile_H2 (ht.drop (i + 1)) (sc1.mono (by decide)), pile_L (ht.take (i + 1)) (sr.mono (by decide)), ?_⟩
  repeat walk_at "dl"
  rw [sg_le, vP_H2, vP_L]
  have e9 : decide (((c : Int) + 1) * highS (ts.drop (i + 1)) - (2 ^ d - (c : Int) - 1) * lowS (ts.take (i + 1)) ≤ 0) = behindB ts i c d := decide_eq_decide.mpr (by omega)
  rw [e9]
  exact hR
end
section
variable {P : Program} {w : World} {K : PySem.W.Frag} {mg : Str → Option Value} {bs : Heap}
def gs_is_shown : Gs := fun xs R => xs.length = 4 ∧ ∃ (ts : List En3) (i c d : Nat), xs = [.dat (.list (ts.map tD)), .dat (.int (i : Int)), .dat (.int (c : Int)), .dat (.int (d : Int))] ∧ EsOk ts ∧ i < ts.length ∧ d ≤ 80 ∧ c < 2 ^ d ∧ R (.bool (aheadB ts i c d && behindB ts i c d))
theorem ok_is_shown (T : Txt K mg) (nd : bs.NoDigits) : FnG P w K mg bs 4 T.a_is_shown T.d_is_shown ["numbers", "index", "c", "d"] (spG K gs_is_shown) := by
  have C__is_ahead_shown := ok__is_ahead_shown (P := P) (w := w) (bs := bs) T nd
  have C__is_behind_shown := ok__is_behind_shown (P := P) (w := w) (bs := bs) T nd
  refine fnD T.F_is_shown sc_is_shown (fun xs R h => h.1) (fun cd A out s H E hg hr => ⟨_, (pss_one (ps_ret (pe_and (pe_callG C__is_ahead_shown hg (hr.mono (by decide)) (by rfl) T.g__is_ahead_shown T.F__is_ahead_shown.kp T.b__is_ahead_shown (pa_cons (pv 0) (pa_cons (pv 1) (pa_cons (pv 2) (pa_cons (pv 3) pa_nil))))) (pe_one (pe_callG C__is_behind_shown hg (hr.mono (by decide)) (by rfl) T.g__is_behind_shown T.F__is_behind_shown.kp T.b__is_behind_shown (pa_cons (pv 0) (pa_cons (pv 1) (pa_cons (pv 2) (pa_cons (pv 3) pa_nil))))))))), fun H0 own0 bg xs R h => ?_⟩)
  obtain ⟨_, ts, i, c, d, rfl, ht, hi, hd, hc, hR⟩ := h
  change S _ _ [.dat (.list (ts.map tD)), .dat (.int (i : Int)), .dat (.int (c : Int)), .dat (.int (d : Int))] _
  try dsimp only [cxOf]
  repeat walk_at "dl"
  refine ⟨rfl, ts, i, c, d, rfl, ht, by omega, hd, hc, ?_⟩
  cases ha : aheadB ts i c d with
  | false =>
    rw [ha] at hR
    repeat walk_at "dl"
    exact hR
  | true =>
    rw [ha] at hR
    repeat walk_at "dl"
    refine iteT ?_
    repeat walk_at "dl"
    refine ⟨rfl, ts, i, c, d, rfl, ht, hi, hd, hc, ?_⟩
    repeat walk_at "dl"
    exact hR
end
section
variable {P : Program} {w : World} {K : PySem.W.Frag} {mg : Str → Option Value} {bs : Heap}
def gs__least_shown : Gs := fun xs R => xs.length = 3 ∧ ∃ (ts : List En3) (c d : Nat), xs = [.dat (.list (ts.map tD)), .dat (.int (c : Int)), .dat (.int (d : Int))] ∧ EsOk ts ∧ 0 < ts.length ∧ d ≤ 80 ∧ c < 2 ^ d ∧ R (lsh ts c d)
theorem ok__least_shown (T : Txt K mg) (nd : bs.NoDigits) : FnG P w K mg bs 5 T.a__least_shown T.d__least_shown ["numbers", "c", "d"] (spG K gs__least_shown) := by
  have C__is_behind_shown := ok__is_behind_shown (P := P) (w := w) (bs := bs) T nd
  have C_is_shown := ok_is_shown (P := P) (w := w) (bs := bs) T nd
  refine fnD T.F__least_shown sc__least_shown (fun xs R h => h.1) (fun cd A out s H E hg hr => ⟨_, (pss_cons (ps_par (i := 3) (j := 4) rfl sc__least_shown.nd rfl rfl (by decide) rfl rfl (pa_cons pe_int (pa_cons (pe_op op_sub (pe_callB (call_lenK (K := K) rfl) (by rfl) T.z_len (by decide +kernel) (pa_cons (pv 0) pa_nil)) pe_int) pa_nil)) (by rfl))
  (pss_cons (ps_while PassesOwn.never (pt_cmpR op_lt (pv 3) (pv 4) (nomark _))
  (pss_cons (ps_set (i := 5) sc__least_shown.nd rfl (.inl rfl) (pe_op op_fdivA (pe_op op_addG (pv 3) (pv 4)) pe_int))
  (pss_one (ps_if (pt_val (pe_callG C__is_behind_shown hg (hr.mono (by decide)) (by rfl) T.g__is_behind_shown T.F__is_behind_shown.kp T.b__is_behind_shown (pa_cons (pv 0) (pa_cons (pv 5) (pa_cons (pv 1) (pa_cons (pv 2) pa_nil))))))
  (pss_one (ps_set (i := 4) sc__least_shown.nd rfl (.inl rfl) (pv 5)))
  (pss_one (ps_set (i := 3) sc__least_shown.nd rfl (.inl rfl) (pe_op op_addG (pv 5) pe_int)))))))
  (pss_one (ps_ret (pe_ifExp (pt_val (pe_callG C_is_shown hg (hr.mono (by decide)) (by rfl) T.g_is_shown T.F_is_shown.kp T.b_is_shown (pa_cons (pv 0) (pa_cons (pv 3) (pa_cons (pv 1) (pa_cons (pv 2) pa_nil)))))) (pv 3) pe_non))))), fun H0 own0 bg xs R h => ?_⟩)
  obtain ⟨_, ts, c, d, rfl, ht, hl, hd, hc, hR⟩ := h
  change S _ _ [.dat (.list (ts.map tD)), .dat (.int (c : Int)), .dat (.int (d : Int)), .no, .no, .no] _
  try dsimp only [cxOf]
  have few := ht.few
  refine s_seq ?_
  repeat walk_at "ds"
  rw [List.length_map]
  have e0 : ((ts.length : Nat) : Int) - 1 = ((ts.length - 1 : Nat) : Int) := by omega
  rw [e0]
  refine s_seq (s_while (fun m ρ => ∃ (lo hi : Nat) (x5 : Sl), ρ = [.dat (.list (ts.map tD)), .dat (.int (c : Int)), .dat (.int (d : Int)), .dat (.int (lo : Int)), .dat (.int (hi : Int)), x5] ∧ m = hi - lo ∧ lo ≤ hi ∧ hi < ts.length ∧ behindB ts hi c d = true ∧ ∀ j, j < lo → behindB ts j c d = false) (m0 := ts.length - 1)
    ⟨0, ts.length - 1, .no, rfl, by omega, by omega, by omega, behind_last ht hc (by omega), fun j hj => by omega⟩ ?_)
  rintro m ρ ⟨lo, hi, x5, rfl, hm, hlh, hhi, hb, hn⟩
  repeat walk_at "dl"
  refine ite2 (fun h => ?_) (fun h => ?_)
  · have h := of_decide_eq_true h
    have e2 : ((lo : Int) + (hi : Int)).fdiv 2 = (((lo + hi) / 2 : Nat) : Int) := by
      rw [Int.fdiv_eq_ediv_of_nonneg _ (by decide)]
      omega
    repeat walk_at "dl"
    refine ⟨(Sm.mono (a := 20) (by unfold Sm; omega) (by decide) : Sm 9000 ((lo : Int) + (hi : Int))).fd (by decide), ?_⟩
    rw [e2]
    repeat walk_at "dl"
    refine ⟨rfl, ts, (lo + hi) / 2, c, d, rfl, ht, by omega, hd, hc, ?_⟩
    cases hx : behindB ts ((lo + hi) / 2) c d with
    | true =>
      repeat walk_at "dl"
      refine iteT ?_
      repeat walk_at "dl"
      exact ⟨(lo + hi) / 2 - lo, by omega, lo, (lo + hi) / 2, _, rfl, rfl, by omega, by omega, hx, hn⟩
    | false =>
      repeat walk_at "dl"
      refine iteF ?_
      repeat walk_at "dl"
      refine ⟨hi - ((lo + hi) / 2 + 1), by omega, (lo + hi) / 2 + 1, hi, _, rfl, rfl, by omega, by omega, hb, fun j hj => ?_⟩
      cases hj2 : behindB ts j c d with
      | false => rfl
      | true =>
        have := behind_ups ht hc hj2 ((lo + hi) / 2) (by omega)
        rw [hx] at this
        exact nomatch this
  · have h : ¬ (lo : Int) < (hi : Int) := fun z => h (decide_eq_true z)
    have e : lo = hi := by omega
    subst e
    rw [lsh_at hhi hb hn] at hR
    repeat walk_at "dl"
    refine ⟨rfl, ts, lo, c, d, rfl, ht, hhi, hd, hc, ?_⟩
    rw [hb]
    cases ha : aheadB ts lo c d with
    | true =>
      rw [ha] at hR
      repeat walk_at "dl"
      refine iteT ?_
      repeat walk_at "dl"
      exact hR
    | false =>
      rw [ha] at hR
      repeat walk_at "dl"
      refine iteF ?_
      repeat walk_at "dl"
      exact hR
end
section
variable {P : Program} {w : World} {K : PySem.W.Frag} {mg : Str → Option Value} {bs : Heap}
def gs_shown_within : Gs := fun xs R => xs.length = 4 ∧ ∃ (ts : List En3) (seed : Int) (cs : List Coin) (nm : List Int) (most : Nat), xs = [.dat (.list (ts.map tD)), .dat (coinsD seed cs), .dat (nmD nm), .dat (.int (most : Int))] ∧ EsOk ts ∧ 0 < ts.length ∧ CsOk cs ∧ NmOk nm ∧ most ≤ 60 ∧ R (shw ts seed cs nm (most + 1) 0)
theorem ok_shown_within (T : Txt K mg) (nd : bs.NoDigits) : FnG P w K mg bs 6 T.a_shown_within T.d_shown_within ["numbers", "coins", "name", "most"] (spG K gs_shown_within) := by
  have C__least_shown := ok__least_shown (P := P) (w := w) (bs := bs) T nd
  have C__with_next := ok__with_next (P := P) (w := w) (bs := bs) T nd
  refine fnD T.F_shown_within sc_shown_within (fun xs R h => h.1) (fun cd A out s H E hg hr => ⟨_, (pss_cons (ps_set (i := 4) sc_shown_within.nd rfl (.inl rfl) pe_int)
  (pss_cons (ps_for PassesOwn.never rfl (pi_range1 (by rfl) T.z_range (pa_cons (pe_op op_addG (pv 3) pe_int) pa_nil)) (pg_name (i := 5) sc_shown_within.nd rfl (.inl rfl))
  (pss_cons (ps_set (i := 6) sc_shown_within.nd rfl (.inl rfl) (pe_callG C__least_shown hg (hr.mono (by decide)) (by rfl) T.g__least_shown T.F__least_shown.kp T.b__least_shown (pa_cons (pv 0) (pa_cons (pv 4) (pa_cons (pv 5) pa_nil)))))
  (pss_cons (ps_if (pt_cmpR op_notN (pv 6) pe_non (nomark _))
  (pss_one (ps_ret (pe_tup (pa_cons (pv 6) (pa_cons (pv 5) pa_nil)))))
  pss_nil)
  (pss_one (ps_set (i := 4) sc_shown_within.nd rfl (.inl rfl) (pe_callG C__with_next hg (hr.mono (by decide)) (by rfl) T.g__with_next T.F__with_next.kp T.b__with_next (pa_cons (pv 4) (pa_cons (pv 1) (pa_cons (pv 2) (pa_cons (pv 5) pa_nil))))))))))
  (pss_one (ps_ret pe_non)))), fun H0 own0 bg xs R h => ?_⟩)
  obtain ⟨_, ts, seed, cs, nm, most, rfl, ht, hl, hcs, hn, hm, hR⟩ := h
  change S _ _ [.dat (.list (ts.map tD)), .dat (coinsD seed cs), .dat (nmD nm), .dat (.int (most : Int)), .no, .no, .no] _
  try dsimp only [cxOf]
  repeat walk_at "dl"
  refine s_forR1 (a_cons ?_)
  repeat walk_at "dl"
  refine ⟨by omega, fun i ρ => ∃ x5 x6, ρ = [.dat (.list (ts.map tD)), .dat (coinsD seed cs), .dat (nmD nm), .dat (.int (most : Int)), .dat (.int (beg seed cs nm i)), x5, x6] ∧ (i ≤ most + 1 → shw ts seed cs nm (most + 1 - i) i = shw ts seed cs nm (most + 1) 0), ⟨.no, .no, rfl, fun _ => rfl⟩, ?_, ?_⟩
  · rintro i ρ' hi ⟨x5, x6, rfl, hI⟩
    have hi : i < most + 1 := by omega
    have hI := hI (by omega)
    obtain ⟨r, hr⟩ : ∃ r, most + 1 - i = r + 1 := ⟨most - i, by omega⟩
    rw [hr] at hI
    obtain ⟨b1, b2⟩ := beg_nat seed cs nm i
    try dsimp only [List.set]
    repeat walk_at "dl"
    refine ⟨rfl, ts, (beg seed cs nm i).toNat, i, by rw [b1], ht, hl, by omega, b2, ?_⟩
    rcases lsh_cases ts (beg seed cs nm i).toNat i with ⟨m, hm, e, _, _⟩ | e
    · rw [e]
      repeat walk_at "dl"
      refine ⟨rfl, ?_⟩
      repeat walk_at "dl"
      refine iteT ?_
      repeat walk_at "dl"
      rw [← hI, shw_hit e] at hR
      exact hR
    · rw [e]
      repeat walk_at "dl"
      refine ⟨rfl, ?_⟩
      repeat walk_at "dl"
      refine iteF ?_
      repeat walk_at "dl"
      refine ⟨rfl, seed, cs, nm, i, rfl, hcs, hn, by omega, ?_⟩
      repeat walk_at "dl"
      refine fun _ => ?_
      rw [← hI, shw_no e]
      congr 1
      omega
  rintro ρ' ⟨x5, x6, rfl, hI⟩
  have hI := hI (by omega)
  repeat walk_at "dl"
  have e0 : most + 1 - ((most : Int) + 1).toNat = 0 := by omega
  rw [e0] at hI
  rw [← hI] at hR
  exact hR
end
section
variable {P : Program} {w : World} {K : PySem.W.Frag} {mg : Str → Option Value} {bs : Heap}
theorem ok__law_bag (T : Txt K mg) (nd : bs.NoDigits) : FnG P w K mg bs 1 T.a__law_bag T.d__law_bag ["script"] (spBag K) := by
  refine fnG T.F__law_bag sc__law_bag (fun vs H Q E h => ?_) (fun cd A out s H vs Q E hg hr h => ?_)
  · obtain ⟨a, ns, rfl, _⟩ := h
    rfl
  · obtain ⟨a, ns, rfl, hS, k⟩ := h
    refine ⟨_, (pss_one (ps_ret (pe_lst (pa_cons pe_int (pa_cons pe_int (pa_cons pe_int (pa_cons (pe_lc (own := [("cell", 1)]) (g := gName 1) (tt := tYes) (by rfl) sc__law_bag.nd (pi_listK (K := K) rfl (pe_slice sl_list (pv 0) po_none (po_some pe_int))) (blkOk_by (own := [("cell", 1)]) (N := ["script", "cell"]) (sc := defScope s__law_bag) (by decide +kernel)) (fun _ _ _ _ _ => pg_name (i := 1) sc__law_bag.nd rfl (Or.inl rfl)) (fun _ _ _ _ _ => pts_nil) (fun _ _ _ _ _ => (pe_callB call_abs (by rfl) T.z_abs (by decide +kernel) (pa_cons (pv 1) pa_nil)))) pa_nil))))))), ?_⟩
    refine bag_go (Q := Q) hS rfl ?_ k
    dsimp only [cxOf, List.map]
    repeat walk_at "dl"
    refine e_lcL ?_
    repeat walk_at "dl"
    have few : (DL.cutD (ns.map PyData.int) none (some 63)).length ≤ 63 := by
      unfold DL.cutD
      rw [List.length_take]
      have e1 := HT.sIx_none (ns.map PyData.int).length 0
      have e2 := HT.sIx_nat (ns.map PyData.int).length (ns.map PyData.int).length 63
      have e3 : HT.sIx (ns.map PyData.int).length (ns.map PyData.int).length (some 63) = min 63 (ns.map PyData.int).length := e2
      rw [e1, e3]
      omega
    obtain ⟨cs, hcs, _⟩ := cut_ints ns none (some 63)
    rw [hcs, List.length_map] at few
    rw [hcs]
    refine ⟨by rw [List.length_map]; exact Nat.le_trans few (Nat.le_of_ble_eq_true rfl), fun i acc => ∃ ms : List Int, acc = ms.map PyData.int, ⟨[], rfl⟩, ?_, ?_⟩
    · rintro i d acc hd ⟨ms, rfl⟩
      obtain ⟨c, rfl⟩ : ∃ c : Int, d = .int c := by
        rw [List.getElem?_map] at hd
        cases q : cs[i]? with
        | none =>
          rw [q] at hd
          cases hd
        | some c =>
          rw [q] at hd
          exact ⟨c, (Option.some.inj hd).symm⟩
      unfold Lc
      refine t_yes (iteT ?_)
      repeat walk_at "dl"
      refine ⟨ms ++ [if c < 0 then -c else c], ?_⟩
      rw [List.map_append]
      rfl
    · rintro acc ⟨ms, rfl⟩ hl
      repeat walk_at "dl"
      rw [List.length_map, List.length_map] at hl
      exact ⟨ms, by omega, rfl⟩
end
section
variable {P : Program} {w : World} {K : PySem.W.Frag} {mg : Str → Option Value} {bs : Heap}
def gs__law_take : Gs := fun xs R => xs.length = 2 ∧ ∃ n : Int, xs = [.bag, .dat (.int n)] ∧ 1 ≤ n ∧ Sm 250 n ∧ ∀ r : Int, 0 ≤ r → r < n → R (.int r)
theorem ok__law_take (T : Txt K mg) (nd : bs.NoDigits) : FnG P w K mg bs 1 T.a__law_take T.d__law_take ["bag", "many"] (spG K gs__law_take) := by
  refine fnD T.F__law_take sc__law_take (fun xs R h => h.1) (fun cd A out s H E hg hr => ⟨_, (pss_cons (ps_if (pt_cmpR (op_eqK (K := K) rfl (by exact hr.units)) (pe_ix (ix_seqK (K := K) rfl) (pv 0) pe_int (fun _ _ => rfl)) pe_int (nomark _))
  (pss_cons (ps_set (i := 2) sc__law_take.nd rfl (.inl rfl) (pe_ix (ix_seqK (K := K) rfl) (pe_op op_catL (pe_slice sl_list (pe_ix (ix_seqK (K := K) rfl) (pv 0) pe_int (fun _ _ => rfl)) (po_some (pe_ix (ix_seqK (K := K) rfl) (pv 0) pe_int (fun _ _ => rfl))) po_none) (pe_lst (pa_cons pe_int pa_nil))) pe_int (fun _ _ => rfl)))
  (pss_cons (ps_augS (pv 0) pe_int get_list pe_int ip_add set_list)
  (pss_cons (ps_if (pt_cmpR op_ge (pv 2) (pe_op op_pow pe_int pe_int) (nomark _))
  (pss_one (ps_asg (pv 2) (pg_sub (pv 0) pe_int set_list)))
  pss_nil)
  (pss_cons (ps_set (i := 3) sc__law_take.nd rfl (.inl rfl) (pe_op op_addG (pe_op op_addG (pe_op op_mulG (pe_ix (ix_seqK (K := K) rfl) (pv 0) pe_int (fun _ _ => rfl)) pe_int) (pe_op op_modN (pe_callTy call_int1 (by rfl) T.z_int (by decide +kernel) (pa_cons (pv 2) pa_nil)) pe_int)) (pe_op op_mulG pe_int (pe_ix (ix_seqK (K := K) rfl) (pv 0) pe_int (fun _ _ => rfl)))))
  (pss_one (ps_asg (pe_op op_modN (pe_callTy call_int1 (by rfl) T.z_int (by decide +kernel) (pa_cons (pv 3) pa_nil)) pe_int) (pg_sub (pv 0) pe_int set_list)))))))
  pss_nil)
  (pss_cons (ps_if (pt_cmpR op_gt (pe_ix (ix_seqK (K := K) rfl) (pv 0) pe_int (fun _ _ => rfl)) pe_int (nomark _))
  (pss_cons (ps_set (i := 4) sc__law_take.nd rfl (.inl rfl) (pe_op op_modN (pe_callTy call_int1 (by rfl) T.z_int (by decide +kernel) (pa_cons (pe_ix (ix_seqK (K := K) rfl) (pv 0) pe_int (fun _ _ => rfl)) pa_nil)) (pv 1)))
  (pss_cons (ps_asg (pe_op op_fdivA (pe_callTy call_int1 (by rfl) T.z_int (by decide +kernel) (pa_cons (pe_ix (ix_seqK (K := K) rfl) (pv 0) pe_int (fun _ _ => rfl)) pa_nil)) (pv 1)) (pg_sub (pv 0) pe_int set_list))
  (pss_one (ps_ret (pv 4)))))
  pss_nil)
  (pss_cons (ps_set (i := 5) sc__law_take.nd rfl (.inl rfl) (pe_op op_modN (pe_callTy call_int1 (by rfl) T.z_int (by decide +kernel) (pa_cons (pe_op op_mulG (pe_op op_addG (pe_ix (ix_seqK (K := K) rfl) (pv 0) pe_int (fun _ _ => rfl)) pe_int) pe_int) pa_nil)) pe_int))
  (pss_cons (ps_set (i := 6) sc__law_take.nd rfl (.inl rfl) (pe_op op_modN (pe_callTy call_int1 (by rfl) T.z_int (by decide +kernel) (pa_cons (pe_op op_mulG (pe_op op_modN (pe_callTy call_int1 (by rfl) T.z_int (by decide +kernel) (pa_cons (pe_op op_mulG (pv 5) (pv 5)) pa_nil)) pe_int) pe_int) pa_nil)) pe_int))
  (pss_one (ps_ret (pe_op op_modN (pe_callTy call_int1 (by rfl) T.z_int (by decide +kernel) (pa_cons (pe_op op_fdivA (pv 6) pe_int) pa_nil)) (pv 1)))))))), fun H0 own0 bg xs R h => ?_⟩)
  obtain ⟨_, n, rfl, n1, n2, hR⟩ := h
  change S _ _ [.bag, .dat (.int n), .no, .no, .no, .no, .no] _
  try dsimp only [cxOf]
  have nz : n ≠ 0 := by omega
  have np : ∀ c : Int, CFd c n := fun c => ⟨nz, PyProof.noPylong_of_log2 ((n2.mono (by decide : 250 ≤ 9000)).log (by decide))⟩
  have md : ∀ c : Int, 0 ≤ c.fmod n ∧ c.fmod n < n := fun c => by
    rw [Int.fmod_eq_emod_of_nonneg _ (by omega)]
    exact ⟨Int.emod_nonneg _ nz, Int.emod_lt_of_pos _ (by omega)⟩
  have mo : ∀ (c : Int) (k : Int), 0 < k → 0 ≤ c.fmod k ∧ c.fmod k < k := fun c k hk => by
    rw [Int.fmod_eq_emod_of_nonneg _ (by omega)]
    exact ⟨Int.emod_nonneg _ (by omega), Int.emod_lt_of_pos _ hk⟩
  refine s_seq (S.cut (M := fun ρ => ∃ x2 x3, ρ = [.bag, .dat (.int n), x2, x3, .no, .no, .no]) ?_ ?_)
  · repeat walk_at "dl"
    refine ite2 (fun hc => ?_) (fun hc => ?_)
    · repeat walk_at "dl"
      intro ns hns
      repeat walk_at "dl"
      rename_i c1
      refine ⟨?_, ?_⟩
      · have := cut_nil ns (some c1) none
        have big : 64 ≤ sizeLine := Nat.le_of_ble_eq_true rfl
        show (cutD (ns.map PyData.int) (some c1) none).length + 1 ≤ sizeLine
        omega
      repeat walk_at "dl"
      obtain ⟨cell, hcell⟩ := cut_first ns (some c1) none 0
      refine ⟨_, _, rfl, hcell, ?_⟩
      repeat walk_at "dl"
      refine ite2 (fun hc => ?_) (fun hc => ?_)
      · repeat walk_at "dl"
        exact ⟨_, _, rfl⟩
      · repeat walk_at "dl"
        exact ⟨_, _, rfl⟩
    · repeat walk_at "dl"
      exact ⟨_, _, rfl⟩
  · rintro ρ ⟨x2, x3, rfl⟩
    repeat walk_at "dl"
    refine ite2 (fun hc => ?_) (fun hc => ?_)
    · repeat walk_at "dl"
      rename_i c1
      refine ⟨nz, ?_⟩
      repeat walk_at "dl"
      refine ⟨np _, ?_⟩
      repeat walk_at "dl"
      exact hR _ (md _).1 (md _).2
    · repeat walk_at "dl"
      rename_i c1
      have b1 := mo ((c1 + 1) * 39373) 1000000007 (by decide)
      generalize ((c1 + 1) * 39373).fmod 1000000007 = beg at b1 ⊢
      refine ⟨.inr (.inl ⟨by omega, by omega⟩), ?_⟩
      repeat walk_at "dl"
      refine ⟨⟨by decide, PyProof.noPylong_small (by decide)⟩, ?_⟩
      repeat walk_at "dl"
      refine ⟨nz, ?_⟩
      repeat walk_at "dl"
      exact hR _ (md _).1 (md _).2
end
section
variable {P : Program} {w : World} {K : PySem.W.Frag} {mg : Str → Option Value} {bs : Heap}
def gs__law_some : Gs := fun xs R => xs.length = 2 ∧ ∃ ds : List PyData, xs = [.bag, .dat (.list ds)] ∧ 0 < ds.length ∧ ds.length < 1073741824 ∧ ∀ d, d ∈ ds → R d
theorem ok__law_some (T : Txt K mg) (nd : bs.NoDigits) : FnG P w K mg bs 2 T.a__law_some T.d__law_some ["bag", "things"] (spG K gs__law_some) := by
  have C__law_take := ok__law_take (P := P) (w := w) (bs := bs) T nd
  refine fnD T.F__law_some sc__law_some (fun xs R h => h.1) (fun cd A out s H E hg hr => ⟨_, (pss_one (ps_ret (pe_ix (ix_seqK (K := K) rfl) (pv 1) (pe_callG C__law_take hg (hr.mono (by decide)) (by rfl) T.g__law_take T.F__law_take.kp T.b__law_take (pa_cons (pv 0) (pa_cons (pe_callB (call_lenK (K := K) rfl) (by rfl) T.z_len (by decide +kernel) (pa_cons (pv 1) pa_nil)) pa_nil))) (fun _ _ => rfl)))), fun H0 own0 bg xs R h => ?_⟩)
  obtain ⟨_, ds, rfl, h0, h1, hR⟩ := h
  change S _ _ [.bag, .dat (.list ds)] _
  try dsimp only [cxOf]
  repeat walk_at "dl"
  refine ⟨rfl, _, rfl, by omega, Sm.mono (a := 31) (by unfold Sm; omega) (by decide), fun r r0 r1 => ?_⟩
  have hr : r.toNat < ds.length := by omega
  have at_ : atI ds r = some ds[r.toNat] := by
    unfold atI ixN
    rw [if_pos r0, if_pos r1]
    exact List.getElem?_eq_getElem hr
  refine ⟨_, _, rfl, at_, _, rfl, hR _ (List.getElem_mem hr)⟩
end
section
variable {P : Program} {w : World} {K : PySem.W.Frag} {mg : Str → Option Value} {bs : Heap}
def gs__law_alike : Gs := fun xs R => xs.length = 2 ∧ ∃ (d : PyData) (m k : Nat), xs = [.dat d, .dat d] ∧ Fine m k d ∧ m ≤ 16000000 ∧ k ≤ 60 ∧ R (.bool true)
theorem ok__law_alike (T : Txt K mg) (nd : bs.NoDigits) : FnG P w K mg bs 1 T.a__law_alike T.d__law_alike ["found", "due"] (spG K gs__law_alike) := by
  refine fnD T.F__law_alike sc__law_alike (fun xs R h => h.1) (fun cd A out s H E hg hr => ⟨_, (pss_one (ps_ret (pe_and (pe_cmpR (op_eqK (K := K) rfl (by exact hr.units)) (pv 0) (pv 1) (nomark _)) (pe_one (pe_cmpR (op_eqK (K := K) rfl (by exact hr.units)) (pe_callB (call_repr hg nd hr.units) (by rfl) T.z_repr (by decide +kernel) (pa_cons (pv 0) pa_nil)) (pe_callB (call_repr hg nd hr.units) (by rfl) T.z_repr (by decide +kernel) (pa_cons (pv 1) pa_nil)) (nomark _)))))), fun H0 own0 bg xs R h => ?_⟩)
  obtain ⟨_, d, m, k, rfl, hd, hm, hk, hR⟩ := h
  change S _ _ [.dat d, .dat d] _
  try dsimp only [cxOf]
  have sz : d.shown.length ≤ sizeLine := Nat.le_trans hd.len (Nat.le_trans hm (Nat.le_of_ble_eq_true rfl))
  repeat walk_at "dl"
  refine ⟨hd.shaped hk, hd.shaped hk, ?_⟩
  rw [SeqAt.eqv_refl d hd.lay]
  repeat walk_at "dl"
  refine iteT ?_
  repeat walk_at "dl"
  refine ⟨hd.num, sz, Nat.le_trans hd.deep hk, ?_⟩
  repeat walk_at "dl"
  refine ⟨hd.num, sz, Nat.le_trans hd.deep hk, ?_⟩
  repeat walk_at "dl"
  rw [decide_eq_true rfl]
  exact hR
end
section
variable {P : Program} {w : World} {K : PySem.W.Frag} {mg : Str → Option Value} {bs : Heap}
def gs__law_great : Gs := fun xs R => xs.length = 1 ∧ xs = [.bag] ∧ ∀ r : Int, 0 ≤ r → Sm 201 r → R (.int r)
theorem ok__law_great (T : Txt K mg) (nd : bs.NoDigits) : FnG P w K mg bs 2 T.a__law_great T.d__law_great ["bag"] (spG K gs__law_great) := by
  have C__law_take := ok__law_take (P := P) (w := w) (bs := bs) T nd
  refine fnD T.F__law_great sc__law_great (fun xs R h => h.1) (fun cd A out s H E hg hr => ⟨_, (pss_cons (ps_set (i := 1) sc__law_great.nd rfl (.inl rfl) (pe_callG C__law_take hg (hr.mono (by decide)) (by rfl) T.g__law_take T.F__law_take.kp T.b__law_take (pa_cons (pv 0) (pa_cons pe_int pa_nil))))
  (pss_cons (ps_if (pt_cmpR op_lt (pv 1) pe_int (nomark _))
  (pss_one (ps_ret (pe_callG C__law_take hg (hr.mono (by decide)) (by rfl) T.g__law_take T.F__law_take.kp T.b__law_take (pa_cons (pv 0) (pa_cons pe_int pa_nil)))))
  pss_nil)
  (pss_cons (ps_if (pt_cmpR (op_eqK (K := K) rfl (by exact hr.units)) (pv 1) pe_int (nomark _))
  (pss_one (ps_ret (pe_callG C__law_take hg (hr.mono (by decide)) (by rfl) T.g__law_take T.F__law_take.kp T.b__law_take (pa_cons (pv 0) (pa_cons (pe_op op_pow pe_int pe_int) pa_nil)))))
  pss_nil)
  (pss_cons (ps_set (i := 2) sc__law_great.nd rfl (.inl rfl) (pe_op op_sub pe_int (pe_callG C__law_take hg (hr.mono (by decide)) (by rfl) T.g__law_take T.F__law_take.kp T.b__law_take (pa_cons (pv 0) (pa_cons pe_int pa_nil)))))
  (pss_one (ps_ret (pe_ifExp (pt_cmpR (op_eqK (K := K) rfl (by exact hr.units)) (pe_callG C__law_take hg (hr.mono (by decide)) (by rfl) T.g__law_take T.F__law_take.kp T.b__law_take (pa_cons (pv 0) (pa_cons pe_int pa_nil))) pe_int (nomark _)) (pv 2) (pe_op op_fdivA (pv 2) pe_int)))))))), fun H0 own0 bg xs R h => ?_⟩)
  obtain ⟨_, rfl, hR⟩ := h
  change S _ _ [.bag, .no, .no] _
  try dsimp only [cxOf]
  repeat walk_at "dl"
  refine ⟨rfl, _, rfl, by decide, by decide, fun way w0 w1 => ?_⟩
  repeat walk_at "dl"
  refine ite2 (fun hc => ?_) (fun hc => ?_)
  · repeat walk_at "dl"
    refine ⟨rfl, _, rfl, by decide, by decide, fun r r0 r1 => ?_⟩
    exact ⟨_, rfl, hR r r0 (Sm.mono (a := 30) (by unfold Sm; omega) (by decide))⟩
  repeat walk_at "dl"
  refine ite2 (fun hc => ?_) (fun hc => ?_)
  · repeat walk_at "dl"
    refine ⟨rfl, _, rfl, by decide, by decide, fun r r0 r1 => ?_⟩
    have b9 : (10 : Int) ^ Int.toNat 9 < 2 ^ 30 := by decide
    have e30 : (2 : Int) ^ 30 = 1073741824 := by decide
    have e31 : (2 : Nat) ^ 31 = 2147483648 := by decide
    exact ⟨_, rfl, hR r r0 (Sm.mono (a := 31) (by unfold Sm; omega) (by decide))⟩
  repeat walk_at "dl"
  refine ⟨rfl, _, rfl, by decide, by decide, fun r r0 r1 => ?_⟩
  repeat walk_at "dx"
  have sb : Sm 201 (1606938044258990275541962092341162602522202993782792835301376 - r) := Sm.le (show Sm 201 1606938044258990275541962092341162602522202993782792835301376 by decide) (by omega) (by omega)
  have nb : (0 : Int) ≤ 1606938044258990275541962092341162602522202993782792835301376 - r := by omega
  generalize (1606938044258990275541962092341162602522202993782792835301376 - r : Int) = f at sb nb ⊢
  repeat walk_at "dl"
  refine ⟨rfl, _, rfl, by decide, by decide, fun r2 r20 r21 => ?_⟩
  repeat walk_at "dl"
  refine ite2 (fun hc => ?_) (fun hc => ?_)
  · repeat walk_at "dl"
    exact hR f nb sb
  · repeat walk_at "dl"
    refine ⟨(sb.mono (by decide)).fd (by decide), ?_⟩
    refine ⟨_, rfl, hR _ ?_ ?_⟩
    · rw [Int.fdiv_eq_ediv_of_nonneg _ (by decide)]
      exact Int.ediv_nonneg nb (by decide)
    · rw [Int.fdiv_eq_ediv_of_nonneg _ (by decide)]
      exact sb.le (Int.ediv_nonneg nb (by decide)) (Int.ediv_le_self _ nb)
end
section
variable {P : Program} {w : World} {K : PySem.W.Frag} {mg : Str → Option Value} {bs : Heap}
def gs__law_name : Gs := fun xs R => xs.length = 1 ∧ xs = [.bag] ∧ ∀ nm : List Int, NmOk nm → R (nmD nm)
theorem ok__law_name (T : Txt K mg) (nd : bs.NoDigits) : FnG P w K mg bs 3 T.a__law_name T.d__law_name ["bag"] (spG K gs__law_name) := by
  have C__law_great := ok__law_great (P := P) (w := w) (bs := bs) T nd
  have C__law_take := ok__law_take (P := P) (w := w) (bs := bs) T nd
  refine fnD T.F__law_name sc__law_name (fun xs R h => h.1) (fun cd A out s H E hg hr => ⟨_, (pss_cons (ps_if (pt_cmpR (op_eqK (K := K) rfl (by exact hr.units)) (pe_callG C__law_take hg (hr.mono (by decide)) (by rfl) T.g__law_take T.F__law_take.kp T.b__law_take (pa_cons (pv 0) (pa_cons pe_int pa_nil))) pe_int (nomark _))
  (pss_one (ps_ret (pe_tup pa_nil)))
  pss_nil)
  (pss_cons (ps_set (i := 1) sc__law_name.nd rfl (.inl rfl) (pe_callG C__law_great hg (hr.mono (by decide)) (by rfl) T.g__law_great T.F__law_great.kp T.b__law_great (pa_cons (pv 0) pa_nil)))
  (pss_one (ps_ret (pe_tup (pa_cons (pv 1) (pa_cons (pe_op op_addG (pe_op op_addG (pv 1) pe_int) (pe_callG C__law_great hg (hr.mono (by decide)) (by rfl) T.g__law_great T.F__law_great.kp T.b__law_great (pa_cons (pv 0) pa_nil))) pa_nil))))))), fun H0 own0 bg xs R h => ?_⟩)
  obtain ⟨_, rfl, hR⟩ := h
  change S _ _ [.bag, .no] _
  try dsimp only [cxOf]
  repeat walk_at "dl"
  refine ⟨rfl, _, rfl, by decide, by decide, fun way w0 w1 => ?_⟩
  repeat walk_at "dl"
  refine ite2 (fun hc => ?_) (fun hc => ?_)
  · repeat walk_at "dl"
    exact hR [] ⟨.inl rfl, fun i hi => nomatch hi⟩
  repeat walk_at "dl"
  refine ⟨rfl, rfl, fun i i0 si => ?_⟩
  repeat walk_at "dl"
  refine ⟨rfl, rfl, fun j j0 sj => ?_⟩
  repeat walk_at "dl"
  refine hR [i, i + 1 + j] ⟨.inr ⟨_, _, rfl⟩, fun z hz => ?_⟩
  simp only [List.mem_cons, List.not_mem_nil, or_false] at hz
  rcases hz with rfl | rfl
  · exact ⟨i0, si.mono (by decide)⟩
  · exact ⟨by omega, ((si.add ((show Sm 1 1 by decide).mono (by decide))).add (sj.mono (by decide))).mono (by decide)⟩
end
section
variable {P : Program} {w : World} {K : PySem.W.Frag} {mg : Str → Option Value} {bs : Heap}
def gs__law_seed : Gs := fun xs R => xs.length = 1 ∧ xs = [.bag] ∧ ∀ s : Int, 0 ≤ s → Sm 140 s → R (.int s)
theorem ok__law_seed (T : Txt K mg) (nd : bs.NoDigits) : FnG P w K mg bs 3 T.a__law_seed T.d__law_seed ["bag"] (spG K gs__law_seed) := by
  have C__law_some := ok__law_some (P := P) (w := w) (bs := bs) T nd
  have C__law_take := ok__law_take (P := P) (w := w) (bs := bs) T nd
  refine fnD T.F__law_seed sc__law_seed (fun xs R h => h.1) (fun cd A out s H E hg hr => ⟨_, (pss_cons (ps_if (pt_cmpR (op_eqK (K := K) rfl (by exact hr.units)) (pe_callG C__law_take hg (hr.mono (by decide)) (by rfl) T.g__law_take T.F__law_take.kp T.b__law_take (pa_cons (pv 0) (pa_cons pe_int pa_nil))) pe_int (nomark _))
  (pss_one (ps_ret (pe_callG C__law_some hg (hr.mono (by decide)) (by rfl) T.g__law_some T.F__law_some.kp T.b__law_some (pa_cons (pv 0) (pa_cons (pe_lst (pa_cons pe_int (pa_cons pe_int (pa_cons pe_int (pa_cons pe_int (pa_cons (pe_op op_sub (pe_op op_pow pe_int pe_int) pe_int) pa_nil)))))) pa_nil)))))
  pss_nil)
  (pss_one (ps_ret (pe_callG C__law_some hg (hr.mono (by decide)) (by rfl) T.g__law_some T.F__law_some.kp T.b__law_some (pa_cons (pv 0) (pa_cons (pe_lst (pa_cons (pe_callG C__law_take hg (hr.mono (by decide)) (by rfl) T.g__law_take T.F__law_take.kp T.b__law_take (pa_cons (pv 0) (pa_cons pe_int pa_nil))) (pa_cons (pe_callG C__law_take hg (hr.mono (by decide)) (by rfl) T.g__law_take T.F__law_take.kp T.b__law_take (pa_cons (pv 0) (pa_cons (pe_op op_pow pe_int pe_int) pa_nil))) (pa_cons (pe_op op_mulG (pe_callG C__law_take hg (hr.mono (by decide)) (by rfl) T.g__law_take T.F__law_take.kp T.b__law_take (pa_cons (pv 0) (pa_cons (pe_op op_pow pe_int pe_int) pa_nil))) (pe_op op_pow pe_int pe_int)) pa_nil)))) pa_nil)))))), fun H0 own0 bg xs R h => ?_⟩)
  obtain ⟨_, rfl, hR⟩ := h
  change S _ _ [.bag] _
  try dsimp only [cxOf]
  repeat walk_at "dl"
  refine ⟨rfl, _, rfl, by decide, by decide, fun way w0 w1 => ?_⟩
  repeat walk_at "dl"
  refine ite2 (fun hc => ?_) (fun hc => ?_)
  · repeat walk_at "dl"
    refine ⟨rfl, _, rfl, Nat.le_of_ble_eq_true rfl, Nat.le_of_ble_eq_true rfl, fun d hd => ?_⟩
    obtain ⟨s, rfl, s0, s1⟩ : ∃ s : Int, d = .int s ∧ 0 ≤ s ∧ Sm 140 s := by
      simp only [List.mem_cons, List.not_mem_nil, or_false] at hd
      rcases hd with rfl | rfl | rfl | rfl | rfl <;> exact ⟨_, rfl, by decide, by decide⟩
    exact ⟨_, rfl, hR s s0 s1⟩
  have e30 : (2 : Nat) ^ 31 = 2147483648 := by decide
  have b9 : (10 : Int) ^ Int.toNat 9 < 1073741824 := by decide
  have b31 : Sm 104 ((10 : Int) ^ Int.toNat 31) := by decide
  have p31 : (0 : Int) ≤ 10 ^ Int.toNat 31 := by decide
  repeat walk_at "dl"
  refine ⟨rfl, _, rfl, by decide, by decide, fun r1 r10 r11 => ?_⟩
  repeat walk_at "dl"
  refine ⟨rfl, _, rfl, by decide, by decide, fun r2 r20 r21 => ?_⟩
  repeat walk_at "dl"
  refine ⟨rfl, _, rfl, by decide, by decide, fun r3 r30 r31 => ?_⟩
  repeat walk_at "dl"
  have s3 : Sm 31 r3 := by unfold Sm; omega
  have s2 : Sm 31 r2 := by unfold Sm; omega
  have s1 : Sm 31 r1 := by unfold Sm; omega
  refine ⟨Sm.mulX s3 b31 (by decide), ?_⟩
  repeat walk_at "dl"
  refine ⟨rfl, _, rfl, Nat.le_of_ble_eq_true rfl, Nat.le_of_ble_eq_true rfl, fun d hd => ?_⟩
  obtain ⟨s, rfl, s0, ss⟩ : ∃ s : Int, d = .int s ∧ 0 ≤ s ∧ Sm 140 s := by
    simp only [List.mem_cons, List.not_mem_nil, or_false] at hd
    rcases hd with rfl | rfl | rfl
    · exact ⟨_, rfl, r10, s1.mono (by decide)⟩
    · exact ⟨_, rfl, r20, s2.mono (by decide)⟩
    · exact ⟨_, rfl, Int.mul_nonneg r30 p31, (s3.mul b31).mono (by decide)⟩
  exact ⟨_, rfl, hR s s0 ss⟩
end
section
variable {P : Program} {w : World} {K : PySem.W.Frag} {mg : Str → Option Value} {bs : Heap}
def gs__law_many_coins : Gs := fun xs R => xs.length = 2 ∧ ∃ nms : List (List Int), xs = [.bag, .dat (.list (nms.map nmD))] ∧ (0 < nms.length ∧ nms.length ≤ 10) ∧ (∀ nm ∈ nms, NmOk nm) ∧ ∀ (seed : Int) (cs : List Coin), 0 ≤ seed → Sm 140 seed → CsOk cs → cs.length ≤ 20 → (∀ c ∈ cs, c.1 ∈ nms) → R (coinsD seed cs)
theorem ok__law_many_coins (T : Txt K mg) (nd : bs.NoDigits) : FnG P w K mg bs 4 T.a__law_many_coins T.d__law_many_coins ["bag", "names"] (spG K gs__law_many_coins) := by
  have C__law_seed := ok__law_seed (P := P) (w := w) (bs := bs) T nd
  have C__law_some := ok__law_some (P := P) (w := w) (bs := bs) T nd
  have C__law_take := ok__law_take (P := P) (w := w) (bs := bs) T nd
  refine fnD T.F__law_many_coins sc__law_many_coins (fun xs R h => h.1) (fun cd A out s H E hg hr => ⟨_, (pss_cons (ps_set (i := 2) sc__law_many_coins.nd rfl (.inl rfl) (pe_lst pa_nil))
  (pss_cons (ps_for PassesOwn.never rfl (pi_range1 (by rfl) T.z_range (pa_cons (pe_callG C__law_some hg (hr.mono (by decide)) (by rfl) T.g__law_some T.F__law_some.kp T.b__law_some (pa_cons (pv 0) (pa_cons (pe_lst (pa_cons pe_int (pa_cons pe_int (pa_cons pe_int (pa_cons pe_int pa_nil))))) pa_nil))) pa_nil)) (pg_name (i := 3) sc__law_many_coins.nd rfl (.inl rfl))
  (pss_cons (ps_set (i := 4) sc__law_many_coins.nd rfl (.inl rfl) (pe_tup (pa_cons (pe_callG C__law_some hg (hr.mono (by decide)) (by rfl) T.g__law_some T.F__law_some.kp T.b__law_some (pa_cons (pv 0) (pa_cons (pv 1) pa_nil))) (pa_cons (pe_callG C__law_some hg (hr.mono (by decide)) (by rfl) T.g__law_some T.F__law_some.kp T.b__law_some (pa_cons (pv 0) (pa_cons (pe_lst (pa_cons pe_int (pa_cons pe_int (pa_cons pe_int (pa_cons pe_int (pa_cons (pe_callG C__law_take hg (hr.mono (by decide)) (by rfl) T.g__law_take T.F__law_take.kp T.b__law_take (pa_cons (pv 0) (pa_cons pe_int pa_nil))) (pa_cons (pe_callG C__law_take hg (hr.mono (by decide)) (by rfl) T.g__law_take T.F__law_take.kp T.b__law_take (pa_cons (pv 0) (pa_cons pe_int pa_nil))) pa_nil))))))) pa_nil))) pa_nil))))
  (pss_one (ps_if (pt_cmpR (op_notInK (K := K) rfl (by exact units65 hr)) (pv 4) (pe_lc (own := [("told", 5)]) (g := gName 5) (tt := tYes) (by rfl) sc__law_many_coins.nd (pi_listK (K := K) rfl (pv 2)) (blkOk_by (own := [("told", 5)]) (N := ["bag", "names", "found", "turn", "one", "told"]) (sc := defScope s__law_many_coins) (by decide +kernel)) (fun _ _ _ _ _ => pg_name (i := 5) sc__law_many_coins.nd rfl (Or.inl rfl)) (fun _ _ _ _ _ => pts_nil) (fun _ _ _ _ _ => (pe_slice (sl_seqK (K := K) rfl) (pv 5) po_none (po_some pe_int)))) (by rfl))
  (pss_one (ps_expr (pe_bm PySem.F.plainAttrs_list PySem.F.slot_list_append PySem.F.type_list_append mt_append (pv 2) (pa_cons (pe_op (op_catK (K := K) rfl) (pv 4) (pe_tup (pa_cons (pe_cmpR (op_eqK (K := K) rfl (by exact hr.units)) (pe_callG C__law_take hg (hr.mono (by decide)) (by rfl) T.g__law_take T.F__law_take.kp T.b__law_take (pa_cons (pv 0) (pa_cons pe_int pa_nil))) pe_int (nomark _)) pa_nil))) pa_nil))))
  pss_nil))))
  (pss_one (ps_ret (pe_tup (pa_cons (pe_callG C__law_seed hg (hr.mono (by decide)) (by rfl) T.g__law_seed T.F__law_seed.kp T.b__law_seed (pa_cons (pv 0) pa_nil)) (pa_cons (pe_callTy (call_tupleK (K := K) rfl) (by rfl) T.z_tuple (by decide +kernel) (pa_cons (pe_callB (call_sortK (K := K) rfl hr.units) (by rfl) T.z_sorted (by decide +kernel) (pa_cons (pv 2) pa_nil)) pa_nil)) pa_nil))))))), fun H0 own0 bg xs R h => ?_⟩)
  obtain ⟨_, nms, rfl, ⟨l0, l1⟩, hnm, hR⟩ := h
  change S _ _ [.bag, .dat (.list (nms.map nmD)), .no, .no, .no, .no] _
  try dsimp only [cxOf]
  have big : 1000 < sizeLine := Nat.le_of_ble_eq_true rfl
  refine s_seq (s_setOwn (a_nil ⟨[], rfl, Nat.zero_le _, fun p => ?_⟩))
  refine s_seq (s_forR1 (a_cons ?_))
  try dsimp only [List.set]
  repeat walk_at "dl"
  refine ⟨rfl, _, rfl, by decide, by decide, fun d hd => ?_⟩
  obtain ⟨n, rfl, n0, n1⟩ : ∃ n : Int, d = .int n ∧ 0 ≤ n ∧ n ≤ 20 := by
    simp only [List.mem_cons, List.not_mem_nil, or_false] at hd
    rcases hd with rfl | rfl | rfl | rfl <;> exact ⟨_, rfl, by decide, by decide⟩
  refine a_nil ⟨n, rfl, by omega, fun i ρ => ∃ (cs : List Coin) (x3 x4 : Sl), ρ = [.bag, .dat (.list (nms.map nmD)), .own p (cs.map cD), x3, x4, .no] ∧ cs.length ≤ i ∧ (∀ c ∈ cs, c.1 ∈ nms) ∧ CsOk cs, ⟨[], .no, .no, rfl, Nat.le_refl _, fun _ h => (nomatch h), ⟨Nat.zero_le _, fun _ h => (nomatch h), fun _ h => (nomatch h), fun _ h => (nomatch h)⟩⟩, ?_, ?_⟩
  · rintro i ρ' hi ⟨cs, x3, x4, rfl, hl, hin, hcs⟩
    try dsimp only [List.set]
    repeat walk_at "dl"
    refine ⟨rfl, _, rfl, by rw [List.length_map]; omega, by rw [List.length_map]; omega, fun d hd => ?_⟩
    obtain ⟨nm, hm, rfl⟩ := List.mem_map.mp hd
    have hn := hnm nm hm
    repeat walk_at "dl"
    refine ⟨rfl, _, rfl, by decide, by decide, fun r r0 r1 => ?_⟩
    repeat walk_at "dl"
    refine ⟨rfl, _, rfl, by decide, by decide, fun r2 r20 r21 => ?_⟩
    repeat walk_at "dl"
    refine ⟨rfl, _, rfl, by simp, by simp, fun d2 hd2 => ?_⟩
    obtain ⟨k, rfl, k0, k1⟩ : ∃ k : Int, d2 = .int k ∧ 0 ≤ k ∧ k < 90 := by
      simp only [List.mem_cons, List.not_mem_nil, or_false] at hd2
      rcases hd2 with rfl | rfl | rfl | rfl | rfl | rfl
      · exact ⟨_, rfl, by decide, by decide⟩
      · exact ⟨_, rfl, by decide, by decide⟩
      · exact ⟨_, rfl, by decide, by decide⟩
      · exact ⟨_, rfl, by decide, by decide⟩
      · exact ⟨_, rfl, r0, by omega⟩
      · exact ⟨_, rfl, r20, by omega⟩
    clear hd2 hd
    have ks : Sm 60 k := Sm.mono (a := 10) (by unfold Sm; omega) (by decide)
    repeat walk_at "dl"
    refine e_lcL (e_var rfl (fun h => nomatch h) ⟨cs.map cD, rfl, by rw [List.length_map]; omega, fun i acc => acc = (cs.take i).map fun c => .tuple [nmD c.1, .int c.2.1], rfl, ?_, ?_⟩)
    · rintro i d acc hi rfl
      obtain ⟨c, hc, rfl⟩ := map_getE hi
      try dsimp only [List.set]
      unfold Lc
      refine t_yes (iteT ?_)
      repeat walk_at "dl"
      dsimp only
      rw [List.take_succ, hc, List.map_append]
      rfl
    rintro acc rfl _
    rw [List.length_map, List.take_length]
    refine ⟨_, _, rfl, rfl, pair_shaped _ _, pairs_shaped hcs, ?_⟩
    rw [any_pair]
    repeat walk_at "dl"
    refine ite2 (fun h => ?_) (fun h => ?_)
    · refine s_app (p := p) (xs := cs.map cD) rfl ?_ ?_
      · rw [List.length_map]
        omega
      repeat walk_at "dl"
      refine ⟨rfl, _, rfl, by decide, by decide, fun r3 r30 r31 => ?_⟩
      repeat walk_at "dl"
      refine ⟨cs ++ [(nm, k, PyData.eqv (.int r3) (.int 0))], _, _, by rw [List.map_append]; rfl, by rw [List.length_append]; show cs.length + 1 ≤ _; omega, fun c hc => ?_, ?_⟩
      · rcases List.mem_append.mp hc with a | a
        · exact hin c a
        · rw [List.mem_singleton.mp a]
          exact hm
      exact hcs.add (by omega) hn ⟨k0, ks⟩ (by simpa using h)
    · repeat walk_at "dl"
      exact ⟨cs, _, _, rfl, by omega, hin, hcs⟩
  rintro ρ' ⟨cs, x3, x4, rfl, hl, hin, hcs⟩
  repeat walk_at "dl"
  refine ⟨rfl, rfl, fun s s0 ss => ?_⟩
  repeat walk_at "dl"
  refine ⟨hcs.one, fun es h1 h2 => ?_⟩
  repeat walk_at "dl"
  exact hR s es s0 ss (hcs.perm h2.perm) (by rw [h2.perm.length_eq]; omega) fun c hc => hin c (h2.perm.mem_iff.mp hc)
end
section
variable {P : Program} {w : World} {K : PySem.W.Frag} {mg : Str → Option Value} {bs : Heap}
def gs__law_power : Gs := fun xs R => xs.length = 1 ∧ ∃ d : Int, xs = [.dat (.int d)] ∧ 0 ≤ d ∧ d ≤ 310 ∧ R (.int (2 ^ d.toNat))
theorem ok__law_power (T : Txt K mg) (nd : bs.NoDigits) : FnG P w K mg bs 1 T.a__law_power T.d__law_power ["d"] (spG K gs__law_power) := by
  refine fnD T.F__law_power sc__law_power (fun xs R h => h.1) (fun cd A out s H E hg hr => ⟨_, (pss_cons (ps_asg (pe_tup (pa_cons pe_int (pa_cons pe_int pa_nil))) (pg_tup (by rfl) (pgs_cons (pg_name (i := 1) sc__law_power.nd rfl (.inl rfl)) (pgs_cons (pg_name (i := 2) sc__law_power.nd rfl (.inl rfl)) pgs_nil))))
  (pss_cons (ps_while PassesOwn.never (pt_cmpR op_gt (pv 0) pe_int (nomark _))
  (pss_cons (ps_if (pt_cmpR (op_eqK (K := K) rfl (by exact hr.units)) (pe_op op_sub (pv 0) (pe_op op_mulG (pe_op op_fdivA (pv 0) pe_int) pe_int)) pe_int (nomark _))
  (pss_one (ps_set (i := 1) sc__law_power.nd rfl (.inl rfl) (pe_op op_mulG (pv 1) (pv 2))))
  pss_nil)
  (pss_one (ps_par (i := 2) (j := 0) rfl sc__law_power.nd rfl rfl (by decide) rfl rfl (pa_cons (pe_op op_mulG (pv 2) (pv 2)) (pa_cons (pe_op op_fdivA (pv 0) pe_int) pa_nil)) (by rfl)))))
  (pss_one (ps_ret (pv 1))))), fun H0 own0 bg xs R h => ?_⟩)
  obtain ⟨_, d, rfl, d0, d1, hR⟩ := h
  change S _ _ [.dat (.int d), .no, .no] _
  try dsimp only [cxOf]
  repeat walk_at "dl"
  refine s_while (fun m ρ => ∃ (k j : Nat), ρ = [.dat (.int (m : Int)), .dat (.int (2 ^ j)), .dat (.int (2 ^ k))] ∧ j + k * m = d.toNat ∧ k ≤ 621 ∧ m ≤ 310) (m0 := d.toNat) ⟨1, 0, ?_, by omega, by decide, by omega⟩ ?_
  · try dsimp only [List.set]
    rw [Int.toNat_of_nonneg d0]
    rfl
  rintro m ρ ⟨k, j, rfl, he, hk, hm⟩
  have sj : Sm 700 (2 ^ j) := (two_sm j).mono (by omega)
  have sk : Sm 700 (2 ^ k) := (two_sm k).mono (by omega)
  repeat walk_at "dl"
  refine ite2 (fun hc => ?_) (fun hc => ?_)
  · have m1 : 1 ≤ m := by
      have := of_decide_eq_true hc
      omega
    have km : k ≤ k * m := Nat.le_mul_of_pos_right _ m1
    have sm : Sm 9000 (m : Int) := Sm.mono (a := 20) (by unfold Sm; omega) (by decide)
    have e2 : (m : Int).fdiv 2 = ((m / 2 : Nat) : Int) := by
      rw [Int.fdiv_eq_ediv_of_nonneg _ (by decide)]
      omega
    repeat walk_at "dl"
    refine ⟨sm.fd (by decide), ?_⟩
    repeat walk_at "dl"
    have jk : j + k ≤ d.toNat := by omega
    have sq : (2 : Int) ^ k * 2 ^ k = 2 ^ (2 * k) := by rw [← Int.pow_add, Nat.two_mul]
    refine ite2 (fun hc => ?_) (fun hc => ?_)
    · have od : m = 2 * (m / 2) + 1 := by
        have : ((m : Int) - ((m : Int).fdiv 2) * 2 == 1) = true := hc
        have := eq_of_beq this
        omega
      repeat walk_at "dl"
      refine ⟨Sm.mulX sj sk (by decide), ?_⟩
      repeat walk_at "dl"
      refine ⟨Sm.mulX sk sk (by decide), ?_⟩
      repeat walk_at "dl"
      refine ⟨sm.fd (by decide), ?_⟩
      repeat walk_at "dl"
      refine ⟨m / 2, by omega, 2 * k, j + k, ?_, ?_, by omega, by omega⟩
      · rw [e2, sq, ← Int.pow_add]
      · rw [← he]
        conv => rhs; rw [od]
        rw [Nat.mul_add, Nat.mul_one, Nat.mul_comm 2 k, Nat.mul_assoc]
        omega
    · have ev : m = 2 * (m / 2) := by
        have : ¬ ((m : Int) - ((m : Int).fdiv 2) * 2 == 1) = true := hc
        have : ¬ ((m : Int) - ((m : Int).fdiv 2) * 2 = 1) := fun z => this (by rw [z]; rfl)
        omega
      repeat walk_at "dl"
      refine ⟨Sm.mulX sk sk (by decide), ?_⟩
      repeat walk_at "dl"
      refine ⟨sm.fd (by decide), ?_⟩
      repeat walk_at "dl"
      refine ⟨m / 2, by omega, 2 * k, j, ?_, ?_, by omega, by omega⟩
      · rw [e2, sq]
      · rw [← he]
        conv => rhs; rw [ev]
        rw [Nat.mul_comm 2 k, Nat.mul_assoc]
  · have m0 : m = 0 := by
      have : ¬ (0 : Int) < (m : Int) := fun z => hc (decide_eq_true z)
      omega
    subst m0
    rw [Nat.mul_zero, Nat.add_zero] at he
    subst he
    repeat walk_at "dl"
    exact hR
end
section
variable {P : Program} {w : World} {K : PySem.W.Frag} {mg : Str → Option Value} {bs : Heap}
def gs__law_shares : Gs := fun xs R => xs.length = 1 ∧ xs = [.bag] ∧ ∀ ss : List Int, Shs ss → (∀ s ∈ ss, Sm 120 s) → R (.tuple (ss.map PyData.int))
theorem ok__law_shares (T : Txt K mg) (nd : bs.NoDigits) : FnG P w K mg bs 3 T.a__law_shares T.d__law_shares ["bag"] (spG K gs__law_shares) := by
  have C__law_power := ok__law_power (P := P) (w := w) (bs := bs) T nd
  have C__law_some := ok__law_some (P := P) (w := w) (bs := bs) T nd
  have C__law_take := ok__law_take (P := P) (w := w) (bs := bs) T nd
  refine fnD T.F__law_shares sc__law_shares (fun xs R h => h.1) (fun cd A out s H E hg hr => ⟨_, (pss_cons (ps_par (i := 1) (j := 2) rfl sc__law_shares.nd rfl rfl (by decide) rfl rfl (pa_cons (pe_callG C__law_take hg (hr.mono (by decide)) (by rfl) T.g__law_take T.F__law_take.kp T.b__law_take (pa_cons (pv 0) (pa_cons pe_int pa_nil))) (pa_cons (pe_callG C__law_some hg (hr.mono (by decide)) (by rfl) T.g__law_some T.F__law_some.kp T.b__law_some (pa_cons (pv 0) (pa_cons (pe_lst (pa_cons pe_int (pa_cons pe_int (pa_cons pe_int (pa_cons pe_int (pa_cons pe_int (pa_cons pe_int (pa_cons pe_int (pa_cons pe_int pa_nil))))))))) pa_nil))) pa_nil)) (by rfl))
  (pss_cons (ps_if (pt_cmpR (op_eqK (K := K) rfl (by exact hr.units)) (pv 1) pe_int (nomark _))
  (pss_one (ps_ret (pe_callTy (call_tupleK (K := K) rfl) (by rfl) T.z_tuple (by decide +kernel) (pa_cons (pe_lc (own := [("turn", 3)]) (g := gName 3) (tt := tYes) (by rfl) sc__law_shares.nd (pi_range1 (by rfl) T.z_range (pa_cons (pv 2) pa_nil)) (blkOk_by (own := [("turn", 3)]) (N := ["bag", "way", "many", "turn"]) (sc := defScope s__law_shares) (by decide +kernel)) (fun _ _ _ _ _ => pg_name (i := 3) sc__law_shares.nd rfl (Or.inl rfl)) (fun _ _ _ _ _ => pts_nil) (fun _ _ _ _ _ => (pe_callG C__law_some hg (hr.mono (by decide)) (by rfl) T.g__law_some T.F__law_some.kp T.b__law_some (pa_cons (pv 0) (pa_cons (pe_lst (pa_cons pe_int (pa_cons pe_int (pa_cons pe_int pa_nil)))) pa_nil))))) pa_nil))))
  pss_nil)
  (pss_cons (ps_if (pt_cmpR (op_eqK (K := K) rfl (by exact hr.units)) (pv 1) pe_int (nomark _))
  (pss_one (ps_ret (pe_callTy (call_tupleK (K := K) rfl) (by rfl) T.z_tuple (by decide +kernel) (pa_cons (pe_lc (own := [("turn", 3)]) (g := gName 3) (tt := tYes) (by rfl) sc__law_shares.nd (pi_range1 (by rfl) T.z_range (pa_cons (pv 2) pa_nil)) (blkOk_by (own := [("turn", 3)]) (N := ["bag", "way", "many", "turn"]) (sc := defScope s__law_shares) (by decide +kernel)) (fun _ _ _ _ _ => pg_name (i := 3) sc__law_shares.nd rfl (Or.inl rfl)) (fun _ _ _ _ _ => pts_nil) (fun _ _ _ _ _ => (pe_op op_addG (pe_callG C__law_some hg (hr.mono (by decide)) (by rfl) T.g__law_some T.F__law_some.kp T.b__law_some (pa_cons (pv 0) (pa_cons (pe_lst (pa_cons pe_int (pa_cons (pe_op op_pow pe_int pe_int) (pa_cons (pe_op op_pow pe_int pe_int) pa_nil)))) pa_nil))) (pe_callG C__law_take hg (hr.mono (by decide)) (by rfl) T.g__law_take T.F__law_take.kp T.b__law_take (pa_cons (pv 0) (pa_cons pe_int pa_nil)))))) pa_nil))))
  pss_nil)
  (pss_cons (ps_if (pt_cmpR (op_eqK (K := K) rfl (by exact hr.units)) (pv 1) pe_int (nomark _))
  (pss_one (ps_ret (pe_callTy (call_tupleK (K := K) rfl) (by rfl) T.z_tuple (by decide +kernel) (pa_cons (pe_lc (own := [("turn", 3)]) (g := gName 3) (tt := tYes) (by rfl) sc__law_shares.nd (pi_range1 (by rfl) T.z_range (pa_cons (pv 2) pa_nil)) (blkOk_by (own := [("turn", 3)]) (N := ["bag", "way", "many", "turn"]) (sc := defScope s__law_shares) (by decide +kernel)) (fun _ _ _ _ _ => pg_name (i := 3) sc__law_shares.nd rfl (Or.inl rfl)) (fun _ _ _ _ _ => pts_nil) (fun _ _ _ _ _ => (pe_callG C__law_power hg (hr.mono (by decide)) (by rfl) T.g__law_power T.F__law_power.kp T.b__law_power (pa_cons (pe_callG C__law_take hg (hr.mono (by decide)) (by rfl) T.g__law_take T.F__law_take.kp T.b__law_take (pa_cons (pv 0) (pa_cons pe_int pa_nil))) pa_nil)))) pa_nil))))
  pss_nil)
  (pss_one (ps_ret (pe_callTy (call_tupleK (K := K) rfl) (by rfl) T.z_tuple (by decide +kernel) (pa_cons (pe_lc (own := [("turn", 3)]) (g := gName 3) (tt := tYes) (by rfl) sc__law_shares.nd (pi_range1 (by rfl) T.z_range (pa_cons (pv 2) pa_nil)) (blkOk_by (own := [("turn", 3)]) (N := ["bag", "way", "many", "turn"]) (sc := defScope s__law_shares) (by decide +kernel)) (fun _ _ _ _ _ => pg_name (i := 3) sc__law_shares.nd rfl (Or.inl rfl)) (fun _ _ _ _ _ => pts_nil) (fun _ _ _ _ _ => (pe_op op_addG pe_int (pe_callG C__law_take hg (hr.mono (by decide)) (by rfl) T.g__law_take T.F__law_take.kp T.b__law_take (pa_cons (pv 0) (pa_cons (pe_callG C__law_some hg (hr.mono (by decide)) (by rfl) T.g__law_some T.F__law_some.kp T.b__law_some (pa_cons (pv 0) (pa_cons (pe_lst (pa_cons pe_int (pa_cons pe_int (pa_cons pe_int (pa_cons pe_int pa_nil))))) pa_nil))) pa_nil)))))) pa_nil)))))))), fun H0 own0 bg xs R h => ?_⟩)
  obtain ⟨_, rfl, hR⟩ := h
  change S _ _ [.bag, .no, .no, .no] _
  try dsimp only [cxOf]
  repeat walk_at "dl"
  refine ⟨rfl, _, rfl, by decide, by decide, fun way w0 w1 => ?_⟩
  repeat walk_at "dl"
  refine ⟨rfl, _, rfl, Nat.le_of_ble_eq_true rfl, Nat.le_of_ble_eq_true rfl, fun dm hdm => ?_⟩
  obtain ⟨many, rfl, m0, m1⟩ : ∃ k : Int, dm = .int k ∧ 1 ≤ k ∧ k ≤ 40 := by
    simp only [List.mem_cons, List.not_mem_nil, or_false] at hdm
    rcases hdm with rfl | rfl | rfl | rfl | rfl | rfl | rfl | rfl <;> exact ⟨_, rfl, by decide, by decide⟩
  have fin : ∀ ns : List Int, (ns.length : Int) = many → (∀ z ∈ ns, 1 ≤ z ∧ Sm 120 z) → R (.tuple (ns.map PyData.int)) := fun ns hl ha => hR ns ⟨by omega, by omega, fun z hz => ⟨(ha z hz).1, (ha z hz).2.mono (by decide)⟩⟩ fun z hz => (ha z hz).2
  repeat walk_at "dl"
  refine ite2 (fun hc => ?_) (fun hc => ?_)
  · repeat walk_at "dl"
    refine e_lcInts (fun z => 1 ≤ z ∧ Sm 120 z) ?_
    repeat walk_at "dl"
    refine ⟨by omega, by omega, fun i hi => ?_, fun ns hl ha => ?_⟩
    · try dsimp only [List.set]
      repeat walk_at "dl"
      refine ⟨rfl, _, rfl, Nat.le_of_ble_eq_true rfl, Nat.le_of_ble_eq_true rfl, fun dz hz => ?_⟩
      simp only [List.mem_cons, List.not_mem_nil, or_false] at hz
      rcases hz with rfl | rfl | rfl <;> exact ⟨_, rfl, by decide, by decide⟩
    · repeat walk_at "dl"
      exact fin ns hl ha
  repeat walk_at "dl"
  refine ite2 (fun hc => ?_) (fun hc => ?_)
  · repeat walk_at "dl"
    refine e_lcInts (fun z => 1 ≤ z ∧ Sm 120 z) ?_
    repeat walk_at "dl"
    refine ⟨by omega, by omega, fun i hi => ?_, fun ns hl ha => ?_⟩
    · try dsimp only [List.set]
      repeat walk_at "dl"
      refine ⟨rfl, _, rfl, Nat.le_of_ble_eq_true rfl, Nat.le_of_ble_eq_true rfl, fun dz hz => ?_⟩
      obtain ⟨z1, rfl, z2, z3⟩ : ∃ z1 : Int, dz = .int z1 ∧ 1 ≤ z1 ∧ Sm 119 z1 := by
        simp only [List.mem_cons, List.not_mem_nil, or_false] at hz
        rcases hz with rfl | rfl | rfl <;> exact ⟨_, rfl, by decide, by decide⟩
      repeat walk_at "dl"
      refine ⟨rfl, _, rfl, by decide, by decide, fun r r0 r1 => ?_⟩
      repeat walk_at "dl"
      exact ⟨by omega, z3.add (Sm.le (show Sm 119 3 by decide) r0 (by omega))⟩
    · repeat walk_at "dl"
      exact fin ns hl ha
  repeat walk_at "dl"
  refine ite2 (fun hc => ?_) (fun hc => ?_)
  · repeat walk_at "dl"
    refine e_lcInts (fun z => 1 ≤ z ∧ Sm 120 z) ?_
    repeat walk_at "dl"
    refine ⟨by omega, by omega, fun i hi => ?_, fun ns hl ha => ?_⟩
    · try dsimp only [List.set]
      repeat walk_at "dl"
      refine ⟨rfl, _, rfl, by decide, by decide, fun r r0 r1 => ?_⟩
      repeat walk_at "dl"
      refine ⟨rfl, _, rfl, r0, by omega, ?_⟩
      have : (0 : Int) < 2 ^ r.toNat := Int.pow_pos (by decide)
      exact ⟨_, rfl, by omega, (two_sm r.toNat).mono (by omega)⟩
    · repeat walk_at "dl"
      exact fin ns hl ha
  repeat walk_at "dl"
  refine e_lcInts (fun z => 1 ≤ z ∧ Sm 120 z) ?_
  repeat walk_at "dl"
  refine ⟨by omega, by omega, fun i hi => ?_, fun ns hl ha => ?_⟩
  · try dsimp only [List.set]
    repeat walk_at "dl"
    refine ⟨rfl, _, rfl, Nat.le_of_ble_eq_true rfl, Nat.le_of_ble_eq_true rfl, fun dz hz => ?_⟩
    obtain ⟨z1, rfl, z2, z3⟩ : ∃ z1 : Int, dz = .int z1 ∧ 1 ≤ z1 ∧ z1 ≤ 1000 := by
      simp only [List.mem_cons, List.not_mem_nil, or_false] at hz
      rcases hz with rfl | rfl | rfl | rfl <;> exact ⟨_, rfl, by decide, by decide⟩
    repeat walk_at "dl"
    refine ⟨rfl, _, rfl, by omega, Sm.mono (a := 20) (by unfold Sm; omega) (by decide), fun r r0 r1 => ?_⟩
    repeat walk_at "dl"
    exact ⟨by omega, Sm.le (show Sm 120 2000 by decide) (by omega) (by omega)⟩
  · repeat walk_at "dl"
    exact fin ns hl ha
end
section
variable {P : Program} {w : World} {K : PySem.W.Frag} {mg : Str → Option Value} {bs : Heap}
def gs__law_enclosure : Gs := fun xs R => xs.length = 3 ∧ ∃ share slack : Int, xs = [.bag, .dat (.int share), .dat (.int slack)] ∧ (1 ≤ share ∧ Sm 120 share ∧ 0 ≤ slack ∧ Sm 120 slack) ∧ ∀ t : En3, Fit t share → R (tD t)
theorem ok__law_enclosure (T : Txt K mg) (nd : bs.NoDigits) : FnG P w K mg bs 3 T.a__law_enclosure T.d__law_enclosure ["bag", "share", "slack"] (spG K gs__law_enclosure) := by
  have C__law_power := ok__law_power (P := P) (w := w) (bs := bs) T nd
  have C__law_some := ok__law_some (P := P) (w := w) (bs := bs) T nd
  have C__law_take := ok__law_take (P := P) (w := w) (bs := bs) T nd
  refine fnD T.F__law_enclosure sc__law_enclosure (fun xs R h => h.1) (fun cd A out s H E hg hr => ⟨_, (pss_cons (ps_set (i := 3) sc__law_enclosure.nd rfl (.inl rfl) (pe_callG C__law_some hg (hr.mono (by decide)) (by rfl) T.g__law_some T.F__law_some.kp T.b__law_some (pa_cons (pv 0) (pa_cons (pe_lst (pa_cons pe_int (pa_cons pe_int (pa_cons pe_int (pa_cons pe_int (pa_cons pe_int pa_nil)))))) pa_nil))))
  (pss_cons (ps_set (i := 4) sc__law_enclosure.nd rfl (.inl rfl) (pe_callG C__law_power hg (hr.mono (by decide)) (by rfl) T.g__law_power T.F__law_power.kp T.b__law_power (pa_cons (pv 3) pa_nil)))
  (pss_cons (ps_set (i := 5) sc__law_enclosure.nd rfl (.inl rfl) (pe_callB (call_max2 rfl) (by rfl) T.z_max (by decide +kernel) (pa_cons pe_int (pa_cons (pe_op op_sub (pe_op op_fdivA (pv 1) (pv 4)) (pe_callG C__law_take hg (hr.mono (by decide)) (by rfl) T.g__law_take T.F__law_take.kp T.b__law_take (pa_cons (pv 0) (pa_cons (pe_op op_addG (pv 2) pe_int) pa_nil)))) pa_nil))))
  (pss_one (ps_ret (pe_tup (pa_cons (pv 5) (pa_cons (pe_op op_addG (pe_op op_fdivA (pe_op op_sub (pe_op op_addG (pv 1) (pv 4)) pe_int) (pv 4)) (pe_callG C__law_take hg (hr.mono (by decide)) (by rfl) T.g__law_take T.F__law_take.kp T.b__law_take (pa_cons (pv 0) (pa_cons (pe_op op_addG (pv 2) pe_int) pa_nil)))) (pa_cons (pv 3) pa_nil))))))))), fun H0 own0 bg xs R h => ?_⟩)
  obtain ⟨_, share, slack, rfl, ⟨s1, s2, k0, k1⟩, hR⟩ := h
  change S _ _ [.bag, .dat (.int share), .dat (.int slack), .no, .no, .no] _
  try dsimp only [cxOf]
  refine s_seq ?_
  repeat walk_at "ds"
  refine ⟨rfl, _, rfl, by decide, by decide, fun d hd => ?_⟩
  obtain ⟨e, rfl, e0, e1⟩ : ∃ e : Int, d = .int e ∧ 0 ≤ e ∧ e ≤ 7 := by
    simp only [List.mem_cons, List.not_mem_nil, or_false] at hd
    rcases hd with rfl | rfl | rfl | rfl | rfl <;> exact ⟨_, rfl, by decide, by decide⟩
  clear hd
  repeat walk_at "ds"
  refine s_seq ?_
  repeat walk_at "ds"
  refine ⟨rfl, e, rfl, e0, by omega, ?_⟩
  repeat walk_at "ds"
  have p0 := two_pos e.toNat
  have sp : Sm 8 (2 ^ e.toNat) := (two_sm e.toNat).mono (by omega)
  obtain ⟨p, hp⟩ : ∃ p : Int, p = 2 ^ e.toNat := ⟨_, rfl⟩
  rw [← hp] at p0 sp ⊢
  have sl1 : Sm 250 (slack + 1) := (k1.add ((show Sm 1 1 by decide).mono (by decide))).mono (by decide)
  have fl := fl_le (s := share) p0
  have fn := fl_nn (s := share) p0 (by omega)
  have cl := cl_ge (s := share) p0
  have cn := fl_nn (s := share + p - 1) p0 (by omega)
  have scp : Sm 142 (share + p - 1) := ((s2.add (sp.mono (by decide))).sub ((show Sm 1 1 by decide).mono (by decide))).mono (by decide)
  refine s_seq ?_
  repeat walk_at "ds"
  refine ⟨(s2.mono (by decide)).fd (by omega), ?_⟩
  repeat walk_at "ds"
  refine ⟨rfl, _, rfl, by omega, sl1, fun r r0 r1 => ?_⟩
  repeat walk_at "ds"
  repeat walk_at "dl"
  refine ⟨(scp.mono (by decide)).fd (by omega), ?_⟩
  repeat walk_at "dl"
  refine ⟨rfl, _, rfl, by omega, sl1, fun q q0 q1 => ?_⟩
  repeat walk_at "dl"
  have lo : 0 ≤ (if share.fdiv p - r > 0 then share.fdiv p - r else 0) ∧ (if share.fdiv p - r > 0 then share.fdiv p - r else 0) ≤ share.fdiv p := by
    split <;> omega
  refine hR ((if share.fdiv p - r > 0 then share.fdiv p - r else 0), (share + p - 1).fdiv p + q, e) ⟨lo.1, by show 0 ≤ (share + p - 1).fdiv p + q; omega, ?_, ?_, ⟨e0, e1⟩, ?_, ?_, ?_⟩
  · exact (s2.le lo.1 (by omega)).mono (by decide)
  · exact ((((scp.mono (by decide : 142 ≤ 145)).le cn.1 cn.2).add ((k1.le q0 (by omega)).mono (by decide))).mono (by decide))
  · show _ * 2 ^ e.toNat ≤ share
    rw [← hp]
    exact Int.le_trans (Int.mul_le_mul_of_nonneg_right lo.2 (Int.le_of_lt p0)) fl.1
  · show share ≤ _ * 2 ^ e.toNat
    rw [← hp]
    exact Int.le_trans cl.1 (Int.mul_le_mul_of_nonneg_right (by show (share + p - 1).fdiv p ≤ (share + p - 1).fdiv p + q; omega) (Int.le_of_lt p0))
  · show ((share + p - 1).fdiv p + q) * 2 ^ e.toNat < 2 ^ 139
    rw [← hp, Int.add_mul]
    have q2 : Sm 120 q := k1.le q0 (by omega)
    have m9 : Sm 128 (q * p) := q2.mul sp
    have s9 : share.natAbs < 2 ^ 120 := s2
    have p9 : p.natAbs < 2 ^ 8 := sp
    have q9 : (q * p).natAbs < 2 ^ 128 := m9
    have e1 : (2 : Nat) ^ 120 + 2 ^ 8 + 2 ^ 128 < 2 ^ 139 := by decide
    have e2 : ((2 ^ 139 : Nat) : Int) = 2 ^ 139 := by simp
    have := cl.2
    omega
end
section
variable {P : Program} {w : World} {K : PySem.W.Frag} {mg : Str → Option Value} {bs : Heap}
def gs__law_narrower : Gs := fun xs R => xs.length = 3 ∧ ∃ (share : Int) (t : En3), xs = [.bag, .dat (.int share), .dat (tD t)] ∧ (1 ≤ share ∧ Sm 140 share) ∧ Fit t share ∧ ∀ u : En3, Fit u share → lv t ≤ lv u → hv u ≤ hv t → R (tD u)
theorem ok__law_narrower (T : Txt K mg) (nd : bs.NoDigits) : FnG P w K mg bs 3 T.a__law_narrower T.d__law_narrower ["bag", "share", "enclosure"] (spG K gs__law_narrower) := by
  have C__law_power := ok__law_power (P := P) (w := w) (bs := bs) T nd
  have C__law_some := ok__law_some (P := P) (w := w) (bs := bs) T nd
  have C__law_take := ok__law_take (P := P) (w := w) (bs := bs) T nd
  refine fnD T.F__law_narrower sc__law_narrower (fun xs R h => h.1) (fun cd A out s H E hg hr => ⟨_, (pss_cons (ps_asg (pv 2) (pg_tup (by rfl) (pgs_cons (pg_name (i := 3) sc__law_narrower.nd rfl (.inl rfl)) (pgs_cons (pg_name (i := 4) sc__law_narrower.nd rfl (.inl rfl)) (pgs_cons (pg_name (i := 5) sc__law_narrower.nd rfl (.inl rfl)) pgs_nil)))))
  (pss_cons (ps_set (i := 6) sc__law_narrower.nd rfl (.inl rfl) (pe_callG C__law_power hg (hr.mono (by decide)) (by rfl) T.g__law_power T.F__law_power.kp T.b__law_power (pa_cons (pv 5) pa_nil)))
  (pss_cons (ps_set (i := 7) sc__law_narrower.nd rfl (.inl rfl) (pe_tup (pa_cons (pe_op op_fdivA (pv 1) (pv 6)) (pa_cons (pe_op op_fdivA (pe_op op_sub (pe_op op_addG (pv 1) (pv 6)) pe_int) (pv 6)) pa_nil))))
  (pss_cons (ps_set (i := 3) sc__law_narrower.nd rfl (.inl rfl) (pe_callG C__law_some hg (hr.mono (by decide)) (by rfl) T.g__law_some T.F__law_some.kp T.b__law_some (pa_cons (pv 0) (pa_cons (pe_lst (pa_cons (pv 3) (pa_cons (pe_ix (ix_seqK (K := K) rfl) (pv 7) pe_int (fun _ _ => rfl)) (pa_cons (pe_op op_addG (pv 3) (pe_callG C__law_take hg (hr.mono (by decide)) (by rfl) T.g__law_take T.F__law_take.kp T.b__law_take (pa_cons (pv 0) (pa_cons (pe_op op_addG (pe_op op_sub (pe_ix (ix_seqK (K := K) rfl) (pv 7) pe_int (fun _ _ => rfl)) (pv 3)) pe_int) pa_nil)))) pa_nil)))) pa_nil))))
  (pss_one (ps_ret (pe_tup (pa_cons (pv 3) (pa_cons (pe_callG C__law_some hg (hr.mono (by decide)) (by rfl) T.g__law_some T.F__law_some.kp T.b__law_some (pa_cons (pv 0) (pa_cons (pe_lst (pa_cons (pv 4) (pa_cons (pe_ix (ix_seqK (K := K) rfl) (pv 7) pe_int (fun _ _ => rfl)) (pa_cons (pe_op op_sub (pv 4) (pe_callG C__law_take hg (hr.mono (by decide)) (by rfl) T.g__law_take T.F__law_take.kp T.b__law_take (pa_cons (pv 0) (pa_cons (pe_op op_addG (pe_op op_sub (pv 4) (pe_ix (ix_seqK (K := K) rfl) (pv 7) pe_int (fun _ _ => rfl))) pe_int) pa_nil)))) pa_nil)))) pa_nil))) (pa_cons (pv 5) pa_nil)))))))))), fun H0 own0 bg xs R h => ?_⟩)
  obtain ⟨_, share, ⟨low, high, e⟩, rfl, ⟨s1, s2⟩, ht, hR⟩ := h
  change S _ _ [.bag, .dat (.int share), .dat (tD (low, high, e)), .no, .no, .no, .no, .no] _
  try dsimp only [cxOf]
  obtain ⟨t1, t2, t3, t4, ⟨e0, e1⟩, t5, t6, t7⟩ := ht
  have t1 : 0 ≤ low := t1
  have t2 : 0 ≤ high := t2
  have t3 : Sm 150 low := t3
  have t4 : Sm 150 high := t4
  have e0 : 0 ≤ e := e0
  have e1 : e ≤ 7 := e1
  have t5 : low * 2 ^ e.toNat ≤ share := t5
  have t6 : share ≤ high * 2 ^ e.toNat := t6
  refine s_seq (s_set3 rfl (e_var rfl (fun h => nomatch h) ⟨.int low, .int high, .int e, rfl, ?_⟩))
  try dsimp only [List.set]
  refine s_seq ?_
  repeat walk_at "ds"
  refine ⟨rfl, e, rfl, e0, by omega, ?_⟩
  repeat walk_at "ds"
  have p0 := two_pos e.toNat
  have sp : Sm 8 (2 ^ e.toNat) := (two_sm e.toNat).mono (by omega)
  obtain ⟨p, hp⟩ : ∃ p : Int, p = 2 ^ e.toNat := ⟨_, rfl⟩
  rw [← hp] at p0 sp t5 t6 ⊢
  have fl := fl_le (s := share) p0
  have fn := fl_nn (s := share) p0 (by omega)
  have cl := cl_ge (s := share) p0
  have cn := fl_nn (s := share + p - 1) p0 (by omega)
  have scp : Sm 142 (share + p - 1) := ((s2.add (sp.mono (by decide))).sub ((show Sm 1 1 by decide).mono (by decide))).mono (by decide)
  have l1 : low ≤ share.fdiv p := by
    have : low * p < (share.fdiv p + 1) * p := by omega
    have := Int.lt_of_mul_lt_mul_right this (Int.le_of_lt p0)
    omega
  have h1 : (share + p - 1).fdiv p ≤ high := by
    have : (share + p - 1).fdiv p * p < (high + 1) * p := by
      rw [Int.add_mul, Int.one_mul]
      omega
    have := Int.lt_of_mul_lt_mul_right this (Int.le_of_lt p0)
    omega
  have sfl : Sm 150 (share.fdiv p) := (s2.le fn.1 fn.2).mono (by decide)
  have scl : Sm 150 ((share + p - 1).fdiv p) := (scp.le cn.1 cn.2).mono (by decide)
  refine s_seq ?_
  repeat walk_at "ds"
  refine ⟨(s2.mono (by decide)).fd (by omega), ?_⟩
  repeat walk_at "ds"
  refine ⟨(scp.mono (by decide)).fd (by omega), ?_⟩
  repeat walk_at "ds"
  generalize share.fdiv p = n0 at fl fn l1 sfl ⊢
  generalize (share + p - 1).fdiv p = n1 at cl cn h1 scl ⊢
  refine s_seq ?_
  repeat walk_at "ds"
  refine ⟨rfl, _, rfl, by omega, ((((sfl.sub t3).add ((show Sm 1 1 by decide).mono (by decide)))).mono (by decide)), fun r r0 r1 => ?_⟩
  repeat walk_at "ds"
  refine ⟨rfl, _, rfl, by simp, by simp, fun d hd => ?_⟩
  obtain ⟨lo, rfl, lo0, lo1⟩ : ∃ lo : Int, d = .int lo ∧ low ≤ lo ∧ lo ≤ n0 := by
    simp only [List.mem_cons, List.not_mem_nil, or_false] at hd
    rcases hd with rfl | rfl | rfl
    · exact ⟨_, rfl, by omega, by omega⟩
    · exact ⟨_, rfl, by omega, by omega⟩
    · exact ⟨_, rfl, by omega, by omega⟩
  clear hd
  repeat walk_at "ds"
  repeat walk_at "dl"
  refine ⟨rfl, _, rfl, by omega, ((((t4.sub scl).add ((show Sm 1 1 by decide).mono (by decide)))).mono (by decide)), fun q q0 q1 => ?_⟩
  repeat walk_at "dl"
  refine ⟨rfl, _, rfl, by simp, by simp, fun d hd => ?_⟩
  obtain ⟨hi, rfl, hi0, hi1⟩ : ∃ hi : Int, d = .int hi ∧ n1 ≤ hi ∧ hi ≤ high := by
    simp only [List.mem_cons, List.not_mem_nil, or_false] at hd
    rcases hd with rfl | rfl | rfl
    · exact ⟨_, rfl, by omega, by omega⟩
    · exact ⟨_, rfl, by omega, by omega⟩
    · exact ⟨_, rfl, by omega, by omega⟩
  clear hd
  repeat walk_at "dl"
  have m1 := Int.mul_le_mul_of_nonneg_right lo1 (Int.le_of_lt p0)
  have m2 := Int.mul_le_mul_of_nonneg_right hi0 (Int.le_of_lt p0)
  have m3 := Int.mul_le_mul_of_nonneg_right lo0 (Int.le_of_lt p0)
  have m4 := Int.mul_le_mul_of_nonneg_right hi1 (Int.le_of_lt p0)
  refine hR (lo, hi, e) ⟨by show 0 ≤ lo; omega, by show 0 ≤ hi; omega, sfl.le (by show 0 ≤ lo; omega) lo1, t4.le (by show 0 ≤ hi; omega) hi1, ⟨e0, e1⟩, ?_, ?_, ?_⟩ ?_ ?_
  · show lo * 2 ^ e.toNat ≤ share
    rw [← hp]
    omega
  · show share ≤ hi * 2 ^ e.toNat
    rw [← hp]
    omega
  · show hi * 2 ^ e.toNat < 2 ^ 139
    rw [← hp]
    have t7 : high * 2 ^ e.toNat < 2 ^ 139 := t7
    rw [← hp] at t7
    omega
  · show low * 2 ^ e.toNat ≤ lo * 2 ^ e.toNat
    rw [← hp]
    exact m3
  · show hi * 2 ^ e.toNat ≤ high * 2 ^ e.toNat
    rw [← hp]
    exact m4
end
section
variable {P : Program} {w : World} {K : PySem.W.Frag} {mg : Str → Option Value} {bs : Heap}
def gs__law_held : Gs := fun xs R => xs.length = 2 ∧ ∃ (share : Int) (t : En3), xs = [.bag, .dat (tD t)] ∧ (1 ≤ share ∧ Sm 140 share) ∧ Fit t share ∧ ∀ h : Int, 1 ≤ h → Sm 158 h → Fit t h → R (.int h)
theorem ok__law_held (T : Txt K mg) (nd : bs.NoDigits) : FnG P w K mg bs 3 T.a__law_held T.d__law_held ["bag", "enclosure"] (spG K gs__law_held) := by
  have C__law_power := ok__law_power (P := P) (w := w) (bs := bs) T nd
  have C__law_some := ok__law_some (P := P) (w := w) (bs := bs) T nd
  have C__law_take := ok__law_take (P := P) (w := w) (bs := bs) T nd
  refine fnD T.F__law_held sc__law_held (fun xs R h => h.1) (fun cd A out s H E hg hr => ⟨_, (pss_cons (ps_asg (pv 1) (pg_tup (by rfl) (pgs_cons (pg_name (i := 2) sc__law_held.nd rfl (.inl rfl)) (pgs_cons (pg_name (i := 3) sc__law_held.nd rfl (.inl rfl)) (pgs_cons (pg_name (i := 4) sc__law_held.nd rfl (.inl rfl)) pgs_nil)))))
  (pss_cons (ps_par (i := 5) (j := 6) rfl sc__law_held.nd rfl rfl (by decide) rfl rfl (pa_cons (pe_callB (call_max2 rfl) (by rfl) T.z_max (by decide +kernel) (pa_cons pe_int (pa_cons (pe_op op_mulG (pv 2) (pe_callG C__law_power hg (hr.mono (by decide)) (by rfl) T.g__law_power T.F__law_power.kp T.b__law_power (pa_cons (pv 4) pa_nil))) pa_nil))) (pa_cons (pe_op op_mulG (pv 3) (pe_callG C__law_power hg (hr.mono (by decide)) (by rfl) T.g__law_power T.F__law_power.kp T.b__law_power (pa_cons (pv 4) pa_nil))) pa_nil)) (by rfl))
  (pss_one (ps_ret (pe_callG C__law_some hg (hr.mono (by decide)) (by rfl) T.g__law_some T.F__law_some.kp T.b__law_some (pa_cons (pv 0) (pa_cons (pe_lst (pa_cons (pv 5) (pa_cons (pv 6) (pa_cons (pe_op op_addG (pv 5) (pe_callG C__law_take hg (hr.mono (by decide)) (by rfl) T.g__law_take T.F__law_take.kp T.b__law_take (pa_cons (pv 0) (pa_cons (pe_op op_addG (pe_op op_sub (pv 6) (pv 5)) pe_int) pa_nil)))) pa_nil)))) pa_nil))))))), fun H0 own0 bg xs R h => ?_⟩)
  obtain ⟨_, share, ⟨low, high, e⟩, rfl, ⟨s1, s2⟩, ht, hR⟩ := h
  change S _ _ [.bag, .dat (tD (low, high, e)), .no, .no, .no, .no, .no] _
  try dsimp only [cxOf]
  obtain ⟨t1, t2, t3, t4, ⟨e0, e1⟩, t5, t6, t7⟩ := ht
  have e0 : 0 ≤ e := e0
  have e1 : e ≤ 7 := e1
  have t5 : low * 2 ^ e.toNat ≤ share := t5
  have t6 : share ≤ high * 2 ^ e.toNat := t6
  have sp : Sm 8 (2 ^ e.toNat) := (two_sm e.toNat).mono (by omega)
  have t3' : Sm 150 low := t3
  have t4' : Sm 150 high := t4
  refine s_seq (s_set3 rfl (e_var rfl (fun h => nomatch h) ⟨.int low, .int high, .int e, rfl, ?_⟩))
  try dsimp only [List.set]
  refine s_seq ?_
  repeat walk_at "ds"
  refine ⟨rfl, e, rfl, e0, by omega, ?_⟩
  repeat walk_at "ds"
  refine ⟨Sm.mulX t3' sp (by decide), ?_⟩
  repeat walk_at "ds"
  refine ⟨rfl, e, rfl, e0, by omega, ?_⟩
  repeat walk_at "ds"
  refine ⟨Sm.mulX t4' sp (by decide), ?_⟩
  repeat walk_at "ds"
  have sl : Sm 158 (high * 2 ^ e.toNat) := t4'.mul sp
  obtain ⟨f, hf⟩ : ∃ f : Int, f = (if low * 2 ^ e.toNat > 1 then low * 2 ^ e.toNat else 1) := ⟨_, rfl⟩
  rw [← hf]
  have f1 : 1 ≤ f ∧ low * 2 ^ e.toNat ≤ f ∧ f ≤ high * 2 ^ e.toNat := by
    rw [hf]
    split <;> omega
  repeat walk_at "dl"
  refine ⟨rfl, _, rfl, by omega, ((((sl.sub (sl.le (by omega) f1.2.2)).add ((show Sm 1 1 by decide).mono (by decide)))).mono (by decide)), fun r r0 r1 => ?_⟩
  repeat walk_at "dl"
  refine ⟨rfl, _, rfl, by simp, by simp, fun d hd => ?_⟩
  obtain ⟨h, rfl, h0, h1⟩ : ∃ h : Int, d = .int h ∧ f ≤ h ∧ h ≤ high * 2 ^ e.toNat := by
    simp only [List.mem_cons, List.not_mem_nil, or_false] at hd
    rcases hd with rfl | rfl | rfl
    · exact ⟨_, rfl, by omega, by omega⟩
    · exact ⟨_, rfl, by omega, by omega⟩
    · exact ⟨_, rfl, by omega, by omega⟩
  exact ⟨_, rfl, hR h (by omega) (sl.le (by omega) h1) ⟨t1, t2, t3, t4, ⟨e0, e1⟩, by show low * 2 ^ e.toNat ≤ h; omega, h1, t7⟩⟩
end
section
variable {P : Program} {w : World} {K : PySem.W.Frag} {mg : Str → Option Value} {bs : Heap}
theorem ok_law (T : Txt K mg) (nd : bs.NoDigits) : FnG P w K mg bs 7 T.a_law T.d_law ["script"] (spLaw K) := by
  have C__law_alike := ok__law_alike (P := P) (w := w) (bs := bs) T nd
  have C__law_bag := ok__law_bag (P := P) (w := w) (bs := bs) T nd
  have C__law_enclosure := ok__law_enclosure (P := P) (w := w) (bs := bs) T nd
  have C__law_held := ok__law_held (P := P) (w := w) (bs := bs) T nd
  have C__law_many_coins := ok__law_many_coins (P := P) (w := w) (bs := bs) T nd
  have C__law_name := ok__law_name (P := P) (w := w) (bs := bs) T nd
  have C__law_narrower := ok__law_narrower (P := P) (w := w) (bs := bs) T nd
  have C__law_power := ok__law_power (P := P) (w := w) (bs := bs) T nd
  have C__law_shares := ok__law_shares (P := P) (w := w) (bs := bs) T nd
  have C__law_some := ok__law_some (P := P) (w := w) (bs := bs) T nd
  have C_chosen := ok_chosen (P := P) (w := w) (bs := bs) T nd
  have C_is_shown := ok_is_shown (P := P) (w := w) (bs := bs) T nd
  have C_made_by := ok_made_by (P := P) (w := w) (bs := bs) T nd
  have C_shown_within := ok_shown_within (P := P) (w := w) (bs := bs) T nd
  refine fnG T.F_law sc_law (fun vs H Q E h => ?_) (fun cd A out s H vs Q E hg hr h => ?_)
  · obtain ⟨a, ns, rfl, _⟩ := h
    rfl
  obtain ⟨a, ns, rfl, hS, hlen, k⟩ := h
  refine ⟨_, (pss_cons (ps_set (i := 1) sc_law.nd rfl (.inr rfl) (pe_callG C__law_bag hg (hr.mono (by decide)) (by rfl) T.g__law_bag T.F__law_bag.kp T.b__law_bag (pa_cons (pv 0) pa_nil)))
  (pss_cons (ps_for PassesOwn.never rfl (pi_range1 (by rfl) T.z_range (pa_cons pe_int pa_nil)) (pg_name (i := 2) sc_law.nd rfl (.inl rfl))
  (pss_cons (ps_par (i := 3) (j := 4) rfl sc_law.nd rfl rfl (by decide) rfl rfl (pa_cons (pe_slice (sl_seqK (K := K) rfl) (pe_callG C__law_shares hg (hr.mono (by decide)) (by rfl) T.g__law_shares T.F__law_shares.kp T.b__law_shares (pa_cons (pv 1) pa_nil)) po_none (po_some pe_int)) (pa_cons (pe_callG C__law_name hg (hr.mono (by decide)) (by rfl) T.g__law_name T.F__law_name.kp T.b__law_name (pa_cons (pv 1) pa_nil)) pa_nil)) (by rfl))
  (pss_cons (ps_set (i := 5) sc_law.nd rfl (.inr rfl) (pe_lc (own := [("share", 16)]) (g := gName 16) (tt := tYes) (by rfl) sc_law.nd (pi_seqK (K := K) rfl (pv 3)) (blkOk_by (own := [("share", 16)]) (N := ["script", "bag", "turn", "shares", "name", "wide", "narrow", "exact", "others", "d", "c", "index", "shown", "coins", "found", "made", "share", "one", "again", "numbers"]) (sc := defScope s_law) (by decide +kernel)) (fun _ _ _ _ _ => pg_name (i := 16) sc_law.nd rfl (Or.inl rfl)) (fun _ _ _ _ _ => pts_nil) (fun _ _ _ _ _ => (pe_callG C__law_enclosure hg (hr.mono (by decide)) (by rfl) T.g__law_enclosure T.F__law_enclosure.kp T.b__law_enclosure (pa_cons (pv 1) (pa_cons (pv 16) (pa_cons (pe_callG C__law_some hg (hr.mono (by decide)) (by rfl) T.g__law_some T.F__law_some.kp T.b__law_some (pa_cons (pv 1) (pa_cons (pe_lst (pa_cons pe_int (pa_cons pe_int (pa_cons pe_int (pa_cons (pv 16) pa_nil))))) pa_nil))) pa_nil)))))))
  (pss_cons (ps_setLc (i := 6) (own := [("share", 16), ("one", 17)]) (g := gTup K 2 (gCons (gName 16) (gCons (gName 17) gNil))) (tt := tYes) (by rfl) sc_law.nd rfl rfl (by rfl) (pi_zipB (K := K) rfl (by rfl) T.z_zip (pa_cons (pv 3) (pa_cons (pv 5) pa_nil))) (blkOk_by (own := [("share", 16), ("one", 17)]) (N := ["script", "bag", "turn", "shares", "name", "wide", "narrow", "exact", "others", "d", "c", "index", "shown", "coins", "found", "made", "share", "one", "again", "numbers"]) (sc := defScope s_law) (by decide +kernel)) (fun _ _ _ _ _ => pg_tupK (K := K) rfl (by rfl) (pgs_cons (pg_name (i := 16) sc_law.nd rfl (Or.inl rfl)) (pgs_cons (pg_name (i := 17) sc_law.nd rfl (Or.inl rfl)) pgs_nil))) (fun _ _ _ _ _ => pts_nil) (fun _ _ _ _ _ => (pe_callG C__law_narrower hg (hr.mono (by decide)) (by rfl) T.g__law_narrower T.F__law_narrower.kp T.b__law_narrower (pa_cons (pv 1) (pa_cons (pv 16) (pa_cons (pv 17) pa_nil))))))
  (pss_cons (ps_setLc (i := 7) (own := [("share", 16)]) (g := gName 16) (tt := tYes) (by rfl) sc_law.nd rfl rfl (by rfl) (pi_seqK (K := K) rfl (pv 3)) (blkOk_by (own := [("share", 16)]) (N := ["script", "bag", "turn", "shares", "name", "wide", "narrow", "exact", "others", "d", "c", "index", "shown", "coins", "found", "made", "share", "one", "again", "numbers"]) (sc := defScope s_law) (by decide +kernel)) (fun _ _ _ _ _ => pg_name (i := 16) sc_law.nd rfl (Or.inl rfl)) (fun _ _ _ _ _ => pts_nil) (fun _ _ _ _ _ => (pe_tup (pa_cons (pv 16) (pa_cons (pv 16) (pa_cons pe_int pa_nil))))))
  (pss_cons (ps_setLc (i := 8) (own := [("again", 18)]) (g := gName 18) (tt := tYes) (by rfl) sc_law.nd rfl rfl (by rfl) (pi_range1 (by rfl) T.z_range (pa_cons pe_int pa_nil)) (blkOk_by (own := [("again", 18)]) (N := ["script", "bag", "turn", "shares", "name", "wide", "narrow", "exact", "others", "d", "c", "index", "shown", "coins", "found", "made", "share", "one", "again", "numbers"]) (sc := defScope s_law) (by decide +kernel)) (fun _ _ _ _ _ => pg_name (i := 18) sc_law.nd rfl (Or.inl rfl)) (fun _ _ _ _ _ => pts_nil) (fun _ _ _ _ _ => (pe_callTy (call_tupleK (K := K) rfl) (by rfl) T.z_tuple (by decide +kernel) (pa_cons (by exact (pe_lc (own := [("one", 17)]) (g := gName 17) (tt := tYes) (by rfl) sc_law.nd (pi_seqK (K := K) rfl (pv 5)) (blkOk_by (own := [("one", 17)]) (N := ["script", "bag", "turn", "shares", "name", "wide", "narrow", "exact", "others", "d", "c", "index", "shown", "coins", "found", "made", "share", "one", "again", "numbers"]) (sc := { kind := .function, names := [(".0", .local), ("again", .local), ("tuple", .globalImplicit), ("bag", .cell), ("wide", .cell)], isGenerator := false, isCoroutine := false }) (by decide +kernel)) (fun _ _ _ _ _ => pg_name (i := 17) sc_law.nd rfl (Or.inl rfl)) (fun _ _ _ _ _ => pts_nil) (fun _ _ _ _ _ => (pe_callG C__law_held hg (hr.mono (by decide)) (by rfl) T.g__law_held T.F__law_held.kp T.b__law_held (pa_cons (pv 1) (pa_cons (pv 17) pa_nil)))))) pa_nil))))
  (pss_cons (ps_set (i := 9) sc_law.nd rfl (.inr rfl) (pe_callG C__law_some hg (hr.mono (by decide)) (by rfl) T.g__law_some T.F__law_some.kp T.b__law_some (pa_cons (pv 1) (pa_cons (pe_lst (pa_cons pe_int (pa_cons pe_int (pa_cons pe_int (pa_cons pe_int pa_nil))))) pa_nil))))
  (pss_cons (ps_for PassesOwn.never rfl (pi_range1 (by rfl) T.z_range (pa_cons (pe_callG C__law_power hg (hr.mono (by decide)) (by rfl) T.g__law_power T.F__law_power.kp T.b__law_power (pa_cons (pv 9) pa_nil)) pa_nil)) (pg_name (i := 10) sc_law.nd rfl (.inr rfl))
  (pss_one (ps_for PassesOwn.never rfl (pi_range1 (by rfl) T.z_range (pa_cons (pe_callB (call_lenK (K := K) rfl) (by rfl) T.z_len (by decide +kernel) (pa_cons (pv 3) pa_nil)) pa_nil)) (pg_name (i := 11) sc_law.nd rfl (.inr rfl))
  (pss_cons (ps_setLc (i := 12) (own := [("numbers", 19)]) (g := gName 19) (tt := tYes) (by rfl) sc_law.nd rfl rfl (by rfl) (pi_seqK (K := K) rfl (pe_tup (pa_cons (pv 5) (pa_cons (pv 6) (pa_cons (pv 7) pa_nil))))) (blkOk_by (own := [("numbers", 19)]) (N := ["script", "bag", "turn", "shares", "name", "wide", "narrow", "exact", "others", "d", "c", "index", "shown", "coins", "found", "made", "share", "one", "again", "numbers"]) (sc := defScope s_law) (by decide +kernel)) (fun _ _ _ _ _ => pg_name (i := 19) sc_law.nd rfl (Or.inl rfl)) (fun _ _ _ _ _ => pts_nil) (fun _ _ _ _ _ => (pe_callG C_is_shown hg (hr.mono (by decide)) (by rfl) T.g_is_shown T.F_is_shown.kp T.b_is_shown (pa_cons (pv 19) (pa_cons (pv 11) (pa_cons (pv 10) (pa_cons (pv 9) pa_nil)))))))
  (pss_cons (ps_if (PW.pt (pw_or (PW.pt (pw_and (pt_val (pe_ix (ix_seqK (K := K) rfl) (pv 12) pe_int (fun _ _ => rfl))) (pw_and1 (pt_not (pt_val (pe_ix (ix_seqK (K := K) rfl) (pv 12) pe_int (fun _ _ => rfl))))))) (pw_or (PW.pt (pw_and (pt_val (pe_ix (ix_seqK (K := K) rfl) (pv 12) pe_int (fun _ _ => rfl))) (pw_and1 (pt_not (pt_val (pe_ix (ix_seqK (K := K) rfl) (pv 12) pe_int (fun _ _ => rfl))))))) (pw_or1 (pt_cmpR (op_neK (K := K) rfl (by exact hr.units)) (pe_ix (ix_seqK (K := K) rfl) (pv 12) pe_int (fun _ _ => rfl)) (pe_cmpR (op_eqK (K := K) rfl (by exact hr.units)) (pe_callG C_made_by hg (hr.mono (by decide)) (by rfl) T.g_made_by T.F_made_by.kp T.b_made_by (pa_cons (pv 3) (pa_cons (pv 10) (pa_cons (pv 9) pa_nil)))) (pv 11) (nomark _)) (nomark _))))))
  (pss_one (ps_ret pe_bl))
  pss_nil)
  (pss_one (ps_if (PW.pt (pw_and (pt_val (pe_ix (ix_seqK (K := K) rfl) (pv 12) pe_int (fun _ _ => rfl))) (pw_and1 (pt_cmpR (op_neK (K := K) rfl (by exact hr.units)) (pe_lc (own := [("one", 17)]) (g := gName 17) (by rfl) sc_law.nd (pi_seqK (K := K) rfl (pv 8)) (blkOk_by (own := [("one", 17)]) (N := ["script", "bag", "turn", "shares", "name", "wide", "narrow", "exact", "others", "d", "c", "index", "shown", "coins", "found", "made", "share", "one", "again", "numbers"]) (sc := defScope s_law) (by decide +kernel)) (fun _ _ _ _ _ => pg_name (i := 17) sc_law.nd rfl (Or.inl rfl)) (fun _ _ _ _ _ => pts_one (pt_cmpR (op_neK (K := K) rfl (by exact hr.units)) (pe_callG C_made_by hg (hr.mono (by decide)) (by rfl) T.g_made_by T.F_made_by.kp T.b_made_by (pa_cons (pv 17) (pa_cons (pv 10) (pa_cons (pv 9) pa_nil)))) (pv 11) (nomark _))) (fun _ _ _ _ _ => (pv 17))) (pe_lst pa_nil) (nomark _)))))
  (pss_one (ps_ret pe_bl))
  pss_nil)))))))
  (pss_cons (ps_set (i := 13) sc_law.nd rfl (.inl rfl) (pe_callG C__law_many_coins hg (hr.mono (by decide)) (by rfl) T.g__law_many_coins T.F__law_many_coins.kp T.b__law_many_coins (pa_cons (pv 1) (pa_cons (pe_lst (pa_cons (pv 4) (pa_cons (pe_tup pa_nil) pa_nil))) pa_nil))))
  (pss_cons (ps_par (i := 14) (j := 15) rfl sc_law.nd rfl rfl (by decide) rfl rfl (pa_cons (pe_callG C_shown_within hg (hr.mono (by decide)) (by rfl) T.g_shown_within T.F_shown_within.kp T.b_shown_within (pa_cons (pv 5) (pa_cons (pv 13) (pa_cons (pv 4) (pa_cons pe_int pa_nil))))) (pa_cons (pe_callG C_chosen hg (hr.mono (by decide)) (by rfl) T.g_chosen T.F_chosen.kp T.b_chosen (pa_cons (pv 3) (pa_cons (pv 13) (pa_cons (pv 4) (pa_cons pe_int pa_nil))))) pa_nil)) (by rfl))
  (pss_cons (ps_if (PW.pt (pw_and (pt_cmpR op_notN (pv 14) pe_non (nomark _)) (pw_and1 (PW.pt (pw_or (pt_cmpR op_isN (pv 15) pe_non (nomark _)) (pw_or (pt_cmpR (op_neK (K := K) rfl (by exact hr.units)) (pe_ix (ix_seqK (K := K) rfl) (pv 15) pe_int (fun _ _ => rfl)) (pe_ix (ix_seqK (K := K) rfl) (pv 14) pe_int (fun _ _ => rfl)) (nomark _)) (pw_or1 (pt_cmpR op_gt (pe_ix (ix_seqK (K := K) rfl) (pv 15) pe_int (fun _ _ => rfl)) (pe_ix (ix_seqK (K := K) rfl) (pv 14) pe_int (fun _ _ => rfl)) (nomark _)))))))))
  (pss_one (ps_ret pe_bl))
  pss_nil)
  (pss_one (ps_if (pt_not (pt_val (pe_callG C__law_alike hg (hr.mono (by decide)) (by rfl) T.g__law_alike T.F__law_alike.kp T.b__law_alike (pa_cons (pe_callG C_shown_within hg (hr.mono (by decide)) (by rfl) T.g_shown_within T.F_shown_within.kp T.b_shown_within (pa_cons (pv 7) (pa_cons (pv 13) (pa_cons (pv 4) (pa_cons pe_int pa_nil))))) (pa_cons (pv 15) pa_nil)))))
  (pss_one (ps_ret pe_bl))
  pss_nil)))))))))))))
  (pss_one (ps_ret pe_bl)))), ?_⟩
  refine ⟨.ref a, rfl, ?_⟩
  refine ⟨a, ns, rfl, hS, ?_⟩
  intro H1 p l ms sm np e1 e2 e3
  dsimp only [gName]
  refine law_rest (m := 18) e1 e2 e3 rfl ?_ k
  try dsimp only [cxOf]
  have big : 1000 < sizeLine := Nat.le_of_ble_eq_true rfl
  refine s_seq (s_forR1 (a_cons (e_int (a_nil ⟨3, rfl, by decide, fun i ρ => ρ.length = 20 ∧ ρ[1]? = some .bag, ⟨rfl, rfl⟩, ?_, ?_⟩))))
  · rintro i0 ρ hi0 hb
    obtain ⟨x0, x2, x3, x4, x5, x6, x7, x8, x9, x10, x11, x12, x13, x14, x15, x16, x17, x18, x19, rfl⟩ := bg20 hb
    clear hb
    try dsimp only [List.set]
    refine s_seq ?_
    repeat walk_at "ds"
    refine ⟨rfl, rfl, fun ss0 hs0 h90 => ?_⟩
    repeat walk_at "ds"
    rw [cut7, ← List.map_take]
    refine ⟨rfl, rfl, fun nm hn => ?_⟩
    have hs := hs0.cut7
    have h9 : ∀ s ∈ ss0.take 7, Sm 120 s := fun s h => h90 s (List.mem_of_mem_take h)
    generalize ss0.take 7 = ss at hs h9 ⊢
    repeat walk_at "ds"
    have few := hs.few
    have ne := hs.ne
    have i40 : ((i0 : Int)) < 3 := hi0
    -- wide
    refine s_seq (S.cut (M := fun ρ => ∃ wd : List En3, Fits wd ss ∧ ρ = [x0, .bag, .dat (.int (i0 : Int)), .dat (.tuple (ss.map .int)), .dat (nmD nm), .dat (.list (wd.map tD)), x6, x7, x8, x9, x10, x11, x12, x13, x14, x15, x16, x17, x18, x19]) ?_ ?_)
    · refine s_set (e_lcS (e_var rfl (fun h => nomatch h) ⟨_, ss.map .int, rfl, rfl, by rw [List.length_map]; omega, fun k acc => ∃ ts : List En3, acc = ts.map tD ∧ Fits ts (ss.take k), ⟨[], rfl, rfl, fun k t s h => nomatch h⟩, ?_, ?_⟩))
      · rintro k d acc hk ⟨ts, rfl, hf⟩
        obtain ⟨s, hks, rfl⟩ := map_getE hk
        have h9s := h9 s (List.mem_of_getElem? hks)
        have s1 := (hs.at hks).1
        try dsimp only [List.set]
        unfold Lc
        refine t_yes (iteT ?_)
        repeat walk_at "dl"
        refine ⟨rfl, _, rfl, by simp, by simp, fun d hd => ?_⟩
        obtain ⟨sl, rfl, l0, l1⟩ : ∃ sl : Int, d = .int sl ∧ 0 ≤ sl ∧ Sm 120 sl := by
          simp only [List.mem_cons, List.not_mem_nil, or_false] at hd
          rcases hd with rfl | rfl | rfl | rfl
          · exact ⟨_, rfl, by decide, by decide⟩
          · exact ⟨_, rfl, by decide, by decide⟩
          · exact ⟨_, rfl, by decide, by decide⟩
          · exact ⟨_, rfl, by omega, h9s⟩
        clear hd
        repeat walk_at "dl"
        refine ⟨rfl, s, sl, rfl, ⟨s1, h9s, l0, l1⟩, fun t ht => ?_⟩
        repeat walk_at "dl"
        exact ⟨ts ++ [t], by rw [List.map_append]; rfl, fits_snoc hf hks ht⟩
      · rintro acc ⟨wd, rfl, hw⟩ _
        rw [List.length_map, List.take_length] at hw
        exact ⟨trivial, wd, hw, rfl⟩
    rintro ρ' ⟨wd, hw, rfl⟩
    have lw : wd.length = ss.length := hw.len
    -- narrow
    refine s_seq (S.cut (M := fun ρ => ∃ nw : List En3, Fits nw ss ∧ Nar nw wd ∧ ρ = [x0, .bag, .dat (.int (i0 : Int)), .dat (.tuple (ss.map .int)), .dat (nmD nm), .dat (.list (wd.map tD)), .dat (.list (nw.map tD)), x7, x8, x9, x10, x11, x12, x13, x14, x15, x16, x17, x18, x19]) ?_ ?_)
    · refine s_set (e_lcZ rfl (a_cons (e_var rfl (fun h => nomatch h) (a_cons (e_var rfl (fun h => nomatch h) (a_nil ⟨_, _, ss.map .int, wd.map tD, rfl, rfl, rfl, by rw [List.length_map]; omega, fun k acc => ∃ ts : List En3, acc = ts.map tD ∧ Fits ts (ss.take k) ∧ Nar ts (wd.take k), ⟨[], rfl, ⟨rfl, fun k t s h => nomatch h⟩, ⟨.nil, .nil⟩⟩, ?_, ?_⟩))))))
      · rintro k d1 d2 acc hk1 hk2 ⟨ts, rfl, hf, hnr⟩
        obtain ⟨s, hks, rfl⟩ := map_getE hk1
        obtain ⟨t, hkt, rfl⟩ := map_getE hk2
        have h9s := h9 s (List.mem_of_getElem? hks)
        have s1 := (hs.at hks).1
        dsimp only [DL.clr, List.set]
        unfold Lc
        refine t_yes (iteT ?_)
        repeat walk_at "dl"
        refine ⟨rfl, s, t, rfl, ⟨s1, h9s.mono (by decide)⟩, hw.fit k t s hkt hks, fun u hu u1 u2 => ?_⟩
        repeat walk_at "dl"
        exact ⟨ts ++ [u], by rw [List.map_append]; rfl, fits_snoc hf hks hu, nar_snoc hnr hkt u1 u2⟩
      · rintro acc ⟨nw, rfl, hf, hnr⟩
        rw [List.length_map, List.length_map, lw, Nat.min_self] at hf hnr
        rw [List.take_length] at hf
        rw [← lw, List.take_length] at hnr
        exact ⟨trivial, nw, hf, hnr, rfl⟩
    rintro ρ' ⟨nw, hf, hnr, rfl⟩
    -- exact
    refine s_seq (S.cut (M := fun ρ => ρ = [x0, .bag, .dat (.int (i0 : Int)), .dat (.tuple (ss.map .int)), .dat (nmD nm), .dat (.list (wd.map tD)), .dat (.list (nw.map tD)), .dat (.list ((exactT ss).map tD)), x8, x9, x10, x11, x12, x13, x14, x15, x16, x17, x18, x19]) ?_ ?_)
    · refine s_set (e_lcS (e_var rfl (fun h => nomatch h) ⟨_, ss.map .int, rfl, rfl, by rw [List.length_map]; omega, fun k acc => acc = (exactT (ss.take k)).map tD, rfl, ?_, ?_⟩))
      · rintro k d acc hk rfl
        obtain ⟨s, hks, rfl⟩ := map_getE hk
        try dsimp only [List.set]
        unfold Lc
        refine t_yes (iteT ?_)
        repeat walk_at "dl"
        dsimp only
        unfold exactT
        rw [List.take_succ, hks, List.map_append, List.map_append]
        rfl
      · rintro acc rfl _
        rw [List.length_map, List.take_length]
        exact ⟨trivial, rfl⟩
    rintro ρ' rfl
    -- others
    refine s_seq (S.cut (M := fun ρ => ∃ us : List (List Int), (∀ u ∈ us, Fits wd u ∧ Shs u) ∧ us.length ≤ 3 ∧ ρ = [x0, .bag, .dat (.int (i0 : Int)), .dat (.tuple (ss.map .int)), .dat (nmD nm), .dat (.list (wd.map tD)), .dat (.list (nw.map tD)), .dat (.list ((exactT ss).map tD)), .dat (.list (us.map fun u => .tuple (u.map .int))), x9, x10, x11, x12, x13, x14, x15, x16, x17, x18, x19]) ?_ ?_)
    · refine s_set (e_lcR (a_cons (e_int (a_nil ⟨3, rfl, by decide, by decide, fun n acc => ∃ us : List (List Int), (∀ u ∈ us, Fits wd u ∧ Shs u) ∧ us.length = n ∧ acc = us.map fun u => .tuple (u.map .int), ⟨[], fun u h => (nomatch h), rfl, rfl⟩, ?_, ?_⟩))))
      · rintro n acc hn3 ⟨us, hus, hl, rfl⟩
        try dsimp only [List.set]
        unfold Lc
        refine t_yes (iteT ?_)
        repeat walk_at "dl"
        refine e_lcS (e_var rfl (fun h => nomatch h) ⟨_, wd.map tD, rfl, rfl, by rw [List.length_map]; omega, fun k acc => ∃ u : List Int, acc = u.map .int ∧ u.length = k ∧ ∀ j t h, wd[j]? = some t → u[j]? = some h → Fit t h ∧ 1 ≤ h ∧ Sm 140 h, ⟨[], rfl, rfl, fun j t h _ z => by rw [List.getElem?_nil] at z; exact nomatch z⟩, ?_, ?_⟩)
        · rintro k d acc hk ⟨u, rfl, hul, hu⟩
          obtain ⟨t, hkt, rfl⟩ := map_getE hk
          have hkl := get_lt hkt
          have hks : ss[k]? = some (ss[k]'(by omega)) := List.getElem?_eq_getElem (by omega)
          have s1 := hs.at hks
          have ft := hw.fit k t _ hkt hks
          try dsimp only [List.set]
          unfold Lc
          refine t_yes (iteT ?_)
          repeat walk_at "dl"
          refine ⟨rfl, _, t, rfl, s1, ft, fun h h1 h2 h3 => ?_⟩
          repeat walk_at "dl"
          refine ⟨u ++ [h], by rw [List.map_append]; rfl, by rw [List.length_append, hul]; rfl, fun j t2 h2' hj1 hj2 => ?_⟩
          by_cases e : j = k
          · subst e
            rw [hkt] at hj1
            cases hj1
            rw [List.getElem?_append_right (by omega), hul, Nat.sub_self] at hj2
            cases hj2
            exact ⟨h3, h1, top_sm h3 (by omega) h3.high⟩
          · have hj3 := get_lt hj2
            rw [List.length_append, hul] at hj3
            have hj3 : j < k + 1 := hj3
            rw [List.getElem?_append_left (by omega)] at hj2
            exact hu j t2 h2' hj1 hj2
        · rintro acc ⟨u, rfl, hul, hu⟩ _
          rw [List.length_map] at hul
          repeat walk_at "dl"
          refine ⟨us ++ [u], fun v hv => ?_, by rw [List.length_append, hl]; rfl, by rw [List.map_append]; rfl⟩
          rcases List.mem_append.mp hv with h | h
          · exact hus v h
          · rw [List.mem_singleton.mp h]
            refine ⟨⟨hul.symm, fun j t h a b => (hu j t h a b).1⟩, by omega, by omega, fun z hz => ?_⟩
            obtain ⟨j, hj⟩ := List.getElem?_of_mem hz
            have hjl := get_lt hj
            have := hu j (wd[j]'(by omega)) z (List.getElem?_eq_getElem (by omega)) hj
            exact this.2
      · rintro acc ⟨us, hus, hl, rfl⟩ _
        have hl : us.length = 3 := hl
        exact ⟨trivial, us, hus, by omega, rfl⟩
    rintro ρ' ⟨us, hus, hul, rfl⟩
    refine s_seq ?_
    repeat walk_at "ds"
    refine ⟨rfl, _, rfl, by decide, by decide, fun d hd => ?_⟩
    obtain ⟨q, rfl, hq, pq⟩ : ∃ q : Nat, d = .int (q : Int) ∧ q ≤ 5 ∧ (2 : Int) ^ q ≤ 32 := by
      simp only [List.mem_cons, List.not_mem_nil, or_false] at hd
      rcases hd with rfl | rfl | rfl | rfl
      · exact ⟨3, rfl, by decide, by decide⟩
      · exact ⟨1, rfl, by decide, by decide⟩
      · exact ⟨2, rfl, by decide, by decide⟩
      · exact ⟨5, rfl, by decide, by decide⟩
    clear hd
    repeat walk_at "ds"
    have p0 := two_pos q
    have ecq : ((2 ^ q : Nat) : Int) = 2 ^ q := by simp
    have ow := hw.ok hs.few
    have on := hf.ok hs.few
    have hxf := exact_fits hs h9
    have ox := hxf.ok hs.few
    have lx : (exactT ss).length = ss.length := List.length_map ..
    have ln2 : nw.length = ss.length := hf.len
    refine s_seq (s_forR1 (a_cons ?_))
    try dsimp only [List.set]
    repeat walk_at "dl"
    refine ⟨rfl, (q : Int), rfl, by omega, by omega, ?_⟩
    rw [Int.toNat_natCast]
    refine a_nil ⟨2 ^ q, rfl, by omega, fun _ ρ => ∃ y10 y11 y12, ρ = [x0, .bag, .dat (.int (i0 : Int)), .dat (.tuple (ss.map .int)), .dat (nmD nm), .dat (.list (wd.map tD)), .dat (.list (nw.map tD)), .dat (.list ((exactT ss).map tD)), .dat (.list (us.map fun u => .tuple (u.map .int))), .dat (.int (q : Int)), y10, y11, y12, x13, x14, x15, x16, x17, x18, x19], ⟨_, _, _, rfl⟩, ?_, ?_⟩
    · rintro c ρ' hc ⟨y10, y11, y12, rfl⟩
      have hc2 : c < 2 ^ q := by omega
      try dsimp only [List.set]
      refine s_forR1 (a_cons ?_)
      repeat walk_at "dl"
      rw [List.length_map]
      refine ⟨by omega, fun _ ρ => ∃ y11 y12, ρ = [x0, .bag, .dat (.int (i0 : Int)), .dat (.tuple (ss.map .int)), .dat (nmD nm), .dat (.list (wd.map tD)), .dat (.list (nw.map tD)), .dat (.list ((exactT ss).map tD)), .dat (.list (us.map fun u => .tuple (u.map .int))), .dat (.int (q : Int)), .dat (.int (c : Int)), y11, y12, x13, x14, x15, x16, x17, x18, x19], ⟨_, _, rfl⟩, ?_, ?_⟩
      · rintro i ρ' hi ⟨y11, y12, rfl⟩
        have hi : i < ss.length := by omega
        try dsimp only [List.set]
        obtain ⟨bw, hbw⟩ : ∃ b, b = (aheadB wd i c q && behindB wd i c q) := ⟨_, rfl⟩
        obtain ⟨bn, hbn⟩ : ∃ b, b = (aheadB nw i c q && behindB nw i c q) := ⟨_, rfl⟩
        obtain ⟨be, hbe⟩ : ∃ b, b = (aheadB (exactT ss) i c q && behindB (exactT ss) i c q) := ⟨_, rfl⟩
        obtain ⟨em, hem⟩ : ∃ b, b = PyData.eqv (mb ss (c : Int) (2 ^ q)) (.int (i : Int)) := ⟨_, rfl⟩
        have w1 : bw = true → bn = true := fun h => by
          rw [h] at hbw
          have := (Bool.and_eq_true _ _).mp hbw.symm
          rw [hbn, nar_ahead hnr hc2 this.1, nar_behind hnr hc2 this.2]
          rfl
        have w2 : bn = true → be = true := fun h => by
          rw [h] at hbn
          have := (Bool.and_eq_true _ _).mp hbn.symm
          rw [hbe, nar_ahead (nar_exact hf) hc2 this.1, nar_behind (nar_exact hf) hc2 this.2]
          rfl
        have w3 : be = em := by
          have a1 := exact_shown (i := i) (c := c) (d := q) (fun s h => by have := (hs.pos s h).1; omega) hxf hi hc2
          have a2 := hit_dec hs (c := c) (d := q) (i := i)
          rw [← hbe] at a1
          rw [← hem] at a2
          cases be <;> cases em <;> simp_all
        refine s_seq (s_set (e_lcS (DL.E.mono (P := fun x => x = .dat (.tuple ([wd, nw, exactT ss].map fun ts => .list (ts.map tD)))) ?_ ?_)))
        · repeat walk_at "dl"
          rfl
        rintro x rfl
        refine ⟨_, [wd, nw, exactT ss].map fun ts => .list (ts.map tD), rfl, rfl, Nat.le_of_ble_eq_true rfl, fun k acc => acc = ([wd, nw, exactT ss].take k).map fun ts => .bool (aheadB ts i c q && behindB ts i c q), rfl, ?_, ?_⟩
        · rintro k d acc hk rfl
          obtain ⟨ts, hts, rfl⟩ := map_getE hk
          have hm : EsOk ts ∧ ts.length = ss.length := by
            have := List.mem_of_getElem? hts
            simp only [List.mem_cons, List.not_mem_nil, or_false] at this
            rcases this with rfl | rfl | rfl
            · exact ⟨ow, lw⟩
            · exact ⟨on, ln2⟩
            · exact ⟨ox, lx⟩
          try dsimp only [List.set]
          unfold Lc
          refine t_yes (iteT ?_)
          repeat walk_at "dl"
          refine ⟨rfl, ts, i, c, q, rfl, hm.1, by omega, by omega, hc2, ?_⟩
          repeat walk_at "dl"
          dsimp only
          rw [List.take_succ, hts, List.map_append]
          rfl
        rintro acc rfl _
        have eacc : ([wd, nw, exactT ss].take ([wd, nw, exactT ss].map fun ts => PyData.list (ts.map tD)).length).map (fun ts => PyData.bool (aheadB ts i c q && behindB ts i c q)) = [.bool bw, .bool bn, .bool be] := by
          rw [hbw, hbn, hbe]
          rfl
        rw [eacc]
        refine ⟨trivial, ?_⟩
        try dsimp only [List.set]
        refine s_seq (S.cut (M := fun ρ => ρ = [x0, .bag, .dat (.int (i0 : Int)), .dat (.tuple (ss.map .int)), .dat (nmD nm), .dat (.list (wd.map tD)), .dat (.list (nw.map tD)), .dat (.list ((exactT ss).map tD)), .dat (.list (us.map fun u => .tuple (u.map .int))), .dat (.int (q : Int)), .dat (.int (c : Int)), .dat (.int (i : Int)), .dat (.list [.bool bw, .bool bn, .bool be]), x13, x14, x15, x16, x17, x18, x19]) ?_ ?_)
        · subst w3
          have cc : 0 ≤ (c : Int) ∧ Sm 320 (c : Int) ∧ 0 ≤ (q : Int) ∧ (q : Int) ≤ 310 := ⟨by omega, Sm.mono (a := 20) (by unfold Sm; omega) (by decide), by omega, by omega⟩
          clear hbw hbn hbe eacc
          cases bw <;> cases bn <;> cases be <;> first | (exact absurd (w1 rfl) (by decide)) | (exact absurd (w2 rfl) (by decide)) | skip
          all_goals
            repeat (first | walk_at "dl" | refine iteF ?_ | refine iteT ?_)
            refine ⟨rfl, _, ss, (c : Int), (q : Int), rfl, rfl, hs, cc, ?_⟩
            rw [Int.toNat_natCast]
            repeat walk_at "dl"
            refine ⟨mb_shaped hs, rfl, ?_⟩
            rw [← hem]
            repeat (first | walk_at "dl" | refine iteF ?_ | refine iteT ?_)
        rintro ρ' rfl
        have cc : 0 ≤ (c : Int) ∧ Sm 320 (c : Int) ∧ 0 ≤ (q : Int) ∧ (q : Int) ≤ 310 := ⟨by omega, Sm.mono (a := 20) (by unfold Sm; omega) (by decide), by omega, by omega⟩
        cases bw with
        | false =>
          repeat (first | walk_at "dl" | refine iteF ?_ | refine iteT ?_)
          exact ⟨_, _, rfl⟩
        | true =>
          obtain ⟨h1, h2⟩ := (Bool.and_eq_true _ _).mp hbw.symm
          repeat (first | walk_at "dl" | refine iteF ?_ | refine iteT ?_)
          refine e_lcS (e_var rfl (fun h => nomatch h) ⟨_, us.map fun u => .tuple (u.map .int), rfl, rfl, by rw [List.length_map]; omega, fun k acc => acc = [], rfl, ?_, ?_⟩)
          · rintro k d acc hk rfl
            obtain ⟨u, huk, rfl⟩ := map_getE hk
            obtain ⟨hu1, hu2⟩ := hus u (List.mem_of_getElem? huk)
            have hu3 : u.length = ss.length := hu1.len.symm.trans lw
            have hit := (hit_dec hu2 (c := c) (d := q) (i := i)).mpr (shown_hit hu1 (by omega) hc2 h1 h2)
            try dsimp only [List.set]
            unfold Lc
            repeat walk_at "dl"
            refine ⟨rfl, _, u, (c : Int), (q : Int), rfl, rfl, hu2, cc, ?_⟩
            rw [Int.toNat_natCast]
            repeat walk_at "dl"
            refine ⟨mb_shaped hu2, rfl, ?_⟩
            rw [hit]
            repeat walk_at "dl"
            refine iteF ?_
            rfl
          rintro acc rfl _
          repeat (first | walk_at "dl" | refine iteF ?_ | refine iteT ?_)
          exact ⟨_, _, rfl⟩
      · rintro ρ' ⟨y11, y12, rfl⟩
        exact ⟨_, _, _, rfl⟩
    rintro ρ' ⟨y10, y11, y12, rfl⟩
    refine s_seq ?_
    repeat walk_at "ds"
    refine ⟨rfl, [nm, []], rfl, ⟨by simp, by simp⟩, fun m hm => ?_, fun seed cs s0 s1 hcs _ _ => ?_⟩
    · simp only [List.mem_cons, List.not_mem_nil, or_false] at hm
      rcases hm with rfl | rfl
      · exact hn
      · exact ⟨.inl rfl, fun i hi => nomatch hi⟩
    repeat walk_at "ds"
    refine s_seq ?_
    repeat walk_at "ds"
    refine ⟨rfl, wd, seed, cs, nm, 40, rfl, ow, by omega, hcs, hn, by decide, ?_⟩
    repeat walk_at "ds"
    refine ⟨rfl, _, ss, seed, cs, nm, 40, rfl, rfl, hs, hcs, hn, by decide, ?_⟩
    have fc : Fine 9000 1 (chs ss seed cs nm (40 + 1) 0) := by
      rcases chs_cases (seed := seed) (cs := cs) (nm := nm) hs (40 + 1) 0 with h | ⟨a, m, h1, h2, h3, _, _⟩
      · rw [h]
        exact fine_none.mono (by decide) (by decide)
      · rw [h3]
        exact (fine_tuple (fine_cons (fine_sm (a := 20) (by unfold Sm; omega) (by decide)) (fine_cons (fine_sm (a := 20) (by unfold Sm; omega) (by decide)) fine_nil))).mono (by decide) (by decide)
    have one := shw_one hs hw (seed := seed) (cs := cs) (nm := nm) (40 + 1) 0
    have exe := shw_exact hs hxf (seed := seed) (cs := cs) (nm := nm) (40 + 1) 0
    generalize hF : shw wd seed cs nm (40 + 1) 0 = F at one ⊢
    generalize hM : chs ss seed cs nm (40 + 1) 0 = M at one exe fc ⊢
    repeat walk_at "ds"
    refine s_seq (S.cut (M := fun ρ => ρ = [x0, .bag, .dat (.int (i0 : Int)), .dat (.tuple (ss.map .int)), .dat (nmD nm), .dat (.list (wd.map tD)), .dat (.list (nw.map tD)), .dat (.list ((exactT ss).map tD)), .dat (.list (us.map fun u => .tuple (u.map .int))), .dat (.int (q : Int)), y10, y11, y12, .dat (coinsD seed cs), .dat F, .dat M, x16, x17, x18, x19]) ?_ ?_)
    · rcases one with h | ⟨a, m, d1, h1, h2, h3, h4, h5⟩
      · subst h
        repeat walk_at "dl"
        refine ⟨rfl, ?_⟩
        repeat (first | walk_at "dl" | refine iteF ?_ | refine iteT ?_)
      · subst h3
        subst h4
        repeat walk_at "dl"
        refine ⟨rfl, ?_⟩
        repeat walk_at "dl"
        refine iteT ?_
        repeat walk_at "dl"
        refine ⟨rfl, ?_⟩
        repeat walk_at "dl"
        refine iteF ?_
        repeat walk_at "dl"
        have e8 : PyData.eqv (.int (a : Int)) (.int (a : Int)) = true := decide_eq_true rfl
        rw [e8]
        refine iteF ?_
        repeat walk_at "dl"
        refine ite2 (fun hc => ?_) (fun hc => ?_)
        · have := of_decide_eq_true hc
          omega
        · repeat walk_at "dl"
    rintro ρ' rfl
    repeat walk_at "dl"
    refine ⟨rfl, exactT ss, seed, cs, nm, 40, rfl, ox, by omega, hcs, hn, by decide, ?_⟩
    rw [exe]
    repeat walk_at "dl"
    refine ⟨rfl, _, _, _, rfl, fc, by decide, by decide, ?_⟩
    repeat walk_at "dl"
    refine iteF ?_
    repeat walk_at "dl"
    exact ⟨rfl, rfl⟩
  · rintro ρ hb
    obtain ⟨x0, x2, x3, x4, x5, x6, x7, x8, x9, x10, x11, x12, x13, x14, x15, x16, x17, x18, x19, rfl⟩ := bg20 hb
    repeat walk_at "dl"
end
section
variable {P : Program} {w : World} {K : PySem.W.Frag} {mg : Str → Option Value} {bs : Heap}
theorem all_mk {l : PySem.W.OpenLaw} {w : World} {K : PySem.W.Frag} {h : Heap} {mg : Str → Option Value} {fa : Addr} (X : K.In h) (Gn : h.Ns mainGlobals mg) (hfa : mg "law" = some (.ref fa))
    {f0 : Addr} {od0 an0 : Option Addr} {sl0 : Array (Option Value)} {oc0 kV0 dc0 pm0 cd0 ct0 : Value}
    {f1 : Addr} {od1 an1 : Option Addr} {sl1 : Array (Option Value)} {oc1 kV1 dc1 pm1 cd1 ct1 : Value}
    {f2 : Addr} {od2 an2 : Option Addr} {sl2 : Array (Option Value)} {oc2 kV2 dc2 pm2 cd2 ct2 : Value}
    {f3 : Addr} {od3 an3 : Option Addr} {sl3 : Array (Option Value)} {oc3 kV3 dc3 pm3 cd3 ct3 : Value}
    {f4 : Addr} {od4 an4 : Option Addr} {sl4 : Array (Option Value)} {oc4 kV4 dc4 pm4 cd4 ct4 : Value}
    {f5 : Addr} {od5 an5 : Option Addr} {sl5 : Array (Option Value)} {oc5 kV5 dc5 pm5 cd5 ct5 : Value}
    {f6 : Addr} {od6 an6 : Option Addr} {sl6 : Array (Option Value)} {oc6 kV6 dc6 pm6 cd6 ct6 : Value}
    {f7 : Addr} {od7 an7 : Option Addr} {sl7 : Array (Option Value)} {oc7 kV7 dc7 pm7 cd7 ct7 : Value}
    {f8 : Addr} {od8 an8 : Option Addr} {sl8 : Array (Option Value)} {oc8 kV8 dc8 pm8 cd8 ct8 : Value}
    {f9 : Addr} {od9 an9 : Option Addr} {sl9 : Array (Option Value)} {oc9 kV9 dc9 pm9 cd9 ct9 : Value}
    {f10 : Addr} {od10 an10 : Option Addr} {sl10 : Array (Option Value)} {oc10 kV10 dc10 pm10 cd10 ct10 : Value}
    {f11 : Addr} {od11 an11 : Option Addr} {sl11 : Array (Option Value)} {oc11 kV11 dc11 pm11 cd11 ct11 : Value}
    {f12 : Addr} {od12 an12 : Option Addr} {sl12 : Array (Option Value)} {oc12 kV12 dc12 pm12 cd12 ct12 : Value}
    {f13 : Addr} {od13 an13 : Option Addr} {sl13 : Array (Option Value)} {oc13 kV13 dc13 pm13 cd13 ct13 : Value}
    {f14 : Addr} {od14 an14 : Option Addr} {sl14 : Array (Option Value)} {oc14 kV14 dc14 pm14 cd14 ct14 : Value}
    {f15 : Addr} {od15 an15 : Option Addr} {sl15 : Array (Option Value)} {oc15 kV15 dc15 pm15 cd15 ct15 : Value}
    {f16 : Addr} {od16 an16 : Option Addr} {sl16 : Array (Option Value)} {oc16 kV16 dc16 pm16 cd16 ct16 : Value}
    {f17 : Addr} {od17 an17 : Option Addr} {sl17 : Array (Option Value)} {oc17 kV17 dc17 pm17 cd17 ct17 : Value}
    {f18 : Addr} {od18 an18 : Option Addr} {sl18 : Array (Option Value)} {oc18 kV18 dc18 pm18 cd18 ct18 : Value}
    {f19 : Addr} {od19 an19 : Option Addr} {sl19 : Array (Option Value)} {oc19 kV19 dc19 pm19 cd19 ct19 : Value}
    {f20 : Addr} {od20 an20 : Option Addr} {sl20 : Array (Option Value)} {oc20 kV20 dc20 pm20 cd20 ct20 : Value}
    {f21 : Addr} {od21 an21 : Option Addr} {sl21 : Array (Option Value)} {oc21 kV21 dc21 pm21 cd21 ct21 : Value}
    {f22 : Addr} {od22 an22 : Option Addr} {sl22 : Array (Option Value)} {oc22 kV22 dc22 pm22 cd22 ct22 : Value}
    {f23 : Addr} {od23 an23 : Option Addr} {sl23 : Array (Option Value)} {oc23 kV23 dc23 pm23 cd23 ct23 : Value}
    {f24 : Addr} {od24 an24 : Option Addr} {sl24 : Array (Option Value)} {oc24 kV24 dc24 pm24 cd24 ct24 : Value}
    {f25 : Addr} {od25 an25 : Option Addr} {sl25 : Array (Option Value)} {oc25 kV25 dc25 pm25 cd25 ct25 : Value}
    {f26 : Addr} {od26 an26 : Option Addr} {sl26 : Array (Option Value)} {oc26 kV26 dc26 pm26 cd26 ct26 : Value}
    {f27 : Addr} {od27 an27 : Option Addr} {sl27 : Array (Option Value)} {oc27 kV27 dc27 pm27 cd27 ct27 : Value}
    (a0 : PySem.W.nsIn K mainGlobals "spring" = some (some (.ref f0)))
    (l0 : K.lookup f0 = some ⟨oc0, od0, .func (PySem.W.fnOf "spring" "spring" (defArgs s_spring) (defBody s_spring) (defScope s_spring) .none kV0 dc0 pm0 an0 cd0 ct0), sl0⟩)
    (c0 : PySem.W.codeIn K cd0 "spring" = true) (k0 : PySem.W.keepIn K (.ref f0) = true)
    (a1 : PySem.W.nsIn K mainGlobals "_coin_by" = some (some (.ref f1)))
    (l1 : K.lookup f1 = some ⟨oc1, od1, .func (PySem.W.fnOf "_coin_by" "_coin_by" (defArgs s__coin_by) (defBody s__coin_by) (defScope s__coin_by) .none kV1 dc1 pm1 an1 cd1 ct1), sl1⟩)
    (c1 : PySem.W.codeIn K cd1 "_coin_by" = true) (k1 : PySem.W.keepIn K (.ref f1) = true)
    (a2 : PySem.W.nsIn K mainGlobals "_told_of" = some (some (.ref f2)))
    (l2 : K.lookup f2 = some ⟨oc2, od2, .func (PySem.W.fnOf "_told_of" "_told_of" (defArgs s__told_of) (defBody s__told_of) (defScope s__told_of) .none kV2 dc2 pm2 an2 cd2 ct2), sl2⟩)
    (c2 : PySem.W.codeIn K cd2 "_told_of" = true) (k2 : PySem.W.keepIn K (.ref f2) = true)
    (a3 : PySem.W.nsIn K mainGlobals "coin" = some (some (.ref f3)))
    (l3 : K.lookup f3 = some ⟨oc3, od3, .func (PySem.W.fnOf "coin" "coin" (defArgs s_coin) (defBody s_coin) (defScope s_coin) .none kV3 dc3 pm3 an3 cd3 ct3), sl3⟩)
    (c3 : PySem.W.codeIn K cd3 "coin" = true) (k3 : PySem.W.keepIn K (.ref f3) = true)
    (a4 : PySem.W.nsIn K mainGlobals "_by_powers" = some (some (.ref f4)))
    (l4 : K.lookup f4 = some ⟨oc4, od4, .func (PySem.W.fnOf "_by_powers" "_by_powers" (defArgs s__by_powers) (defBody s__by_powers) (defScope s__by_powers) .none kV4 dc4 pm4 an4 cd4 ct4), sl4⟩)
    (c4 : PySem.W.codeIn K cd4 "_by_powers" = true) (k4 : PySem.W.keepIn K (.ref f4) = true)
    (a5 : PySem.W.nsIn K mainGlobals "compared" = some (some (.ref f5)))
    (l5 : K.lookup f5 = some ⟨oc5, od5, .func (PySem.W.fnOf "compared" "compared" (defArgs s_compared) (defBody s_compared) (defScope s_compared) .none kV5 dc5 pm5 an5 cd5 ct5), sl5⟩)
    (c5 : PySem.W.codeIn K cd5 "compared" = true) (k5 : PySem.W.keepIn K (.ref f5) = true)
    (a6 : PySem.W.nsIn K mainGlobals "made_by" = some (some (.ref f6)))
    (l6 : K.lookup f6 = some ⟨oc6, od6, .func (PySem.W.fnOf "made_by" "made_by" (defArgs s_made_by) (defBody s_made_by) (defScope s_made_by) .none kV6 dc6 pm6 an6 cd6 ct6), sl6⟩)
    (c6 : PySem.W.codeIn K cd6 "made_by" = true) (k6 : PySem.W.keepIn K (.ref f6) = true)
    (a7 : PySem.W.nsIn K mainGlobals "_with_next" = some (some (.ref f7)))
    (l7 : K.lookup f7 = some ⟨oc7, od7, .func (PySem.W.fnOf "_with_next" "_with_next" (defArgs s__with_next) (defBody s__with_next) (defScope s__with_next) .none kV7 dc7 pm7 an7 cd7 ct7), sl7⟩)
    (c7 : PySem.W.codeIn K cd7 "_with_next" = true) (k7 : PySem.W.keepIn K (.ref f7) = true)
    (a8 : PySem.W.nsIn K mainGlobals "chosen" = some (some (.ref f8)))
    (l8 : K.lookup f8 = some ⟨oc8, od8, .func (PySem.W.fnOf "chosen" "chosen" (defArgs s_chosen) (defBody s_chosen) (defScope s_chosen) .none kV8 dc8 pm8 an8 cd8 ct8), sl8⟩)
    (c8 : PySem.W.codeIn K cd8 "chosen" = true) (k8 : PySem.W.keepIn K (.ref f8) = true)
    (a9 : PySem.W.nsIn K mainGlobals "_is_ahead_shown" = some (some (.ref f9)))
    (l9 : K.lookup f9 = some ⟨oc9, od9, .func (PySem.W.fnOf "_is_ahead_shown" "_is_ahead_shown" (defArgs s__is_ahead_shown) (defBody s__is_ahead_shown) (defScope s__is_ahead_shown) .none kV9 dc9 pm9 an9 cd9 ct9), sl9⟩)
    (c9 : PySem.W.codeIn K cd9 "_is_ahead_shown" = true) (k9 : PySem.W.keepIn K (.ref f9) = true)
    (a10 : PySem.W.nsIn K mainGlobals "_is_behind_shown" = some (some (.ref f10)))
    (l10 : K.lookup f10 = some ⟨oc10, od10, .func (PySem.W.fnOf "_is_behind_shown" "_is_behind_shown" (defArgs s__is_behind_shown) (defBody s__is_behind_shown) (defScope s__is_behind_shown) .none kV10 dc10 pm10 an10 cd10 ct10), sl10⟩)
    (c10 : PySem.W.codeIn K cd10 "_is_behind_shown" = true) (k10 : PySem.W.keepIn K (.ref f10) = true)
    (a11 : PySem.W.nsIn K mainGlobals "is_shown" = some (some (.ref f11)))
    (l11 : K.lookup f11 = some ⟨oc11, od11, .func (PySem.W.fnOf "is_shown" "is_shown" (defArgs s_is_shown) (defBody s_is_shown) (defScope s_is_shown) .none kV11 dc11 pm11 an11 cd11 ct11), sl11⟩)
    (c11 : PySem.W.codeIn K cd11 "is_shown" = true) (k11 : PySem.W.keepIn K (.ref f11) = true)
    (a12 : PySem.W.nsIn K mainGlobals "_least_shown" = some (some (.ref f12)))
    (l12 : K.lookup f12 = some ⟨oc12, od12, .func (PySem.W.fnOf "_least_shown" "_least_shown" (defArgs s__least_shown) (defBody s__least_shown) (defScope s__least_shown) .none kV12 dc12 pm12 an12 cd12 ct12), sl12⟩)
    (c12 : PySem.W.codeIn K cd12 "_least_shown" = true) (k12 : PySem.W.keepIn K (.ref f12) = true)
    (a13 : PySem.W.nsIn K mainGlobals "shown_within" = some (some (.ref f13)))
    (l13 : K.lookup f13 = some ⟨oc13, od13, .func (PySem.W.fnOf "shown_within" "shown_within" (defArgs s_shown_within) (defBody s_shown_within) (defScope s_shown_within) .none kV13 dc13 pm13 an13 cd13 ct13), sl13⟩)
    (c13 : PySem.W.codeIn K cd13 "shown_within" = true) (k13 : PySem.W.keepIn K (.ref f13) = true)
    (a14 : PySem.W.nsIn K mainGlobals "_law_bag" = some (some (.ref f14)))
    (l14 : K.lookup f14 = some ⟨oc14, od14, .func (PySem.W.fnOf "_law_bag" "_law_bag" (defArgs s__law_bag) (defBody s__law_bag) (defScope s__law_bag) .none kV14 dc14 pm14 an14 cd14 ct14), sl14⟩)
    (c14 : PySem.W.codeIn K cd14 "_law_bag" = true) (k14 : PySem.W.keepIn K (.ref f14) = true)
    (a15 : PySem.W.nsIn K mainGlobals "_law_take" = some (some (.ref f15)))
    (l15 : K.lookup f15 = some ⟨oc15, od15, .func (PySem.W.fnOf "_law_take" "_law_take" (defArgs s__law_take) (defBody s__law_take) (defScope s__law_take) .none kV15 dc15 pm15 an15 cd15 ct15), sl15⟩)
    (c15 : PySem.W.codeIn K cd15 "_law_take" = true) (k15 : PySem.W.keepIn K (.ref f15) = true)
    (a16 : PySem.W.nsIn K mainGlobals "_law_some" = some (some (.ref f16)))
    (l16 : K.lookup f16 = some ⟨oc16, od16, .func (PySem.W.fnOf "_law_some" "_law_some" (defArgs s__law_some) (defBody s__law_some) (defScope s__law_some) .none kV16 dc16 pm16 an16 cd16 ct16), sl16⟩)
    (c16 : PySem.W.codeIn K cd16 "_law_some" = true) (k16 : PySem.W.keepIn K (.ref f16) = true)
    (a17 : PySem.W.nsIn K mainGlobals "_law_alike" = some (some (.ref f17)))
    (l17 : K.lookup f17 = some ⟨oc17, od17, .func (PySem.W.fnOf "_law_alike" "_law_alike" (defArgs s__law_alike) (defBody s__law_alike) (defScope s__law_alike) .none kV17 dc17 pm17 an17 cd17 ct17), sl17⟩)
    (c17 : PySem.W.codeIn K cd17 "_law_alike" = true) (k17 : PySem.W.keepIn K (.ref f17) = true)
    (a18 : PySem.W.nsIn K mainGlobals "_law_great" = some (some (.ref f18)))
    (l18 : K.lookup f18 = some ⟨oc18, od18, .func (PySem.W.fnOf "_law_great" "_law_great" (defArgs s__law_great) (defBody s__law_great) (defScope s__law_great) .none kV18 dc18 pm18 an18 cd18 ct18), sl18⟩)
    (c18 : PySem.W.codeIn K cd18 "_law_great" = true) (k18 : PySem.W.keepIn K (.ref f18) = true)
    (a19 : PySem.W.nsIn K mainGlobals "_law_name" = some (some (.ref f19)))
    (l19 : K.lookup f19 = some ⟨oc19, od19, .func (PySem.W.fnOf "_law_name" "_law_name" (defArgs s__law_name) (defBody s__law_name) (defScope s__law_name) .none kV19 dc19 pm19 an19 cd19 ct19), sl19⟩)
    (c19 : PySem.W.codeIn K cd19 "_law_name" = true) (k19 : PySem.W.keepIn K (.ref f19) = true)
    (a20 : PySem.W.nsIn K mainGlobals "_law_seed" = some (some (.ref f20)))
    (l20 : K.lookup f20 = some ⟨oc20, od20, .func (PySem.W.fnOf "_law_seed" "_law_seed" (defArgs s__law_seed) (defBody s__law_seed) (defScope s__law_seed) .none kV20 dc20 pm20 an20 cd20 ct20), sl20⟩)
    (c20 : PySem.W.codeIn K cd20 "_law_seed" = true) (k20 : PySem.W.keepIn K (.ref f20) = true)
    (a21 : PySem.W.nsIn K mainGlobals "_law_many_coins" = some (some (.ref f21)))
    (l21 : K.lookup f21 = some ⟨oc21, od21, .func (PySem.W.fnOf "_law_many_coins" "_law_many_coins" (defArgs s__law_many_coins) (defBody s__law_many_coins) (defScope s__law_many_coins) .none kV21 dc21 pm21 an21 cd21 ct21), sl21⟩)
    (c21 : PySem.W.codeIn K cd21 "_law_many_coins" = true) (k21 : PySem.W.keepIn K (.ref f21) = true)
    (a22 : PySem.W.nsIn K mainGlobals "_law_power" = some (some (.ref f22)))
    (l22 : K.lookup f22 = some ⟨oc22, od22, .func (PySem.W.fnOf "_law_power" "_law_power" (defArgs s__law_power) (defBody s__law_power) (defScope s__law_power) .none kV22 dc22 pm22 an22 cd22 ct22), sl22⟩)
    (c22 : PySem.W.codeIn K cd22 "_law_power" = true) (k22 : PySem.W.keepIn K (.ref f22) = true)
    (a23 : PySem.W.nsIn K mainGlobals "_law_shares" = some (some (.ref f23)))
    (l23 : K.lookup f23 = some ⟨oc23, od23, .func (PySem.W.fnOf "_law_shares" "_law_shares" (defArgs s__law_shares) (defBody s__law_shares) (defScope s__law_shares) .none kV23 dc23 pm23 an23 cd23 ct23), sl23⟩)
    (c23 : PySem.W.codeIn K cd23 "_law_shares" = true) (k23 : PySem.W.keepIn K (.ref f23) = true)
    (a24 : PySem.W.nsIn K mainGlobals "_law_enclosure" = some (some (.ref f24)))
    (l24 : K.lookup f24 = some ⟨oc24, od24, .func (PySem.W.fnOf "_law_enclosure" "_law_enclosure" (defArgs s__law_enclosure) (defBody s__law_enclosure) (defScope s__law_enclosure) .none kV24 dc24 pm24 an24 cd24 ct24), sl24⟩)
    (c24 : PySem.W.codeIn K cd24 "_law_enclosure" = true) (k24 : PySem.W.keepIn K (.ref f24) = true)
    (a25 : PySem.W.nsIn K mainGlobals "_law_narrower" = some (some (.ref f25)))
    (l25 : K.lookup f25 = some ⟨oc25, od25, .func (PySem.W.fnOf "_law_narrower" "_law_narrower" (defArgs s__law_narrower) (defBody s__law_narrower) (defScope s__law_narrower) .none kV25 dc25 pm25 an25 cd25 ct25), sl25⟩)
    (c25 : PySem.W.codeIn K cd25 "_law_narrower" = true) (k25 : PySem.W.keepIn K (.ref f25) = true)
    (a26 : PySem.W.nsIn K mainGlobals "_law_held" = some (some (.ref f26)))
    (l26 : K.lookup f26 = some ⟨oc26, od26, .func (PySem.W.fnOf "_law_held" "_law_held" (defArgs s__law_held) (defBody s__law_held) (defScope s__law_held) .none kV26 dc26 pm26 an26 cd26 ct26), sl26⟩)
    (c26 : PySem.W.codeIn K cd26 "_law_held" = true) (k26 : PySem.W.keepIn K (.ref f26) = true)
    (a27 : PySem.W.nsIn K mainGlobals "law" = some (some (.ref f27)))
    (l27 : K.lookup f27 = some ⟨oc27, od27, .func (PySem.W.fnOf "law" "law" (defArgs s_law) (defBody s_law) (defScope s_law) .none kV27 dc27 pm27 an27 cd27 ct27), sl27⟩)
    (c27 : PySem.W.codeIn K cd27 "law" = true) (k27 : PySem.W.keepIn K (.ref f27) = true)
    (z_abs : PySem.W.nsIn K mainGlobals "abs" = some none)
    (z_enumerate : PySem.W.nsIn K mainGlobals "enumerate" = some none)
    (z_int : PySem.W.nsIn K mainGlobals "int" = some none)
    (z_len : PySem.W.nsIn K mainGlobals "len" = some none)
    (z_max : PySem.W.nsIn K mainGlobals "max" = some none)
    (z_range : PySem.W.nsIn K mainGlobals "range" = some none)
    (z_repr : PySem.W.nsIn K mainGlobals "repr" = some none)
    (z_sorted : PySem.W.nsIn K mainGlobals "sorted" = some none)
    (z_sum : PySem.W.nsIn K mainGlobals "sum" = some none)
    (z_tuple : PySem.W.nsIn K mainGlobals "tuple" = some none)
    (z_zip : PySem.W.nsIn K mainGlobals "zip" = some none)
    {tk_PRIME : Tok} (c_PRIME : PySem.W.nsIn K mainGlobals "PRIME" = some (some (.int 2305843009213693951 tk_PRIME)))
    {tk_STEEP : Tok} (c_STEEP : PySem.W.nsIn K mainGlobals "STEEP" = some (some (.int 48271 tk_STEEP)))
    {tk_LIFT : Tok} (c_LIFT : PySem.W.nsIn K mainGlobals "LIFT" = some (some (.int 2147483629 tk_LIFT))) :
    ∃ fd : FuncData, (∀ (s : Shared) (v : Value), BindsTo s fd ⟨[v], []⟩ [("script", v)]) ∧
      ∀ bs : Heap, K.In bs → bs.Ns mainGlobals mg → bs.NoDigits → FnG l.prog w K mg bs 7 fa fd ["script"] (spLaw K) := by
  have e := hfa.symm.trans (PySem.W.mg_of X Gn a27)
  cases e
  have F0 := fun_mk (st := s_spring) l0 c0 k0
  have b0 := F0.binds (ps := ["seed", "name", "k"]) fun _ _ _ _ _ _ us hl => match us, hl with | [_, _, _], _ => rfl
  have F1 := fun_mk (st := s__coin_by) l1 c1 k1
  have b1 := F1.binds (ps := ["told", "seed", "name", "k"]) fun _ _ _ _ _ _ us hl => match us, hl with | [_, _, _, _], _ => rfl
  have F2 := fun_mk (st := s__told_of) l2 c2 k2
  have b2 := F2.binds (ps := ["coins", "name"]) fun _ _ _ _ _ _ us hl => match us, hl with | [_, _], _ => rfl
  have F3 := fun_mk (st := s_coin) l3 c3 k3
  have b3 := F3.binds (ps := ["coins", "name", "k"]) fun _ _ _ _ _ _ us hl => match us, hl with | [_, _, _], _ => rfl
  have F4 := fun_mk (st := s__by_powers) l4 c4 k4
  have b4 := F4.binds (ps := ["pile"]) fun _ _ _ _ _ _ us hl => match us, hl with | [_], _ => rfl
  have F5 := fun_mk (st := s_compared) l5 c5 k5
  have b5 := F5.binds (ps := ["one", "other"]) fun _ _ _ _ _ _ us hl => match us, hl with | [_, _], _ => rfl
  have F6 := fun_mk (st := s_made_by) l6 c6 k6
  have b6 := F6.binds (ps := ["shares", "c", "d"]) fun _ _ _ _ _ _ us hl => match us, hl with | [_, _, _], _ => rfl
  have F7 := fun_mk (st := s__with_next) l7 c7 k7
  have b7 := F7.binds (ps := ["c", "coins", "name", "d"]) fun _ _ _ _ _ _ us hl => match us, hl with | [_, _, _, _], _ => rfl
  have F8 := fun_mk (st := s_chosen) l8 c8 k8
  have b8 := F8.binds (ps := ["shares", "coins", "name", "most"]) fun _ _ _ _ _ _ us hl => match us, hl with | [_, _, _, _], _ => rfl
  have F9 := fun_mk (st := s__is_ahead_shown) l9 c9 k9
  have b9 := F9.binds (ps := ["numbers", "index", "c", "d"]) fun _ _ _ _ _ _ us hl => match us, hl with | [_, _, _, _], _ => rfl
  have F10 := fun_mk (st := s__is_behind_shown) l10 c10 k10
  have b10 := F10.binds (ps := ["numbers", "index", "c", "d"]) fun _ _ _ _ _ _ us hl => match us, hl with | [_, _, _, _], _ => rfl
  have F11 := fun_mk (st := s_is_shown) l11 c11 k11
  have b11 := F11.binds (ps := ["numbers", "index", "c", "d"]) fun _ _ _ _ _ _ us hl => match us, hl with | [_, _, _, _], _ => rfl
  have F12 := fun_mk (st := s__least_shown) l12 c12 k12
  have b12 := F12.binds (ps := ["numbers", "c", "d"]) fun _ _ _ _ _ _ us hl => match us, hl with | [_, _, _], _ => rfl
  have F13 := fun_mk (st := s_shown_within) l13 c13 k13
  have b13 := F13.binds (ps := ["numbers", "coins", "name", "most"]) fun _ _ _ _ _ _ us hl => match us, hl with | [_, _, _, _], _ => rfl
  have F14 := fun_mk (st := s__law_bag) l14 c14 k14
  have b14 := F14.binds (ps := ["script"]) fun _ _ _ _ _ _ us hl => match us, hl with | [_], _ => rfl
  have F15 := fun_mk (st := s__law_take) l15 c15 k15
  have b15 := F15.binds (ps := ["bag", "many"]) fun _ _ _ _ _ _ us hl => match us, hl with | [_, _], _ => rfl
  have F16 := fun_mk (st := s__law_some) l16 c16 k16
  have b16 := F16.binds (ps := ["bag", "things"]) fun _ _ _ _ _ _ us hl => match us, hl with | [_, _], _ => rfl
  have F17 := fun_mk (st := s__law_alike) l17 c17 k17
  have b17 := F17.binds (ps := ["found", "due"]) fun _ _ _ _ _ _ us hl => match us, hl with | [_, _], _ => rfl
  have F18 := fun_mk (st := s__law_great) l18 c18 k18
  have b18 := F18.binds (ps := ["bag"]) fun _ _ _ _ _ _ us hl => match us, hl with | [_], _ => rfl
  have F19 := fun_mk (st := s__law_name) l19 c19 k19
  have b19 := F19.binds (ps := ["bag"]) fun _ _ _ _ _ _ us hl => match us, hl with | [_], _ => rfl
  have F20 := fun_mk (st := s__law_seed) l20 c20 k20
  have b20 := F20.binds (ps := ["bag"]) fun _ _ _ _ _ _ us hl => match us, hl with | [_], _ => rfl
  have F21 := fun_mk (st := s__law_many_coins) l21 c21 k21
  have b21 := F21.binds (ps := ["bag", "names"]) fun _ _ _ _ _ _ us hl => match us, hl with | [_, _], _ => rfl
  have F22 := fun_mk (st := s__law_power) l22 c22 k22
  have b22 := F22.binds (ps := ["d"]) fun _ _ _ _ _ _ us hl => match us, hl with | [_], _ => rfl
  have F23 := fun_mk (st := s__law_shares) l23 c23 k23
  have b23 := F23.binds (ps := ["bag"]) fun _ _ _ _ _ _ us hl => match us, hl with | [_], _ => rfl
  have F24 := fun_mk (st := s__law_enclosure) l24 c24 k24
  have b24 := F24.binds (ps := ["bag", "share", "slack"]) fun _ _ _ _ _ _ us hl => match us, hl with | [_, _, _], _ => rfl
  have F25 := fun_mk (st := s__law_narrower) l25 c25 k25
  have b25 := F25.binds (ps := ["bag", "share", "enclosure"]) fun _ _ _ _ _ _ us hl => match us, hl with | [_, _, _], _ => rfl
  have F26 := fun_mk (st := s__law_held) l26 c26 k26
  have b26 := F26.binds (ps := ["bag", "enclosure"]) fun _ _ _ _ _ _ us hl => match us, hl with | [_, _], _ => rfl
  have F27 := fun_mk (st := s_law) l27 c27 k27
  have b27 := F27.binds (ps := ["script"]) fun _ _ _ _ _ _ us hl => match us, hl with | [_], _ => rfl
  refine ⟨PySem.W.fnOf "law" "law" (defArgs s_law) (defBody s_law) (defScope s_law) .none kV27 dc27 pm27 an27 cd27 ct27, ?b, ?F⟩
  case F => exact fun bs _ _ nd => ok_law (T := (⟨_, _, F0, PySem.W.mg_of X Gn a0, b0,
    _, _, F1, PySem.W.mg_of X Gn a1, b1,
    _, _, F2, PySem.W.mg_of X Gn a2, b2,
    _, _, F3, PySem.W.mg_of X Gn a3, b3,
    _, _, F4, PySem.W.mg_of X Gn a4, b4,
    _, _, F5, PySem.W.mg_of X Gn a5, b5,
    _, _, F6, PySem.W.mg_of X Gn a6, b6,
    _, _, F7, PySem.W.mg_of X Gn a7, b7,
    _, _, F8, PySem.W.mg_of X Gn a8, b8,
    _, _, F9, PySem.W.mg_of X Gn a9, b9,
    _, _, F10, PySem.W.mg_of X Gn a10, b10,
    _, _, F11, PySem.W.mg_of X Gn a11, b11,
    _, _, F12, PySem.W.mg_of X Gn a12, b12,
    _, _, F13, PySem.W.mg_of X Gn a13, b13,
    _, _, F14, PySem.W.mg_of X Gn a14, b14,
    _, _, F15, PySem.W.mg_of X Gn a15, b15,
    _, _, F16, PySem.W.mg_of X Gn a16, b16,
    _, _, F17, PySem.W.mg_of X Gn a17, b17,
    _, _, F18, PySem.W.mg_of X Gn a18, b18,
    _, _, F19, PySem.W.mg_of X Gn a19, b19,
    _, _, F20, PySem.W.mg_of X Gn a20, b20,
    _, _, F21, PySem.W.mg_of X Gn a21, b21,
    _, _, F22, PySem.W.mg_of X Gn a22, b22,
    _, _, F23, PySem.W.mg_of X Gn a23, b23,
    _, _, F24, PySem.W.mg_of X Gn a24, b24,
    _, _, F25, PySem.W.mg_of X Gn a25, b25,
    _, _, F26, PySem.W.mg_of X Gn a26, b26,
    _, _, F27, PySem.W.mg_of X Gn a27, b27,
    PySem.W.mg_none_of X Gn z_abs,
    PySem.W.mg_none_of X Gn z_enumerate,
    PySem.W.mg_none_of X Gn z_int,
    PySem.W.mg_none_of X Gn z_len,
    PySem.W.mg_none_of X Gn z_max,
    PySem.W.mg_none_of X Gn z_range,
    PySem.W.mg_none_of X Gn z_repr,
    PySem.W.mg_none_of X Gn z_sorted,
    PySem.W.mg_none_of X Gn z_sum,
    PySem.W.mg_none_of X Gn z_tuple,
    PySem.W.mg_none_of X Gn z_zip,
    _, PySem.W.mg_of X Gn c_PRIME,
    _, PySem.W.mg_of X Gn c_STEEP,
    _, PySem.W.mg_of X Gn c_LIFT⟩ : Txt K mg)) nd
  case b => exact fun s v => .of_eq rfl
end
end K9

open PySem PySem.W PyProof.Rows
set_option maxRecDepth 100000 in
set_option maxHeartbeats 0 in
theorem PySem.Challenge.cw_unwrittenrow_k46_whole_enclosures_show_w_holds : PySem.Challenge.rw_unwrittenrow_k46_whole_enclosures_show_w.Holds := by
  w_on; o_law; k_head; (case hw => w_witness2)
  k_fill
  refine DL.walkG (l := PySem.Challenge.rw_unwrittenrow_k46_whole_enclosures_show_w) (m := 63) (n := 7) (x := "script") (sp := K9.spLaw) rfl (by decide) rfl ⟨rfl, by decide, by decide⟩ (fun w h Y => PySem.W.kIn_of Y) ?F (fun K H a ns hl _ hS => ⟨a, ns, rfl, hS, hl, fun _ => rfl⟩)
  case F =>
    intro w mg fa h KX G hmg
    refine' K9.all_mk KX G hmg ?a0 ?l0 ?c0 ?k0 ?a1 ?l1 ?c1 ?k1 ?a2 ?l2 ?c2 ?k2 ?a3 ?l3 ?c3 ?k3 ?a4 ?l4 ?c4 ?k4 ?a5 ?l5 ?c5 ?k5 ?a6 ?l6 ?c6 ?k6 ?a7 ?l7 ?c7 ?k7 ?a8 ?l8 ?c8 ?k8 ?a9 ?l9 ?c9 ?k9 ?a10 ?l10 ?c10 ?k10 ?a11 ?l11 ?c11 ?k11 ?a12 ?l12 ?c12 ?k12 ?a13 ?l13 ?c13 ?k13 ?a14 ?l14 ?c14 ?k14 ?a15 ?l15 ?c15 ?k15 ?a16 ?l16 ?c16 ?k16 ?a17 ?l17 ?c17 ?k17 ?a18 ?l18 ?c18 ?k18 ?a19 ?l19 ?c19 ?k19 ?a20 ?l20 ?c20 ?k20 ?a21 ?l21 ?c21 ?k21 ?a22 ?l22 ?c22 ?k22 ?a23 ?l23 ?c23 ?k23 ?a24 ?l24 ?c24 ?k24 ?a25 ?l25 ?c25 ?k25 ?a26 ?l26 ?c26 ?k26 ?a27 ?l27 ?c27 ?k27 ?z_abs ?z_enumerate ?z_int ?z_len ?z_max ?z_range ?z_repr ?z_sorted ?z_sum ?z_tuple ?z_zip ?c_PRIME ?c_STEEP ?c_LIFT
    (case a0 => k_is)
    (case l0 => k_is)
    (case c0 => k_is)
    (case k0 => k_is)
    (case a1 => k_is)
    (case l1 => k_is)
    (case c1 => k_is)
    (case k1 => k_is)
    (case a2 => k_is)
    (case l2 => k_is)
    (case c2 => k_is)
    (case k2 => k_is)
    (case a3 => k_is)
    (case l3 => k_is)
    (case c3 => k_is)
    (case k3 => k_is)
    (case a4 => k_is)
    (case l4 => k_is)
    (case c4 => k_is)
    (case k4 => k_is)
    (case a5 => k_is)
    (case l5 => k_is)
    (case c5 => k_is)
    (case k5 => k_is)
    (case a6 => k_is)
    (case l6 => k_is)
    (case c6 => k_is)
    (case k6 => k_is)
    (case a7 => k_is)
    (case l7 => k_is)
    (case c7 => k_is)
    (case k7 => k_is)
    (case a8 => k_is)
    (case l8 => k_is)
    (case c8 => k_is)
    (case k8 => k_is)
    (case a9 => k_is)
    (case l9 => k_is)
    (case c9 => k_is)
    (case k9 => k_is)
    (case a10 => k_is)
    (case l10 => k_is)
    (case c10 => k_is)
    (case k10 => k_is)
    (case a11 => k_is)
    (case l11 => k_is)
    (case c11 => k_is)
    (case k11 => k_is)
    (case a12 => k_is)
    (case l12 => k_is)
    (case c12 => k_is)
    (case k12 => k_is)
    (case a13 => k_is)
    (case l13 => k_is)
    (case c13 => k_is)
    (case k13 => k_is)
    (case a14 => k_is)
    (case l14 => k_is)
    (case c14 => k_is)
    (case k14 => k_is)
    (case a15 => k_is)
    (case l15 => k_is)
    (case c15 => k_is)
    (case k15 => k_is)
    (case a16 => k_is)
    (case l16 => k_is)
    (case c16 => k_is)
    (case k16 => k_is)
    (case a17 => k_is)
    (case l17 => k_is)
    (case c17 => k_is)
    (case k17 => k_is)
    (case a18 => k_is)
    (case l18 => k_is)
    (case c18 => k_is)
    (case k18 => k_is)
    (case a19 => k_is)
    (case l19 => k_is)
    (case c19 => k_is)
    (case k19 => k_is)
    (case a20 => k_is)
    (case l20 => k_is)
    (case c20 => k_is)
    (case k20 => k_is)
    (case a21 => k_is)
    (case l21 => k_is)
    (case c21 => k_is)
    (case k21 => k_is)
    (case a22 => k_is)
    (case l22 => k_is)
    (case c22 => k_is)
    (case k22 => k_is)
    (case a23 => k_is)
    (case l23 => k_is)
    (case c23 => k_is)
    (case k23 => k_is)
    (case a24 => k_is)
    (case l24 => k_is)
    (case c24 => k_is)
    (case k24 => k_is)
    (case a25 => k_is)
    (case l25 => k_is)
    (case c25 => k_is)
    (case k25 => k_is)
    (case a26 => k_is)
    (case l26 => k_is)
    (case c26 => k_is)
    (case k26 => k_is)
    (case a27 => k_is)
    (case l27 => k_is)
    (case c27 => k_is)
    (case k27 => k_is)
    (case z_abs => k_is)
    (case z_enumerate => k_is)
    (case z_int => k_is)
    (case z_len => k_is)
    (case z_max => k_is)
    (case z_range => k_is)
    (case z_repr => k_is)
    (case z_sorted => k_is)
    (case z_sum => k_is)
    (case z_tuple => k_is)
    (case z_zip => k_is)
    (case c_PRIME => k_is)
    (case c_STEEP => k_is)
    (case c_LIFT => k_is)
