import PyProof.Rows.All
import Wide.All
import OpenK.AllK
import Wide.FinOn
import HandS.ForMost
import HandS.Wide
import HandS.WideBits
import HandS.Gcd
import HandS.StrMore
import HandS.Style
import PyProof.ReprRoads
import PyProof.Rows.Digits
import HandS.EndTab
import HandS.IsInst
import HandS.TupAny
import HandS.Conv
import HandS.Lambda
import PyProof.P3Eq
import PyProof.StrLawsRepr
import HandS.More
import HandS.Walk
import KE.GoesMore
import KE.KTupSum
import HandS.Words
import KE.GoesZip
import KE.GoesEnum
import HandS.SortRule
import HandS.DictComp
import PyProof.P3In
import HandS.Deep
import HandS.SortKw
import HandS.ForDict
import HandS.Iter
import KE.KNest
import KE.KDictPairs
import KE.KDictZip
import HandS.MapObj
import HandS.SortInts
import HandS.Text
import HandS.TupSets
import HandS.SetBool
import HandS.Strs
import HandS.SetFor
import HandS.SetKeys
import HandS.Comp
import KE.SortData
import KE.DataIsa
import PyProof.Rows.SortStr
import PyProof.ListStr
import PySem.Challenge.RW_unwrittenrow_k07_wishes_of_any_value
set_option Elab.async false
set_option linter.all false
set_option maxRecDepth 100000
set_option maxHeartbeats 4000000
/-! Calls in which nothing is being shown around: the promise of a def where the guards are known. -/
namespace DL
open PySem PySem.Spec PyProof.Rows L2

/-- a def's promise, kept where no guard runs around -/
structure FnG (P : Program) (w : World) (K : PySem.W.Frag) (mg : Str → Option Value)
    (bs : Heap) (n : Nat) (f : Addr) (fd : FuncData) (ps : List Str) (sp : Sp) : Prop where
  len : ∀ vs H Q E, sp vs H Q E → vs.length = ps.length
  go : ∀ (A : Around) (out : List Env) (s : Shared) (H : Hp) (args : Args) (us : List Value)
      (vs : List V) (Q : VK) (E : XK), A.guards = some [] → Room n A →
    Env0 P w K mg bs A out s H → BindsTo s fd args (ps.zip us) → Vals vs us → sp vs H Q E →
    codeAny (model P w) A (.call (.ref f) args) (CR CX0 out P w H s Q E) s

theorem FnG.mono {P : Program} {w : World} {K : PySem.W.Frag} {mg : Str → Option Value}
    {bs : Heap} {n m : Nat} {f : Addr} {fd : FuncData} {ps : List Str} {sp : Sp}
    (F : FnG P w K mg bs n f fd ps sp) (h : n ≤ m) : FnG P w K mg bs m f fd ps sp :=
  ⟨F.len, fun A out s H args us vs Q E g r => F.go A out s H args us vs Q E g (r.mono h)⟩

/-- a body's term, told for each entry at which no guard runs -/
theorem fnG {P : Program} {w : World} {K : PySem.W.Frag} {mg : Str → Option Value} {bs : Heap}
    {n : Nat} {x q : Str} {st : Stmt} {f : Addr} {fd : FuncData} {N ps : List Str} {sp : Sp}
    (F : Fun K x q st f fd) (S : FnScope N ps (defScope st))
    (len : ∀ vs H Q E, sp vs H Q E → vs.length = ps.length)
    (body : ∀ (cd : Value) (A : Around) (out : List Env) (s : Shared) (H : Hp) (vs : List V) (Q : VK)
      (E : XK), fd.code = cd → A.guards = some [] →
      Room n (A.deeper (envOfC q (defScope st) s.heap.objs.size f cd)) → sp vs H Q E →
      ∃ t, PSs (cxOf CX0 P w K mg bs N q (defScope st) f cd A out s H E).nox (defBody st) t ∧
        t { nx := fun _ H' => Q .non H', rt := Q } (start N vs) H) :
    FnG P w K mg bs (n + 1) f fd ps sp := by
  obtain ⟨oc, od, kV, doc, pm, an, cdv, ct, osl, rfl, lk, hcd⟩ := F.ex
  refine ⟨len, ?_⟩
  intro A out s H args us vs Q E hgd hroom e0 hbind hvals hpre
  have KX : K.In s.heap := e0.mod.kin.keeps fun b o e => (e0.bs b o e).1
  have lim : s.heap.NoLimit := e0.mod.nolimit.keeps fun b o e => (e0.bs b o e).1
  have hlen := len _ _ _ _ hpre
  have hkinds : ∀ y ∈ ps.zip us, (defScope st).names.lookup y.1 = some .local ∨
      ((defScope st).names.lookup y.1 = some .cell ∧
        ((cellsFrom (s.heap.objs.size + 1) (defScope st).names []).lookup y.1).isSome = true) := by
    rintro ⟨nm, v⟩ hy
    rcases S.par nm (List.of_mem_zip hy).1 with z | z
    · exact Or.inl z
    · exact Or.inr ⟨z, PySem.W.cellsFrom_some _ _ _ (Or.inl z)⟩
  refine codeAny_call_function hroom.depth (KX _ _ lk) rfl S.co S.gen rfl
    (PySem.W.codeRec_of KX hcd) (hbind _ _ _ _ ?_)
  refine wpAny_newFunctionEnv_cells S.kind hkinds fun env he sb xin => ?_
  subst he
  refine ⟨lim.keeps xin.toInCall.keep, codeAny_func ?_⟩
  have I0 : Inv (cxOf CX0 P w K mg bs N q (defScope st) f cdv A out s H E) [] (start N vs) H sb :=
    inv_start S hroom.hd e0 hlen hvals xin
  obtain ⟨t, ht, hq⟩ := body cdv A out s H vs Q E rfl hgd (hroom.deeper _) hpre
  refine wpAny_mono (ht.nox.run [] sb (start N vs) H _ I0 hq) (fun fl sz hs => ?_) fun e sz hs => hs
  cases fl with
  | next =>
    obtain ⟨σ1, H1, J, z⟩ := hs
    exact ⟨.non, H1, J.os, J.bare, J.base, J.hok, rfl, z⟩
  | ret u =>
    obtain ⟨v, σ1, H1, J, rv, z⟩ := hs
    exact ⟨v, H1, J.os, J.bare, J.base, J.hok, rv, z⟩
  | brk => obtain ⟨_, _, _, z⟩ := hs; exact z.elim
  | cont => obtain ⟨_, _, _, z⟩ := hs; exact z.elim

/-- such a def is called by its name -/
theorem pe_callG {X : Cx} {n : Nat} {f : Addr} {fd : FuncData} {ps : List Str} {sp : Sp}
    {x : Str} {p pos : Pos} {e : Expr} {es : List Expr} {t : TA}
    (F : FnG X.prog X.w X.K X.mg X.base n f fd ps sp) (hgd : X.A.guards = some [])
    (hroom : Room n X.A) (hg : Gl X x) (hm : X.mg x = some (.ref f))
    (hk : PySem.W.keepIn X.K (.ref f) = true) (hb : Binds X.K fd ps [])
    (hargs : PA X (e :: es) t) (hdb : (x == ("__debug__" : Str)) = false := by decide)
    (he : starEach (e :: es) X.env = (false, eval e X.env) :: starEach es X.env := by rfl)
    (hpl : (backTo pos (starEach es X.env)).any (·.1) = false := by rfl) :
    PE X (.Call (.Name x p) (e :: es) [] pos) (tCall sp [] E0 t) := by
  constructor
  intro pins s σ H Q I h
  refine wpAny_Call_Name_kw (ld_glob I hg hm ?_ hdb)
  refine PySem.W.callWith_K (h₀ := X.base) I.ok.mod.kin hk
    (thn (hargs.run pos pins s σ H _ I h) fun us sa ⟨vs, Ha, Ia, ra, qa⟩ => ⟨Ia.kIn, ?_⟩) he hpl
  have qb : sp (vs ++ []) Ha Q E0 := qa
  rw [List.append_nil] at qb
  have hl : (us ++ []).length = ps.length := by
    rw [List.append_nil, ← ra.length]
    exact F.len _ _ _ _ qb
  have hbd := hb sa us Ia.kIn hl
  rw [List.append_nil] at hbd
  refine wpAny_call (codeAny_mono (F.go X.A X.stack sa Ha ⟨us, []⟩ us vs Q E0 hgd hroom Ia.env0 hbd ra qb) ?_)
  intro r sz hz
  cases r with
  | error e => exact hz.elim
  | ok fl =>
    cases fl with
    | ret u => exact Ia.after hz
    | next => exact hz.elim
    | brk => exact hz.elim
    | cont => exact hz.elim
end DL

namespace DL
open PySem PySem.Spec PyProof.Rows L2

/-- the law's own call, from a heap of which at most the script is tracked -/
theorem law_from {P : Program} {w : World} {K : PySem.W.Frag} {mg mb : Str → Option Value} {n : Nat}
    {fa a : Addr} {fd : FuncData} {x : Str} {sp : Sp} {sh : Shared} {H : Hp}
    (kin : K.In sh.heap) (nsg : sh.heap.Ns mainGlobals mg) (nsb : sh.heap.Ns builtinsNs mb)
    (eqb : ∀ y : Str, y ≠ "__name__" → mb y = bootBuiltins y) (lim : sh.heap.NoLimit) (dig : sh.heap.NoDigits)
    (gens : sh.gens = #[]) (room : Room n callerA)
    (F : ∀ bs : Heap, K.In bs → bs.Ns mainGlobals mg → bs.NoDigits → FnG P w K mg bs n fa fd [x] sp)
    (bnd : ∀ (s : Shared) (u : Value), BindsTo s fd ⟨[u], []⟩ [(x, u)])
    (only : Only H) (good : HOk P w H sh.heap) (notd : ∀ b o es ep, sh.heap.get? b = some o → o.data = .dict es ep → H b = none)
    (nok : ∀ b o, K.lookup b = some o → H b = none)
    (pre : sp [.ref a] H (fun v _ => v = .bl true) fun _ _ _ => False) :
    codeAny (model P w) callerA (.call (.ref fa) ⟨[.ref a], []⟩)
      (fun r s' => r = .ok (.ret (.bool true)) ∧ OldK sh.heap s'.heap ∧ s'.os = sh.os ∧ AllBare s'.gens) sh := by
  have part : ∀ {b : Addr} {m : Str → Option Value}, sh.heap.Ns b m → (hidT sh.heap H).Ns b m := by
    rintro b m ⟨o, es, ep, e, d, more⟩
    exact ⟨o, es, ep, hidT_get e (notd b o es ep e d), d, more⟩
  have kinb : K.In (hidT sh.heap H) := fun b o e => hidT_get (kin b o e) (nok b o e)
  have mod : Mod K mg (hidT sh.heap H) :=
    ⟨kinb, part nsg, ⟨mb, part nsb, eqb⟩, let ⟨mc, h1, h2⟩ := lim; ⟨mc, part h1, h2⟩⟩
  have start0 : Env0 P w K mg (hidT sh.heap H) callerA [] sh H := by
    refine ⟨rfl, mod, fun b o e => of_hidT e, Nat.le_of_eq (hidT_size _ _), trivial, ?_, good, .of_eq gens⟩
    intro b hb
    exact absurd (show b ∈ ([] : List Addr) from hb) (by simp)
  refine codeAny_mono ((F _ kinb (part nsg) (let ⟨mc, h1, h2⟩ := dig; ⟨mc, part h1, h2⟩)).go callerA [] sh H ⟨[.ref a], []⟩ [.ref a] [.ref a] _ _ rfl
    room start0 (bnd sh (.ref a)) (.cons rfl .nil) pre) ?_
  intro r s' h
  cases r with
  | error e => exact h.elim
  | ok fl =>
    cases fl with
    | next => exact h.elim
    | brk => exact h.elim
    | cont => exact h.elim
    | ret u =>
      obtain ⟨v, H2, os, bare, un, hok2, rv, q⟩ := h
      obtain rfl : v = .bl true := q
      obtain rfl : u = Value.bool true := rv
      refine ⟨rfl, OldK.of_keep ?_, os, bare⟩
      intro b o e
      cases q : H b with
      | none =>
        refine un.keep b o e q ?_ (by simp)
        intro z
        exact absurd (show b ∈ ([] : List Addr) from z) (by simp)
      | some y =>
        rcases only b with z | ⟨ob, xs, z⟩
        · rw [q] at z
          cases z
        · obtain ⟨e1, _⟩ := good b _ z
          obtain ⟨e2, _⟩ := hok2 b _ (un.frzs b ob _ z)
          rw [e] at e1
          cases e1
          exact e2

theorem law_G {P : Program} {w : World} {K : PySem.W.Frag} {mg mb : Str → Option Value} {n : Nat}
    {fa a : Addr} {fd : FuncData} {x : Str} {sp : Sp} {sh : Shared} {vs : List Value} {ns : List Int}
    (kin : K.In sh.heap) (nsg : sh.heap.Ns mainGlobals mg) (nsb : sh.heap.Ns builtinsNs mb)
    (eqb : ∀ y : Str, y ≠ "__name__" → mb y = bootBuiltins y) (lim : sh.heap.NoLimit) (dig : sh.heap.NoDigits)
    (gens : sh.gens = #[]) (room : Room n callerA)
    (obj : sh.heap.get? a = some { cls := .type "list", data := .seq vs.toArray }) (hints : IntsAre vs ns)
    (few : ns.length ≤ sizeLine)
    (F : ∀ bs : Heap, K.In bs → bs.Ns mainGlobals mg → bs.NoDigits → FnG P w K mg bs n fa fd [x] sp)
    (bnd : ∀ (s : Shared) (u : Value), BindsTo s fd ⟨[u], []⟩ [(x, u)])
    (pre : ∀ H : Hp, Only H → SqL K H a (ns.map V.int) → sp [.ref a] H (fun v _ => v = .bl true) fun _ _ _ => False) :
    codeAny (model P w) callerA (.call (.ref fa) ⟨[.ref a], []⟩)
      (fun r s' => r = .ok (.ret (.bool true)) ∧ OldK sh.heap s'.heap ∧ s'.os = sh.os ∧ AllBare s'.gens) sh := by
  have rel := vals_ints hints
  have lens := hints.length
  have nodict : ∀ o es ep, sh.heap.get? a = some o → o.data = .dict es ep → False := by
    intro o es ep e d
    rw [obj] at e
    cases e
    have d2 : Data.seq vs.toArray _ = Data.dict es ep := d
    cases d2
  cases hk : K.lookup a with
  | some o =>
    have e := kin a o hk
    rw [obj] at e
    cases e
    have only : Only (fun _ => none) := fun _ => .inl rfl
    refine law_from kin nsg nsb eqb lim dig gens room F bnd only ?_ (fun _ _ _ _ _ _ => rfl) (fun _ _ _ => rfl)
      (pre _ only (.inr ⟨_, vs.toArray, _, hk, rfl, rfl, rfl, ?_, by simpa using rel⟩))
    · intro b u z
      have z2 : (none : Option HO) = some u := z
      cases z2
    · rw [List.size_toArray, lens]
      exact few
  | none =>
    let ob : Obj := { cls := .type "list", data := .seq vs.toArray }
    let H : Hp := fun b => if b = a then some (.frz ob (.lst (ns.map V.int))) else none
    have at_a : H a = some (.frz ob (.lst (ns.map V.int))) := if_pos rfl
    have off : ∀ b, b ≠ a → H b = none := fun b hb => if_neg hb
    have only : Only H := by
      intro b
      by_cases hb : b = a
      · rw [hb]
        exact .inr ⟨_, _, at_a⟩
      · exact .inl (off b hb)
    refine law_from kin nsg nsb eqb lim dig gens room F bnd only ?_ ?_ ?_ (pre _ only (.inl (.inr ⟨ob, at_a⟩)))
    · intro b u z
      by_cases hb : b = a
      · subst hb
        rw [at_a] at z
        cases z
        exact ⟨obj, by rw [List.length_map]; exact few, vs, _, rel, obj⟩
      · rw [off b hb] at z
        cases z
    · intro b o es ep e d
      by_cases hb : b = a
      · subst hb
        exact (nodict o es ep e d).elim
      · exact off b hb
    · intro b o e
      by_cases hb : b = a
      · subst hb
        rw [hk] at e
        cases e
      · exact off b hb

/-- the goal that the head leaves, from the law's promise -/
theorem walkG {l : PySem.W.OpenLaw} {m n : Nat} {q : Program} {loose : List Str}
    {XP : (Str → Option Value) → Heap → Prop} {YP : World → Heap → Prop} {d : DefRec} {K : Params → PySem.W.Frag}
    {sp : PySem.W.Frag → Sp} {x : Str}
    (hm : l.most = some m) (few : m ≤ sizeLine) (nodef : d.params.defaults = []) (room : Room n callerA)
    (hY : ∀ (w : World) (h : Heap), YP w h → (K w.params).In h)
    (F : ∀ (w : World) (mg : Str → Option Value) (fa : Addr) (h : Heap), (K w.params).In h →
      h.Ns mainGlobals mg → mg d.name = some (.ref fa) →
      ∃ fd : FuncData, (∀ (s : Shared) (u : Value), BindsTo s fd ⟨[u], []⟩ [(x, u)]) ∧
        ∀ bs : Heap, (K w.params).In bs → bs.Ns mainGlobals mg → bs.NoDigits → FnG l.prog w (K w.params) mg bs n fa fd [x] (sp (K w.params)))
    (pre : ∀ (K : PySem.W.Frag) (H : Hp) (a : Addr) (ns : List Int), ns.length ≤ m → Only H →
      SqL K H a (ns.map V.int) → sp K [.ref a] H (fun v _ => v = .bl true) fun _ _ _ => False) :
    PySem.W.WalkO q loose XP YP l.row.toRowW d [] (fun f vs => PySem.call f vs) := by
  refine Att.attach_call hm nodef ?_
  intro w sa sb mg mb fa o pm cd doc a vs ns G Y ho hd hcd hmg hobj hints hlen hgens
  have kin := hY w _ Y
  obtain ⟨fd, hb, hF⟩ := F w mg fa _ kin G.T.g hmg
  exact law_G kin G.T.g G.T.b G.T.builtins G.T.nolimit G.T.nodigits hgens room hobj hints (Nat.le_trans hlen few) hF hb
    (fun H hO hS => pre _ H a ns hlen hO hS)

/-! ### the end with tables of code objects -/
/-- what may be tracked as the law begins: the script, tables that tell nothing yet -/
def Only2 (T : List Addr) (a : Addr) (H : Hp) : Prop := ∀ b, H b = none ∨ (b ∈ T ∧ H b = some (.tbl #[])) ∨ (b = a ∧ ∃ o xs, H b = some (.frz o (.lst xs)))
theorem law_fromT {P : Program} {w : World} {K : PySem.W.Frag} {mg mb : Str → Option Value} {n : Nat}
    {fa a : Addr} {fd : FuncData} {x : Str} {sp : Sp} {sh : Shared} {H : Hp} {cs : List (Addr × Addr)}
    (kin : K.In sh.heap) (nsg : sh.heap.Ns mainGlobals mg) (nsb : sh.heap.Ns builtinsNs mb)
    (eqb : ∀ y : Str, y ≠ "__name__" → mb y = bootBuiltins y) (lim : sh.heap.NoLimit) (dig : sh.heap.NoDigits)
    (gens : sh.gens = #[]) (room : Room n callerA)
    (tabs : ∀ p ∈ cs, sh.heap.get? p.2 = some { cls := .none, data := .fields #[] }) (code : ∀ p ∈ cs, PySem.W.CodeHd sh.heap p.1 p.2)
    (mods : ∃ (bm : Addr) (ob : Obj), mg "__builtins__" = some (.ref bm) ∧ bm ≠ builtinsNs ∧ sh.heap.get? bm = some ob ∧ ob.cls = .type "module" ∧ ob.dict = some builtinsNs ∧ ob.data = .plain)
    (F : ∀ bs : Heap, K.In bs → bs.Ns mainGlobals mg → bs.NoDigits → (∀ p ∈ cs, LamX.TabB bs mg p.1 p.2) → FnG P w K mg bs n fa fd [x] sp)
    (bnd : ∀ (s : Shared) (u : Value), BindsTo s fd ⟨[u], []⟩ [(x, u)])
    (only : Only2 (cs.map (·.2)) a H) (all : ∀ p ∈ cs, H p.2 = some (.tbl #[])) (lst : ∃ o vs, sh.heap.get? a = some o ∧ o.data = .seq vs)
    (good : HOk P w H sh.heap) (nok : ∀ b o, K.lookup b = some o → H b = none)
    (pre : sp [.ref a] H (fun v _ => v = .bl true) fun _ _ _ => False) :
    codeAny (model P w) callerA (.call (.ref fa) ⟨[.ref a], []⟩)
      (fun r s' => r = .ok (.ret (.bool true)) ∧ OldK sh.heap s'.heap ∧ s'.os = sh.os ∧ AllBare s'.gens) sh := by
  obtain ⟨oa, va, ha, hda⟩ := lst
  have isTab : ∀ b ∈ cs.map (·.2), sh.heap.get? b = some { cls := .none, data := .fields #[] } := by
    intro b hb
    obtain ⟨p, hp, rfl⟩ := List.mem_map.mp hb
    exact tabs p hp
  -- what is neither a row of items nor a table without entries is not tracked
  have free : ∀ b o, sh.heap.get? b = some o → (∀ vs e, o.data ≠ .seq vs e) → (∀ vs, o.data = .fields vs → vs ≠ #[]) → H b = none := by
    intro b o e h1 h2
    rcases only b with z | ⟨z, _⟩ | ⟨rfl, _⟩
    · exact z
    · rw [isTab b z] at e
      cases e
      exact (h2 _ rfl rfl).elim
    · rw [ha] at e
      cases e
      exact (h1 _ _ hda).elim
  have dicts : ∀ b o es ep, sh.heap.get? b = some o → o.data = .dict es ep → H b = none := fun b o es ep e d =>
    free b o e (fun vs n z => by rw [d] at z; cases z) fun vs z => by rw [d] at z; cases z
  have part : ∀ {b : Addr} {m : Str → Option Value}, sh.heap.Ns b m → (hidT sh.heap H).Ns b m := by
    rintro b m ⟨o, es, ep, e, d, more⟩
    exact ⟨o, es, ep, hidT_get e (dicts b o es ep e d), d, more⟩
  have kinb : K.In (hidT sh.heap H) := fun b o e => hidT_get (kin b o e) (nok b o e)
  have mod : Mod K mg (hidT sh.heap H) :=
    ⟨kinb, part nsg, ⟨mb, part nsb, eqb⟩, let ⟨mc, h1, h2⟩ := lim; ⟨mc, part h1, h2⟩⟩
  have notG : ∀ b o, sh.heap.get? b = some o → (∀ es ep, o.data ≠ .dict es ep) → b ≠ mainGlobals := by
    rintro b o e nd rfl
    obtain ⟨o2, es, ep, e2, d2, _⟩ := nsg
    rw [e] at e2
    cases e2
    exact nd es ep d2
  have tb : ∀ p ∈ cs, LamX.TabB (hidT sh.heap H) mg p.1 p.2 := by
    intro p hp
    refine ⟨?_, ?_, fun z => notG p.2 _ (tabs p hp) (fun _ _ z => nomatch z) z.symm⟩
    · obtain ⟨o, us, file, tf, flags, tg, inF, text, tt, e1, r1, r2, r3, more⟩ := code p hp
      refine ⟨o, us, file, tf, flags, tg, inF, text, tt, hidT_get e1 (free p.1 o e1 (fun vs n z => ?_) fun vs z => ?_), r1, r2, r3, more⟩
      · rw [r2] at z
        cases z
      · rw [r2] at z
        cases z
        rintro rfl
        simp at r3
    · obtain ⟨bm, ob, b1, b2, b3, b4, b5, b6⟩ := mods
      refine ⟨bm, ob, b1, b2, notG bm ob b3 (fun es ep z => by rw [b6] at z; cases z), ?_, hidT_get b3 (free bm ob b3 (fun vs n z => by rw [b6] at z; cases z) fun vs z => by rw [b6] at z; cases z), b4, b5, b6⟩
      rintro rfl
      rw [tabs p hp] at b3
      cases b3
      cases b6
  have start0 : Env0 P w K mg (hidT sh.heap H) callerA [] sh H := by
    refine ⟨rfl, mod, fun b o e => of_hidT e, Nat.le_of_eq (hidT_size _ _), trivial, ?_, good, .of_eq gens⟩
    intro b hb
    exact absurd (show b ∈ ([] : List Addr) from hb) (by simp)
  refine codeAny_mono ((F _ kinb (part nsg) (let ⟨mc, h1, h2⟩ := dig; ⟨mc, part h1, h2⟩) tb).go callerA [] sh H ⟨[.ref a], []⟩ [.ref a] [.ref a] _ _ rfl
    room start0 (bnd sh (.ref a)) (.cons rfl .nil) pre) ?_
  intro r s' h
  cases r with
  | error e => exact h.elim
  | ok fl =>
    cases fl with
    | next => exact h.elim
    | brk => exact h.elim
    | cont => exact h.elim
    | ret u =>
      obtain ⟨v, H2, os, bare, un, hok2, rv, q⟩ := h
      obtain rfl : v = .bl true := q
      obtain rfl : u = Value.bool true := rv
      have kept : ∀ b o, b ∉ cs.map (·.2) → sh.heap.get? b = some o → s'.heap.get? b = some o := by
        intro b o nb e
        rcases only b with z | ⟨z, _⟩ | ⟨_, ob, xs, z⟩
        · refine un.keep b o e z (fun q => ?_) (by simp)
          exact absurd (show b ∈ ([] : List Addr) from q) (by simp)
        · exact absurd z nb
        · obtain ⟨e1, _⟩ := good b _ z
          obtain ⟨e2, _⟩ := hok2 b _ (un.frzs b ob _ z)
          rw [e] at e1
          cases e1
          exact e2
      have more : ∀ b ∈ cs.map (·.2), ∃ qs : Array Value, s'.heap.get? b = some { cls := .none, data := .fields qs } := by
        intro b hb
        obtain ⟨p, hp, rfl⟩ := List.mem_map.mp hb
        obtain ⟨ms, z⟩ := un.tbls p.2 #[] (all p hp)
        exact ⟨_, hok2 p.2 _ z⟩
      refine ⟨rfl, ⟨fun b o e => ?_, fun b o e => ?_⟩, os, bare⟩
      · by_cases hb : b ∈ cs.map (·.2)
        · obtain ⟨qs, hq⟩ := more b hb
          obtain ⟨p, hp, rfl⟩ := List.mem_map.mp hb
          rw [tabs p hp] at e
          cases e
          exact .inr (.inl ⟨((code p hp).tab (tabs p hp)).isCodeTable, rfl, #[], qs, rfl, by rw [Array.empty_append]; exact hq⟩)
        · exact .inl (kept b o hb e)
      · by_cases hb : b ∈ cs.map (·.2)
        · obtain ⟨qs, hq⟩ := more b hb
          exact ⟨_, hq⟩
        · exact ⟨o, kept b o hb e⟩
theorem law_GT {P : Program} {w : World} {K : PySem.W.Frag} {mg mb : Str → Option Value} {n : Nat}
    {fa a : Addr} {fd : FuncData} {x : Str} {sp : Sp} {sh : Shared} {vs : List Value} {ns : List Int} {cs : List (Addr × Addr)}
    (kin : K.In sh.heap) (nsg : sh.heap.Ns mainGlobals mg) (nsb : sh.heap.Ns builtinsNs mb)
    (eqb : ∀ y : Str, y ≠ "__name__" → mb y = bootBuiltins y) (lim : sh.heap.NoLimit) (dig : sh.heap.NoDigits)
    (gens : sh.gens = #[]) (room : Room n callerA)
    (tabs : ∀ p ∈ cs, sh.heap.get? p.2 = some { cls := .none, data := .fields #[] }) (noK : ∀ p ∈ cs, K.lookup p.2 = none) (code : ∀ p ∈ cs, PySem.W.CodeHd sh.heap p.1 p.2)
    (mods : ∃ (bm : Addr) (ob : Obj), mg "__builtins__" = some (.ref bm) ∧ bm ≠ builtinsNs ∧ sh.heap.get? bm = some ob ∧ ob.cls = .type "module" ∧ ob.dict = some builtinsNs ∧ ob.data = .plain)
    (obj : sh.heap.get? a = some { cls := .type "list", data := .seq vs.toArray }) (hints : IntsAre vs ns)
    (few : ns.length ≤ sizeLine)
    (F : ∀ bs : Heap, K.In bs → bs.Ns mainGlobals mg → bs.NoDigits → (∀ p ∈ cs, LamX.TabB bs mg p.1 p.2) → FnG P w K mg bs n fa fd [x] sp)
    (bnd : ∀ (s : Shared) (u : Value), BindsTo s fd ⟨[u], []⟩ [(x, u)])
    (pre : ∀ H : Hp, (∀ p ∈ cs, H p.2 = some (.tbl #[])) → SqL K H a (ns.map V.int) → sp [.ref a] H (fun v _ => v = .bl true) fun _ _ _ => False) :
    codeAny (model P w) callerA (.call (.ref fa) ⟨[.ref a], []⟩)
      (fun r s' => r = .ok (.ret (.bool true)) ∧ OldK sh.heap s'.heap ∧ s'.os = sh.os ∧ AllBare s'.gens) sh := by
  have rel := vals_ints hints
  have lens := hints.length
  have apart : ∀ p ∈ cs, p.2 ≠ a := by
    rintro p hp rfl
    have z := tabs p hp
    rw [obj] at z
    have z2 : Data.seq vs.toArray _ = Data.fields #[] := congrArg Obj.data (Option.some.inj z)
    cases z2
  cases hk : K.lookup a with
  | some o =>
    have e := kin a o hk
    rw [obj] at e
    cases e
    let H : Hp := fun b => if b ∈ cs.map (·.2) then some (.tbl #[]) else none
    have inT : ∀ p ∈ cs, H p.2 = some (.tbl #[]) := fun p hp => if_pos (List.mem_map.mpr ⟨p, hp, rfl⟩)
    have onl : ∀ b, H b = none ∨ (b ∈ cs.map (·.2) ∧ H b = some (.tbl #[])) := fun b => by
      by_cases hb : b ∈ cs.map (·.2)
      · exact .inr ⟨hb, if_pos hb⟩
      · exact .inl (if_neg hb)
    refine law_fromT kin nsg nsb eqb lim dig gens room tabs code mods F bnd (fun b => (onl b).imp id .inl) inT ⟨_, _, obj, rfl⟩ (fun b u z => ?_) (fun b o2 z => ?_)
      (pre _ inT (.inr ⟨_, vs.toArray, _, hk, rfl, rfl, rfl, ?_, by simpa using rel⟩))
    · rcases onl b with y | ⟨hb, y⟩
      · rw [y] at z
        cases z
      · rw [y] at z
        cases z
        obtain ⟨p, hp, rfl⟩ := List.mem_map.mp hb
        exact tabs p hp
    · rcases onl b with y | ⟨hb, y⟩
      · exact y
      · obtain ⟨p, hp, rfl⟩ := List.mem_map.mp hb
        rw [noK p hp] at z
        cases z
    · rw [List.size_toArray, lens]
      exact few
  | none =>
    let ob : Obj := { cls := .type "list", data := .seq vs.toArray }
    let H : Hp := fun b => if b = a then some (.frz ob (.lst (ns.map V.int))) else if b ∈ cs.map (·.2) then some (.tbl #[]) else none
    have atA : H a = some (.frz ob (.lst (ns.map V.int))) := if_pos rfl
    have inT : ∀ p ∈ cs, H p.2 = some (.tbl #[]) := fun p hp => (if_neg (apart p hp)).trans (if_pos (List.mem_map.mpr ⟨p, hp, rfl⟩))
    have onl : Only2 (cs.map (·.2)) a H := fun b => by
      by_cases hb : b = a
      · exact .inr (.inr ⟨hb, _, _, by rw [hb]; exact atA⟩)
      · by_cases hT : b ∈ cs.map (·.2)
        · exact .inr (.inl ⟨hT, (if_neg hb).trans (if_pos hT)⟩)
        · exact .inl ((if_neg hb).trans (if_neg hT))
    refine law_fromT kin nsg nsb eqb lim dig gens room tabs code mods F bnd onl inT ⟨_, _, obj, rfl⟩ (fun b u z => ?_) (fun b o2 z => ?_) (pre H inT (.inl (.inr ⟨ob, atA⟩)))
    · rcases onl b with y | ⟨hb, y⟩ | ⟨rfl, _⟩
      · rw [y] at z
        cases z
      · rw [y] at z
        cases z
        obtain ⟨p, hp, rfl⟩ := List.mem_map.mp hb
        exact tabs p hp
      · rw [atA] at z
        cases z
        exact ⟨obj, by rw [List.length_map]; exact few, vs, _, rel, obj⟩
    · rcases onl b with y | ⟨hb, y⟩ | ⟨rfl, _⟩
      · exact y
      · obtain ⟨p, hp, rfl⟩ := List.mem_map.mp hb
        rw [noK p hp] at z
        cases z
      · rw [hk] at z
        cases z
/-- walkG with tables: cs, the code objects and their tables -/
theorem walkGT {l : PySem.W.OpenLaw} {m n : Nat} {q : Program} {loose : List Str}
    {XP : (Str → Option Value) → Heap → Prop} {YP : World → Heap → Prop} {d : DefRec} {K : Params → PySem.W.Frag}
    {sp : PySem.W.Frag → List (Addr × Addr) → Sp} {x : Str}
    (hm : l.most = some m) (few : m ≤ sizeLine) (nodef : d.params.defaults = []) (room : Room n callerA)
    (hY : ∀ (w : World) (h : Heap), YP w h → (K w.params).In h)
    (F : ∀ (w : World) (mg : Str → Option Value) (fa : Addr) (h : Heap), (K w.params).In h →
      h.Ns mainGlobals mg → mg d.name = some (.ref fa) →
      ∃ (fd : FuncData) (cs : List (Addr × Addr)), (∀ p ∈ cs, (K w.params).lookup p.2 = none) ∧ (∀ p ∈ cs, ∃ (x : Str) (dr : DefRec), (recsOf q).find? (fun e => e.name == x) = some dr ∧ PySem.W.tabIn (K w.params) x = some p) ∧
        (∀ (s : Shared) (u : Value), BindsTo s fd ⟨[u], []⟩ [(x, u)]) ∧
        ∀ bs : Heap, (K w.params).In bs → bs.Ns mainGlobals mg → bs.NoDigits → (∀ p ∈ cs, LamX.TabB bs mg p.1 p.2) → FnG l.prog w (K w.params) mg bs n fa fd [x] (sp (K w.params) cs))
    (pre : ∀ (K : PySem.W.Frag) (cs : List (Addr × Addr)) (H : Hp) (a : Addr) (ns : List Int), ns.length ≤ m → (∀ p ∈ cs, H p.2 = some (.tbl #[])) →
      SqL K H a (ns.map V.int) → sp K cs [.ref a] H (fun v _ => v = .bl true) fun _ _ _ => False) :
    PySem.W.WalkO q loose XP YP l.row.toRowW d [] (fun f vs => PySem.call f vs) := by
  refine Att.attach_call hm nodef ?_
  intro w sa sb mg mb fa o pm cd doc a vs ns G Y ho hd hcd hmg hobj hints hlen hgens
  have kin := hY w _ Y
  obtain ⟨fd, cs, noK, recs, hb, hF⟩ := F w mg fa _ kin G.T.g hmg
  have tab := fun p hp => (let ⟨x, dr, h1, h2⟩ := recs p hp; PySem.W.tab_of G.T kin h1 h2 : PySem.W.CodeHd _ p.1 p.2 ∧ _)
  exact law_GT kin G.T.g G.T.b G.T.builtins G.T.nolimit G.T.nodigits hgens room (fun p hp => (tab p hp).2) noK (fun p hp => (tab p hp).1) G.T.bmain hobj hints (Nat.le_trans hlen few) hF hb
    (fun H hT hS => pre _ cs H a ns hlen hT hS)
end DL

/-! Data as it stands in the heap, dicts with keys that are ints or texts within; its repr, its ==. -/
namespace DL
open PySem PySem.Spec PyProof.Rows L2

def keyD : Key → PyData
  | .inl i => .int i
  | .inr x => .str x
/-- a tuple that has no dict of its own -/
def SqP (H : Hp) (a : Addr) (xs : List V) : Prop := ∃ o : Obj, H a = some (.frz o (.tup xs)) ∧ o.dict = none
theorem SqP.t {K : PySem.W.Frag} {H : Hp} {a : Addr} {xs : List V} (h : SqP H a xs) : SqT K H a xs := let ⟨o, e, _⟩ := h; .inl (.inr ⟨o, e⟩)
theorem SqP.mono {H H' : Hp} {a : Addr} {xs : List V} (s : Same H H') (h : SqP H a xs) : SqP H' a xs := let ⟨o, e, d⟩ := h; ⟨o, s _ _ e, d⟩
mutual
inductive Dd (K : PySem.W.Frag) (H : Hp) : V → PyData → Prop
  | non : Dd K H .non .none
  | bl (b : Bool) : Dd K H (.bl b) (.bool b)
  | int (i : Int) : Dd K H (.int i) (.int i)
  | str (x : Str) : Dd K H (.str x) (.str x)
  | lst {a : Addr} {xs : List V} {ds : List PyData} : SqL K H a xs → DdAll K H xs ds → Dd K H (.ref a) (.list ds)
  | tup {a : Addr} {xs : List V} {ds : List PyData} : SqP H a xs → DdAll K H xs ds → Dd K H (.ref a) (.tuple ds)
  | dic {a : Addr} {kvs : List (Key × V)} {ps : List (PyData × PyData)} : Rd H a (.dK kvs) → DdKv K H kvs ps → Dd K H (.ref a) (.dict ps)
inductive DdAll (K : PySem.W.Frag) (H : Hp) : List V → List PyData → Prop
  | nil : DdAll K H [] []
  | cons {v : V} {vs : List V} {d : PyData} {ds : List PyData} : Dd K H v d → DdAll K H vs ds → DdAll K H (v :: vs) (d :: ds)
inductive DdKv (K : PySem.W.Frag) (H : Hp) : List (Key × V) → List (PyData × PyData) → Prop
  | nil : DdKv K H [] []
  | cons {k : Key} {v : V} {d : PyData} {kvs : List (Key × V)} {ps : List (PyData × PyData)} : Dd K H v d → DdKv K H kvs ps → DdKv K H ((k, v) :: kvs) ((keyD k, d) :: ps)
end
theorem sqT_mono {K : PySem.W.Frag} {H H' : Hp} {a : Addr} {xs : List V} (e : Same H H') (h : SqT K H a xs) : SqT K H' a xs := by
  rcases h with (h | ⟨o, h⟩) | h
  · exact .inl (.inl (e _ _ h))
  · exact .inl (.inr ⟨o, e _ _ h⟩)
  · exact .inr h
theorem rd_mono {H H' : Hp} {a : Addr} {u : HO} (e : Same H H') (h : Rd H a u) : Rd H' a u := h.imp (fun z => e _ _ z) fun ⟨o, z⟩ => ⟨o, e _ _ z⟩
mutual
theorem dd_mono {K : PySem.W.Frag} {H H' : Hp} (e : Same H H') : ∀ {v : V} {d : PyData}, Dd K H v d → Dd K H' v d
  | _, _, .non => .non
  | _, _, .bl b => .bl b
  | _, _, .int i => .int i
  | _, _, .str x => .str x
  | _, _, .lst hs ha => .lst (e.seq hs) (ddAll_mono e ha)
  | _, _, .tup hs ha => .tup (hs.mono e) (ddAll_mono e ha)
  | _, _, .dic hs ha => .dic (rd_mono e hs) (ddKv_mono e ha)
theorem ddAll_mono {K : PySem.W.Frag} {H H' : Hp} (e : Same H H') : ∀ {vs : List V} {ds : List PyData}, DdAll K H vs ds → DdAll K H' vs ds
  | _, _, .nil => .nil
  | _, _, .cons h1 h2 => .cons (dd_mono e h1) (ddAll_mono e h2)
theorem ddKv_mono {K : PySem.W.Frag} {H H' : Hp} (e : Same H H') : ∀ {vs : List (Key × V)} {ds : List (PyData × PyData)}, DdKv K H vs ds → DdKv K H' vs ds
  | _, _, .nil => .nil
  | _, _, .cons h1 h2 => .cons (dd_mono e h1) (ddKv_mono e h2)
end
mutual
theorem Dd.dp {K : PySem.W.Frag} {H : Hp} : ∀ {v : V} {d : PyData}, Dd K H v d → d.canLay0 = true → Dp K H v d
  | _, _, .non, _ => .non
  | _, _, .bl b, _ => .bl b
  | _, _, .int i, _ => .int i
  | _, _, .str x, _ => .str x
  | _, _, .lst hs ha, h => .lst hs (DdAll.dp ha (by simpa [PyData.canLay0] using h))
  | _, _, .tup hs ha, h => .tup hs.t (DdAll.dp ha (by simpa [PyData.canLay0] using h))
  | _, _, .dic hs ha, h => by simp [PyData.canLay0] at h
theorem DdAll.dp {K : PySem.W.Frag} {H : Hp} : ∀ {vs : List V} {ds : List PyData}, DdAll K H vs ds → PyData.canLayAll0 ds = true → DpAll K H vs ds
  | _, _, .nil, _ => .nil
  | _, _, .cons (d := d) (ds := ds) h1 h2, h => by
    have h' : PyData.canLay0 d = true ∧ PyData.canLayAll0 ds = true := by simpa [PyData.canLayAll0] using h
    exact .cons (Dd.dp h1 h'.1) (DdAll.dp h2 h'.2)
end

/-! ### repr -/
mutual
def okInts : PyData → Bool
  | .none | .bool _ | .str _ => true
  | .int i => decide (i.natAbs < 10 ^ 4300)
  | .list xs | .tuple xs => okAll xs
  | .dict kvs => okKv kvs
def okAll : List PyData → Bool
  | [] => true
  | x :: xs => okInts x && okAll xs
def okKv : List (PyData × PyData) → Bool
  | [] => true
  | (k, v) :: r => okInts k && okInts v && okKv r
end
theorem okKv_split : ∀ kvs : List (PyData × PyData), okKv kvs = true → okAll (kvs.map (·.1)) = true ∧ okAll (kvs.map (·.2)) = true
  | [], _ => ⟨rfl, rfl⟩
  | (k, v) :: r, h => by
    have h' : (okInts k = true ∧ okInts v = true) ∧ okKv r = true := by simpa [okKv] using h
    obtain ⟨h1, h2⟩ := okKv_split r h'.2
    simp only [List.map_cons, okAll, h'.1.1, h'.1.2, h1, h2, Bool.and_self, and_self]

section
variable {prog : Program} {w : World} {h₀ : Heap}
set_option maxRecDepth 100000 in
theorem reprK_int {i : Int} {t : Tok} {as : List Addr} {n : Nat} (nd : h₀.NoDigits) (hi : i.natAbs < 10 ^ 4300) :
    ReprK prog w as h₀ n (.int i t) (toString i) := by
  intro b hb A g E s Q hg hcl hu hk hQ
  have hn : b ≤ sizeLine := by omega
  have nds : s.heap.NoDigits := nd.keeps hk
  rw [pyReprUnder_leaf (v := .int i t) hn (fun _ e => nomatch e)]
  unfold pyRepr
  refine wpAny_bind (wpAny_pyReprObj_slot (T := "int") (idr := "int.__repr__") (by omega) (typeIs_int s i t)
    F.slot_int_repr.toG ?_)
  refine wpAny_call (codeAny_call_builtin F.slot_int_repr.plain F.entry_int_repr
    (F.slot_int_repr.check _ _ _ _ _ _ _ _ (typeIs_int _ i t) (F.args_int_repr_1 _) ?_))
  unfold Builtin.«int.__repr__»
  show wpAny _ _ (do let r ← Builtin.overDigitLimit? i; _) _ _ s
  refine wpAny_bind (overDigitLimit_any nds (fun _ => ?_) (fun ge => absurd hi (Nat.not_lt.mpr ge)))
  refine wpAny_bind (wpAny_mkStr (wpAny_pure ?_) (int_text_fits10 hi))
  exact ⟨_, _, rfl, wpAny_pure (hQ s.heap _ fun _ _ e => e)⟩
end
section
variable {X : Cx} {pins : List (Addr × Obj)} {σ : L2.St} {H : Hp} {s : Shared}
/-- what is read, and how it is shown -/
structure Shown (X : Cx) (s : Shared) (u : Value) (d : PyData) (bs : List Addr) : Prop where
  rd : ∃ as, Reads s.heap u d as
  at_ : ReadAtMost s.heap d.depth bs
  k : ReprK X.prog X.w bs s.heap d.depth u d.shown
structure ShownAll (X : Cx) (s : Shared) (us : List Value) (ds : List PyData) (bs : List Addr) : Prop where
  rd : ∃ as, ReadsAll s.heap us ds as
  at_ : ReadAtMost s.heap (PyData.depthAll ds) bs
  k : ReprAllK X.prog X.w bs s.heap (PyData.depthAll ds) us (PyData.shownAll ds)
theorem ramNil (h : Heap) (n : Nat) : ReadAtMost h n [] := fun _ z => nomatch z
theorem key_shown (nd : s.heap.NoDigits) {k : Key} {u : Value} (hk : keyIs k u = true) (ho : okInts (keyD k) = true) (hz : (keyD k).shown.length ≤ sizeLine) : Shown X s u (keyD k) [] := by
  rcases keyIs_shape hk with ⟨i, t, rfl, rfl⟩ | ⟨x, t, rfl, rfl⟩
  · refine ⟨⟨_, Reads.int i t⟩, ramNil _ _, ?_⟩
    show ReprK X.prog X.w [] s.heap _ _ (PyData.int i).shown
    simp only [PyData.shown]
    exact reprK_int nd (by simpa [okInts, keyD] using ho)
  · refine ⟨⟨_, Reads.str x t⟩, ramNil _ _, ?_⟩
    show ReprK X.prog X.w [] s.heap _ _ (PyData.str x).shown
    simp only [PyData.shown]
    exact .of_is (ReprIs.str x t (by simpa only [PyData.shown, keyD] using hz)) _ _ _
theorem ShownAll.cons {u : Value} {us : List Value} {d : PyData} {ds : List PyData} {b1 b2 : List Addr} (h : Shown X s u d b1) (t : ShownAll X s us ds b2) : ShownAll X s (u :: us) (d :: ds) (b1 ++ b2) := by
  obtain ⟨as, r1⟩ := h.rd
  obtain ⟨bs, r2⟩ := t.rd
  refine ⟨⟨_, .cons r1 r2⟩, ?_, ?_⟩
  · simp only [PyData.depthAll]
    exact (h.at_.mono (Nat.le_max_left _ _)).append (t.at_.mono (Nat.le_max_right _ _))
  · simp only [PyData.depthAll, PyData.shownAll]
    exact .cons ((h.k.more fun b hb => List.mem_append_left _ hb).level_le (Nat.le_max_left _ _)) (t.k.more_le (fun b hb => List.mem_append_right _ hb) (Nat.le_max_right _ _))
theorem ShownAll.nil : ShownAll X s [] [] [] := by
  refine ⟨⟨_, .nil⟩, ramNil _ _, ?_⟩
  simp only [PyData.depthAll, PyData.shownAll]
  exact .nil
mutual
theorem Dd.shows (I : Inv X pins σ H s) (nd : s.heap.NoDigits) : ∀ {v : V} {d : PyData}, Dd X.K H v d → ∀ u : Value, RelV v u → okInts d = true → d.shown.length ≤ sizeLine → ∃ bs, Shown X s u d bs
  | _, _, .non, u, r, _, _ => by
    cases r
    refine ⟨[], ⟨_, .none⟩, ramNil _ _, ?_⟩
    simp only [PyData.shown]
    exact .of_is ReprIs.none _ _ _
  | _, _, .bl b, u, r, _, _ => by
    cases r
    refine ⟨[], ⟨_, .bool b⟩, ramNil _ _, ?_⟩
    simp only [PyData.shown]
    exact .of_is (ReprIs.bool b) _ _ _
  | _, _, .int i, u, r, ho, _ => by
    obtain ⟨t, rfl⟩ := r
    refine ⟨[], ⟨_, .int i t⟩, ramNil _ _, ?_⟩
    simp only [PyData.shown]
    exact reprK_int nd (by simpa [okInts] using ho)
  | _, _, .str x, u, r, _, hz => by
    obtain ⟨t, rfl⟩ := r
    refine ⟨[], ⟨_, .str x t⟩, ramNil _ _, ?_⟩
    simp only [PyData.shown]
    exact .of_is (ReprIs.str x t (by simpa only [PyData.shown] using hz)) _ _ _
  | _, _, .lst (xs := xs) (ds := ds) hs ha, u, r, ho, hz => by
    have hz2 : (listText (PyData.shownAll ds)).length ≤ sizeLine := by simpa only [PyData.shown] using hz
    cases r
    obtain ⟨its, rv, ⟨o, n, e1, e2, _, e3⟩, _⟩ := I.list hs
    obtain ⟨bs, ⟨as, q1⟩, q2, q3⟩ := DdAll.shows I nd ha its rv (by simpa [okInts] using ho) (fun t ht => Nat.le_trans (listText_mem_le ht) hz2)
    have whole : Reads s.heap (.ref _) (.list ds) _ := .list e1 e2 e3 q1
    have apart := not_mem_of_deeper whole (by simp only [PyData.depth]; omega) q2
    refine ⟨_, ⟨_, whole⟩, ReadAtMost.cons whole (by simp only [PyData.depth]; omega) q2, ?_⟩
    simp only [PyData.depth, PyData.shown]
    cases its with
    | nil =>
      cases q1
      simp only [PyData.shownAll, listText_nil]
      exact ReprK.listEmpty e1 e2 e3
    | cons y l => exact ReprK.list e1 e2 e3 apart (by simpa using q3.length_eq) (fun i z e => q3.item i z (by simpa using e))
  | _, _, .tup (xs := xs) (ds := ds) hs ha, u, r, ho, hz => by
    have hz2 : (tupleText (PyData.shownAll ds)).length ≤ sizeLine := by simpa only [PyData.shown] using hz
    cases r
    obtain ⟨its, rv, ⟨o, e1, e2, n, e3⟩, _⟩ := I.tuple hs.t
    obtain ⟨bs, ⟨as, q1⟩, q2, q3⟩ := DdAll.shows I nd ha its rv (by simpa [okInts] using ho) (fun t ht => Nat.le_trans (tupleText_mem_le ht) hz2)
    have whole : Reads s.heap (.ref _) (.tuple ds) _ := .tuple e1 e2 e3 q1
    have apart := not_mem_of_deeper whole (by simp only [PyData.depth]; omega) q2
    refine ⟨_, ⟨_, whole⟩, ReadAtMost.cons whole (by simp only [PyData.depth]; omega) q2, ?_⟩
    simp only [PyData.depth, PyData.shown]
    exact ReprK.tuple e1 e2 e3 apart q3
  | _, _, .dic (kvs := kvs) (ps := ps) hs ha, u, r, ho, hz => by
    have hz2 : (dictText (PyData.shownKv ps)).length ≤ sizeLine := by simpa only [PyData.shown] using hz
    cases r
    obtain ⟨_, hsys, vs, hv, o, es, ep, e1, e2, e3, _, e4, _⟩ := (show ObjOk X.prog X.w H s.heap _ (.dK kvs) from hs.ok I.hok)
    obtain ⟨o1, o2⟩ := okKv_split ps (by simpa [okInts] using ho)
    obtain ⟨b1, b2, q1, q2⟩ := DdKv.shows I nd ha es.toList vs hv e4 o1 o2
      (fun t ht => let ⟨p, hp, hl⟩ := PyData.shownKv_key_le ps t ht; Nat.le_trans hl (Nat.le_trans (dictText_mem_le hp) hz2))
      (fun t ht => let ⟨p, hp, hl⟩ := PyData.shownKv_val_le ps t ht; Nat.le_trans hl (Nat.le_trans (dictText_mem_le hp) hz2))
    obtain ⟨as1, r1⟩ := q1.rd
    obtain ⟨as2, r2⟩ := q2.rd
    have whole : Reads s.heap (.ref _) (.dict ps) _ := .dict e1 e2.1 e3 r1 r2
    have hb : ReadAtMost s.heap (PyData.depthKv ps) (b1 ++ b2) := (q1.at_.mono (PyData.depthAll_keys_le ps)).append (q2.at_.mono (PyData.depthAll_vals_le ps))
    have apart := not_mem_of_deeper whole (by simp only [PyData.depth]; omega) hb
    refine ⟨_, ⟨_, whole⟩, ReadAtMost.cons whole (by simp only [PyData.depth]; omega) hb, ?_⟩
    simp only [PyData.depth, PyData.shown, PyData.shownKv_eq]
    exact ReprK.dict e1 e2.1 e3 hsys apart (ReprEntriesK.of_two es.toList _ _
      (q1.k.more_le (fun b hb => List.mem_append_left _ hb) (PyData.depthAll_keys_le ps)) (q2.k.more_le (fun b hb => List.mem_append_right _ hb) (PyData.depthAll_vals_le ps)))
theorem DdAll.shows (I : Inv X pins σ H s) (nd : s.heap.NoDigits) : ∀ {vs : List V} {ds : List PyData}, DdAll X.K H vs ds → ∀ us : List Value, Vals vs us → okAll ds = true → (∀ t ∈ PyData.shownAll ds, t.length ≤ sizeLine) → ∃ bs, ShownAll X s us ds bs
  | _, _, .nil, us, r, _, _ => by
    cases r
    exact ⟨_, .nil⟩
  | _, _, .cons (d := d) (ds := ds) h1 h2, us, r, ho, hz => by
    have ho2 : okInts d = true ∧ okAll ds = true := by simpa [okAll] using ho
    cases r with
    | cons r1 r2 =>
      obtain ⟨b1, q1⟩ := Dd.shows I nd h1 _ r1 ho2.1 (hz _ (by simp only [PyData.shownAll]; exact List.mem_cons_self ..))
      obtain ⟨b2, q2⟩ := DdAll.shows I nd h2 _ r2 ho2.2 (fun t ht => hz t (by simp only [PyData.shownAll]; exact List.mem_cons_of_mem _ ht))
      exact ⟨_, .cons q1 q2⟩
theorem DdKv.shows (I : Inv X pins σ H s) (nd : s.heap.NoDigits) : ∀ {kvs : List (Key × V)} {ps : List (PyData × PyData)}, DdKv X.K H kvs ps → ∀ (es : List DictEntry) (vs : List (Key × Value)), KV kvs vs → PySem.Pairs (mixKind X.prog X.w) es vs →
    okAll (ps.map (·.1)) = true → okAll (ps.map (·.2)) = true → (∀ t ∈ PyData.shownAll (ps.map (·.1)), t.length ≤ sizeLine) → (∀ t ∈ PyData.shownAll (ps.map (·.2)), t.length ≤ sizeLine) →
    ∃ b1 b2, ShownAll X s (es.map (·.key)) (ps.map (·.1)) b1 ∧ ShownAll X s (es.map (·.val)) (ps.map (·.2)) b2
  | _, _, .nil, es, vs, hv, hp, _, _, _, _ => by
    cases hv
    cases hp
    exact ⟨_, _, .nil, .nil⟩
  | _, _, .cons (k := k) (d := d) (ps := ps) h1 h2, es, vs, hv, hp, o1, o2, z1, z2 => by
    cases hv with
    | cons hx ht =>
      obtain ⟨ek, rv⟩ := hx
      cases hp with
      | cons ik ev hp2 =>
        rw [List.map_cons] at o1 o2 z1 z2
        have p1 : okInts (keyD k) = true ∧ okAll (ps.map (·.1)) = true := by simpa [okAll] using o1
        have p2 : okInts d = true ∧ okAll (ps.map (·.2)) = true := by simpa [okAll] using o2
        have y1 := z1 (keyD k).shown (by simp only [PyData.shownAll]; exact List.mem_cons_self ..)
        have y2 := z2 d.shown (by simp only [PyData.shownAll]; exact List.mem_cons_self ..)
        obtain ⟨c1, c2, t1, t2⟩ := DdKv.shows I nd h2 _ _ ht hp2 p1.2 p2.2 (fun t ht => z1 t (by simp only [PyData.shownAll]; exact List.mem_cons_of_mem _ ht)) (fun t ht => z2 t (by simp only [PyData.shownAll]; exact List.mem_cons_of_mem _ ht))
        obtain ⟨b2, s2⟩ := Dd.shows I nd h1 _ rv p2.1 y2
        rw [← ev] at s2
        have ek : k = _ := ek
        rw [← ek] at ik
        exact ⟨_, _, .cons (key_shown nd ik p1.1 y1) t1, .cons s2 t2⟩
end
end

section
variable {prog : Program} {w : World} {A : Around} {E : Value → Shared → Prop} {s : Shared} {Q : Value → Shared → Prop}
theorem repr_big {i : Int} {t : Tok} (nd : s.heap.NoDigits) (hi : i.natAbs < 10 ^ 4300) (hu : A.units + 2 < cLine)
    (h : ∀ tk u, Q (.str (toString i) u) { s with toks := tk }) :
    wpAny (model prog w) A (call (.builtin "repr") [.int i t]) Q E s := by
  refine call_repr_slot (T := "int") (idr := "int.__repr__") (by omega) (typeIs_int s i t) F.slot_int_repr.toG ?_
  refine wpAny_call (codeAny_call_builtin F.slot_int_repr.plain F.entry_int_repr
    (F.slot_int_repr.check _ _ _ _ _ _ _ _ (typeIs_int _ i t) (F.args_int_repr_1 _) ?_))
  unfold Builtin.«int.__repr__»
  show wpAny _ _ (do let r ← Builtin.overDigitLimit? i; _) _ _ s
  refine wpAny_bind (overDigitLimit_any nd (fun _ => ?_) (fun ge => absurd hi (Nat.not_lt.mpr ge)))
  refine wpAny_bind (wpAny_mkStr (wpAny_pure ?_) (int_text_fits10 hi))
  exact ⟨_, _, rfl, h _ _⟩
end
/-- repr of any data -/
def rRepr (K : PySem.W.Frag) : List V → Hp → VK → Prop := fun xs H Q => ∃ x d, xs = [x] ∧ Dd K H x d ∧
  okInts d = true ∧ d.shown.length ≤ sizeLine ∧ d.depth ≤ 60 ∧ Q (.str d.shown) H
theorem call_repr {X : Cx} (hg : X.A.guards = some []) (nd0 : X.base.NoDigits) (hu : X.A.units + 64 < cLine) :
    CallR X (.builtin "repr") (rRepr X.K) := by
  intro pins s σ H xs us Q I r h
  obtain ⟨x, d, rfl, hd, ho, hz, hdep, q⟩ := h
  obtain ⟨u, rfl, ru⟩ : ∃ u, us = [u] ∧ RelV x u := by
    cases r with
    | cons p t =>
      cases t
      exact ⟨_, rfl, p⟩
  have nd : s.heap.NoDigits := nd0.keeps I.bk
  have fin : ∀ (h' : Heap) (u2 tk : Tok), (∀ b o, s.heap.get? b = some o → h'.get? b = some o) → EP X pins σ Q (.str d.shown u2) { s with heap := h', toks := tk } :=
    fun h' u2 tk keep => ⟨.str d.shown, H, I.kept keep, ⟨_, rfl⟩, q⟩
  cases hd with
  | non =>
    cases ru
    refine PySem.P.repr_of_none ?_
    have := fin s.heap s.toks (s.toks + 1) fun _ _ e => e
    simpa only [PyData.shown] using this
  | bl b =>
    cases ru
    refine PySem.P.repr_of_bool ?_
    have := fin s.heap s.toks (s.toks + 1) fun _ _ e => e
    simpa only [PyData.shown] using this
  | str x =>
    obtain ⟨t, rfl⟩ := ru
    refine PySem.P.repr_of_str ?_ (by simpa only [PyData.shown] using hz)
    have := fin s.heap s.toks (s.toks + 1) fun _ _ e => e
    simpa only [PyData.shown] using this
  | int i =>
    obtain ⟨t, rfl⟩ := ru
    refine repr_big nd (by simpa [okInts] using ho) (by omega) ?_
    intro tk u
    have := fin s.heap u tk fun _ _ e => e
    simpa only [PyData.shown] using this
  | @lst a xs ds hs ha =>
    have hz2 : (listText (PyData.shownAll ds)).length ≤ sizeLine := by simpa only [PyData.shown] using hz
    cases ru
    obtain ⟨its, rv, ⟨o, n, e1, e2, _, e3⟩, _⟩ := I.list hs
    obtain ⟨bs, ⟨as, q1⟩, q2, q3⟩ := DdAll.shows I nd ha its rv (by simpa [okInts] using ho) (fun t ht => Nat.le_trans (listText_mem_le ht) hz2)
    have apart := not_mem_of_deeper (Reads.list e1 e2 e3 q1) (n := PyData.depthAll ds) (by simp only [PyData.depth]; omega) q2
    simp only [PyData.depth] at hdep
    simp only [PyData.shown] at fin
    refine call_repr_slot (T := "list") (idr := "list.__repr__") (by omega) ⟨o, e1, e2⟩ F.slot_list_repr.toG ?_
    cases its with
    | nil =>
      cases q1
      simp only [PyData.shownAll, listText_nil] at fin
      exact call_list_repr_empty ⟨o, e1, e2⟩ e1 e3 ⟨_, _, rfl, fin s.heap _ _ fun _ _ e => e⟩
    | cons y l =>
      exact call_list_reprK e1 e2 e3 apart (by simpa using q3.length_eq) (fun i z e => q3.item i z (by simpa using e)) hg
        (fun b _ => Clear.nil b) (by show X.A.units + 1 + _ < cLine; omega) (fun _ _ e => e) (fun h' u tk keep => ⟨_, _, rfl, fin h' u tk keep⟩) hz2
  | @tup a xs ds hs ha =>
    have hz2 : (tupleText (PyData.shownAll ds)).length ≤ sizeLine := by simpa only [PyData.shown] using hz
    cases ru
    obtain ⟨its, rv, ⟨o, e1, e2, n, e3⟩, _⟩ := I.tuple hs.t
    obtain ⟨bs, ⟨as, q1⟩, q2, q3⟩ := DdAll.shows I nd ha its rv (by simpa [okInts] using ho) (fun t ht => Nat.le_trans (tupleText_mem_le ht) hz2)
    have apart := not_mem_of_deeper (Reads.tuple e1 e2 e3 q1) (n := PyData.depthAll ds) (by simp only [PyData.depth]; omega) q2
    simp only [PyData.depth] at hdep
    simp only [PyData.shown] at fin
    refine call_repr_slot (T := "tuple") (idr := "tuple.__repr__") (by omega) ⟨o, e1, e2⟩ F.slot_tuple_repr ?_
    exact call_tuple_reprK e1 e2 e3 apart q3 hg (fun b _ => Clear.nil b) (by show X.A.units + 1 + _ < cLine; omega) (fun _ _ e => e)
      (fun h' u tk keep => ⟨_, _, rfl, fin h' u tk keep⟩) hz2
  | @dic a kvs ps hs ha =>
    have hz2 : (dictText (PyData.shownKv ps)).length ≤ sizeLine := by simpa only [PyData.shown] using hz
    cases ru
    obtain ⟨_, hsys, vs, hv, o, es, ep, e1, e2, e3, _, e4, _⟩ := (show ObjOk X.prog X.w H s.heap _ (.dK kvs) from hs.ok I.hok)
    obtain ⟨o1, o2⟩ := okKv_split ps (by simpa [okInts] using ho)
    obtain ⟨b1, b2, q1, q2⟩ := DdKv.shows I nd ha es.toList vs hv e4 o1 o2
      (fun t ht => let ⟨p, hp, hl⟩ := PyData.shownKv_key_le ps t ht; Nat.le_trans hl (Nat.le_trans (dictText_mem_le hp) hz2))
      (fun t ht => let ⟨p, hp, hl⟩ := PyData.shownKv_val_le ps t ht; Nat.le_trans hl (Nat.le_trans (dictText_mem_le hp) hz2))
    obtain ⟨as1, r1⟩ := q1.rd
    obtain ⟨as2, r2⟩ := q2.rd
    have whole : Reads s.heap (.ref a) (.dict ps) _ := .dict e1 e2.1 e3 r1 r2
    have hb : ReadAtMost s.heap (PyData.depthKv ps) (b1 ++ b2) := (q1.at_.mono (PyData.depthAll_keys_le ps)).append (q2.at_.mono (PyData.depthAll_vals_le ps))
    have apart := not_mem_of_deeper whole (by simp only [PyData.depth]; omega) hb
    simp only [PyData.depth] at hdep
    simp only [PyData.shown, PyData.shownKv_eq] at fin
    refine call_repr_slot (T := "dict") (idr := "dict.__repr__") (by omega) ⟨o, e1, e2.1⟩ F.slot_dict_repr ?_
    exact call_dict_reprK e1 e2.1 e3 hsys apart (ReprEntriesK.of_two es.toList _ _
      (q1.k.more_le (fun b hb => List.mem_append_left _ hb) (PyData.depthAll_keys_le ps)) (q2.k.more_le (fun b hb => List.mem_append_right _ hb) (PyData.depthAll_vals_le ps))) hg (fun b _ => Clear.nil b) (by show X.A.units + 1 + _ < cLine; omega) (fun _ _ e => e)
      (fun h' u tk keep => ⟨_, _, rfl, fin h' u tk keep⟩) (by rw [← PyData.shownKv_eq]; exact hz2)

/-! ### == -/
def rEqE (K : PySem.W.Frag) : R2 := fun x y H Q => ∃ d e, Dd K H x d ∧ Dd K H y e ∧ SeqAt.shaped d = true ∧ SeqAt.shaped e = true ∧ Q (.bl (PyData.eqv d e)) H
def rNeE (K : PySem.W.Frag) : R2 := fun x y H Q => ∃ d e, Dd K H x d ∧ Dd K H y e ∧ SeqAt.shaped d = true ∧ SeqAt.shaped e = true ∧ Q (.bl (!PyData.eqv d e)) H
section
variable {X : Cx}
theorem op_eqE (hu : X.A.units + 64 < cLine) : OpR X (compareOp .Eq) (rEqE X.K) := by
  intro pins s σ H x y v u Q I rx ry h
  obtain ⟨d, e, hd, he, sd, se, q⟩ := h
  exact op_eqD hu pins s σ H x y v u Q I rx ry ⟨d, e, hd.dp (SeqAt.canLay_of_shaped sd), he.dp (SeqAt.canLay_of_shaped se), sd, se, q⟩
theorem op_neE (hu : X.A.units + 64 < cLine) : OpR X (compareOp .NotEq) (rNeE X.K) := by
  intro pins s σ H x y v u Q I rx ry h
  obtain ⟨d, e, hd, he, sd, se, q⟩ := h
  exact op_neD hu pins s σ H x y v u Q I rx ry ⟨d, e, hd.dp (SeqAt.canLay_of_shaped sd), he.dp (SeqAt.canLay_of_shaped se), sd, se, q⟩
end
end DL

/-! What makes tuples: each new one has no dict of its own. -/
namespace DL
open PySem PySem.Spec PyProof.Rows L2
section
variable {X : Cx} {K : PySem.W.Frag} {pins : List (Addr × Obj)} {σ : L2.St} {H : Hp} {s : Shared} {Q : VK}
theorem tup_new {us : List Value} {xs : List V} {b : Obj} {n : Nat} {tk : Tok} (I : Inv X pins σ H s) (hc : b.cls = .type "tuple") (hd : b.dict = none) (hn : b.data = .seq us.toArray n) (r : Vals xs us) (z : xs.length ≤ sizeLine)
    (q : ∀ (p : Addr) (o : Obj), H p = none → o.dict = none → Q (.ref p) (upd H p (.frz o (.tup xs)))) (hf : b.isFreed = false := by rfl) : EP X pins σ Q (.ref s.heap.objs.size) { s with heap := s.heap.push b, toks := tk } := by
  have fr := I.hok.fresh (Nat.le_refl s.heap.objs.size)
  have at_ : (s.heap.push b).get? s.heap.objs.size = some b := Heap.get?_push_size s.heap hf
  have ok : ObjOk X.prog X.w (upd H s.heap.objs.size (.frz b (.tup xs))) (s.heap.push b) s.heap.objs.size (.frz b (.tup xs)) :=
    ⟨at_, z, us, r, b, at_, hc, n, hn⟩
  refine ⟨V.ref s.heap.objs.size, upd H s.heap.objs.size (.frz b (.tup xs)), ?_, by rfl, q s.heap.objs.size b fr hd⟩
  exact I.laid (t' := tk) (fun c u w => Heap.get?_push_of_some b w) (Nat.le_refl s.heap.objs.size) ok
def tTupP (t : TA) : TE := fun σ H Q => t σ H fun xs H1 => xs.length ≤ sizeLine ∧ ∀ (p : Addr) (o : Obj), H1 p = none → o.dict = none → Q (.ref p) (upd H1 p (.frz o (.tup xs)))
theorem pe_tupP {es : List Expr} {pos : Pos} {n : Nat} {t : TA} (h : PA X es t) : PE X (.Tuple es n pos) (tTupP t) := by
  refine ⟨fun pins s σ H Q I hq => wpAny_Tuple_spliced (thn (h.run pos pins s σ H _ I hq) ?_)⟩
  rintro us s1 ⟨xs, H1, I1, r, z, q⟩
  exact ⟨by rw [← r.length]; exact z, tup_new I1 rfl rfl rfl r z q⟩
def rTupP (K : PySem.W.Frag) : List V → Hp → VK → Prop := fun xs H Q => ∃ p ys, xs = [.ref p] ∧ ((SqL K H p ys ∧ ∀ (l : Addr) (o : Obj), H l = none → o.dict = none → Q (.ref l) (upd H l (.frz o (.tup ys)))) ∨ (SqT K H p ys ∧ Q (.ref p) H))
theorem call_tupleP (hK : X.K = K) : CallR X (.type "tuple") (rTupP K) := by
  subst hK
  intro pins s σ H xs us Q I r ⟨p, ys, e, h⟩
  subst e
  obtain ⟨u, e, rx⟩ := vals1 r
  subst e
  cases rx
  rcases h with ⟨hq, q⟩ | ⟨hq, q⟩
  · obtain ⟨its, rv, pl, hz⟩ := I.list hq
    have hl := rv.length
    refine call_tuple_list pl.isList (fun h' kp => ?_) (by rw [List.size_toArray]; omega)
    exact tup_new (s := { s with heap := h' }) (I.kept (t' := s.toks) kp) rfl rfl rfl rv hz q
  · obtain ⟨its, rv, pl, hz⟩ := I.tuple hq
    exact call_tuple_same pl ⟨V.ref p, H, I, by rfl, q⟩
def rCatP (K : PySem.W.Frag) : R2 := fun x y H Q => ∃ a b xs ys, x = .ref a ∧ y = .ref b ∧ SqT K H a xs ∧ SqT K H b ys ∧ xs.length + ys.length ≤ sizeLine ∧
  (xs = [] → Q (.ref b) H) ∧ (xs ≠ [] → ys = [] → Q (.ref a) H) ∧ (xs ≠ [] → ys ≠ [] → ∀ (p : Addr) (o : Obj), H p = none → o.dict = none → Q (.ref p) (upd H p (.frz o (.tup (xs ++ ys)))))
theorem op_catP (hK : X.K = K) : OpR X (binaryOp .Add) (rCatP K) := by
  subst hK
  intro pins s σ H x y v u Q I rx ry h
  obtain ⟨a, b, xs, ys, e1, e2, ha, hb, hz, q0, q1, q2⟩ := h
  by_cases hx : xs = []
  · refine op_catA pins s σ H x y v u Q I rx ry ⟨a, b, xs, ys, e1, e2, ha, hb, hz, q0, q1, fun n => absurd hx n⟩
  · by_cases hy : ys = []
    · refine op_catA pins s σ H x y v u Q I rx ry ⟨a, b, xs, ys, e1, e2, ha, hb, hz, q0, q1, fun _ n => absurd hy n⟩
    · subst e1 e2
      cases rx
      cases ry
      obtain ⟨i1, v1, p1, z1⟩ := I.tuple ha
      obtain ⟨i2, v2, p2, z2⟩ := I.tuple hb
      have l1 := v1.length
      have l2 := v2.length
      refine HT.cat_tup p1 p2 (fun z => hx (v1.nil_iff.mp z)) (fun z => absurd (v2.nil_iff.mp z) hy) (fun z => ?_) (by omega)
      exact tup_new I rfl rfl rfl (v1.append v2) (by rw [List.length_append]; exact hz) (q2 hx hy)
def rSlP (K : PySem.W.Frag) : V → Option Int → Option Int → Hp → VK → Prop := fun x lo hi H Q => ∃ a xs, x = .ref a ∧ SqT K H a xs ∧
  (HT.sIx xs.length 0 lo = 0 ∧ HT.sIx xs.length xs.length hi = xs.length → Q (.ref a) H) ∧ (¬ (HT.sIx xs.length 0 lo = 0 ∧ HT.sIx xs.length xs.length hi = xs.length) → ∀ (p : Addr) (o : Obj), H p = none → o.dict = none → Q (.ref p) (upd H p (.frz o (.tup (cutV xs lo hi)))))
theorem sl_tupP : SlR X (rSlP X.K) := by
  intro pins s σ H x v vl vu lo hi sl Q I rx hs pl pu h
  obtain ⟨a, xs, e, hx, q1, q2⟩ := h
  by_cases hw : HT.sIx xs.length 0 lo = 0 ∧ HT.sIx xs.length xs.length hi = xs.length
  · exact sl_tupA pins s σ H x v vl vu lo hi sl Q I rx hs pl pu ⟨a, xs, e, hx, q1, fun n => absurd hw n⟩
  · subst e
    cases rx
    obtain ⟨its, rv, ht, hz⟩ := I.tuple hx
    have hl : its.toArray.size = xs.length := by rw [List.size_toArray]; exact rv.length.symm
    refine ⟨"tuple", _, PyProof.Rows.slot_tuple_getitem.lookup, ht.typeIs, ?_⟩
    refine HT.getItem_tuple_cut ht hs pl pu (fun z => hw (by rw [hl] at z; exact z)) ?_ (by rw [hl]; exact hz)
    rw [hl]
    have e1 : HT.sIx xs.length 0 lo = HT.sIx xs.length 0 lo := rfl
    exact tup_new I rfl rfl rfl ((rv.drop _).take _) (Nat.le_trans (cutV_length xs lo hi) hz) (q2 hw)
def rDivP : List V → Hp → VK → Prop := fun xs H Q => ∃ i j, xs = [.int i, .int j] ∧ CDivP i j ∧ ∀ (p : Addr) (o : Obj), H p = none → o.dict = none → Q (.ref p) (upd H p (.frz o (.tup [.int (i / j), .int (i % j)])))
theorem call_divmodP : CallR X (.builtin "divmod") rDivP := by
  intro pins s σ H xs us Q I r ⟨i, j, e, c, q⟩
  subst e
  obtain ⟨u, v, e, ⟨t, e1⟩, ⟨t', e2⟩⟩ := vals2 r
  subst e e1 e2
  have j0 : 0 < j := c.1
  refine divmod_int (by omega) ?_ (.inl c.2)
  rw [Int.fmod_eq_emod_of_nonneg i (by omega), Int.fdiv_eq_ediv_of_nonneg i (by omega)]
  have rv : Vals [V.int (i / j), V.int (i % j)] [Value.int (i / j) s.toks, Value.int (i % j) (s.toks + 1)] := by
    refine .cons ?_ (.cons ?_ .nil)
    · exact ⟨s.toks, rfl⟩
    · exact ⟨s.toks + 1, rfl⟩
  exact tup_new I rfl rfl rfl rv (Nat.le_of_ble_eq_true rfl) q
end
end DL

/-! Programs over data: what a slot holds is told as data, the heap is kept out of sight. -/
namespace DL
open PySem PySem.Spec PyProof.Rows L2

/-! ### heaps with some objects hidden -/
theorem same_new {H : Hp} {p : Addr} {o : HO} (h : H p = none) : Same H (upd H p o) := by
  intro b x e
  rw [upd_ne (ne_of_none e h)]
  exact e
theorem dp_mono {K : PySem.W.Frag} {H H' : Hp} (e : Same H H') (d : PyData) (v : V) (h : Dd K H v d) : Dd K H' v d := dd_mono e h
theorem dpAll_mono {K : PySem.W.Frag} {H H' : Hp} (e : Same H H') (ds : List PyData) (vs : List V) (h : DdAll K H vs ds) : DdAll K H' vs ds := ddAll_mono e h
theorem DdAll.len {K : PySem.W.Frag} {H : Hp} : ∀ {vs : List V} {ds : List PyData}, DdAll K H vs ds → vs.length = ds.length
  | [], _, h => by cases h; rfl
  | v :: vs, _, h => by
    cases h with
    | cons _ h2 => rw [List.length_cons, List.length_cons, DdAll.len h2]
theorem DdAll.get {K : PySem.W.Frag} {H : Hp} : ∀ {vs : List V} {ds : List PyData} {i : Nat} {d : PyData}, DdAll K H vs ds → ds[i]? = some d → ∃ v, vs[i]? = some v ∧ Dd K H v d
  | [], _, _, _, h, e => by cases h; cases e
  | v :: vs, _, 0, d, h, e => by
    cases h with
    | cons h1 _ =>
      cases e
      exact ⟨v, rfl, h1⟩
  | v :: vs, _, i + 1, d, h, e => by
    cases h with
    | cons _ h2 => exact DdAll.get (vs := vs) h2 e
theorem DdAll.gets {K : PySem.W.Frag} {H : Hp} : ∀ {vs : List V} {ds : List PyData} {i : Nat} {v : V}, DdAll K H vs ds → vs[i]? = some v → ∃ d, ds[i]? = some d ∧ Dd K H v d
  | [], _, _, _, h, e => by cases e
  | v :: vs, _, 0, _, h, e => by
    cases h with
    | cons h1 _ =>
      cases e
      exact ⟨_, rfl, h1⟩
  | v :: vs, d :: ds, i + 1, _, h, e => by
    cases h with
    | cons _ h2 => exact DdAll.gets (vs := vs) (ds := ds) (i := i) h2 e
theorem DdAll.app {K : PySem.W.Frag} {H : Hp} : ∀ {vs us : List V} {ds es : List PyData}, DdAll K H vs ds → DdAll K H us es → DdAll K H (vs ++ us) (ds ++ es)
  | [], _, _, _, h, k => by cases h; exact k
  | v :: vs, _, _, _, h, k => by
    cases h with
    | cons h1 h2 => exact .cons h1 (DdAll.app h2 k)
theorem DdAll.take {K : PySem.W.Frag} {H : Hp} : ∀ {vs : List V} {ds : List PyData} (n : Nat), DdAll K H vs ds → DdAll K H (vs.take n) (ds.take n)
  | _, _, 0, _ => .nil
  | [], _, n + 1, h => by cases h; exact .nil
  | v :: vs, _, n + 1, h => by
    cases h with
    | cons h1 h2 => exact .cons h1 (DdAll.take n h2)
theorem DdAll.drop {K : PySem.W.Frag} {H : Hp} : ∀ {vs : List V} {ds : List PyData} (n : Nat), DdAll K H vs ds → DdAll K H (vs.drop n) (ds.drop n)
  | _, _, 0, h => h
  | [], _, n + 1, h => by cases h; exact .nil
  | v :: vs, _, n + 1, h => by
    cases h with
    | cons h1 h2 => exact DdAll.drop n h2
theorem DdAll.rev {K : PySem.W.Frag} {H : Hp} : ∀ {vs : List V} {ds : List PyData}, DdAll K H vs ds → DdAll K H vs.reverse ds.reverse
  | [], _, h => by cases h; exact .nil
  | v :: vs, _, h => by
    cases h with
    | cons h1 h2 =>
      rw [List.reverse_cons, List.reverse_cons]
      exact DdAll.app (DdAll.rev h2) (.cons h1 .nil)
theorem DdAll.ofInts {K : PySem.W.Frag} {H : Hp} : ∀ (ns : List Int), DdAll K H (ns.map V.int) (ns.map PyData.int)
  | [] => .nil
  | n :: ns => .cons (.int n) (DdAll.ofInts ns)
theorem DdAll.ofStrs {K : PySem.W.Frag} {H : Hp} : ∀ (ns : List Str), DdAll K H (ns.map V.str) (ns.map PyData.str)
  | [] => .nil
  | n :: ns => .cons (.str n) (DdAll.ofStrs ns)
theorem DdAll.ints {K : PySem.W.Frag} {H : Hp} : ∀ {ns : List Int} {vs : List V}, DdAll K H vs (ns.map PyData.int) → vs = ns.map V.int
  | [], _, h => by cases h; rfl
  | n :: ns, _, h => by
    cases h with
    | cons h1 h2 =>
      cases h1
      rw [List.map_cons, DdAll.ints h2]
theorem DdAll.strs {K : PySem.W.Frag} {H : Hp} : ∀ {ns : List Str} {vs : List V}, DdAll K H vs (ns.map PyData.str) → vs = ns.map V.str
  | [], _, h => by cases h; rfl
  | n :: ns, _, h => by
    cases h with
    | cons h1 h2 =>
      cases h1
      rw [List.map_cons, DdAll.strs h2]
theorem DdAll.bools {K : PySem.W.Frag} {H : Hp} : ∀ {ns : List Bool} {vs : List V}, DdAll K H vs (ns.map PyData.bool) → vs = ns.map V.bl
  | [], _, h => by cases h; rfl
  | n :: ns, _, h => by
    cases h with
    | cons h1 h2 =>
      cases h1
      rw [List.map_cons, DdAll.bools h2]

open Classical in
/-- the heap without the objects of which o tells -/
noncomputable def hid (H : Hp) (o : Addr → Prop) : Hp := fun a => if o a then none else H a
theorem hid_of {H : Hp} {o : Addr → Prop} {a : Addr} (h : ¬ o a) : hid H o a = H a := if_neg h
theorem hid_some {H : Hp} {o : Addr → Prop} {a : Addr} {u : HO} (h : hid H o a = some u) : ¬ o a ∧ H a = some u := by
  unfold hid at h
  split at h
  · cases h
  · rename_i n
    exact ⟨n, h⟩
theorem hid_le {H : Hp} {o : Addr → Prop} : Same (hid H o) H := fun a u e => (hid_some e).2
theorem hid_less {H : Hp} {o o' : Addr → Prop} (h : ∀ a, o a → o' a) : Same (hid H o') (hid H o) := by
  intro a u e
  obtain ⟨n, e2⟩ := hid_some e
  rw [hid_of (fun z => n (h a z))]
  exact e2

/-! ### what a slot holds -/
inductive Sl where
  /-- nothing is known -/
  | no
  /-- data -/
  | dat (d : PyData)
  /-- a list of the def's own at p, which it may change -/
  | own (p : Addr) (xs : List PyData)
  /-- a dict of the def's own at p, which it may change -/
  | ownD (p : Addr) (ps : List (PyData × PyData))
  /-- a function of no def: its object, the cells that it reads -/
  | fn (of : Obj) (cc : Addr × Str) (cs : List (Addr × Obj))
  /-- the bag -/
  | bag

/-- where a def's body stands: the heap at the entry, what its callers own, the bag -/
structure Wd where
  K : PySem.W.Frag
  H0 : Hp
  own0 : Addr → Prop
  bg : Option Addr
  /-- tables of code objects, with the name that those have which they tell -/
  tb : List (Addr × Str)
/-- what is hidden, and changes -/
def Wd.mu (w : Wd) (a : Addr) : Prop := w.bg = some a ∨ ∃ q, (a, q) ∈ w.tb
/-- the address of an object that a def may change -/
def Sl.adr : Sl → Option Addr
  | .own p _ => some p
  | .ownD p _ => some p
  | _ => none
/-- what a hidden thing is: not none, no thing told by a property alone -/
def Hidn (u : Option HO) : Prop := u ≠ none ∧ (∀ c q, u ≠ some (LamX.CodeO c q)) ∧ ∀ o x, u ≠ some (.frz o x)
theorem hidn_lst {xs : List V} : Hidn (some (.lst xs)) := ⟨(fun z => nomatch z), (fun _ _ z => by unfold LamX.CodeO at z; cases z), (fun _ _ z => nomatch z)⟩
theorem hidn_dK {xs : List (Key × V)} : Hidn (some (.dK xs)) := ⟨(fun z => nomatch z), (fun _ _ z => by unfold LamX.CodeO at z; cases z), (fun _ _ z => nomatch z)⟩
theorem hidn_tbl {ps : Array Value} : Hidn (some (.tbl ps)) := ⟨(fun z => nomatch z), (fun _ _ z => by unfold LamX.CodeO at z; cases z), (fun _ _ z => nomatch z)⟩
/-- the thing at a is ob, and stays so -/
def fzO (a : Addr) (ob : Obj) : HO := .frz ob (.ext fun h => h.get? a = some ob)
/-- the tables stand -/
def TbAt (T : List (Addr × Str)) (H : Hp) (o : Addr → Prop) : Prop := ∀ p ∈ T, o p.1 ∧ ∃ ps : Array Value, H p.1 = some (.tbl ps) ∧ TriplesOk ps.toList ∧
  ∀ (pos : Pos) (cv : Value), codeAmong pos ps.toList = some cv → ∃ c, cv = .ref c ∧ hid H o c = some (LamX.CodeO c p.2)

/-- the bag stands at b -/
def BagAt (K : PySem.W.Frag) (H : Hp) (o : Addr → Prop) (b : Addr) : Prop :=
  o b ∧ ∃ (c s t : Int) (l : Addr) (ns : List Int), H b = some (.lst [.int c, .int s, .int t, .ref l]) ∧ SqL K (hid H o) l (ns.map V.int) ∧ ns.length ≤ 63
structure Bas (w : Wd) (o : Addr → Prop) (H : Hp) : Prop where
  grow : Same (hid w.H0 w.own0) (hid H o)
  sub : ∀ a, w.own0 a → o a
  keep : ∀ a, w.own0 a → ¬ w.mu a → H a = w.H0 a
  bag : ∀ b, w.bg = some b → w.own0 b ∧ BagAt w.K H o b
  tab : (∀ p ∈ w.tb, w.own0 p.1) ∧ TbAt w.tb H o
  here : ∀ a, o a → Hidn (H a)
def VR (w : Wd) (o : Addr → Prop) (H : Hp) (v : V) : Sl → Prop
  | .no => True
  | .dat d => Dd w.K (hid H o) v d
  | .own p xs => v = .ref p ∧ o p ∧ ¬ w.own0 p ∧ ∃ vs, H p = some (.lst vs) ∧ DdAll w.K (hid H o) vs xs
  | .ownD p ps => v = .ref p ∧ o p ∧ ¬ w.own0 p ∧ ∃ kvs, H p = some (.dK kvs) ∧ DdKv w.K (hid H o) kvs ps
  | .fn ob cc cs => ∃ f, v = .ref f ∧ hid H o f = some (fzO f ob) ∧ hid H o cc.1 = some (LamX.CodeO cc.1 cc.2) ∧ ∀ p ∈ cs, hid H o p.1 = some (fzO p.1 p.2)
  | .bag => ∃ b, w.bg = some b ∧ v = .ref b
structure Ok (w : Wd) (o : Addr → Prop) (σ : L2.St) (H : Hp) (ρ : List Sl) : Prop extends Bas w o H where
  len : σ.length = ρ.length
  slot : ∀ (i : Nat) (x : Sl), ρ[i]? = some x → x = .no ∨ ∃ v, σ[i]? = some (some v) ∧ VR w o H v x
  apart : ∀ (i j : Nat) (p q : Addr) (x y : Sl), i ≠ j → ρ[i]? = some x → ρ[j]? = some y → x.adr = some p → y.adr = some q → p ≠ q
theorem VR.dat {w : Wd} {o : Addr → Prop} {H : Hp} {v : V} {d : PyData} (h : Dd w.K (hid H o) v d) : VR w o H v (.dat d) := h
/-- what a part of an expression may do -/
structure Go (w : Wd) (o : Addr → Prop) (H : Hp) (o' : Addr → Prop) (H' : Hp) : Prop where
  same : Same (hid H o) (hid H' o')
  sub : ∀ a, o a → o' a
  keep : ∀ a, o a → ¬ w.mu a → H' a = H a
  bag : ∀ b, w.bg = some b → BagAt w.K H' o' b
  tab : TbAt w.tb H' o'
  here : ∀ a, o' a → Hidn (H' a)

section
variable {w : Wd} {o o1 o2 : Addr → Prop} {H H1 H2 : Hp} {σ : L2.St} {ρ : List Sl} {v : V} {x : Sl}
theorem Bas.hn (b : Bas w o H) : ∀ a, o a → H a ≠ none := fun a h => (b.here a h).1
theorem Bas.refl (b : Bas w o H) : Go w o H o H := ⟨Same.refl _, fun _ h => h, fun _ _ _ => rfl, fun b' e => (b.bag b' e).2, b.tab.2, b.here⟩
theorem Go.trans (a : Go w o H o1 H1) (b : Go w o1 H1 o2 H2) : Go w o H o2 H2 :=
  ⟨a.same.trans b.same, fun c h => b.sub c (a.sub c h), fun c h n => (b.keep c (a.sub c h) n).trans (a.keep c h n), b.bag, b.tab, b.here⟩
theorem Bas.go (b : Bas w o H) (g : Go w o H o1 H1) : Bas w o1 H1 :=
  ⟨b.grow.trans g.same, fun a h => g.sub a (b.sub a h), fun a h n => (g.keep a (b.sub a h) n).trans (b.keep a h n), fun c e => ⟨(b.bag c e).1, g.bag c e⟩, ⟨b.tab.1, g.tab⟩, g.here⟩
theorem Bas.nb (b : Bas w o H) {p : Addr} (h : ¬ w.own0 p) : ¬ w.mu p := fun e => e.elim (fun e => h (b.bag p e).1) fun ⟨q, e⟩ => h (b.tab.1 (p, q) e)
theorem ddKv_mono' {K : PySem.W.Frag} {H H' : Hp} (e : Same H H') (kvs : List (Key × V)) (ps : List (PyData × PyData)) (h : DdKv K H kvs ps) : DdKv K H' kvs ps := ddKv_mono e h
theorem VR.go (b : Bas w o H) (g : Go w o H o1 H1) (r : VR w o H v x) : VR w o1 H1 v x := by
  cases x with
  | no => trivial
  | dat d => exact dp_mono g.same d v r
  | own p xs =>
    obtain ⟨e, hp, n, vs, hv, ha⟩ := r
    exact ⟨e, g.sub p hp, n, vs, (g.keep p hp (b.nb n)).trans hv, dpAll_mono g.same xs vs ha⟩
  | ownD p ps =>
    obtain ⟨e, hp, n, kvs, hv, ha⟩ := r
    exact ⟨e, g.sub p hp, n, kvs, (g.keep p hp (b.nb n)).trans hv, ddKv_mono' g.same kvs ps ha⟩
  | fn ob cc cs =>
    obtain ⟨f, e, h1, hc, h2⟩ := r
    exact ⟨f, e, g.same _ _ h1, g.same _ _ hc, fun p hp => g.same _ _ (h2 p hp)⟩
  | bag => exact r
theorem Ok.go (k : Ok w o σ H ρ) (g : Go w o H o1 H1) : Ok w o1 σ H1 ρ :=
  ⟨k.toBas.go g, k.len, fun i x e => (k.slot i x e).imp id fun ⟨v, hv, r⟩ => ⟨v, hv, r.go k.toBas g⟩, k.apart⟩
theorem BagAt.go {K : PySem.W.Frag} {b : Addr} (h : BagAt K H o b) (s : Same (hid H o) (hid H1 o1)) (e : H1 b = H b) (ho : o1 b) : BagAt K H1 o1 b := by
  obtain ⟨_, c, s', t, l, ns, e1, e2, e3⟩ := h
  exact ⟨ho, c, s', t, l, ns, e.trans e1, s.seq e2, e3⟩
theorem TbAt.go {T : List (Addr × Str)} (h : TbAt T H o) (s : Same (hid H o) (hid H1 o1)) (e : ∀ p ∈ T, H1 p.1 = H p.1) (ho : ∀ p ∈ T, o1 p.1) : TbAt T H1 o1 := by
  intro p hp
  obtain ⟨_, ps, e1, e2, e3⟩ := h p hp
  refine ⟨ho p hp, ps, (e p hp).trans e1, e2, fun pos cv q => ?_⟩
  obtain ⟨c, h1, h2⟩ := e3 pos cv q
  exact ⟨c, h1, s _ _ h2⟩
/-- new data is laid -/
theorem Bas.new (b : Bas w o H) {p : Addr} {u : HO} (n : H p = none) : Go w o H o (upd H p u) := by
  have off : ∀ a, o a → a ≠ p := fun a h e => b.hn a h (e ▸ n)
  have sm : Same (hid H o) (hid (upd H p u) o) := by
    intro a y e
    obtain ⟨na, e⟩ := hid_some e
    rw [hid_of na, upd_ne (ne_of_none e n)]
    exact e
  refine ⟨sm, fun _ h => h, fun a h _ => upd_ne (off a h), fun c e => ?_, ?_, fun a h => ?_⟩
  · obtain ⟨c1, c2⟩ := b.bag c e
    exact c2.go sm (upd_ne (off c c2.1)) c2.1
  · exact b.tab.2.go sm (fun q hq => upd_ne (off q.1 (b.tab.2 q hq).1)) fun q hq => (b.tab.2 q hq).1
  · rw [upd_ne (off a h)]
    exact b.here a h
/-- the heap grows by data -/
theorem Bas.ext (b : Bas w o H) (e : Same H H1) : Go w o H o H1 := by
  have kp : ∀ a, o a → H1 a = H a := fun a h => by
    cases q : H a with
    | none => exact absurd q (b.hn a h)
    | some y => exact e a y q
  have sm : Same (hid H o) (hid H1 o) := by
    intro a y q
    obtain ⟨na, q⟩ := hid_some q
    rw [hid_of na]
    exact e a y q
  refine ⟨sm, fun _ h => h, fun a h _ => kp a h, fun c q => ?_, ?_, fun a h => ?_⟩
  · obtain ⟨c1, c2⟩ := b.bag c q
    exact c2.go sm (kp c c2.1) c2.1
  · exact b.tab.2.go sm (fun q hq => kp q.1 (b.tab.2 q hq).1) fun q hq => (b.tab.2 q hq).1
  · rw [kp a h]
    exact b.here a h
/-- new data is seen -/
theorem Bas.seenP (b : Bas w o H) {p : Addr} {ob : Obj} {xs : List V} (n : H p = none) (d : ob.dict = none) : SqP (hid (upd H p (.frz ob (.tup xs))) o) p xs := by
  have np : ¬ o p := fun h => b.hn p h n
  exact ⟨ob, by rw [hid_of np]; exact upd_same, d⟩
theorem Bas.seen (b : Bas w o H) {p : Addr} {u : HO} (n : H p = none) : hid (upd H p u) o p = some u := by
  have np : ¬ o p := fun h => b.hn p h n
  rw [hid_of np]
  exact upd_same
/-- an object of the def's own is laid -/
theorem Bas.newOwn (b : Bas w o H) {p : Addr} {u : HO} (n : H p = none) (hu : Hidn (some u) := by exact ⟨(fun z => nomatch z), (fun _ _ z => by unfold LamX.CodeO at z; cases z), (fun _ _ z => nomatch z)⟩) : Go w o H (fun a => o a ∨ a = p) (upd H p u) := by
  have off : ∀ a, o a → a ≠ p := fun a h e => b.hn a h (e ▸ n)
  have sm : Same (hid H o) (hid (upd H p u) fun a => o a ∨ a = p) := by
    intro a y e
    obtain ⟨na, e⟩ := hid_some e
    have nap : a ≠ p := ne_of_none e n
    rw [hid_of (fun z => z.elim na nap), upd_ne nap]
    exact e
  refine ⟨sm, fun _ h => .inl h, fun a h _ => upd_ne (off a h), fun c e => ?_, ?_, fun a h => ?_⟩
  · obtain ⟨c1, c2⟩ := b.bag c e
    exact c2.go sm (upd_ne (off c c2.1)) (.inl c2.1)
  · exact b.tab.2.go sm (fun q hq => upd_ne (off q.1 (b.tab.2 q hq).1)) fun q hq => .inl (b.tab.2 q hq).1
  · by_cases e : a = p
    · rw [e, upd_same]
      exact hu
    · rw [upd_ne e]
      exact b.here a (h.elim id fun z => absurd z e)
end

/-! ### the judgements -/
def E (w : Wd) (te : TE) (ρ : List Sl) (P : Sl → Prop) : Prop := ∀ (o : Addr → Prop) (σ : L2.St) (H : Hp) (Q : VK), Ok w o σ H ρ →
  (∀ o' H' v x, Go w o H o' H' → VR w o' H' v x → P x → Q v H') → te σ H Q
def T (w : Wd) (tt : TT) (ρ : List Sl) (P : Bool → Prop) : Prop := ∀ (o : Addr → Prop) (σ : L2.St) (H : Hp) (Q : Bool → Hp → Prop), Ok w o σ H ρ →
  (∀ o' H' b, Go w o H o' H' → P b → Q b H') → tt σ H Q
inductive VRs (w : Wd) (o : Addr → Prop) (H : Hp) : List V → List Sl → Prop
  | nil : VRs w o H [] []
  | cons {v : V} {x : Sl} {vs : List V} {xs : List Sl} : VR w o H v x → VRs w o H vs xs → VRs w o H (v :: vs) (x :: xs)
def A (w : Wd) (ta : TA) (ρ : List Sl) (P : List Sl → Prop) : Prop := ∀ (o : Addr → Prop) (σ : L2.St) (H : Hp) (Q : List V → Hp → Prop), Ok w o σ H ρ →
  (∀ o' H' vs xs, Go w o H o' H' → VRs w o' H' vs xs → P xs → Q vs H') → ta σ H Q
structure En where
  nx : List Sl → Prop
  rt : PyData → Prop
  bk : List Sl → Prop := fun _ => False
  ct : List Sl → Prop := fun _ => False
def S (w : Wd) (ts : TS) (ρ : List Sl) (e : En) : Prop := ∀ (o : Addr → Prop) (σ : L2.St) (H : Hp) (D : Ends), Ok w o σ H ρ →
  (∀ o' σ' H' ρ', Ok w o' σ' H' ρ' → e.nx ρ' → D.nx σ' H') →
  (∀ o' H' v d, Bas w o' H' → Dd w.K (hid H' o') v d → e.rt d → D.rt v H') →
  (∀ o' σ' H' ρ', Ok w o' σ' H' ρ' → e.bk ρ' → D.bk σ' H') →
  (∀ o' σ' H' ρ', Ok w o' σ' H' ρ' → e.ct ρ' → D.ct σ' H') → ts D σ H

section
variable {w : Wd} {ρ : List Sl} {P : Sl → Prop} {te ta tb tc : TE} {tt tu : TT} {tr : TA} {ts t1 t2 : TS} {e : En} {d : PyData}

theorem VRs.go {o o1 : Addr → Prop} {H H1 : Hp} (b : Bas w o H) (g : Go w o H o1 H1) : ∀ {vs : List V} {xs : List Sl}, VRs w o H vs xs → VRs w o1 H1 vs xs
  | _, _, .nil => .nil
  | _, _, .cons r t => .cons (r.go b g) (VRs.go b g t)
theorem VRs.dats {o : Addr → Prop} {H : Hp} : ∀ {vs : List V} {ds : List PyData}, VRs w o H vs (ds.map Sl.dat) → DdAll w.K (hid H o) vs ds
  | _, [], h => by cases h; exact .nil
  | _, d :: ds, h => by
    cases h with
    | cons r t => exact .cons r (VRs.dats t)

/-! ### expressions -/
theorem E.mono {P' : Sl → Prop} (h : E w te ρ P) (q : ∀ x, P x → P' x) : E w te ρ P' := fun o σ H Q ok k => h o σ H Q ok fun o' H' v x g r p => k o' H' v x g r (q x p)
theorem e_var {i : Nat} {x : Sl} (h : ρ[i]? = some x) (hx : x ≠ .no) (q : P x) : E w (tVar i) ρ P := by
  intro o σ H Q ok k
  rcases ok.slot i x h with z | ⟨v, hv, r⟩
  · exact absurd z hx
  · exact ⟨v, hv, k o H v x ok.toBas.refl r q⟩
theorem e_non (q : P (.dat .none)) : E w (tC .non) ρ P := fun o σ H Q ok k => k o H _ _ ok.toBas.refl (VR.dat Dd.non) q
theorem e_bl {b : Bool} (q : P (.dat (.bool b))) : E w (tC (.bl b)) ρ P := fun o σ H Q ok k => k o H _ _ ok.toBas.refl (VR.dat (Dd.bl b)) q
theorem e_int {i : Int} (q : P (.dat (.int i))) : E w (tC (.int i)) ρ P := fun o σ H Q ok k => k o H _ _ ok.toBas.refl (VR.dat (Dd.int i)) q
theorem e_str {z : Str} (q : P (.dat (.str z))) : E w (tC (.str z)) ρ P := fun o σ H Q ok k => k o H _ _ ok.toBas.refl (VR.dat (Dd.str z)) q

/-- what an operation on two values does with data -/
def Op2 (w : Wd) (r : R2) (R : Sl → Sl → (Sl → Prop) → Prop) : Prop := ∀ (o : Addr → Prop) (H : Hp) (u v : V) (x y : Sl) (P : Sl → Prop) (Q : VK), Bas w o H → VR w o H u x → VR w o H v y → R x y P →
  (∀ o' H' z d, Go w o H o' H' → VR w o' H' z d → P d → Q z H') → r u v H Q
theorem e_op {r : R2} {R : Sl → Sl → (Sl → Prop) → Prop} (hr : Op2 w r R) (h : E w ta ρ fun x => E w tb ρ fun y => R x y P) : E w (tOp r ta tb) ρ P := by
  intro o σ H Q ok k
  refine h o σ H _ ok ?_
  intro o1 H1 v x g1 r1 q1
  refine q1 o1 σ H1 _ (ok.go g1) ?_
  intro o2 H2 u y g2 r2 q2
  exact hr o2 H2 v u x y P Q (ok.go (g1.trans g2)).toBas (r1.go (ok.go g1).toBas g2) r2 q2 fun o' H' z d g r p => k o' H' z d ((g1.trans g2).trans g) r p
theorem op2_I0 {f : Int → Int → Int} : Op2 w (rI0 fun i j => .int (f i j)) (fun x y P => ∃ i j, x = .dat (.int i) ∧ y = .dat (.int j) ∧ P (.dat (.int (f i j)))) := by
  rintro o H u v x y P Q b ru rv ⟨i, j, rfl, rfl, q⟩ k
  cases ru
  cases rv
  exact ⟨i, j, rfl, rfl, k o H _ _ b.refl (VR.dat (Dd.int _)) q⟩
theorem op2_B0 {f : Int → Int → Bool} : Op2 w (rI0 fun i j => .bl (f i j)) (fun x y P => ∃ i j, x = .dat (.int i) ∧ y = .dat (.int j) ∧ P (.dat (.bool (f i j)))) := by
  rintro o H u v x y P Q b ru rv ⟨i, j, rfl, rfl, q⟩ k
  cases ru
  cases rv
  exact ⟨i, j, rfl, rfl, k o H _ _ b.refl (VR.dat (Dd.bl _)) q⟩
theorem op2_I {C : Int → Int → Prop} {f : Int → Int → Int} : Op2 w (rI C fun i j => .int (f i j)) (fun x y P => ∃ i j, x = .dat (.int i) ∧ y = .dat (.int j) ∧ C i j ∧ P (.dat (.int (f i j)))) := by
  rintro o H u v x y P Q b ru rv ⟨i, j, rfl, rfl, c, q⟩ k
  cases ru
  cases rv
  exact ⟨i, j, rfl, rfl, c, k o H _ _ b.refl (VR.dat (Dd.int _)) q⟩
theorem op2_eqD : Op2 w (rEqE w.K) (fun x y P => ∃ d e, x = .dat d ∧ y = .dat e ∧ SeqAt.shaped d = true ∧ SeqAt.shaped e = true ∧ P (.dat (.bool (PyData.eqv d e)))) := by
  rintro o H u v x y P Q b ru rv ⟨d, e, rfl, rfl, s1, s2, q⟩ k
  exact ⟨d, e, dp_mono hid_le d u ru, dp_mono hid_le e v rv, s1, s2, k o H _ _ b.refl (VR.dat (Dd.bl _)) q⟩
theorem op2_neD : Op2 w (rNeE w.K) (fun x y P => ∃ d e, x = .dat d ∧ y = .dat e ∧ SeqAt.shaped d = true ∧ SeqAt.shaped e = true ∧ P (.dat (.bool (!PyData.eqv d e)))) := by
  rintro o H u v x y P Q b ru rv ⟨d, e, rfl, rfl, s1, s2, q⟩ k
  exact ⟨d, e, dp_mono hid_le d u ru, dp_mono hid_le e v rv, s1, s2, k o H _ _ b.refl (VR.dat (Dd.bl _)) q⟩
def rAddS2 : R2 := fun x y H Q => ∃ i j, x = .str i ∧ y = .str j ∧ i.length + j.length ≤ sizeLine ∧ Q (.str (i ++ j)) H
theorem op2_addS : Op2 w rAddS2 (fun x y P => ∃ i j : Str, x = .dat (.str i) ∧ y = .dat (.str j) ∧ i.length + j.length ≤ sizeLine ∧ P (.dat (.str (i ++ j)))) := by
  rintro o H u v x y P Q b ru rv ⟨i, j, rfl, rfl, c, q⟩ k
  cases ru
  cases rv
  exact ⟨i, j, rfl, rfl, c, k o H _ _ b.refl (VR.dat (Dd.str _)) q⟩
/-- one value or the other kind -/
def orR (r1 r2 : R2) : R2 := fun x y H Q => r1 x y H Q ∨ r2 x y H Q
theorem opr_or {X : Cx} {f : Value → Value → Sem Value} {r1 r2 : R2} (h1 : OpR X f r1) (h2 : OpR X f r2) : OpR X f (orR r1 r2) := by
  intro pins s σ H x y u v Q I rx ry h
  rcases h with h | h
  · exact h1 pins s σ H x y u v Q I rx ry h
  · exact h2 pins s σ H x y u v Q I rx ry h
theorem op2_or {r1 r2 : R2} {R1 R2 : Sl → Sl → (Sl → Prop) → Prop} (h1 : Op2 w r1 R1) (h2 : Op2 w r2 R2) : Op2 w (orR r1 r2) (fun x y P => R1 x y P ∨ R2 x y P) := by
  intro o H u v x y P Q b ru rv h k
  rcases h with h | h
  · exact .inl (h1 o H u v x y P Q b ru rv h k)
  · exact .inr (h2 o H u v x y P Q b ru rv h k)
/-- an item -/
def ixD (x : Sl) (i : Int) : Option PyData := match x with
  | .dat (.list ds) => atI ds i
  | .dat (.tuple ds) => atI ds i
  | .own _ ds => atI ds i
  | .dat (.str z) => if z.length ≤ sizeLine then (atI z.cps.toList i).map fun c => .str ⟨#[c]⟩ else none
  | _ => none
theorem atI_dp {K : PySem.W.Frag} {H : Hp} {vs : List V} {ds : List PyData} {i : Int} {d : PyData} (h : DdAll K H vs ds) (e : atI ds i = some d) : ∃ v, atI vs i = some v ∧ Dd K H v d := by
  unfold atI at e ⊢
  rw [DdAll.len h]
  cases q : ixN ds.length i with
  | none =>
    rw [q] at e
    cases e
  | some j =>
    rw [q] at e
    exact DdAll.get h e
theorem op2_ix : Op2 w (rIx w.K) (fun x y P => ∃ i d, y = .dat (.int i) ∧ ixD x i = some d ∧ P (.dat d)) := by
  rintro o H u v x y P Q b ru rv ⟨i, d, rfl, he, q⟩ k
  cases rv
  cases x with
  | no => cases he
  | bag => cases he
  | ownD _ _ => cases he
  | fn _ _ _ => cases he
  | own p xs =>
    obtain ⟨rfl, hp, n, vs, hv, ha⟩ := ru
    obtain ⟨z, hz, rz⟩ := atI_dp ha he
    exact .inl ⟨p, vs, i, z, rfl, rfl, .inl (.inl hv), hz, k o H z _ b.refl (VR.dat rz) q⟩
  | dat c =>
    cases c with
    | list ds =>
      cases ru with
      | lst hs ha =>
        obtain ⟨z, hz, rz⟩ := atI_dp ha he
        exact .inl ⟨_, _, i, z, rfl, rfl, hid_le.seq hs, hz, k o H z _ b.refl (VR.dat rz) q⟩
    | tuple ds =>
      cases ru with
      | tup hs ha =>
        obtain ⟨z, hz, rz⟩ := atI_dp ha he
        exact .inr (.inl ⟨_, _, i, z, rfl, rfl, sqT_mono hid_le hs.t, hz, k o H z _ b.refl (VR.dat rz) q⟩)
    | str s =>
      cases ru
      have he : (if s.length ≤ sizeLine then (atI s.cps.toList i).map fun c => PyData.str ⟨#[c]⟩ else none) = some d := he
      by_cases hl : s.length ≤ sizeLine
      · rw [if_pos hl] at he
        cases hc : atI s.cps.toList i with
        | none =>
          rw [hc] at he
          cases he
        | some c =>
          rw [hc] at he
          cases he
          exact .inr (.inr ⟨s, i, c, rfl, rfl, hl, hc, k o H _ _ b.refl (VR.dat (Dd.str _)) q⟩)
      · rw [if_neg hl] at he
        cases he
    | none => cases he
    | bool _ => cases he
    | int _ => cases he
    | dict _ => cases he
theorem e_neg (h : E w ta ρ fun x => ∃ i, x = .dat (.int i) ∧ P (.dat (.int (-i)))) : E w (tUn (rU fun i => .int (-i)) ta) ρ P := by
  intro o σ H Q ok k
  refine h o σ H _ ok ?_
  rintro o1 H1 v x g1 r1 ⟨i, rfl, q⟩
  cases r1
  exact ⟨i, rfl, k o1 H1 _ _ g1 (VR.dat (Dd.int _)) q⟩
theorem e_if {P : Sl → Prop} (h : T w tt ρ fun b => if b = true then E w ta ρ P else E w tb ρ P) : E w (tIf tt ta tb) ρ P := by
  intro o σ H Q ok k
  refine h o σ H _ ok ?_
  intro o1 H1 b g1 q
  cases b with
  | true => exact q o1 σ H1 Q (ok.go g1) fun o' H' v x g r p => k o' H' v x (g1.trans g) r p
  | false => exact q o1 σ H1 Q (ok.go g1) fun o' H' v x g r p => k o' H' v x (g1.trans g) r p
theorem e_andV (h : E w ta ρ fun x => ∃ b, x = .dat (.bool b) ∧ if b = true then E w tb ρ P else P (.dat (.bool false))) : E w (tAndV ta tb) ρ P := by
  intro o σ H Q ok k
  refine h o σ H _ ok ?_
  rintro o1 H1 v x g1 r1 ⟨b, rfl, q⟩
  cases r1
  refine ⟨b, rfl, ?_⟩
  cases b with
  | true => exact q o1 σ H1 Q (ok.go g1) fun o' H' v x g r p => k o' H' v x (g1.trans g) r p
  | false => exact k o1 H1 _ _ g1 (VR.dat (Dd.bl _)) q
theorem e_orV (h : E w ta ρ fun x => ∃ b, x = .dat (.bool b) ∧ if b = true then P (.dat (.bool true)) else E w tb ρ P) : E w (tOrV ta tb) ρ P := by
  intro o σ H Q ok k
  refine h o σ H _ ok ?_
  rintro o1 H1 v x g1 r1 ⟨b, rfl, q⟩
  cases r1
  refine ⟨b, rfl, ?_⟩
  cases b with
  | true => exact k o1 H1 _ _ g1 (VR.dat (Dd.bl _)) q
  | false => exact q o1 σ H1 Q (ok.go g1) fun o' H' v x g r p => k o' H' v x (g1.trans g) r p
theorem e_notV (h : E w ta ρ fun x => ∃ b, x = .dat (.bool b) ∧ P (.dat (.bool (!b)))) : E w (tNotV ta) ρ P := by
  intro o σ H Q ok k
  refine h o σ H _ ok ?_
  rintro o1 H1 v x g1 r1 ⟨b, rfl, q⟩
  cases r1
  exact ⟨b, rfl, k o1 H1 _ _ g1 (VR.dat (Dd.bl _)) q⟩

/-! ### argument lists, displays -/
def undats : List Sl → Option (List PyData)
  | [] => some []
  | .dat d :: xs => match undats xs with
    | some ds => some (d :: ds)
    | none => none
  | _ :: _ => none
theorem undats_some : ∀ {xs : List Sl} {ds : List PyData}, undats xs = some ds → xs = ds.map Sl.dat
  | [], _, h => by cases h; rfl
  | .dat d :: xs, ds, h => by
    have h : (match undats xs with
      | some ds => some (d :: ds)
      | none => none) = some ds := h
    cases q : undats xs with
    | none =>
      rw [q] at h
      cases h
    | some es =>
      rw [q] at h
      cases h
      rw [undats_some q]
      rfl
  | .no :: _, _, h => by cases h
  | .own _ _ :: _, _, h => by cases h
  | .ownD _ _ :: _, _, h => by cases h
  | .fn _ _ _ :: _, _, h => by cases h
  | .bag :: _, _, h => by cases h
theorem a_nil {P : List Sl → Prop} (q : P []) : A w tNil ρ P := fun o σ H Q ok k => k o H [] [] ok.toBas.refl .nil q
theorem a_cons {P : List Sl → Prop} (h : E w te ρ fun x => A w tr ρ fun xs => P (x :: xs)) : A w (tCons te tr) ρ P := by
  intro o σ H Q ok k
  refine h o σ H _ ok ?_
  intro o1 H1 v x g1 r1 q1
  refine q1 o1 σ H1 _ (ok.go g1) ?_
  intro o2 H2 vs xs g2 r2 q2
  exact k o2 H2 (v :: vs) (x :: xs) (g1.trans g2) (.cons (r1.go (ok.go g1).toBas g2) r2) q2
theorem e_tup (h : A w tr ρ fun xs => ∃ ds, undats xs = some ds ∧ ds.length ≤ sizeLine ∧ P (.dat (.tuple ds))) : E w (tTupP tr) ρ P := by
  intro o σ H Q ok k
  refine h o σ H _ ok ?_
  rintro o1 H1 vs xs g1 r1 ⟨ds, hu, hl, q⟩
  have hu2 := undats_some hu
  subst hu2
  have ha := VRs.dats r1
  refine ⟨by rw [DdAll.len ha]; exact hl, fun p ob np nd => ?_⟩
  have b1 := ok.toBas.go g1
  have g2 := b1.new (u := .frz ob (.tup vs)) np
  exact k o1 _ _ _ (g1.trans g2) (VR.dat (Dd.tup (b1.seenP np nd) (dpAll_mono g2.same ds vs ha))) q
/-- a display of a list that is never changed -/
theorem e_lst (h : A w tr ρ fun xs => ∃ ds, undats xs = some ds ∧ ds.length ≤ sizeLine ∧ P (.dat (.list ds))) : E w (tLst tr) ρ P := by
  intro o σ H Q ok k
  refine h o σ H _ ok ?_
  rintro o1 H1 vs xs g1 r1 ⟨ds, hu, hl, q⟩
  have hu2 := undats_some hu
  subst hu2
  have ha := VRs.dats r1
  refine ⟨by rw [DdAll.len ha]; exact hl, fun p np => ?_⟩
  have b1 := ok.toBas.go g1
  have g2 := b1.new (u := .lst vs) np
  exact k o1 _ _ _ (g1.trans g2) (VR.dat (Dd.lst (.inl (.inl (b1.seen np))) (dpAll_mono g2.same ds vs ha))) q

/-- what a call upon values does with data -/
def Cl (w : Wd) (r : List V → Hp → VK → Prop) (R : List Sl → (Sl → Prop) → Prop) : Prop := ∀ (o : Addr → Prop) (H : Hp) (vs : List V) (xs : List Sl) (P : Sl → Prop) (Q : VK), Bas w o H → VRs w o H vs xs → R xs P →
  (∀ o' H' z d, Go w o H o' H' → VR w o' H' z d → P d → Q z H') → r vs H Q
theorem e_cb {r : List V → Hp → VK → Prop} {R : List Sl → (Sl → Prop) → Prop} (hr : Cl w r R) (h : A w tr ρ fun xs => R xs P) : E w (tCB r tr) ρ P := by
  intro o σ H Q ok k
  refine h o σ H _ ok ?_
  intro o1 H1 vs xs g1 r1 q1
  exact hr o1 H1 vs xs P Q (ok.toBas.go g1) r1 q1 fun o' H' z d g r p => k o' H' z d (g1.trans g) r p

/-! ### tests -/
theorem t_test {P : Bool → Prop} (h : E w te ρ fun x => ∃ b, x = .dat (.bool b) ∧ P b) : T w (tTest te) ρ P := by
  intro o σ H Q ok k
  refine h o σ H _ ok ?_
  rintro o1 H1 v x g1 r1 ⟨b, rfl, q⟩
  cases r1
  exact ⟨b, rfl, k o1 H1 b g1 q⟩
theorem t_B {P : Bool → Prop} (h : E w te ρ fun x => ∃ b, x = .dat (.bool b) ∧ P b) : T w (tB te) ρ P := by
  intro o σ H Q ok k
  refine h o σ H _ ok ?_
  rintro o1 H1 v x g1 r1 ⟨b, rfl, q⟩
  cases r1
  exact ⟨b, rfl, k o1 H1 b g1 q⟩
theorem t_and {P : Bool → Prop} (h : T w tt ρ fun b => if b = true then T w tu ρ P else P false) : T w (tAnd tt tu) ρ P := by
  intro o σ H Q ok k
  refine h o σ H _ ok ?_
  intro o1 H1 b g1 q
  cases b with
  | true => exact q o1 σ H1 Q (ok.go g1) fun o' H' b g p => k o' H' b (g1.trans g) p
  | false => exact k o1 H1 false g1 q
theorem t_or {P : Bool → Prop} (h : T w tt ρ fun b => if b = true then P true else T w tu ρ P) : T w (tOr tt tu) ρ P := by
  intro o σ H Q ok k
  refine h o σ H _ ok ?_
  intro o1 H1 b g1 q
  cases b with
  | true => exact k o1 H1 true g1 q
  | false => exact q o1 σ H1 Q (ok.go g1) fun o' H' b g p => k o' H' b (g1.trans g) p
theorem t_not {P : Bool → Prop} (h : T w tt ρ fun b => P (!b)) : T w (tNot tt) ρ P := by
  intro o σ H Q ok k
  refine h o σ H _ ok ?_
  intro o1 H1 b g1 q
  exact k o1 H1 (!b) g1 q
theorem t_yes {P : Bool → Prop} (q : P true) : T w tYes ρ P := fun o σ H Q ok k => k o H true ok.toBas.refl q

/-! ### statements -/
theorem s_next (q : e.nx ρ) : S w tNext ρ e := fun o σ H D ok kn kr kb kc => kn o σ H ρ ok q
theorem s_brk (q : e.bk ρ) : S w tBreak ρ e := fun o σ H D ok kn kr kb kc => kb o σ H ρ ok q
theorem s_cont (q : e.ct ρ) : S w tCont ρ e := fun o σ H D ok kn kr kb kc => kc o σ H ρ ok q
theorem s_seq (h : S w t1 ρ { e with nx := fun ρ' => S w t2 ρ' e }) : S w (tSeq t1 t2) ρ e := fun o σ H D ok kn kr kb kc =>
  h o σ H { D with nx := t2 D } ok (fun o' σ' H' ρ' ok' q => q o' σ' H' D ok' kn kr kb kc) kr kb kc
theorem s_if (h : T w tt ρ fun b => if b = true then S w t1 ρ e else S w t2 ρ e) : S w (tIfS tt t1 t2) ρ e := by
  intro o σ H D ok kn kr kb kc
  refine h o σ H _ ok ?_
  intro o1 H1 b g1 q
  cases b with
  | true => exact q o1 σ H1 D (ok.go g1) kn kr kb kc
  | false => exact q o1 σ H1 D (ok.go g1) kn kr kb kc
theorem s_ret (h : E w te ρ fun x => ∃ d, x = .dat d ∧ e.rt d) : S w (tRet te) ρ e := by
  intro o σ H D ok kn kr kb kc
  refine h o σ H _ ok ?_
  rintro o1 H1 v x g1 r1 ⟨d, rfl, q⟩
  exact kr o1 H1 v d (ok.toBas.go g1) r1 q
theorem s_retN (q : e.rt .none) : S w tRetN ρ e := fun o σ H D ok kn kr kb kc => kr o H .non .none ok.toBas Dd.non q
/-- a list of the def's own is handed out -/
theorem s_retOwn {i : Nat} {p : Addr} {xs : List PyData} (h : ρ[i]? = some (.own p xs)) (q : e.rt (.list xs)) : S w (tRet (tVar i)) ρ e := by
  intro o σ H D ok kn kr kb kc
  rcases ok.slot i _ h with z | ⟨v, hv, r⟩
  · cases z
  · obtain ⟨rfl, hp, n, vs, e1, ha⟩ := r
    refine ⟨_, hv, ?_⟩
    have less : ∀ a, (o a ∧ a ≠ p) → o a := fun a h => h.1
    have bs : Bas w (fun a => o a ∧ a ≠ p) H := by
      refine ⟨ok.grow.trans (hid_less less), fun a h => ⟨ok.sub a h, fun z => n (z ▸ h)⟩, ok.keep, fun b hb => ?_, ⟨ok.tab.1, ok.tab.2.go (hid_less less) (fun _ _ => rfl) fun q hq => ⟨(ok.tab.2 q hq).1, fun z => n (z ▸ ok.tab.1 q hq)⟩⟩, fun a h => ok.here a h.1⟩
      obtain ⟨b1, b2⟩ := ok.bag b hb
      exact ⟨b1, b2.go (hid_less less) rfl ⟨b2.1, fun z => n (z ▸ b1)⟩⟩
    refine kr _ H _ _ bs (Dd.lst (.inl (.inl ?_)) (dpAll_mono (hid_less less) xs vs ha)) q
    rw [hid_of (fun z => z.2 rfl)]
    exact e1
theorem s_drop (h : E w te ρ fun _ => e.nx ρ) : S w (tDrop te) ρ e := by
  intro o σ H D ok kn kr kb kc
  refine h o σ H _ ok ?_
  intro o1 H1 v x g1 r1 q
  exact kn o1 σ H1 ρ (ok.go g1) q

def notOwn : Sl → Prop
  | .own _ _ => False
  | .ownD _ _ => False
  | _ => True
theorem notOwn.adr {x : Sl} (h : notOwn x) : x.adr = none := by
  cases x with
  | own _ _ => exact h.elim
  | ownD _ _ => exact h.elim
  | _ => rfl
theorem Ok.set {o : Addr → Prop} {σ : L2.St} {H : Hp} {v : V} {x : Sl} (ok : Ok w o σ H ρ) (i : Nat) (r : VR w o H v x) (hx : ∀ p, x.adr = some p → ∀ j y q, j ≠ i → ρ[j]? = some y → y.adr = some q → p ≠ q) :
    Ok w o (σ.set i (some v)) H (ρ.set i x) := by
  refine ⟨ok.toBas, by rw [List.length_set, List.length_set]; exact ok.len, fun j y e => ?_, fun j k p q xs ys ne e1 e2 a1 a2 => ?_⟩
  · by_cases hj : i = j
    · subst hj
      have hl : i < (ρ.set i x).length := (List.getElem?_eq_some_iff.mp e).1
      rw [List.length_set] at hl
      rw [List.getElem?_set_self hl] at e
      cases e
      exact .inr ⟨v, List.getElem?_set_self (by rw [ok.len]; exact hl), r⟩
    · rw [List.getElem?_set_ne hj] at e
      rw [List.getElem?_set_ne hj]
      exact ok.slot j y e
  · by_cases hj : i = j
    · subst hj
      have hl : i < (ρ.set i x).length := (List.getElem?_eq_some_iff.mp e1).1
      rw [List.length_set] at hl
      rw [List.getElem?_set_self hl] at e1
      rw [List.getElem?_set_ne ne] at e2
      cases e1
      exact hx p a1 k ys q (Ne.symm ne) e2 a2
    · rw [List.getElem?_set_ne hj] at e1
      by_cases hk : i = k
      · subst hk
        have hl : i < (ρ.set i x).length := (List.getElem?_eq_some_iff.mp e2).1
        rw [List.length_set] at hl
        rw [List.getElem?_set_self hl] at e2
        cases e2
        exact (hx q a2 j xs p (Ne.symm hj) e1 a1).symm
      · rw [List.getElem?_set_ne hk] at e2
        exact ok.apart j k p q xs ys ne e1 e2 a1 a2
theorem Ok.setD {o : Addr → Prop} {σ : L2.St} {H : Hp} {v : V} {x : Sl} (ok : Ok w o σ H ρ) (i : Nat) (r : VR w o H v x) (hx : notOwn x) : Ok w o (σ.set i (some v)) H (ρ.set i x) :=
  ok.set i r fun p e => by rw [hx.adr] at e; cases e
/-- what a slot of an object that the def may change says of it -/
theorem Ok.adr {o : Addr → Prop} {σ : L2.St} {H : Hp} (ok : Ok w o σ H ρ) {j : Nat} {y : Sl} {q : Addr} (e : ρ[j]? = some y) (a : y.adr = some q) : o q := by
  rcases ok.slot j y e with z | ⟨u, hu, r⟩
  · subst z
    cases a
  · cases y with
    | own p xs =>
      cases a
      exact r.2.1
    | ownD p xs =>
      cases a
      exact r.2.1
    | no => cases a
    | dat _ => cases a
    | fn _ _ _ => cases a
    | bag => cases a
/-- x = e -/
theorem s_set {i : Nat} (h : E w te ρ fun x => notOwn x ∧ e.nx (ρ.set i x)) : S w (tAsg te (gName i)) ρ e := by
  intro o σ H D ok kn kr kb kc
  refine h o σ H _ ok ?_
  rintro o1 H1 v x g1 r1 ⟨n, q⟩
  exact kn o1 _ H1 _ ((ok.go g1).setD i r1 n) q
/-- x = [..], a list that will be changed -/
theorem s_setOwn {i : Nat} (h : A w tr ρ fun xs => ∃ ds, undats xs = some ds ∧ ds.length ≤ sizeLine ∧ ∀ p, e.nx (ρ.set i (.own p ds))) : S w (tAsg (tLst tr) (gName i)) ρ e := by
  intro o σ H D ok kn kr kb kc
  refine h o σ H _ ok ?_
  rintro o1 H1 vs xs g1 r1 ⟨ds, hu, hl, q⟩
  have hu2 := undats_some hu
  subst hu2
  have ha := VRs.dats r1
  refine ⟨by rw [DdAll.len ha]; exact hl, fun p np => ?_⟩
  have ok1 := ok.go g1
  have g2 := ok1.toBas.newOwn (u := .lst vs) np
  have ok2 := ok1.go g2
  refine kn _ _ _ _ (ok2.set i (x := .own p ds) ⟨rfl, .inr rfl, fun z => ?_, vs, upd_same, dpAll_mono g2.same ds vs ha⟩ ?_) (q p)
  · exact ok1.hn p (ok1.sub p z) np
  · intro p' e' j y' q' nj ej a'
    cases e'
    intro z
    subst z
    exact ok1.hn _ (ok1.adr ej a') np
/-- x op= e, ints -/
theorem s_aug {i : Nat} {f : Int → Int → Int} {a : Int} (hx : ρ[i]? = some (.dat (.int a))) (h : E w te ρ fun y => ∃ b, y = .dat (.int b) ∧ e.nx (ρ.set i (.dat (.int (f a b))))) : S w (tAug i te (ipI f)) ρ e := by
  intro o σ H D ok kn kr kb kc
  rcases ok.slot i _ hx with z | ⟨v, hv, r⟩
  · cases z
  · cases r
    refine ⟨_, hv, ?_⟩
    refine h o σ H _ ok ?_
    rintro o1 H1 u y g1 r1 ⟨b, rfl, q⟩
    cases r1
    exact ⟨a, b, rfl, rfl, kn o1 _ H1 _ ((ok.go g1).setD i (x := .dat (.int (f a b))) (Dd.int _) trivial) q⟩
/-- x, y = a, b -/
theorem s_par {i j : Nat} (h : A w tr ρ fun xs => ∃ x y, xs = [x, y] ∧ notOwn x ∧ notOwn y ∧ e.nx ((ρ.set i x).set j y)) : S w (tPar i j tr) ρ e := by
  intro o σ H D ok kn kr kb kc
  refine h o σ H _ ok ?_
  rintro o1 H1 vs xs g1 r1 ⟨x, y, rfl, n1, n2, q⟩
  cases r1 with
  | cons ra rt =>
    cases rt with
    | cons rb rt =>
      cases rt
      exact ⟨_, _, rfl, kn o1 _ H1 _ (((ok.go g1).setD i ra n1).setD j rb n2) q⟩
/-- x, y = e -/
theorem s_set2 {i j m : Nat} (hm : m = 2) (h : E w te ρ fun x => ∃ d1 d2, x = .dat (.tuple [d1, d2]) ∧ e.nx ((ρ.set i (.dat d1)).set j (.dat d2))) : S w (tAsg te (gTup w.K m (gCons (gName i) (gCons (gName j) gNil)))) ρ e := by
  subst hm
  intro o σ H D ok kn kr kb kc
  refine h o σ H _ ok ?_
  rintro o1 H1 v x g1 r1 ⟨d1, d2, rfl, q⟩
  cases r1 with
  | tup hs ha =>
    cases ha with
    | cons ra rt =>
      cases rt with
      | cons rb rt =>
        cases rt
        refine ⟨_, _, rfl, sqT_mono hid_le hs.t, rfl, _, _, rfl, _, _, rfl, rfl, ?_⟩
        exact kn o1 _ H1 _ (((ok.go g1).setD i (x := .dat d1) ra trivial).setD j (x := .dat d2) rb trivial) q
/-- a list of the def's own is changed -/
theorem Ok.put {o : Addr → Prop} {σ : L2.St} {H : Hp} {i : Nat} {p : Addr} {xs ys : List PyData} {vs : List V} (ok : Ok w o σ H ρ) (h : ρ[i]? = some (.own p xs)) (ha : DdAll w.K (hid H o) vs ys) :
    Ok w o σ (upd H p (.lst vs)) (ρ.set i (.own p ys)) := by
  rcases ok.slot i _ h with z | ⟨v, hv, rfl, hp, n, us, e1, ha0⟩
  · cases z
  · have eq : hid (upd H p (.lst vs)) o = hid H o := by
      funext a
      unfold hid
      split
      · rfl
      · rename_i na
        exact upd_ne fun z => na (z ▸ hp)
    have off : ∀ a, w.own0 a → a ≠ p := fun a h z => n (z ▸ h)
    refine ⟨⟨by rw [eq]; exact ok.grow, ok.sub, fun a h nb => (upd_ne (off a h)).trans (ok.keep a h nb), fun b hb => ?_, ⟨ok.tab.1, ?_⟩, fun a h => ?_⟩, ?_, fun j y e => ?_, fun j k p1 q1 xs1 ys1 ne f1 f2 a1 a2 => ?_⟩
    · obtain ⟨b1, b2⟩ := ok.bag b hb
      exact ⟨b1, b2.go (by rw [eq]; exact Same.refl _) (upd_ne (off b b1)) b2.1⟩
    · exact ok.tab.2.go (by rw [eq]; exact Same.refl _) (fun q hq => upd_ne (off q.1 (ok.tab.1 q hq))) fun q hq => (ok.tab.2 q hq).1
    · by_cases z : a = p
      · rw [z, upd_same]
        exact hidn_lst
      · rw [upd_ne z]
        exact ok.here a h
    · rw [List.length_set]
      exact ok.len
    · by_cases hj : i = j
      · subst hj
        have hl : i < (ρ.set i (.own p ys)).length := (List.getElem?_eq_some_iff.mp e).1
        rw [List.length_set] at hl
        rw [List.getElem?_set_self hl] at e
        cases e
        exact .inr ⟨_, hv, rfl, hp, n, vs, upd_same, by rw [eq]; exact ha⟩
      · rw [List.getElem?_set_ne hj] at e
        refine (ok.slot j y e).imp id fun ⟨u, hu, r⟩ => ⟨u, hu, ?_⟩
        cases y with
        | no => trivial
        | bag => exact r
        | dat d =>
          show Dd w.K (hid (upd H p (.lst vs)) o) u d
          rw [eq]
          exact r
        | fn ob cc cs =>
          obtain ⟨f, e2, e3, ec, e4⟩ := r
          refine ⟨f, e2, ?_, ?_, fun p hp => ?_⟩
          · rw [eq]
            exact e3
          · rw [eq]
            exact ec
          · rw [eq]
            exact e4 p hp
        | ownD q zs =>
          obtain ⟨e2, hq, nq, us2, e3, ha3⟩ := r
          refine ⟨e2, hq, nq, us2, (upd_ne (fun z => ok.apart i j p q _ _ hj h e rfl rfl z.symm)).trans e3, ?_⟩
          rw [eq]
          exact ha3
        | own q zs =>
          obtain ⟨e2, hq, nq, us2, e3, ha3⟩ := r
          refine ⟨e2, hq, nq, us2, (upd_ne (fun z => ok.apart i j p q _ _ hj h e rfl rfl z.symm)).trans e3, ?_⟩
          rw [eq]
          exact ha3
    · have back : ∀ (m : Nat) (q : Addr) (z : Sl), (ρ.set i (.own p ys))[m]? = some z → z.adr = some q → ∃ z', ρ[m]? = some z' ∧ z'.adr = some q := by
        intro m q z f a
        by_cases hm : i = m
        · subst hm
          have hl : i < (ρ.set i (.own p ys)).length := (List.getElem?_eq_some_iff.mp f).1
          rw [List.length_set] at hl
          rw [List.getElem?_set_self hl] at f
          cases f
          exact ⟨_, h, a⟩
        · rw [List.getElem?_set_ne hm] at f
          exact ⟨z, f, a⟩
      obtain ⟨z1, g1, c1⟩ := back j p1 xs1 f1 a1
      obtain ⟨z2, g2, c2⟩ := back k q1 ys1 f2 a2
      exact ok.apart j k p1 q1 z1 z2 ne g1 g2 c1 c2
theorem s_app {i : Nat} {p : Addr} {xs : List PyData} (hx : ρ[i]? = some (.own p xs)) (hz : xs.length < sizeLine) (h : E w te ρ fun y => ∃ d, y = .dat d ∧ e.nx (ρ.set i (.own p (xs ++ [d])))) :
    S w (tDrop (tBM w.K "list" rAppend (tVar i) (tCons te tNil))) ρ e := by
  intro o σ H D ok kn kr kb kc
  rcases ok.slot i _ hx with z | ⟨v, hv, r⟩
  · cases z
  · obtain ⟨rfl, hp, n, vs, e1, ha⟩ := id r
    refine ⟨_, hv, .inl ⟨rfl, vs, .inl (.inl e1)⟩, ?_⟩
    refine h o σ H _ ok ?_
    rintro o1 H1 u y g1 r1 ⟨d, rfl, q⟩
    have e2 : H1 p = some (.lst vs) := (g1.keep p hp (ok.toBas.nb n)).trans e1
    refine ⟨p, vs, u, rfl, rfl, e2, by rw [DdAll.len ha]; exact hz, ?_⟩
    exact kn o1 σ _ _ ((ok.go g1).put hx (DdAll.app (dpAll_mono g1.same xs vs ha) (.cons r1 .nil))) q

theorem S.cut {M : List Sl → Prop} (h : S w ts ρ { e with nx := M }) (k : ∀ ρ', M ρ' → e.nx ρ') : S w ts ρ e := fun o σ H D ok kn kr kb kc =>
  h o σ H D ok (fun o' σ' H' ρ' ok' m => kn o' σ' H' ρ' ok' (k ρ' m)) kr kb kc
/-! ### loops -/
theorem s_while (I : Nat → List Sl → Prop) {m0 : Nat} (h0 : I m0 ρ) (h : ∀ m ρ', I m ρ' → T w tt ρ' fun b => if b = true then S w ts ρ' { e with nx := fun r => ∃ m', m' < m ∧ I m' r, ct := fun r => ∃ m', m' < m ∧ I m' r, bk := e.nx } else e.nx ρ') :
    S w (tWhile tt ts) ρ e := by
  intro o σ H D ok kn kr kb kc
  refine ⟨fun m σ' H' => ∃ o' ρ', Ok w o' σ' H' ρ' ∧ I m ρ', ⟨m0, o, ρ, ok, h0⟩, ?_⟩
  rintro m σ1 H1 ⟨o1, ρ1, ok1, i1⟩
  refine h m ρ1 i1 o1 σ1 H1 _ ok1 ?_
  intro o2 H2 b g2 q
  cases b with
  | false => exact kn o2 σ1 H2 ρ1 (ok1.go g2) q
  | true =>
    refine ⟨fun σ' H' => ∃ o' ρ', Ok w o' σ' H' ρ' ∧ ∃ m', m' < m ∧ I m' ρ', fun σ' H' ⟨o', ρ', a, m', b, c⟩ => ⟨m', b, o', ρ', a, c⟩, ?_⟩
    exact q o2 σ1 H2 _ (ok1.go g2) (fun o' σ' H' ρ' a b => ⟨o', ρ', a, b⟩) kr (fun o' σ' H' ρ' a b => kn o' σ' H' ρ' a b) (fun o' σ' H' ρ' a b => ⟨o', ρ', a, b⟩)
theorem s_forR {lo : Int} {n j : Nat} {wi : TI} (I : Nat → List Sl → Prop) (hw : ∀ (o : Addr → Prop) (σ : L2.St) (H : Hp) (R : It → Hp → Prop), Ok w o σ H ρ → (∀ o' H', Go w o H o' H' → R (Itr lo n) H') → wi σ H R)
    (h0 : I 0 ρ) (h : ∀ i ρ', i < n → I i ρ' → S w ts (ρ'.set j (.dat (.int (lo + i)))) { e with nx := I (i + 1), ct := I (i + 1), bk := e.nx }) (hd : ∀ ρ', I n ρ' → e.nx ρ') : S w (tFor wi (gName j) ts) ρ e := by
  intro o σ H D ok kn kr kb kc
  refine hw o σ H _ ok ?_
  intro o1 H1 g1
  refine for_range (lo := lo) (n := n) (fun i σ' H' => ∃ o' ρ', Ok w o' σ' H' ρ' ∧ I i ρ') ⟨o1, ρ, ok.go g1, h0⟩ ?_ ?_
  · rintro i σ2 H2 hi ⟨o2, ρ2, ok2, i2⟩
    exact h i ρ2 hi i2 o2 _ H2 _ (ok2.setD j (x := .dat (.int (lo + i))) (Dd.int _) trivial) (fun o' σ' H' ρ' a b => ⟨o', ρ', a, b⟩) kr (fun o' σ' H' ρ' a b => kn o' σ' H' ρ' a b) (fun o' σ' H' ρ' a b => ⟨o', ρ', a, b⟩)
  · rintro σ2 H2 ⟨o2, ρ2, ok2, i2⟩
    exact kn o2 σ2 H2 ρ2 ok2 (hd ρ2 i2)
theorem s_forR1 {j : Nat} (h : A w tr ρ fun xs => ∃ n : Int, xs = [.dat (.int n)] ∧ (-(2 ^ 62) ≤ n ∧ n < 2 ^ 62) ∧ ∃ I : Nat → List Sl → Prop, I 0 ρ ∧
    (∀ (i : Nat) ρ', (i : Int) < n → I i ρ' → S w ts (ρ'.set j (.dat (.int (i : Int)))) { e with nx := I (i + 1), ct := I (i + 1), bk := e.nx }) ∧ ∀ ρ', I n.toNat ρ' → e.nx ρ') : S w (tFor (iRng1 tr) (gName j) ts) ρ e := by
  intro o σ H D ok kn kr kb kc
  refine h o σ H _ ok ?_
  rintro o1 H1 vs xs g1 r1 ⟨n, rfl, hn, I, h0, hs, hd⟩
  cases r1 with
  | cons ra rt =>
    cases rt
    cases ra
    refine ⟨n, rfl, hn.1, hn.2, ?_⟩
    refine for_range (lo := 0) (n := n.toNat) (fun i σ' H' => ∃ o' ρ', Ok w o' σ' H' ρ' ∧ I i ρ') ⟨o1, ρ, ok.go g1, h0⟩ ?_ ?_
    · rintro i σ2 H2 hi ⟨o2, ρ2, ok2, i2⟩
      have ez : (0 : Int) + (i : Int) = (i : Int) := Int.zero_add _
      show ts _ (σ2.set j (some (.int ((0 : Int) + (i : Int))))) H2
      rw [ez]
      exact hs i ρ2 (by omega) i2 o2 _ H2 _ (ok2.setD j (x := .dat (.int (i : Int))) (Dd.int _) trivial) (fun o' σ' H' ρ' a b => ⟨o', ρ', a, b⟩) kr (fun o' σ' H' ρ' a b => kn o' σ' H' ρ' a b) (fun o' σ' H' ρ' a b => ⟨o', ρ', a, b⟩)
    · rintro σ2 H2 ⟨o2, ρ2, ok2, i2⟩
      exact kn o2 σ2 H2 ρ2 ok2 (hd ρ2 i2)
end
end DL

/-! Defs over data, and the operations that a text needs. -/
namespace DL
open PySem PySem.Spec PyProof.Rows L2

/-! ### defs -/
/-- what a def does with data: given these, what its answer satisfies -/
abbrev Gs := List Sl → (PyData → Prop) → Prop
def spG (K : PySem.W.Frag) (tb : List (Addr × Str)) (G : Gs) : Sp := fun vs H Q _ => ∃ (bg : Option Addr) (o : Addr → Prop) (xs : List Sl) (P : PyData → Prop),
  (∀ a, o a → Hidn (H a)) ∧ (∀ b, bg = some b → BagAt K H o b) ∧ TbAt tb H o ∧ VRs ⟨K, H, o, bg, tb⟩ o H vs xs ∧ G xs P ∧
  ∀ o' H' v d, Bas ⟨K, H, o, bg, tb⟩ o' H' → Dd K (hid H' o') v d → P d → Q v H'

theorem VRs.len {w : Wd} {o : Addr → Prop} {H : Hp} : ∀ {vs : List V} {xs : List Sl}, VRs w o H vs xs → vs.length = xs.length
  | _, _, .nil => rfl
  | _, _, .cons _ t => by rw [List.length_cons, List.length_cons, VRs.len t]
theorem VRs.get {w : Wd} {o : Addr → Prop} {H : Hp} : ∀ {vs : List V} {xs : List Sl} {i : Nat} {x : Sl}, VRs w o H vs xs → xs[i]? = some x → ∃ v, vs[i]? = some v ∧ VR w o H v x
  | _, _, _, _, .nil, e => by cases e
  | v :: _, _, 0, _, .cons r _, e => by cases e; exact ⟨v, rfl, r⟩
  | _ :: vs, _ :: xs, i + 1, x, .cons _ t, e => VRs.get (vs := vs) (xs := xs) (i := i) t (by simpa using e)

theorem ok_start {K : PySem.W.Frag} {H : Hp} {o : Addr → Prop} {bg : Option Addr} {tb : List (Addr × Str)} {N : List Str} {vs : List V} {xs : List Sl} {m : Nat}
    (h1 : ∀ a, o a → Hidn (H a)) (h2 : ∀ b, bg = some b → BagAt K H o b) (h2t : TbAt tb H o) (h3 : VRs ⟨K, H, o, bg, tb⟩ o H vs xs) (hm : m = N.length - vs.length) :
    Ok ⟨K, H, o, bg, tb⟩ o (L2.start N vs) H (xs ++ List.replicate m .no) := by
  have hl := h3.len
  refine ⟨⟨Same.refl _, fun _ h => h, fun _ _ _ => rfl, fun b e => ⟨(h2 b e).1, h2 b e⟩, ⟨fun p hp => (h2t p hp).1, h2t⟩, h1⟩, ?_, fun i x e => ?_, fun i j p q ys zs ne e1 e2 a1 a2 => ?_⟩
  · unfold L2.start
    rw [List.length_append, List.length_append, List.length_map, List.length_replicate, List.length_replicate, hl, hm]
    omega
  · by_cases hi : i < xs.length
    · rw [List.getElem?_append_left hi] at e
      obtain ⟨v, hv, r⟩ := h3.get e
      refine .inr ⟨v, ?_, r⟩
      unfold L2.start
      rw [List.getElem?_append_left (by rw [List.length_map]; omega), List.getElem?_map, hv]
      rfl
    · rw [List.getElem?_append_right (by omega), List.getElem?_replicate] at e
      split at e
      · cases e
        exact .inl rfl
      · cases e
  · have no : ∀ (k : Nat) (a : Addr) (y : Sl), (xs ++ List.replicate m Sl.no)[k]? = some y → y.adr = some a → False := by
      intro k a y f z
      by_cases hk : k < xs.length
      · rw [List.getElem?_append_left hk] at f
        obtain ⟨v, hv, r⟩ := h3.get f
        cases y with
        | own b us => exact r.2.2.1 r.2.1
        | ownD b us => exact r.2.2.1 r.2.1
        | no => cases z
        | dat _ => cases z
        | fn _ _ _ => cases z
        | bag => cases z
      · rw [List.getElem?_append_right (by omega), List.getElem?_replicate] at f
        split at f
        · cases f
          cases z
        · cases f
    exact (no i p ys e1 a1).elim

section
variable {P : Program} {w : World} {K : PySem.W.Frag} {mg : Str → Option Value} {bs : Heap}
/-- a def by its body's term, told over data -/
theorem fnD {n : Nat} {x q : Str} {st : Stmt} {f : Addr} {fd : FuncData} {N ps : List Str} {tb : List (Addr × Str)} {G : Gs}
    (F : Fun K x q st f fd) (Sc : FnScope N ps (defScope st)) (len : ∀ xs R, G xs R → xs.length = ps.length)
    (body : ∀ (cd : Value) (A : Around) (out : List Env) (s : Shared) (H : Hp) (E : XK), fd.code = cd → A.guards = some [] →
      Room n (A.deeper (envOfC q (defScope st) s.heap.objs.size f cd)) →
      ∃ t, PSs (cxOf CX0 P w K mg bs N q (defScope st) f cd A out s H E).nox (defBody st) t ∧
        ∀ (H0 : Hp) (own0 : Addr → Prop) (bg : Option Addr) (xs : List Sl) (R : PyData → Prop), G xs R →
          S ⟨K, H0, own0, bg, tb⟩ t (xs ++ List.replicate (N.length - ps.length) .no) { nx := fun _ => R .none, rt := R }) :
    FnG P w K mg bs (n + 1) f fd ps (spG K tb G) := by
  refine fnG F Sc (fun vs H Q E h => ?_) fun cd A out s H vs Q E hcd hg hr h => ?_
  · obtain ⟨bg, o, xs, R, h1, h2, h2t, h3, h4, h5⟩ := h
    rw [h3.len]
    exact len xs R h4
  · obtain ⟨bg, o, xs, R, h1, h2, h2t, h3, h4, h5⟩ := h
    obtain ⟨t, ht, hb⟩ := body cd A out s H E hcd hg hr
    refine ⟨t, ht, ?_⟩
    have hl : vs.length = ps.length := by
      rw [h3.len]
      exact len xs R h4
    refine hb H o bg xs R h4 o (L2.start N vs) H _ (ok_start h1 h2 h2t h3 (by rw [hl])) ?_ ?_ ?_ ?_
    · intro o' σ' H' ρ' ok' r
      exact h5 o' H' .non .none ok'.toBas Dd.non r
    · intro o' H' v d b' r q
      exact h5 o' H' v d b' r q
    · intro o' σ' H' ρ' ok' r
      exact r.elim
    · intro o' σ' H' ρ' ok' r
      exact r.elim
end

def plainS : Sl → Bool
  | .own _ _ => false
  | .ownD _ _ => false
  | _ => true
section
variable {w : Wd} {ρ : List Sl} {P : Sl → Prop} {te ta tb tc : TE} {tt tu : TT} {tr : TA} {ts t1 t2 : TS} {e : En} {d : PyData}
theorem VRs.plain {o : Addr → Prop} {H : Hp} {H0 : Hp} {o0 : Addr → Prop} : ∀ {vs : List V} {xs : List Sl}, xs.all plainS = true → VRs w o H vs xs → VRs ⟨w.K, H0, o0, w.bg, w.tb⟩ o H vs xs
  | _, _, _, .nil => .nil
  | v :: vs, x :: xs, h, .cons r t => by
    have h2 : plainS x = true ∧ xs.all plainS = true := by simpa [List.all_cons] using h
    refine .cons ?_ (VRs.plain h2.2 t)
    cases x with
    | no => trivial
    | dat d => exact r
    | bag => exact r
    | fn ob cc cs => exact r
    | own p xs => exact absurd h2.1 (by simp [plainS])
    | ownD p xs => exact absurd h2.1 (by simp [plainS])
/-- a def is called -/
theorem e_callT {G : Gs} {K : PySem.W.Frag} {tb : List (Addr × Str)} (hK : w.K = K) (hT : w.tb = tb) (h : A w tr ρ fun xs => xs.all plainS = true ∧ G xs fun d => P (.dat d)) : E w (tCall (spG K tb G) [] E0 tr) ρ P := by
  subst hK hT
  intro o σ H Q ok k
  refine h o σ H _ ok ?_
  intro o1 H1 vs xs g1 r1 ⟨hp, q⟩
  have b1 := ok.toBas.go g1
  show spG w.K w.tb G (vs ++ []) H1 Q E0
  rw [List.append_nil]
  refine ⟨w.bg, o1, xs, fun d => P (.dat d), b1.here, fun b e => (b1.bag b e).2, b1.tab.2, r1.plain hp, q, ?_⟩
  intro o' H' v d b' r p
  refine k o' H' v (.dat d) (g1.trans ⟨b'.grow, b'.sub, b'.keep, fun b e => (b'.bag b e).2, b'.tab.2, b'.here⟩) r p
theorem e_call {G : Gs} {K : PySem.W.Frag} {tb : List (Addr × Str)} (hK : w.K = K ∧ w.tb = tb) (h : A w tr ρ fun xs => xs.all plainS = true ∧ G xs fun d => P (.dat d)) : E w (tCall (spG K tb G) [] E0 tr) ρ P := e_callT hK.1 hK.2 h

/-! ### calls of built-ins -/
theorem cl_len : Cl w (fun xs H Q => ∃ x n, xs = [x] ∧ LenV w.K x H n ∧ Q (.int n) H) (fun xs P => ∃ x n, xs = [x] ∧
    (match x with
      | .dat (.list ds) => some ds.length
      | .dat (.tuple ds) => some ds.length
      | .dat (.str z) => if z.length ≤ sizeLine then some z.length else none
      | .own _ ds => some ds.length
      | _ => none) = some n ∧ P (.dat (.int (n : Nat)))) := by
  rintro o H vs xs P Q b r ⟨x, n, rfl, hn, q⟩ k
  cases r with
  | cons r t =>
    cases t
    cases x with
    | no => cases hn
    | bag => cases hn
    | ownD _ _ => cases hn
    | fn _ _ _ => cases hn
    | own p ds =>
      obtain ⟨rfl, hp, n0, us, hv, ha⟩ := r
      cases hn
      refine ⟨_, _, rfl, .inl ⟨us, .inl (.inl hv), (DdAll.len ha).symm⟩, k o H _ _ b.refl (VR.dat (Dd.int _)) q⟩
    | dat c =>
      cases c with
      | list ds =>
        cases hn
        cases r with
        | lst hs ha => exact ⟨_, _, rfl, .inl ⟨_, hid_le.seq hs, (DdAll.len ha).symm⟩, k o H _ _ b.refl (VR.dat (Dd.int _)) q⟩
      | tuple ds =>
        cases hn
        cases r with
        | tup hs ha => exact ⟨_, _, rfl, .inr ⟨_, sqT_mono hid_le hs.t, (DdAll.len ha).symm⟩, k o H _ _ b.refl (VR.dat (Dd.int _)) q⟩
      | str z =>
        have hn : (if z.length ≤ sizeLine then some z.length else none) = some n := hn
        by_cases hl : z.length ≤ sizeLine
        · rw [if_pos hl] at hn
          cases hn
          cases r
          exact ⟨_, _, rfl, ⟨hl, rfl⟩, k o H _ _ b.refl (VR.dat (Dd.int _)) q⟩
        · rw [if_neg hl] at hn
          cases hn
      | none => cases hn
      | bool _ => cases hn
      | int _ => cases hn
      | dict _ => cases hn
theorem cl_abs : Cl w (fun xs H Q => ∃ i, xs = [.int i] ∧ Q (.int (if i < 0 then -i else i)) H) (fun xs P => ∃ i, xs = [.dat (.int i)] ∧ P (.dat (.int (if i < 0 then -i else i)))) := by
  rintro o H vs xs P Q b r ⟨i, rfl, q⟩ k
  cases r with
  | cons r t =>
    cases t
    cases r
    exact ⟨i, rfl, k o H _ _ b.refl (VR.dat (Dd.int _)) q⟩
theorem cl_int1 : Cl w (fun xs H Q => (∃ i, xs = [.int i] ∧ Q (.int i) H) ∨ ∃ k, xs = [.bl k] ∧ Q (.int (if k = true then 1 else 0)) H) (fun xs P => ∃ i, xs = [.dat (.int i)] ∧ P (.dat (.int i))) := by
  rintro o H vs xs P Q b r ⟨i, rfl, q⟩ k
  cases r with
  | cons r t =>
    cases t
    cases r
    exact .inl ⟨i, rfl, k o H _ _ b.refl (VR.dat (Dd.int _)) q⟩
theorem cl_max2 : Cl w (fun xs H Q => ∃ i j, xs = [.int i, .int j] ∧ Q (.int (if j > i then j else i)) H) (fun xs P => ∃ i j, xs = [.dat (.int i), .dat (.int j)] ∧ P (.dat (.int (if j > i then j else i)))) := by
  rintro o H vs xs P Q b r ⟨i, j, rfl, q⟩ k
  cases r with
  | cons r t =>
    cases t with
    | cons r2 t =>
      cases t
      cases r
      cases r2
      exact ⟨i, j, rfl, k o H _ _ b.refl (VR.dat (Dd.int _)) q⟩
theorem cl_strI : Cl w (fun xs H Q => ∃ i, xs = [.int i] ∧ i.natAbs.log2 < 1920 ∧ Q (.str (toString i)) H) (fun xs P => ∃ i : Int, xs = [.dat (.int i)] ∧ i.natAbs.log2 < 1920 ∧ P (.dat (.str (Str.ofString (toString i))))) := by
  rintro o H vs xs P Q b r ⟨i, rfl, hl, q⟩ k
  cases r with
  | cons r t =>
    cases t
    cases r
    exact ⟨i, rfl, hl, k o H _ _ b.refl (VR.dat (Dd.str _)) q⟩
theorem cl_gcd : Cl w rGcd (fun xs P => ∃ a b : Int, xs = [.dat (.int a), .dat (.int b)] ∧ P (.dat (.int ((Nat.gcd a.natAbs b.natAbs : Nat) : Int)))) := by
  rintro o H vs xs P Q b r ⟨i, j, rfl, q⟩ k
  cases r with
  | cons r t =>
    cases t with
    | cons r2 t =>
      cases t
      cases r
      cases r2
      exact ⟨i, j, rfl, k o H _ _ b.refl (VR.dat (Dd.int _)) q⟩
theorem cl_divmod : Cl w rDivP (fun xs P => ∃ i j : Int, xs = [.dat (.int i), .dat (.int j)] ∧ CDivP i j ∧ P (.dat (.tuple [.int (i / j), .int (i % j)]))) := by
  rintro o H vs xs P Q b r ⟨i, j, rfl, hc, q⟩ k
  cases r with
  | cons ra rt =>
    cases rt with
    | cons rb rt =>
      cases rt
      cases ra
      cases rb
      refine ⟨i, j, rfl, hc, fun p ob np nd => ?_⟩
      have g := b.new (u := .frz ob (.tup [.int (i / j), .int (i % j)])) np
      exact k o _ _ _ g (VR.dat (Dd.tup (b.seenP np nd) (.cons (.int _) (.cons (.int _) .nil)))) q
theorem cl_repr : Cl w (rRepr w.K) (fun xs P => ∃ d, xs = [.dat d] ∧ okInts d = true ∧ d.shown.length ≤ sizeLine ∧ d.depth ≤ 60 ∧ P (.dat (.str d.shown))) := by
  rintro o H vs xs P Q b r ⟨d, rfl, h1, h2, h3, q⟩ k
  cases r with
  | cons r t =>
    cases t
    exact ⟨_, d, rfl, dp_mono hid_le d _ r, h1, h2, h3, k o H _ _ b.refl (VR.dat (Dd.str _)) q⟩

/-! ### methods of texts, slices -/
theorem e_bmS {r : V → List V → Hp → VK → Prop} {R : Str → List Sl → (Sl → Prop) → Prop}
    (hr : ∀ (o : Addr → Prop) (H : Hp) (z : Str) (vs : List V) (xs : List Sl) (P : Sl → Prop) (Q : VK), Bas w o H → VRs w o H vs xs → R z xs P → (∀ o' H' z d, Go w o H o' H' → VR w o' H' z d → P d → Q z H') → r (.str z) vs H Q)
    (h : E w te ρ fun x => ∃ z, x = .dat (.str z) ∧ A w tr ρ fun xs => R z xs P) : E w (tBM w.K "str" r te tr) ρ P := by
  intro o σ H Q ok k
  refine h o σ H _ ok ?_
  rintro o1 H1 v x g1 r1 ⟨z, rfl, q⟩
  cases r1
  refine ⟨rfl, ?_⟩
  refine q o1 σ H1 _ (ok.go g1) ?_
  intro o2 H2 vs xs g2 r2 q2
  exact hr o2 H2 z vs xs P Q (ok.toBas.go (g1.trans g2)) r2 q2 fun o' H' z d g r p => k o' H' z d ((g1.trans g2).trans g) r p
theorem e_zfill (h : E w te ρ fun x => ∃ z, x = .dat (.str z) ∧ A w tr ρ fun xs => ∃ i, xs = [.dat (.int i)] ∧ PadOk i = true ∧ P (.dat (.str (Txt.zfill z i)))) :
    E w (tBM w.K "str" (fun x xs H Q => ∃ (a : Str) (i : Int), x = .str a ∧ xs = [.int i] ∧ PadOk i = true ∧ Q (.str (Txt.zfill a i)) H) te tr) ρ P := by
  refine e_bmS (R := fun z xs P => ∃ i, xs = [.dat (.int i)] ∧ PadOk i = true ∧ P (.dat (.str (Txt.zfill z i)))) ?_ h
  rintro o H z vs xs P Q b r ⟨i, rfl, hp, q⟩ k
  cases r with
  | cons r t =>
    cases t
    cases r
    exact ⟨z, i, rfl, rfl, hp, k o H _ _ b.refl (VR.dat (Dd.str _)) q⟩
theorem e_join {ti : TE} (h : E w te ρ fun x => ∃ a : Str, x = .dat (.str a) ∧ E w ti ρ fun y => ∃ ys : List Str, (y = .dat (.list (ys.map PyData.str)) ∨ y = .dat (.tuple (ys.map PyData.str))) ∧
      (ys.map (·.length)).sum + ys.length * a.length ≤ 16777216 ∧ P (.dat (.str (Txt.join a ys)))) :
    E w (tM1 (fun x xs H Q => ∃ a p, ∃ ys : List Str, x = .str a ∧ xs = [.ref p] ∧ (SqL w.K H p (ys.map V.str) ∨ SqT w.K H p (ys.map V.str)) ∧
      (ys.map (·.length)).sum + ys.length * a.length ≤ 16777216 ∧ Q (.str (Txt.join a ys)) H) te ti) ρ P := by
  intro o σ H Q ok k
  refine h o σ H _ ok ?_
  rintro o1 H1 v x g1 r1 ⟨a, rfl, q⟩
  cases r1
  refine ⟨⟨a, rfl⟩, ?_⟩
  refine q o1 σ H1 _ (ok.go g1) ?_
  rintro o2 H2 u y g2 r2 ⟨ys, hy, hl, q2⟩
  have fin : Q (.str (Txt.join a ys)) H2 := k o2 H2 _ _ (g1.trans g2) (VR.dat (Dd.str _)) q2
  rcases hy with rfl | rfl
  · cases r2 with
    | lst hs ha =>
      have e := DdAll.strs ha
      rw [e] at hs
      exact ⟨a, _, ys, rfl, rfl, .inl (hid_le.seq hs), hl, fin⟩
  · cases r2 with
    | tup hs ha =>
      have e := DdAll.strs ha
      rw [e] at hs
      exact ⟨a, _, ys, rfl, rfl, .inr (sqT_mono hid_le hs.t), hl, fin⟩
theorem e_revL (h : E w te ρ fun x => ∃ ds, (x = .dat (.list ds) ∨ ∃ p, x = .own p ds) ∧ P (.dat (.list ds.reverse))) : E w (tRevL w.K te) ρ P := by
  intro o σ H Q ok k
  refine h o σ H _ ok ?_
  rintro o1 H1 v x g1 r1 ⟨ds, hx, q⟩
  have b1 := ok.toBas.go g1
  have fin : ∀ vs, DdAll w.K (hid H1 o1) vs ds → ∀ p, H1 p = none → Q (.ref p) (upd H1 p (.lst vs.reverse)) := fun vs ha p np => by
    have g2 := b1.new (u := .lst vs.reverse) np
    exact k o1 _ _ _ (g1.trans g2) (VR.dat (Dd.lst (.inl (.inl (b1.seen np))) (dpAll_mono g2.same _ _ (DdAll.rev ha)))) q
  rcases hx with rfl | ⟨p, rfl⟩
  · cases r1 with
    | lst hs ha => exact ⟨_, _, rfl, hid_le.seq hs, fin _ ha⟩
  · obtain ⟨rfl, hp, n, vs, e1, ha⟩ := r1
    exact ⟨_, vs, rfl, .inl (.inl e1), fin vs ha⟩
/-- an end of a slice -/
def O (w : Wd) (to : TO) (ρ : List Sl) (P : Option Int → Prop) : Prop := ∀ (o : Addr → Prop) (σ : L2.St) (H : Hp) (Q : Option Int → Hp → Prop), Ok w o σ H ρ →
  (∀ o' H' x, Go w o H o' H' → P x → Q x H') → to σ H Q
theorem o_none {P : Option Int → Prop} (q : P none) : O w tNoPart ρ P := fun o σ H Q ok k => k o H none ok.toBas.refl q
theorem o_some {P : Option Int → Prop} (h : E w te ρ fun x => ∃ i, x = .dat (.int i) ∧ P (some i)) : O w (tPart te) ρ P := by
  intro o σ H Q ok k
  refine h o σ H _ ok ?_
  rintro o1 H1 v x g1 r1 ⟨i, rfl, q⟩
  cases r1
  exact ⟨i, rfl, k o1 H1 _ g1 q⟩
theorem e_slS {tl th : TO} (h : E w te ρ fun x => ∃ z, x = .dat (.str z) ∧ z.length ≤ sizeLine ∧ O w tl ρ fun lo => O w th ρ fun hi => P (.dat (.str (cutS z lo hi)))) : E w (tSl rSlS te tl th) ρ P := by
  intro o σ H Q ok k
  refine h o σ H _ ok ?_
  rintro o1 H1 v x g1 r1 ⟨z, rfl, hz, q⟩
  cases r1
  refine q o1 σ H1 _ (ok.go g1) ?_
  intro o2 H2 lo g2 q2
  refine q2 o2 σ H2 _ (ok.go (g1.trans g2)) ?_
  intro o3 H3 hi g3 q3
  exact ⟨z, rfl, hz, k o3 H3 _ _ ((g1.trans g2).trans g3) (VR.dat (Dd.str _)) q3⟩
/-- x, y, z = a, b, c -/
theorem s_par3 {i j l : Nat} (h : A w tr ρ fun xs => ∃ x y z, xs = [x, y, z] ∧ notOwn x ∧ notOwn y ∧ notOwn z ∧ e.nx (((ρ.set i x).set j y).set l z)) : S w (tPar3 i j l tr) ρ e := by
  intro o σ H D ok kn kr kb kc
  refine h o σ H _ ok ?_
  rintro o1 H1 vs xs g1 r1 ⟨x, y, z, rfl, n1, n2, n3, q⟩
  cases r1 with
  | cons ra rt =>
    cases rt with
    | cons rb rt =>
      cases rt with
      | cons rc rt =>
        cases rt
        exact ⟨_, _, _, rfl, kn o1 _ H1 _ ((((ok.go g1).setD i ra n1).setD j rb n2).setD l rc n3) q⟩
end

/-! ### operations of any size -/
section
variable {X : Cx}
def CFd (i j : Int) : Prop := j ≠ 0 ∧ Builtin.divisionGoesByPylong i j = false
theorem op_fdivA : OpR X (binaryOp .FloorDiv) (rI CFd fun i j => .int (i.fdiv j)) := opI fun i j _ _ _ _ _ hc q =>
  floordiv_int hc.1 q (.inl hc.2)
def rMulS : R2 := fun x y H Q => ∃ (z : Str) (n : Int), x = .str z ∧ y = .int n ∧ MulOk z n ∧ Q (.str (Txt.mul z n)) H
theorem op_mulS : OpR X (binaryOp .Mult) rMulS := by
  intro pins s σ H x y v u Q I rx ry h
  obtain ⟨z, n, rfl, rfl, hc, q⟩ := h
  obtain ⟨t, rfl⟩ := rx
  obtain ⟨t', rfl⟩ := ry
  exact PySem.SB.mul hc fun t2 k => ⟨.str _, H, I.tok k, ⟨t2, rfl⟩, q⟩
abbrev rAddG : R2 := orR (rI0 fun i j => .int (i + j)) rAddS2
theorem op_addG : OpR X (binaryOp .Add) rAddG := opr_or op_add op_add_str
def CMulB (i j : Int) : Prop := CMulX i j ∨ CMul i j
theorem op_mulB : OpR X (binaryOp .Mult) (rI CMulB fun i j => .int (i * j)) := opI fun _ _ _ _ _ _ _ hc q =>
  hc.elim (fun h => mul_int q h.ok) fun h => mul_int q h.ok
abbrev rMulG : R2 := orR (rI CMulB fun i j => .int (i * j)) rMulS
theorem op_mulG : OpR X (binaryOp .Mult) rMulG := opr_or op_mulB op_mulS
end
section
variable {w : Wd}
theorem op2_mulS : Op2 w rMulS (fun x y P => ∃ (z : Str) (n : Int), x = .dat (.str z) ∧ y = .dat (.int n) ∧ MulOk z n ∧ P (.dat (.str (Txt.mul z n)))) := by
  rintro o H u v x y P Q b ru rv ⟨i, j, rfl, rfl, c, q⟩ k
  cases ru
  cases rv
  exact ⟨i, j, rfl, rfl, c, k o H _ _ b.refl (VR.dat (Dd.str _)) q⟩
end
end DL

/-! Data that == and repr take: how long its text is at most, how deep it is. -/
namespace DL
open PySem PySem.Spec PyProof.Rows L2
structure Fine (m k : Nat) (d : PyData) : Prop where
  num : okInts d = true
  lay : d.canLay0 = true
  len : d.shown.length ≤ m
  deep : d.depth ≤ k
structure Fines (m k : Nat) (ds : List PyData) : Prop where
  num : okAll ds = true
  lay : PyData.canLayAll0 ds = true
  len : ((PyData.shownAll ds).map fun t => t.length + 2).sum ≤ m
  deep : PyData.depthAll ds ≤ k
theorem text_le : ∀ (ts : List Str) (j : Nat) (acc : Str), (textFrom j acc ts).length ≤ acc.length + (ts.map fun t => t.length + 2).sum
  | [], j, acc => by
    show acc.length ≤ _
    omega
  | t :: r, j, acc => by
    have ih := text_le r (j + 1) (acc ++ (if j > 0 then ", " else "" : String) ++ t)
    show (textFrom (j + 1) (acc ++ (if j > 0 then ", " else "" : String) ++ t) r).length ≤ _
    rw [List.map_cons, List.sum_cons]
    have e : (acc ++ (if j > 0 then ", " else "" : String) ++ t : Str).length ≤ acc.length + 2 + t.length := by
      rw [strLen_append, strLen_append]
      have : ((if j > 0 then ", " else "" : String) : Str).length ≤ 2 := by
        split <;> decide +kernel
      omega
    omega
theorem list_le (ts : List Str) : (listText ts).length ≤ 2 + (ts.map fun t => t.length + 2).sum := by
  unfold listText
  rw [strLen_append]
  have h := text_le ts 0 "["
  have e1 : ("[" : Str).length = 1 := by decide +kernel
  have e2 : ("]" : Str).length = 1 := by decide +kernel
  omega
theorem join_le : ∀ ts : List Str, (Str.join ", " ts).length ≤ (ts.map fun t => t.length + 2).sum
  | [] => by
    show (Str.empty).length ≤ _
    exact Nat.zero_le _
  | [t] => by
    show t.length ≤ t.length + 2 + 0
    omega
  | t :: u :: r => by
    have ih := join_le (u :: r)
    show (t ++ ", " ++ Str.join ", " (u :: r) : Str).length ≤ _
    rw [strLen_append, strLen_append, List.map_cons, List.sum_cons]
    have e1 : (", " : Str).length = 2 := by decide +kernel
    omega
theorem tuple_le (ts : List Str) : (tupleText ts).length ≤ 3 + (ts.map fun t => t.length + 2).sum := by
  unfold tupleText
  rw [strLen_append, strLen_append]
  have h := join_le ts
  have e1 : ("(" : Str).length = 1 := by decide +kernel
  have e2 : ((if ts.length == 1 then ",)" else ")" : String) : Str).length ≤ 2 := by
    split <;> decide +kernel
  omega
theorem fine_int {i : Int} (h : i.natAbs < 2 ^ 12900) : Fine 4302 0 (.int i) := by
  have lt : i.natAbs < 10 ^ 4300 := Nat.lt_of_lt_of_le h (by
    have e : 2 ^ 12900 = (2 ^ 3) ^ 4300 := by rw [← Nat.pow_mul]
    rw [e]
    exact Nat.pow_le_pow_left (by decide) 4300)
  refine ⟨by simp [okInts, lt], rfl, ?_, Nat.le_refl _⟩
  show (Str.ofString (toString i)).length ≤ _
  rw [PySem.ofString_length]
  have := int_text_length_le10 (k := 4300) (by decide) lt
  omega
theorem fine_bool (b : Bool) : Fine 5 0 (.bool b) := by
  cases b <;> exact ⟨rfl, rfl, by decide +kernel, Nat.le_refl _⟩
theorem fine_none : Fine 4 0 .none := ⟨rfl, rfl, by decide +kernel, Nat.le_refl _⟩
theorem fine_nil : Fines 0 0 [] := ⟨rfl, rfl, Nat.le_refl _, Nat.le_refl _⟩
theorem fine_cons {m n k l : Nat} {d : PyData} {ds : List PyData} (h : Fine m k d) (t : Fines n l ds) : Fines (m + 2 + n) (max k l) (d :: ds) := by
  refine ⟨by simp [okAll, h.num, t.num], by simp [PyData.canLayAll0, h.lay, t.lay], ?_, ?_⟩
  · simp only [PyData.shownAll, List.map_cons, List.sum_cons]
    have := h.len
    have := t.len
    omega
  · simp only [PyData.depthAll]
    have := h.deep
    have := t.deep
    omega
theorem fine_list {m k : Nat} {ds : List PyData} (t : Fines m k ds) : Fine (m + 2) (k + 1) (.list ds) := by
  refine ⟨by simp [okInts, t.num], by simp [PyData.canLay0, t.lay], ?_, ?_⟩
  · simp only [PyData.shown]
    have := list_le (PyData.shownAll ds)
    have := t.len
    omega
  · simp only [PyData.depth]
    have := t.deep
    omega
theorem fine_tuple {m k : Nat} {ds : List PyData} (t : Fines m k ds) : Fine (m + 3) (k + 1) (.tuple ds) := by
  refine ⟨by simp [okInts, t.num], by simp [PyData.canLay0, t.lay], ?_, ?_⟩
  · simp only [PyData.shown]
    have := tuple_le (PyData.shownAll ds)
    have := t.len
    omega
  · simp only [PyData.depth]
    have := t.deep
    omega
theorem fine_str {z : Str} {n : Nat} (h : ∀ c ∈ z.cps.toList, c < 256) (hn : z.length ≤ n) : Fine (10 * n + 2) 0 (.str z) := by
  have ho : z.cps.all (· < 0x110000) = true := by
    rw [Array.all_eq_true']
    intro c hc
    have := h c (Array.mem_toList_iff.mpr hc)
    exact decide_eq_true (by omega)
  refine ⟨rfl, ho, ?_, Nat.le_refl _⟩
  show (reprText z).length ≤ _
  have := StrLaws.reprText_len z fun c hc => Nat.lt_trans (h c hc) (by decide)
  omega
theorem Fine.mono {m k m' k' : Nat} {d : PyData} (h : Fine m k d) (hm : m ≤ m') (hk : k ≤ k') : Fine m' k' d := ⟨h.num, h.lay, Nat.le_trans h.len hm, Nat.le_trans h.deep hk⟩
/-- what alike asks of the data that it is given twice -/
theorem Fine.shaped {m k : Nat} {d : PyData} (h : Fine m k d) (hk : k ≤ 60) : SeqAt.shaped d = true := by
  unfold SeqAt.shaped
  rw [h.lay, decide_eq_true (show d.depth ≤ 64 by have := h.deep; omega)]
  rfl
end DL

/-! The bag, lists put together and cut, comprehensions, loops over lists. -/
namespace DL
open PySem PySem.Spec PyProof.Rows L2

section
variable {X : Cx}
/-- an item of a list from its start on, read ahead of its change -/
def gL (K : PySem.W.Frag) : V → V → Hp → VK → Prop := fun o i H Q => ∃ p xs k v, o = .ref p ∧ i = .int k ∧ SqL K H p xs ∧ 0 ≤ k ∧ k < 2 ^ 63 ∧ xs[k.toNat]? = some v ∧ Q v H
theorem get_list : PGet X (gL X.K) := by
  intro pins s σ H o i ov iv Q I ro ri h
  obtain ⟨p, xs, k, v, rfl, rfl, hx, h0, h1, hv, q⟩ := h
  cases ro
  obtain ⟨t, rfl⟩ := ri
  obtain ⟨its, r, pl, hz⟩ := I.list hx
  obtain ⟨u, hu, ru⟩ := r.get hv
  exact wpAny_getItem_list pl.isList h0 h1 (by simpa using hu) ⟨v, H, I, ru, q⟩
/-- list + list -/
def rCatL (K : PySem.W.Frag) : R2 := fun x y H Q => ∃ a b xs ys, x = .ref a ∧ y = .ref b ∧ SqL K H a xs ∧ SqL K H b ys ∧ xs.length + ys.length ≤ sizeLine ∧ ∀ p, H p = none → Q (.ref p) (upd H p (.lst (xs ++ ys)))
theorem op_catL : OpR X (binaryOp .Add) (rCatL X.K) := by
  intro pins s σ H x y v u Q I rx ry h
  obtain ⟨a, b, xs, ys, rfl, rfl, ha, hb, hz, q⟩ := h
  cases rx
  cases ry
  obtain ⟨i1, r1, p1, z1⟩ := I.list ha
  obtain ⟨i2, r2, p2, z2⟩ := I.list hb
  obtain ⟨⟨c1, d1, da1, sl1⟩, e1, hc1, n1, hd1⟩ := p1.isList
  obtain ⟨⟨c2, d2, da2, sl2⟩, e2, hc2, n2, hd2⟩ := p2.isList
  simp only at hc1 hd1 hc2 hd2
  subst hc1 hd1 hc2 hd2
  have ea : i1.toArray ++ i2.toArray = (i1 ++ i2).toArray := by simp
  have l1 := r1.length
  have l2 := r2.length
  refine concat_meets ⟨_, e1, rfl⟩ ⟨_, e2, rfl⟩ noFill_list_add seq_list_add PySem.F.slot_list_add PySem.F.entry_list_add (PySem.F.args_list_add_2 _ _)
    (list_addW a b i1.toArray i2.toArray n1 n2 d1 d2 sl1 sl2 (by rw [List.size_toArray, List.size_toArray]; omega)) ⟨e1, e2, ?_⟩
  rw [ea]
  exact ⟨.ref _, _, I.lnew (t' := s.toks) (r1.append r2) (by rw [List.length_append]; omega), rfl, q _ I.fresh⟩
/-- texts are equal, or data are -/
def rEqSt : R2 := fun x y H Q => ∃ i j : Str, x = .str i ∧ y = .str j ∧ Q (.bl (decide (i = j))) H
theorem op_eqSt : OpR X (compareOp .Eq) rEqSt := by
  intro pins s σ H x y u v Q I rx ry h
  obtain ⟨i, j, rfl, rfl, q⟩ := h
  refine op_eq pins s σ H _ _ u v Q I rx ry ⟨rfl, ?_⟩
  have e : decide (V.str i = V.str j) = decide (i = j) := by
    by_cases h : i = j
    · rw [h]
      simp
    · rw [decide_eq_false h, decide_eq_false fun z => h (by injection z)]
  rw [e]
  exact q
theorem op_eqG (hu : X.A.units + 64 < cLine) : OpR X (compareOp .Eq) (orR rEqSt (rEqE X.K)) := opr_or op_eqSt (op_eqE hu)
end

section
variable {w : Wd} {ρ : List Sl} {P : Sl → Prop} {te ta tb tc tl : TE} {tt tu : TT} {tr : TA} {ts t1 t2 : TS} {e : En} {d : PyData}
theorem op2_eqSt : Op2 w rEqSt (fun x y P => ∃ i j : Str, x = .dat (.str i) ∧ y = .dat (.str j) ∧ P (.dat (.bool (decide (i = j))))) := by
  rintro o H u v x y P Q b ru rv ⟨i, j, rfl, rfl, q⟩ k
  cases ru
  cases rv
  exact ⟨i, j, rfl, rfl, k o H _ _ b.refl (VR.dat (Dd.bl _)) q⟩
/-- the items of a list that is data, or the def's own -/
def lstD : Sl → Option (List PyData)
  | .dat (.list ds) => some ds
  | .own _ ds => some ds
  | _ => none
theorem VR.lst {o : Addr → Prop} {H : Hp} {v : V} {x : Sl} {ds : List PyData} (r : VR w o H v x) (h : lstD x = some ds) : ∃ a vs, v = .ref a ∧ SqL w.K H a vs ∧ DdAll w.K (hid H o) vs ds := by
  cases x with
  | no => cases h
  | bag => cases h
  | ownD _ _ => cases h
  | fn _ _ _ => cases h
  | own p xs =>
    cases h
    obtain ⟨rfl, hp, n, vs, e1, ha⟩ := r
    exact ⟨p, vs, rfl, .inl (.inl e1), ha⟩
  | dat c =>
    cases c with
    | list xs =>
      cases h
      cases r with
      | lst hs ha => exact ⟨_, _, rfl, hid_le.seq hs, ha⟩
    | none => cases h
    | bool _ => cases h
    | int _ => cases h
    | str _ => cases h
    | tuple _ => cases h
    | dict _ => cases h
theorem VR.lstGo {o : Addr → Prop} {H : Hp} {v : V} {x : Sl} {ds : List PyData} (b : Bas w o H) (r : VR w o H v x) (h : lstD x = some ds) :
    ∃ a vs, v = .ref a ∧ DdAll w.K (hid H o) vs ds ∧ ∀ o1 H1, Go w o H o1 H1 → SqL w.K H1 a vs ∧ DdAll w.K (hid H1 o1) vs ds := by
  cases x with
  | no => cases h
  | bag => cases h
  | ownD _ _ => cases h
  | fn _ _ _ => cases h
  | own p xs =>
    cases h
    obtain ⟨rfl, hp, n, vs, e1, ha⟩ := r
    exact ⟨p, vs, rfl, ha, fun o1 H1 g => ⟨.inl (.inl ((g.keep p hp (b.nb n)).trans e1)), dpAll_mono g.same _ _ ha⟩⟩
  | dat c =>
    cases c with
    | list xs =>
      cases h
      cases r with
      | lst hs ha => exact ⟨_, _, rfl, ha, fun o1 H1 g => ⟨hid_le.seq (g.same.seq hs), dpAll_mono g.same _ _ ha⟩⟩
    | none => cases h
    | bool _ => cases h
    | int _ => cases h
    | str _ => cases h
    | tuple _ => cases h
    | dict _ => cases h
theorem op2_catL : Op2 w (rCatL w.K) (fun x y P => ∃ ds es, lstD x = some ds ∧ lstD y = some es ∧ ds.length + es.length ≤ sizeLine ∧ P (.dat (.list (ds ++ es)))) := by
  rintro o H u v x y P Q b ru rv ⟨ds, es, hx, hy, hz, q⟩ k
  obtain ⟨a, xs, rfl, s1, d1⟩ := ru.lst hx
  obtain ⟨a2, ys, rfl, s2, d2⟩ := rv.lst hy
  refine ⟨a, a2, xs, ys, rfl, rfl, s1, s2, by rw [DdAll.len d1, DdAll.len d2]; exact hz, fun p np => ?_⟩
  have g := b.new (u := .lst (xs ++ ys)) np
  exact k o _ _ _ g (VR.dat (Dd.lst (.inl (.inl (b.seen np))) (dpAll_mono g.same _ _ (DdAll.app d1 d2)))) q
def cutD (ds : List PyData) (lo hi : Option Int) : List PyData := (ds.drop (HT.sIx ds.length 0 lo)).take (HT.sIx ds.length ds.length hi - HT.sIx ds.length 0 lo)
theorem DdAll.cut {K : PySem.W.Frag} {H : Hp} {vs : List V} {ds : List PyData} (h : DdAll K H vs ds) (lo hi : Option Int) : DdAll K H (cutV vs lo hi) (cutD ds lo hi) := by
  unfold cutV cutD
  rw [DdAll.len h]
  exact DdAll.take _ (DdAll.drop _ h)
theorem e_slL {tlo thi : TO} (h : E w te ρ fun x => ∃ ds, lstD x = some ds ∧ O w tlo ρ fun lo => O w thi ρ fun hi => P (.dat (.list (cutD ds lo hi)))) : E w (tSl (rSlL w.K) te tlo thi) ρ P := by
  intro o σ H Q ok k
  refine h o σ H _ ok ?_
  rintro o1 H1 v x g1 r1 ⟨ds, hx, q⟩
  refine q o1 σ H1 _ (ok.go g1) ?_
  intro o2 H2 lo g2 q2
  refine q2 o2 σ H2 _ (ok.go (g1.trans g2)) ?_
  intro o3 H3 hi g3 q3
  have b3 := ok.toBas.go ((g1.trans g2).trans g3)
  obtain ⟨a, xs, rfl, s1, d1⟩ := (r1.go (ok.toBas.go g1) (g2.trans g3)).lst hx
  refine ⟨a, xs, rfl, s1, fun p np => ?_⟩
  have g := b3.new (u := .lst (cutV xs lo hi)) np
  exact k o3 _ _ _ (((g1.trans g2).trans g3).trans g) (VR.dat (Dd.lst (.inl (.inl (b3.seen np))) (dpAll_mono g.same _ _ (DdAll.cut d1 lo hi)))) q3

/-! ### the bag -/
theorem e_bagI {i : Nat} {c : Int} (h : ρ[i]? = some .bag) (hc : c = 0 ∨ c = 1 ∨ c = 2) (q : ∀ n : Int, P (.dat (.int n))) : E w (tOp (rIx w.K) (tVar i) (tC (.int c))) ρ P := by
  intro o σ H Q ok k
  rcases ok.slot i _ h with z | ⟨v, hv, b, hb, rfl⟩
  · cases z
  · obtain ⟨_, _, n0, n1, n2, l, ns, e1, e2, e3⟩ := ok.bag b hb
    refine ⟨_, hv, ?_⟩
    rcases hc with rfl | rfl | rfl
    · exact .inl ⟨b, _, 0, .int n0, rfl, rfl, .inl (.inl e1), rfl, k o H _ _ ok.toBas.refl (VR.dat (Dd.int _)) (q _)⟩
    · exact .inl ⟨b, _, 1, .int n1, rfl, rfl, .inl (.inl e1), rfl, k o H _ _ ok.toBas.refl (VR.dat (Dd.int _)) (q _)⟩
    · exact .inl ⟨b, _, 2, .int n2, rfl, rfl, .inl (.inl e1), rfl, k o H _ _ ok.toBas.refl (VR.dat (Dd.int _)) (q _)⟩
theorem e_bagL {i : Nat} (h : ρ[i]? = some .bag) (q : ∀ ns : List Int, ns.length ≤ 63 → P (.dat (.list (ns.map .int)))) : E w (tOp (rIx w.K) (tVar i) (tC (.int 3))) ρ P := by
  intro o σ H Q ok k
  rcases ok.slot i _ h with z | ⟨v, hv, b, hb, rfl⟩
  · cases z
  · obtain ⟨_, _, n0, n1, n2, l, ns, e1, e2, e3⟩ := ok.bag b hb
    exact ⟨_, hv, .inl ⟨b, _, 3, .ref l, rfl, rfl, .inl (.inl e1), rfl, k o H _ _ ok.toBas.refl (VR.dat (Dd.lst e2 (DdAll.ofInts ns))) (q _ e3)⟩⟩
theorem Ok.bagPut {o : Addr → Prop} {σ : L2.St} {H : Hp} {b : Addr} {c : Int} (ok : Ok w o σ H ρ) (hb : w.bg = some b) (hc : c = 0 ∨ c = 1 ∨ c = 2) (n : Int) :
    ∃ xs, H b = some (.lst xs) ∧ xs.length = 4 ∧ (∃ m, xs[c.toNat]? = some (.int m)) ∧ Go w o H o (upd H b (.lst (xs.set c.toNat (.int n)))) := by
  obtain ⟨_, ho, n0, n1, n2, l, ns, e1, e2, e3⟩ := ok.bag b hb
  have eq : ∀ u, hid (upd H b u) o = hid H o := by
    intro u
    funext a
    unfold hid
    split
    · rfl
    · rename_i na
      exact upd_ne fun z => na (z ▸ ho)
  have go : ∀ x0 x1 x2 : Int, Go w o H o (upd H b (.lst [.int x0, .int x1, .int x2, .ref l])) := by
    intro x0 x1 x2
    have nbT : ∀ q ∈ w.tb, q.1 ≠ b := fun q hq z => by
      obtain ⟨_, ps, f1, _⟩ := ok.tab.2 q hq
      rw [z, e1] at f1
      cases f1
    refine ⟨by rw [eq]; exact Same.refl _, fun _ h => h, fun a h nb => upd_ne fun z => nb (.inl (z ▸ hb)), fun b2 hb2 => ?_, ok.tab.2.go (by rw [eq]; exact Same.refl _) (fun q hq => upd_ne (nbT q hq)) fun q hq => (ok.tab.2 q hq).1, fun a h => ?_⟩
    · rw [hb] at hb2
      cases hb2
      exact ⟨ho, x0, x1, x2, l, ns, upd_same, by rw [eq]; exact e2, e3⟩
    · by_cases z : a = b
      · rw [z, upd_same]
        exact hidn_lst
      · rw [upd_ne z]
        exact ok.here a h
  refine ⟨_, e1, rfl, ?_⟩
  rcases hc with rfl | rfl | rfl
  · exact ⟨⟨n0, rfl⟩, go n n1 n2⟩
  · exact ⟨⟨n1, rfl⟩, go n0 n n2⟩
  · exact ⟨⟨n2, rfl⟩, go n0 n1 n⟩
theorem s_bagSet {i : Nat} {c : Int} (h : ρ[i]? = some .bag) (hc : c = 0 ∨ c = 1 ∨ c = 2) (he : E w te ρ fun x => ∃ n, x = .dat (.int n) ∧ e.nx ρ) : S w (tAsg te (gSub (tVar i) (tC (.int c)) rSetL)) ρ e := by
  intro o σ H D ok kn kr kb kc
  refine he o σ H _ ok ?_
  rintro o1 H1 v x g1 r1 ⟨n, rfl, q⟩
  have ok1 := ok.go g1
  rcases ok1.slot i _ h with z | ⟨v2, hv, b, hb, rfl⟩
  · cases z
  · obtain ⟨xs, e1, el, em, g⟩ := ok1.bagPut hb hc n
    cases r1
    refine ⟨_, hv, b, xs, c, c.toNat, rfl, rfl, e1, ?_, kn o1 σ _ ρ (ok1.go g) q⟩
    rw [el]
    rcases hc with rfl | rfl | rfl <;> rfl
theorem s_bagAug {i : Nat} {c : Int} {f : Int → Int → Int} (h : ρ[i]? = some .bag) (hc : c = 0 ∨ c = 1 ∨ c = 2) (he : E w te ρ fun x => ∃ n, x = .dat (.int n) ∧ e.nx ρ) :
    S w (tAugS (tVar i) (tC (.int c)) te (gL w.K) (ipI f) rSetL) ρ e := by
  intro o σ H D ok kn kr kb kc
  rcases ok.slot i _ h with z | ⟨v2, hv, b, hb, rfl⟩
  · cases z
  · obtain ⟨xs, e1, el, ⟨m, em⟩, _⟩ := ok.bagPut hb hc 0
    refine ⟨_, hv, b, xs, c, .int m, rfl, rfl, .inl (.inl e1), by omega, by omega, em, ?_⟩
    refine he o σ H _ ok ?_
    rintro o1 H1 v x g1 r1 ⟨n, rfl, q⟩
    have ok1 := ok.go g1
    obtain ⟨xs1, e2, el2, em2, g⟩ := ok1.bagPut hb hc (f m n)
    cases r1
    refine ⟨m, n, rfl, rfl, b, xs1, c, c.toNat, rfl, rfl, e2, ?_, kn o1 σ _ ρ (ok1.go g) q⟩
    rw [el2]
    rcases hc with rfl | rfl | rfl <;> rfl

theorem cut_ints (ns : List Int) (lo hi : Option Int) : ∃ ms : List Int, cutD (ns.map PyData.int) lo hi = ms.map PyData.int ∧ ms.length ≤ ns.length := by
  refine ⟨(ns.drop (HT.sIx ns.length 0 lo)).take (HT.sIx ns.length ns.length hi - HT.sIx ns.length 0 lo), ?_, ?_⟩
  · unfold cutD
    rw [List.length_map, List.map_take, List.map_drop]
  · rw [List.length_take, List.length_drop]
    omega
theorem cut_nil (ns : List Int) (lo hi : Option Int) : (cutD (ns.map PyData.int) lo hi).length ≤ ns.length := by
  obtain ⟨ms, e, h⟩ := cut_ints ns lo hi
  rw [e, List.length_map]
  exact h
theorem cut_first (ns : List Int) (lo hi : Option Int) (z : Int) : ∃ c : Int, atI (cutD (ns.map PyData.int) lo hi ++ [PyData.int z]) 0 = some (.int c) := by
  obtain ⟨ms, e, h⟩ := cut_ints ns lo hi
  rw [e]
  cases ms with
  | nil => exact ⟨z, rfl⟩
  | cons m ms =>
    refine ⟨m, ?_⟩
    unfold atI ixN
    rw [if_pos (by decide), if_pos (by simp; omega)]
    rfl
/-! ### comprehensions -/
/-- the list that is being made -/
theorem lc_put {o : Addr → Prop} {σ : L2.St} {H : Hp} {D : Addr} {vs : List V} (ok : Ok w o σ H ρ) (hD : o D) (h0 : ¬ w.own0 D) (no : ∀ (j : Nat) (y : Sl) (q : Addr), ρ[j]? = some y → y.adr = some q → q ≠ D) :
    Ok w o σ (upd H D (.lst vs)) ρ ∧ hid (upd H D (.lst vs)) o = hid H o := by
  have eq : hid (upd H D (.lst vs)) o = hid H o := by
    funext a
    unfold hid
    split
    · rfl
    · rename_i na
      exact upd_ne fun z => na (z ▸ hD)
  have off : ∀ a, w.own0 a → a ≠ D := fun a h z => h0 (z ▸ h)
  refine ⟨⟨⟨by rw [eq]; exact ok.grow, ok.sub, fun a h nb => (upd_ne (off a h)).trans (ok.keep a h nb), fun b hb => ?_, ⟨ok.tab.1, ok.tab.2.go (by rw [eq]; exact Same.refl _) (fun q hq => upd_ne (off q.1 (ok.tab.1 q hq))) fun q hq => (ok.tab.2 q hq).1⟩, fun a h => ?_⟩, ok.len, fun j y ej => ?_, ok.apart⟩, eq⟩
  · obtain ⟨b1, b2⟩ := ok.bag b hb
    exact ⟨b1, b2.go (by rw [eq]; exact Same.refl _) (upd_ne (off b b1)) b2.1⟩
  · by_cases z : a = D
    · rw [z, upd_same]
      exact hidn_lst
    · rw [upd_ne z]
      exact ok.here a h
  · refine (ok.slot j y ej).imp id fun ⟨u, hu, r⟩ => ⟨u, hu, ?_⟩
    cases y with
    | no => trivial
    | bag => exact r
    | dat d =>
      show Dd w.K (hid (upd H D (.lst vs)) o) u d
      rw [eq]
      exact r
    | fn ob cc cs =>
      obtain ⟨f, e2, e3, ec, e4⟩ := r
      refine ⟨f, e2, ?_, ?_, fun p hp => ?_⟩
      · rw [eq]
        exact e3
      · rw [eq]
        exact ec
      · rw [eq]
        exact e4 p hp
    | ownD q zs =>
      obtain ⟨e2, hq, nq, us2, e3, ha3⟩ := r
      refine ⟨e2, hq, nq, us2, (upd_ne (no j _ q ej rfl)).trans e3, ?_⟩
      rw [eq]
      exact ha3
    | own q zs =>
      obtain ⟨e2, hq, nq, us2, e3, ha3⟩ := r
      refine ⟨e2, hq, nq, us2, (upd_ne (no j _ q ej rfl)).trans e3, ?_⟩
      rw [eq]
      exact ha3
theorem Ok.wipe1 {o : Addr → Prop} {σ : L2.St} {H : Hp} (ok : Ok w o σ H ρ) (j : Nat) : Ok w o (σ.set j none) H (ρ.set j .no) := by
  refine ⟨ok.toBas, by rw [List.length_set, List.length_set]; exact ok.len, fun i x ei => ?_, fun i k p q xs ys ne e1 e2 a1 a2 => ?_⟩
  · by_cases hi : j = i
    · subst hi
      have hl : j < (ρ.set j .no).length := (List.getElem?_eq_some_iff.mp ei).1
      rw [List.length_set] at hl
      rw [List.getElem?_set_self hl] at ei
      cases ei
      exact .inl rfl
    · rw [List.getElem?_set_ne hi] at ei ⊢
      exact ok.slot i x ei
  · have back : ∀ (m : Nat) (q : Addr) (z : Sl), (ρ.set j Sl.no)[m]? = some z → z.adr = some q → ρ[m]? = some z := by
      intro m q z f a
      by_cases hm : j = m
      · subst hm
        have hl : j < (ρ.set j .no).length := (List.getElem?_eq_some_iff.mp f).1
        rw [List.length_set] at hl
        rw [List.getElem?_set_self hl] at f
        cases f
        cases a
      · rw [List.getElem?_set_ne hm] at f
        exact f
    exact ok.apart i k p q xs ys ne (back i p xs e1 a1) (back k q ys e2 a2) a1 a2
/-- what a turn of a comprehension must do -/
def Lc (w : Wd) (tt : TT) (te : TE) (ρ1 : List Sl) (I : Nat → List PyData → Prop) (i : Nat) (acc : List PyData) : Prop :=
  T w tt ρ1 fun b => if b = true then E w te ρ1 fun y => ∃ z, y = .dat z ∧ I (i + 1) (acc ++ [z]) else I (i + 1) acc
/-- what stands while the list at D is made -/
def LcS (w : Wd) (ρ : List Sl) (j : Nat) (σ : L2.St) (o : Addr → Prop) (H : Hp) (D : Addr) (I : Nat → List PyData → Prop) (i : Nat) (H1 : Hp) : Prop :=
  ∃ o1 acc vs, Ok w o1 (σ.set j none) H1 (ρ.set j .no) ∧ Go w o H o1 H1 ∧ o1 D ∧ H1 D = some (.lst vs) ∧ DdAll w.K (hid H1 o1) vs acc ∧ acc.length ≤ i ∧ I i acc
section
variable {j : Nat} {o : Addr → Prop} {σ : L2.St} {H : Hp} {D : Addr} {I : Nat → List PyData → Prop}
theorem lc_turn {i : Nat} {H1 : Hp} {d : PyData} {v : V} (hD : H D = none) (h00 : ¬ w.own0 D) (hn : ∀ (m : Nat) (y : Sl) (q : Addr), ρ[m]? = some y → y.adr = some q → q ≠ D) (hi : i < sizeLine) (st : LcS w ρ j σ o H D I i H1)
    (hv : ∀ o1 H1, Go w o H o1 H1 → Dd w.K (hid H1 o1) v d) (ht : ∀ acc, I i acc → Lc w tt te ((ρ.set j .no).set j (.dat d)) I i acc) :
    wipe ((wipe σ [j]).set j (some v)) [j] = wipe σ [j] ∧ tt ((wipe σ [j]).set j (some v)) H1 fun b H3 => if b = true then te ((wipe σ [j]).set j (some v)) H3 fun y H4 => ∃ acc, H4 D = some (.lst acc) ∧ acc.length < sizeLine ∧ LcS w ρ j σ o H D I (i + 1) (upd H4 D (.lst (acc ++ [y]))) else LcS w ρ j σ o H D I (i + 1) H3 := by
  obtain ⟨o1, acc, vs, ok1, g1, oD, e1, ha, hl, hI⟩ := st
  have hnb : ¬ w.mu D := ok1.toBas.nb h00
  have okv := ok1.setD j (x := .dat d) (v := v) (hv o1 H1 g1) trivial
  have back : ∀ (o2 : Addr → Prop) (H2 : Hp) (ρ2 : List Sl) , Ok w o2 ((σ.set j none).set j (some v)) H2 ((ρ.set j .no).set j (.dat d)) → Ok w o2 (σ.set j none) H2 (ρ.set j .no) := by
    intro o2 H2 _ k2
    have k3 := k2.wipe1 j
    rw [List.set_set, List.set_set, List.set_set, List.set_set] at k3
    exact k3
  refine ⟨?_, ?_⟩
  · show ((σ.set j none).set j (some v)).set j none = σ.set j none
    rw [List.set_set, List.set_set]
  · refine ht acc hI o1 ((σ.set j none).set j (some v)) H1 _ okv ?_
    intro o2 H2 b g2 q2
    have keepD : H2 D = some (.lst vs) := (g2.keep D oD hnb).trans e1
    cases b with
    | false => exact ⟨o2, acc, vs, back o2 H2 ρ (okv.go g2), g1.trans g2, g2.sub D oD, keepD, dpAll_mono g2.same _ _ ha, by omega, q2⟩
    | true =>
      refine q2 o2 ((σ.set j none).set j (some v)) H2 _ (okv.go g2) ?_
      rintro o3 H3 y x g3 r3 ⟨z, rfl, q3⟩
      have keepD3 : H3 D = some (.lst vs) := (g3.keep D (g2.sub D oD) hnb).trans keepD
      have ok3 := back o3 H3 ρ ((okv.go g2).go g3)
      have oD3 := g3.sub D (g2.sub D oD)
      have no3 : ∀ (m : Nat) (y : Sl) (q : Addr), (ρ.set j Sl.no)[m]? = some y → y.adr = some q → q ≠ D := by
        intro m y q f a
        by_cases hm : j = m
        · subst hm
          have hl2 : j < (ρ.set j .no).length := (List.getElem?_eq_some_iff.mp f).1
          rw [List.length_set] at hl2
          rw [List.getElem?_set_self hl2] at f
          cases f
          cases a
        · rw [List.getElem?_set_ne hm] at f
          exact hn m y q f a
      obtain ⟨ok4, eq4⟩ := lc_put (vs := vs ++ [y]) ok3 oD3 h00 no3
      have ha3 := dpAll_mono (g2.trans g3).same _ _ ha
      refine ⟨vs, keepD3, by rw [DdAll.len ha]; omega, o3, acc ++ [z], vs ++ [y], ok4, ?_, oD3, upd_same, by rw [eq4]; exact DdAll.app ha3 (.cons r3 .nil), by rw [List.length_append, List.length_singleton]; omega, q3⟩
      have g := (g1.trans g2).trans g3
      refine ⟨by rw [eq4]; exact g.same, g.sub, fun a h nb => (upd_ne fun z => ?_).trans (g.keep a h nb), fun b hb => (ok4.bag b hb).2, ok4.tab.2, ok4.here⟩
      subst z
      exact ok1.hn _ (g1.sub _ h) (by
        have : H1 a = H a := g1.keep a h nb
        rw [this]
        exact hD)
theorem lc_start {H1 : Hp} (ok : Ok w o σ H ρ) (hD : H D = none) (hI : I 0 []) : LcS w ρ j σ o H D I 0 (upd H D (.lst [])) := by
  have g := ok.toBas.newOwn (u := .lst []) hD
  exact ⟨_, [], [], (ok.wipe1 j).go g, g, .inr rfl, upd_same, .nil, Nat.le_refl _, hI⟩
theorem lc_end {n : Nat} {H1 : Hp} {Q : VK} (ok : Ok w o σ H ρ) (hD : H D = none) (st : LcS w ρ j σ o H D I n H1) (hp : ∀ acc, I n acc → acc.length ≤ n → P (.dat (.list acc)))
    (k : ∀ o' H' v x, Go w o H o' H' → VR w o' H' v x → P x → Q v H') : Q (.ref D) H1 := by
  obtain ⟨o1, acc, vs, ok1, g1, oD, e1, ha, hl, hI⟩ := st
  have less : ∀ a, (o1 a ∧ a ≠ D) → o1 a := fun a h => h.1
  have off : ∀ a, o a → a ≠ D := fun a h z => ok.hn a h (z ▸ hD)
  refine k (fun a => o1 a ∧ a ≠ D) H1 _ (.dat (.list acc)) ⟨g1.same.trans (hid_less less), fun a h => ⟨g1.sub a h, off a h⟩, g1.keep, fun b hb => ?_, g1.tab.go (hid_less less) (fun _ _ => rfl) (fun q hq => ⟨(g1.tab q hq).1, fun z => off q.1 (ok.tab.2 q hq).1 z⟩), fun a h => g1.here a h.1⟩ (VR.dat (Dd.lst (.inl (.inl ?_)) (dpAll_mono (hid_less less) _ _ ha))) (hp acc hI hl)
  · have b2 := g1.bag b hb
    exact b2.go (hid_less less) rfl ⟨b2.1, fun z => off b (ok.bag b hb).2.1 z⟩
  · rw [hid_of fun z => z.2 rfl]
    exact e1
end
/-- [e for x in xs if ..], xs a list -/
theorem e_lcL {j : Nat} (h : E w tl ρ fun x => ∃ ds, lstD x = some ds ∧ ds.length ≤ sizeLine ∧ ∃ I : Nat → List PyData → Prop, I 0 [] ∧
      (∀ i d acc, ds[i]? = some d → I i acc → Lc w tt te ((ρ.set j .no).set j (.dat d)) I i acc) ∧ ∀ acc, I ds.length acc → acc.length ≤ ds.length → P (.dat (.list acc))) : E w (tLc (iList w.K tl) (gName j) tt te [j]) ρ P := by
  intro o σ H Q ok k
  refine h o σ H _ ok ?_
  rintro o1 H1 v x g1 r1 ⟨ds, hx, hz, I, h0, hs, hp⟩
  have ok1 := ok.go g1
  obtain ⟨a, xs, rfl, d1, src⟩ := r1.lstGo ok1.toBas hx
  refine ⟨a, rfl, ⟨xs, (src o1 H1 ok1.toBas.refl).1⟩, fun D hD => ?_⟩
  have h00 : ¬ w.own0 D := fun z => ok1.hn D (ok1.sub D z) hD
  have hn : ∀ (m : Nat) (y : Sl) (q : Addr), ρ[m]? = some y → y.adr = some q → q ≠ D := by
    intro m y q f a z
    subst z
    exact ok1.hn _ (ok1.adr f a) hD
  refine lc_list (xs := xs) (fun i H2 => LcS w ρ j σ o1 H1 D I i H2) (lc_start (H1 := H1) ok1 hD h0) (fun i H2 _ st => ?_) (fun i y H2 hy st => ?_) (fun H2 st => ?_)
  · obtain ⟨o2, _, _, _, g2, _⟩ := st
    exact (src o2 H2 g2).1
  · obtain ⟨d, hd, _⟩ := DdAll.gets d1 hy
    have hi : i < xs.length := (List.getElem?_eq_some_iff.mp hy).1
    exact lc_turn hD h00 hn (by rw [DdAll.len d1] at hi; omega) st (fun o2 H2 g2 => by
      obtain ⟨d2, hd2, rd2⟩ := DdAll.gets (src o2 H2 g2).2 hy
      rw [hd] at hd2
      cases hd2
      exact rd2) fun acc hI => hs i d acc hd hI
  · rw [DdAll.len d1] at st
    exact lc_end ok1 hD st hp fun o' H' v x g r p => k o' H' v x (g1.trans g) r p
/-- [e for x in range(n) if ..] -/
theorem e_lcR {j : Nat} (h : A w tr ρ fun xs => ∃ n : Int, xs = [.dat (.int n)] ∧ -(2 ^ 62) ≤ n ∧ n ≤ 1000000 ∧ ∃ I : Nat → List PyData → Prop, I 0 [] ∧
      (∀ (i : Nat) acc, (i : Int) < n → I i acc → Lc w tt te ((ρ.set j .no).set j (.dat (.int (i : Int)))) I i acc) ∧ ∀ acc, I n.toNat acc → acc.length ≤ n.toNat → P (.dat (.list acc))) : E w (tLc (iRng1 tr) (gName j) tt te [j]) ρ P := by
  intro o σ H Q ok k
  refine h o σ H _ ok ?_
  rintro o1 H1 vs xs g1 r1 ⟨n, rfl, hn1, hn2, I, h0, hs, hp⟩
  cases r1 with
  | cons ra rt =>
    cases rt
    cases ra
    have ok1 := ok.go g1
    refine ⟨n, rfl, hn1, by omega, fun D hD => ?_⟩
    have h00 : ¬ w.own0 D := fun z => ok1.hn D (ok1.sub D z) hD
    have hn : ∀ (m : Nat) (y : Sl) (q : Addr), ρ[m]? = some y → y.adr = some q → q ≠ D := by
      intro m y q f a z
      subst z
      exact ok1.hn _ (ok1.adr f a) hD
    refine lc_range (lo := 0) (n := n.toNat) (fun i H2 => LcS w ρ j σ o1 H1 D I i H2) (lc_start (H1 := H1) ok1 hD h0) (fun i H2 hi st => ?_) (fun H2 st => ?_)
    · have ez : (0 : Int) + (i : Int) = (i : Int) := Int.zero_add _
      rw [ez]
      have big : 1000000 < sizeLine := Nat.le_of_ble_eq_true rfl
      exact lc_turn hD h00 hn (by omega) st (fun o2 H2 g2 => Dd.int _) fun acc hI => hs i acc (by omega) hI
    · exact lc_end ok1 hD st hp fun o' H' v x g r p => k o' H' v x (g1.trans g) r p
end
end DL

/-! The law's bag is made; the law's own body behind it. -/
namespace DL
open PySem PySem.Spec PyProof.Rows L2

/-- the promise of the def that makes the bag -/
def spBag (K : PySem.W.Frag) : Sp := fun vs H Q _ => ∃ (a : Addr) (ns : List Int), vs = [.ref a] ∧ SqL K H a (ns.map V.int) ∧
  ∀ (H1 : Hp) (p l : Addr) (ms : List Int), Same H H1 → H p = none → H1 p = some (.lst [.int 0, .int 1234567891, .int 0, .ref l]) →
    SqL K H1 l (ms.map V.int) → ms.length ≤ 63 → Q (.ref p) H1

theorem hid_no {H : Hp} : hid H (fun _ => False) = H := by
  funext a
  exact hid_of id
theorem same_hid0 {H H1 : Hp} {o : Addr → Prop} (s : Same (hid H fun _ => False) (hid H1 o)) : Same H H1 := by
  rw [hid_no] at s
  exact s.trans hid_le
theorem bag_go {K : PySem.W.Frag} {H : Hp} {a : Addr} {ns : List Int} {Q : VK} {te : TE} {N : List Str} {m : Nat}
    (hS : SqL K H a (ns.map V.int)) (hN : N.length - 1 = m)
    (h : E ⟨K, H, fun _ => False, none, []⟩ te (.dat (.list (ns.map PyData.int)) :: List.replicate m .no)
      fun x => ∃ ms : List Int, ms.length ≤ 63 ∧ x = .dat (.list (ms.map PyData.int)))
    (k : ∀ (H1 : Hp) (p l : Addr) (ms : List Int), Same H H1 → H p = none → H1 p = some (.lst [.int 0, .int 1234567891, .int 0, .ref l]) →
      SqL K H1 l (ms.map V.int) → ms.length ≤ 63 → Q (.ref p) H1) :
    tRet (tLst (tCons (tC (.int 0)) (tCons (tC (.int 1234567891)) (tCons (tC (.int 0)) (tCons te tNil)))))
      { nx := fun _ H' => Q .non H', rt := Q } (L2.start N [.ref a]) H := by
  have ok : Ok ⟨K, H, fun _ => False, none, []⟩ (fun _ => False) (L2.start N [.ref a]) H ([.dat (.list (ns.map PyData.int))] ++ List.replicate m .no) := by
    refine ok_start (fun _ z => z.elim) (fun _ z => nomatch z) (fun _ z => nomatch z) (.cons (VR.dat (Dd.lst ?_ (DdAll.ofInts ns))) .nil) ?_
    · rw [hid_no]
      exact hS
    · rw [List.length_singleton, hN]
  refine h (fun _ => False) _ H _ ok ?_
  rintro o' H' v x g r ⟨ms, hms, rfl⟩
  cases r with
  | lst hs ha =>
    have e := DdAll.ints ha
    subst e
    refine ⟨Nat.le_of_ble_eq_true rfl, fun p np => ?_⟩
    have sm : Same H H' := same_hid0 g.same
    have off : H p = none := by
      cases q : H p with
      | none => rfl
      | some y =>
        have := sm p y q
        rw [np] at this
        cases this
    refine k _ p _ ms (sm.trans (same_new np)) off upd_same ?_ hms
    exact (same_new np).seq (hid_le.seq hs)

/-- what is hidden from the law's body: the bag at p, the tables -/
def hidB (p : Addr) (tb : List (Addr × Str)) (b : Addr) : Prop := b = p ∨ ∃ q, (b, q) ∈ tb
theorem tb_nil {H : Hp} {o : Addr → Prop} {tb : List (Addr × Str)} (h : ∀ q ∈ tb, H q.1 = some (.tbl #[])) (ho : ∀ q ∈ tb, o q.1) : TbAt tb H o := fun q hq =>
  ⟨ho q hq, #[], h q hq, True.intro, fun pos cv hc => by
    have z : codeAmong pos [] = some cv := hc
    simp [codeAmong] at z⟩
theorem law_rest {K : PySem.W.Frag} {H1 : Hp} {a p l : Addr} {ms : List Int} {Q : VK} {ts : TS} {σ : L2.St} {m : Nat} {tb : List (Addr × Str)}
    (e1 : H1 p = some (.lst [.int 0, .int 1234567891, .int 0, .ref l])) (e2 : SqL K H1 l (ms.map V.int)) (e3 : ms.length ≤ 63) (e4 : ∀ q ∈ tb, H1 q.1 = some (.tbl #[]))
    (hσ : σ = some (.ref a) :: some (.ref p) :: List.replicate m none)
    (h : S ⟨K, H1, hidB p tb, some p, tb⟩ ts (.no :: .bag :: List.replicate m .no) { nx := fun _ => False, rt := fun d => d = .bool true })
    (k : ∀ H', Q (.bl true) H') : ts { nx := fun _ H' => Q .non H', rt := Q } σ H1 := by
  subst hσ
  have lp : SqL K (hid H1 (hidB p tb)) l (ms.map V.int) := by
    have off : ∀ u, H1 l = some u → (∀ ps, u ≠ .tbl ps) → ¬ (∃ xs, l = p ∧ u = .lst xs ∧ xs = ms.map V.int) → (l = p → ∃ xs, u = .lst xs ∧ xs = ms.map V.int) → ¬ hidB p tb l := by
      intro u hu nt np isl z
      rcases z with rfl | ⟨q, hq⟩
      · obtain ⟨xs, z1, z2⟩ := isl rfl
        exact np ⟨xs, rfl, z1, z2⟩
      · have z3 := e4 _ hq
        rw [hu] at z3
        cases z3
        exact nt _ rfl
    have ne : ¬ (l = p ∧ H1 l = some (.lst (ms.map V.int))) := by
      rintro ⟨rfl, z⟩
      rw [e1] at z
      have z2 := congrArg (fun o => match o with | some (HO.lst ys) => ys[3]? | _ => none) z
      have z3 : some (V.ref l) = (ms.map V.int)[3]? := z2
      rw [List.getElem?_map] at z3
      cases q : ms[3]? with
      | none =>
        rw [q] at z3
        cases z3
      | some y =>
        rw [q] at z3
        cases z3
    rcases e2 with (e | ⟨o, e⟩) | e
    · refine .inl (.inl ((hid_of (off _ e (fun _ z => nomatch z) ?_ fun z => ⟨_, rfl, rfl⟩)).trans e))
      rintro ⟨xs, z1, z2, z3⟩
      exact ne ⟨z1, e⟩
    · refine .inl (.inr ⟨o, (hid_of (off _ e (fun _ z => nomatch z) (fun ⟨xs, z1, z2, _⟩ => nomatch z2) fun z => ?_)).trans e⟩)
      rw [z, e1] at e
      cases e
    · exact .inr e
  have ok : Ok ⟨K, H1, hidB p tb, some p, tb⟩ (hidB p tb) (some (.ref a) :: some (.ref p) :: List.replicate m none) H1 (.no :: .bag :: List.replicate m .no) := by
    have bag : BagAt K H1 (hidB p tb) p := ⟨.inl rfl, 0, 1234567891, 0, l, ms, e1, lp, e3⟩
    have hT : ∀ q ∈ tb, hidB p tb q.1 := fun q hq => .inr ⟨q.2, hq⟩
    refine ⟨⟨Same.refl _, fun _ z => z, fun _ _ _ => rfl, fun b e => ?_, ⟨hT, tb_nil e4 hT⟩, fun b z => ?_⟩, ?_, fun i x e => ?_, fun i j q q' xs ys ne f1 f2 a1 a2 => ?_⟩
    · cases e
      exact ⟨.inl rfl, bag⟩
    · rcases z with rfl | ⟨q, hq⟩
      · rw [e1]
        exact hidn_lst
      · rw [e4 _ hq]
        exact hidn_tbl
    · simp
    · match i, e with
      | 0, e =>
        cases e
        exact .inl rfl
      | 1, e =>
        cases e
        exact .inr ⟨_, rfl, p, rfl, rfl⟩
      | i + 2, e =>
        have e : (List.replicate m Sl.no)[i]? = some x := e
        rw [List.getElem?_replicate] at e
        split at e
        · cases e
          exact .inl rfl
        · cases e
    · match i, f1 with
      | 0, f1 =>
        cases f1
        cases a1
      | 1, f1 =>
        cases f1
        cases a1
      | i + 2, f1 =>
        have f1 : (List.replicate m Sl.no)[i]? = some xs := f1
        rw [List.getElem?_replicate] at f1
        split at f1
        · cases f1
          cases a1
        · cases f1
  refine h (hidB p tb) _ H1 _ ok ?_ ?_ ?_ ?_
  · intro _ _ _ _ _ z
    exact z.elim
  · rintro o' H' v d b r rfl
    cases r
    exact k H'
  · intro _ _ _ _ _ z
    exact z.elim
  · intro _ _ _ _ _ z
    exact z.elim
theorem T.mono {w : Wd} {tt : TT} {ρ : List Sl} {P P' : Bool → Prop} (h : T w tt ρ P) (q : ∀ b, P b → P' b) : T w tt ρ P' := fun o σ H Q ok k => h o σ H Q ok fun o' H' b g p => k o' H' b g (q b p)
end DL

/-! Lists and tuples alike: enumerate, sums, slices, conversions; is None; a list times an int; loops over them. -/
namespace DL
open PySem PySem.Spec PyProof.Rows L2

/-! ### enumerate over a tuple -/
section
variable {prog : Program} {w : World} {A : Around} {E : Value → Shared → Prop} {s : Shared}
abbrev enumO (a : Addr) : Obj := { cls := .type "enumerate", data := .fields #[.none, .bool false, .ref a, rawInt 0, .none, .none] }
set_option maxHeartbeats 4000000 in
theorem meetsEnum {u : Value} {ob : Obj} {G : Heap → Prop} (B : Begins u ob G) :
    Meets (Builtin.«enumerate.__new__» ⟨[.type "enumerate", u], []⟩) (fun _ R s => G s.heap ∧
      R (.ok (.ret (.ref (s.heap.push ob).objs.size))) { s with heap := (s.heap.push ob).push (enumO s.heap.objs.size) }) :=
  .of_wp fun P w0 A0 R s0 hyp => by
    obtain ⟨hp, g0, d0, t0, o0⟩ := s0
    obtain ⟨hG, hyp⟩ := hyp
    have su := sub_enumerate
    have go : ∀ {A1 : Around} {E1 : Value → Shared → Prop} {Q1 : Value → Shared → Prop}, Q1 (.ref hp.objs.size) ⟨hp.push ob, g0, d0, t0, o0⟩ →
        wpAny (model P w0) A1 (pyIter u) Q1 E1 ⟨hp, g0, d0, t0, o0⟩ := fun z => B.iter P w0 _ _ ⟨hp, g0, d0, t0, o0⟩ _ hG z
    wp_walk using go
    refine wpAny_stack_any fun _ => wpAny_pure ?_
    split
    · rename_i c0 _ _ _ _ _
      cases (c0 == Value.type "enumerate")
      · wp_walk using go
        exact ⟨_, rfl, hyp⟩
      · wp_walk using go
        exact ⟨_, rfl, hyp⟩
    · wp_walk using go
      exact ⟨_, rfl, hyp⟩
theorem callEnum {u : Value} {ob : Obj} {G : Heap → Prop} {Q : Value → Shared → Prop} (B : Begins u ob G) (hG : G s.heap)
    (k : ∀ h1, IsEnum h1 (s.heap.objs.size + 1) s.heap.objs.size 0 .none → h1.get? s.heap.objs.size = some ob →
      (∀ b o, s.heap.get? b = some o → h1.get? b = some o) → Q (.ref (s.heap.objs.size + 1)) { s with heap := h1 }) :
    wpAny (model prog w) A (call (.type "enumerate") [u]) Q E s := by
  refine callType_new F.called_enumerate (by decide) (F.typeCall_enumerate_1 _) (F.newCall_enumerate_1 _) (fun o => F.args_object_init_2 o _) F.entry_enumerate_new (meetsEnum B) ⟨hG, ?_⟩
  have sz : (s.heap.push ob).objs.size = s.heap.objs.size + 1 := Heap.size_push ..
  show _ ∧ _
  rw [sz]
  have ie : IsEnum ((s.heap.push ob).push (enumO s.heap.objs.size)) (s.heap.objs.size + 1) s.heap.objs.size 0 .none := by
    have z := Heap.get?_push_size (s.heap.push ob) (o := enumO s.heap.objs.size) rfl
    rw [sz] at z
    exact z
  exact ⟨⟨_, ie, rfl⟩, k _ ie (Heap.get?_push_of_some _ (Heap.get?_push_size _ B.free)) fun b o z => Heap.get?_push_of_some _ (Heap.get?_push_of_some _ z)⟩
end
/-- the tuple at a, each item in a new pair -/
def IteT (K : PySem.W.Frag) (a : Addr) : It where
  go := fun i H => ∃ (ys : List V) (y : V), SqT K H a ys ∧ ys[i]? = some y
  yld := fun i H v H' => ∃ p y, v = .ref p ∧ H p = none ∧ H' = upd H p (.tup [.int (i : Nat), y]) ∧ ∀ ys, SqT K H a ys → ys[i]? = some y
  stop := fun i H => ∃ ys : List V, SqT K H a ys ∧ ys.length = i
def TnT (a e c : Addr) (i : Nat) (h : Heap) : Prop := (∃ v, IsEnum h e c ((i : Nat) : Int) v) ∧ h.IsTupleIter c a i ∧ e ≠ c ∧ e ≠ a ∧ a ≠ c
theorem two {b e c : Addr} (h : b ∈ [e, c]) : b = e ∨ b = c := by simpa using h
theorem turn_enumT {P : Program} {w : World} {K : PySem.W.Frag} {es : List Expr} {n0 : Nat} {ps : Pos} (a e c : Addr) :
    Turn P w K (.Tuple es n0 ps) (IteT K a) [e, c] e (TnT a e c) := by
  refine ⟨List.mem_cons_self .., ?_, ?_, ?_, ?_, ?_⟩
  · rintro i h ⟨⟨v, ie⟩, ⟨o, ho, hc, hd⟩, _⟩ b hb
    rcases two hb with rfl | rfl
    · exact ⟨_, ie, fun _ z => nomatch z⟩
    · exact ⟨o, ho, fun _ z => by rw [hd] at z; cases z⟩
  · rintro i h h1 ⟨⟨v, ie⟩, it, r⟩ kp
    exact ⟨⟨v, kp e (List.mem_cons_self ..) _ ie⟩, it.at fun o z => kp c (List.mem_cons_of_mem _ (List.mem_cons_self ..)) o z, r⟩
  · intro X eP ew eK calm i pins s σ H E1 I fp st hgo
    subst eP ew eK
    obtain ⟨⟨v, ie⟩, it, n1, n2, n3⟩ := st
    obtain ⟨ys, y, hq, hy⟩ := hgo
    obtain ⟨us, rv, pt, hz⟩ := I.tuple hq
    obtain ⟨u, hu, ru⟩ := rv.get hy
    have le : e < s.heap.objs.size := Heap.lt_size ie
    have lc : c < s.heap.objs.size := by
      obtain ⟨_, z, _⟩ := it
      exact Heap.lt_size z
    have hh : X.A.in1.handled = none := I.ok.hd calm
    have li : i < us.toArray.size := by
      rw [List.size_toArray]
      exact (List.getElem?_eq_some_iff.mp hu).1
    refine wpAny_pyNext_enum_itemD (Draws.tuple hh c a n3 us.toArray) ie ⟨it, pt⟩ li n1 (by simp [n1, n2]) fun x h1 tk px io st1 hT _ kp => ?_
    have ex : u = x := by
      have z : us.toArray[i]? = some u := by simpa using hu
      rw [z] at px
      exact Option.some.inj px
    subst ex
    refine ⟨_, rfl, wpAny_letOwnedTupleGo_enum (s := { s with heap := h1, toks := tk + 1 }) io fun h2 io2 sb => ?_⟩
    have hT2 : h2.get? s.heap.objs.size = some { cls := .type "tuple", data := .seq #[.int i tk, u] } := (sb.2 _ (Nat.ne_of_gt le)).trans hT
    have nu : ObjOk X.prog X.w (upd H s.heap.objs.size (.tup [.int (i : Nat), y])) h2 s.heap.objs.size (.tup [.int (i : Nat), y]) :=
      ⟨by show 2 ≤ sizeLine; decide, [.int i tk, u], .cons ⟨_, rfl⟩ (.cons ru .nil), ⟨_, hT2, rfl, _, rfl⟩⟩
    have off : ∀ {b : Addr}, b ∉ [e, c] → b ≠ e ∧ b ≠ c := fun {b} hb => ⟨fun z => hb (by simp [z]), fun z => hb (by simp [z])⟩
    have I1 : Inv X pins σ (upd H s.heap.objs.size (.tup [.int (i : Nat), y])) { s with heap := h2, toks := tk + 1 } :=
      I.turnedNew (ch := [e, c]) (fun b ob hb z => (sb.2 b (off hb).1).trans (kp b ob (off hb).1 (off hb).2 z)) fp (Nat.le_refl _) nu
    refine ⟨.ref s.heap.objs.size, _, I1, rfl, ⟨_, y, rfl, I.hok.fresh (Nat.le_refl _), rfl, fun zs hzs => ?_⟩, ⟨⟨u, ?_⟩, st1.1.at fun o z => (sb.2 c (Ne.symm n1)).trans z, n1, n2, n3⟩, fun b hb => ?_⟩
    · rw [I.tuple_inj hzs hq]
      exact hy
    · have z : ((i + 1 : Nat) : Int) = (i : Int) + 1 := by omega
      rw [z]
      exact io2
    · rcases two hb with rfl | rfl
      · rw [upd_ne (Nat.ne_of_lt le)]
        exact (fp _ hb).1
      · rw [upd_ne (Nat.ne_of_lt lc)]
        exact (fp _ hb).1
  · intro X eP ew eK calm i pins s σ H E1 I fp st hend
    subst eP ew eK
    obtain ⟨⟨v, ie⟩, it, n1, n2, n3⟩ := st
    obtain ⟨ys, hq, hl⟩ := hend
    obtain ⟨us, rv, pt, hz⟩ := I.tuple hq
    obtain ⟨f0, f1, f2, f3, f4, f5⟩ := fp c (List.mem_cons_of_mem _ (List.mem_cons_self ..))
    have hh : X.A.in1.handled = none := I.ok.hd calm
    have en : us.toArray.size = i := by
      rw [List.size_toArray, ← rv.length, hl]
    refine wpAny_pyNext_enum_endD (Draws.tuple hh c a n3 us.toArray) ie (by rw [en]; exact ⟨it, pt⟩) fun h1 eb => ⟨rfl, ?_⟩
    exact I.turned (t' := s.toks) (fun b o hb z => eb b o hb z) f0 f1 f3 f4 f5
  · rintro A1 i s Q E1 ⟨⟨v, ie⟩, _⟩ h
    exact wpAny_pyIter_enum ie h
/-- enumerate(x), of a list or a tuple -/
def iEnumA (K : PySem.W.Frag) (te : TE) : TI := fun σ H R => te σ H fun v H1 => ∃ a ys, v = .ref a ∧ ((SqL K H1 a ys ∧ R (Ite K a) H1) ∨ (SqT K H1 a ys ∧ R (IteT K a) H1))
section
variable {X : Cx}
theorem pi_enumA {e : Expr} {te : TE} {p pos tpos : Pos} {es : List Expr} {kk : Nat} (hg : Gl X "enumerate") (hm : X.mg "enumerate" = none) (he : PE X e te) (hs : starEach [e] X.env = [(false, eval e X.env)] := by rfl) :
    PI X (.Tuple es kk tpos) (.Call (.Name "enumerate" p) [e] [] pos) (iEnumA X.K te) := by
  refine ⟨fun pins s σ H R I hyp => ?_⟩
  have ha := (pa_cons he pa_nil hs).run pos pins s σ H (fun vs H1 => match vs with
    | [v] => ∃ a ys, v = .ref a ∧ ((SqL X.K H1 a ys ∧ R (Ite X.K a) H1) ∨ (SqT X.K H1 a ys ∧ R (IteT X.K a) H1))
    | _ => False) I hyp
  refine Call_ (ld_blt I hg hm boot_enumerate (PyProof.Rows.callWith_type1 (thn ha fun us s1 ⟨vs, H1, I1, r1, q1⟩ => ?_) hs rfl))
  cases r1 with
  | nil => exact q1.elim
  | cons r rr =>
    cases rr with
    | cons _ _ => exact q1.elim
    | nil =>
      obtain ⟨a, ys, rfl, q1⟩ := q1
      cases r
      have fresh2 : ∀ b ∈ [s1.heap.objs.size + 1, s1.heap.objs.size], FpOk X pins H1 b := fun b hb => by
        have lo : s1.heap.objs.size ≤ b := by
          rcases two hb with z | z
          · rw [z]
            exact Nat.le_add_right _ _
          · rw [z]
            exact Nat.le_refl _
        exact I1.fpOk lo (I1.hok.fresh lo)
      rcases q1 with ⟨hq, q⟩ | ⟨hq, q⟩
      · obtain ⟨us, rv, pl, hz⟩ := I1.list hq
        refine callEnum (begins_list a us.toArray) pl.isList fun h1 ie ii kp => wpAny_pyIter_enum ie ?_
        exact ⟨s1.heap.objs.size + 1, [s1.heap.objs.size + 1, s1.heap.objs.size], _, _, H1, rfl, I1.kept (t' := s1.toks) kp, turn_enum a _ _, ⟨⟨.none, ie⟩, ⟨_, ii, rfl, rfl⟩, Nat.succ_ne_self _⟩, fresh2, q⟩
      · obtain ⟨us, rv, pt, hz⟩ := I1.tuple hq
        have la : a < s1.heap.objs.size := by
          obtain ⟨_, z, _⟩ := id pt
          exact Heap.lt_size z
        refine callEnum (begins_tuple a us.toArray) pt fun h1 ie ii kp => wpAny_pyIter_enum ie ?_
        exact ⟨s1.heap.objs.size + 1, [s1.heap.objs.size + 1, s1.heap.objs.size], _, _, H1, rfl, I1.kept (t' := s1.toks) kp, turn_enumT a _ _, ⟨⟨.none, ie⟩, ⟨_, ii, rfl, rfl⟩, Nat.succ_ne_self _, Nat.ne_of_gt (Nat.lt_succ_of_lt la), Nat.ne_of_lt la⟩, fresh2, q⟩
theorem walk_enumT {K : PySem.W.Frag} {a : Addr} {xs : List V} : Walk (IteT K a) xs.length (fun H => SqT K H a xs) (YPair (fun i => some (.int (i : Nat))) (fun i => xs[i]?)) := by
  refine ⟨fun i _ hi q => ⟨xs, xs[i], q, by simp [hi]⟩, fun _ q => ⟨xs, q, rfl⟩, fun i H v H' _ q y => ?_⟩
  obtain ⟨T, x, h1, h2, h3, h4⟩ := y
  exact ⟨T, .int (i : Nat), x, h1, h2, h3, rfl, h4 xs q⟩

/-! ### sum, of a list or a tuple of ints -/
def rSumA (K : PySem.W.Frag) : List V → Hp → VK → Prop := fun vs H Q => ∃ (a : Addr) (ns : List Int), vs = [V.ref a] ∧ (SqL K H a (ns.map V.int) ∨ SqT K H a (ns.map V.int)) ∧ Q (.int ns.sum) H
theorem call_sumA (calm : X.calm = true) : CallR X (.builtin "sum") (rSumA X.K) := by
  rintro pins s σ H vs us Q I r ⟨a, ns, rfl, hs | hs, q⟩
  · exact cr_sum calm pins s σ H _ us Q I r ⟨a, ns, rfl, hs, q⟩
  · obtain ⟨its, rv, pt, _⟩ := I.tuple hs
    rw [Vals.ref1 r]
    have hi := rv.ints
    obtain ⟨zs, e⟩ := hi.allInts.items
    have hn : numsOf (intItems zs).toList = ns := by
      rw [← e]
      exact hi.numsOf
    rw [nums_intItems] at hn
    rw [e] at pt
    refine PySem.W.ktm_sumG (I.ok.hd calm) pt fun h1 tk t1 kp => ?_
    rw [preSum_eq, List.take_of_length_le (by simp), hn]
    exact ⟨.int ns.sum, H, I.kept kp, ⟨_, rfl⟩, q⟩
/-- x[lo:hi], of a list or a tuple -/
theorem sl_seqA : SlR X (fun x lo hi H Q => rSlL X.K x lo hi H Q ∨ rSlP X.K x lo hi H Q) := sl_list.or sl_tupP
/-- a list times an int -/
def rRepL (K : PySem.W.Frag) : R2 := fun x y H Q => ∃ l xs, x = .ref l ∧ y = .int 2 ∧ H l = some (.lst xs) ∧ xs.length * 2 ≤ sizeLine ∧ ∀ p, H p = none → Q (.ref p) (upd H p (.lst (xs ++ xs)))
theorem op_repL : OpR X (binaryOp .Mult) (rRepL X.K) := by
  rintro pins s σ H x y v u Q I rx ry ⟨l, xs, rfl, rfl, hH, hz, q⟩
  refine op_rep pins s σ H _ _ v u Q I rx ry ⟨l, 2, xs, rfl, rfl, hH, by decide, by decide, hz, fun p np => ?_⟩
  have e : (List.replicate (2 : Int).toNat xs).flatten = xs ++ xs := by
    show (List.replicate 2 xs).flatten = _
    simp [List.replicate]
  rw [e]
  exact q p np
end
end DL

/-! Data rules over lists and tuples alike; loops over them. -/
namespace DL
open PySem PySem.Spec PyProof.Rows L2
section
variable {w : Wd} {o o1 o2 : Addr → Prop} {H H1 H2 : Hp} {σ : L2.St} {ρ : List Sl} {v : V} {x : Sl} {P : Sl → Prop} {te ta tb tl : TE} {tt tu : TT} {tr : TA} {ts t1 t2 : TS} {e : En} {d : PyData}
/-- the items of a list or a tuple -/
def seqD : Sl → Option (List PyData)
  | .dat (.list ds) => some ds
  | .dat (.tuple ds) => some ds
  | .own _ ds => some ds
  | _ => none
theorem VR.seq {ds : List PyData} (r : VR w o H v x) (h : seqD x = some ds) : ∃ a vs, v = .ref a ∧ DdAll w.K (hid H o) vs ds ∧ (SqL w.K H a vs ∨ SqT w.K H a vs) := by
  cases x with
  | no => cases h
  | bag => cases h
  | ownD _ _ => cases h
  | fn _ _ _ => cases h
  | own p xs =>
    cases h
    obtain ⟨rfl, hp, n, vs, e1, ha⟩ := r
    exact ⟨p, vs, rfl, ha, .inl (.inl (.inl e1))⟩
  | dat c =>
    cases c with
    | list xs =>
      cases h
      cases r with
      | lst hs ha => exact ⟨_, _, rfl, ha, .inl (hid_le.seq hs)⟩
    | tuple xs =>
      cases h
      cases r with
      | tup hs ha => exact ⟨_, _, rfl, ha, .inr (sqT_mono hid_le hs.t)⟩
    | none => cases h
    | bool _ => cases h
    | int _ => cases h
    | str _ => cases h
    | dict _ => cases h
theorem VR.seqDat {ds : List PyData} {c : PyData} (r : VR w o H v (.dat c)) (h : seqD (.dat c) = some ds) : ∃ a vs, v = .ref a ∧ DdAll w.K (hid H o) vs ds ∧ (SqL w.K (hid H o) a vs ∨ SqT w.K (hid H o) a vs) := by
  cases c with
  | list xs =>
    cases h
    cases r with
    | lst hs ha => exact ⟨_, _, rfl, ha, .inl hs⟩
  | tuple xs =>
    cases h
    cases r with
    | tup hs ha => exact ⟨_, _, rfl, ha, .inr hs.t⟩
  | none => cases h
  | bool _ => cases h
  | int _ => cases h
  | str _ => cases h
  | dict _ => cases h
theorem cl_sumA : Cl w (rSumA w.K) (fun xs P => ∃ (x : Sl) (ns : List Int), xs = [x] ∧ seqD x = some (ns.map PyData.int) ∧ P (.dat (.int ns.sum))) := by
  rintro o H vs xs P Q b r ⟨x, ns, rfl, hx, q⟩ k
  cases r with
  | cons r t =>
    cases t
    obtain ⟨a, us, rfl, ha, hs⟩ := r.seq hx
    have e := DdAll.ints ha
    subst e
    exact ⟨a, ns, rfl, hs, k o H _ _ b.refl (VR.dat (Dd.int _)) q⟩
theorem cl_lenQ : Cl w (fun xs H Q => ∃ x n, xs = [x] ∧ LenV w.K x H n ∧ Q (.int n) H) (fun xs P => ∃ (x : Sl) (ds : List PyData), xs = [x] ∧ seqD x = some ds ∧ P (.dat (.int (ds.length : Nat)))) := by
  rintro o H vs xs P Q b r ⟨x, ds, rfl, hx, q⟩ k
  cases r with
  | cons r t =>
    cases t
    obtain ⟨a, us, rfl, ha, hs⟩ := r.seq hx
    refine ⟨.ref a, ds.length, rfl, ?_, k o H _ _ b.refl (VR.dat (Dd.int _)) q⟩
    rcases hs with hs | hs
    · exact .inl ⟨us, hs, (DdAll.len ha).symm⟩
    · exact .inr ⟨us, hs, (DdAll.len ha).symm⟩
theorem cl_tuple : Cl w (rTupP w.K)
    (fun xs P => ∃ x ds, xs = [x] ∧ seqD x = some ds ∧ P (.dat (.tuple ds))) := by
  rintro o H vs xs P Q b r ⟨x, ds, rfl, hx, q⟩ k
  cases r with
  | cons r t =>
    cases t
    have new : ∀ a us, DdAll w.K (hid H o) us ds → SqL w.K H a us → rTupP w.K [V.ref a] H Q := by
      intro a us ha hs
      refine ⟨a, us, rfl, .inl ⟨hs, fun p ob np nd => ?_⟩⟩
      have g := b.new (u := .frz ob (.tup us)) np
      exact k o _ _ _ g (VR.dat (Dd.tup (b.seenP np nd) (ddAll_mono g.same ha))) q
    cases x with
    | no => cases hx
    | bag => cases hx
    | ownD _ _ => cases hx
    | fn _ _ _ => cases hx
    | own p zs =>
      obtain ⟨a, us, rfl, ha, hs⟩ := r.lst (show lstD (.own p zs) = some ds from hx)
      exact new a us hs ha
    | dat c =>
      cases c with
      | list zs =>
        obtain ⟨a, us, rfl, ha, hs⟩ := r.lst (show lstD (.dat (.list zs)) = some ds from hx)
        exact new a us hs ha
      | tuple zs =>
        cases hx
        cases id r with
        | tup hs ha => exact ⟨_, _, rfl, .inr ⟨sqT_mono hid_le hs.t, k o H _ _ b.refl r q⟩⟩
      | none => cases hx
      | bool _ => cases hx
      | int _ => cases hx
      | str _ => cases hx
      | dict _ => cases hx
theorem cl_list : Cl w (fun xs H Q => ∃ p ys, xs = [.ref p] ∧ (SqL w.K H p ys ∨ SqT w.K H p ys) ∧ ∀ l, H l = none → Q (.ref l) (upd H l (.lst ys)))
    (fun xs P => ∃ x ds, xs = [x] ∧ seqD x = some ds ∧ P (.dat (.list ds))) := by
  rintro o H vs xs P Q b r ⟨x, ds, rfl, hx, q⟩ k
  cases r with
  | cons r t =>
    cases t
    obtain ⟨a, us, rfl, ha, hs⟩ := r.seq hx
    refine ⟨a, us, rfl, hs, fun p np => ?_⟩
    have g := b.new (u := .lst us) np
    exact k o _ _ _ g (VR.dat (Dd.lst (.inl (.inl (b.seen np))) (ddAll_mono g.same ha))) q
/-- a slice -/
def cutX : Sl → Option Int → Option Int → Option PyData
  | .dat (.list ds), lo, hi => some (.list (cutD ds lo hi))
  | .dat (.tuple ds), lo, hi => some (.tuple (cutD ds lo hi))
  | .own _ ds, lo, hi => some (.list (cutD ds lo hi))
  | _, _, _ => none
theorem e_slA {tlo thi : TO} (h : E w te ρ fun x => O w tlo ρ fun lo => O w thi ρ fun hi => ∃ y, cutX x lo hi = some y ∧ P (.dat y)) :
    E w (tSl (fun x lo hi H Q => rSlL w.K x lo hi H Q ∨ rSlP w.K x lo hi H Q) te tlo thi) ρ P := by
  intro o σ H Q ok k
  refine h o σ H _ ok ?_
  rintro o1 H1 v x g1 r1 q
  refine q o1 σ H1 _ (ok.go g1) ?_
  intro o2 H2 lo g2 q2
  refine q2 o2 σ H2 _ (ok.go (g1.trans g2)) ?_
  rintro o3 H3 hi g3 ⟨y, hy, q3⟩
  have b3 := ok.toBas.go ((g1.trans g2).trans g3)
  have r3 := r1.go (ok.toBas.go g1) (g2.trans g3)
  have new : ∀ a xs ds, DdAll w.K (hid H3 o3) xs ds → SqL w.K H3 a xs → y = .list (cutD ds lo hi) → rSlL w.K (.ref a) lo hi H3 Q := by
    rintro a xs ds d1 s1 rfl
    refine ⟨a, xs, rfl, s1, fun p np => ?_⟩
    have g := b3.new (u := .lst (cutV xs lo hi)) np
    exact k o3 _ _ _ (((g1.trans g2).trans g3).trans g) (VR.dat (Dd.lst (.inl (.inl (b3.seen np))) (ddAll_mono g.same (DdAll.cut d1 lo hi)))) q3
  cases x with
  | no => cases hy
  | bag => cases hy
  | ownD _ _ => cases hy
  | fn _ _ _ => cases hy
  | own p zs =>
    cases hy
    obtain ⟨a, us, rfl, hs, ha⟩ := r3.lst (show lstD (.own p zs) = some zs from rfl)
    exact .inl (new a us zs ha hs rfl)
  | dat c =>
    cases c with
    | list zs =>
      cases hy
      obtain ⟨a, us, rfl, hs, ha⟩ := r3.lst (show lstD (.dat (.list zs)) = some zs from rfl)
      exact .inl (new a us zs ha hs rfl)
    | tuple zs =>
      cases hy
      cases r3 with
      | tup hs ha =>
        rename_i a xs
        refine .inr ⟨a, xs, rfl, sqT_mono hid_le hs.t, fun hw => ?_, fun _ p ob np nd => ?_⟩
        · have ln := DdAll.len ha
          have e : cutD zs lo hi = zs := by
            unfold cutD
            rw [ln] at hw
            rw [hw.1, hw.2]
            simp
          rw [e] at q3
          exact k o3 _ _ _ ((g1.trans g2).trans g3) (VR.dat (Dd.tup hs ha)) q3
        · have g := b3.new (u := .frz ob (.tup (cutV xs lo hi))) np
          exact k o3 _ _ _ (((g1.trans g2).trans g3).trans g) (VR.dat (Dd.tup (b3.seenP np nd) (ddAll_mono g.same (DdAll.cut ha lo hi)))) q3
    | none => cases hy
    | bool _ => cases hy
    | int _ => cases hy
    | str _ => cases hy
    | dict _ => cases hy

/-! ### is None -/
def isNo : PyData → Bool
  | .none => true
  | _ => false
theorem no_iff {K : PySem.W.Frag} (r : Dd K H v d) : decide (v = V.non) = isNo d := by
  cases r <;> simp [isNo]
theorem op2_isN : Op2 w (fun x y H Q => y = .non ∧ Q (.bl (decide (x = .non))) H) (fun x y P => ∃ d, x = .dat d ∧ y = .dat .none ∧ P (.dat (.bool (isNo d)))) := by
  rintro o H u v x y P Q b ru rv ⟨d, rfl, rfl, q⟩ k
  cases rv
  refine ⟨rfl, ?_⟩
  rw [no_iff ru]
  exact k o H _ _ b.refl (VR.dat (Dd.bl _)) q
theorem op2_notN : Op2 w (fun x y H Q => y = .non ∧ Q (.bl (!decide (x = .non))) H) (fun x y P => ∃ d, x = .dat d ∧ y = .dat .none ∧ P (.dat (.bool (!isNo d)))) := by
  rintro o H u v x y P Q b ru rv ⟨d, rfl, rfl, q⟩ k
  cases rv
  refine ⟨rfl, ?_⟩
  rw [no_iff ru]
  exact k o H _ _ b.refl (VR.dat (Dd.bl _)) q
/-- [..] * 2 -/
theorem e_rep2 (h : A w tr ρ fun xs => ∃ ds, undats xs = some ds ∧ ds.length * 2 ≤ sizeLine ∧ P (.dat (.list (ds ++ ds)))) : E w (tOp (rRepL w.K) (tLst tr) (tC (.int 2))) ρ P := by
  intro o σ H Q ok k
  refine h o σ H _ ok ?_
  rintro o1 H1 vs xs g1 r1 ⟨ds, hu, hl, q⟩
  have hu2 := undats_some hu
  subst hu2
  have ha := VRs.dats r1
  have ln := DdAll.len ha
  refine ⟨by rw [ln]; omega, fun p np => ?_⟩
  have b1 := ok.toBas.go g1
  have g2 := b1.new (u := .lst vs) np
  have b2 := b1.go g2
  refine ⟨p, vs, rfl, rfl, upd_same, by rw [ln]; exact hl, fun p2 np2 => ?_⟩
  have g3 := b2.new (u := .lst (vs ++ vs)) np2
  have ha2 := ddAll_mono g2.same ha
  exact k o1 _ _ _ ((g1.trans g2).trans g3) (VR.dat (Dd.lst (.inl (.inl (b2.seen np2))) (ddAll_mono g3.same (DdAll.app ha2 ha2)))) q

/-! ### loops over lists and tuples -/
open Classical in
/-- from here on what stands now is kept -/
noncomputable def wAt (w : Wd) (o1 : Addr → Prop) (H1 : Hp) : Wd := ⟨w.K, fun a => if w.own0 a then w.H0 a else hid H1 o1 a, w.own0, w.bg, w.tb⟩
theorem wAt_own {a : Addr} (h : w.own0 a) : (wAt w o1 H1).H0 a = w.H0 a := if_pos h
theorem wAt_hid (b : Bas w o1 H1) : hid (wAt w o1 H1).H0 (wAt w o1 H1).own0 = hid H1 o1 := by
  funext a
  by_cases h : w.own0 a
  · have e1 : hid (wAt w o1 H1).H0 (wAt w o1 H1).own0 a = none := if_pos h
    have e2 : hid H1 o1 a = none := if_pos (b.sub a h)
    rw [e1, e2]
  · have e1 : hid (wAt w o1 H1).H0 (wAt w o1 H1).own0 a = (wAt w o1 H1).H0 a := if_neg h
    rw [e1]
    exact if_neg h
theorem bas_in (b1 : Bas w o1 H1) (b : Bas w o H) (s : Same (hid H1 o1) (hid H o)) : Bas (wAt w o1 H1) o H :=
  ⟨by rw [wAt_hid b1]; exact s, b.sub, fun a h n => (b.keep a h n).trans (wAt_own (w := w) (o1 := o1) (H1 := H1) h).symm, b.bag, b.tab, b.here⟩
theorem bas_out (b1 : Bas w o1 H1) (b : Bas (wAt w o1 H1) o H) : Bas w o H ∧ Same (hid H1 o1) (hid H o) := by
  have s : Same (hid H1 o1) (hid H o) := by
    have := b.grow
    rw [wAt_hid b1] at this
    exact this
  exact ⟨⟨b1.grow.trans s, b.sub, fun a h n => (b.keep a h n).trans (wAt_own (w := w) (o1 := o1) (H1 := H1) h), b.bag, b.tab, b.here⟩, s⟩
theorem vr_at : VR (wAt w o1 H1) o H v x = VR w o H v x := by
  cases x <;> rfl
theorem ok_in (b1 : Bas w o1 H1) (k : Ok w o σ H ρ) (s : Same (hid H1 o1) (hid H o)) : Ok (wAt w o1 H1) o σ H ρ :=
  ⟨bas_in b1 k.toBas s, k.len, fun i x e => (k.slot i x e).imp id fun ⟨v, hv, r⟩ => ⟨v, hv, by rw [vr_at]; exact r⟩, k.apart⟩
theorem ok_out (b1 : Bas w o1 H1) (k : Ok (wAt w o1 H1) o σ H ρ) : Ok w o σ H ρ ∧ Same (hid H1 o1) (hid H o) := by
  obtain ⟨b, s⟩ := bas_out b1 k.toBas
  exact ⟨⟨b, k.len, fun i x e => (k.slot i x e).imp id fun ⟨v, hv, r⟩ => ⟨v, hv, by rw [vr_at] at r; exact r⟩, k.apart⟩, s⟩
/-- a loop's hypotheses: from I at each turn to I at the next, whatever stands at the entry -/
def Turns (w : Wd) (ts : TS) (e : En) (I : Nat → List Sl → Prop) (k : Nat) (ρ : List Sl) : Prop :=
  ∀ H0 : Hp, S ⟨w.K, H0, w.own0, w.bg, w.tb⟩ ts ρ { e with nx := I (k + 1), ct := I (k + 1), bk := e.nx }
theorem s_forE {i j m : Nat} (hm : m = 2) (h : E w te ρ fun x => ∃ c ds, x = .dat c ∧ seqD (.dat c) = some ds ∧ ∃ I : Nat → List Sl → Prop, I 0 ρ ∧
      (∀ (k : Nat) (d : PyData) (ρ' : List Sl), ds[k]? = some d → I k ρ' → Turns w ts e I k ((ρ'.set i (.dat (.int (k : Int)))).set j (.dat d))) ∧ ∀ ρ', I ds.length ρ' → e.nx ρ') :
    S w (tFor (iEnumA w.K te) (gTup w.K m (gCons (gName i) (gCons (gName j) gNil))) ts) ρ e := by
  subst hm
  intro o σ H D ok kn kr kb kc
  refine h o σ H _ ok ?_
  rintro o1 H1 v x g1 r1 ⟨c, ds, rfl, hx, I, h0, hs, hd⟩
  have ok1 := ok.go g1
  obtain ⟨a, vs, rfl, ha, hq⟩ := r1.seqDat hx
  have ln := DdAll.len ha
  have b1 := ok1.toBas
  have okA := ok_in b1 ok1 (Same.refl _)
  have fin : ∀ σ' H', (∃ o' ρ', Ok (wAt w o1 H1) o' σ' H' ρ' ∧ I vs.length ρ') → D.nx σ' H' := by
    rintro σ' H' ⟨o', ρ', k1, i1⟩
    rw [ln] at i1
    exact kn o' σ' H' ρ' (ok_out b1 k1).1 (hd ρ' i1)
  have step : ∀ (k : Nat) (y : V) (σ2 : L2.St) (H2 H3 : Hp), k < vs.length → (∃ o' ρ', Ok (wAt w o1 H1) o' σ2 H2 ρ' ∧ I k ρ') →
      YPair (fun i => some (.int (i : Nat))) (fun i => vs[i]?) k H2 y H3 →
      gTup w.K 2 (gCons (gName i) (gCons (gName j) gNil)) y σ2 H3 fun σ4 H4 => ts { D with
        nx := fun σ' H' => ∃ o' ρ', Ok (wAt w o1 H1) o' σ' H' ρ' ∧ I (k + 1) ρ',
        ct := fun σ' H' => ∃ o' ρ', Ok (wAt w o1 H1) o' σ' H' ρ' ∧ I (k + 1) ρ', bk := D.nx } σ4 H4 := by
    rintro k y σ2 H2 H3 hk ⟨o2, ρ2, ok2, i2⟩ ⟨p, u1, u2, rfl, np, rfl, e1, e2⟩
    cases e1
    obtain ⟨_, s2⟩ := ok_out b1 ok2
    obtain ⟨d, hd1, rd⟩ := DdAll.gets (ddAll_mono s2 ha) e2
    have g := ok2.toBas.new (u := .tup [.int (k : Nat), u2]) np
    refine ⟨p, _, rfl, .inl (.inl upd_same), rfl, _, _, rfl, _, _, rfl, rfl, ?_⟩
    refine hs k d ρ2 hd1 i2 (wAt w o1 H1).H0 o2 _ _ _ (((ok2.go g).setD i (x := .dat (.int (k : Int))) (Dd.int _) trivial).setD j (x := .dat d) (dd_mono g.same rd) trivial) ?_ ?_ ?_ ?_
    · intro o' σ' H' ρ' a1 a2
      exact ⟨o', ρ', a1, a2⟩
    · intro o' H' v' d' a1 a2 a3
      exact kr o' H' v' d' (bas_out b1 a1).1 a2 a3
    · intro o' σ' H' ρ' a1 a2
      exact kn o' σ' H' ρ' (ok_out b1 a1).1 a2
    · intro o' σ' H' ρ' a1 a2
      exact ⟨o', ρ', a1, a2⟩
  refine ⟨a, vs, rfl, ?_⟩
  rcases hq with hq | hq
  · refine .inl ⟨hid_le.seq hq, ?_⟩
    exact for_it walk_enum (fun k σ' H' => ∃ o' ρ', Ok (wAt w o1 H1) o' σ' H' ρ' ∧ I k ρ') ⟨o1, ρ, okA, h0⟩
      (fun k σ' H' _ ⟨o', ρ', k1, _⟩ => hid_le.seq ((ok_out b1 k1).2.seq hq)) step fin
  · refine .inr ⟨sqT_mono hid_le hq, ?_⟩
    exact for_it walk_enumT (fun k σ' H' => ∃ o' ρ', Ok (wAt w o1 H1) o' σ' H' ρ' ∧ I k ρ') ⟨o1, ρ, okA, h0⟩
      (fun k σ' H' _ ⟨o', ρ', k1, _⟩ => sqT_mono hid_le (sqT_mono (ok_out b1 k1).2 hq)) step fin
theorem s_forT {j : Nat} (h : E w te ρ fun x => ∃ ds, x = .dat (.tuple ds) ∧ ∃ I : Nat → List Sl → Prop, I 0 ρ ∧
      (∀ (k : Nat) (d : PyData) (ρ' : List Sl), ds[k]? = some d → I k ρ' → Turns w ts e I k (ρ'.set j (.dat d))) ∧ ∀ ρ', I ds.length ρ' → e.nx ρ') :
    S w (tFor (iTup w.K te) (gName j) ts) ρ e := by
  intro o σ H D ok kn kr kb kc
  refine h o σ H _ ok ?_
  rintro o1 H1 v x g1 r1 ⟨ds, rfl, I, h0, hs, hd⟩
  have ok1 := ok.go g1
  cases r1 with
  | tup hq ha =>
    rename_i a vs
    have ln := DdAll.len ha
    have b1 := ok1.toBas
    have okA := ok_in b1 ok1 (Same.refl _)
    refine ⟨a, rfl, ⟨vs, sqT_mono hid_le hq.t⟩, ?_⟩
    refine for_it walk_tup (fun k σ' H' => ∃ o' ρ', Ok (wAt w o1 H1) o' σ' H' ρ' ∧ I k ρ') ⟨o1, ρ, okA, h0⟩ (fun k σ' H' _ ⟨o', ρ', k1, _⟩ => sqT_mono hid_le (sqT_mono (ok_out b1 k1).2 hq.t)) ?_ ?_
    · rintro k y σ2 H2 H3 hk ⟨o2, ρ2, ok2, i2⟩ ⟨rfl, e2⟩
      obtain ⟨_, s2⟩ := ok_out b1 ok2
      obtain ⟨d, hd1, rd⟩ := DdAll.gets (ddAll_mono s2 ha) e2
      refine hs k d ρ2 hd1 i2 (wAt w o1 H1).H0 o2 _ _ _ (ok2.setD j (x := .dat d) rd trivial) ?_ ?_ ?_ ?_
      · intro o' σ' H' ρ' a1 a2
        exact ⟨o', ρ', a1, a2⟩
      · intro o' H' v' d' a1 a2 a3
        exact kr o' H' v' d' (bas_out b1 a1).1 a2 a3
      · intro o' σ' H' ρ' a1 a2
        exact kn o' σ' H' ρ' (ok_out b1 a1).1 a2
      · intro o' σ' H' ρ' a1 a2
        exact ⟨o', ρ', a1, a2⟩
    · rintro σ' H' ⟨o', ρ', k1, i1⟩
      rw [ln] at i1
      exact kn o' σ' H' ρ' (ok_out b1 k1).1 (hd ρ' i1)
theorem s_forL {j : Nat} (h : E w te ρ fun x => ∃ ds, x = .dat (.list ds) ∧ ∃ I : Nat → List Sl → Prop, I 0 ρ ∧
      (∀ (k : Nat) (d : PyData) (ρ' : List Sl), ds[k]? = some d → I k ρ' → Turns w ts e I k (ρ'.set j (.dat d))) ∧ ∀ ρ', I ds.length ρ' → e.nx ρ') :
    S w (tFor (iList w.K te) (gName j) ts) ρ e := by
  intro o σ H D ok kn kr kb kc
  refine h o σ H _ ok ?_
  rintro o1 H1 v x g1 r1 ⟨ds, rfl, I, h0, hs, hd⟩
  have ok1 := ok.go g1
  cases r1 with
  | lst hq ha =>
    rename_i a vs
    have ln := DdAll.len ha
    have b1 := ok1.toBas
    have okA := ok_in b1 ok1 (Same.refl _)
    refine ⟨a, rfl, ⟨vs, hid_le.seq hq⟩, ?_⟩
    refine for_it walk_list (fun k σ' H' => ∃ o' ρ', Ok (wAt w o1 H1) o' σ' H' ρ' ∧ I k ρ') ⟨o1, ρ, okA, h0⟩ (fun k σ' H' _ ⟨o', ρ', k1, _⟩ => hid_le.seq ((ok_out b1 k1).2.seq hq)) ?_ ?_
    · rintro k y σ2 H2 H3 hk ⟨o2, ρ2, ok2, i2⟩ ⟨rfl, e2⟩
      obtain ⟨_, s2⟩ := ok_out b1 ok2
      obtain ⟨d, hd1, rd⟩ := DdAll.gets (ddAll_mono s2 ha) e2
      refine hs k d ρ2 hd1 i2 (wAt w o1 H1).H0 o2 _ _ _ (ok2.setD j (x := .dat d) rd trivial) ?_ ?_ ?_ ?_
      · intro o' σ' H' ρ' a1 a2
        exact ⟨o', ρ', a1, a2⟩
      · intro o' H' v' d' a1 a2 a3
        exact kr o' H' v' d' (bas_out b1 a1).1 a2 a3
      · intro o' σ' H' ρ' a1 a2
        exact kn o' σ' H' ρ' (ok_out b1 a1).1 a2
      · intro o' σ' H' ρ' a1 a2
        exact ⟨o', ρ', a1, a2⟩
    · rintro σ' H' ⟨o', ρ', k1, i1⟩
      rw [ln] at i1
      exact kn o' σ' H' ρ' (ok_out b1 k1).1 (hd ρ' i1)
end
end DL

/-! Comprehensions told by what they make; sizes of ints; lists of fine data. -/
namespace DL
open PySem PySem.Spec PyProof.Rows L2 TL
section
variable {w : Wd} {ρ : List Sl} {P : Sl → Prop} {te tl : TE} {tt : TT} {tr : TA}
/-- [e for i in range(n)], the i-th item told by f -/
theorem e_lcFn {j : Nat} (f : Nat → PyData) (h : A w tr ρ fun xs => ∃ n : Int, xs = [.dat (.int n)] ∧ -(2 ^ 62) ≤ n ∧ n ≤ 1000000 ∧
      (∀ i : Nat, (i : Int) < n → E w te ((ρ.set j .no).set j (.dat (.int (i : Int)))) fun y => y = .dat (f i)) ∧ P (.dat (.list ((List.range n.toNat).map f)))) :
    E w (tLc (iRng1 tr) (gName j) tYes te [j]) ρ P := by
  refine e_lcR ?_
  intro o σ H Q ok k
  refine h o σ H Q ok ?_
  rintro o' H' vs xs g r ⟨n, hx, h1, h2, hs, hp⟩
  refine k o' H' vs xs g r ⟨n, hx, h1, h2, fun i acc => acc = (List.range i).map f, rfl, ?_, ?_⟩
  · rintro i acc hi rfl
    unfold Lc
    refine t_yes (iteT ?_)
    refine E.mono (hs i hi) ?_
    rintro x rfl
    refine ⟨_, rfl, ?_⟩
    show List.map f (List.range i) ++ [f i] = List.map f (List.range (i + 1))
    rw [List.range_succ, List.map_append]
    rfl
  · rintro acc rfl _
    exact hp
/-- [e for i in range(n)], each item an int of which Pr holds -/
theorem e_lcInts {j : Nat} (Pr : Int → Prop) (h : A w tr ρ fun xs => ∃ n : Int, xs = [.dat (.int n)] ∧ 0 ≤ n ∧ n ≤ 1000000 ∧
      (∀ i : Nat, (i : Int) < n → E w te ((ρ.set j .no).set j (.dat (.int (i : Int)))) fun y => ∃ z : Int, y = .dat (.int z) ∧ Pr z) ∧
      ∀ ns : List Int, (ns.length : Int) = n → (∀ z ∈ ns, Pr z) → P (.dat (.list (ns.map PyData.int)))) :
    E w (tLc (iRng1 tr) (gName j) tYes te [j]) ρ P := by
  refine e_lcR ?_
  intro o σ H Q ok k
  refine h o σ H Q ok ?_
  rintro o' H' vs xs g r ⟨n, hx, h1, h2, hs, hp⟩
  refine k o' H' vs xs g r ⟨n, hx, by omega, h2, fun i acc => ∃ ns : List Int, acc = ns.map PyData.int ∧ ns.length = i ∧ ∀ z ∈ ns, Pr z, ⟨[], rfl, rfl, fun _ z => nomatch z⟩, ?_, ?_⟩
  · rintro i acc hi ⟨ns, rfl, hl, ha⟩
    unfold Lc
    refine t_yes (iteT ?_)
    refine E.mono (hs i hi) ?_
    rintro x ⟨z, rfl, hz⟩
    refine ⟨_, rfl, ns ++ [z], by rw [List.map_append]; rfl, by rw [List.length_append, hl]; rfl, fun y hy => ?_⟩
    rcases List.mem_append.mp hy with hy | hy
    · exact ha y hy
    · rw [List.mem_singleton.mp hy]
      exact hz
  · rintro acc ⟨ns, rfl, hl, ha⟩ _
    exact hp ns (by omega) ha
/-- [1 for d in ds if ..] -/
theorem e_lcCnt {j : Nat} (g : PyData → Bool) (h : E w tl ρ fun x => ∃ ds, lstD x = some ds ∧ ds.length ≤ sizeLine ∧
      (∀ d ∈ ds, T w tt ((ρ.set j .no).set j (.dat d)) fun b => b = g d) ∧ P (.dat (.list (List.replicate (ds.filter g).length (.int 1))))) :
    E w (tLc (iList w.K tl) (gName j) tt (tC (.int 1)) [j]) ρ P := by
  refine e_lcL ?_
  refine E.mono h ?_
  rintro x ⟨ds, hx, hz, ht, hp⟩
  refine ⟨ds, hx, hz, fun i acc => acc = List.replicate ((ds.take i).filter g).length (.int 1), rfl, ?_, ?_⟩
  · rintro i d acc hd rfl
    unfold Lc
    have hm : d ∈ ds := List.mem_of_getElem? hd
    have e : ds.take (i + 1) = ds.take i ++ [d] := by
      rw [List.take_succ, hd]
      rfl
    intro o σ H Q ok k
    refine ht d hm o σ H Q ok ?_
    rintro o' H' b gg rfl
    refine k o' H' _ gg ?_
    cases q : g d with
    | true =>
      refine iteT (e_int ⟨_, rfl, ?_⟩)
      show _ = _
      rw [e, List.filter_append, List.length_append]
      simp [q, List.replicate_succ']
    | false =>
      refine iteF ?_
      show _ = _
      rw [e, List.filter_append, List.length_append]
      simp [q]
  · rintro acc rfl _
    rw [List.take_length]
    exact hp
end
/-- less than 2 to the b, without its sign -/
def Sm (b : Nat) (i : Int) : Prop := i.natAbs < 2 ^ b
instance (b : Nat) (i : Int) : Decidable (Sm b i) := inferInstanceAs (Decidable (i.natAbs < 2 ^ b))
theorem Sm.mono {a b : Nat} {i : Int} (h : Sm a i) (k : a ≤ b) : Sm b i := Nat.lt_of_lt_of_le h (Nat.pow_le_pow_right (by decide) k)
theorem Sm.mul {a b : Nat} {i j : Int} (h : Sm a i) (k : Sm b j) : Sm (a + b) (i * j) := by
  unfold Sm at *
  rw [Int.natAbs_mul, Nat.pow_add]
  exact Nat.mul_lt_mul'' h k
theorem Sm.neg {a : Nat} {i : Int} (h : Sm a i) : Sm a (-i) := by
  unfold Sm at *
  rw [Int.natAbs_neg]
  exact h
theorem Sm.add {a : Nat} {i j : Int} (h : Sm a i) (k : Sm a j) : Sm (a + 1) (i + j) := by
  unfold Sm at *
  have := Int.natAbs_add_le i j
  rw [Nat.pow_succ]
  omega
theorem Sm.sub {a : Nat} {i j : Int} (h : Sm a i) (k : Sm a j) : Sm (a + 1) (i - j) := by
  rw [Int.sub_eq_add_neg]
  exact h.add k.neg
theorem Sm.le {a : Nat} {i j : Int} (h : Sm a j) (h0 : 0 ≤ i) (h1 : i ≤ j) : Sm a i := by
  unfold Sm at *
  omega
theorem Sm.mulX {a b : Nat} {i j : Int} (h : Sm a i) (k : Sm b j) (l : a + b ≤ 134217728) : CMulB i j := .inl (mulx_ok h k l)
theorem Sm.log {a : Nat} {i : Int} (h : Sm a i) (ha : 0 < a) : i.natAbs.log2 < a := by
  by_cases h0 : i.natAbs = 0
  · rw [h0]
    exact ha
  · exact (Nat.log2_lt h0).mpr h
theorem Sm.fd {i j : Int} (h : Sm 9000 i) (hj : j ≠ 0) : CFd i j := by
  refine ⟨hj, ?_⟩
  unfold Builtin.divisionGoesByPylong
  have hl : i.natAbs.log2 < 9000 := h.log (by decide)
  simp only [Bool.and_eq_false_iff, decide_eq_false_iff_not]
  by_cases h1 : ¬ (if (j == 0) = true then 0 else j.natAbs.log2 / 30 + 1) > 300
  · exact .inl h1
  · refine .inr ?_
    have h2 := Classical.not_not.mp h1
    have : (if (i == 0) = true then 0 else i.natAbs.log2 / 30 + 1) ≤ 300 := by
      split <;> omega
    omega
theorem two_sm (k : Nat) : Sm (k + 1) (2 ^ k) := by
  unfold Sm
  rw [Int.natAbs_pow]
  exact Nat.pow_lt_pow_right (by decide) (by omega)
theorem Sm.shl {a : Nat} {i j : Int} (h : Sm a i) (hj : 0 ≤ j) (l : a + j.toNat ≤ 134217728) : CShl i j := by
  obtain ⟨k, rfl⟩ : ∃ k : Nat, j = (k : Int) := ⟨j.toNat, by omega⟩
  exact shl_ok h (by simpa using l)
/-- all of them fine -/
theorem fines_all {m k : Nat} : ∀ {ds : List PyData}, (∀ d ∈ ds, Fine m k d) → Fines ((m + 2) * ds.length) k ds
  | [], _ => ⟨rfl, rfl, Nat.zero_le _, Nat.zero_le _⟩
  | d :: ds, h => by
    have t := fine_cons (h d (List.mem_cons_self ..)) (fines_all fun e he => h e (List.mem_cons_of_mem _ he))
    refine ⟨t.num, t.lay, Nat.le_trans t.len ?_, Nat.le_trans t.deep (by rw [Nat.max_self]; exact Nat.le_refl _)⟩
    rw [List.length_cons, Nat.mul_succ]
    omega
theorem atI_of {α : Type} {xs : List α} {i : Nat} {x : α} (h : xs[i]? = some x) : atI xs (i : Int) = some x := by
  have hl : i < xs.length := (List.getElem?_eq_some_iff.mp h).1
  unfold atI ixN
  rw [if_pos (by omega), if_pos (by omega)]
  simpa using h
theorem of_atI {α : Type} {xs : List α} {i : Int} {x : α} (h0 : 0 ≤ i) (h : atI xs i = some x) : xs[i.toNat]? = some x := by
  unfold atI ixN at h
  rw [if_pos h0] at h
  by_cases hl : i < (xs.length : Int)
  · rw [if_pos hl] at h
    exact h
  · rw [if_neg hl] at h
    cases h
theorem map_getE {α β : Type} {f : α → β} {xs : List α} {i : Nat} {y : β} (h : (xs.map f)[i]? = some y) : ∃ x, xs[i]? = some x ∧ y = f x := by
  rw [List.getElem?_map] at h
  cases q : xs[i]? with
  | none =>
    rw [q] at h
    cases h
  | some x =>
    rw [q] at h
    exact ⟨x, rfl, (Option.some.inj h).symm⟩
theorem cutD_take {ds : List PyData} {i : Int} (h0 : 0 ≤ i) (h1 : i ≤ (ds.length : Int)) : cutD ds none (some i) = ds.take i.toNat := by
  obtain ⟨k, rfl⟩ : ∃ k : Nat, i = (k : Int) := ⟨i.toNat, by omega⟩
  have e1 := HT.sIx_none ds.length 0
  have e2 := HT.sIx_nat ds.length ds.length k
  unfold cutD
  rw [e1, e2]
  simp
end DL

/-! The rules that name the frag, told for a frag that is given: so they can stand in blocks within blocks. -/
namespace DL
open PySem PySem.Spec PyProof.Rows L2
section
variable {X : Cx} {K : PySem.W.Frag}
theorem call_lenK (h : X.K = K) : CallR X (.builtin "len") (fun xs H Q => ∃ x n, xs = [x] ∧ LenV K x H n ∧ Q (.int n) H) := by
  subst h
  exact call_len
theorem call_sumK (h : X.K = K) (calm : X.calm = true) : CallR X (.builtin "sum") (rSumA K) := by
  subst h
  exact call_sumA calm
theorem op_eqK (h : X.K = K) (hu : X.A.units + 64 < cLine) : OpR X (compareOp .Eq) (orR rEqSt (rEqE K)) := by
  subst h
  exact op_eqG hu
/-- texts are unlike, or data are -/
def rNeSt : R2 := fun x y H Q => ∃ i j : Str, x = .str i ∧ y = .str j ∧ Q (.bl (!decide (i = j))) H
theorem op_neSt : OpR X (compareOp .NotEq) rNeSt := by
  intro pins s σ H x y u v Q I rx ry h
  obtain ⟨i, j, rfl, rfl, q⟩ := h
  refine op_ne pins s σ H _ _ u v Q I rx ry ⟨rfl, ?_⟩
  have e : decide (V.str i = V.str j) = decide (i = j) := by
    by_cases h : i = j
    · rw [h]
      simp
    · rw [decide_eq_false h, decide_eq_false fun z => h (by injection z)]
  rw [e]
  exact q
theorem op_neK (h : X.K = K) (hu : X.A.units + 64 < cLine) : OpR X (compareOp .NotEq) (orR rNeSt (rNeE K)) := by
  subst h
  exact opr_or op_neSt (op_neE hu)
theorem pi_listK {tg l : Expr} {tl : TE} (h : X.K = K) (hl : PE X l tl) : PI X tg l (iList K tl) := by
  subst h
  exact pi_list hl
theorem ix_seqK (h : X.K = K) : IxR X (rIx K) := by
  subst h
  exact ix_seq
theorem call_tupleK (h : X.K = K) : CallR X (.type "tuple") (rTupP K) := call_tupleP h
theorem call_listK (h : X.K = K) : CallR X (.type "list") (fun xs H Q => ∃ p ys, xs = [.ref p] ∧ (SqL K H p ys ∨ SqT K H p ys) ∧ ∀ l, H l = none → Q (.ref l) (upd H l (.lst ys))) := by
  subst h
  exact call_list_of
end
theorem op2_neSt {w : Wd} : Op2 w rNeSt (fun x y P => ∃ i j : Str, x = .dat (.str i) ∧ y = .dat (.str j) ∧ P (.dat (.bool (!decide (i = j))))) := by
  rintro o H u v x y P Q b ru rv ⟨i, j, rfl, rfl, q⟩ k
  cases ru
  cases rv
  exact ⟨i, j, rfl, rfl, k o H _ _ b.refl (VR.dat (Dd.bl _)) q⟩
end DL

/-! Walks over a list or a tuple, whichever; zip of any two of these; chains of two comparisons. -/
namespace DL
open PySem PySem.Spec PyProof.Rows L2 TL

/-! ### one or the other -/
def SqB (b : Bool) (K : PySem.W.Frag) (H : Hp) (a : Addr) (xs : List V) : Prop := match b with
  | true => SqT K H a xs
  | false => SqL K H a xs
theorem SqB.mono {b : Bool} {K : PySem.W.Frag} {H H' : Hp} {a : Addr} {xs : List V} (s : Same H H') (h : SqB b K H a xs) : SqB b K H' a xs := by
  cases b with
  | true => exact sqT_mono s h
  | false => exact s.seq h
def IsItB (b : Bool) (h : Heap) (c a : Addr) (i : Nat) : Prop := match b with
  | true => h.IsTupleIter c a i
  | false => h.IsListIter c a i
def IsSqB (b : Bool) (h : Heap) (a : Addr) (us : Array Value) : Prop := match b with
  | true => h.IsTuple a us
  | false => h.IsList a us
def itO (b : Bool) (a : Addr) : Obj := match b with
  | true => { cls := .type "tuple_iterator", data := .fields #[.ref a, .int 0 0] }
  | false => { cls := .type "list_iterator", data := .fields #[.ref a, .int 0 0] }
theorem beginsB (b : Bool) (a : Addr) (us : Array Value) : Begins (.ref a) (itO b a) fun h => IsSqB b h a us := by
  cases b with
  | true => exact begins_tuple a us
  | false => exact begins_list a us
theorem drawsB {P : Program} {w : World} {A : Around} (b : Bool) (hh : A.handled = none) (c a : Addr) (ne : a ≠ c) (us : Array Value) :
    Draws P w A c [c, a] us.size (fun i v => us[i]? = some v) (fun i h => IsItB b h c a i ∧ IsSqB b h a us) := by
  cases b with
  | true => exact Draws.tuple hh c a ne us
  | false => exact Draws.list hh c a ne us
theorem isItB_new {b : Bool} {h : Heap} {c a : Addr} (e : h.get? c = some (itO b a)) : IsItB b h c a 0 := by
  cases b with
  | true => exact ⟨_, e, rfl, rfl⟩
  | false => exact ⟨_, e, rfl, rfl⟩
theorem isItB_obj {b : Bool} {h : Heap} {c a : Addr} {i : Nat} (e : IsItB b h c a i) : ∃ o, h.get? c = some o ∧ ∀ v, o.data ≠ .cell v := by
  cases b with
  | true =>
    obtain ⟨o, e1, _, d⟩ := e
    exact ⟨o, e1, fun v z => by rw [d] at z; cases z⟩
  | false =>
    obtain ⟨o, e1, _, d⟩ := e
    exact ⟨o, e1, fun v z => by rw [d] at z; cases z⟩
theorem isItB_at {b : Bool} {h h' : Heap} {c a : Addr} {i : Nat} (e : IsItB b h c a i) (k : ∀ o, h.get? c = some o → h'.get? c = some o) : IsItB b h' c a i := by
  cases b with
  | true => exact Heap.IsTupleIter.at e k
  | false => exact Heap.IsListIter.at e k
section
variable {X : Cx} {pins : List (Addr × Obj)} {σ : L2.St} {H : Hp} {s : Shared} {a : Addr} {xs ys : List V}
theorem inv_sqB (I : Inv X pins σ H s) {b : Bool} (h : SqB b X.K H a xs) : ∃ us : List Value, Vals xs us ∧ IsSqB b s.heap a us.toArray ∧ a < s.heap.objs.size := by
  cases b with
  | true =>
    obtain ⟨us, r, p, _⟩ := I.tuple h
    obtain ⟨_, z, _⟩ := id p
    exact ⟨us, r, p, Heap.lt_size z⟩
  | false =>
    obtain ⟨us, r, p, _⟩ := I.list h
    exact ⟨us, r, p.isList, p.lt⟩
theorem inv_injB (I : Inv X pins σ H s) {b : Bool} (h1 : SqB b X.K H a xs) (h2 : SqB b X.K H a ys) : xs = ys := by
  cases b with
  | true => exact I.tuple_inj h1 h2
  | false => exact I.list_inj h1 h2
end

/-! ### zip -/
def ItzB (K : PySem.W.Frag) (b1 b2 : Bool) (a b : Addr) : It where
  go := fun i H => ∃ (xs ys : List V), SqB b1 K H a xs ∧ SqB b2 K H b ys ∧ i < xs.length ∧ i < ys.length
  yld := fun i H v H' => ∃ p x y, v = .ref p ∧ H p = none ∧ H' = upd H p (.tup [x, y]) ∧ (∀ xs, SqB b1 K H a xs → xs[i]? = some x) ∧ ∀ ys, SqB b2 K H b ys → ys[i]? = some y
  stop := fun i H => ∃ xs ys : List V, SqB b1 K H a xs ∧ SqB b2 K H b ys ∧ min xs.length ys.length = i
def zipFp (N : Nat) : List Addr := [N + 4, N + 2, N + 3, N, N + 1]
def TnZ (N : Nat) (b1 b2 : Bool) (a b : Addr) (i : Nat) (h : Heap) : Prop :=
  IsZip h (N + 4) (N + 2) (N + 3) .none ∧ IsTupOf2 h (N + 2) (.ref N) (.ref (N + 1)) ∧ (∃ v1 v2, IsTupOf2 h (N + 3) v1 v2) ∧ IsItB b1 h N a i ∧ IsItB b2 h (N + 1) b i
theorem five {N c : Nat} (h : c ∈ zipFp N) : c = N + 4 ∨ c = N + 2 ∨ c = N + 3 ∨ c = N ∨ c = N + 1 := by simpa [zipFp] using h
theorem turn_zipB {P : Program} {w : World} {K : PySem.W.Frag} {es : List Expr} {n0 : Nat} {ps : Pos} (N : Nat) (b1 b2 : Bool) (a b : Addr) (la : a < N) (lb : b < N) :
    Turn P w K (.Tuple es n0 ps) (ItzB K b1 b2 a b) (zipFp N) (N + 4) (TnZ N b1 b2 a b) := by
  have m4 : (N + 4) ∈ zipFp N := by simp [zipFp]
  have m2 : (N + 2) ∈ zipFp N := by simp [zipFp]
  have m3 : (N + 3) ∈ zipFp N := by simp [zipFp]
  have m0 : N ∈ zipFp N := by simp [zipFp]
  have m1 : (N + 1) ∈ zipFp N := by simp [zipFp]
  have wr : ∀ c : Addr, c ∉ zipFp N → c ∉ [N + 4, N + 3, N, N + 1] := by
    intro c hc hm
    refine hc ?_
    have e : c = N + 4 ∨ c = N + 3 ∨ c = N ∨ c = N + 1 := by simpa using hm
    rcases e with rfl | rfl | rfl | rfl <;> assumption
  have W : ∀ (X : Cx) (us1 us2 : List Value), X.A.handled = none →
      WalksT X.prog X.w X.A (N + 4) _ _ _ _ _ _ := fun X us1 us2 hh =>
    WalksT.zipD2 (zip_sep2 (N := N) (fp1 := [a]) (fp2 := [b]) (by simpa using la) (by simpa using lb))
      (drawsB (P := X.prog) (w := X.w) (A := X.A.in1) b1 hh N a (Nat.ne_of_lt la) us1.toArray)
      (drawsB (P := X.prog) (w := X.w) (A := X.A.in1) b2 hh (N + 1) b (Nat.ne_of_lt (Nat.lt_succ_of_lt lb)) us2.toArray)
  refine ⟨m4, ?_, ?_, ?_, ?_, ?_⟩
  · rintro i h ⟨z, t, ⟨v1, v2, o⟩, i1, i2⟩ c hc
    rcases five hc with rfl | rfl | rfl | rfl | rfl
    · exact ⟨_, z, fun _ q => nomatch q⟩
    · exact ⟨_, t, fun _ q => nomatch q⟩
    · exact ⟨_, o, fun _ q => nomatch q⟩
    · exact isItB_obj i1
    · exact isItB_obj i2
  · rintro i h h1 ⟨z, t, ⟨v1, v2, o⟩, i1, i2⟩ kp
    exact ⟨kp _ m4 _ z, kp _ m2 _ t, ⟨v1, v2, kp _ m3 _ o⟩, isItB_at i1 fun o e => kp _ m0 o e, isItB_at i2 fun o e => kp _ m1 o e⟩
  · intro X eP ew eK calm i pins s σ H E1 I fp st hgo
    subst eP ew eK
    obtain ⟨z, t, ⟨v1, v2, o⟩, i1, i2⟩ := st
    obtain ⟨xs, ys, hx, hy, lx, ly⟩ := hgo
    obtain ⟨us1, r1, p1, _⟩ := inv_sqB I hx
    obtain ⟨us2, r2, p2, _⟩ := inv_sqB I hy
    have hh : X.A.handled = none := I.ok.hd calm
    have e1 : us1.toArray.size = xs.length := by rw [List.size_toArray, r1.length]
    have e2 : us2.toArray.size = ys.length := by rw [List.size_toArray, r2.length]
    refine (W X us1 us2 hh).item i s _ _ (by rw [e1, e2]; omega) ⟨z, t, ⟨v1, v2, o⟩, ⟨i1, p1⟩, i2, p2⟩ fun T vals h1 tk pv hT isT mid kp => ?_
    obtain ⟨u1, u2, q1, q2, rfl⟩ := pv
    have apart := (W X us1 us2 hh).apart _ _ _ mid
    refine ⟨_, rfl, (W X us1 us2 hh).go es n0 ps i T { s with heap := h1, toks := tk } _ _ mid fun h2 st2 kp2 => ?_⟩
    obtain ⟨x, hx1, rx⟩ : ∃ x, xs[i]? = some x ∧ RelV x u1 := by
      obtain ⟨u, hu, ru⟩ := r1.get (List.getElem?_eq_getElem lx)
      have : us1.toArray[i]? = some u := by simpa using hu
      rw [this] at q1
      cases q1
      exact ⟨_, List.getElem?_eq_getElem lx, ru⟩
    obtain ⟨y, hy1, ry⟩ : ∃ y, ys[i]? = some y ∧ RelV y u2 := by
      obtain ⟨u, hu, ru⟩ := r2.get (List.getElem?_eq_getElem ly)
      have : us2.toArray[i]? = some u := by simpa using hu
      rw [this] at q2
      cases q2
      exact ⟨_, List.getElem?_eq_getElem ly, ru⟩
    have nu : ObjOk X.prog X.w (upd H T (.tup [x, y])) h2 T (.tup [x, y]) :=
      ⟨by show 2 ≤ sizeLine; decide, [u1, u2], .cons rx (.cons ry .nil), isT.at fun o e => kp2 _ o apart e⟩
    have I1 : Inv X pins σ (upd H T (.tup [x, y])) { s with heap := h2, toks := tk } :=
      I.turnedNew (ch := zipFp N) (fun c ob hc e => kp2 c ob (wr c hc) (kp c ob (wr c hc) e)) fp hT nu
    have lt : ∀ c ∈ zipFp N, c < s.heap.objs.size := by
      intro c hc
      rcases five hc with rfl | rfl | rfl | rfl | rfl
      · exact Heap.lt_size z
      · exact Heap.lt_size t
      · exact Heap.lt_size o
      · obtain ⟨_, e, _⟩ := isItB_obj i1
        exact Heap.lt_size e
      · obtain ⟨_, e, _⟩ := isItB_obj i2
        exact Heap.lt_size e
    refine ⟨.ref T, _, I1, rfl, ⟨T, x, y, rfl, I.hok.fresh hT, rfl, fun zs hz => ?_, fun zs hz => ?_⟩, ⟨st2.1, st2.2.1, st2.2.2.1, st2.2.2.2.1.1, st2.2.2.2.2.1⟩, fun c hc => ?_⟩
    · rw [inv_injB I hz hx]
      exact hx1
    · rw [inv_injB I hz hy]
      exact hy1
    · rw [upd_ne (Nat.ne_of_lt (Nat.lt_of_lt_of_le (lt c hc) hT))]
      exact (fp c hc).1
  · intro X eP ew eK calm i pins s σ H E1 I fp st hend
    subst eP ew eK
    obtain ⟨z, t, ⟨v1, v2, o⟩, i1, i2⟩ := st
    obtain ⟨xs, ys, hx, hy, he⟩ := hend
    obtain ⟨us1, r1, p1, _⟩ := inv_sqB I hx
    obtain ⟨us2, r2, p2, _⟩ := inv_sqB I hy
    have hh : X.A.handled = none := I.ok.hd calm
    have e1 : us1.toArray.size = xs.length := by rw [List.size_toArray, r1.length]
    have e2 : us2.toArray.size = ys.length := by rw [List.size_toArray, r2.length]
    refine (W X us1 us2 hh).done s _ _ (by rw [e1, e2, he]; exact ⟨z, t, ⟨v1, v2, o⟩, ⟨i1, p1⟩, i2, p2⟩) fun h1 tk kp => ⟨rfl, ?_⟩
    exact I.turnedL (ch := zipFp N) (fun c ob hc e => kp c ob (wr c hc) e) fp
  · rintro A1 i s Q E1 ⟨z, _⟩ h
    exact wpAny_pyIter_zip z h
theorem walk_zipB {K : PySem.W.Frag} {b1 b2 : Bool} {a b : Addr} {xs ys : List V} : Walk (ItzB K b1 b2 a b) (min xs.length ys.length) (fun H => SqB b1 K H a xs ∧ SqB b2 K H b ys) (YPair (fun i => xs[i]?) (fun i => ys[i]?)) := by
  refine ⟨fun i H hi q => ⟨xs, ys, q.1, q.2, by omega, by omega⟩, fun H q => ⟨xs, ys, q.1, q.2, rfl⟩, fun i H v H' hi q y => ?_⟩
  obtain ⟨p, x, z, h1, h2, h3, h4, h5⟩ := y
  exact ⟨p, x, z, h1, h2, h3, h4 xs q.1, h5 ys q.2⟩
def iZipB (K : PySem.W.Frag) (ta : TA) : TI := fun σ H R => ta σ H fun vs H1 => ∃ b1 b2 a b xs ys, vs = [.ref a, .ref b] ∧ SqB b1 K H1 a xs ∧ SqB b2 K H1 b ys ∧ R (ItzB K b1 b2 a b) H1
section
variable {X : Cx} {K : PySem.W.Frag}
theorem pi_zipB {e e2 : Expr} {ta : TA} {p pos tpos : Pos} {es : List Expr} {kk : Nat} (hK : X.K = K) (hg : Gl X "zip") (hm : X.mg "zip" = none) (ha : PA X [e, e2] ta)
    (hs : starEach [e, e2] X.env = (false, eval e X.env) :: starEach [e2] X.env := by rfl) (hpl : (backTo pos (starEach [e2] X.env)).any (·.1) = false := by rfl) :
    PI X (.Tuple es kk tpos) (.Call (.Name "zip" p) [e, e2] [] pos) (iZipB K ta) := by
  subst hK
  refine ⟨fun pins s σ H R I hyp => ?_⟩
  refine Call_ (ld_blt I hg hm PyProof.Rows.boot_zip (PyProof.Rows.callWith_type1 (thn (ha.run pos pins s σ H _ I hyp) fun us s1 ⟨vs, H1, I1, r1, q1⟩ => ?_) hs hpl))
  obtain ⟨b1, b2, a, b, xs, ys, rfl, hx, hy, q⟩ := q1
  cases r1 with
  | cons r rr =>
    cases rr with
    | cons r' rr =>
      cases rr
      cases r
      cases r'
      obtain ⟨us1, v1, p1, l1⟩ := inv_sqB I1 hx
      obtain ⟨us2, v2, p2, l2⟩ := inv_sqB I1 hy
      refine zip_begins2 (beginsB b1 a us1.toArray) (beginsB b2 b us2.toArray) p1 p2 fun h1 z t o i1 i2 sz kp => wpAny_pyIter_zip z ?_
      refine ⟨s1.heap.objs.size + 4, zipFp s1.heap.objs.size, _, _, H1, rfl, I1.kept (t' := s1.toks) kp, turn_zipB s1.heap.objs.size b1 b2 a b l1 l2, ⟨z, t, ⟨_, _, o⟩, isItB_new i1, isItB_new i2⟩, fun c hc => ?_, q⟩
      have lo : s1.heap.objs.size ≤ c := by
        rcases five hc with e | e | e | e | e <;> rw [e]
        · exact Nat.le_add_right _ _
        · exact Nat.le_add_right _ _
        · exact Nat.le_add_right _ _
        · exact Nat.le_refl _
        · exact Nat.le_add_right _ _
      exact I1.fpOk lo (I1.hok.fresh lo)

/-! ### x, of a list or a tuple -/
def iSeq (K : PySem.W.Frag) (tl : TE) : TI := fun σ H R => tl σ H fun x H1 => ∃ a xs, x = .ref a ∧ ((SqL K H1 a xs ∧ R (Itl K a) H1) ∨ (SqT K H1 a xs ∧ R (Itt K a) H1))
theorem pi_seqK {tg l : Expr} {tl : TE} (hK : X.K = K) (hl : PE X l tl) : PI X tg l (iSeq K tl) := by
  subst hK
  refine ⟨fun pins s σ H R I hyp => ?_⟩
  refine thn (hl.run pins s σ H _ I hyp) fun v s1 ⟨x, H1, I1, r1, a, xs, ex, q1⟩ => ?_
  subst ex
  cases r1
  have new : ∀ b ∈ [s1.heap.objs.size], FpOk X pins H1 b := fun b hb => by
    rw [List.mem_singleton.mp hb]
    exact I1.fpOk (Nat.le_refl _) (I1.hok.fresh (Nat.le_refl _))
  rcases q1 with ⟨hq, q⟩ | ⟨hq, q⟩
  · obtain ⟨us, rv, p, _⟩ := I1.list hq
    exact wpAny_pyIter_list p.isList ⟨s1.heap.objs.size, [s1.heap.objs.size], _, _, H1, rfl, I1.kept (t' := s1.toks) fun b o e => Heap.get?_push_of_some _ e, turn_list a _, ⟨_, Heap.get?_push_size _ rfl, rfl, rfl⟩, new, q⟩
  · obtain ⟨us, rv, p, _⟩ := I1.tuple hq
    exact wpAny_pyIter_tuple (show s1.heap.IsTuple a us.toArray from p) ⟨s1.heap.objs.size, [s1.heap.objs.size], _, _, H1, rfl, I1.kept (t' := s1.toks) fun b o e => Heap.get?_push_of_some _ e, turn_tuple a _, ⟨_, Heap.get?_push_size _ rfl, rfl, rfl⟩, new, q⟩
end
section
variable {w : Wd} {o o1 : Addr → Prop} {H H1 : Hp} {ρ : List Sl} {P : Sl → Prop} {te ta tb tc tl : TE} {tt : TT} {tr : TA} {ts : TS} {e : En}
/-- a chain of two comparisons of ints -/
theorem e_chain {f g : Int → Int → Bool} (h : E w ta ρ fun x => E w tb ρ fun y => ∃ i j, x = .dat (.int i) ∧ y = .dat (.int j) ∧
      if f i j = true then E w tc ρ fun z => ∃ k, z = .dat (.int k) ∧ P (.dat (.bool (g j k))) else P (.dat (.bool false))) :
    E w (tChain (rI0 fun i j => .bl (f i j)) (rI0 fun i j => .bl (g i j)) ta tb tc) ρ P := by
  intro o σ H Q ok k
  refine h o σ H _ ok ?_
  intro o1 H1 v x g1 r1 q1
  refine q1 o1 σ H1 _ (ok.go g1) ?_
  rintro o2 H2 u y g2 r2 ⟨i, j, rfl, rfl, q⟩
  cases r1
  cases r2
  refine ⟨i, j, rfl, rfl, f i j, rfl, ?_⟩
  cases hf : f i j with
  | false =>
    rw [hf] at q
    exact k o2 H2 _ _ (g1.trans g2) (VR.dat (Dd.bl _)) q
  | true =>
    rw [hf] at q
    refine q o2 σ H2 _ (ok.go (g1.trans g2)) ?_
    rintro o3 H3 t z g3 r3 ⟨m, rfl, q3⟩
    cases r3
    exact ⟨j, m, rfl, rfl, k o3 H3 _ _ ((g1.trans g2).trans g3) (VR.dat (Dd.bl _)) q3⟩
theorem VR.seqB {ds : List PyData} {c : PyData} {v : V} (r : VR w o H v (.dat c)) (h : seqD (.dat c) = some ds) : ∃ b a vs, v = .ref a ∧ DdAll w.K (hid H o) vs ds ∧ SqB b w.K (hid H o) a vs := by
  obtain ⟨a, vs, e, ha, hs | hs⟩ := r.seqDat h
  · exact ⟨false, a, vs, e, ha, hs⟩
  · exact ⟨true, a, vs, e, ha, hs⟩
/-- for x, y in zip(a, b) -/
theorem s_forZ {i j m : Nat} (hm : m = 2) (h : A w tr ρ fun xs => ∃ c1 c2 ds es, xs = [.dat c1, .dat c2] ∧ seqD (.dat c1) = some ds ∧ seqD (.dat c2) = some es ∧ ∃ I : Nat → List Sl → Prop, I 0 ρ ∧
      (∀ (k : Nat) (d1 d2 : PyData) (ρ' : List Sl), ds[k]? = some d1 → es[k]? = some d2 → I k ρ' → Turns w ts e I k ((ρ'.set i (.dat d1)).set j (.dat d2))) ∧ ∀ ρ', I (min ds.length es.length) ρ' → e.nx ρ') :
    S w (tFor (iZipB w.K tr) (gTup w.K m (gCons (gName i) (gCons (gName j) gNil))) ts) ρ e := by
  subst hm
  intro o σ H D ok kn kr kb kc
  refine h o σ H _ ok ?_
  rintro o1 H1 us xs g1 r1 ⟨c1, c2, ds, es, rfl, hx, hy, I, h0, hs, hd⟩
  have ok1 := ok.go g1
  cases r1 with
  | cons ra rt =>
    cases rt with
    | cons rb rt =>
      cases rt
      obtain ⟨b1, a, vs, rfl, ha, hq⟩ := VR.seqB ra hx
      obtain ⟨b2, b, ws, rfl, hb, hr⟩ := VR.seqB rb hy
      have l1 := DdAll.len ha
      have l2 := DdAll.len hb
      have bs1 := ok1.toBas
      have okA := ok_in bs1 ok1 (Same.refl _)
      refine ⟨b1, b2, a, b, vs, ws, rfl, hq.mono hid_le, hr.mono hid_le, ?_⟩
      refine for_it walk_zipB (fun k σ' H' => ∃ o' ρ', Ok (wAt w o1 H1) o' σ' H' ρ' ∧ I k ρ') ⟨o1, ρ, okA, h0⟩
        (fun k σ' H' _ ⟨o', ρ', k1, _⟩ => ⟨((hq.mono (ok_out bs1 k1).2)).mono hid_le, ((hr.mono (ok_out bs1 k1).2)).mono hid_le⟩) ?_ ?_
      · rintro k y σ2 H2 H3 hk ⟨o2, ρ2, ok2, i2⟩ ⟨p, u1, u2, rfl, np, rfl, e1, e2⟩
        obtain ⟨_, s2⟩ := ok_out bs1 ok2
        obtain ⟨d1, hd1, rd1⟩ := DdAll.gets (ddAll_mono s2 ha) e1
        obtain ⟨d2, hd2, rd2⟩ := DdAll.gets (ddAll_mono s2 hb) e2
        have g := ok2.toBas.new (u := .tup [u1, u2]) np
        refine ⟨p, _, rfl, .inl (.inl upd_same), rfl, _, _, rfl, _, _, rfl, rfl, ?_⟩
        refine hs k d1 d2 ρ2 hd1 hd2 i2 (wAt w o1 H1).H0 o2 _ _ _ (((ok2.go g).setD i (x := .dat d1) (dd_mono g.same rd1) trivial).setD j (x := .dat d2) (dd_mono g.same rd2) trivial) ?_ ?_ ?_ ?_
        · intro o' σ' H' ρ' a1 a2
          exact ⟨o', ρ', a1, a2⟩
        · intro o' H' v' d' a1 a2 a3
          exact kr o' H' v' d' (bas_out bs1 a1).1 a2 a3
        · intro o' σ' H' ρ' a1 a2
          exact kn o' σ' H' ρ' (ok_out bs1 a1).1 a2
        · intro o' σ' H' ρ' a1 a2
          exact ⟨o', ρ', a1, a2⟩
      · rintro σ' H' ⟨o', ρ', k1, i1⟩
        rw [l1, l2] at i1
        exact kn o' σ' H' ρ' (ok_out bs1 k1).1 (hd ρ' i1)
/-- for x in a -/
theorem s_forS {j : Nat} (h : E w te ρ fun x => ∃ c ds, x = .dat c ∧ seqD (.dat c) = some ds ∧ ∃ I : Nat → List Sl → Prop, I 0 ρ ∧
      (∀ (k : Nat) (d : PyData) (ρ' : List Sl), ds[k]? = some d → I k ρ' → Turns w ts e I k (ρ'.set j (.dat d))) ∧ ∀ ρ', I ds.length ρ' → e.nx ρ') :
    S w (tFor (iSeq w.K te) (gName j) ts) ρ e := by
  intro o σ H D ok kn kr kb kc
  refine h o σ H _ ok ?_
  rintro o1 H1 v x g1 r1 ⟨c, ds, rfl, hx, I, h0, hs, hd⟩
  have ok1 := ok.go g1
  obtain ⟨a, vs, rfl, ha, hq⟩ := r1.seqDat hx
  have ln := DdAll.len ha
  have b1 := ok1.toBas
  have okA := ok_in b1 ok1 (Same.refl _)
  have fin : ∀ σ' H', (∃ o' ρ', Ok (wAt w o1 H1) o' σ' H' ρ' ∧ I vs.length ρ') → D.nx σ' H' := by
    rintro σ' H' ⟨o', ρ', k1, i1⟩
    rw [ln] at i1
    exact kn o' σ' H' ρ' (ok_out b1 k1).1 (hd ρ' i1)
  have step : ∀ (k : Nat) (y : V) (σ2 : L2.St) (H2 H3 : Hp), k < vs.length → (∃ o' ρ', Ok (wAt w o1 H1) o' σ2 H2 ρ' ∧ I k ρ') → YAt vs k H2 y H3 →
      gName j y σ2 H3 fun σ4 H4 => ts { D with
        nx := fun σ' H' => ∃ o' ρ', Ok (wAt w o1 H1) o' σ' H' ρ' ∧ I (k + 1) ρ',
        ct := fun σ' H' => ∃ o' ρ', Ok (wAt w o1 H1) o' σ' H' ρ' ∧ I (k + 1) ρ', bk := D.nx } σ4 H4 := by
    rintro k y σ2 H2 H3 hk ⟨o2, ρ2, ok2, i2⟩ ⟨rfl, e2⟩
    obtain ⟨_, s2⟩ := ok_out b1 ok2
    obtain ⟨d, hd1, rd⟩ := DdAll.gets (ddAll_mono s2 ha) e2
    refine hs k d ρ2 hd1 i2 (wAt w o1 H1).H0 o2 _ _ _ (ok2.setD j (x := .dat d) rd trivial) ?_ ?_ ?_ ?_
    · intro o' σ' H' ρ' a1 a2
      exact ⟨o', ρ', a1, a2⟩
    · intro o' H' v' d' a1 a2 a3
      exact kr o' H' v' d' (bas_out b1 a1).1 a2 a3
    · intro o' σ' H' ρ' a1 a2
      exact kn o' σ' H' ρ' (ok_out b1 a1).1 a2
    · intro o' σ' H' ρ' a1 a2
      exact ⟨o', ρ', a1, a2⟩
  refine ⟨a, vs, rfl, ?_⟩
  rcases hq with hq | hq
  · refine .inl ⟨hid_le.seq hq, ?_⟩
    exact for_it walk_list (fun k σ' H' => ∃ o' ρ', Ok (wAt w o1 H1) o' σ' H' ρ' ∧ I k ρ') ⟨o1, ρ, okA, h0⟩
      (fun k σ' H' _ ⟨o', ρ', k1, _⟩ => hid_le.seq ((ok_out b1 k1).2.seq hq)) step fin
  · refine .inr ⟨sqT_mono hid_le hq, ?_⟩
    exact for_it walk_tup (fun k σ' H' => ∃ o' ρ', Ok (wAt w o1 H1) o' σ' H' ρ' ∧ I k ρ') ⟨o1, ρ, okA, h0⟩
      (fun k σ' H' _ ⟨o', ρ', k1, _⟩ => sqT_mono hid_le (sqT_mono (ok_out b1 k1).2 hq)) step fin
/-- [e for x in a if ..] -/
theorem e_lcS {j : Nat} (h : E w tl ρ fun x => ∃ c ds, x = .dat c ∧ seqD (.dat c) = some ds ∧ ds.length ≤ sizeLine ∧ ∃ I : Nat → List PyData → Prop, I 0 [] ∧
      (∀ i d acc, ds[i]? = some d → I i acc → Lc w tt te ((ρ.set j .no).set j (.dat d)) I i acc) ∧ ∀ acc, I ds.length acc → acc.length ≤ ds.length → P (.dat (.list acc))) : E w (tLc (iSeq w.K tl) (gName j) tt te [j]) ρ P := by
  intro o σ H Q ok k
  refine h o σ H _ ok ?_
  rintro o1 H1 v x g1 r1 ⟨c, ds, rfl, hx, hz, I, h0, hs, hp⟩
  have ok1 := ok.go g1
  obtain ⟨b, a, vs, rfl, ha, hq⟩ := VR.seqB r1 hx
  have ln := DdAll.len ha
  have kp : ∀ o2 H2, Go w o1 H1 o2 H2 → SqB b w.K H2 a vs ∧ DdAll w.K (hid H2 o2) vs ds := fun o2 H2 g => ⟨(hq.mono g.same).mono hid_le, ddAll_mono g.same ha⟩
  have main : ∀ (D : Addr) (hD : H1 D = none) (J : It), Walk J vs.length (fun H => SqB b w.K H a vs) (YAt vs) → ∃ W : Nat → Nat → Hp → Prop, (∃ m, W 0 m (upd H1 D (.lst []))) ∧ ∀ i m H, W i m H →
      (J.stop i H ∧ Q (.ref D) H) ∨ (J.go i H ∧ ∃ Nx : Hp → Prop, (∀ H', Nx H' → ∃ m', m' < m ∧ W (i + 1) m' H') ∧ ∀ x H', J.yld i H x H' → gName j x (wipe σ [j]) H' fun σ2 H2 => wipe σ2 [j] = wipe σ [j] ∧ tt σ2 H2 fun b H3 =>
        if b = true then te σ2 H3 fun y H4 => ∃ acc, H4 D = some (.lst acc) ∧ acc.length < sizeLine ∧ Nx (upd H4 D (.lst (acc ++ [y]))) else Nx H3) := by
    intro D hD J wk
    have h00 : ¬ w.own0 D := fun z => ok1.hn D (ok1.sub D z) hD
    have hn : ∀ (m : Nat) (y : Sl) (q : Addr), ρ[m]? = some y → y.adr = some q → q ≠ D := by
      intro m y q f a z
      subst z
      exact ok1.hn _ (ok1.adr f a) hD
    refine lc_it wk (fun i H2 => LcS w ρ j σ o1 H1 D I i H2) (lc_start (H1 := H1) ok1 hD h0) (fun i H2 _ st => ?_) (fun i y H2 H3 hi st yy => ?_) (fun H2 st => ?_)
    · obtain ⟨o2, _, _, _, g2, _⟩ := st
      exact (kp o2 H2 g2).1
    · obtain ⟨rfl, hy⟩ := yy
      obtain ⟨d, hd, _⟩ := DdAll.gets ha hy
      exact lc_turn hD h00 hn (by omega) st (fun o2 H2 g2 => by
        obtain ⟨d2, hd2, rd2⟩ := DdAll.gets (kp o2 H2 g2).2 hy
        rw [hd] at hd2
        cases hd2
        exact rd2) fun acc hI => hs i d acc hd hI
    · rw [ln] at st
      exact lc_end ok1 hD st hp fun o' H' v x g r p => k o' H' v x (g1.trans g) r p
  refine ⟨a, vs, rfl, ?_⟩
  cases b with
  | false => exact .inl ⟨hid_le.seq hq, fun D hD => main D hD _ walk_list⟩
  | true => exact .inr ⟨sqT_mono hid_le hq, fun D hD => main D hD _ walk_tup⟩
/-- [e for x in a], each item an int of which Pr holds -/
theorem e_lcSInts {j : Nat} (Pr : Int → Prop) (h : E w tl ρ fun x => ∃ c ds, x = .dat c ∧ seqD (.dat c) = some ds ∧ ds.length ≤ sizeLine ∧
      (∀ (i : Nat) d, ds[i]? = some d → E w te ((ρ.set j .no).set j (.dat d)) fun y => ∃ z : Int, y = .dat (.int z) ∧ Pr z) ∧
      ∀ ns : List Int, ns.length = ds.length → (∀ z ∈ ns, Pr z) → P (.dat (.list (ns.map PyData.int)))) :
    E w (tLc (iSeq w.K tl) (gName j) tYes te [j]) ρ P := by
  refine e_lcS ?_
  refine E.mono h ?_
  rintro x ⟨c, ds, rfl, hx, hz, hs, hp⟩
  refine ⟨c, ds, rfl, hx, hz, fun i acc => ∃ ns : List Int, acc = ns.map PyData.int ∧ ns.length = i ∧ ∀ z ∈ ns, Pr z, ⟨[], rfl, rfl, fun _ z => nomatch z⟩, ?_, ?_⟩
  · rintro i d acc hi ⟨ns, rfl, hl, ha⟩
    unfold Lc
    refine t_yes (iteT ?_)
    refine E.mono (hs i d hi) ?_
    rintro x ⟨z, rfl, hz⟩
    refine ⟨_, rfl, ns ++ [z], by rw [List.map_append]; rfl, by rw [List.length_append, hl]; rfl, fun y hy => ?_⟩
    rcases List.mem_append.mp hy with hy | hy
    · exact ha y hy
    · rw [List.mem_singleton.mp hy]
      exact hz
  · rintro acc ⟨ns, rfl, hl, ha⟩ _
    exact hp ns hl ha
end
end DL

/-! sorted of told coins: tuples of a tuple of ints, an int, a truth. -/
namespace DL
open PySem PySem.Spec PyProof.Rows L2 TL

abbrev Coin := List Int × Int × Bool
def nmD (ns : List Int) : PyData := .tuple (ns.map .int)
def cD (c : Coin) : PyData := .tuple [nmD c.1, .int c.2.1, .bool c.2.2]
def ltC (c c' : Coin) : Bool := if c.1 = c'.1 then decide (c.2.1 < c'.2.1) else HT.lexLt c.1 c'.1
/-! ### the order -/
theorem lex_irr : ∀ a : List Int, HT.lexLt a a = false
  | [] => rfl
  | x :: a => by rw [HT.lexLt_cons, if_pos rfl]; exact lex_irr a
theorem lex_asym : ∀ a b : List Int, HT.lexLt a b = true → HT.lexLt b a = false
  | [], [], h => by cases h
  | [], _ :: _, _ => rfl
  | _ :: _, [], h => by cases h
  | x :: a, y :: b, h => by
    rw [HT.lexLt_cons] at h ⊢
    by_cases e : x = y
    · rw [if_pos e] at h
      rw [if_pos e.symm]
      exact lex_asym a b h
    · rw [if_neg e] at h
      rw [if_neg fun z => e z.symm]
      exact decide_eq_false (by have := of_decide_eq_true h; omega)
theorem lex_tot : ∀ a b : List Int, HT.lexLt a b = false → HT.lexLt b a = false → a = b
  | [], [], _, _ => rfl
  | [], _ :: _, h, _ => by cases h
  | _ :: _, [], _, h => by cases h
  | x :: a, y :: b, h1, h2 => by
    rw [HT.lexLt_cons] at h1 h2
    by_cases e : x = y
    · rw [if_pos e] at h1
      rw [if_pos e.symm] at h2
      rw [e, lex_tot a b h1 h2]
    · rw [if_neg e] at h1
      rw [if_neg fun z => e z.symm] at h2
      have := of_decide_eq_false h1
      have := of_decide_eq_false h2
      omega
theorem lex_tr : ∀ a b c : List Int, HT.lexLt a b = true → HT.lexLt b c = true → HT.lexLt a c = true
  | [], _, [], h1, h2 => by
    rename_i b
    cases b with
    | nil => cases h1
    | cons _ _ => cases h2
  | [], _, _ :: _, _, _ => rfl
  | _ :: _, [], _, h1, _ => by cases h1
  | _ :: _, _ :: _, [], _, h2 => by cases h2
  | x :: a, y :: b, z :: c, h1, h2 => by
    rw [HT.lexLt_cons] at h1 h2 ⊢
    by_cases e1 : x = y
    · subst e1
      rw [if_pos rfl] at h1
      by_cases e2 : x = z
      · rw [if_pos e2] at h2 ⊢
        exact lex_tr a b c h1 h2
      · rw [if_neg e2] at h2 ⊢
        exact h2
    · rw [if_neg e1] at h1
      have i1 := of_decide_eq_true h1
      by_cases e2 : y = z
      · subst e2
        rw [if_neg e1]
        exact h1
      · rw [if_neg e2] at h2
        have i2 := of_decide_eq_true h2
        rw [if_neg (by omega)]
        exact decide_eq_true (by omega)
theorem ltC_swo : SrtO.Swo ltC := by
  refine ⟨fun x y h => ?_, fun x y z h1 h2 => ?_⟩
  · unfold ltC at h ⊢
    by_cases e : x.1 = y.1
    · rw [if_pos e] at h
      rw [if_pos e.symm]
      exact decide_eq_false (by have := of_decide_eq_true h; omega)
    · rw [if_neg e] at h
      rw [if_neg fun z => e z.symm]
      exact lex_asym _ _ h
  · unfold ltC at h1 h2 ⊢
    by_cases e1 : y.1 = x.1
    · rw [if_pos e1] at h1
      have i1 := of_decide_eq_false h1
      by_cases e2 : z.1 = y.1
      · rw [if_pos e2] at h2
        have i2 := of_decide_eq_false h2
        rw [if_pos (e2.trans e1)]
        exact decide_eq_false (by omega)
      · rw [if_neg e2] at h2
        rw [if_neg fun q => e2 (q.trans e1.symm), ← e1]
        exact h2
    · rw [if_neg e1] at h1
      by_cases e2 : z.1 = y.1
      · rw [if_neg fun q => e1 (e2.symm.trans q), e2]
        exact h1
      · rw [if_neg e2] at h2
        have g1 : HT.lexLt x.1 y.1 = true := by
          cases q : HT.lexLt x.1 y.1 with
          | true => rfl
          | false => exact absurd (lex_tot _ _ h1 q) e1
        have g2 : HT.lexLt y.1 z.1 = true := by
          cases q : HT.lexLt y.1 z.1 with
          | true => rfl
          | false => exact absurd (lex_tot _ _ h2 q) e2
        have g3 := lex_tr _ _ _ g1 g2
        have ne : z.1 ≠ x.1 := fun q => by
          rw [q, lex_irr] at g3
          cases g3
        rw [if_neg ne]
        exact lex_asym _ _ g3
/-- the one sorted arrangement -/
theorem sorted_one {a b c : List Coin} (h1 : SrtO.Srtd ltC a) (s1 : SrtO.Stb ltC a c) (h2 : SrtO.Srtd ltC b) (s2 : SrtO.Stb ltC b c) : a = b :=
  SrtO.stb_uniq ltC_swo h1 h2 ⟨s1.perm.trans s2.perm.symm, fun x => (s1.cls x).trans (s2.cls x).symm⟩
/-! ### as they stand in memory -/
structure CoinAt (h : Heap) (v : Value) (c : Coin) : Prop where
  ex : ∃ b o n b2 o2 n2 t, ∃ us : List Value, v = .ref b ∧ h.get? b = some o ∧ o.cls = .type "tuple" ∧ o.data = .seq #[.ref b2, .int c.2.1 t, .bool c.2.2] n ∧
    h.get? b2 = some o2 ∧ o2.cls = .type "tuple" ∧ o2.data = .seq us.toArray n2 ∧ IntsAre us c.1
theorem CoinAt.keeps {h h' : Heap} {v : Value} {c : Coin} (x : CoinAt h v c) (k : ∀ b o, h.get? b = some o → o.cls = .type "tuple" → h'.get? b = some o) : CoinAt h' v c := by
  obtain ⟨b, o, n, b2, o2, n2, t, us, e, h1, c1, d1, h2, c2, d2, i⟩ := x.ex
  exact ⟨b, o, n, b2, o2, n2, t, us, e, k _ _ h1 c1, c1, d1, k _ _ h2 c2, c2, d2, i⟩
theorem ints_reads {h : Heap} : ∀ {ns : List Int} {us : List Value} {as : List Addr}, ReadsAll h us (ns.map PyData.int) as → IntsAre us ns
  | [], _, _, r => by
    cases r
    exact .nil
  | n :: ns, _, _, r => by
    cases r with
    | cons r1 r2 =>
      cases r1
      exact .cons _ _ (ints_reads r2)
theorem reads_ints {h : Heap} : ∀ {us : List Value} {ns : List Int}, IntsAre us ns → ∃ as, ReadsAll h us (ns.map PyData.int) as
  | _, _, .nil => ⟨_, .nil⟩
  | _, _, .cons _ _ t => by
    obtain ⟨as, r⟩ := reads_ints t
    exact ⟨_, .cons (.int _ _) r⟩
theorem coinAt_of {h : Heap} {v : Value} {c : Coin} {as : List Addr} (r : Reads h v (cD c) as) : CoinAt h v c := by
  unfold cD nmD at r
  cases r with
  | tuple h1 c1 d1 ra =>
    rename_i b o vs n
    obtain ⟨l, hl⟩ : ∃ l, vs.toList = l := ⟨_, rfl⟩
    rw [hl] at ra
    cases ra with
    | cons r1 ra =>
      cases ra with
      | cons r2 ra =>
        cases ra with
        | cons r3 ra =>
          cases ra
          cases r2
          cases r3
          cases r1 with
          | tuple h2 c2 d2 rb =>
            rename_i las t b2 o2 vs2 n2
            have e : vs = #[.ref b2, .int c.2.1 t, .bool c.2.2] := by
              rw [← Array.toArray_toList (xs := vs), hl]
            rw [e] at d1
            exact ⟨b, o, n, b2, o2, n2, t, vs2.toList, rfl, h1, c1, d1, h2, c2, by rw [Array.toArray_toList]; exact d2, ints_reads rb⟩
theorem eqv_ints : ∀ ns ms : List Int, PyData.eqvAll (ns.map PyData.int) (ms.map PyData.int) = decide (ns = ms)
  | [], [] => rfl
  | [], _ :: _ => by simp [PyData.eqvAll]
  | _ :: _, [] => by simp [PyData.eqvAll]
  | x :: a, y :: b => by
    rw [List.map_cons, List.map_cons]
    show (PyData.eqv (.int x) (.int y) && PyData.eqvAll (a.map PyData.int) (b.map PyData.int)) = _
    rw [eqv_ints a b]
    have e : PyData.eqv (.int x) (.int y) = decide (x = y) := rfl
    rw [e]
    by_cases h1 : x = y
    · by_cases h2 : a = b
      · simp [h1, h2]
      · simp [h1, h2]
    · simp [h1]
theorem eqv_nm (ns ms : List Int) : PyData.eqv (nmD ns) (nmD ms) = decide (ns = ms) := by
  unfold nmD
  show PyData.eqvAll _ _ = _
  exact eqv_ints ns ms
theorem lay_ints : ∀ ns : List Int, PyData.canLayAll0 (ns.map PyData.int) = true
  | [] => rfl
  | n :: ns => by
    rw [List.map_cons]
    show (PyData.canLay0 (.int n) && _) = true
    rw [lay_ints ns]
    rfl
theorem depth_ints : ∀ ns : List Int, PyData.depthAll (ns.map PyData.int) = 0
  | [] => rfl
  | n :: ns => by
    rw [List.map_cons]
    show max (PyData.depth (.int n)) (PyData.depthAll _) = 0
    rw [depth_ints ns]
    rfl
theorem nm_lay (ns : List Int) : (nmD ns).canLay0 = true := lay_ints ns
theorem nm_depth (ns : List Int) : (nmD ns).depth = 1 := by
  show PyData.depthAll _ + 1 = 1
  rw [depth_ints]
theorem c_lay (c : Coin) : (cD c).canLay0 = true := by
  show ((nmD c.1).canLay0 && _) = true
  rw [nm_lay]
  rfl
theorem cs_lay : ∀ cs : List Coin, PyData.canLayAll0 (cs.map cD) = true
  | [] => rfl
  | c :: cs => by
    rw [List.map_cons]
    show ((cD c).canLay0 && _) = true
    rw [c_lay, cs_lay cs]
    rfl
/-- the coin that data tells -/
def intOf : PyData → Option Int
  | .int i => some i
  | _ => none
def unC : PyData → Coin
  | .tuple [.tuple ds, .int k, .bool t] => (ds.filterMap intOf, k, t)
  | _ => ([], 0, false)
theorem unC_cD (c : Coin) : unC (cD c) = c := by
  have e : ∀ ns : List Int, (ns.map PyData.int).filterMap intOf = ns := by
    intro ns
    induction ns with
    | nil => rfl
    | cons n ns ih => rw [List.map_cons, List.filterMap_cons]; simp [intOf, ih]
  show ((c.1.map PyData.int).filterMap intOf, c.2.1, c.2.2) = c
  rw [e]
section
variable {prog : Program} {w : World} {A : Around} {E : Value → Shared → Prop} {s : Shared}
theorem coin_cmp {vs : List Value} {f : Value → Coin} (hu : A.units + 8 < cLine) (hp : ∀ v ∈ vs, CoinAt s.heap v (f v)) (hd : ∀ v ∈ vs, ∀ u ∈ vs, (f v).1 = (f u).1 → (f v).2.1 = (f u).2.1 → f v = f u) :
    SrtO.Cmp prog w A s (tuples' false) (fun p => p.1 ∈ vs) (SrtO.lt2 fun v u => ltC (f v) (f u)) := by
  intro p q hm hm'
  obtain ⟨b, o, n, b2, o2, n2, t, us, e, h1, c1, d1, h2, c2, d2, i⟩ := (hp _ hm).ex
  obtain ⟨b', o', n', b2', o2', n2', t', us', e', h1', c1', d1', h2', c2', d2', i'⟩ := (hp _ hm').ex
  have dist := hd _ hm _ hm'
  show wpAny (model prog w) A (keyLt' (tuples' false) p.1 q.1) (fun r s' => s' = s ∧ r = ltC (f p.1) (f q.1)) (fun _ _ => False) s
  generalize f p.1 = c at *
  generalize f q.1 = c' at *
  rw [e, e']
  refine PySem.W.kat_lt h1 d1 h1' d1' ?_
  show PySem.W.KatLex prog w A false (decide (3 < 3)) _ [(.ref b2, .ref b2'), (.int c.2.1 t, .int c'.2.1 t'), (.bool c.2.2, .bool c'.2.2)] 0 s
  obtain ⟨as, ra⟩ := reads_ints (h := s.heap) i
  obtain ⟨as', ra'⟩ := reads_ints (h := s.heap) i'
  have r1 : Reads s.heap (.ref b2) (nmD c.1) as := .tuple h2 c2 d2 ra
  have r2 : Reads s.heap (.ref b2') (nmD c'.1) as' := .tuple h2' c2' d2' ra'
  have room : A.units + min (nmD c.1).depth (nmD c'.1).depth < cLine := by
    rw [nm_depth, nm_depth]
    omega
  refine PySem.W.kat_cons (SeqAt.eqAt_reads _ _ A s _ _ _ _ r1 r2 (nm_lay _) (nm_lay _) room prog w _ _ ?_)
  rw [eqv_nm]
  unfold ltC
  refine PySem.W.kat_go (fun e1 => ?_) (fun e1 => ?_)
  · have n1 : c.1 = c'.1 := of_decide_eq_true e1
    rw [if_pos n1]
    refine PySem.W.kat_yes (PySem.W.kat_cons (SeqAt.EqAt.int_int _ t _ t' prog w _ _ ?_))
    refine PySem.W.kat_go (fun e2 => ?_) (fun e2 => ?_)
    · have k1 : c.2.1 = c'.2.1 := by simpa using e2
      have ec := dist n1 k1
      subst ec
      refine PySem.W.kat_yes (PySem.W.kat_cons (SeqAt.EqAt.bool_bool _ _ prog w _ _ ?_))
      refine PySem.W.kat_go (fun _ => ?_) (fun e3 => ?_)
      · exact PySem.W.kat_yes (PySem.W.kat_nil ⟨rfl, (decide_eq_false (Int.lt_irrefl _)).symm⟩)
      · rw [beq_self_eq_true] at e3
        cases e3
    · exact PySem.W.kat_no (PySem.W.kat_one _ _ (PyProof.Rows.lt_int (show s = s ∧ _ = _ from ⟨rfl, rfl⟩)))
  · have n1 : ¬ c.1 = c'.1 := of_decide_eq_false e1
    rw [if_neg n1]
    refine PySem.W.kat_no (PySem.W.kat_one _ _ ?_)
    exact HT.lt_tupInts (show IsTup s.heap b2 us.toArray from ⟨o2, h2, c2, n2, d2⟩) ⟨o2', h2', c2', n2', d2'⟩ (by simpa using i) (by simpa using i') (by omega) (show s = s ∧ _ = _ from ⟨rfl, rfl⟩)
theorem coin_firsts {h : Heap} {f : Value → Coin} : ∀ {vs : List Value}, (∀ v ∈ vs, CoinAt h v (f v)) → ∃ fs, PySem.W.KatTups h vs fs ∧ fs.length = vs.length ∧ ∀ u ∈ fs, ∃ b o, u = .ref b ∧ h.get? b = some o ∧ o.cls = .type "tuple"
  | [], _ => ⟨[], trivial, rfl, fun _ z => nomatch z⟩
  | v :: vs, hp => by
    obtain ⟨fs, k, l, m⟩ := coin_firsts (vs := vs) fun u hu => hp u (List.mem_cons_of_mem _ hu)
    obtain ⟨b, o, n, b2, o2, n2, t, us, e, h1, c1, d1, h2, c2, d2, i⟩ := (hp v (List.mem_cons_self ..)).ex
    subst e
    refine ⟨.ref b2 :: fs, PySem.W.KatTups.cons h1 c1 d1 rfl k, by rw [List.length_cons, List.length_cons, l], fun u hu => ?_⟩
    rcases List.mem_cons.mp hu with rfl | hu
    · exact ⟨b2, o2, rfl, h2, c2⟩
    · exact m u hu
theorem coins_sortable {a : Addr} {vs : List Value} {f : Value → Coin} (h0 : 0 < vs.length) (hu : A.units + 8 < cLine) (hp : ∀ v ∈ vs, CoinAt s.heap v (f v))
    (hd : ∀ v ∈ vs, ∀ u ∈ vs, (f v).1 = (f u).1 → (f v).2.1 = (f u).2.1 → f v = f u) (ha : ∀ o, s.heap.get? a = some o → o.cls ≠ .type "tuple") : SrtO.SortableO prog w A s a vs fun v u => ltC (f v) (f u) := by
  intro h' keep
  have hp' : ∀ v ∈ vs, CoinAt h' v (f v) := fun v hm => (hp v hm).keeps fun b o e c => keep b o (fun z => by subst z; exact ha o e c) e
  obtain ⟨fs, h1, h2, h3⟩ := coin_firsts hp'
  refine ⟨tuples' false, fun Q E hq => ?_, coin_cmp hu hp' hd⟩
  refine PySem.W.kat_kind (T := .type "tuple") h1 (by omega) (fun u hm => ?_) (by rfl) ?_
  · obtain ⟨b, o, rfl, e, c⟩ := h3 u hm
    rw [← c]
    exact (PySem.W.Looks.ld e).andThen .now
  · have e : (Value.type "tuple" != Value.type "tuple") = false := by first | decide +kernel | rfl | decide
    rw [e]
    exact hq
end
/-- sorted(xs), a list of told coins, no two of one name and place unless they are one -/
def rSortC (K : PySem.W.Frag) : List V → Hp → VK → Prop := fun vs H Q => ∃ (a : Addr) (xs : List V) (cs : List Coin) (H0 : Hp), vs = [V.ref a] ∧ SqL K H a xs ∧ Same H0 H ∧ DdAll K H0 xs (cs.map cD) ∧
  (∀ c ∈ cs, ∀ c' ∈ cs, c.1 = c'.1 → c.2.1 = c'.2.1 → c = c') ∧
  ∀ (ys : List V) (es : List Coin) (p : Addr), DdAll K H0 ys (es.map cD) → SrtO.Srtd ltC es → SrtO.Stb ltC es cs → H p = none → Q (.ref p) (upd H p (.lst ys))
theorem ddAll_map {α : Type} {K : PySem.W.Frag} {H : Hp} {g : α → V} {f : α → PyData} : ∀ {l : List α}, (∀ v ∈ l, Dd K H (g v) (f v)) → DdAll K H (l.map g) (l.map f)
  | [], _ => .nil
  | v :: vs, h => .cons (h v (List.mem_cons_self ..)) (ddAll_map fun u hu => h u (List.mem_cons_of_mem _ hu))
theorem ddAll_of {α : Type} {K : PySem.W.Frag} {H : Hp} {g : α → V} {f : α → PyData} : ∀ {l : List α}, DdAll K H (l.map g) (l.map f) → ∀ v ∈ l, Dd K H (g v) (f v)
  | [], _, _, hv => nomatch hv
  | v :: vs, h, u, hu => by
    rw [List.map_cons, List.map_cons] at h
    cases h with
    | cons h1 h2 =>
      rcases List.mem_cons.mp hu with rfl | hu
      · exact h1
      · exact ddAll_of h2 u hu
theorem ddAll_refs {K : PySem.W.Frag} {H : Hp} : ∀ {xs : List V} {cs : List Coin}, DdAll K H xs (cs.map cD) → ∀ x ∈ xs, ∃ a, x = V.ref a
  | [], _, _, _, hx => nomatch hx
  | x :: xs, [], h, _, _ => by cases h
  | x :: xs, c :: cs, h, y, hy => by
    rw [List.map_cons] at h
    cases h with
    | cons h1 h2 =>
      rcases List.mem_cons.mp hy with rfl | hy
      · unfold cD at h1
        cases h1 with
        | tup _ _ => exact ⟨_, rfl⟩
      · exact ddAll_refs h2 y hy
theorem readsAll_mem {h : Heap} : ∀ {vs : List Value} {cs : List Coin} {as : List Addr}, ReadsAll h vs (cs.map cD) as → ∀ v ∈ vs, ∃ c ∈ cs, ∃ bs, Reads h v (cD c) bs
  | [], _, _, _, _, hv => nomatch hv
  | v :: vs, [], _, r, _, _ => by cases r
  | v :: vs, c :: cs, _, r, u, hu => by
    rw [List.map_cons] at r
    cases r with
    | cons r1 r2 =>
      rcases List.mem_cons.mp hu with rfl | hu
      · exact ⟨c, List.mem_cons_self .., _, r1⟩
      · obtain ⟨c', m, bs, r'⟩ := readsAll_mem r2 u hu
        exact ⟨c', List.mem_cons_of_mem _ m, bs, r'⟩
section
variable {X : Cx}
theorem call_sortC (hu : X.A.units + 64 < cLine) : CallR X (.builtin "sorted") (rSortC X.K) := by
  rintro pins s σ H vs us Q I r ⟨a, xs, cs, H0, rfl, hs, hsame, hd0, hdist, q⟩
  have hd := ddAll_mono hsame hd0
  obtain ⟨its, rv, hl, hz⟩ := I.list hs
  obtain ⟨u, rfl, ru⟩ := vals1 r
  obtain rfl : u = Value.ref a := ru
  obtain ⟨as, rd⟩ := Dp.readsAll I _ _ _ (DdAll.dp hd (cs_lay cs)) rv
  have em : its.map (SeqAt.readOf s.heap) = cs.map cD := SeqAt.readsAll_map _ _ _ (cs_lay cs) rd
  obtain ⟨f, hf⟩ : ∃ f : Value → Coin, f = fun v => unC (SeqAt.readOf s.heap v) := ⟨_, rfl⟩
  have ef : its.map f = cs := by
    have := congrArg (List.map unC) em
    rw [List.map_map, List.map_map] at this
    have e2 : cs.map (unC ∘ cD) = cs := by
      have e3 : (unC ∘ cD) = id := funext fun c => unC_cD c
      rw [e3, List.map_id]
    rw [e2] at this
    rw [hf]
    exact this
  have hp : ∀ v ∈ its, CoinAt s.heap v (f v) ∧ f v ∈ cs := by
    intro v hv
    obtain ⟨c, hc, bs, r1⟩ := readsAll_mem rd v hv
    have e : f v = c := by
      rw [hf]
      show unC (SeqAt.readOf s.heap v) = c
      rw [SeqAt.readOf_eq (c_lay c) r1, unC_cD]
    rw [e]
    exact ⟨coinAt_of r1, hc⟩
  obtain ⟨e1, e2⟩ := refs_back rv (ddAll_refs hd)
  have len := rv.length
  have hz2 : its.length ≤ sizeLine := by omega
  have hdd : ∀ v ∈ its, Dd X.K H0 (backV v) (cD (f v)) := by
    refine ddAll_of (g := backV) (f := fun v => cD (f v)) ?_
    have e3 : its.map (fun v => cD (f v)) = cs.map cD := by
      rw [← ef, List.map_map]
      rfl
    rw [e3, ← e1]
    exact hd0
  refine SrtO.sorted_ord (ltv := fun v u => ltC (f v) (f u)) ⟨fun x y => ltC_swo.asym _ _, fun x y z => ltC_swo.tr _ _ _⟩ hl.isList hz2 (fun h2 h1 b hb kk => ?_) fun out h1 h2 => ?_
  · refine coins_sortable (s := { s with heap := h1 }) (by omega) ?_ (fun v hv => (hp v hv).1.keeps fun c o e _ => (kk c o e).2) (fun v hv u hu => hdist _ (hp v hv).2 _ (hp u hu).2) fun o e => ?_
    · show X.A.units + 2 + 8 < cLine
      omega
    · have e' : some o = some (seqObj "list" its.toArray 0) := e.symm.trans hb
      cases e'
      intro c
      exact absurd (Value.type.inj c) (by decide)
  · have m : ∀ v ∈ out, v ∈ its := fun v hv => h2.perm.mem_iff.mp hv
    obtain ⟨n, hn⟩ := PyProof.Rows.sortedAll_at s.heap its out.toArray
    have lo := h2.perm.length_eq
    refine ⟨.ref _, upd H (s.heap.objs.size + 1) (.lst (out.map backV)), I.laid (t' := s.toks) (fun _ _ => PyProof.Rows.sortedAll_old) (Nat.le_succ _) ⟨by rw [List.length_map]; omega, out, n, vals_back fun u hu => e2 u (m u hu), hn⟩, rfl, ?_⟩
    refine q (out.map backV) (out.map f) _ ?_ (SrtO.srtd_map h1) ?_ (I.hok.fresh (Nat.le_succ _))
    · rw [List.map_map]
      exact ddAll_map fun v hv => hdd v (m v hv)
    · rw [← ef]
      exact SrtO.Stb.map ltC_swo f h2
end
end DL

/-! Rules over data for coins: sorted, dicts from ints to truths, truth of lists and tuples, tuples put together, not in. -/
namespace DL
open PySem PySem.Spec PyProof.Rows L2 TL
section
variable {X : Cx} {K : PySem.W.Frag}
theorem call_sortK (h : X.K = K) (hu : X.A.units + 64 < cLine) : CallR X (.builtin "sorted") (rSortC K) := by
  subst h
  exact call_sortC hu
/-- the truth of a value -/
def tTru (K : PySem.W.Frag) (te : TE) : TT := fun σ H Q => te σ H fun x H1 => ∃ k, TruV K x H1 k ∧ Q k H1
theorem pt_truK {a : Expr} {ta : TE} (h : X.K = K) (ha : PE X a ta) (he : ∀ whole, isTrue a X.env whole = (do let v ← whole; standAt a.pos; holding [v] (truthy v)) := by intro _; rfl) : PT X a (tTru K ta) := by
  subst h
  exact pt_truth ha he
theorem op_catK (h : X.K = K) : OpR X (binaryOp .Add) (rCatP K) := op_catP h
theorem pi_tupK {tg l : Expr} {tl : TE} (h : X.K = K) (hl : PE X l tl) : PI X tg l (iTup K tl) := by
  subst h
  exact pi_tup hl
/-- d not in xs, in xs: by == -/
def rNotInE (K : PySem.W.Frag) : R2 := fun x y H Q => ∃ d ds, Dd K H x d ∧ Dd K H y (.list ds) ∧ SeqAt.shaped d = true ∧ SeqAt.shaped (.list ds) = true ∧ Q (.bl (!ds.any fun z => PyData.eqv z d)) H
theorem op_notInK (h : X.K = K) (hu : X.A.units + 65 < cLine) : OpR X (compareOp .NotIn) (rNotInE K) := by
  subst h
  intro pins s σ H x y v u Q I rx ry h
  obtain ⟨d, ds, hd, he, sd, se, q⟩ := h
  exact op_notInD hu pins s σ H x y v u Q I rx ry ⟨d, ds, hd.dp (SeqAt.canLay_of_shaped sd), he.dp (SeqAt.canLay_of_shaped se), sd, se, q⟩
end
/-! ### dicts from ints to truths -/
abbrev Tl := List (Int × Bool)
def tlD (ps : Tl) : PyData := .dict (ps.map fun p => (.int p.1, .bool p.2))
def tlV (ps : Tl) : List (Key × V) := ps.map fun p => (.inl p.1, .bl p.2)
def putT (ps : Tl) (k : Int) (t : Bool) : Tl := if (ps.any fun p => decide (p.1 = k)) = true then ps.map (fun p => if p.1 = k then (p.1, t) else p) else ps ++ [(k, t)]
def lukT (ps : Tl) (k : Int) : Option Bool := (ps.find? fun p => decide (p.1 = k)).map (·.2)
theorem put_tlV (ps : Tl) (k : Int) (t : Bool) : putK (tlV ps) (.inl k) (.bl t) = tlV (putT ps k t) := by
  unfold putK putT tlV
  rw [List.any_map]
  have e : ((fun kv : Key × V => decide (kv.1 = Sum.inl k)) ∘ fun p : Int × Bool => ((Sum.inl p.1 : Key), V.bl p.2)) = fun p : Int × Bool => decide (p.1 = k) := by
    funext p
    show decide ((Sum.inl p.1 : Key) = Sum.inl k) = decide (p.1 = k)
    by_cases h : p.1 = k
    · rw [h]
      simp
    · rw [decide_eq_false h, decide_eq_false fun z => h (Sum.inl.inj z)]
  rw [e]
  split
  · rw [List.map_map, List.map_map]
    refine List.map_congr_left fun p _ => ?_
    show (if (Sum.inl p.1 : Key) = Sum.inl k then ((Sum.inl p.1 : Key), V.bl t) else ((Sum.inl p.1 : Key), V.bl p.2)) = ((Sum.inl (if p.1 = k then (p.1, t) else p).1 : Key), V.bl (if p.1 = k then (p.1, t) else p).2)
    by_cases h : p.1 = k
    · rw [if_pos h, if_pos (by rw [h])]
    · rw [if_neg h, if_neg fun z => h (Sum.inl.inj z)]
  · rw [List.map_append]
    rfl
theorem val_tlV (ps : Tl) (k : Int) : valV (tlV ps) (.inl k) = (lukT ps k).map V.bl := by
  unfold valV lukT tlV
  rw [List.find?_map, Option.map_map, Option.map_map]
  have e : ((fun kv : Key × V => decide (kv.1 = Sum.inl k)) ∘ fun p : Int × Bool => ((Sum.inl p.1 : Key), V.bl p.2)) = fun p : Int × Bool => decide (p.1 = k) := by
    funext p
    show decide ((Sum.inl p.1 : Key) = Sum.inl k) = decide (p.1 = k)
    by_cases h : p.1 = k
    · rw [h]
      simp
    · rw [decide_eq_false h, decide_eq_false fun z => h (Sum.inl.inj z)]
  rw [e]
  rfl
theorem dd_tl {K : PySem.W.Frag} {H : Hp} {a : Addr} (ps : Tl) (h : Rd H a (.dK (tlV ps))) : Dd K H (.ref a) (tlD ps) := by
  refine Dd.dic h ?_
  clear h
  induction ps with
  | nil => exact .nil
  | cons p ps ih => exact .cons (k := .inl p.1) (.bl p.2) ih
theorem tl_dd {K : PySem.W.Frag} {H : Hp} {v : V} {ps : Tl} (h : Dd K H v (tlD ps)) : ∃ a, v = .ref a ∧ Rd H a (.dK (tlV ps)) := by
  unfold tlD at h
  cases h with
  | dic hr hk =>
    rename_i a kvs
    refine ⟨a, rfl, ?_⟩
    have e : kvs = tlV ps := by
      clear hr
      induction ps generalizing kvs with
      | nil =>
        cases hk
        rfl
      | cons p ps ih =>
        rw [List.map_cons] at hk
        cases kvs with
        | nil => cases hk
        | cons kv kvs =>
          obtain ⟨k, v⟩ := kv
          cases k with
          | inl i =>
            generalize hq : (PyData.int p.1, PyData.bool p.2) = q at hk
            cases hk with
            | cons h1 h2 =>
              cases hq
              cases h1
              rw [ih h2]
              rfl
          | inr x =>
            generalize hq : (PyData.int p.1, PyData.bool p.2) = q at hk
            cases hk with
            | cons h1 h2 => cases hq
    rw [← e]
    exact hr
section
variable {w : Wd} {o o1 : Addr → Prop} {H H1 : Hp} {ρ : List Sl} {P : Sl → Prop} {te ta tb tc tl td ty : TE} {tt : TT} {tr : TA} {ts : TS} {e : En}
theorem cl_sortC : Cl w (rSortC w.K) (fun xs P => ∃ (x : Sl) (cs : List Coin), xs = [x] ∧ lstD x = some (cs.map cD) ∧ (∀ c ∈ cs, ∀ c' ∈ cs, c.1 = c'.1 → c.2.1 = c'.2.1 → c = c') ∧
    ∀ es : List Coin, SrtO.Srtd ltC es → SrtO.Stb ltC es cs → P (.dat (.list (es.map cD)))) := by
  rintro o H vs xs P Q b r ⟨x, cs, rfl, hx, hd, q⟩ k
  cases r with
  | cons r t =>
    cases t
    obtain ⟨a, us, rfl, hs, ha⟩ := r.lst hx
    refine ⟨a, us, cs, hid H o, rfl, hs, hid_le, ha, hd, fun ys es p hy h1 h2 np => ?_⟩
    have g := b.new (u := .lst ys) np
    exact k o _ _ _ g (VR.dat (Dd.lst (.inl (.inl (b.seen np))) (ddAll_mono g.same hy))) (q es h1 h2)
theorem t_tru {P : Bool → Prop} (h : E w te ρ fun x => ∃ ds, seqD x = some ds ∧ P (!ds.isEmpty)) : T w (tTru w.K te) ρ P := by
  intro o σ H Q ok k
  refine h o σ H _ ok ?_
  rintro o1 H1 v x g1 r1 ⟨ds, hx, q⟩
  obtain ⟨a, us, rfl, ha, hs⟩ := r1.seq hx
  have e : us.isEmpty = ds.isEmpty := by
    cases ha <;> rfl
  refine ⟨!ds.isEmpty, ?_, k o1 H1 _ g1 q⟩
  rw [← e]
  rcases hs with hs | hs
  · exact .inl ⟨us, hs, rfl⟩
  · exact .inr (.inl ⟨us, hs, rfl⟩)
theorem op2_catT : Op2 w (rCatP w.K) (fun x y P => ∃ ds es, x = .dat (.tuple ds) ∧ y = .dat (.tuple es) ∧ ds.length + es.length ≤ sizeLine ∧ P (.dat (.tuple (ds ++ es)))) := by
  rintro o H u v x y P Q b ru rv ⟨ds, es, rfl, rfl, hz, q⟩ k
  have ru' := ru
  have rv' := rv
  cases ru' with
  | tup h1 a1 =>
    cases rv' with
    | tup h2 a2 =>
      rename_i p xs p2 ys
      have l1 := DdAll.len a1
      have l2 := DdAll.len a2
      refine ⟨_, _, xs, ys, rfl, rfl, sqT_mono hid_le h1.t, sqT_mono hid_le h2.t, by omega, fun e => ?_, fun _ e => ?_, fun _ _ p ob np nd => ?_⟩
      · subst e
        cases a1
        exact k o H _ _ b.refl rv q
      · subst e
        cases a2
        rw [List.append_nil] at q
        exact k o H _ _ b.refl ru q
      · have g := b.new (u := .frz ob (.tup (xs ++ ys))) np
        exact k o _ _ _ g (VR.dat (Dd.tup (b.seenP np nd) (ddAll_mono g.same (DdAll.app a1 a2)))) q
theorem op2_notIn : Op2 w (rNotInE w.K) (fun x y P => ∃ d ds, x = .dat d ∧ lstD y = some ds ∧ SeqAt.shaped d = true ∧ SeqAt.shaped (.list ds) = true ∧ P (.dat (.bool (!ds.any fun z => PyData.eqv z d)))) := by
  rintro o H u v x y P Q b ru rv ⟨d, ds, rfl, hy, s1, s2, q⟩ k
  obtain ⟨a, us, rfl, hs, ha⟩ := rv.lst hy
  exact ⟨d, ds, dd_mono hid_le ru, Dd.lst hs (ddAll_mono hid_le ha), s1, s2, k o H _ _ b.refl (VR.dat (Dd.bl _)) q⟩
/-- x >> 30, x & 1 -/
theorem op2_odd : Op2 w (fun x y H Q => ∃ n : Nat, x = .int (n : Int) ∧ y = .int 1 ∧ Q (.int ((n % 2 : Nat) : Int)) H) (fun x y P => ∃ n : Nat, x = .dat (.int (n : Int)) ∧ y = .dat (.int 1) ∧ P (.dat (.int ((n % 2 : Nat) : Int)))) := by
  rintro o H u v x y P Q b ru rv ⟨n, rfl, rfl, q⟩ k
  cases ru
  cases rv
  exact ⟨n, rfl, rfl, k o H _ _ b.refl (VR.dat (Dd.int _)) q⟩
/-- k in told -/
theorem t_din {P : Bool → Prop} (h : E w ty ρ fun y => E w td ρ fun x => ∃ k ps, y = .dat (.int k) ∧ x = .dat (tlD ps) ∧ P (lukT ps k).isSome) : T w (tTest (tDIn ty td)) ρ P := by
  intro o σ H Q ok k
  refine h o σ H _ ok ?_
  intro o1 H1 v y g1 r1 q1
  refine q1 o1 σ H1 _ (ok.go g1) ?_
  rintro o2 H2 u x g2 r2 ⟨i, ps, rfl, rfl, q⟩
  cases r1
  obtain ⟨a, rfl, hr⟩ := tl_dd r2
  refine ⟨a, (lukT ps i).map V.bl, rfl, .inl ⟨tlV ps, .inl i, rd_mono hid_le hr, rfl, (val_tlV ps i).symm⟩, (lukT ps i).isSome, by rw [Option.isSome_map], k o2 H2 _ (g1.trans g2) q⟩
/-- told[k] -/
theorem e_dget (h : E w td ρ fun x => E w ty ρ fun y => ∃ k ps t, y = .dat (.int k) ∧ x = .dat (tlD ps) ∧ lukT ps k = some t ∧ P (.dat (.bool t))) : E w (tDGet td ty) ρ P := by
  intro o σ H Q ok k
  refine h o σ H _ ok ?_
  intro o1 H1 v x g1 r1 q1
  refine q1 o1 σ H1 _ (ok.go g1) ?_
  rintro o2 H2 u y g2 r2 ⟨i, ps, t, rfl, rfl, e, q⟩
  cases r2
  obtain ⟨a, rfl, hr⟩ := tl_dd (r1.go (ok.go g1).toBas g2)
  refine ⟨a, .bl t, rfl, .inl ⟨tlV ps, .inl i, rd_mono hid_le hr, rfl, ?_⟩, k o2 H2 _ _ (g1.trans g2) (VR.dat (Dd.bl t)) q⟩
  rw [val_tlV, e]
  rfl
end
end DL

/-! Comprehensions with targets of several names, dict comprehensions, loops over triples. -/
namespace DL
open PySem PySem.Spec PyProof.Rows L2 TL
/-! ### slots taken away -/
def clr {α : Type} (n : α) (xs : List α) : List Nat → List α
  | [] => xs
  | v :: vs => (clr n xs vs).set v n
theorem clr_get {α : Type} (n : α) (xs : List α) : ∀ (vs : List Nat) (k : Nat), (clr n xs vs)[k]? = if k ∈ vs then (xs[k]?).map (fun _ => n) else xs[k]?
  | [], k => by simp [clr]
  | v :: vs, k => by
    show ((clr n xs vs).set v n)[k]? = _
    rw [List.getElem?_set', clr_get n xs vs k]
    by_cases h : v = k
    · subst h
      simp only [List.mem_cons, true_or, if_true]
      split <;> cases xs[v]? <;> rfl
    · rw [if_neg h]
      have e : (k ∈ v :: vs) ↔ (k ∈ vs) := by
        simp only [List.mem_cons]
        exact ⟨fun z => z.elim (fun z => absurd z.symm h) id, .inr⟩
      by_cases hk : k ∈ vs
      · rw [if_pos hk, if_pos (e.mpr hk)]
      · rw [if_neg hk, if_neg fun z => hk (e.mp z)]
theorem clr_set {α : Type} {n a : α} {xs : List α} {vs : List Nat} {i : Nat} (h : i ∈ vs) : clr n (xs.set i a) vs = clr n xs vs := by
  apply List.ext_getElem?
  intro k
  rw [clr_get, clr_get, List.getElem?_set']
  by_cases hk : k ∈ vs
  · rw [if_pos hk, if_pos hk]
    split <;> cases xs[k]? <;> rfl
  · rw [if_neg hk, if_neg hk, if_neg fun (z : i = k) => hk (z ▸ h)]
theorem clr_clr {α : Type} {n : α} {xs : List α} {vs : List Nat} : clr n (clr n xs vs) vs = clr n xs vs := by
  apply List.ext_getElem?
  intro k
  rw [clr_get, clr_get]
  by_cases hk : k ∈ vs
  · rw [if_pos hk, if_pos hk]
    cases xs[k]? <;> rfl
  · rw [if_neg hk, if_neg hk]
theorem wipe_clr (σ : L2.St) : ∀ vs : List Nat, wipe σ vs = clr none σ vs
  | [] => rfl
  | v :: vs => by
    show (wipe σ vs).set v none = (clr none σ vs).set v none
    rw [wipe_clr σ vs]
theorem clr_no {ρ : List Sl} {vs : List Nat} {m : Nat} {x : Sl} (h : (clr Sl.no ρ vs)[m]? = some x) (hx : x ≠ .no) : ρ[m]? = some x := by
  rw [clr_get] at h
  split at h
  · cases e : ρ[m]? with
    | none => rw [e] at h; cases h
    | some y =>
      rw [e] at h
      cases h
      exact absurd rfl hx
  · exact h
section
variable {w : Wd} {o o1 : Addr → Prop} {H H1 : Hp} {σ : L2.St} {ρ : List Sl} {P : Sl → Prop} {te tl tk tv : TE} {tt : TT} {ts : TS} {e : En} {D : Addr} {vs : List Nat}
theorem Ok.clr (ok : Ok w o σ H ρ) : ∀ vs : List Nat, Ok w o (wipe σ vs) H (DL.clr Sl.no ρ vs)
  | [] => ok
  | v :: vs => (Ok.clr ok vs).wipe1 v
/-- an object of the def's own changes at D -/
theorem put_own {u : HO} (hu : Hidn (some u)) (ok : Ok w o σ H ρ) (hD : o D) (h0 : ¬ w.own0 D) (no : ∀ (j : Nat) (y : Sl) (q : Addr), ρ[j]? = some y → y.adr = some q → q ≠ D) :
    Ok w o σ (upd H D u) ρ ∧ hid (upd H D u) o = hid H o := by
  have eq : hid (upd H D u) o = hid H o := by
    funext a
    unfold hid
    split
    · rfl
    · rename_i na
      exact upd_ne fun z => na (z ▸ hD)
  have off : ∀ a, w.own0 a → a ≠ D := fun a h z => h0 (z ▸ h)
  refine ⟨⟨⟨by rw [eq]; exact ok.grow, ok.sub, fun a h nb => (upd_ne (off a h)).trans (ok.keep a h nb), fun b hb => ?_, ⟨ok.tab.1, ok.tab.2.go (by rw [eq]; exact Same.refl _) (fun q hq => upd_ne (off q.1 (ok.tab.1 q hq))) fun q hq => (ok.tab.2 q hq).1⟩, fun a h => ?_⟩, ok.len, fun j y ej => ?_, ok.apart⟩, eq⟩
  · obtain ⟨b1, b2⟩ := ok.bag b hb
    exact ⟨b1, b2.go (by rw [eq]; exact Same.refl _) (upd_ne (off b b1)) b2.1⟩
  · by_cases z : a = D
    · rw [z, upd_same]
      exact hu
    · rw [upd_ne z]
      exact ok.here a h
  · refine (ok.slot j y ej).imp id fun ⟨u2, hu, r⟩ => ⟨u2, hu, ?_⟩
    cases y with
    | no => trivial
    | bag => exact r
    | dat d =>
      show Dd w.K (hid (upd H D u) o) u2 d
      rw [eq]
      exact r
    | fn ob cc cs =>
      obtain ⟨f, e2, e3, ec, e4⟩ := r
      refine ⟨f, e2, ?_, ?_, fun p hp => ?_⟩
      · rw [eq]
        exact e3
      · rw [eq]
        exact ec
      · rw [eq]
        exact e4 p hp
    | ownD q zs =>
      obtain ⟨e2, hq, nq, us2, e3, ha3⟩ := r
      refine ⟨e2, hq, nq, us2, (upd_ne (no j _ q ej rfl)).trans e3, ?_⟩
      rw [eq]
      exact ha3
    | own q zs =>
      obtain ⟨e2, hq, nq, us2, e3, ha3⟩ := r
      refine ⟨e2, hq, nq, us2, (upd_ne (no j _ q ej rfl)).trans e3, ?_⟩
      rw [eq]
      exact ha3
/-- what stands while the object at D is made -/
def LcG (w : Wd) (vs : List Nat) (ρ : List Sl) (σ : L2.St) (o : Addr → Prop) (H : Hp) (D : Addr) (R : (Addr → Prop) → Hp → HO → Prop) (H1 : Hp) : Prop :=
  ∃ o1 u, Ok w o1 (wipe σ vs) H1 (DL.clr Sl.no ρ vs) ∧ Go w o H o1 H1 ∧ o1 D ∧ H1 D = some u ∧ R o1 H1 u
theorem lcg_start {R : (Addr → Prop) → Hp → HO → Prop} {u : HO} (ok : Ok w o σ H ρ) (hD : H D = none) (h0 : R (fun a => o a ∨ a = D) (upd H D u) u) (hu : Hidn (some u) := by exact ⟨(fun z => nomatch z), (fun _ _ z => by unfold LamX.CodeO at z; cases z), (fun _ _ z => nomatch z)⟩) : LcG w vs ρ σ o H D R (upd H D u) := by
  have g := ok.toBas.newOwn (u := u) hD hu
  exact ⟨_, u, (ok.clr vs).go g, g, .inr rfl, upd_same, h0⟩
/-- a new object beside -/
theorem lcg_new {R : (Addr → Prop) → Hp → HO → Prop} (hR : ∀ o1 H1 o2 H2 u, Go w o1 H1 o2 H2 → R o1 H1 u → R o2 H2 u) {p : Addr} {u : HO} (st : LcG w vs ρ σ o H D R H1) (np : H1 p = none) : LcG w vs ρ σ o H D R (upd H1 p u) := by
  obtain ⟨o1, u1, ok1, g1, oD, e1, r⟩ := st
  have g := ok1.toBas.new (u := u) np
  refine ⟨o1, u1, ok1.go g, g1.trans g, oD, ?_, hR _ _ _ _ _ g r⟩
  rw [upd_ne]
  · exact e1
  · intro z
    subst z
    rw [np] at e1
    cases e1
/-- the object at D changes -/
theorem lcg_put {R2 : (Addr → Prop) → Hp → HO → Prop} {u2 : HO} {σ2 : L2.St} {ρ2 : List Sl} {o2 : Addr → Prop} {H2 : Hp} (hD : H D = none) (h00 : ¬ w.own0 D)
    (hn : ∀ (m : Nat) (y : Sl) (q : Addr), ρ[m]? = some y → y.adr = some q → q ≠ D) (ok : Ok w o σ H ρ)
    (ok2 : Ok w o2 σ2 H2 ρ2) (g2 : Go w o H o2 H2) (oD : o2 D) (hσ : wipe σ2 vs = wipe σ vs) (hρ : DL.clr Sl.no ρ2 vs = DL.clr Sl.no ρ vs) (hr : ∀ H3, hid H3 o2 = hid H2 o2 → R2 o2 H3 u2) (hu : Hidn (some u2) := by exact ⟨(fun z => nomatch z), (fun _ _ z => by unfold LamX.CodeO at z; cases z), (fun _ _ z => nomatch z)⟩) : LcG w vs ρ σ o H D R2 (upd H2 D u2) := by
  have ok3 := ok2.clr vs
  rw [hσ, hρ] at ok3
  have no3 : ∀ (m : Nat) (y : Sl) (q : Addr), (DL.clr Sl.no ρ vs)[m]? = some y → y.adr = some q → q ≠ D := fun m y q f a => hn m y q (clr_no f (fun z => by subst z; cases a)) a
  obtain ⟨ok4, eq4⟩ := put_own (u := u2) hu ok3 oD h00 no3
  refine ⟨o2, u2, ok4, ⟨by rw [eq4]; exact g2.same, g2.sub, fun a h nb => (upd_ne fun z => ?_).trans (g2.keep a h nb), fun b hb => (ok4.bag b hb).2, ok4.tab.2, ok4.here⟩, oD, upd_same, hr _ eq4⟩
  subst z
  exact ok.hn _ h hD
theorem lcg_same {R2 : (Addr → Prop) → Hp → HO → Prop} {u : HO} {σ2 : L2.St} {ρ2 : List Sl} {o2 : Addr → Prop} {H2 : Hp}
    (ok2 : Ok w o2 σ2 H2 ρ2) (g2 : Go w o H o2 H2) (oD : o2 D) (e2 : H2 D = some u) (hσ : wipe σ2 vs = wipe σ vs) (hρ : DL.clr Sl.no ρ2 vs = DL.clr Sl.no ρ vs) (hr : R2 o2 H2 u) : LcG w vs ρ σ o H D R2 H2 := by
  have ok3 := ok2.clr vs
  rw [hσ, hρ] at ok3
  exact ⟨o2, u, ok3, g2, oD, e2, hr⟩
/-- the end: data -/
theorem lcg_end {R : (Addr → Prop) → Hp → HO → Prop} {Q : VK} (ok : Ok w o σ H ρ) (hD : H D = none) (st : LcG w vs ρ σ o H D R H1)
    (hp : ∀ o1 u, Go w o H o1 H1 → R o1 H1 u → H1 D = some u → ∃ d, P (.dat d) ∧ Dd w.K (hid H1 fun a => o1 a ∧ a ≠ D) (.ref D) d)
    (k : ∀ o' H' v x, Go w o H o' H' → VR w o' H' v x → P x → Q v H') : Q (.ref D) H1 := by
  obtain ⟨o1, u, ok1, g1, oD, e1, r⟩ := st
  have less : ∀ a, (o1 a ∧ a ≠ D) → o1 a := fun a h => h.1
  have off : ∀ a, o a → a ≠ D := fun a h z => ok.hn a h (z ▸ hD)
  obtain ⟨d, hd, rd⟩ := hp o1 u g1 r e1
  refine k (fun a => o1 a ∧ a ≠ D) H1 _ (.dat d) ⟨g1.same.trans (hid_less less), fun a h => ⟨g1.sub a h, off a h⟩, g1.keep, fun b hb => ?_, g1.tab.go (hid_less less) (fun _ _ => rfl) (fun q hq => ⟨(g1.tab q hq).1, fun z => off q.1 (ok.tab.2 q hq).1 z⟩), fun a h => g1.here a h.1⟩ rd hd
  have b2 := g1.bag b hb
  exact b2.go (hid_less less) rfl ⟨b2.1, fun z => off b (ok.bag b hb).2.1 z⟩
theorem own_apart (ok : Ok w o σ H ρ) (hD : H D = none) : (¬ w.own0 D) ∧ ∀ (m : Nat) (y : Sl) (q : Addr), ρ[m]? = some y → y.adr = some q → q ≠ D := by
  refine ⟨fun z => ok.hn D (ok.sub D z) hD, ?_⟩
  intro m y q f a z
  subst z
  exact ok.hn _ (ok.adr f a) hD
end
/-! ### lists -/
def RL (w : Wd) (I : Nat → List PyData → Prop) (i : Nat) (o : Addr → Prop) (H : Hp) (u : HO) : Prop := ∃ acc us, u = .lst us ∧ DdAll w.K (hid H o) us acc ∧ acc.length ≤ i ∧ I i acc
theorem RL.go {w : Wd} {I : Nat → List PyData → Prop} {i : Nat} : ∀ o1 H1 o2 H2 u, Go w o1 H1 o2 H2 → RL w I i o1 H1 u → RL w I i o2 H2 u := by
  rintro o1 H1 o2 H2 u g ⟨acc, us, rfl, ha, hl, hI⟩
  exact ⟨acc, us, rfl, ddAll_mono g.same ha, hl, hI⟩
theorem lcg_turn {w : Wd} {o : Addr → Prop} {H H1 : Hp} {σ σ2 : L2.St} {ρ ρ2 : List Sl} {te : TE} {tt : TT} {D : Addr} {vs : List Nat} {I : Nat → List PyData → Prop} {i : Nat} (ok : Ok w o σ H ρ) (hD : H D = none) (hi : i < sizeLine) (st : LcG w vs ρ σ o H D (RL w I i) H1)
    (hσ : wipe σ2 vs = wipe σ vs) (hρ : DL.clr Sl.no ρ2 vs = DL.clr Sl.no ρ vs) (hok : ∀ o1, Ok w o1 (wipe σ vs) H1 (DL.clr Sl.no ρ vs) → Go w o H o1 H1 → Ok w o1 σ2 H1 ρ2) (ht : ∀ acc, I i acc → Lc w tt te ρ2 I i acc) :
    tt σ2 H1 fun b H3 => if b = true then te σ2 H3 fun y H4 => ∃ acc, H4 D = some (.lst acc) ∧ acc.length < sizeLine ∧ LcG w vs ρ σ o H D (RL w I (i + 1)) (upd H4 D (.lst (acc ++ [y]))) else LcG w vs ρ σ o H D (RL w I (i + 1)) H3 := by
  obtain ⟨h00, hn⟩ := own_apart ok hD
  obtain ⟨o1, u, ok1, g1, oD, e1, acc, us, rfl, ha, hl, hI⟩ := st
  have okv := hok o1 ok1 g1
  have hnb : ¬ w.mu D := ok1.toBas.nb h00
  refine ht acc hI o1 σ2 H1 _ okv ?_
  intro o2 H2 b g2 q2
  have keepD : H2 D = some (.lst us) := (g2.keep D oD hnb).trans e1
  cases b with
  | false => exact lcg_same (okv.go g2) (g1.trans g2) (g2.sub D oD) keepD hσ hρ ⟨acc, us, rfl, ddAll_mono g2.same ha, by omega, q2⟩
  | true =>
    refine q2 o2 σ2 H2 _ (okv.go g2) ?_
    rintro o3 H3 y x g3 r3 ⟨z, rfl, q3⟩
    have keepD3 : H3 D = some (.lst us) := (g3.keep D (g2.sub D oD) hnb).trans keepD
    refine ⟨us, keepD3, by rw [DdAll.len ha]; omega, lcg_put hD h00 hn ok ((okv.go g2).go g3) ((g1.trans g2).trans g3) (g3.sub D (g2.sub D oD)) hσ hρ fun H4 e4 => ⟨acc ++ [z], us ++ [y], rfl, ?_, ?_, q3⟩⟩
    · rw [e4]
      exact DdAll.app (ddAll_mono (g2.trans g3).same ha) (.cons r3 .nil)
    · rw [List.length_append, List.length_singleton]
      omega
section
variable {w : Wd} {o o1 : Addr → Prop} {H H1 : Hp} {σ : L2.St} {ρ : List Sl} {P : Sl → Prop} {te tl tk tv : TE} {tt : TT} {ts : TS} {e : En}
theorem rl_end {I : Nat → List PyData → Prop} {n : Nat} {Q : VK} {D : Addr} {vs : List Nat} (ok : Ok w o σ H ρ) (hD : H D = none) (st : LcG w vs ρ σ o H D (RL w I n) H1) (hp : ∀ acc, I n acc → acc.length ≤ n → P (.dat (.list acc)))
    (k : ∀ o' H' v x, Go w o H o' H' → VR w o' H' v x → P x → Q v H') : Q (.ref D) H1 := by
  refine lcg_end ok hD st ?_ k
  rintro o1 u g ⟨acc, us, rfl, ha, hl, hI⟩ e1
  refine ⟨_, hp acc hI hl, Dd.lst (.inl (.inl ?_)) (ddAll_mono (hid_less fun a h => h.1) ha)⟩
  rw [hid_of fun z => z.2 rfl]
  exact e1
/-- [e for i, x in enumerate(a) if ..] -/
theorem e_lcE {i j m : Nat} (hm : m = 2) (h : E w tl ρ fun x => ∃ c ds, x = .dat c ∧ seqD (.dat c) = some ds ∧ ds.length ≤ sizeLine ∧ ∃ I : Nat → List PyData → Prop, I 0 [] ∧
      (∀ (k : Nat) d acc, ds[k]? = some d → I k acc → Lc w tt te (((DL.clr Sl.no ρ [i, j]).set i (.dat (.int (k : Int)))).set j (.dat d)) I k acc) ∧ ∀ acc, I ds.length acc → acc.length ≤ ds.length → P (.dat (.list acc))) :
    E w (tLc (iEnumA w.K tl) (gTup w.K m (gCons (gName i) (gCons (gName j) gNil))) tt te [i, j]) ρ P := by
  subst hm
  intro o σ H Q ok k
  refine h o σ H _ ok ?_
  rintro o1 H1 v x g1 r1 ⟨c, ds, rfl, hx, hz, I, h0, hs, hp⟩
  have ok1 := ok.go g1
  obtain ⟨a, us, rfl, ha, hq⟩ := r1.seqDat hx
  have ln := DdAll.len ha
  have main : ∀ (D : Addr) (hD : H1 D = none) (J : It) (G : Hp → Prop), (∀ o2 H2, Go w o1 H1 o2 H2 → G H2) → Walk J us.length G (YPair (fun i => some (.int (i : Nat))) (fun i => us[i]?)) → ∃ W : Nat → Nat → Hp → Prop, (∃ m, W 0 m (upd H1 D (.lst []))) ∧ ∀ n m H, W n m H →
      (J.stop n H ∧ Q (.ref D) H) ∨ (J.go n H ∧ ∃ Nx : Hp → Prop, (∀ H', Nx H' → ∃ m', m' < m ∧ W (n + 1) m' H') ∧ ∀ x H', J.yld n H x H' → gTup w.K 2 (gCons (gName i) (gCons (gName j) gNil)) x (wipe σ [i, j]) H' fun σ2 H2 => wipe σ2 [i, j] = wipe σ [i, j] ∧ tt σ2 H2 fun b H3 =>
        if b = true then te σ2 H3 fun y H4 => ∃ acc, H4 D = some (.lst acc) ∧ acc.length < sizeLine ∧ Nx (upd H4 D (.lst (acc ++ [y]))) else Nx H3) := by
    intro D hD J G hG wk
    refine lc_it wk (fun n H2 => LcG w [i, j] ρ σ o1 H1 D (RL w I n) H2) (lcg_start ok1 hD ⟨[], [], rfl, .nil, Nat.le_refl _, h0⟩) (fun n H2 _ st => ?_) (fun n y H2 H3 hi st yy => ?_) (fun H2 st => ?_)
    · obtain ⟨o2, _, _, g2, _⟩ := st
      exact hG o2 H2 g2
    · obtain ⟨p, u1, u2, rfl, np, rfl, e1, e2⟩ := yy
      cases e1
      obtain ⟨d, hd, _⟩ := DdAll.gets ha e2
      have st' := lcg_new (u := .tup [.int (n : Nat), u2]) RL.go st np
      refine ⟨p, _, rfl, .inl (.inl upd_same), rfl, _, _, rfl, _, _, rfl, rfl, ?_⟩
      have hσ : wipe (((wipe σ [i, j]).set i (some (.int (n : Nat)))).set j (some u2)) [i, j] = wipe σ [i, j] := by
        simp only [wipe_clr]
        rw [clr_set (by simp), clr_set (by simp), clr_clr]
      refine ⟨hσ, ?_⟩
      refine lcg_turn (ρ2 := ((DL.clr Sl.no ρ [i, j]).set i (.dat (.int (n : Int)))).set j (.dat d)) ok1 hD (by omega) st' hσ (by rw [clr_set (by simp), clr_set (by simp), clr_clr]) (fun o2 k2 g2 => ?_) fun acc hI => hs n d acc hd hI
      have rd : Dd w.K (hid (upd H2 p (.tup [.int (n : Nat), u2])) o2) u2 d := by
        obtain ⟨d2, hd2, rd2⟩ := DdAll.gets (ddAll_mono g2.same ha) e2
        rw [hd] at hd2
        cases hd2
        exact rd2
      exact (k2.setD i (x := .dat (.int (n : Int))) (Dd.int _) trivial).setD j (x := .dat d) rd trivial
    · rw [ln] at st
      exact rl_end ok1 hD st hp fun o' H' v x g r p => k o' H' v x (g1.trans g) r p
  refine ⟨a, us, rfl, ?_⟩
  rcases hq with hq | hq
  · exact .inl ⟨hid_le.seq hq, fun D hD => main D hD _ _ (fun o2 H2 g => hid_le.seq (g.same.seq hq)) walk_enum⟩
  · exact .inr ⟨sqT_mono hid_le hq, fun D hD => main D hD _ _ (fun o2 H2 g => sqT_mono hid_le (sqT_mono g.same hq)) walk_enumT⟩
/-- x = [e for y in a if ..], a list that will be changed -/
theorem s_setLcS {i j : Nat} (h : E w tl ρ fun x => ∃ c ds, x = .dat c ∧ seqD (.dat c) = some ds ∧ ds.length ≤ sizeLine ∧ ∃ I : Nat → List PyData → Prop, I 0 [] ∧
      (∀ (k : Nat) d acc, ds[k]? = some d → I k acc → Lc w tt te ((DL.clr Sl.no ρ [j]).set j (.dat d)) I k acc) ∧ ∀ acc p, I ds.length acc → acc.length ≤ ds.length → e.nx (ρ.set i (.own p acc))) :
    S w (tAsg (tLc (iSeq w.K tl) (gName j) tt te [j]) (gName i)) ρ e := by
  intro o σ H En ok kn kr kb kc
  refine h o σ H _ ok ?_
  rintro o1 H1 v x g1 r1 ⟨c, ds, rfl, hx, hz, I, h0, hs, hp⟩
  have ok1 := ok.go g1
  obtain ⟨a, us, rfl, ha, hq⟩ := r1.seqDat hx
  have ln := DdAll.len ha
  have main : ∀ (D : Addr) (hD : H1 D = none) (J : It) (G : Hp → Prop), (∀ o2 H2, Go w o1 H1 o2 H2 → G H2) → Walk J us.length G (YAt us) → ∃ W : Nat → Nat → Hp → Prop, (∃ m, W 0 m (upd H1 D (.lst []))) ∧ ∀ n m H, W n m H →
      (J.stop n H ∧ gName i (.ref D) σ H En.nx) ∨ (J.go n H ∧ ∃ Nx : Hp → Prop, (∀ H', Nx H' → ∃ m', m' < m ∧ W (n + 1) m' H') ∧ ∀ x H', J.yld n H x H' → gName j x (wipe σ [j]) H' fun σ2 H2 => wipe σ2 [j] = wipe σ [j] ∧ tt σ2 H2 fun b H3 =>
        if b = true then te σ2 H3 fun y H4 => ∃ acc, H4 D = some (.lst acc) ∧ acc.length < sizeLine ∧ Nx (upd H4 D (.lst (acc ++ [y]))) else Nx H3) := by
    intro D hD J G hG wk
    refine lc_it (Qd := fun H => gName i (.ref D) σ H En.nx) wk (fun n H2 => LcG w [j] ρ σ o1 H1 D (RL w I n) H2) (lcg_start ok1 hD ⟨[], [], rfl, .nil, Nat.le_refl _, h0⟩) (fun n H2 _ st => ?_) (fun n y H2 H3 hi st yy => ?_) (fun H2 st => ?_)
    · obtain ⟨o2, _, _, g2, _⟩ := st
      exact hG o2 H2 g2
    · obtain ⟨rfl, e2⟩ := yy
      obtain ⟨d, hd, _⟩ := DdAll.gets ha e2
      have hσ : wipe ((wipe σ [j]).set j (some y)) [j] = wipe σ [j] := by
        simp only [wipe_clr]
        rw [clr_set (by simp), clr_clr]
      refine ⟨hσ, ?_⟩
      refine lcg_turn (ρ2 := (DL.clr Sl.no ρ [j]).set j (.dat d)) ok1 hD (by omega) st hσ (by rw [clr_set (by simp), clr_clr]) (fun o2 k2 g2 => ?_) fun acc hI => hs n d acc hd hI
      have rd : Dd w.K (hid H3 o2) y d := by
        obtain ⟨d2, hd2, rd2⟩ := DdAll.gets (ddAll_mono g2.same ha) e2
        rw [hd] at hd2
        cases hd2
        exact rd2
      exact k2.setD j (x := .dat d) rd trivial
    · rw [ln] at st
      obtain ⟨h00, hn⟩ := own_apart ok1 hD
      obtain ⟨o2, u, ok2, g2, oD, e1, acc, xs, rfl, hacc, hl, hI⟩ := st
      refine kn o2 _ _ _ ((ok1.go g2).set i (x := .own D acc) ⟨rfl, oD, h00, xs, e1, hacc⟩ ?_) (hp acc D hI hl)
      rintro p' e' m y' q' nj ej a'
      cases e'
      exact (hn m y' q' ej a').symm
  refine ⟨a, us, rfl, ?_⟩
  rcases hq with hq | hq
  · exact .inl ⟨hid_le.seq hq, fun D hD => main D hD _ _ (fun o2 H2 g => hid_le.seq (g.same.seq hq)) walk_list⟩
  · exact .inr ⟨sqT_mono hid_le hq, fun D hD => main D hD _ _ (fun o2 H2 g => sqT_mono hid_le (sqT_mono g.same hq)) walk_tup⟩
/-- for x, y, z in a -/
theorem s_for3 {i j l m : Nat} (hm : m = 3) (h : E w te ρ fun x => ∃ c ds, x = .dat c ∧ seqD (.dat c) = some ds ∧ (∀ d ∈ ds, ∃ d1 d2 d3, d = .tuple [d1, d2, d3]) ∧ ∃ I : Nat → List Sl → Prop, I 0 ρ ∧
      (∀ (k : Nat) (d1 d2 d3 : PyData) (ρ' : List Sl), ds[k]? = some (.tuple [d1, d2, d3]) → I k ρ' → Turns w ts e I k (((ρ'.set i (.dat d1)).set j (.dat d2)).set l (.dat d3))) ∧ ∀ ρ', I ds.length ρ' → e.nx ρ') :
    S w (tFor (iSeq w.K te) (gTup w.K m (gCons (gName i) (gCons (gName j) (gCons (gName l) gNil)))) ts) ρ e := by
  subst hm
  intro o σ H D ok kn kr kb kc
  refine h o σ H _ ok ?_
  rintro o1 H1 v x g1 r1 ⟨c, ds, rfl, hx, h3, I, h0, hs, hd⟩
  have ok1 := ok.go g1
  obtain ⟨a, vs, rfl, ha, hq⟩ := r1.seqDat hx
  have ln := DdAll.len ha
  have b1 := ok1.toBas
  have okA := ok_in b1 ok1 (Same.refl _)
  have fin : ∀ σ' H', (∃ o' ρ', Ok (wAt w o1 H1) o' σ' H' ρ' ∧ I vs.length ρ') → D.nx σ' H' := by
    rintro σ' H' ⟨o', ρ', k1, i1⟩
    rw [ln] at i1
    exact kn o' σ' H' ρ' (ok_out b1 k1).1 (hd ρ' i1)
  have step : ∀ (k : Nat) (y : V) (σ2 : L2.St) (H2 H3 : Hp), k < vs.length → (∃ o' ρ', Ok (wAt w o1 H1) o' σ2 H2 ρ' ∧ I k ρ') → YAt vs k H2 y H3 →
      gTup w.K 3 (gCons (gName i) (gCons (gName j) (gCons (gName l) gNil))) y σ2 H3 fun σ4 H4 => ts { D with
        nx := fun σ' H' => ∃ o' ρ', Ok (wAt w o1 H1) o' σ' H' ρ' ∧ I (k + 1) ρ',
        ct := fun σ' H' => ∃ o' ρ', Ok (wAt w o1 H1) o' σ' H' ρ' ∧ I (k + 1) ρ', bk := D.nx } σ4 H4 := by
    rintro k y σ2 H2 H3 hk ⟨o2, ρ2, ok2, i2⟩ ⟨rfl, e2⟩
    obtain ⟨_, s2⟩ := ok_out b1 ok2
    obtain ⟨d, hd1, rd⟩ := DdAll.gets (ddAll_mono s2 ha) e2
    obtain ⟨d1, d2, d3, rfl⟩ := h3 d (List.mem_of_getElem? hd1)
    cases rd with
    | tup hs1 ha1 =>
      cases ha1 with
      | cons ra ha1 =>
        cases ha1 with
        | cons rb ha1 =>
          cases ha1 with
          | cons rc ha1 =>
            cases ha1
            refine ⟨_, _, rfl, sqT_mono hid_le hs1.t, rfl, _, _, rfl, _, _, rfl, _, _, rfl, rfl, ?_⟩
            refine hs k d1 d2 d3 ρ2 hd1 i2 (wAt w o1 H1).H0 o2 _ _ _ (((ok2.setD i (x := .dat d1) ra trivial).setD j (x := .dat d2) rb trivial).setD l (x := .dat d3) rc trivial) ?_ ?_ ?_ ?_
            · intro o' σ' H' ρ' a1 a2
              exact ⟨o', ρ', a1, a2⟩
            · intro o' H' v' d' a1 a2 a3
              exact kr o' H' v' d' (bas_out b1 a1).1 a2 a3
            · intro o' σ' H' ρ' a1 a2
              exact kn o' σ' H' ρ' (ok_out b1 a1).1 a2
            · intro o' σ' H' ρ' a1 a2
              exact ⟨o', ρ', a1, a2⟩
  refine ⟨a, vs, rfl, ?_⟩
  rcases hq with hq | hq
  · refine .inl ⟨hid_le.seq hq, ?_⟩
    exact for_it walk_list (fun k σ' H' => ∃ o' ρ', Ok (wAt w o1 H1) o' σ' H' ρ' ∧ I k ρ') ⟨o1, ρ, okA, h0⟩
      (fun k σ' H' _ ⟨o', ρ', k1, _⟩ => hid_le.seq ((ok_out b1 k1).2.seq hq)) step fin
  · refine .inr ⟨sqT_mono hid_le hq, ?_⟩
    exact for_it walk_tup (fun k σ' H' => ∃ o' ρ', Ok (wAt w o1 H1) o' σ' H' ρ' ∧ I k ρ') ⟨o1, ρ, okA, h0⟩
      (fun k σ' H' _ ⟨o', ρ', k1, _⟩ => sqT_mono hid_le (sqT_mono (ok_out b1 k1).2 hq)) step fin
/-! ### dicts -/
theorem dc_it {J : It} {n : Nat} {G : Hp → Prop} {Y : Nat → Hp → V → Hp → Prop} (w : Walk J n G Y) {g : TG} {tt : TT} {tk tv : TE} {vs : List Nat} {σ : L2.St} {H1 : Hp} {D : Addr} {Qd : Hp → Prop} (Pv : Nat → Hp → Prop) (h0 : Pv 0 (upd H1 D (.dK []))) (hG : ∀ i H, i ≤ n → Pv i H → G H)
    (hs : ∀ i x H H', i < n → Pv i H → Y i H x H' → g x (wipe σ vs) H' fun σ2 H2 => wipe σ2 vs = wipe σ vs ∧ tt σ2 H2 fun b H3 =>
      if b = true then tk σ2 H3 fun y H4 => tv σ2 H4 fun z H5 => ∃ kvs k, y = kV k ∧ H5 D = some (.dK kvs) ∧ kvs.length < sizeLine ∧ Pv (i + 1) (upd H5 D (.dK (putK kvs k z))) else Pv (i + 1) H3) (hd : ∀ H, Pv n H → Qd H) :
    ∃ W : Nat → Nat → Hp → Prop, (∃ m, W 0 m (upd H1 D (.dK []))) ∧ ∀ i m H, W i m H →
      (J.stop i H ∧ Qd H) ∨ (J.go i H ∧ ∃ Nx : Hp → Prop, (∀ H', Nx H' → ∃ m', m' < m ∧ W (i + 1) m' H') ∧ ∀ x H', J.yld i H x H' → g x (wipe σ vs) H' fun σ2 H2 => wipe σ2 vs = wipe σ vs ∧ tt σ2 H2 fun b H3 =>
        if b = true then tk σ2 H3 fun y H4 => tv σ2 H4 fun z H5 => ∃ kvs k, y = kV k ∧ H5 D = some (.dK kvs) ∧ kvs.length < sizeLine ∧ Nx (upd H5 D (.dK (putK kvs k z))) else Nx H3) := by
  refine ⟨fun i m H => m = n - i ∧ i ≤ n ∧ Pv i H, ⟨n, by simp, Nat.zero_le _, h0⟩, ?_⟩
  rintro i m H ⟨rfl, hi, p⟩
  have q := hG i H hi p
  by_cases hlt : i < n
  · refine .inr ⟨w.goes i H hlt q, Pv (i + 1), fun H' p' => ⟨n - (i + 1), by omega, rfl, hlt, p'⟩, fun x H' y => hs i x H H' hlt p (w.yields i H x H' hlt q y)⟩
  · have e : i = n := by omega
    subst e
    exact .inl ⟨w.stops H q, hd H p⟩
/-- what stands in a dict of told coins behind i of them -/
def toldBy (g : Coin → Bool) (cs : List Coin) : Tl := cs.foldl (fun ps c => if g c = true then putT ps c.2.1 c.2.2 else ps) []
theorem putT_len (ps : Tl) (k : Int) (t : Bool) : (putT ps k t).length ≤ ps.length + 1 := by
  unfold putT
  split
  · rw [List.length_map]
    omega
  · rw [List.length_append, List.length_singleton]
    omega
theorem told_len (g : Coin → Bool) : ∀ (cs : List Coin) (ps : Tl), (cs.foldl (fun ps c => if g c = true then putT ps c.2.1 c.2.2 else ps) ps).length ≤ ps.length + cs.length
  | [], ps => Nat.le_refl _
  | c :: cs, ps => by
    rw [List.foldl_cons, List.length_cons]
    refine Nat.le_trans (told_len g cs _) ?_
    have := putT_len ps c.2.1 c.2.2
    split <;> omega
def RT (g : Coin → Bool) (cs : List Coin) (i : Nat) (_ : Addr → Prop) (_ : Hp) (u : HO) : Prop := u = .dK (tlV (toldBy g (cs.take i)))
/-- {k: t for its, k, t in a if ..} -/
theorem e_dcC {i j l m : Nat} (hm : m = 3) (g : Coin → Bool) (h : E w tl ρ fun x => ∃ (c : PyData) (cs : List Coin), x = .dat c ∧ seqD (.dat c) = some (cs.map cD) ∧ cs.length ≤ sizeLine ∧
      (∀ c ∈ cs, T w tt ((((DL.clr Sl.no ρ [i, j, l]).set i (.dat (nmD c.1))).set j (.dat (.int c.2.1))).set l (.dat (.bool c.2.2))) fun b => b = g c ∧
        (b = true → E w tk ((((DL.clr Sl.no ρ [i, j, l]).set i (.dat (nmD c.1))).set j (.dat (.int c.2.1))).set l (.dat (.bool c.2.2))) fun y => y = .dat (.int c.2.1) ∧
          E w tv ((((DL.clr Sl.no ρ [i, j, l]).set i (.dat (nmD c.1))).set j (.dat (.int c.2.1))).set l (.dat (.bool c.2.2))) fun z => z = .dat (.bool c.2.2))) ∧
      P (.dat (tlD (toldBy g cs)))) :
    E w (tDc (iSeq w.K tl) (gTup w.K m (gCons (gName i) (gCons (gName j) (gCons (gName l) gNil)))) tt tk tv [i, j, l]) ρ P := by
  subst hm
  intro o σ H Q ok k
  refine h o σ H _ ok ?_
  rintro o1 H1 v x g1 r1 ⟨c, cs, rfl, hx, hz, hs, hp⟩
  have ok1 := ok.go g1
  obtain ⟨a, us, rfl, ha, hq⟩ := r1.seqDat hx
  have ln := DdAll.len ha
  rw [List.length_map] at ln
  have main : ∀ (D : Addr) (hD : H1 D = none) (J : It) (G : Hp → Prop), (∀ o2 H2, Go w o1 H1 o2 H2 → G H2) → Walk J us.length G (YAt us) → ∃ W : Nat → Nat → Hp → Prop, (∃ m, W 0 m (upd H1 D (.dK []))) ∧ ∀ n m H, W n m H →
      (J.stop n H ∧ Q (.ref D) H) ∨ (J.go n H ∧ ∃ Nx : Hp → Prop, (∀ H', Nx H' → ∃ m', m' < m ∧ W (n + 1) m' H') ∧ ∀ x H', J.yld n H x H' → gTup w.K 3 (gCons (gName i) (gCons (gName j) (gCons (gName l) gNil))) x (wipe σ [i, j, l]) H' fun σ2 H2 => wipe σ2 [i, j, l] = wipe σ [i, j, l] ∧ tt σ2 H2 fun b H3 =>
        if b = true then tk σ2 H3 fun y H4 => tv σ2 H4 fun z H5 => ∃ kvs k, y = kV k ∧ H5 D = some (.dK kvs) ∧ kvs.length < sizeLine ∧ Nx (upd H5 D (.dK (putK kvs k z))) else Nx H3) := by
    intro D hD J G hG wk
    obtain ⟨h00, hn⟩ := own_apart ok1 hD
    refine dc_it wk (fun n H2 => LcG w [i, j, l] ρ σ o1 H1 D (RT g cs n) H2) (lcg_start ok1 hD rfl) (fun n H2 _ st => ?_) (fun n y H2 H3 hi st yy => ?_) (fun H2 st => ?_)
    · obtain ⟨o2, _, _, g2, _⟩ := st
      exact hG o2 H2 g2
    · obtain ⟨rfl, e2⟩ := yy
      obtain ⟨o2, u, ok2, g2, oD, e1, rfl⟩ := st
      obtain ⟨d, hd, rd⟩ := DdAll.gets (ddAll_mono g2.same ha) e2
      obtain ⟨cc, hc, rfl⟩ := map_getE hd
      have hnb : ¬ w.mu D := ok2.toBas.nb h00
      have tk1 : cs.take (n + 1) = cs.take n ++ [cc] := by
        rw [List.take_succ, hc]
        rfl
      have tl1 : toldBy g (cs.take (n + 1)) = if g cc = true then putT (toldBy g (cs.take n)) cc.2.1 cc.2.2 else toldBy g (cs.take n) := by
        unfold toldBy
        rw [tk1, List.foldl_append]
        rfl
      cases rd with
      | tup hs1 ha1 =>
        cases ha1 with
        | cons ra ha1 =>
          cases ha1 with
          | cons rb ha1 =>
            cases ha1 with
            | cons rc ha1 =>
              cases ha1
              rename_i p u1 u2 u3
              have hσ : wipe ((((wipe σ [i, j, l]).set i (some u1)).set j (some u2)).set l (some u3)) [i, j, l] = wipe σ [i, j, l] := by
                simp only [wipe_clr]
                rw [clr_set (by simp), clr_set (by simp), clr_set (by simp), clr_clr]
              have hρ : DL.clr Sl.no ((((DL.clr Sl.no ρ [i, j, l]).set i (.dat (nmD cc.1))).set j (.dat (.int cc.2.1))).set l (.dat (.bool cc.2.2))) [i, j, l] = DL.clr Sl.no ρ [i, j, l] := by
                rw [clr_set (by simp), clr_set (by simp), clr_set (by simp), clr_clr]
              refine ⟨_, _, rfl, sqT_mono hid_le hs1.t, rfl, _, _, rfl, _, _, rfl, _, _, rfl, rfl, hσ, ?_⟩
              have ok3 := ((ok2.setD i (x := .dat (nmD cc.1)) ra trivial).setD j (x := .dat (.int cc.2.1)) rb trivial).setD l (x := .dat (.bool cc.2.2)) rc trivial
              refine hs cc (List.mem_of_getElem? hc) o2 _ _ _ ok3 ?_
              rintro o4 H4 b g4 ⟨rfl, hb⟩
              have keep4 : H4 D = some (.dK (tlV (toldBy g (cs.take n)))) := (g4.keep D oD hnb).trans e1
              by_cases hg : g cc = true
              · rw [if_pos hg]
                refine hb hg o4 _ _ _ (ok3.go g4) ?_
                rintro o5 H5 y5 x5 g5 r5 ⟨rfl, hv⟩
                refine hv o5 _ _ _ ((ok3.go g4).go g5) ?_
                rintro o6 H6 y6 x6 g6 r6 rfl
                cases r5
                cases r6
                have keep6 : H6 D = some (.dK (tlV (toldBy g (cs.take n)))) := (g6.keep D (g5.sub D (g4.sub D oD)) hnb).trans ((g5.keep D (g4.sub D oD) hnb).trans keep4)
                refine ⟨tlV (toldBy g (cs.take n)), .inl cc.2.1, rfl, keep6, ?_, ?_⟩
                · have := told_len g (cs.take n) []
                  have e : (tlV (toldBy g (cs.take n))).length = (toldBy g (cs.take n)).length := List.length_map ..
                  rw [e]
                  rw [List.length_take] at this
                  unfold toldBy
                  simp only [List.length_nil] at this
                  omega
                · refine lcg_put hD h00 hn ok1 (((ok3.go g4).go g5).go g6) (((g2.trans g4).trans g5).trans g6) (g6.sub D (g5.sub D (g4.sub D oD))) hσ hρ fun H7 _ => ?_
                  show HO.dK _ = HO.dK _
                  rw [put_tlV, tl1, if_pos hg]
              · rw [if_neg hg]
                refine lcg_same (ok3.go g4) (g2.trans g4) (g4.sub D oD) keep4 hσ hρ ?_
                show HO.dK _ = HO.dK _
                rw [tl1, if_neg hg]
    · refine lcg_end ok1 hD st ?_ fun o' H' v x g r p => k o' H' v x (g1.trans g) r p
      rintro o2 u g2 ru e1
      have ru : u = .dK (tlV (toldBy g (cs.take us.length))) := ru
      rw [ln, List.take_length] at ru
      subst ru
      refine ⟨_, hp, dd_tl _ (.inl ?_)⟩
      rw [hid_of fun z => z.2 rfl]
      exact e1
  refine ⟨a, us, rfl, ?_⟩
  rcases hq with hq | hq
  · exact .inl ⟨hid_le.seq hq, fun D hD => main D hD _ _ (fun o2 H2 g => hid_le.seq (g.same.seq hq)) walk_list⟩
  · exact .inr ⟨sqT_mono hid_le hq, fun D hD => main D hD _ _ (fun o2 H2 g => sqT_mono hid_le (sqT_mono g.same hq)) walk_tup⟩
/-! ### int of a truth, odd ones -/
def asI : PyData → Option Int
  | .int i => some i
  | .bool b => some (if b = true then 1 else 0)
  | _ => none
theorem cl_intB : Cl w (fun xs H Q => (∃ i, xs = [.int i] ∧ Q (.int i) H) ∨ ∃ k, xs = [.bl k] ∧ Q (.int (if k = true then 1 else 0)) H) (fun xs P => ∃ d i, xs = [.dat d] ∧ asI d = some i ∧ P (.dat (.int i))) := by
  rintro o H vs xs P Q b r ⟨d, i, rfl, hx, q⟩ k
  cases r with
  | cons r t =>
    cases t
    cases d with
    | int n =>
      cases hx
      cases r
      exact .inl ⟨_, rfl, k o H _ _ b.refl (VR.dat (Dd.int _)) q⟩
    | bool c =>
      cases hx
      cases r
      exact .inr ⟨_, rfl, k o H _ _ b.refl (VR.dat (Dd.int _)) q⟩
    | none => cases hx
    | str _ => cases hx
    | list _ => cases hx
    | tuple _ => cases hx
    | dict _ => cases hx
theorem op2_oddI : Op2 w (fun x y H Q => ∃ n : Nat, x = .int (n : Int) ∧ y = .int 1 ∧ Q (.int ((n % 2 : Nat) : Int)) H) (fun x y P => ∃ i : Int, x = .dat (.int i) ∧ y = .dat (.int 1) ∧ 0 ≤ i ∧ P (.dat (.int (i % 2)))) := by
  rintro o H u v x y P Q b ru rv ⟨i, rfl, rfl, h0, q⟩ k
  cases ru
  cases rv
  obtain ⟨n, rfl⟩ : ∃ n : Nat, i = (n : Int) := ⟨i.toNat, by omega⟩
  exact ⟨n, rfl, rfl, k o H _ _ b.refl (VR.dat (Dd.int _)) q⟩
/-- k in told, as a value -/
theorem e_din {td ty : TE} (h : E w ty ρ fun y => E w td ρ fun x => ∃ k ps, y = .dat (.int k) ∧ x = .dat (tlD ps) ∧ P (.dat (.bool (lukT ps k).isSome))) : E w (tDIn ty td) ρ P := by
  intro o σ H Q ok k
  refine h o σ H _ ok ?_
  intro o1 H1 v y g1 r1 q1
  refine q1 o1 σ H1 _ (ok.go g1) ?_
  rintro o2 H2 u x g2 r2 ⟨i, ps, rfl, rfl, q⟩
  cases r1
  obtain ⟨a, rfl, hr⟩ := tl_dd r2
  exact ⟨a, (lukT ps i).map V.bl, rfl, .inl ⟨tlV ps, .inl i, rd_mono hid_le hr, rfl, (val_tlV ps i).symm⟩, k o2 H2 _ _ (g1.trans g2) (by rw [Option.isSome_map]; exact VR.dat (Dd.bl _)) q⟩
end
section
variable {X : Cx} {K : PySem.W.Frag}
theorem units65 {k : Nat} {A : Around} (r : Room k A) : A.units + 65 < cLine := by have := r.un; omega
theorem units1 {k : Nat} {A : Around} (r : Room k A) : A.units + 1 < cLine := by have := r.un; omega
theorem pi_enumK {e : Expr} {te : TE} {p pos tpos : Pos} {es : List Expr} {kk : Nat} (hK : X.K = K) (hg : Gl X "enumerate") (hm : X.mg "enumerate" = none) (he : PE X e te) (hs : starEach [e] X.env = [(false, eval e X.env)] := by rfl) :
    PI X (.Tuple es kk tpos) (.Call (.Name "enumerate" p) [e] [] pos) (iEnumA K te) := by
  subst hK
  exact pi_enumA hg hm he hs
theorem pg_tupK {es : List Expr} {k : Nat} {pos : Pos} {t : TGs} {n : Nat} (hK : X.K = K) (hc : X.calm = true) (h : PGs X es t)
    (hn : (assignEach es X.env).length = n := by rfl) (hst : (assignEach es X.env).findIdx? (·.1) = none := by rfl) : PG X (.Tuple es k pos) (gTup K n t) := by
  subst hK
  exact pg_tup hc h hn hst
theorem sl_seqK (hK : X.K = K) : SlR X (fun x lo hi H Q => rSlL K x lo hi H Q ∨ rSlP K x lo hi H Q) := by
  subst hK
  exact sl_seqA
end
end DL

/-! Four names at once, a new list and another at once, the least of two. -/
namespace DL
open PySem PySem.Spec PyProof.Rows L2 TL
section
variable {w : Wd} {o : Addr → Prop} {H : Hp} {σ : L2.St} {ρ : List Sl} {te : TE} {e : En}
/-- x, y, z, u = e -/
theorem s_set4 {i j l m n : Nat} (hn : n = 4) (h : E w te ρ fun x => ∃ d1 d2 d3 d4, x = .dat (.tuple [d1, d2, d3, d4]) ∧ e.nx ((((ρ.set i (.dat d1)).set j (.dat d2)).set l (.dat d3)).set m (.dat d4))) :
    S w (tAsg te (gTup w.K n (gCons (gName i) (gCons (gName j) (gCons (gName l) (gCons (gName m) gNil)))))) ρ e := by
  subst hn
  intro o σ H D ok kn kr kb kc
  refine h o σ H _ ok ?_
  rintro o1 H1 v x g1 r1 ⟨d1, d2, d3, d4, rfl, q⟩
  cases r1 with
  | tup hs ha =>
    cases ha with
    | cons ra rt =>
      cases rt with
      | cons rb rt =>
        cases rt with
        | cons rc rt =>
          cases rt with
          | cons rd rt =>
            cases rt
            refine ⟨_, _, rfl, sqT_mono hid_le hs.t, rfl, _, _, rfl, _, _, rfl, _, _, rfl, _, _, rfl, rfl, ?_⟩
            exact kn o1 _ H1 _ (((((ok.go g1).setD i (x := .dat d1) ra trivial).setD j (x := .dat d2) rb trivial).setD l (x := .dat d3) rc trivial).setD m (x := .dat d4) rd trivial) q
/-- x, y = [], e: x a list that will be changed -/
theorem s_parOwn {i j : Nat} (h : E w te ρ fun y => notOwn y ∧ ∀ p, e.nx ((ρ.set i (.own p [])).set j y)) : S w (tPar i j (tCons (tLst tNil) (tCons te tNil))) ρ e := by
  intro o σ H D ok kn kr kb kc
  refine ⟨Nat.zero_le _, fun p np => ?_⟩
  have g2 := ok.toBas.newOwn (u := .lst []) np
  have ok2 := ok.go g2
  have n0 : ¬ w.own0 p := fun z => ok.hn p (ok.sub p z) np
  refine h _ σ _ _ ok2 ?_
  rintro o3 H3 u y g3 r3 ⟨n, q⟩
  have keep : H3 p = some (.lst []) := (g3.keep p (.inr rfl) (ok2.toBas.nb n0)).trans upd_same
  refine ⟨_, _, rfl, kn o3 _ H3 _ (((ok2.go g3).set i (x := .own p []) ⟨rfl, g3.sub p (.inr rfl), n0, [], keep, .nil⟩ ?_).setD j r3 n) (q p)⟩
  intro p' e' m y' q' nm em a'
  cases e'
  intro z
  subst z
  exact ok.hn _ (ok.adr em a') np
theorem cl_min2 : Cl w (fun xs H Q => ∃ i j, xs = [.int i, .int j] ∧ Q (.int (if j < i then j else i)) H) (fun xs P => ∃ i j, xs = [.dat (.int i), .dat (.int j)] ∧ P (.dat (.int (if j < i then j else i)))) := by
  rintro o H vs xs P Q b r ⟨i, j, rfl, q⟩ k
  cases r with
  | cons ra rt =>
    cases rt with
    | cons rb rt =>
      cases rt
      cases ra
      cases rb
      exact ⟨i, j, rfl, k o H _ _ b.refl (VR.dat (Dd.int _)) q⟩
end
end DL

/-! Dicts from ints to ints: sums by powers, sorted keys, bits of an int. -/
namespace DL
open PySem PySem.Spec PyProof.Rows L2 TL
section
variable {X : Cx}
/-- sorted(d, reverse=b), the keys ints -/
def rSortDR (b : Bool) : List V → List V → Hp → VK → Prop := fun vs zs H Q => ∃ (a : Addr) (kvs : List (Key × V)) (ks : List Int), vs = [V.ref a] ∧ zs = [.bl b] ∧ Rd H a (.dK kvs) ∧ kvs.map (·.1) = ks.map Sum.inl ∧
  ∀ (ys : List Int) (p : Addr), ys.Perm ks → OrdB b ys → H p = none → Q (.ref p) (upd H p (.lst (ys.map V.int)))
theorem call_sortDR {b : Bool} (hcalm : X.calm = true) : CallRK X (.builtin "sorted") [Str.ofString "reverse"] (rSortDR b) := by
  intro pins s σ H xs zs us ws Q I r rz q
  obtain ⟨a, kvs, ks, rfl, rfl, hd, hks, q⟩ := q
  obtain rfl := Vals.ref1 r
  obtain ⟨w1, rfl, e1⟩ := vals1 rz
  obtain rfl : w1 = Value.bool b := e1
  obtain ⟨z, lo, vs, rel, dd⟩ := dk_rd I.hok hd
  obtain ⟨ep, hat⟩ := dd.dictAt
  have hkeys : vs.map (·.1) = ks.map Sum.inl := rel.keys.symm.trans hks
  have hl : vs.length = ks.length := by
    have e := congrArg List.length hkeys
    rw [List.length_map, List.length_map] at e
    exact e
  have h16 : vs.length ≤ sizeLine := by rw [← rel.length]; exact z
  refine call_function_entry_kw PyProof.Rows.kind_sorted PyProof.Rows.plain_sorted PyProof.Rows.entry_sorted (PyProof.Rows.args_sorted_rev _ _) ?_
  unfold Builtin.«sorted»
  refine wpAny_bind (m := checkCount "sorted" 1 1 _) (wpAny_pure ?_)
  refine wpAny_bind (PySem.W.kdu_collect (A := X.A.in1) (PySem.W.kdl_dict (knd := mixKind X.prog X.w) (kvs := vs) (ep := ep) lo) (I.ok.hd hcalm) hat h16 fun h' tk acc hk hacc => ?_)
  have hal : acc.toList.length = ks.length := by rw [Array.length_toList, hacc.1, hl]
  have hS : IntsAre acc.toList ks := ints_each hal fun j v e => by
    obtain ⟨k, x, e1, e2⟩ := hacc.2 j v (by rw [← Array.getElem?_toList]; exact e)
    have e3 : (vs.map (·.1))[j]? = some k := by rw [List.getElem?_map, e1]; rfl
    rw [hkeys, List.getElem?_map] at e3
    cases e4 : ks[j]? with
    | none => rw [e4] at e3; cases e3
    | some y =>
      rw [e4] at e3
      have e5 : Sum.inl y = k := Option.some.inj e3
      subst e5
      rcases keyIs_shape (show keyIs (Sum.inl y) v = true from e2) with ⟨i, t, ek, ev⟩ | ⟨z, t, ek, ev⟩
      · cases ek
        exact ⟨y, t, rfl, ev⟩
      · cases ek
  have I1 : Inv X pins σ H { s with heap := h', toks := tk } := I.kept hk
  have hz : acc.toList.length ≤ sizeLine := by rw [hal, ← hl]; exact h16
  refine wpAny_bind (wpAny_newList ?_ hz)
  have hoL : (h'.push (seqObj "list" acc.toList.toArray 0)).get? h'.objs.size = some (seqObj "list" acc.toList.toArray 0) := Heap.get?_push_size _ rfl
  show wpAny _ _ _ _ _ { s with heap := h'.push (seqObj "list" acc.toList.toArray 0), toks := tk }
  refine wpAny_bind (wpAny_holding (wpAny_call_entry_kw PyProof.Rows.slot_list_sort ⟨_, hoL, rfl⟩ PyProof.Rows.entry_list_sort ?_ (PyProof.Rows.args_list_sort_rev _ _)))
  refine SrtR.list_sort_ordR (s := { s with heap := h'.push (seqObj "list" acc.toList.toArray 0), toks := tk }) SrtO.swo_int hoL hz (fun h2 => SrtO.ints_sortable hS h2) fun out h1 h2 => ⟨_, rfl, ?_⟩
  obtain ⟨ns', k1, k2, k3⟩ := SrtR.ints_outR hS h1 h2
  obtain ⟨e', he'⟩ := PyProof.Rows.sortedHeap_at (vs := acc.toList) (out := if b = true then out.toArray.reverse else out.toArray) hoL
  have hlen : (ns'.map V.int).length ≤ sizeLine := by
    rw [List.length_map, k2.length_eq, ← hl]
    exact h16
  have e0 : ((if b = true then out.toArray.reverse else out.toArray).toList).toArray = (if b = true then out.toArray.reverse else out.toArray) := by rw [Array.toArray_toList]
  refine wpAny_pure ⟨_, rfl, .ref h'.objs.size, upd H h'.objs.size (.lst (ns'.map V.int)), I1.laid (t' := tk) (fun b u e => ?_) (Nat.le_refl _)
    (show ObjOk X.prog X.w _ _ _ (.lst (ns'.map V.int)) from ⟨hlen, _, e', vals_of_ints k1, by rw [e0]; exact he'⟩), rfl, q _ _ k2 k3 (I1.hok.fresh (Nat.le_refl _))⟩
  have hb : b < h'.objs.size := Heap.lt_size e
  rw [PyProof.Rows.sortedHeap_old (Nat.ne_of_lt hb) (by rw [size_push']; exact Nat.lt_succ_of_lt hb)]
  exact Heap.get?_push_of_some _ e
end
/-! ### dicts from ints to ints -/
abbrev Il := List (Int × Int)
def ilD (ps : Il) : PyData := .dict (ps.map fun p => (.int p.1, .int p.2))
def ilV (ps : Il) : List (Key × V) := ps.map fun p => (.inl p.1, .int p.2)
def putI (ps : Il) (k t : Int) : Il := if (ps.any fun p => decide (p.1 = k)) = true then ps.map (fun p => if p.1 = k then (p.1, t) else p) else ps ++ [(k, t)]
def lukI (ps : Il) (k : Int) : Option Int := (ps.find? fun p => decide (p.1 = k)).map (·.2)
theorem put_ilV (ps : Il) (k t : Int) : putK (ilV ps) (.inl k) (.int t) = ilV (putI ps k t) := by
  unfold putK putI ilV
  rw [List.any_map]
  have e : ((fun kv : Key × V => decide (kv.1 = Sum.inl k)) ∘ fun p : Int × Int => ((Sum.inl p.1 : Key), V.int p.2)) = fun p : Int × Int => decide (p.1 = k) := by
    funext p
    show decide ((Sum.inl p.1 : Key) = Sum.inl k) = decide (p.1 = k)
    by_cases h : p.1 = k
    · rw [h]
      simp
    · rw [decide_eq_false h, decide_eq_false fun z => h (Sum.inl.inj z)]
  rw [e]
  split
  · rw [List.map_map, List.map_map]
    refine List.map_congr_left fun p _ => ?_
    show (if (Sum.inl p.1 : Key) = Sum.inl k then ((Sum.inl p.1 : Key), V.int t) else ((Sum.inl p.1 : Key), V.int p.2)) = ((Sum.inl (if p.1 = k then (p.1, t) else p).1 : Key), V.int (if p.1 = k then (p.1, t) else p).2)
    by_cases h : p.1 = k
    · rw [if_pos h, if_pos (by rw [h])]
    · rw [if_neg h, if_neg fun z => h (Sum.inl.inj z)]
  · rw [List.map_append]
    rfl
theorem val_ilV (ps : Il) (k : Int) : valV (ilV ps) (.inl k) = (lukI ps k).map V.int := by
  unfold valV lukI ilV
  rw [List.find?_map, Option.map_map, Option.map_map]
  have e : ((fun kv : Key × V => decide (kv.1 = Sum.inl k)) ∘ fun p : Int × Int => ((Sum.inl p.1 : Key), V.int p.2)) = fun p : Int × Int => decide (p.1 = k) := by
    funext p
    show decide ((Sum.inl p.1 : Key) = Sum.inl k) = decide (p.1 = k)
    by_cases h : p.1 = k
    · rw [h]
      simp
    · rw [decide_eq_false h, decide_eq_false fun z => h (Sum.inl.inj z)]
  rw [e]
  rfl
theorem dd_il {K : PySem.W.Frag} {H : Hp} {a : Addr} (ps : Il) (h : Rd H a (.dK (ilV ps))) : Dd K H (.ref a) (ilD ps) := by
  refine Dd.dic h ?_
  clear h
  induction ps with
  | nil => exact .nil
  | cons p ps ih => exact .cons (k := .inl p.1) (.int p.2) ih
theorem il_dd {K : PySem.W.Frag} {H : Hp} {v : V} {ps : Il} (h : Dd K H v (ilD ps)) : ∃ a, v = .ref a ∧ Rd H a (.dK (ilV ps)) := by
  unfold ilD at h
  cases h with
  | dic hr hk =>
    rename_i a kvs
    refine ⟨a, rfl, ?_⟩
    have e : kvs = ilV ps := by
      clear hr
      induction ps generalizing kvs with
      | nil =>
        cases hk
        rfl
      | cons p ps ih =>
        rw [List.map_cons] at hk
        cases kvs with
        | nil => cases hk
        | cons kv kvs =>
          obtain ⟨k, v⟩ := kv
          cases k with
          | inl i =>
            generalize hq : (PyData.int p.1, PyData.int p.2) = q at hk
            cases hk with
            | cons h1 h2 =>
              cases hq
              cases h1
              rw [ih h2]
              rfl
          | inr x =>
            generalize hq : (PyData.int p.1, PyData.int p.2) = q at hk
            cases hk with
            | cons h1 h2 => cases hq
    rw [← e]
    exact hr
theorem putI_len (ps : Il) (k t : Int) : (putI ps k t).length ≤ ps.length + 1 := by
  unfold putI
  split
  · rw [List.length_map]
    omega
  · rw [List.length_append, List.length_singleton]
    omega
/-- a pile of numbers at powers, summed by powers -/
def sumsBy (ps : Il) : Il := ps.foldl (fun s p => putI s p.2 ((lukI s p.2).getD 0 + p.1)) []
theorem sums_len : ∀ (ps s : Il), (ps.foldl (fun s p => putI s p.2 ((lukI s p.2).getD 0 + p.1)) s).length ≤ s.length + ps.length
  | [], s => Nat.le_refl _
  | p :: ps, s => by
    rw [List.foldl_cons, List.length_cons]
    refine Nat.le_trans (sums_len ps _) ?_
    have := putI_len s p.2 ((lukI s p.2).getD 0 + p.1)
    omega
def pD (p : Int × Int) : PyData := .tuple [.int p.1, .int p.2]
theorem clr_same {α : Type} {n : α} {xs : List α} {vs : List Nat} {i : Nat} (h : i ∈ vs) : (DL.clr n xs vs).set i n = DL.clr n xs vs := by
  apply List.ext_getElem?
  intro k
  rw [List.getElem?_set', clr_get]
  by_cases e : i = k
  · subst e
    rw [if_pos rfl, if_pos h]
    cases xs[i]? <;> rfl
  · rw [if_neg e]
section
variable {w : Wd} {o o1 : Addr → Prop} {H H1 : Hp} {σ : L2.St} {ρ : List Sl} {P : Sl → Prop} {te tl tk tv : TE} {tt : TT} {ts : TS} {e : En}
theorem Ok.setNo (ok : Ok w o σ H ρ) (j : Nat) (x : Option V) : Ok w o (σ.set j x) H (ρ.set j .no) := by
  refine ⟨ok.toBas, by rw [List.length_set, List.length_set]; exact ok.len, fun i y ei => ?_, fun i k p q xs ys ne e1 e2 a1 a2 => ?_⟩
  · by_cases hi : j = i
    · subst hi
      have hl : j < (ρ.set j .no).length := (List.getElem?_eq_some_iff.mp ei).1
      rw [List.length_set] at hl
      rw [List.getElem?_set_self hl] at ei
      cases ei
      exact .inl rfl
    · rw [List.getElem?_set_ne hi] at ei ⊢
      exact ok.slot i y ei
  · have back : ∀ (m : Nat) (q : Addr) (z : Sl), (ρ.set j Sl.no)[m]? = some z → z.adr = some q → ρ[m]? = some z := by
      intro m q z f a
      by_cases hm : j = m
      · subst hm
        have hl : j < (ρ.set j .no).length := (List.getElem?_eq_some_iff.mp f).1
        rw [List.length_set] at hl
        rw [List.getElem?_set_self hl] at f
        cases f
        cases a
      · rw [List.getElem?_set_ne hm] at f
        exact f
    exact ok.apart i k p q xs ys ne (back i p xs e1 a1) (back k q ys e2 a2) a1 a2
theorem Ok.forget (ok : Ok w o σ H ρ) (j : Nat) : Ok w o σ H (ρ.set j .no) := by
  by_cases hj : j < σ.length
  · have e : σ.set j σ[j] = σ := List.set_getElem_self hj
    have := ok.setNo j σ[j]
    rw [e] at this
    exact this
  · rw [List.set_eq_of_length_le (by rw [← ok.len]; omega)]
    exact ok
theorem clr_len {α : Type} (n : α) (xs : List α) : ∀ vs : List Nat, (DL.clr n xs vs).length = xs.length
  | [] => rfl
  | v :: vs => by
    show ((DL.clr n xs vs).set v n).length = _
    rw [List.length_set, clr_len n xs vs]
/-- sums = {}; for c, e in pile: sums[e] = sums.get(e, 0) + c; return sums -/
theorem s_sums {i j l m : Nat} (hm : m = 2) (hij : i ≠ j) (hil : i ≠ l) (hjl : j ≠ l) (hi : i < ρ.length) (hj : j < ρ.length) (hl : l < ρ.length)
    (h : E w tl (DL.clr Sl.no ρ [i, j, l]) fun x => ∃ (c : PyData) (ps : Il), x = .dat c ∧ seqD (.dat c) = some (ps.map pD) ∧ ps.length ≤ sizeLine ∧ e.rt (ilD (sumsBy ps))) :
    S w (tSeq (tAsg tDNewK (gName i)) (tSeq (tFor (iSeq w.K tl) (gTup w.K m (gCons (gName j) (gCons (gName l) gNil))) (sDPut (tVar i) (tVar l) (tOp rAddG (tDGet2 (tVar i) (tVar l) (tC (.int 0))) (tVar j)))) (tRet (tVar i)))) ρ e := by
  subst hm
  intro o σ H D ok kn kr kb kc
  intro p np
  have g0 := ok.toBas.newOwn (u := .dK []) np
  obtain ⟨h00, hn⟩ := own_apart ok np
  have ok1 : Ok w (fun a => o a ∨ a = p) (σ.set i (some (.ref p))) (upd H p (.dK [])) (DL.clr Sl.no ρ [i, j, l]) := (((ok.forget l).forget j).setNo i (some (.ref p))).go g0
  have nb : ¬ w.mu p := ok1.toBas.nb h00
  have no : ∀ (m : Nat) (y : Sl) (q : Addr), (DL.clr Sl.no ρ [i, j, l])[m]? = some y → y.adr = some q → q ≠ p := fun m y q f a => hn m y q (clr_no f (fun z => by subst z; cases a)) a
  have iσ : i < σ.length := by rw [ok.len]; exact hi
  refine h _ _ _ _ ok1 ?_
  rintro o2 H2 v x g2 r2 ⟨c, ps, rfl, hx, hz, hrt⟩
  have ok2 := ok1.go g2
  have e2 : H2 p = some (.dK []) := (g2.keep p (.inr rfl) nb).trans upd_same
  obtain ⟨a, us, rfl, ha, hq⟩ := r2.seqDat hx
  have ln := DdAll.len ha
  rw [List.length_map] at ln
  have main : ∀ (J : It) (G : Hp → Prop), (∀ o' H', Same (hid H2 o2) (hid H' o') → G H') → Walk J us.length G (YAt us) → ∃ W : Nat → Nat → L2.St → Hp → Prop, (∃ m, W 0 m (σ.set i (some (.ref p))) H2) ∧ ∀ n m σ H, W n m σ H →
      (J.stop n H ∧ tRet (tVar i) D σ H) ∨ (J.go n H ∧ ∃ N : L2.St → Hp → Prop, (∀ σ' H', N σ' H' → ∃ m', m' < m ∧ W (n + 1) m' σ' H') ∧ ∀ x H', J.yld n H x H' → gTup w.K 2 (gCons (gName j) (gCons (gName l) gNil)) x σ H' fun σ2 H2 =>
        sDPut (tVar i) (tVar l) (tOp rAddG (tDGet2 (tVar i) (tVar l) (tC (.int 0))) (tVar j)) { D with nx := N, ct := N, bk := tRet (tVar i) D } σ2 H2) := by
    intro J G hG wk
    refine for_it (D := { D with nx := tRet (tVar i) D }) wk (fun k σ' H' => ∃ o', Ok w o' σ' H' (DL.clr Sl.no ρ [i, j, l]) ∧ Same (hid H2 o2) (hid H' o') ∧ o' p ∧ σ'[i]? = some (some (.ref p)) ∧ H' p = some (.dK (ilV (sumsBy (ps.take k)))))
      ⟨o2, ok2, Same.refl _, g2.sub p (.inr rfl), List.getElem?_set_self iσ, e2⟩ (fun k σ' H' _ ⟨o', _, s', _⟩ => hG o' H' s') ?_ ?_
    · rintro k y σ' H' H'' hk ⟨o', ok', s', op, hi', hp'⟩ ⟨rfl, ey⟩
      obtain ⟨d, hd, rd⟩ := DdAll.gets (ddAll_mono s' ha) ey
      obtain ⟨pr, hpr, rfl⟩ := map_getE hd
      have tk1 : ps.take (k + 1) = ps.take k ++ [pr] := by
        rw [List.take_succ, hpr]
        rfl
      have su : sumsBy (ps.take (k + 1)) = putI (sumsBy (ps.take k)) pr.2 ((lukI (sumsBy (ps.take k)) pr.2).getD 0 + pr.1) := by
        unfold sumsBy
        rw [tk1, List.foldl_append]
        rfl
      cases rd with
      | tup hs1 ha1 =>
        cases ha1 with
        | cons ra ha1 =>
          cases ha1 with
          | cons rb ha1 =>
            cases ha1
            cases ra
            cases rb
            have sl : σ'.length = ρ.length := by rw [ok'.len, clr_len]
            refine ⟨_, _, rfl, sqT_mono hid_le hs1.t, rfl, _, _, rfl, _, _, rfl, rfl, ?_⟩
            have ok4 := (ok'.setNo j (some (V.int pr.1))).setNo l (some (V.int pr.2))
            rw [clr_same (by simp), clr_same (by simp)] at ok4
            generalize hσ : (σ'.set j (some (V.int pr.1))).set l (some (V.int pr.2)) = σ4 at ok4
            have i4 : σ4[i]? = some (some (.ref p)) := by
              rw [← hσ, List.getElem?_set_ne (Ne.symm hil), List.getElem?_set_ne (Ne.symm hij)]
              exact hi'
            have j4 : σ4[j]? = some (some (.int pr.1)) := by
              rw [← hσ, List.getElem?_set_ne (Ne.symm hjl), List.getElem?_set_self (by omega)]
            have l4 : σ4[l]? = some (some (.int pr.2)) := by
              rw [← hσ, List.getElem?_set_self (by rw [List.length_set]; omega)]
            have get : ((lukI (sumsBy (ps.take k)) pr.2).map V.int).getD (.int 0) = .int ((lukI (sumsBy (ps.take k)) pr.2).getD 0) := by
              cases lukI (sumsBy (ps.take k)) pr.2 <;> rfl
            refine ⟨.ref p, i4, p, rfl, .inl ⟨_, .inl hp'⟩, .int pr.2, l4, (lukI (sumsBy (ps.take k)) pr.2).map V.int, .inl ⟨_, .inl pr.2, .inl hp', rfl, (val_ilV _ _).symm⟩, ?_⟩
            rw [get]
            refine ⟨.int pr.1, j4, .inl ⟨_, _, rfl, rfl, ?_⟩⟩
            refine ⟨.ref p, i4, .int pr.2, l4, p, _, rfl, DPut.k (k := .inl pr.2) hp' ?_, ?_⟩
            · have := sums_len (ps.take k) []
              have e : (ilV (sumsBy (ps.take k))).length = (sumsBy (ps.take k)).length := List.length_map ..
              rw [e]
              rw [List.length_take] at this
              unfold sumsBy
              simp only [List.length_nil] at this
              omega
            · obtain ⟨ok5, eq5⟩ := put_own (u := .dK (putK (ilV (sumsBy (ps.take k))) (.inl pr.2) (.int ((lukI (sumsBy (ps.take k)) pr.2).getD 0 + pr.1)))) hidn_dK ok4 op h00 no
              refine ⟨o', ok5, ?_, op, i4, ?_⟩
              · rw [eq5]
                exact s'
              · rw [upd_same, put_ilV, su]
    · rintro σ' H' ⟨o', ok', s', op, hi', hp'⟩
      rw [ln, List.take_length] at hp'
      have less : ∀ a, (o' a ∧ a ≠ p) → o' a := fun a h => h.1
      have bs : Bas w (fun a => o' a ∧ a ≠ p) H' := by
        refine ⟨ok'.grow.trans (hid_less less), fun a h => ⟨ok'.sub a h, fun z => h00 (z ▸ h)⟩, ok'.keep, fun b hb => ?_, ⟨ok'.tab.1, ok'.tab.2.go (hid_less less) (fun _ _ => rfl) fun q hq => ⟨(ok'.tab.2 q hq).1, fun z => h00 (z ▸ ok'.tab.1 q hq)⟩⟩, fun a h => ok'.here a h.1⟩
        obtain ⟨b1, b2⟩ := ok'.bag b hb
        exact ⟨b1, b2.go (hid_less less) rfl ⟨b2.1, fun z => h00 (z ▸ b1)⟩⟩
      refine ⟨.ref p, hi', kr _ H' _ _ bs (dd_il _ (.inl ?_)) hrt⟩
      rw [hid_of (fun z => z.2 rfl)]
      exact hp'
  refine ⟨a, us, rfl, ?_⟩
  rcases hq with hq | hq
  · exact .inl ⟨hid_le.seq hq, main _ _ (fun o' H' s' => hid_le.seq (s'.seq hq)) walk_list⟩
  · exact .inr ⟨sqT_mono hid_le hq, main _ _ (fun o' H' s' => sqT_mono hid_le (sqT_mono s' hq)) walk_tup⟩
end
end DL

/-! The items of a dict walked, its keys sorted, bits. -/
namespace DL
open PySem PySem.Spec PyProof.Rows L2 TL
theorem upd_comm {H : Hp} {a b : Addr} {u v : HO} (h : a ≠ b) : upd (upd H a u) b v = upd (upd H b v) a u := by
  funext c
  by_cases ha : c = a
  · subst ha
    rw [upd_same, upd_ne h, upd_same]
  · by_cases hb : c = b
    · subst hb
      rw [upd_same, upd_ne ha, upd_same]
    · rw [upd_ne hb, upd_ne ha, upd_ne ha, upd_ne hb]
theorem upd_back {H : Hp} {a : Addr} {u v : HO} (h : H a = some v) : upd (upd H a u) a v = H := by
  funext c
  by_cases hc : c = a
  · subst hc
    rw [upd_same, h]
  · rw [upd_ne hc, upd_ne hc]
/-- an expression whose dict may be locked meanwhile -/
def tMay (t : TE) : TE := fun σ H Q => t σ H Q ∨ tLockE t σ H Q
theorem pe_may {X : Cx} {e : Expr} {t : TE} (h : PE X e t) : PE X e (tMay t) := by
  refine ⟨fun pins s σ H Q I hw => ?_⟩
  rcases hw with hw | hw
  · exact h.run pins s σ H Q I hw
  · exact (pe_lock h).run pins s σ H Q I hw
section
variable {w : Wd} {o : Addr → Prop} {H : Hp} {σ : L2.St} {ρ : List Sl} {P : Sl → Prop} {te tl td ty : TE} {tt : TT} {tr : TA}
def absT (j : Nat) : TE := tCB (fun xs H Q => ∃ i, xs = [.int i] ∧ Q (.int (if i < 0 then -i else i)) H) (tCons (tVar j) tNil)
def absI (i : Int) : Int := if i < 0 then -i else i
theorem items_core {k i j : Nat} {d : Addr} {od : Obj} {ps : Il} {loc : Hp → Hp} {Q : VK} (ok : Ok w o σ H ρ) (hk : σ[k]? = some (some (.ref d))) (hj : j < σ.length) (hd0 : ¬ o d) (hz : ps.length ≤ sizeLine)
    (hne : H d ≠ none) (l1 : ∀ Hu x v, x ≠ d → loc (upd Hu x v) = upd (loc Hu) x v) (l2 : ∀ Hu x, x ≠ d → loc Hu x = Hu x) (l3 : ∀ Hu, Hu d = H d → loc Hu d = some (.frz od (.dK (ilV ps))))
    (q : ∀ D Hu, LcG w [i, j] ρ σ o H D (RL w (fun _ acc => acc = ps.map fun p => .int (absI p.2)) ps.length) Hu → H D = none → Hu d = H d → Q (.ref D) (loc Hu)) :
    tLc (iItems (tVar k)) (gTup w.K 2 (gCons (gName i) (gCons (gName j) gNil))) tYes (absT j) [i, j] σ (loc H) Q := by
  refine ⟨.ref d, hk, d, od, ilV ps, rfl, l3 H rfl, fun D hD => ?_⟩
  have hDd : D ≠ d := fun z => by
    rw [z, l3 H rfl] at hD
    cases hD
  have hD0 : H D = none := by rw [← l2 H D hDd]; exact hD
  obtain ⟨h00, hn⟩ := own_apart ok hD0
  have lk : (ilV ps).length = ps.length := List.length_map ..
  refine lc_it (walk_items (o := od) (d := d) (kvs := ilV ps)) (fun n H' => ∃ Hu, H' = loc Hu ∧ Hu d = H d ∧ LcG w [i, j] ρ σ o H D (RL w (fun n acc => acc = (ps.take n).map fun p => .int (absI p.2)) n) Hu) ?_ ?_ ?_ ?_
  · refine ⟨upd H D (.lst []), (l1 H D _ hDd).symm, upd_ne (Ne.symm hDd), lcg_start ok hD0 ⟨[], [], rfl, .nil, Nat.le_refl _, rfl⟩⟩
  · rintro n H' _ ⟨Hu, rfl, hu, _⟩
    exact l3 Hu hu
  · rintro n y H2 H3 hn1 ⟨Hu, rfl, hu, st⟩ ⟨T, x, c, rfl, nT, rfl, e1, e2⟩
    have hTd : T ≠ d := fun z => by
      rw [z, l3 Hu hu] at nT
      cases nT
    have nTu : Hu T = none := by rw [← l2 Hu T hTd]; exact nT
    rw [lk] at hn1
    have hp : ps[n]? = some ps[n] := List.getElem?_eq_getElem hn1
    have ec : c = V.int ps[n].2 := by
      have : ((ilV ps)[n]?.map Prod.snd) = some c := e2
      unfold ilV at this
      rw [List.getElem?_map, hp] at this
      exact (Option.some.inj this).symm
    subst ec
    have st2 := lcg_new (u := .tup [x, .int ps[n].2]) RL.go st nTu
    obtain ⟨o1, u, ok1, g1, oD, eD, acc, us, rfl, ha, hl, hI⟩ := st2
    have hσ : wipe (((wipe σ [i, j]).set i (some x)).set j (some (V.int ps[n].2))) [i, j] = wipe σ [i, j] := by
      simp only [wipe_clr]
      rw [clr_set (by simp), clr_set (by simp), clr_clr]
    refine ⟨T, _, rfl, .inl (.inl upd_same), rfl, _, _, rfl, _, _, rfl, rfl, hσ, ?_⟩
    have j2 : (((wipe σ [i, j]).set i (some x)).set j (some (V.int ps[n].2)))[j]? = some (some (V.int ps[n].2)) := List.getElem?_set_self (by rw [List.length_set, wipe_length]; exact hj)
    unfold tYes
    refine iteT ?_
    refine ⟨_, j2, ps[n].2, rfl, us, ?_, ?_, upd (upd Hu T (.tup [x, .int ps[n].2])) D (.lst (us ++ [.int (absI ps[n].2)])), ?_, ?_, ?_⟩
    · rw [← l1 Hu T _ hTd, l2 _ D hDd]
      exact eD
    · rw [DdAll.len ha]
      omega
    · rw [l1 _ D _ hDd, l1 Hu T _ hTd]
      rfl
    · rw [upd_ne (Ne.symm hDd), upd_ne (Ne.symm hTd)]
      exact hu
    · refine lcg_put hD0 h00 hn ok ok1 g1 oD (by simp only [wipe_clr]; rw [clr_clr]) clr_clr fun H4 e4 => ⟨acc ++ [.int (absI ps[n].2)], _, rfl, ?_, ?_, ?_⟩
      · rw [e4]
        exact DdAll.app ha (.cons (Dd.int _) .nil)
      · rw [List.length_append, List.length_singleton]
        omega
      · dsimp only at hI ⊢
        rw [hI, List.take_succ, hp, List.map_append]
        rfl
  · rintro H' ⟨Hu, rfl, hu, st⟩
    rw [lk] at st
    refine q D Hu ?_ hD0 hu
    obtain ⟨o1, u, ok1, g1, oD, eD, acc, us, e, ha, hl, hI⟩ := st
    refine ⟨o1, u, ok1, g1, oD, eD, acc, us, e, ha, hl, ?_⟩
    dsimp only at hI ⊢
    rw [hI, List.take_length]
/-- [abs(c) for e, c in d.items()] -/
theorem e_absItems {k i j m : Nat} {ps : Il} (hm : m = 2) (hk : ρ[k]? = some (.dat (ilD ps))) (hj : j < ρ.length) (hz : ps.length ≤ sizeLine) (q : P (.dat (.list (ps.map fun p => .int (absI p.2))))) :
    E w (tMay (tLc (iItems (tVar k)) (gTup w.K m (gCons (gName i) (gCons (gName j) gNil))) tYes (absT j) [i, j])) ρ P := by
  subst hm
  intro o σ H Q ok kk
  rcases ok.slot k _ hk with z | ⟨v, hv, r⟩
  · cases z
  obtain ⟨d, rfl, hr⟩ := il_dd r
  have hjs : j < σ.length := by rw [ok.len]; exact hj
  have fin : ∀ D Hu, LcG w [i, j] ρ σ o H D (RL w (fun _ acc => acc = ps.map fun p => .int (absI p.2)) ps.length) Hu → H D = none → Q (.ref D) Hu := fun D Hu st hD0 =>
    rl_end ok hD0 st (fun acc hI _ => by rw [hI]; exact q) kk
  rcases hr with hr | ⟨od, hr⟩
  · obtain ⟨nd, hr⟩ := hid_some hr
    refine .inr ⟨d, _, hr, trivial, fun od => ?_⟩
    refine items_core (od := od) (ps := ps) (loc := fun Hu => upd Hu d (.frz od (.dK (ilV ps)))) ok hv hjs nd hz (by rw [hr]; exact fun z => nomatch z) (fun Hu x v hx => upd_comm hx) (fun Hu x hx => upd_ne hx) (fun Hu _ => upd_same) fun D Hu st hD0 hu => ⟨upd_same, ?_⟩
    rw [upd_back (hu.trans hr)]
    exact fin D Hu st hD0
  · obtain ⟨nd, hr⟩ := hid_some hr
    refine .inl ?_
    exact items_core (od := od) (ps := ps) (loc := fun Hu => Hu) ok hv hjs nd hz (by rw [hr]; exact fun z => nomatch z) (fun _ _ _ _ => rfl) (fun _ _ _ => rfl) (fun Hu hu => hu.trans hr) fun D Hu st hD0 _ => fin D Hu st hD0
/-- [e for i, j in a if ..] -/
theorem e_lcP2 {i j m : Nat} (hm : m = 2) (h : E w tl ρ fun x => ∃ c ds, x = .dat c ∧ seqD (.dat c) = some ds ∧ (∀ d ∈ ds, ∃ d1 d2, d = .tuple [d1, d2]) ∧ ds.length ≤ sizeLine ∧ ∃ I : Nat → List PyData → Prop, I 0 [] ∧
      (∀ (k : Nat) d1 d2 acc, ds[k]? = some (.tuple [d1, d2]) → I k acc → Lc w tt te (((DL.clr Sl.no ρ [i, j]).set i (.dat d1)).set j (.dat d2)) I k acc) ∧ ∀ acc, I ds.length acc → acc.length ≤ ds.length → P (.dat (.list acc))) :
    E w (tLc (iSeq w.K tl) (gTup w.K m (gCons (gName i) (gCons (gName j) gNil))) tt te [i, j]) ρ P := by
  subst hm
  intro o σ H Q ok k
  refine h o σ H _ ok ?_
  rintro o1 H1 v x g1 r1 ⟨c, ds, rfl, hx, h3, hz, I, h0, hs, hp⟩
  have ok1 := ok.go g1
  obtain ⟨a, us, rfl, ha, hq⟩ := r1.seqDat hx
  have ln := DdAll.len ha
  have main : ∀ (D : Addr) (hD : H1 D = none) (J : It) (G : Hp → Prop), (∀ o2 H2, Go w o1 H1 o2 H2 → G H2) → Walk J us.length G (YAt us) → ∃ W : Nat → Nat → Hp → Prop, (∃ m, W 0 m (upd H1 D (.lst []))) ∧ ∀ n m H, W n m H →
      (J.stop n H ∧ Q (.ref D) H) ∨ (J.go n H ∧ ∃ Nx : Hp → Prop, (∀ H', Nx H' → ∃ m', m' < m ∧ W (n + 1) m' H') ∧ ∀ x H', J.yld n H x H' → gTup w.K 2 (gCons (gName i) (gCons (gName j) gNil)) x (wipe σ [i, j]) H' fun σ2 H2 => wipe σ2 [i, j] = wipe σ [i, j] ∧ tt σ2 H2 fun b H3 =>
        if b = true then te σ2 H3 fun y H4 => ∃ acc, H4 D = some (.lst acc) ∧ acc.length < sizeLine ∧ Nx (upd H4 D (.lst (acc ++ [y]))) else Nx H3) := by
    intro D hD J G hG wk
    refine lc_it wk (fun n H2 => LcG w [i, j] ρ σ o1 H1 D (RL w I n) H2) (lcg_start ok1 hD ⟨[], [], rfl, .nil, Nat.le_refl _, h0⟩) (fun n H2 _ st => ?_) (fun n y H2 H3 hi st yy => ?_) (fun H2 st => ?_)
    · obtain ⟨o2, _, _, g2, _⟩ := st
      exact hG o2 H2 g2
    · obtain ⟨rfl, e2⟩ := yy
      have g9 : ∃ o9, Go w o1 H1 o9 H3 := by
        obtain ⟨o9, _, _, g9, _⟩ := st
        exact ⟨o9, g9⟩
      obtain ⟨o9, g9⟩ := g9
      obtain ⟨d, hd, rd⟩ := DdAll.gets ha e2
      obtain ⟨d1, d2, rfl⟩ := h3 d (List.mem_of_getElem? hd)
      cases rd with
      | tup hs1 ha1 =>
        cases ha1 with
        | cons r1 ha1 =>
          cases ha1 with
          | cons r2 ha1 =>
            cases ha1
            rename_i q u1 u2
            have hσ : wipe (((wipe σ [i, j]).set i (some u1)).set j (some u2)) [i, j] = wipe σ [i, j] := by
              simp only [wipe_clr]
              rw [clr_set (by simp), clr_set (by simp), clr_clr]
            refine ⟨_, _, rfl, sqT_mono hid_le (sqT_mono g9.same hs1.t), rfl, _, _, rfl, _, _, rfl, rfl, hσ, ?_⟩
            exact lcg_turn (ρ2 := ((DL.clr Sl.no ρ [i, j]).set i (.dat d1)).set j (.dat d2)) ok1 hD (by omega) st hσ (by rw [clr_set (by simp), clr_set (by simp), clr_clr]) (fun o2 k2 g2 => ((k2).setD i (x := .dat d1) (dd_mono g2.same r1) trivial).setD j (x := .dat d2) (dd_mono g2.same r2) trivial) fun acc hI => hs n d1 d2 acc hd hI
    · rw [ln] at st
      exact rl_end ok1 hD st hp fun o' H' v x g r p => k o' H' v x (g1.trans g) r p
  refine ⟨a, us, rfl, ?_⟩
  rcases hq with hq | hq
  · exact .inl ⟨hid_le.seq hq, fun D hD => main D hD _ _ (fun o2 H2 g => hid_le.seq (g.same.seq hq)) walk_list⟩
  · exact .inr ⟨sqT_mono hid_le hq, fun D hD => main D hD _ _ (fun o2 H2 g => sqT_mono hid_le (sqT_mono g.same hq)) walk_tup⟩
/-- [e for i, j, l in a if ..] -/
theorem e_lcP3 {i j l m : Nat} (hm : m = 3) (h : E w tl ρ fun x => ∃ c ds, x = .dat c ∧ seqD (.dat c) = some ds ∧ (∀ d ∈ ds, ∃ d1 d2 d3, d = .tuple [d1, d2, d3]) ∧ ds.length ≤ sizeLine ∧ ∃ I : Nat → List PyData → Prop, I 0 [] ∧
      (∀ (k : Nat) d1 d2 d3 acc, ds[k]? = some (.tuple [d1, d2, d3]) → I k acc → Lc w tt te ((((DL.clr Sl.no ρ [i, j, l]).set i (.dat d1)).set j (.dat d2)).set l (.dat d3)) I k acc) ∧ ∀ acc, I ds.length acc → acc.length ≤ ds.length → P (.dat (.list acc))) :
    E w (tLc (iSeq w.K tl) (gTup w.K m (gCons (gName i) (gCons (gName j) (gCons (gName l) gNil)))) tt te [i, j, l]) ρ P := by
  subst hm
  intro o σ H Q ok k
  refine h o σ H _ ok ?_
  rintro o1 H1 v x g1 r1 ⟨c, ds, rfl, hx, h3, hz, I, h0, hs, hp⟩
  have ok1 := ok.go g1
  obtain ⟨a, us, rfl, ha, hq⟩ := r1.seqDat hx
  have ln := DdAll.len ha
  have main : ∀ (D : Addr) (hD : H1 D = none) (J : It) (G : Hp → Prop), (∀ o2 H2, Go w o1 H1 o2 H2 → G H2) → Walk J us.length G (YAt us) → ∃ W : Nat → Nat → Hp → Prop, (∃ m, W 0 m (upd H1 D (.lst []))) ∧ ∀ n m H, W n m H →
      (J.stop n H ∧ Q (.ref D) H) ∨ (J.go n H ∧ ∃ Nx : Hp → Prop, (∀ H', Nx H' → ∃ m', m' < m ∧ W (n + 1) m' H') ∧ ∀ x H', J.yld n H x H' → gTup w.K 3 (gCons (gName i) (gCons (gName j) (gCons (gName l) gNil))) x (wipe σ [i, j, l]) H' fun σ2 H2 => wipe σ2 [i, j, l] = wipe σ [i, j, l] ∧ tt σ2 H2 fun b H3 =>
        if b = true then te σ2 H3 fun y H4 => ∃ acc, H4 D = some (.lst acc) ∧ acc.length < sizeLine ∧ Nx (upd H4 D (.lst (acc ++ [y]))) else Nx H3) := by
    intro D hD J G hG wk
    refine lc_it wk (fun n H2 => LcG w [i, j, l] ρ σ o1 H1 D (RL w I n) H2) (lcg_start ok1 hD ⟨[], [], rfl, .nil, Nat.le_refl _, h0⟩) (fun n H2 _ st => ?_) (fun n y H2 H3 hi st yy => ?_) (fun H2 st => ?_)
    · obtain ⟨o2, _, _, g2, _⟩ := st
      exact hG o2 H2 g2
    · obtain ⟨rfl, e2⟩ := yy
      have g9 : ∃ o9, Go w o1 H1 o9 H3 := by
        obtain ⟨o9, _, _, g9, _⟩ := st
        exact ⟨o9, g9⟩
      obtain ⟨o9, g9⟩ := g9
      obtain ⟨d, hd, rd⟩ := DdAll.gets ha e2
      obtain ⟨d1, d2, d3, rfl⟩ := h3 d (List.mem_of_getElem? hd)
      cases rd with
      | tup hs1 ha1 =>
        cases ha1 with
        | cons r1 ha1 =>
          cases ha1 with
          | cons r2 ha1 =>
            cases ha1 with
            | cons r3 ha1 =>
              cases ha1
              rename_i q u1 u2 u3
              have hσ : wipe ((((wipe σ [i, j, l]).set i (some u1)).set j (some u2)).set l (some u3)) [i, j, l] = wipe σ [i, j, l] := by
                simp only [wipe_clr]
                rw [clr_set (by simp), clr_set (by simp), clr_set (by simp), clr_clr]
              refine ⟨_, _, rfl, sqT_mono hid_le (sqT_mono g9.same hs1.t), rfl, _, _, rfl, _, _, rfl, _, _, rfl, rfl, hσ, ?_⟩
              exact lcg_turn (ρ2 := (((DL.clr Sl.no ρ [i, j, l]).set i (.dat d1)).set j (.dat d2)).set l (.dat d3)) ok1 hD (by omega) st hσ (by rw [clr_set (by simp), clr_set (by simp), clr_set (by simp), clr_clr]) (fun o2 k2 g2 => (((k2).setD i (x := .dat d1) (dd_mono g2.same r1) trivial).setD j (x := .dat d2) (dd_mono g2.same r2) trivial).setD l (x := .dat d3) (dd_mono g2.same r3) trivial) fun acc hI => hs n d1 d2 d3 acc hd hI
    · rw [ln] at st
      exact rl_end ok1 hD st hp fun o' H' v x g r p => k o' H' v x (g1.trans g) r p
  refine ⟨a, us, rfl, ?_⟩
  rcases hq with hq | hq
  · exact .inl ⟨hid_le.seq hq, fun D hD => main D hD _ _ (fun o2 H2 g => hid_le.seq (g.same.seq hq)) walk_list⟩
  · exact .inr ⟨sqT_mono hid_le hq, fun D hD => main D hD _ _ (fun o2 H2 g => sqT_mono hid_le (sqT_mono g.same hq)) walk_tup⟩
/-- sorted(d, reverse=b) -/
theorem e_sortDR {b : Bool} (h : A w tr ρ fun xs => ∃ ps : Il, xs = [.dat (ilD ps)] ∧ ∀ ys : List Int, ys.Perm (ps.map (·.1)) → OrdB b ys → P (.dat (.list (ys.map .int)))) :
    E w (tCKw (rSortDR b) tr (tCons (tC (.bl b)) tNil)) ρ P := by
  intro o σ H Q ok k
  refine h o σ H _ ok ?_
  rintro o1 H1 vs xs g1 r1 ⟨ps, rfl, q⟩
  cases r1 with
  | cons ra rt =>
    cases rt
    obtain ⟨a, rfl, hr⟩ := il_dd ra
    refine ⟨a, ilV ps, ps.map (·.1), rfl, rfl, rd_mono hid_le hr, ?_, fun ys p h1 h2 np => ?_⟩
    · unfold ilV
      rw [List.map_map, List.map_map]
      rfl
    · have g2 := (ok.go g1).toBas.new (u := .lst (ys.map V.int)) np
      exact k o1 _ _ _ (g1.trans g2) (VR.dat (Dd.lst (.inl (.inl ((ok.go g1).toBas.seen np))) (DdAll.ofInts ys))) (q ys h1 h2)
/-- x.bit_length() -/
theorem e_bits (h : E w te ρ fun x => ∃ i : Int, x = .dat (.int i) ∧ P (.dat (.int ((Builtin.Int.intBits i : Nat) : Int)))) : E w (tBits te) ρ P := by
  intro o σ H Q ok k
  refine h o σ H _ ok ?_
  rintro o1 H1 v x g1 r1 ⟨i, rfl, q⟩
  cases r1
  exact ⟨i, rfl, k o1 H1 _ _ g1 (VR.dat (Dd.int _)) q⟩
/-- d[k], ints -/
theorem e_iget (h : E w td ρ fun x => E w ty ρ fun y => ∃ k ps t, y = .dat (.int k) ∧ x = .dat (ilD ps) ∧ lukI ps k = some t ∧ P (.dat (.int t))) : E w (tDGet td ty) ρ P := by
  intro o σ H Q ok k
  refine h o σ H _ ok ?_
  intro o1 H1 v x g1 r1 q1
  refine q1 o1 σ H1 _ (ok.go g1) ?_
  rintro o2 H2 u y g2 r2 ⟨i, ps, t, rfl, rfl, e, q⟩
  cases r2
  obtain ⟨a, rfl, hr⟩ := il_dd (r1.go (ok.go g1).toBas g2)
  refine ⟨a, .int t, rfl, .inl ⟨ilV ps, .inl i, rd_mono hid_le hr, rfl, ?_⟩, k o2 H2 _ _ (g1.trans g2) (VR.dat (Dd.int t)) q⟩
  rw [val_ilV, e]
  rfl
end
end DL

/-! Three names from a tuple, a comprehension over zip. -/
namespace DL
open PySem PySem.Spec PyProof.Rows L2 TL
section
variable {w : Wd} {o : Addr → Prop} {H : Hp} {σ : L2.St} {ρ : List Sl} {P : Sl → Prop} {te : TE} {tr : TA} {tt : TT} {e : En}
/-- x, y, z = e -/
theorem s_set3 {i j l n : Nat} (hn : n = 3) (h : E w te ρ fun x => ∃ d1 d2 d3, x = .dat (.tuple [d1, d2, d3]) ∧ e.nx (((ρ.set i (.dat d1)).set j (.dat d2)).set l (.dat d3))) :
    S w (tAsg te (gTup w.K n (gCons (gName i) (gCons (gName j) (gCons (gName l) gNil))))) ρ e := by
  subst hn
  intro o σ H D ok kn kr kb kc
  refine h o σ H _ ok ?_
  rintro o1 H1 v x g1 r1 ⟨d1, d2, d3, rfl, q⟩
  cases r1 with
  | tup hs ha =>
    cases ha with
    | cons ra rt =>
      cases rt with
      | cons rb rt =>
        cases rt with
        | cons rc rt =>
          cases rt
          refine ⟨_, _, rfl, sqT_mono hid_le hs.t, rfl, _, _, rfl, _, _, rfl, _, _, rfl, rfl, ?_⟩
          exact kn o1 _ H1 _ ((((ok.go g1).setD i (x := .dat d1) ra trivial).setD j (x := .dat d2) rb trivial).setD l (x := .dat d3) rc trivial) q
/-- [e for x, y in zip(a, b) if ..] -/
theorem e_lcZ {i j m : Nat} (hm : m = 2) (h : A w tr ρ fun xs => ∃ c1 c2 ds es, xs = [.dat c1, .dat c2] ∧ seqD (.dat c1) = some ds ∧ seqD (.dat c2) = some es ∧ ds.length ≤ sizeLine ∧ ∃ I : Nat → List PyData → Prop, I 0 [] ∧
      (∀ (k : Nat) d1 d2 acc, ds[k]? = some d1 → es[k]? = some d2 → I k acc → Lc w tt te (((DL.clr Sl.no ρ [i, j]).set i (.dat d1)).set j (.dat d2)) I k acc) ∧ ∀ acc, I (min ds.length es.length) acc → P (.dat (.list acc))) :
    E w (tLc (iZipB w.K tr) (gTup w.K m (gCons (gName i) (gCons (gName j) gNil))) tt te [i, j]) ρ P := by
  subst hm
  intro o σ H Q ok k
  refine h o σ H _ ok ?_
  rintro o1 H1 vs xs g1 r1 ⟨c1, c2, ds, es, rfl, hx1, hx2, hz, I, h0, hs, hp⟩
  have ok1 := ok.go g1
  cases r1 with
  | cons ra rt =>
    cases rt with
    | cons rb rt =>
      cases rt
      obtain ⟨b1, a1, us, rfl, ha1, hq1⟩ := VR.seqB ra hx1
      obtain ⟨b2, a2, vs, rfl, ha2, hq2⟩ := VR.seqB rb hx2
      have l1 := DdAll.len ha1
      have l2 := DdAll.len ha2
      refine ⟨b1, b2, a1, a2, us, vs, rfl, hq1.mono hid_le, hq2.mono hid_le, fun D hD => ?_⟩
      refine lc_it (walk_zipB (xs := us) (ys := vs)) (fun n H2 => LcG w [i, j] ρ σ o1 H1 D (RL w I n) H2) (lcg_start ok1 hD ⟨[], [], rfl, .nil, Nat.le_refl _, h0⟩) (fun n H2 _ st => ?_) (fun n y H2 H3 hi st yy => ?_) (fun H2 st => ?_)
      · obtain ⟨o2, _, _, g2, _⟩ := st
        exact ⟨(hq1.mono g2.same).mono hid_le, (hq2.mono g2.same).mono hid_le⟩
      · obtain ⟨p, u1, u2, rfl, np, rfl, e1, e2⟩ := yy
        obtain ⟨d1, hd1, rd1⟩ := DdAll.gets ha1 e1
        obtain ⟨d2, hd2, rd2⟩ := DdAll.gets ha2 e2
        have st' := lcg_new (u := .tup [u1, u2]) RL.go st np
        have hσ : wipe (((wipe σ [i, j]).set i (some u1)).set j (some u2)) [i, j] = wipe σ [i, j] := by
          simp only [wipe_clr]
          rw [clr_set (by simp), clr_set (by simp), clr_clr]
        refine ⟨p, _, rfl, .inl (.inl upd_same), rfl, _, _, rfl, _, _, rfl, rfl, hσ, ?_⟩
        exact lcg_turn (ρ2 := ((DL.clr Sl.no ρ [i, j]).set i (.dat d1)).set j (.dat d2)) ok1 hD (by omega) st' hσ (by rw [clr_set (by simp), clr_set (by simp), clr_clr])
          (fun o2 k2 g2 => (k2.setD i (x := .dat d1) (dd_mono g2.same rd1) trivial).setD j (x := .dat d2) (dd_mono g2.same rd2) trivial) fun acc hI => hs n d1 d2 acc hd1 hd2 hI
      · rw [l1, l2] at st
        exact rl_end ok1 hD st (fun acc hI _ => hp acc hI) fun o' H' v x g r p => k o' H' v x (g1.trans g) r p
end
end DL

/-! Functions of no def (a lambda of two parameters): what they answer to ints, told for whoever calls them. -/
namespace DL
open PySem PySem.Spec PyProof.Rows L2

/-- nothing is tracked -/
def noH : Hp := fun _ => none
/-- what the function object ob answers to two ints of which D holds; cc: its code, cs: the cells that it reads -/
def CallsI (ob : Obj) (cc : Addr × Str) (cs : List (Addr × Obj)) (D : Int → Int → Prop) (φ : Int → Int → Int) : Prop :=
  (∃ oc od fd sl, ob = (⟨oc, od, .func fd, sl⟩ : Obj)) ∧
  ∀ (P : Program) (w : World) (K : PySem.W.Frag) (mg : Str → Option Value) (base : Heap) (A : Around) (out : List Env) (s : Shared) (f : Addr) (x y : Int) (tx ty : Tok),
    mg "min" = none → Room 1 A → Env0 P w K mg base A out s noH → s.heap.get? f = some ob → s.heap.CodeRec (.ref cc.1) cc.2 →
    (∀ p ∈ cs, s.heap.get? p.1 = some p.2) → D x y →
    codeAny (model P w) A (.call (.ref f) ⟨[.int x tx, .int y ty], []⟩)
      (fun r s' => ∃ t, r = .ok (.ret (.int (φ x y) t)) ∧ s'.os = s.os ∧ AllBare s'.gens ∧ Un (frs out) [] noH noH s.heap s'.heap) s

/-- the context of a lambda's body -/
def lamC (P : Program) (w : World) (K : PySem.W.Frag) (mg : Str → Option Value) (base : Heap) (N : List Str) (A : Around) (out : List Env) (s : Shared) (env : Env) : Cx where
  prog := P
  w := w
  K := K
  mg := mg
  base := base
  A := A.deeper env
  N := N
  s_0 := s
  H_0 := noH
  env := env
  outer := out
  stack := env :: out
  ex := []
  fn := fun _ => false
  calm := true
  pn := []
  xe := fun _ _ => False

/-- a lambda's scope: the two parameters a, b its own, all else captured or global -/
structure LamSc (scope : Scope) (a b : Str) (caps : List Str) : Prop where
  kind : scope.kind = .function
  co : scope.isCoroutine = false
  gen : scope.isGenerator = false
  la : scope.names.lookup a = some .local
  lb : scope.names.lookup b = some .local
  ne : a ≠ b
  own : ∀ y ∈ scope.names, y.2 ≠ .cell
  free : ∀ y ∈ scope.names, y.2 = .free → y.1 ∈ caps
  cap : ∀ y ∈ caps, scope.names.lookup y = some .free
  loc : ∀ y ∈ scope.names, y.2 = .local → y.1 = a ∨ y.1 = b

theorem callsI_of {q : Str} {params : Arguments} {body : Expr} {scope : Scope} {cl : List (Str × Addr)} {pm ctv : Value} {c' : Addr} {a b : Str} {caps : List (Str × Int)} {cs : List (Addr × Obj)} {D : Int → Int → Prop} {φ : Int → Int → Int}
    {tb : TE}
    (hbind : ∀ (s : Shared) (u v : Value), BindsTo s (PySem.W.kla_fn "<lambda>" q params body scope cl pm (.ref c') ctv) ⟨[u, v], []⟩ [(a, u), (b, v)])
    (Sc : LamSc scope a b (caps.map (·.1))) (inj : ∀ x y c, cl.lookup x = some c → cl.lookup y = some c → x = y)
    (hcap : ∀ p ∈ caps, ∃ c oc t, cl.lookup p.1 = some c ∧ (c, oc) ∈ cs ∧ oc.data = .cell (some (.int p.2 t)))
    (hcl : ∀ y c, cl.lookup y = some c → ∃ oc v, (c, oc) ∈ cs ∧ oc.data = .cell v)
    (hb : ∀ (P : Program) (w : World) (K : PySem.W.Frag) (mg : Str → Option Value) (base : Heap) (A : Around) (out : List Env) (s : Shared) (f : Addr), mg "min" = none →
      PE (lamC P w K mg base (a :: b :: caps.map (·.1)) A out s (PySem.W.envX q scope s.heap.objs.size f (.ref c') cl)) body tb)
    (ht : ∀ x y, D x y → tb (some (.int x) :: some (.int y) :: caps.map fun p => some (.int p.2)) noH fun v _ => v = .int (φ x y)) :
    CallsI (PySem.W.kla_obj "<lambda>" q params body scope cl pm c' ctv) (c', q) cs D φ := by
  refine ⟨⟨_, _, _, _, rfl⟩, ?_⟩
  intro P w K mg base A out s f x y tx ty hmin hr e0 hf hcode hcs hD
  refine PySem.W.kla_callFunE (by have := hr.dp; omega) hf rfl Sc.co Sc.gen rfl hcode ?_
  refine hbind s _ _ _ _ _ _ ?_
  have hloc : ∀ z ∈ [(a, Value.int x tx), (b, Value.int y ty)], scope.names.lookup z.1 = some .local := by
    intro z hz
    simp only [List.mem_cons, List.not_mem_nil, or_false] at hz
    rcases hz with rfl | rfl
    · exact Sc.la
    · exact Sc.lb
  refine wpAny_newFunctionEnv Sc.own hloc (fun h₁ hns hsb => ⟨(e0.mod.nolimit.keeps fun b o e => (e0.bs b o e).1).fresh _ hsb, ?_⟩) Sc.kind
  have kp : ∀ b o, s.heap.get? b = some o → h₁.get? b = some o := fun b o e =>
    hsb.extBut b o (Nat.ne_of_lt (Heap.lt_size e)) (Heap.get?_push_of_some _ e)
  let env := PySem.W.envX q scope s.heap.objs.size f (.ref c') cl
  show codeAny _ _ (.expr body env) _ _
  let X := lamC P w K mg base (a :: b :: caps.map (·.1)) A out s env
  have noA : ∀ b : Addr, b ∉ X.ex := fun b z => nomatch (show b ∈ ([] : List Addr) from z)
  have capOf : ∀ n : Str, scope.names.lookup n = some .free → ∃ m : Int, (n, m) ∈ caps := by
    intro n hn
    have h1 := Sc.free _ (PySem.mem_of_lookup hn) rfl
    obtain ⟨p, hp, e⟩ := List.mem_map.mp h1
    have e : p.1 = n := e
    subst e
    exact ⟨p.2, hp⟩
  have cellOf : ∀ p ∈ caps, ∃ c t, cl.lookup p.1 = some c ∧ h₁.IsCell c (some (.int p.2 t)) := by
    intro p hp
    obtain ⟨c, oc, t, e1, e2, e3⟩ := hcap p hp
    exact ⟨c, t, e1, oc, kp _ _ (hcs _ e2), e3⟩
  have ok : X.Ok := by
    refine ⟨e0.mod, Sc.kind, rfl, rfl, Nat.le_refl _, inj, ?_, ?_, fun _ => hr.hd, Around.frames_deeper e0.frames, .inr ⟨rfl, rfl⟩,
      fun b z => absurd z (noA b), e0.bs, e0.bsz, fun b _ _ => noA b, fun b z => absurd z (noA b), e0.funs, fun _ _ => rfl⟩
    · intro n hn
      have hn : scope.names.lookup n = some .cell ∨ scope.names.lookup n = some .free := hn
      rcases hn with hn | hn
      · exact absurd rfl (Sc.own _ (PySem.mem_of_lookup hn))
      · obtain ⟨m, hm⟩ := capOf n hn
        obtain ⟨c, _, e, _⟩ := cellOf _ hm
        exact ⟨c, e⟩
    · intro n c z _
      exact nomatch (show false = true from z)
  have locs : ∀ (i : Nat) (n : Str) (v : V), X.N[i]? = some n → (some (V.int x) :: some (V.int y) :: caps.map fun p => some (V.int p.2))[i]? = some (some v) → Vis X.env.scope n →
      ∃ u, RelV v u ∧ Look X.env h₁ (fun x_1 => ([(a, Value.int x tx), (b, Value.int y ty)] : List (Str × Value)).reverse.lookup x_1) n u := by
    intro i n v e1 e2 hv
    match i, e1, e2 with
    | 0, e1, e2 =>
      cases e1
      cases e2
      refine ⟨.int x tx, ⟨tx, rfl⟩, .inl ⟨Sc.la, ?_⟩⟩
      show ([(b, Value.int y ty), (a, Value.int x tx)] : List (Str × Value)).lookup a = _
      rw [List.lookup_cons, List.lookup_cons]
      have h1 : (a == b) = false := beq_eq_false_iff_ne.mpr Sc.ne
      rw [h1]
      simp
    | 1, e1, e2 =>
      cases e1
      cases e2
      refine ⟨.int y ty, ⟨ty, rfl⟩, .inl ⟨Sc.lb, ?_⟩⟩
      show ([(b, Value.int y ty), (a, Value.int x tx)] : List (Str × Value)).lookup b = _
      rw [List.lookup_cons]
      simp
    | i + 2, e1, e2 =>
      have e1 : (caps.map (·.1))[i]? = some n := e1
      have e2 : (caps.map fun p => some (V.int p.2))[i]? = some (some v) := e2
      rw [List.getElem?_map] at e1 e2
      cases hp : caps[i]? with
      | none =>
        rw [hp] at e1
        cases e1
      | some p =>
        rw [hp] at e1 e2
        cases e1
        cases e2
        obtain ⟨c, t, f1, f2⟩ := cellOf p (List.mem_of_getElem? hp)
        have hk := Sc.cap p.1 (List.mem_map.mpr ⟨p, List.mem_of_getElem? hp, rfl⟩)
        exact ⟨.int p.2 t, ⟨t, rfl⟩, .inr ⟨.inr hk, c, f1, f2⟩⟩
  have I : Inv X [] (some (.int x) :: some (.int y) :: caps.map fun p => some (.int p.2)) noH { s with heap := h₁, toks := s.toks + [(a, Value.int x tx), (b, Value.int y ty)].length } := by
    refine ⟨ok, rfl, e0.bare, Un.kept kp, ⟨_, hns, locs⟩, ?_, rfl, fun _ _ _ => rfl, (fun p hp => nomatch (show p ∈ ([] : List (Addr × Obj)) ++ [] from hp)), (fun _ _ z => nomatch z), ?_⟩
    · intro n c e
      obtain ⟨oc, v, e2, e3⟩ := hcl n c e
      exact ⟨v, oc, kp _ _ (hcs _ e2), e3⟩
    · show (some (V.int x) :: some (V.int y) :: caps.map fun p => some (V.int p.2)).length = (a :: b :: caps.map (·.1)).length
      simp
  refine PySem.W.kla_codeExpr (wpAny_mono ((hb P w K mg base A out s f hmin).run [] _ _ noH _ I (ht x y hD)) (fun u s' hq => ?_) fun e s' hq => (show False from hq).elim)
  obtain ⟨v, H', J, rv, rfl⟩ := hq
  obtain ⟨t, rfl⟩ := rv
  refine ⟨t, rfl, J.os, J.bare, ?_⟩
  have un : Un (frs out) [] noH H' s.heap s'.heap := J.base
  exact ⟨un.keep, un.slot, fun _ _ _ _ _ => rfl, un.there, (fun _ _ z => nomatch z), (fun _ _ _ z => nomatch z), (fun _ _ z => nomatch z)⟩
/-! ### such a function is called -/
/-- r(x, y) -/
def tCallF (i : Nat) (ta : TA) : TE := fun σ H Q => ∃ (f : Addr) (ob : Obj) (cc : Addr × Str) (cs : List (Addr × Obj)) (D : Int → Int → Prop) (φ : Int → Int → Int),
  σ[i]? = some (some (.ref f)) ∧ CallsI ob cc cs D φ ∧ H f = some (fzO f ob) ∧ ta σ H fun vs H1 => H1 f = some (fzO f ob) ∧ H1 cc.1 = some (LamX.CodeO cc.1 cc.2) ∧
    (∀ p ∈ cs, H1 p.1 = some (fzO p.1 p.2)) ∧ ∃ x y, vs = [.int x, .int y] ∧ D x y ∧ Q (.int (φ x y)) H1
theorem env0_no {P : Program} {w : World} {K : PySem.W.Frag} {mg : Str → Option Value} {base : Heap} {A : Around} {out : List Env} {s : Shared} {H : Hp} (e0 : Env0 P w K mg base A out s H) : Env0 P w K mg base A out s noH :=
  ⟨e0.frames, e0.mod, fun b o e => ⟨(e0.bs b o e).1, rfl⟩, e0.bsz, e0.funs, fun _ _ => rfl, (fun _ _ z => nomatch z), e0.bare⟩
theorem fz_at {P : Program} {w : World} {H : Hp} {h : Heap} {a : Addr} {ob : Obj} (hok : HOk P w H h) (e : H a = some (fzO a ob)) : h.get? a = some ob := (hok a _ e).1
theorem pe_callF {X : Cx} {i : Nat} {a : Str} {p1 p2 : Pos} {e : Expr} {es : List Expr} {ta : TA} (hN : X.N[i]? = some a) (hv : Vis X.env.scope a) (hmin : X.mg "min" = none) (hroom : Room 1 X.A) (hargs : PA X (e :: es) ta)
    (hd : (a == ("__debug__" : Str)) = false := by decide) (hcd : (a == ("__classdict__" : Str)) = false := by decide)
    (he : starEach (e :: es) X.env = (false, eval e X.env) :: starEach es X.env := by rfl) (hpl : (backTo p2 (starEach es X.env)).any (·.1) = false := by rfl) :
    PE X (.Call (.Name a p1) (e :: es) [] p2) (tCallF i ta) := by
  refine ⟨fun pins s σ H Q I h => ?_⟩
  obtain ⟨f, ob, cc, cs, D, φ, hs, hC, hf, ha⟩ := h
  refine wpAny_Call_Name_kw (thn ((pe_var (pos := p1) (i := i) hN hv hd hcd).run pins s σ H (fun v H1 => v = .ref f ∧ H1 = H) I ⟨.ref f, hs, rfl, rfl⟩) fun u s1 ⟨v, H1, I1, r1, q1⟩ => ?_)
  obtain ⟨rfl, rfl⟩ := q1
  obtain rfl : u = Value.ref f := r1
  obtain ⟨⟨oc, od, fd, sl, hob⟩, hgo⟩ := hC
  refine PySem.W.callWith_F ⟨oc, od, fd, sl, by rw [fz_at I1.hok hf, hob]⟩ (thn (hargs.run p2 pins s1 σ H1 _ I1 ha) fun us s2 ⟨vs, H2, I2, r2, q2⟩ => ?_) he hpl
  obtain ⟨g1, g2, g3, x, y, rfl, hD, hQ⟩ := q2
  refine ⟨⟨oc, od, fd, sl, by rw [fz_at I2.hok g1, hob]⟩, ?_⟩
  cases r2 with
  | cons ra rt =>
    cases rt with
    | cons rb rt =>
      cases rt
      obtain ⟨tx, rfl⟩ := ra
      obtain ⟨ty, rfl⟩ := rb
      have e0 := I2.env0
      have hcode : s2.heap.CodeRec (.ref cc.1) cc.2 := by
        obtain ⟨⟨oc, vs, t, h1, h2, h3⟩, _, _⟩ := I2.hok _ _ g2
        exact ⟨_, oc, vs, t, rfl, h1, h2, h3⟩
      refine wpAny_call (codeAny_mono (hgo X.prog X.w X.K X.mg X.base X.A X.stack s2 f x y tx ty hmin hroom (env0_no e0) (fz_at I2.hok g1) hcode (fun p hp => fz_at I2.hok (g3 p hp)) hD) ?_)
      rintro r s' ⟨t, rfl, os, bare, un⟩
      refine I2.after ⟨.int (φ x y), H2, os, bare, ⟨fun b o e _ => un.keep b o e rfl, fun b o e _ => un.slot b o e rfl, fun b o _ n _ => n, un.there, fun _ _ z => z, fun _ _ _ z => z, fun b ps z => ⟨#[], by simpa using z⟩⟩, ?_, ⟨t, rfl⟩, hQ⟩
      intro b u hu
      refine (I2.hok b u hu).stay (fun d o hd e => ?_) (fun _ z => z) fun _ _ z => z
      refine un.keep d o e rfl (fun z => ?_) (by simp)
      have nz := e0.frf d z
      rcases hd with rfl | hd
      · rw [nz] at hu
        cases hu
      · rw [nz] at hd
        cases hd
section
variable {w : Wd} {ρ : List Sl} {P : Sl → Prop} {te : TE} {ta : TA}
theorem e_callF {i : Nat} {ob : Obj} {cc : Addr × Str} {cs : List (Addr × Obj)} {D : Int → Int → Prop} {φ : Int → Int → Int} (hi : ρ[i]? = some (.fn ob cc cs)) (hC : CallsI ob cc cs D φ)
    (h : A w ta ρ fun xs => ∃ x y, xs = [.dat (.int x), .dat (.int y)] ∧ D x y ∧ P (.dat (.int (φ x y)))) : E w (tCallF i ta) ρ P := by
  intro o σ H Q ok k
  rcases ok.slot i _ hi with z | ⟨v, hv, f, rfl, e1, e2, e3⟩
  · cases z
  refine ⟨f, ob, cc, cs, D, φ, hv, hC, hid_le _ _ e1, ?_⟩
  refine h o σ H _ ok ?_
  rintro o1 H1 vs xs g1 r1 ⟨x, y, rfl, hD, q⟩
  cases r1 with
  | cons ra rt =>
    cases rt with
    | cons rb rt =>
      cases rt
      cases ra
      cases rb
      exact ⟨hid_le _ _ (g1.same _ _ e1), hid_le _ _ (g1.same _ _ e2), fun p hp => hid_le _ _ (g1.same _ _ (e3 p hp)), x, y, rfl, hD, k o1 H1 _ _ g1 (VR.dat (Dd.int _)) q⟩
end

/-! ### a lambda is handed to a def -/
/-- a heap with the things at cs known to stay -/
def atC : List (Addr × Obj) → Addr → Option Obj
  | [], _ => none
  | p :: cs, a => if p.1 = a then some p.2 else atC cs a
theorem atC_mem {cs : List (Addr × Obj)} {a : Addr} {ob : Obj} (h : atC cs a = some ob) : (a, ob) ∈ cs := by
  induction cs with
  | nil => cases h
  | cons p cs ih =>
    unfold atC at h
    by_cases e : p.1 = a
    · rw [if_pos e] at h
      have e2 : p.2 = ob := Option.some.inj h
      have : p = (a, ob) := by rw [← e, ← e2]
      rw [this]
      exact List.mem_cons_self ..
    · rw [if_neg e] at h
      exact List.mem_cons_of_mem _ (ih h)
theorem atC_none {cs : List (Addr × Obj)} {a : Addr} (h : atC cs a = none) : a ∉ cs.map (·.1) := by
  induction cs with
  | nil => exact fun z => nomatch z
  | cons p cs ih =>
    unfold atC at h
    by_cases e : p.1 = a
    · rw [if_pos e] at h
      cases h
    · rw [if_neg e] at h
      have := ih h
      rw [List.map_cons, List.mem_cons]
      rintro (z | z)
      · exact e z.symm
      · exact this z
def addF (H : Hp) (cs : List (Addr × Obj)) : Hp := fun a => match atC cs a with
  | some ob => some (fzO a ob)
  | none => H a
def subF (H : Hp) (cs : List (Addr × Obj)) : Hp := fun a => if a ∈ cs.map (·.1) then none else H a
theorem addF_none {H : Hp} {cs : List (Addr × Obj)} {a : Addr} (h : a ∉ cs.map (·.1)) : addF H cs a = H a := by
  unfold addF
  cases e : atC cs a with
  | none => rfl
  | some ob => exact (h (List.mem_map.mpr ⟨(a, ob), atC_mem e, rfl⟩)).elim
theorem addF_some {H : Hp} {cs : List (Addr × Obj)} {a : Addr} (h : a ∈ cs.map (·.1)) : ∃ ob, (a, ob) ∈ cs ∧ addF H cs a = some (fzO a ob) := by
  unfold addF
  cases e : atC cs a with
  | none => exact (atC_none e h).elim
  | some ob => exact ⟨ob, atC_mem e, rfl⟩
theorem fz_inj {a : Addr} {o1 o2 : Obj} (h : fzO a o1 = fzO a o2) : o1 = o2 := by
  unfold fzO at h
  injection h
/-- what a def that is called with the things at cs known leaves, without them -/
theorem call_sub {P : Program} {w : World} {out : List Env} {H1 : Hp} {s1 : Shared} {cs : List (Addr × Obj)} {Q : VK} {u : Value} {s' : Shared}
    (hok1 : HOk P w H1 s1.heap) (hn : ∀ p ∈ cs, H1 p.1 = none) (hcs : ∀ p ∈ cs, s1.heap.get? p.1 = some p.2)
    (h : CE out P w (addF H1 cs) s1 (fun v H2 => Q v (subF H2 cs)) u s') : CE out P w H1 s1 Q u s' := by
  obtain ⟨v, H', os, bare, un, hok, rv, q⟩ := h
  have off : ∀ b u, H1 b = some u → b ∉ cs.map (·.1) := by
    intro b u e z
    obtain ⟨p, hp, rfl⟩ := List.mem_map.mp z
    rw [hn p hp] at e
    cases e
  have stays : ∀ b, b ∈ cs.map (·.1) → ∀ o, s1.heap.get? b = some o → s'.heap.get? b = some o := by
    intro b hb o e
    obtain ⟨ob, hm, ea⟩ := addF_some (H := H1) hb
    have e1 := hcs _ hm
    rw [show (b, ob).1 = b from rfl, e] at e1
    cases e1
    exact (hok b _ (un.frzs b _ _ ea)).1
  refine ⟨v, subF H' cs, os, bare, ⟨fun b o e n hf hx => ?_, fun b o e n hf hx => ?_, fun b o e n hx => ?_, un.there, fun b xs e => ?_, fun b o x e => ?_, fun b ps e => ?_⟩, fun b x e => ?_, rv, q⟩
  · by_cases hb : b ∈ cs.map (·.1)
    · exact stays b hb o e
    · exact un.keep b o e (by rw [addF_none hb]; exact n) hf hx
  · by_cases hb : b ∈ cs.map (·.1)
    · exact ⟨o.slots, stays b hb o e⟩
    · exact un.slot b o e (by rw [addF_none hb]; exact n) hf hx
  · unfold subF
    by_cases hb : b ∈ cs.map (·.1)
    · rw [if_pos hb]
    · rw [if_neg hb]
      exact un.free b o e (by rw [addF_none hb]; exact n) hx
  · have hb := off b _ e
    unfold subF
    rw [if_neg hb]
    exact un.tups b xs (by rw [addF_none hb]; exact e)
  · have hb := off b _ e
    unfold subF
    rw [if_neg hb]
    exact un.frzs b o x (by rw [addF_none hb]; exact e)
  · have hb := off b _ e
    unfold subF
    rw [if_neg hb]
    exact un.tbls b ps (by rw [addF_none hb]; exact e)
  · have hb : b ∉ cs.map (·.1) := by
      intro z
      unfold subF at e
      rw [if_pos z] at e
      cases e
    unfold subF at e
    rw [if_neg hb] at e
    have keep : ∀ c u, H' c = some u → (∀ o x, u ≠ .frz o x) → subF H' cs c = some u := by
      intro c u ec nu
      unfold subF
      rw [if_neg ?_]
      · exact ec
      intro z
      obtain ⟨ob, hm, ea⟩ := addF_some (H := H1) z
      have := un.frzs c _ _ ea
      rw [ec] at this
      cases this
      exact nu _ _ rfl
    exact (hok b x e).stay (fun _ _ _ z => z) (fun c z => keep c _ z fun _ _ y => nomatch y) fun c xs z => keep c _ z fun _ _ y => nomatch y
theorem cells_ge {y : Str} {c : Addr} : ∀ (names : List (Str × NameKind)) (n : Nat) (acc : List (Str × Addr)), (cellsFrom n names acc).lookup y = some c → n ≤ c ∨ acc.lookup y = some c := by
  intro names
  induction names with
  | nil => exact fun n acc h => .inr h
  | cons z r ih =>
    intro n acc h
    obtain ⟨nm, k⟩ := z
    unfold cellsFrom at h
    split at h
    · rcases ih _ _ h with h | h
      · exact .inl (by omega)
      · rw [List.lookup_cons] at h
        split at h
        · cases h
          exact .inl (Nat.le_refl _)
        · exact .inr h
    · exact ih _ _ h
theorem fz_ok {P : Program} {w : World} {H : Hp} {h : Heap} {a : Addr} {ob : Obj} (g : h.get? a = some ob) : ObjOk P w H h a (fzO a ob) := ⟨g, g, ⟨ob, g⟩, fun h1 h2 z k => k _ z⟩
section
variable {X : Cx} {pins : List (Addr × Obj)} {σ : L2.St} {H : Hp} {s : Shared}
/-- a lambda is made; where it stands is new -/
theorem lam_new {T : List (Addr × Str)} {c P0 : Addr} {params : Arguments} {body : Expr} {scope : Scope} {pos : Pos} {E : Value → Shared → Prop} {Q : Value → Shared → Prop}
    (I : Inv X pins σ H s) (TB : LamX.TabB X.base X.mg c P0) (hc : X.env.code = .ref c) (h1 : (P0, X.env.qual ++ "<lambda>") ∈ T) (h2 : ∀ p ∈ T, p.1 = P0 → p.2 = X.env.qual ++ "<lambda>")
    (hT : LamX.Tabs T H) (h3 : defaultsOf params X.env = ([], [])) (h4 : ∀ y ∈ scope.names, y.2 = .free → ∃ d, X.env.cells.lookup y.1 = some d)
    (go : ∀ (f c' : Addr) (pm ctv : Value) (H1 : Hp) (s' : Shared), Inv X pins σ (upd H1 f (fzO f (PySem.W.kla_obj "<lambda>" (X.env.qual ++ "<lambda>") params body scope (cloFrom X.env.cells scope.names []) pm c' ctv))) s' → (∀ b o, b ≠ P0 → H b = some o → H1 b = some o) → LamX.Tabs T H1 → H1 f = none → H f = none →
      H1 c' = some (LamX.CodeO c' (X.env.qual ++ "<lambda>")) → Q (.ref f) s') :
    wpAny (model X.prog X.w) X.A (eval (.Lambda params body scope pos) X.env) Q E s := by
  obtain ⟨ps, hP, triples, known⟩ := hT _ h1
  have atP : s.heap.get? P0 = some { cls := .none, data := .fields ps } := I.hok P0 _ hP
  have mods := TB.bm.keeps I.bk
  have cd := TB.code.keeps I.bk
  have glb := I.mod.glob.keeps I.bk
  refine PySem.W.kla_eval h3 ?_
  cases found : codeAmong pos ps.toList with
  | some cv =>
    obtain ⟨c', rfl, isC⟩ := known pos cv found
    refine PySem.W.kla_makeFunctionHit (mg := X.mg) (closure_ok h4) I.ok.glob glb hc cd atP triples found mods ?_
    intro ctv h' tk keep le
    exact go _ c' _ ctv H _ (I.laid (fun b o e => Heap.get?_push_of_some _ (keep b o e)) le (fz_ok (Heap.get?_push_size _ rfl))) (fun _ _ _ z => z) hT (I.hok.fresh le) (I.hok.fresh le) isC
  | none =>
    refine PySem.W.kla_makeFunction (mg := X.mg) (closure_ok h4) I.ok.glob glb hc cd atP triples found TB.gP mods ?_
    intro c' ctv h' tk ext le lt code tab
    obtain ⟨d, oc, vs, t, hd, hoc, hdat, hv⟩ := code
    cases hd
    have free' : H c' = none := I.hok.fresh le
    have sz : s.heap.objs.size ≤ h'.objs.size := Nat.le_of_lt (Nat.lt_of_le_of_lt le lt)
    have J0 := LamX.inv_table (t' := tk) (more := #[rawInt pos.line, rawInt pos.col, .ref c']) (h' := h') I hP (fun b o hb e => ext b o hb e) tab le ⟨oc, vs, t, hoc, hdat, hv⟩
    have J := J0.laid (t' := tk) (h' := h'.push (PySem.W.kla_obj "<lambda>" (X.env.qual ++ "<lambda>") params body scope (cloFrom X.env.cells scope.names []) ((X.mg "__name__").getD .none) c' ctv)) (a := h'.objs.size)
      (o := fzO h'.objs.size (PySem.W.kla_obj "<lambda>" (X.env.qual ++ "<lambda>") params body scope (cloFrom X.env.cells scope.names []) ((X.mg "__name__").getD .none) c' ctv))
      (fun b o e => Heap.get?_push_of_some _ e) (Nat.le_refl _) (fz_ok (Heap.get?_push_size _ rfl))
    have toL : (ps ++ #[rawInt pos.line, rawInt pos.col, .ref c']).toList = ps.toList ++ [rawInt pos.line, rawInt pos.col, .ref c'] := by simp
    have kq : ∀ b o, b ≠ P0 → H b = some o → upd (upd H P0 (.tbl (ps ++ #[rawInt pos.line, rawInt pos.col, .ref c']))) c' (LamX.CodeO c' (X.env.qual ++ "<lambda>")) b = some o := by
      intro b o b2 e
      rw [upd_ne (ne_of_none e free'), upd_ne b2]
      exact e
    have kp : LamX.ExtN H (upd (upd H P0 (.tbl (ps ++ #[rawInt pos.line, rawInt pos.col, .ref c']))) c' (LamX.CodeO c' (X.env.qual ++ "<lambda>"))) := by
      intro b o e nt
      have b1 : b ≠ c' := ne_of_none e free'
      have b2 : b ≠ P0 := by
        rintro rfl
        rw [hP] at e
        cases e
        exact nt _ rfl
      rw [upd_ne b1, upd_ne b2]
      exact e
    have tabs : LamX.Tabs T (upd (upd H P0 (.tbl (ps ++ #[rawInt pos.line, rawInt pos.col, .ref c']))) c' (LamX.CodeO c' (X.env.qual ++ "<lambda>"))) := by
      intro p hp
      by_cases hb : p.1 = P0
      · rw [h2 p hp hb, hb]
        refine ⟨_, (upd_ne (ne_of_none hP free')).trans upd_same, ?_, ?_⟩
        · rw [toL]
          exact PySem.TriplesOk_snoc _ _ _ _ triples
        · intro p' cv hcv
          rw [toL] at hcv
          rcases LamX.among_app _ triples hcv with z | z
          · obtain ⟨x, x1, x2⟩ := known p' cv z
            exact ⟨x, x1, kp _ _ x2 LamX.codeO_ne⟩
          · exact ⟨c', z, upd_same⟩
      · obtain ⟨qs, a1, a2, a3⟩ := hT p hp
        refine ⟨qs, ?_, a2, fun p' cv hcv => ?_⟩
        · rw [upd_ne (ne_of_none a1 free'), upd_ne hb]
          exact a1
        · obtain ⟨x, x1, x2⟩ := a3 p' cv hcv
          exact ⟨x, x1, kp _ _ x2 LamX.codeO_ne⟩
    refine go h'.objs.size c' _ ctv _ _ J kq tabs ?_ (I.hok.fresh sz) upd_same
    rw [upd_ne (Nat.ne_of_gt lt), upd_ne (Nat.ne_of_gt (Nat.lt_of_lt_of_le (Heap.lt_size atP) sz))]
    exact I.hok.fresh sz
/-- the cells that a lambda reads, as they stand -/
theorem cells_at {caps : List (Nat × Str)} {ms : List Int} (I : Inv X pins σ H s) (hl : ms.length = caps.length)
    (hfree : ∀ p ∈ caps, X.N[p.1]? = some p.2 ∧ X.env.scope.names.lookup p.2 = some .cell) (hσ : ∀ (i : Nat) p m, caps[i]? = some p → ms[i]? = some m → σ[p.1]? = some (some (.int m))) :
    ∃ cs : List (Addr × Obj), (∀ p ∈ cs, s.heap.get? p.1 = some p.2 ∧ ∃ y, X.env.cells.lookup y = some p.1) ∧
      ∀ p ∈ (caps.map (·.2)).zip ms, ∃ c oc t, X.env.cells.lookup p.1 = some c ∧ (c, oc) ∈ cs ∧ oc.data = .cell (some (.int p.2 t)) := by
  obtain ⟨mp, hn, hloc⟩ := I.loc
  have one : ∀ (i : Nat) p m, caps[i]? = some p → ms[i]? = some m → ∃ c oc t, X.env.cells.lookup p.2 = some c ∧ s.heap.get? c = some oc ∧ oc.data = .cell (some (.int m t)) := by
    intro i p m hp hm
    obtain ⟨e1, e2⟩ := hfree p (List.mem_of_getElem? hp)
    obtain ⟨u, ⟨t, rfl⟩, lk⟩ := hloc p.1 p.2 _ e1 (hσ i p m hp hm) (.inr (.inl e2))
    rcases lk with ⟨k, _⟩ | ⟨_, c, hc, oc, ho, hd⟩
    · have k : X.env.scope.names.lookup p.2 = some .local := k
      rw [e2] at k
      cases k
    · exact ⟨c, oc, t, hc, ho, hd⟩
  clear hσ hfree hloc
  induction caps generalizing ms with
  | nil => exact ⟨[], (fun _ z => nomatch z), (fun _ z => nomatch z)⟩
  | cons p caps ih =>
    cases ms with
    | nil => cases hl
    | cons m ms =>
      obtain ⟨cs, a1, a2⟩ := ih (by simpa using hl) fun i q k hq hk => one (i + 1) q k hq hk
      obtain ⟨c, oc, t, b1, b2, b3⟩ := one 0 p m rfl rfl
      refine ⟨(c, oc) :: cs, fun q hq => ?_, fun q hq => ?_⟩
      · rcases List.mem_cons.mp hq with rfl | hq
        · exact ⟨b2, _, b1⟩
        · exact a1 q hq
      · rw [List.map_cons, List.zip_cons_cons] at hq
        rcases List.mem_cons.mp hq with rfl | hq
        · exact ⟨c, oc, t, b1, List.mem_cons_self .., b3⟩
        · obtain ⟨c2, o2, t2, d1, d2, d3⟩ := a2 q hq
          exact ⟨c2, o2, t2, d1, List.mem_cons_of_mem _ d2, d3⟩
end
/-! ### a def is called with a value and a lambda -/
theorem hok_addF {P : Program} {w : World} {H : Hp} {h : Heap} {cs : List (Addr × Obj)} (hok : HOk P w H h) (hn : ∀ p ∈ cs, H p.1 = none) (hcs : ∀ p ∈ cs, h.get? p.1 = some p.2) : HOk P w (addF H cs) h := by
  intro b x e
  by_cases hb : b ∈ cs.map (·.1)
  · obtain ⟨ob, hm, ea⟩ := addF_some (H := H) hb
    rw [ea] at e
    cases e
    have g := hcs _ hm
    exact ⟨g, g, ⟨ob, g⟩, fun h1 h2 z k => k _ z⟩
  · rw [addF_none hb] at e
    have keep : ∀ c u, H c = some u → addF H cs c = some u := by
      intro c u ec
      rw [addF_none]
      · exact ec
      intro z
      obtain ⟨p, hp, rfl⟩ := List.mem_map.mp z
      rw [hn p hp] at ec
      cases ec
    exact (hok b x e).stay (fun _ _ _ z => z) (fun c z => keep c _ z) fun c xs z => keep c _ z
theorem cloFrom_lookup {cells : List (Str × Addr)} {scope : Scope} (h4 : ∀ y ∈ scope.names, y.2 = .free → ∃ d, cells.lookup y.1 = some d) {y : Str} {c : Addr} (h : (cloFrom cells scope.names []).lookup y = some c) : cells.lookup y = some c := by
  rcases cloFrom_mem (PySem.mem_of_lookup h) with hm | ⟨h1, h2⟩
  · exact nomatch hm
  · obtain ⟨d, hd⟩ := h4 _ h1 rfl
    have hd : cells.lookup y = some d := hd
    have : c = d := by
      rw [h2, hd]
      rfl
    rw [this]
    exact hd
theorem cloFrom_has' {cells : List (Str × Addr)} {scope : Scope} (h4 : ∀ y ∈ scope.names, y.2 = .free → ∃ d, cells.lookup y.1 = some d) {y : Str} (hy : scope.names.lookup y = some .free) : (cloFrom cells scope.names []).lookup y = cells.lookup y := by
  obtain ⟨c, hc⟩ := mem_lookup (cloFrom_has (cells := cells) (acc := []) (PySem.mem_of_lookup hy))
  rw [hc, cloFrom_lookup h4 hc]
/-- the object that a lambda makes in X -/
def LamOb (X : Cx) (q : Str) (params : Arguments) (body : Expr) (scope : Scope) (ob : Obj) (c' : Addr) : Prop :=
  ∃ pm ctv : Value, ob = PySem.W.kla_obj "<lambda>" q params body scope (cloFrom X.env.cells scope.names []) pm c' ctv
/-- lambda a, b: .. -/
def tLam2 (T : List (Addr × Str)) (P0 : Addr) (q : Str) (LO : Obj → Addr → Prop) : TE := fun σ H Q => LamX.Tabs T H ∧ (P0, q) ∈ T ∧ (∀ p ∈ T, p.1 = P0 → p.2 = q) ∧
  ∀ (f c' : Addr) (ob : Obj) (H1 : Hp), (∀ b o, b ≠ P0 → H b = some o → H1 b = some o) → LamX.Tabs T H1 → H1 f = some (fzO f ob) → H1 c' = some (LamX.CodeO c' q) → LO ob c' → Q (.ref f) H1
theorem pe_lam2 {X : Cx} {params : Arguments} {body : Expr} {scope : Scope} {lpos : Pos} {c P0 : Addr} {T : List (Addr × Str)} {q : Str}
    (TB : LamX.TabB X.base X.mg c P0) (hc : X.env.code = .ref c) (hq : X.env.qual ++ "<lambda>" = q) (h3 : defaultsOf params X.env = ([], []))
    {a b : Str} {caps : List (Nat × Str)} (Sc : LamSc scope a b (caps.map (·.2))) (hfree : ∀ z ∈ caps, X.N[z.1]? = some z.2 ∧ X.env.scope.names.lookup z.2 = some .cell) :
    PE X (.Lambda params body scope lpos) (tLam2 T P0 q (LamOb X q params body scope)) := by
  refine ⟨fun pins s σ H Q I h => ?_⟩
  have h4 : ∀ y ∈ scope.names, y.2 = .free → ∃ d, X.env.cells.lookup y.1 = some d := by
    intro y hy hf
    obtain ⟨z, hz, e⟩ := List.mem_map.mp (Sc.free y hy hf)
    rw [← e]
    exact I.ok.has _ (.inl (hfree z hz).2)
  obtain ⟨hT, h1, h2, go⟩ := h
  subst hq
  refine lam_new I TB hc h1 h2 hT h3 h4 fun f c' pm ctv H1 s' J kq tabs nf nf0 ec => ?_
  refine ⟨.ref f, _, J, rfl, go f c' _ _ (fun b o hb e => ?_) (tabs.ext fun b o e => ?_) upd_same ?_ ⟨pm, ctv, rfl⟩⟩
  · rw [upd_ne (ne_of_none e nf0)]
    exact kq b o hb e
  · rw [upd_ne (ne_of_none e nf)]
    exact e
  · rw [upd_ne (ne_of_none ec nf)]
    exact ec
/-- a def is called, the last argument a lambda; caps: the slots and names that the lambda reads -/
def tCallC (q : Str) (LO : Obj → Addr → Prop) (caps : List (Nat × Str)) (sp : Sp) (ta : TA) (tb : TE) : TE := fun σ H Q => ta σ H fun vs H1 => ∃ (v : V) (f c' : Addr) (ob : Obj),
  vs = [v, .ref f] ∧ H1 f = some (fzO f ob) ∧ H1 c' = some (LamX.CodeO c' q) ∧ LO ob c' ∧ ∃ ms : List Int, ms.length = caps.length ∧
    (∀ (i : Nat) p m, caps[i]? = some p → ms[i]? = some m → σ[p.1]? = some (some (.int m))) ∧ ∃ (D : Int → Int → Prop) (φ : Int → Int → Int),
    (∀ x y, D x y → tb (some (.int x) :: some (.int y) :: ms.map fun m => some (.int m)) noH fun v _ => v = .int (φ x y)) ∧
    ∀ cs : List (Addr × Obj), (∀ p ∈ cs, H1 p.1 = none) → (∀ p ∈ cs, addF H1 cs p.1 = some (fzO p.1 p.2)) → CallsI ob (c', q) cs D φ → sp vs (addF H1 cs) (fun r H3 => Q r (subF H3 cs)) E0
theorem pe_callC {X : Cx} {n : Nat} {g : Addr} {fd : FuncData} {ps : List Str} {sp : Sp} {x : Str} {p pos lpos : Pos} {e : Expr} {ta : TA} {tb : TE} {params : Arguments} {body : Expr} {scope : Scope} {a b : Str} {caps : List (Nat × Str)} {q : Str}
    (F : FnG X.prog X.w X.K X.mg X.base n g fd ps sp) (hgd : X.A.guards = some []) (hroom : Room n X.A) (hg : Gl X x) (hm : X.mg x = some (.ref g)) (hk : PySem.W.keepIn X.K (.ref g) = true) (hb : Binds X.K fd ps [])
    (hargs : PA X [e, .Lambda params body scope lpos] ta) (Sc : LamSc scope a b (caps.map (·.2))) (hfree : ∀ z ∈ caps, X.N[z.1]? = some z.2 ∧ X.env.scope.names.lookup z.2 = some .cell)
    (hge : ∀ y d, X.env.cells.lookup y = some d → X.s_0.heap.objs.size ≤ d)
    (hbind : ∀ (q : Str) (cl : List (Str × Addr)) (pm cv ctv : Value) (s : Shared) (u v : Value), BindsTo s (PySem.W.kla_fn "<lambda>" q params body scope cl pm cv ctv) ⟨[u, v], []⟩ [(a, u), (b, v)])
    (hbody : ∀ (P : Program) (w : World) (K : PySem.W.Frag) (mg : Str → Option Value) (base : Heap) (A : Around) (out : List Env) (s : Shared) (q : Str) (L f : Addr) (cd : Value) (cl : List (Str × Addr)), mg "min" = none →
      PE (lamC P w K mg base (a :: b :: caps.map (·.2)) A out s (PySem.W.envX q scope L f cd cl)) body tb)
    (hdb : (x == ("__debug__" : Str)) = false := by decide)
    (he : starEach [e, .Lambda params body scope lpos] X.env = (false, eval e X.env) :: starEach [.Lambda params body scope lpos] X.env := by rfl)
    (hpl : (backTo pos (starEach [.Lambda params body scope lpos] X.env)).any (·.1) = false := by rfl) :
    PE X (.Call (.Name x p) [e, .Lambda params body scope lpos] [] pos) (tCallC q (LamOb X q params body scope) caps sp ta tb) := by
  refine ⟨fun pins s σ H Q I h => ?_⟩
  have h4 : ∀ y ∈ scope.names, y.2 = .free → ∃ d, X.env.cells.lookup y.1 = some d := by
    intro y hy hf
    obtain ⟨z, hz, e⟩ := List.mem_map.mp (Sc.free y hy hf)
    rw [← e]
    exact I.ok.has _ (.inl (hfree z hz).2)
  refine wpAny_Call_Name_kw (ld_glob I hg hm ?_ hdb)
  refine PySem.W.callWith_K (h₀ := X.base) I.ok.mod.kin hk (thn (hargs.run pos pins s σ H _ I h) fun us sa ⟨vs, H1, J, ra, qa⟩ => ⟨J.kIn, ?_⟩) he hpl
  obtain ⟨v, f, c', ob, rfl, hf, hcode, ⟨pm, ctv, rfl⟩, ms, hms, hσ, D, φ, ht, go⟩ := qa
  obtain ⟨cs, hcs, hcap⟩ := cells_at J hms hfree hσ
  have free1 : ∀ p ∈ cs, H1 p.1 = none := fun p hp => by
    obtain ⟨y, hy⟩ := (hcs p hp).2
    exact J.freeC y _ hy
  have add1 : ∀ p ∈ cs, addF H1 cs p.1 = some (fzO p.1 p.2) := fun p hp => by
    obtain ⟨o2, hm2, e2⟩ := addF_some (H := H1) (cs := cs) (a := p.1) (List.mem_map.mpr ⟨p, hp, rfl⟩)
    have g1 := (hcs p hp).1
    have g2 := (hcs _ hm2).1
    rw [show ((p.1, o2).1 : Addr) = p.1 from rfl, g1] at g2
    cases g2
    exact e2
  have calls : CallsI (PySem.W.kla_obj "<lambda>" q params body scope (cloFrom X.env.cells scope.names []) pm c' ctv) (c', q) cs D φ := by
    refine callsI_of (caps := (caps.map (·.2)).zip ms) (tb := tb) (fun s u v => hbind _ _ _ _ _ s u v) ?_ ?_ ?_ ?_ ?_ ?_
    · have e : ((caps.map (·.2)).zip ms).map (·.1) = caps.map (·.2) := by
        rw [List.map_fst_zip]
        rw [List.length_map, hms]
        exact Nat.le_refl _
      rw [e]
      exact Sc
    · intro y1 y2 d h1 h2
      exact J.ok.inj y1 y2 d (cloFrom_lookup h4 h1) (cloFrom_lookup h4 h2)
    · intro z hz
      obtain ⟨d, oc, t, e1, e2, e3⟩ := hcap z hz
      refine ⟨d, oc, t, ?_, e2, e3⟩
      have hz1 : z.1 ∈ caps.map (·.2) := (List.of_mem_zip hz).1
      rw [cloFrom_has' h4 (Sc.cap z.1 hz1)]
      exact e1
    · intro y d hy
      have hy1 := cloFrom_lookup h4 hy
      rcases cloFrom_mem (PySem.mem_of_lookup hy) with hm | ⟨m1, m2⟩
      · exact nomatch hm
      · have mem := Sc.free _ m1 rfl
        obtain ⟨i, hi⟩ := List.getElem?_of_mem mem
        have hl : i < ms.length := by
          have := (List.getElem?_eq_some_iff.mp hi).1
          rw [List.length_map] at this
          omega
        have hz : (y, ms[i]) ∈ (caps.map (·.2)).zip ms := List.mem_of_getElem? (i := i) (by rw [List.getElem?_zip_eq_some]; exact ⟨hi, List.getElem?_eq_getElem hl⟩)
        obtain ⟨d2, oc, t, e1, e2, e3⟩ := hcap _ hz
        have e1 : X.env.cells.lookup y = some d2 := e1
        rw [hy1] at e1
        cases e1
        exact ⟨oc, _, e2, e3⟩
    · intro P w K mg base A out s f hmin
      have e : ((caps.map (·.2)).zip ms).map (·.1) = caps.map (·.2) := by
        rw [List.map_fst_zip]
        rw [List.length_map, hms]
        exact Nat.le_refl _
      rw [e]
      exact hbody P w K mg base A out s q _ f _ _ hmin
    · intro x y hD
      have e : ((caps.map (·.2)).zip ms).map (fun p => some (V.int p.2)) = ms.map fun m => some (V.int m) := by
        have : ((caps.map (·.2)).zip ms).map (fun p => some (V.int p.2)) = (((caps.map (·.2)).zip ms).map (·.2)).map fun m => some (V.int m) := by rw [List.map_map]; rfl
        rw [this, List.map_snd_zip]
        rw [List.length_map, hms]
        exact Nat.le_refl _
      rw [e]
      exact ht x y hD
  have qb := go cs free1 add1 calls
  have hl : (us ++ []).length = ps.length := by
    rw [List.append_nil, ← ra.length]
    exact F.len _ _ _ _ qb
  have hbd := hb sa us J.kIn hl
  rw [List.append_nil] at hbd
  have e0 := J.env0
  have new : ∀ p ∈ cs, X.s_0.heap.objs.size ≤ p.1 := fun p hp => by
    obtain ⟨y, hy⟩ := (hcs p hp).2
    exact hge y _ hy
  have nofr : ∀ d ∈ frs X.stack, d ∉ cs.map (·.1) := by
    intro d hd z
    obtain ⟨p, hp, rfl⟩ := List.mem_map.mp z
    obtain ⟨y, hy⟩ := (hcs p hp).2
    rcases List.mem_cons.mp (J.stkSub _ hd) with e | e
    · exact J.cne y _ hy e
    · obtain ⟨_, o, ho, _⟩ := J.ok.funs.mem e
      exact absurd (Heap.lt_size ho) (Nat.not_lt.mpr (new p hp))
  have nobase : ∀ d o, X.base.get? d = some o → d ∉ cs.map (·.1) := by
    intro d o hd z
    obtain ⟨p, hp, rfl⟩ := List.mem_map.mp z
    exact absurd (Heap.lt_size hd) (Nat.not_lt.mpr (Nat.le_trans J.ok.bsz (new p hp)))
  have e1 : Env0 X.prog X.w X.K X.mg X.base X.A X.stack sa (addF H1 cs) :=
    ⟨e0.frames, e0.mod, fun d o hd => ⟨(e0.bs d o hd).1, by rw [addF_none (nobase d o hd)]; exact (e0.bs d o hd).2⟩, e0.bsz, e0.funs, fun d hd => by rw [addF_none (nofr d hd)]; exact e0.frf d hd,
      hok_addF J.hok free1 fun p hp => (hcs p hp).1, e0.bare⟩
  refine wpAny_call (codeAny_mono (F.go X.A X.stack sa (addF H1 cs) ⟨us, []⟩ us [v, .ref f] (fun r H3 => Q r (subF H3 cs)) E0 hgd hroom e1 hbd ra qb) ?_)
  intro r sz hz
  cases r with
  | error e => exact hz.elim
  | ok fl =>
    cases fl with
    | ret u => exact J.after (call_sub J.hok free1 (fun p hp => (hcs p hp).1) hz)
    | next => exact hz.elim
    | brk => exact hz.elim
    | cont => exact hz.elim

/-! ### told over data -/
/-- all but things that are known to stay -/
def SameX (H H' : Hp) : Prop := ∀ a u, H a = some u → (∀ ob, u ≠ fzO a ob) → H' a = some u
theorem seqX {K : PySem.W.Frag} {H H' : Hp} {a : Addr} {xs : List V} (e : SameX H H') (h : SqL K H a xs) : SqL K H' a xs := by
  rcases h with (h | ⟨o, h⟩) | h
  · exact .inl (.inl (e _ _ h fun _ z => nomatch z))
  · exact .inl (.inr ⟨o, e _ _ h fun ob z => by unfold fzO at z; cases z⟩)
  · exact .inr h
theorem sqTX {H H' : Hp} {a : Addr} {xs : List V} (e : SameX H H') (h : SqP H a xs) : SqP H' a xs := by
  obtain ⟨o, h, d⟩ := h
  have k := e a (.frz o (.tup xs)) h (fun ob z => by unfold fzO at z; cases z)
  exact ⟨o, k, d⟩
theorem rdX {H H' : Hp} {a : Addr} {kvs : List (Key × V)} (e : SameX H H') (h : Rd H a (.dK kvs)) : Rd H' a (.dK kvs) := by
  rcases h with h | ⟨o, h⟩
  · exact .inl (e _ _ h fun _ z => nomatch z)
  · exact .inr ⟨o, e _ _ h fun ob z => by unfold fzO at z; cases z⟩
mutual
theorem dd_X {K : PySem.W.Frag} {H H' : Hp} (e : SameX H H') : ∀ {v : V} {d : PyData}, Dd K H v d → Dd K H' v d
  | _, _, .non => .non
  | _, _, .bl b => .bl b
  | _, _, .int i => .int i
  | _, _, .str x => .str x
  | _, _, .lst hs ha => .lst (seqX e hs) (ddAll_X e ha)
  | _, _, .tup hs ha => .tup (sqTX e hs) (ddAll_X e ha)
  | _, _, .dic hs ha => .dic (rdX e hs) (ddKv_X e ha)
theorem ddAll_X {K : PySem.W.Frag} {H H' : Hp} (e : SameX H H') : ∀ {vs : List V} {ds : List PyData}, DdAll K H vs ds → DdAll K H' vs ds
  | _, _, .nil => .nil
  | _, _, .cons h1 h2 => .cons (dd_X e h1) (ddAll_X e h2)
theorem ddKv_X {K : PySem.W.Frag} {H H' : Hp} (e : SameX H H') : ∀ {vs : List (Key × V)} {ds : List (PyData × PyData)}, DdKv K H vs ds → DdKv K H' vs ds
  | _, _, .nil => .nil
  | _, _, .cons h1 h2 => .cons (dd_X e h1) (ddKv_X e h2)
end
section
variable {w : Wd} {ρ : List Sl} {P : Sl → Prop} {te tb : TE} {ta : TA}
theorem e_lam2 {T : List (Addr × Str)} {P0 : Addr} {q : Str} {LO : Obj → Addr → Prop} (hT : w.tb = T) (h1 : (P0, q) ∈ T) (h2 : ∀ p ∈ T, p.1 = P0 → p.2 = q)
    (k0 : ∀ ob c', LO ob c' → P (.fn ob (c', q) [])) : E w (tLam2 T P0 q LO) ρ P := by
  subst hT
  intro o σ H Q ok k
  have tabs0 : LamX.Tabs w.tb H := fun p hp => by
    obtain ⟨_, ps, e1, e2, e3⟩ := ok.tab.2 p hp
    refine ⟨ps, e1, e2, fun pos cv q => ?_⟩
    obtain ⟨c, z1, z2⟩ := e3 pos cv q
    exact ⟨c, z1, hid_le _ _ z2⟩
  refine ⟨tabs0, h1, h2, fun f c' ob H1 kq tabs ef ec lo => ?_⟩
  have isP : ∃ ps, H1 P0 = some (.tbl ps) := by
    obtain ⟨ps, e, _⟩ := tabs _ h1
    exact ⟨ps, e⟩
  have muP : w.mu P0 := .inr ⟨q, h1⟩
  have same : ∀ a, o a → a ≠ P0 → H1 a = H a := fun a ha ne => by
    cases e : H a with
    | none => exact absurd e (ok.hn a ha)
    | some u => exact kq a u ne e
  have shown : ∀ a u, H1 a = some u → ((∃ c q, u = LamX.CodeO c q) ∨ ∃ ob x, u = .frz ob x) → ¬ o a := fun a u e hu ha => by
    by_cases ne : a = P0
    · obtain ⟨ps, e2⟩ := isP
      rw [ne, e2] at e
      cases e
      rcases hu with ⟨_, _, z⟩ | ⟨_, _, z⟩
      · unfold LamX.CodeO at z
        cases z
      · cases z
    · rw [same a ha ne] at e
      obtain ⟨_, n2, n3⟩ := ok.here a ha
      rcases hu with ⟨c, q', rfl⟩ | ⟨ob, x, rfl⟩
      · exact n2 c q' e
      · exact n3 ob x e
  have sm : Same (hid H o) (hid H1 o) := fun a u e => by
    obtain ⟨na, e⟩ := hid_some e
    rw [hid_of na]
    refine kq a u (fun z => na ?_) e
    rw [z]
    exact (ok.tab.2 _ h1).1
  have g : Go w o H o H1 := by
    refine ⟨sm, fun _ h => h, fun a ha nm => same a ha fun z => nm (z ▸ muP), fun b hb => ?_, fun p hp => ?_, fun a ha => ?_⟩
    · obtain ⟨b1, b2⟩ := ok.bag b hb
      refine b2.go sm (same b b2.1 fun z => ?_) b2.1
      obtain ⟨_, _, _, _, _, _, e, _⟩ := b2
      obtain ⟨_, ps, e2, _⟩ := ok.tab.2 _ h1
      rw [z] at e
      rw [show ((P0, q).1 : Addr) = P0 from rfl, e] at e2
      cases e2
    · obtain ⟨ps, e1, e2, e3⟩ := tabs p hp
      refine ⟨(ok.tab.2 p hp).1, ps, e1, e2, fun pos cv z => ?_⟩
      obtain ⟨c, z1, z2⟩ := e3 pos cv z
      exact ⟨c, z1, by rw [hid_of (shown c _ z2 (.inl ⟨_, _, rfl⟩))]; exact z2⟩
    · by_cases ne : a = P0
      · obtain ⟨ps, e⟩ := isP
        rw [ne, e]
        exact hidn_tbl
      · rw [same a ha ne]
        exact ok.here a ha
  refine k o H1 _ (.fn ob (c', q) []) g ⟨f, rfl, ?_, ?_, fun _ z => nomatch z⟩ (k0 ob c' lo)
  · rw [hid_of (shown f _ ef (.inr ⟨_, _, rfl⟩))]
    exact ef
  · rw [hid_of (shown c' _ ec (.inl ⟨_, _, rfl⟩))]
    exact ec
theorem e_callC {q : Str} {LO : Obj → Addr → Prop} {caps : List (Nat × Str)} {G : Gs} {K : PySem.W.Frag} {T : List (Addr × Str)} (hK : w.K = K ∧ w.tb = T)
    (h : A w ta ρ fun xs => ∃ (x1 : Sl) (ob : Obj) (c' : Addr), xs = [x1, .fn ob (c', q) []] ∧ plainS x1 = true ∧ LO ob c' ∧ ∃ ms : List Int, ms.length = caps.length ∧
      (∀ (i : Nat) p m, caps[i]? = some p → ms[i]? = some m → ρ[p.1]? = some (.dat (.int m))) ∧ ∃ (D : Int → Int → Prop) (φ : Int → Int → Int),
      (∀ x y, D x y → tb (some (.int x) :: some (.int y) :: ms.map fun m => some (.int m)) noH fun v _ => v = .int (φ x y)) ∧
      ∀ cs, CallsI ob (c', q) cs D φ → G [x1, .fn ob (c', q) cs] fun d => P (.dat d)) :
    E w (tCallC q LO caps (spG K T G) ta tb) ρ P := by
  obtain ⟨rfl, rfl⟩ := hK
  intro o σ H Q ok k
  refine h o σ H _ ok ?_
  rintro o1 H1 vs xs g1 r1 ⟨x1, ob, c', rfl, hp, lo, ms, hl, hρ, D, φ, ht, go⟩
  have ok1 := ok.go g1
  cases r1 with
  | cons ra rt =>
    rename_i v vs
    cases rt with
    | cons rb rt =>
      cases rt
      obtain ⟨f, rfl, ef, ec, _⟩ := rb
      refine ⟨v, f, c', ob, rfl, hid_le _ _ ef, hid_le _ _ ec, lo, ms, hl, fun i p m hi hm => ?_, D, φ, ht, fun cs free add calls => ?_⟩
      · rcases ok1.slot p.1 _ (hρ i p m hi hm) with z | ⟨u, hu, r⟩
        · cases z
        · cases r
          exact hu
      have off : ∀ b u, H1 b = some u → b ∉ cs.map (·.1) := fun b u e z => by
        obtain ⟨p, hp, rfl⟩ := List.mem_map.mp z
        rw [free p hp] at e
        cases e
      have sF : Same H1 (addF H1 cs) := fun b u e => by
        rw [addF_none (off b u e)]
        exact e
      have gF : Go w o1 H1 o1 (addF H1 cs) := ok1.toBas.ext sF
      have offO : ∀ p ∈ cs, ¬ o1 p.1 := fun p hp z => ok1.hn p.1 z (free p hp)
      have rs : VRs ⟨w.K, addF H1 cs, o1, w.bg, w.tb⟩ o1 (addF H1 cs) [v, .ref f] [x1, .fn ob (c', q) cs] := by
        have r1 := VRs.plain (H0 := addF H1 cs) (o0 := o1) (xs := [x1]) (by simp [hp]) (.cons (ra.go ok1.toBas gF) .nil)
        cases r1 with
        | cons r1 _ =>
          refine .cons r1 (.cons ⟨f, rfl, gF.same _ _ ef, gF.same _ _ ec, fun p hp => ?_⟩ .nil)
          rw [hid_of (offO p hp)]
          exact add p hp
      refine ⟨w.bg, o1, _, fun d => P (.dat d), gF.here, gF.bag, gF.tab, rs, go cs calls, ?_⟩
      intro o' H' v' d b' r p
      have fz : ∀ a, a ∈ cs.map (·.1) → ¬ o' a ∧ ∃ ob, H' a = some (fzO a ob) := fun a ha => by
        obtain ⟨ob2, hm, ea⟩ := addF_some (H := H1) ha
        have := b'.grow a (fzO a ob2) (by
          show hid (addF H1 cs) o1 a = _
          rw [hid_of (offO _ hm)]
          exact ea)
        obtain ⟨n1, e1⟩ := hid_some this
        exact ⟨n1, ob2, e1⟩
      have sX : SameX (hid H' o') (hid (subF H' cs) o') := fun a u e nu => by
        obtain ⟨na, e⟩ := hid_some e
        rw [hid_of na]
        unfold subF
        rw [if_neg fun z => ?_]
        · exact e
        obtain ⟨_, ob2, e2⟩ := fz a z
        rw [e] at e2
        exact nu ob2 (Option.some.inj e2)
      have subE : ∀ a, a ∉ cs.map (·.1) → subF H' cs a = H' a := fun a ha => if_neg ha
      have oN : ∀ a, o' a → a ∉ cs.map (·.1) := fun a ha z => (fz a z).1 ha
      have g2 : Go w o1 H1 o' (subF H' cs) := by
        refine ⟨fun a u e => ?_, b'.sub, fun a ha nm => ?_, fun b hb => ?_, fun p hp => ?_, fun a ha => ?_⟩
        · obtain ⟨na, e⟩ := hid_some e
          have na2 := off a u e
          have := b'.grow a u (by
            show hid (addF H1 cs) o1 a = _
            rw [hid_of na]
            exact sF a u e)
          obtain ⟨n1, e1⟩ := hid_some this
          rw [hid_of n1, subE a na2]
          exact e1
        · have na2 : a ∉ cs.map (·.1) := oN a (b'.sub a ha)
          rw [subE a na2, b'.keep a ha nm]
          exact addF_none na2
        · obtain ⟨_, ob0, n0, n1, n2, l, ns, e1, e2, e3⟩ := b'.bag b hb
          exact ⟨ob0, n0, n1, n2, l, ns, (subE b (oN b ob0)).trans e1, seqX sX e2, e3⟩
        · obtain ⟨ob0, ps, e1, e2, e3⟩ := b'.tab.2 p hp
          refine ⟨ob0, ps, (subE _ (oN _ ob0)).trans e1, e2, fun pos cv z => ?_⟩
          obtain ⟨c, z1, z2⟩ := e3 pos cv z
          exact ⟨c, z1, sX _ _ z2 fun ob z => by unfold fzO LamX.CodeO at z; cases z⟩
        · rw [subE a (oN a ha)]
          exact b'.here a ha
      exact k o' (subF H' cs) v' (.dat d) (g1.trans g2) (VR.dat (dd_X sX r)) p
end

/-! ### what the terms ask -/
theorem hge_cx {CX : CXT} {P : Program} {w : World} {K : PySem.W.Frag} {mg : Str → Option Value} {bs : Heap} {N : List Str} {q : Str} {scope : Scope} {f : Addr} {cd : Value} {A : Around} {out : List Env} {s : Shared} {H : Hp} {E : XK} :
    ∀ y d, (cxOf CX P w K mg bs N q scope f cd A out s H E).nox.env.cells.lookup y = some d → (cxOf CX P w K mg bs N q scope f cd A out s H E).nox.s_0.heap.objs.size ≤ d := by
  intro y d h
  have h : (cellsFrom (s.heap.objs.size + 1) scope.names []).lookup y = some d := h
  show s.heap.objs.size ≤ d
  rcases cells_ge _ _ _ h with h | h
  · omega
  · cases h
def lamScB (scope : Scope) (a b : Str) (caps : List Str) : Bool :=
  decide (scope.kind = .function) && !scope.isCoroutine && !scope.isGenerator && decide (scope.names.lookup a = some .local) && decide (scope.names.lookup b = some .local) && decide (a ≠ b) &&
  scope.names.all (fun y => !decide (y.2 = .cell) && (!decide (y.2 = .free) || decide (y.1 ∈ caps)) && (!decide (y.2 = .local) || decide (y.1 = a) || decide (y.1 = b))) && caps.all fun y => decide (scope.names.lookup y = some .free)
theorem lamSc_by {scope : Scope} {a b : Str} {caps : List Str} (h : lamScB scope a b caps = true) : LamSc scope a b caps := by
  unfold lamScB at h
  simp only [Bool.and_eq_true, Bool.or_eq_true, Bool.not_eq_true', decide_eq_true_eq, decide_eq_false_iff_not, List.all_eq_true] at h
  obtain ⟨⟨⟨⟨⟨⟨⟨h1, h2⟩, h3⟩, h4⟩, h5⟩, h6⟩, h7⟩, h8⟩ := h
  refine ⟨h1, h2, h3, h4, h5, h6, fun y hy => (h7 y hy).1.1, fun y hy e => ?_, h8, fun y hy e => ?_⟩
  · rcases (h7 y hy).1.2 with z | z
    · exact absurd e z
    · exact z
  · rcases (h7 y hy).2 with (z | z) | z
    · exact absurd e z
    · exact .inl z
    · exact .inr z
theorem cap0 {α : Type} {p : α → Prop} : ∀ z ∈ ([] : List α), p z := fun _ h => nomatch h
theorem cap1 {α : Type} {p : α → Prop} {a : α} (h : p a) : ∀ z ∈ [a], p z := fun z hz => by
  rw [List.mem_singleton.mp hz]
  exact h
theorem tabIn_of {K : PySem.W.Frag} {x : Str} {f c P : Addr} {oc oc2 : Value} {od od2 : Option Addr} {fd : FuncData} {sl sl2 : Array (Option Value)} {vs : Array Value}
    (a : PySem.W.nsIn K mainGlobals x = some (some (.ref f))) (l : K.lookup f = some ⟨oc, od, .func fd, sl⟩) (hc : fd.code = .ref c) (e : K.lookup c = some ⟨oc2, od2, .fields vs, sl2⟩)
    (y : (vs[11]? : Option Value) = some (.ref P)) : PySem.W.tabIn K x = some (c, P) := by
  unfold PySem.W.tabIn
  simp only [a, l, hc, e, y]
end DL

/-! Bodies of lambdas; lists into which things are put; texts sorted; dicts of pairs. -/
namespace DL
open PySem PySem.Spec PyProof.Rows L2

theorem ok_ints {K : PySem.W.Frag} (ns : List Int) : Ok ⟨K, noH, fun _ => False, none, []⟩ (fun _ => False) (ns.map fun n => some (.int n)) noH (ns.map fun n => .dat (.int n)) := by
  refine ⟨⟨Same.refl _, fun _ h => h, fun _ h => h.elim, (fun _ z => nomatch z), ⟨(fun _ z => nomatch z), fun _ z => nomatch z⟩, fun _ h => h.elim⟩, by simp, fun i x e => ?_, fun i j p q x y _ e1 _ a1 _ => ?_⟩
  · rw [List.getElem?_map] at e
    cases h : ns[i]? with
    | none =>
      rw [h] at e
      cases e
    | some n =>
      rw [h] at e
      cases e
      exact .inr ⟨.int n, by rw [List.getElem?_map, h]; rfl, Dd.int n⟩
  · rw [List.getElem?_map] at e1
    cases h : ns[i]? with
    | none =>
      rw [h] at e1
      cases e1
    | some n =>
      rw [h] at e1
      cases e1
      cases a1
/-- a lambda's body, told over data -/
theorem lam_by {K : PySem.W.Frag} {tb : TE} {r : Int} (ns : List Int) (h : E ⟨K, noH, fun _ => False, none, []⟩ tb (ns.map fun n => .dat (.int n)) fun x => x = .dat (.int r)) : tb (ns.map fun n => some (.int n)) noH fun v _ => v = .int r := by
  refine h _ _ noH _ (ok_ints ns) ?_
  rintro o' H' v x g rx rfl
  cases rx
  rfl
section
variable {w : Wd} {ρ : List Sl} {P : Sl → Prop} {te tl ti : TE} {tt : TT} {tr : TA} {ts : TS} {e : En}
/-- x.insert(i, e), x the def's own -/
theorem s_ins {i : Nat} {p : Addr} {xs : List PyData} (hx : ρ[i]? = some (.own p xs)) (hz : xs.length < sizeLine) (h : A w tr ρ fun ys => ∃ (n : Int) (d : PyData), ys = [.dat (.int n), .dat d] ∧ 0 ≤ n ∧ n < 2 ^ 63 ∧ e.nx (ρ.set i (.own p (xs.take n.toNat ++ [d] ++ xs.drop n.toNat)))) :
    S w (tDrop (tBM w.K "list" (fun x vs H Q => ∃ (l : Addr) (xs : List V) (i : Int) (y : V), x = .ref l ∧ vs = [.int i, y] ∧ H l = some (.lst xs) ∧ xs.length < sizeLine ∧ 0 ≤ i ∧ i < 2 ^ 63 ∧ Q .non (upd H l (.lst (xs.take i.toNat ++ [y] ++ xs.drop i.toNat)))) (tVar i) tr)) ρ e := by
  intro o σ H D ok kn kr kb kc
  rcases ok.slot i _ hx with z | ⟨v, hv, r⟩
  · cases z
  · obtain ⟨rfl, hp, n, vs, e1, ha⟩ := id r
    refine ⟨_, hv, .inl ⟨rfl, vs, .inl (.inl e1)⟩, ?_⟩
    refine h o σ H _ ok ?_
    rintro o1 H1 us xs1 g1 r1 ⟨k, d, rfl, k0, k1, q⟩
    cases r1 with
    | cons ra rt =>
      cases rt with
      | cons rb rt =>
        cases rt
        cases ra
        have e2 : H1 p = some (.lst vs) := (g1.keep p hp (ok.toBas.nb n)).trans e1
        refine ⟨p, vs, k, _, rfl, rfl, e2, by rw [DdAll.len ha]; exact hz, k0, k1, ?_⟩
        have ha1 := dpAll_mono g1.same xs vs ha
        exact kn o1 σ _ _ ((ok.go g1).put hx (DdAll.app (DdAll.app (DdAll.take _ ha1) (.cons rb .nil)) (DdAll.drop _ ha1))) q
/-- sorted, of texts -/
theorem cl_sortS : Cl w (rSortedS w.K) (fun xs P => ∃ (x : Sl) (zs : List Str), xs = [x] ∧ lstD x = some (zs.map .str) ∧ zs.length < 64 ∧ ∀ ys : List Str, ys.Perm zs → sortedS ys = true → P (.dat (.list (ys.map .str)))) := by
  rintro o H vs xs P Q b r ⟨x, zs, rfl, hx, hl, q⟩ k
  cases r with
  | cons r t =>
    cases t
    obtain ⟨a, us, rfl, s1, d1⟩ := r.lst hx
    have e := DdAll.strs d1
    subst e
    refine ⟨a, zs, rfl, s1, hl, fun ys p hy hs np => ?_⟩
    have g := b.new (u := .lst (ys.map V.str)) np
    exact k o _ _ _ g (VR.dat (Dd.lst (.inl (.inl (b.seen np))) (DdAll.ofStrs ys))) (q ys hy hs)
end
end DL

/-! More of lists, texts walked, dicts of pairs. -/
namespace DL
open PySem PySem.Spec PyProof.Rows L2

section
variable {X : Cx} {K : PySem.W.Frag}
/-- l.index(x) -/
def rIndexE (K : PySem.W.Frag) : V → List V → Hp → VK → Prop := fun x xs H Q => ∃ (a : Addr) (y : V) (d : PyData) (ds : List PyData) (j : Nat) (z : PyData), x = V.ref a ∧ xs = [y] ∧ Dd K H (V.ref a) (.list ds) ∧ Dd K H y d ∧
  SeqAt.shaped (.list ds) = true ∧ SeqAt.shaped d = true ∧ ds[j]? = some z ∧ PyData.eqv z d = true ∧ (∀ (m : Nat) (z' : PyData), m < j → ds[m]? = some z' → PyData.eqv z' d = false) ∧ Q (.int (j : Nat)) H
theorem mt_indexK (h : X.K = K) (hu : X.A.units + 65 < cLine) : MtR X "list.index" (rIndexE K) := by
  subst h
  intro pins s σ H x xs v us Q I rx rxs q
  obtain ⟨a, y, d, ds, j, z, e1, e2, hl, hy, sl, sd, r⟩ := q
  exact mt_indexD hu pins s σ H x xs v us Q I rx rxs ⟨a, y, d, ds, j, z, e1, e2, hl.dp (SeqAt.canLay_of_shaped sl), hy.dp (SeqAt.canLay_of_shaped sd), sl, sd, r⟩
/-- a method, with K given -/
theorem pe_bmK {o e : Expr} {es : List Expr} {to : TE} {t : TA} {name : Str} {apos cpos : Pos} {T id : String} {r : V → List V → Hp → VK → Prop} (hK : X.K = K) (pa : PlainAttrs T) (slot : Slot T name id) (hty : typeOf (.builtin id) = pure (.type "method_descriptor")) (hm : MtR X id r) (ho : PE X o to) (ha : PA X (e :: es) t)
    (hbase : attributeBase o name X.env (eval o X.env) = eval o X.env := by rfl)
    (hfew : ((backTo cpos (starEach (e :: es) X.env)).all (fun x => !x.1) && (backToKw cpos (keywordEach [] X.env)).all (fun x => x.1.isSome)
      && decide ((e :: es).length + ([] : List Keyword).length + (if ([] : List Keyword).isEmpty then 0 else 1) < 30)) = true := by rfl)
    (hline : (apos.endLine == cpos.line) = true := by rfl) (hs : starEach (e :: es) X.env = (false, eval e X.env) :: starEach es X.env := by rfl) (hplain : (backTo cpos (starEach es X.env)).any (·.1) = false := by rfl) :
    PE X (.Call (.Attribute o name apos) (e :: es) [] cpos) (tBM K T r to t) := by
  subst hK
  exact pe_bm pa slot hty hm ho ha hbase hfew hline hs hplain
end

section
variable {w : Wd} {ρ : List Sl} {P : Sl → Prop} {te tl ti td ty : TE} {tt : TT} {tr : TA} {ts : TS} {e : En}
theorem e_index (h : E w te ρ fun x => ∃ ds, lstD x = some ds ∧ A w tr ρ fun xs => ∃ (d : PyData) (j : Nat) (z : PyData), xs = [.dat d] ∧ SeqAt.shaped (.list ds) = true ∧ SeqAt.shaped d = true ∧ ds[j]? = some z ∧ PyData.eqv z d = true ∧
      (∀ (m : Nat) (z' : PyData), m < j → ds[m]? = some z' → PyData.eqv z' d = false) ∧ P (.dat (.int (j : Int)))) : E w (tBM w.K "list" (rIndexE w.K) te tr) ρ P := by
  intro o σ H Q ok k
  refine h o σ H _ ok ?_
  rintro o1 H1 v x g1 r1 ⟨ds, hx, q⟩
  have ok1 := ok.go g1
  obtain ⟨a, us, rfl, ha, hs⟩ := r1.lstGo ok1.toBas hx
  refine ⟨.inl ⟨rfl, us, (hs _ _ ok1.toBas.refl).1⟩, ?_⟩
  refine q o1 σ H1 _ ok1 ?_
  rintro o2 H2 vs xs g2 r2 ⟨d, j, z, rfl, s1, s2, h1, h2, h3, p⟩
  obtain ⟨l1, l2⟩ := hs _ _ g2
  cases r2 with
  | cons ra rt =>
    cases rt
    exact ⟨a, _, d, ds, j, z, rfl, rfl, Dd.lst l1 (ddAll_mono hid_le l2), dd_mono hid_le ra, s1, s2, h1, h2, h3, k o2 H2 _ _ (g1.trans g2) (VR.dat (Dd.int _)) p⟩
/-- x.extend([..] if t else []), x the def's own -/
theorem s_extIf {i : Nat} {p : Addr} {xs : List PyData} (hx : ρ[i]? = some (.own p xs)) (hz0 : xs.length ≤ sizeLine) (h : T w tt ρ fun b => if b = true then A w tr ρ fun ys => ∃ ds, undats ys = some ds ∧ ds.length ≤ sizeLine ∧ xs.length + ds.length ≤ sizeLine ∧ e.nx (ρ.set i (.own p (xs ++ ds))) else e.nx (ρ.set i (.own p xs))) :
    S w (tDrop (tBM w.K "list" rExtend (tVar i) (tCons (tIf tt (tLst tr) (tLst tNil)) tNil))) ρ e := by
  intro o σ H D ok kn kr kb kc
  rcases ok.slot i _ hx with z | ⟨v, hv, r⟩
  · cases z
  · obtain ⟨rfl, hp, n, vs, e1, ha⟩ := id r
    refine ⟨_, hv, .inl ⟨rfl, vs, .inl (.inl e1)⟩, ?_⟩
    refine h o σ H _ ok ?_
    intro o1 H1 b g1 q
    cases b with
    | false =>
      have e2 : H1 p = some (.lst vs) := (g1.keep p hp (ok.toBas.nb n)).trans e1
      refine ⟨Nat.zero_le _, fun q0 nq => ?_⟩
      have b1 := ok.toBas.go g1
      have g2 := b1.new (u := .lst []) nq
      have e3 : upd H1 q0 (.lst []) p = some (.lst vs) := by rw [upd_ne (ne_of_none e2 nq)]; exact e2
      refine ⟨p, q0, vs, [], rfl, rfl, e3, upd_same, ?_, ?_⟩
      · have := DdAll.len ha
        rw [this]
        exact hz0
      · rw [List.append_nil]
        exact kn o1 σ _ _ ((ok.go (g1.trans g2)).put hx (dpAll_mono (g1.trans g2).same xs vs ha)) q
    | true =>
      refine q o1 σ H1 _ (ok.go g1) ?_
      rintro o2 H2 us ys g2 r2 ⟨ds, hu, hl, hz, q2⟩
      have hu2 := undats_some hu
      subst hu2
      have hb := VRs.dats r2
      have e2 : H2 p = some (.lst vs) := ((g1.trans g2).keep p hp (ok.toBas.nb n)).trans e1
      refine ⟨by rw [DdAll.len hb]; exact hl, fun q0 nq => ?_⟩
      have b2 := ok.toBas.go (g1.trans g2)
      have g3 := b2.new (u := .lst us) nq
      have e3 : upd H2 q0 (.lst us) p = some (.lst vs) := by rw [upd_ne (ne_of_none e2 nq)]; exact e2
      refine ⟨p, q0, vs, us, rfl, rfl, e3, upd_same, by rw [DdAll.len ha, DdAll.len hb]; exact hz, ?_⟩
      exact kn o2 σ _ _ ((ok.go ((g1.trans g2).trans g3)).put hx (DdAll.app (dpAll_mono ((g1.trans g2).trans g3).same xs vs ha) (dpAll_mono g3.same ds us hb))) q2
/-- x, y = [..], e: x a list that will be changed -/
theorem s_parOwnA {i j : Nat} (h : A w tr ρ fun xs => ∃ ds, undats xs = some ds ∧ ds.length ≤ sizeLine ∧ E w te ρ fun y => notOwn y ∧ ∀ p, e.nx ((ρ.set i (.own p ds)).set j y)) : S w (tPar i j (tCons (tLst tr) (tCons te tNil))) ρ e := by
  intro o σ H D ok kn kr kb kc
  refine h o σ H _ ok ?_
  rintro o1 H1 vs xs g1 r1 ⟨ds, hu, hl, q⟩
  have hu2 := undats_some hu
  subst hu2
  have ha := VRs.dats r1
  refine ⟨by rw [DdAll.len ha]; exact hl, fun p np => ?_⟩
  have ok1 := ok.go g1
  have g2 := ok1.toBas.newOwn (u := .lst vs) np
  have ok2 := ok1.go g2
  have n0 : ¬ w.own0 p := fun z => ok1.hn p (ok1.sub p z) np
  refine q _ σ _ _ ok2 ?_
  rintro o3 H3 u y g3 r3 ⟨n, q⟩
  have keep : H3 p = some (.lst vs) := (g3.keep p (.inr rfl) (ok2.toBas.nb n0)).trans upd_same
  refine ⟨_, _, rfl, kn o3 _ H3 _ (((ok2.go g3).set i (x := .own p ds) ⟨rfl, g3.sub p (.inr rfl), n0, vs, keep, dpAll_mono (g2.same.trans g3.same) ds vs ha⟩ ?_).setD j r3 n) (q p)⟩
  intro p' e' m y' q' nm em a'
  cases e'
  intro z
  subst z
  exact ok1.hn _ (ok1.adr em a') np
theorem dd_rg {K : PySem.W.Frag} {H : Hp} (n : Int) : DdAll K H (rgV 0 n) ((List.range n.toNat).map fun (i : Nat) => PyData.int (i : Int)) := by
  unfold rgV
  rw [Int.sub_zero]
  generalize n.toNat = m
  induction List.range m with
  | nil => exact .nil
  | cons x xs ih =>
    have e : V.int (0 + (x : Int)) = V.int (x : Int) := by rw [Int.zero_add]
    rw [List.map_cons, List.map_cons, e]
    exact .cons (.int _) ih
/-- tuple(range(n)) -/
def tTupRgP (te : TE) : TE := fun σ H Q => te σ H fun x H1 => ∃ n : Int, x = .int n ∧ RgOk 0 n ∧ ∀ (p : Addr) (o : Obj), H1 p = none → o.dict = none → Q (.ref p) (upd H1 p (.frz o (.tup (rgV 0 n))))
theorem pe_tupRgP {X : Cx} {e1 : Expr} {p pos p2 pos2 : Pos} (hc : X.calm = true) (hg : Gl X "tuple") (hm : X.mg "tuple" = none) (hg2 : Gl X "range") (hm2 : X.mg "range" = none) {ta : TE} (ha : PE X e1 ta)
    (n1 : starEach [e1] X.env = (false, eval e1 X.env) :: starEach [] X.env := by rfl)
    (n2 : starEach [Expr.Call (.Name "range" p2) [e1] [] pos2] X.env = (false, eval (Expr.Call (.Name "range" p2) [e1] [] pos2) X.env) :: starEach [] X.env := by rfl) :
    PE X (.Call (.Name "tuple" p) [.Call (.Name "range" p2) [e1] [] pos2] [] pos) (tTupRgP ta) := by
  refine ⟨fun pins s σ H Q I h => ?_⟩
  have he := prg_1 (pos := pos2) (p := p2) hg2 hm2 ha n1
  have h2 := he pins s σ H (fun a b H1 => RgOk a b ∧ ∀ (p : Addr) (o : Obj), H1 p = none → o.dict = none → Q (.ref p) (upd H1 p (.frz o (.tup (rgV a b))))) I h
  refine Call_ (ld_blt I hg hm boot_tuple (PyProof.Rows.callWith_type1 (args_cons (thn h2 ?_) n2) n2))
  rintro x s1 ⟨r, a, b, t, u, v, H1, ex, hr, I1, ok, q⟩
  subst ex
  refine args_nil ?_
  have c1 := small_one ok.1 ok.2.1 ok.2.2.1 ok.2.2.2.1
  refine call_tuple_range (I1.ok.hd hc) hr c1 (rangeSize_nat a b) ok.2.2.2.2 fun h' tk acc hk hi => ?_
  have I2 : Inv X pins σ H1 { s1 with heap := h', toks := tk } := I1.kept hk
  have len : (rgV a b).length ≤ sizeLine := by
    have := ok.2.2.2.2
    rw [rgV_length, sizeLine_eq]
    omega
  exact tup_new (s := { s1 with heap := h', toks := tk }) (us := acc.toList) I2 rfl rfl (by rw [Array.toArray_toList]) (vals_rg hi) len q
theorem e_tupRg (h : E w te ρ fun x => ∃ n : Int, x = .dat (.int n) ∧ 0 ≤ n ∧ n ≤ 16777216 ∧ P (.dat (.tuple ((List.range n.toNat).map fun (i : Nat) => PyData.int (i : Int))))) : E w (tTupRgP te) ρ P := by
  intro o σ H Q ok k
  refine h o σ H _ ok ?_
  rintro o1 H1 v x g1 r1 ⟨n, rfl, n0, n1, q⟩
  cases r1
  refine ⟨n, rfl, RgOk.of_le (by decide) n1 (by decide) n0, fun p ob np nd => ?_⟩
  have b1 := ok.toBas.go g1
  have g2 := b1.new (u := .frz ob (.tup (rgV 0 n))) np
  exact k o1 _ _ _ (g1.trans g2) (VR.dat (Dd.tup (b1.seenP np nd) (dd_rg n))) q
theorem e_lstRg (h : E w te ρ fun x => ∃ n : Int, x = .dat (.int n) ∧ 0 ≤ n ∧ n ≤ 16777216 ∧ P (.dat (.list ((List.range n.toNat).map fun (i : Nat) => PyData.int (i : Int))))) : E w (tLstRg (tRg1 te)) ρ P := by
  intro o σ H Q ok k
  refine h o σ H _ ok ?_
  rintro o1 H1 v x g1 r1 ⟨n, rfl, n0, n1, q⟩
  cases r1
  refine ⟨n, rfl, RgOk.of_le (by decide) n1 (by decide) n0, fun p np => ?_⟩
  have b1 := ok.toBas.go g1
  have g2 := b1.new (u := .lst (rgV 0 n)) np
  exact k o1 _ _ _ (g1.trans g2) (VR.dat (Dd.lst (.inl (.inl (b1.seen np))) (dd_rg n))) q
end

/-! ### dicts of pairs with text keys -/
section
variable {X : Cx} {K : PySem.W.Frag}
/-- dict(xs), of a list or a tuple of pairs -/
def rDictP (K : PySem.W.Frag) : List V → Hp → VK → Prop := fun xs H Q => ∃ (a : Addr) (ps : List Addr) (kvs : List (Key × V)), xs = [.ref a] ∧ (SqL K H a (ps.map V.ref) ∨ SqP H a (ps.map V.ref)) ∧ Paired (fun p kv => SqT K H p [kV kv.1, kv.2]) ps kvs ∧
    ∀ p, H p = none → Q (.ref p) (upd H p (.dK (mergeK [] kvs)))
theorem prs_of {pins : List (Addr × Obj)} {σ : L2.St} {H : Hp} {s : Shared} (I : Inv X pins σ H s) {ps : List Addr} {kvs : List (Key × V)} (h : Paired (fun p kv => SqT X.K H p [kV kv.1, kv.2]) ps kvs) :
    ∃ (prs : List (Key × Value)) (vs : List (Value × Value)), KV kvs prs ∧ prs.length = ps.length ∧ vs.length = ps.length ∧
      ∀ (j : Nat) (k v : Value), vs[j]? = some (k, v) → ∃ (b : Addr) (key : Key), ps[j]? = some b ∧ prs[j]? = some (key, v) ∧ IsTup s.heap b #[k, v] ∧ (mixKind X.prog X.w).is key k = true := by
  induction h with
  | nil => exact ⟨[], [], .nil, rfl, rfl, fun j k v e => by simp at e⟩
  | cons h t ih =>
    rename_i p kv ps kvs
    obtain ⟨prs, vs, r, l1, l2, hp⟩ := ih
    obtain ⟨its, rv, ht, hz⟩ := I.tuple h
    obtain ⟨u, y, e, ru, ry⟩ := vals2 rv
    subst e
    refine ⟨(kv.1, y) :: prs, (u, y) :: vs, .cons ⟨rfl, ry⟩ r, by rw [List.length_cons, l1]; rfl, by rw [List.length_cons, l2]; rfl, fun j k v e => ?_⟩
    cases j with
    | zero =>
      have e' : (u, y) = (k, v) := Option.some.inj e
      cases e'
      exact ⟨p, kv.1, rfl, rfl, ht, kV_is ru⟩
    | succ j =>
      have e' : vs[j]? = some (k, v) := e
      exact hp j k v e'
theorem call_dictPK (hK : X.K = K) (hcalm : X.calm = true) : CallR X (.type "dict") (rDictP K) := by
  subst hK
  intro pins s σ H xs us Q I r q
  obtain ⟨a, ps, kvs, ex, hq, hp, q⟩ := q
  rcases hq with hq | hq
  · exact call_dictP hcalm pins s σ H xs us Q I r ⟨a, ps, kvs, ex, hq, hp, q⟩
  · subst ex
    obtain ⟨u, eu, rx⟩ := vals1 r
    subst eu
    cases rx
    obtain ⟨o, e, nd⟩ := hq
    obtain ⟨ho, hz, its, rv, o', ho', hc, n, hdat⟩ := I.hok a _ e
    rw [ho] at ho'
    cases ho'
    have ei := refs_at rv
    subst ei
    rw [List.length_map] at hz
    obtain ⟨prs, vs, rel, l1, l2, hpr⟩ := prs_of I hp
    have lk : kvs.length = ps.length := rel.length.trans l1
    refine PySem.call_dict_pairs (knd := mixKind X.prog X.w) (kvs := prs) (PairArg.tuple a (ps.map Value.ref).toArray (fun j => ps.getD j 0) vs) (I.ok.hd hcalm) ⟨⟨o, n, ho, hc, nd, hdat⟩, ?_, ?_⟩ ⟨by omega, ?_⟩ (by omega) ?_
    · rw [List.size_toArray, List.length_map, l2]
    · intro j k v ev
      obtain ⟨b, key, e1, e2, e3, e4⟩ := hpr j k v ev
      have eb : ps.getD j 0 = b := by rw [List.getD_eq_getElem?_getD, e1]; rfl
      refine ⟨?_, .inl ?_⟩
      · show (ps.map Value.ref).toArray[j]? = some (.ref (ps.getD j 0))
        rw [List.getElem?_toArray, List.getElem?_map, e1, eb]
        rfl
      · show PySem.Heap.IsTuple _ (ps.getD j 0) _
        rw [eb]
        exact e3
    · intro j k v ev
      obtain ⟨b, key, e1, e2, e3, e4⟩ := hpr j k v ev
      exact ⟨key, e2, e4⟩
    · intro h' tk hd' k
      have hm : (s.heap.objs.size == sysModules) = false := beq_eq_false_iff_ne.mpr (Nat.ne_of_gt I.big)
      have hlen : (mergeK [] kvs).length ≤ sizeLine := Nat.le_trans (length_mergeK kvs []) (by rw [List.length_nil]; omega)
      have kp : ∀ b ob, s.heap.get? b = some ob → h'.get? b = some ob := fun b ob z => k b ob (fun z => nomatch z) z
      have ok : ObjOk X.prog X.w (upd H s.heap.objs.size (.dK (mergeK [] kvs))) h' s.heap.objs.size (.dK (mergeK [] kvs)) := ⟨hlen, hm, merged [] prs, KV.merge rel .nil, hd'⟩
      refine ⟨V.ref s.heap.objs.size, upd H s.heap.objs.size (.dK (mergeK [] kvs)), ?_, by rfl, q s.heap.objs.size (I.hok.fresh (Nat.le_refl _))⟩
      exact I.laid (t' := tk) kp (Nat.le_refl _) ok
end
/-- pairs of a text and data -/
abbrev Sp2 := List (Str × PyData)
def spD (ps : Sp2) : PyData := .dict (ps.map fun p => (.str p.1, p.2))
def lukS (ps : Sp2) (k : Str) : Option PyData := (ps.find? fun p => decide (p.1 = k)).map (·.2)
theorem prs_dd {K : PySem.W.Frag} {H : Hp} : ∀ {ps : Sp2} {vs : List V}, DdAll K H vs (ps.map fun p => PyData.tuple [.str p.1, p.2]) →
    ∃ (as : List Addr) (kvs : List (Key × V)), vs = as.map V.ref ∧ Paired (fun a kv => SqT K H a [kV kv.1, kv.2]) as kvs ∧ kvs.map (·.1) = ps.map (fun p => (Sum.inr p.1 : Key)) ∧ DdKv K H kvs (ps.map fun p => (.str p.1, p.2)) := by
  intro ps
  induction ps with
  | nil =>
    intro vs h
    cases h
    exact ⟨[], [], rfl, .nil, rfl, .nil⟩
  | cons p ps ih =>
    intro vs h
    rw [List.map_cons] at h
    cases h with
    | cons h1 h2 =>
      obtain ⟨as, kvs, rfl, hp, hk, hd⟩ := ih h2
      cases h1 with
      | tup hs ha =>
        rename_i a xs
        cases ha with
        | cons e1 t =>
          cases t with
          | cons e2 t =>
            cases t
            rename_i v
            cases e1
            refine ⟨a :: as, (.inr p.1, v) :: kvs, rfl, .cons hs.t hp, ?_, .cons (k := .inr p.1) e2 hd⟩
            rw [List.map_cons, List.map_cons, hk]
theorem paired_go {α β : Type} {F G : α → β → Prop} (h : ∀ a b, F a b → G a b) {xs : List α} {ys : List β} (p : Paired F xs ys) : Paired G xs ys := by
  induction p with
  | nil => exact .nil
  | cons a _ ih => exact .cons (h _ _ a) ih
theorem valV_out {kvs : List (Key × V)} {k : Key} (h : ¬ k ∈ kvs.map (·.1)) : valV kvs k = none := by
  induction kvs with
  | nil => rfl
  | cons p r ih =>
    rw [List.map_cons, List.mem_cons] at h
    rw [valV_neg fun z => h (.inl z.symm)]
    exact ih fun z => h (.inr z)
theorem merge_new : ∀ {more acc : List (Key × V)}, ((acc ++ more).map (·.1)).Nodup → mergeK acc more = acc ++ more := by
  intro more
  induction more with
  | nil =>
    intro acc _
    rw [List.append_nil]
    rfl
  | cons p r ih =>
    intro acc h
    have e : acc ++ p :: r = (acc ++ [p]) ++ r := by simp
    have n : ¬ p.1 ∈ acc.map (·.1) := by
      rw [List.map_append, List.map_cons, List.nodup_append] at h
      exact fun z => h.2.2 _ z _ (List.mem_cons_self ..) rfl
    show mergeK (putK acc p.1 p.2) r = _
    rw [putK_new p.2 (valV_out n), e]
    rw [e] at h
    exact ih h
theorem lukS_dd {K : PySem.W.Frag} {H : Hp} {k : Str} {d : PyData} : ∀ {ps : Sp2} {kvs : List (Key × V)}, DdKv K H kvs (ps.map fun p => (.str p.1, p.2)) → lukS ps k = some d → ∃ v, valV kvs (.inr k) = some v ∧ Dd K H v d := by
  intro ps
  induction ps with
  | nil =>
    intro kvs h e
    cases e
  | cons p ps ih =>
    intro kvs h e
    rw [List.map_cons] at h
    generalize hq : (PyData.str p.1, p.2) = q at h
    cases h with
    | cons h1 h2 =>
      rename_i j v d' kvs
      cases j with
      | inl i => cases hq
      | inr z =>
        cases hq
        by_cases hc : p.1 = k
        · refine ⟨v, valV_pos (by rw [hc]), ?_⟩
          unfold lukS at e
          rw [List.find?_cons, decide_eq_true hc] at e
          cases e
          exact h1
        · unfold lukS at e
          rw [List.find?_cons, decide_eq_false hc] at e
          obtain ⟨u, e1, e2⟩ := ih h2 e
          exact ⟨u, (valV_neg fun z => hc (Sum.inr.inj z)).trans e1, e2⟩
section
variable {w : Wd} {ρ : List Sl} {P : Sl → Prop} {te tl ti td ty : TE} {tt : TT} {tr : TA} {ts : TS} {e : En}
/-- dict(x) -/
theorem cl_dictS : Cl w (rDictP w.K) (fun xs P => ∃ (c : PyData) (ps : Sp2), xs = [.dat c] ∧ seqD (.dat c) = some (ps.map fun p => PyData.tuple [.str p.1, p.2]) ∧ (ps.map (·.1)).Nodup ∧ P (.dat (spD ps))) := by
  rintro o H vs xs P Q b r ⟨c, ps, rfl, hx, nd, q⟩ k
  cases r with
  | cons r t =>
    cases t
    have fin : ∀ a us, DdAll w.K (hid H o) us (ps.map fun p => PyData.tuple [.str p.1, p.2]) → (∀ as : List Addr, us = as.map V.ref → SqL w.K H a (as.map V.ref) ∨ SqP H a (as.map V.ref)) → rDictP w.K [V.ref a] H Q := by
      intro a us ha hs
      obtain ⟨as, kvs, e1, hp, hk, hd⟩ := prs_dd ha
      have nk : ((([] : List (Key × V)) ++ kvs).map (·.1)).Nodup := by
        rw [List.nil_append, hk]
        have e2 : ps.map (fun p => (Sum.inr p.1 : Key)) = (ps.map fun p => p.1).map (fun z => (Sum.inr z : Key)) := by rw [List.map_map]; rfl
        rw [e2]
        exact List.Pairwise.map _ (fun x y z u => z (Sum.inr.inj u)) nd
      refine ⟨a, as, kvs, rfl, hs as e1, ?_, fun p np => ?_⟩
      · exact paired_go (fun _ _ z => sqT_mono hid_le z) hp
      · rw [merge_new nk, List.nil_append]
        have g := b.new (u := .dK kvs) np
        exact k o _ _ _ g (VR.dat (Dd.dic (.inl (b.seen np)) (ddKv_mono' g.same kvs _ hd))) q
    cases c with
    | list ds =>
      cases hx
      cases r with
      | lst hs ha => exact fin _ _ ha fun as e => .inl (by rw [← e]; exact hid_le.seq hs)
    | tuple ds =>
      cases hx
      cases r with
      | tup hs ha => exact fin _ _ ha fun as e => .inr (by rw [← e]; exact hs.mono hid_le)
    | none => cases hx
    | bool _ => cases hx
    | int _ => cases hx
    | str _ => cases hx
    | dict _ => cases hx
/-- d[k], k a text -/
theorem e_dgetS (h : E w td ρ fun x => E w ty ρ fun y => ∃ (k : Str) (ps : Sp2) (t : PyData), y = .dat (.str k) ∧ x = .dat (spD ps) ∧ lukS ps k = some t ∧ P (.dat t)) : E w (tDGet td ty) ρ P := by
  intro o σ H Q ok k
  refine h o σ H _ ok ?_
  intro o1 H1 v x g1 r1 q1
  refine q1 o1 σ H1 _ (ok.go g1) ?_
  rintro o2 H2 u y g2 r2 ⟨i, ps, t, rfl, rfl, e, q⟩
  cases r2
  have r3 := r1.go (ok.go g1).toBas g2
  cases r3 with
  | dic hr hd =>
    rename_i a kvs
    obtain ⟨z, e1, e2⟩ := lukS_dd hd e
    exact ⟨a, z, rfl, .inl ⟨kvs, .inr i, rd_mono hid_le hr, rfl, e1.symm⟩, k o2 H2 _ _ (g1.trans g2) (VR.dat e2) q⟩
theorem walk_str {x : Str} : Walk (Its x) x.cps.size (fun _ => True) (fun i H v H' => H' = H ∧ ∃ c, x.cps[i]? = some c ∧ v = .str ⟨#[c]⟩) :=
  ⟨fun i H hi _ => hi, fun H _ => Nat.le_refl _, fun i H v H' _ _ y => y⟩
/-- for x in a text -/
theorem s_forC {j : Nat} (h : E w te ρ fun x => ∃ z : Str, x = .dat (.str z) ∧ ∃ I : Nat → List Sl → Prop, I 0 ρ ∧
      (∀ (k : Nat) (c : Nat) (ρ' : List Sl), z.cps[k]? = some c → I k ρ' → S w ts (ρ'.set j (.dat (.str ⟨#[c]⟩))) { e with nx := I (k + 1), ct := I (k + 1), bk := e.nx }) ∧ ∀ ρ', I z.cps.size ρ' → e.nx ρ') :
    S w (tFor (iStr te) (gName j) ts) ρ e := by
  intro o σ H D ok kn kr kb kc
  refine h o σ H _ ok ?_
  rintro o1 H1 v x g1 r1 ⟨z, rfl, I, h0, hs, hd⟩
  cases r1
  refine ⟨z, rfl, ?_⟩
  refine for_it walk_str (fun k σ' H' => ∃ o' ρ', Ok w o' σ' H' ρ' ∧ I k ρ') ⟨o1, ρ, ok.go g1, h0⟩ (fun _ _ _ _ _ => trivial) ?_ ?_
  · rintro k y σ2 H2 H3 hk ⟨o2, ρ2, ok2, i2⟩ ⟨rfl, c, hc, rfl⟩
    exact hs k c ρ2 hc i2 o2 _ _ _ (ok2.setD j (x := .dat (.str ⟨#[c]⟩)) (Dd.str _) trivial) (fun o' σ' H' ρ' a b => ⟨o', ρ', a, b⟩) kr (fun o' σ' H' ρ' a b => kn o' σ' H' ρ' a b) (fun o' σ' H' ρ' a b => ⟨o', ρ', a, b⟩)
  · rintro σ' H' ⟨o', ρ', k1, i1⟩
    exact kn o' σ' H' ρ' k1 (hd ρ' i1)
/-- for (x, y), (z, u) in zip(a, b) -/
theorem s_forZ2 {i1 j1 i2 j2 m m1 m2 : Nat} (hm : m = 2) (hm1 : m1 = 2) (hm2 : m2 = 2) (h : A w tr ρ fun xs => ∃ c1 c2 ds es, xs = [.dat c1, .dat c2] ∧ seqD (.dat c1) = some ds ∧ seqD (.dat c2) = some es ∧
      (∀ d ∈ ds, ∃ d1 d2, d = .tuple [d1, d2]) ∧ (∀ d ∈ es, ∃ d1 d2, d = .tuple [d1, d2]) ∧ ∃ I : Nat → List Sl → Prop, I 0 ρ ∧
      (∀ (k : Nat) (a1 b1 a2 b2 : PyData) (ρ' : List Sl), ds[k]? = some (.tuple [a1, b1]) → es[k]? = some (.tuple [a2, b2]) → I k ρ' → Turns w ts e I k ((((ρ'.set i1 (.dat a1)).set j1 (.dat b1)).set i2 (.dat a2)).set j2 (.dat b2))) ∧
      ∀ ρ', I (min ds.length es.length) ρ' → e.nx ρ') :
    S w (tFor (iZipB w.K tr) (gTup w.K m (gCons (gTup w.K m1 (gCons (gName i1) (gCons (gName j1) gNil))) (gCons (gTup w.K m2 (gCons (gName i2) (gCons (gName j2) gNil))) gNil))) ts) ρ e := by
  subst hm hm1 hm2
  intro o σ H D ok kn kr kb kc
  refine h o σ H _ ok ?_
  rintro o1 H1 us xs g1 r1 ⟨c1, c2, ds, es, rfl, hx, hy, f1, f2, I, h0, hs, hd⟩
  have ok1 := ok.go g1
  cases r1 with
  | cons ra rt =>
    cases rt with
    | cons rb rt =>
      cases rt
      obtain ⟨b1, a, vs, rfl, ha, hq⟩ := VR.seqB ra hx
      obtain ⟨b2, b, ws, rfl, hb, hr⟩ := VR.seqB rb hy
      have l1 := DdAll.len ha
      have l2 := DdAll.len hb
      have bs1 := ok1.toBas
      have okA := ok_in bs1 ok1 (Same.refl _)
      refine ⟨b1, b2, a, b, vs, ws, rfl, hq.mono hid_le, hr.mono hid_le, ?_⟩
      refine for_it walk_zipB (fun k σ' H' => ∃ o' ρ', Ok (wAt w o1 H1) o' σ' H' ρ' ∧ I k ρ') ⟨o1, ρ, okA, h0⟩
        (fun k σ' H' _ ⟨o', ρ', k1, _⟩ => ⟨((hq.mono (ok_out bs1 k1).2)).mono hid_le, ((hr.mono (ok_out bs1 k1).2)).mono hid_le⟩) ?_ ?_
      · rintro k y σ2 H2 H3 hk ⟨o2, ρ2, ok2, iv2⟩ ⟨p, u1, u2, rfl, np, rfl, e1, e2⟩
        obtain ⟨_, s2⟩ := ok_out bs1 ok2
        obtain ⟨d1, hd1, rd1⟩ := DdAll.gets (ddAll_mono s2 ha) e1
        obtain ⟨d2, hd2, rd2⟩ := DdAll.gets (ddAll_mono s2 hb) e2
        obtain ⟨x1, x2, rfl⟩ := f1 d1 (List.mem_of_getElem? hd1)
        obtain ⟨y1, y2, rfl⟩ := f2 d2 (List.mem_of_getElem? hd2)
        have g := ok2.toBas.new (u := .tup [u1, u2]) np
        have t1 := dd_mono g.same rd1
        have t2 := dd_mono g.same rd2
        cases t1 with
        | tup q1 p1 =>
          cases p1 with
          | cons m1 p1 =>
            cases p1 with
            | cons n1 p1 =>
              cases p1
              cases t2 with
              | tup q2 p2 =>
                cases p2 with
                | cons m2 p2 =>
                  cases p2 with
                  | cons n2 p2 =>
                    cases p2
                    refine ⟨p, _, rfl, .inl (.inl upd_same), rfl, _, _, rfl, ?_⟩
                    refine ⟨_, _, rfl, sqT_mono hid_le q1.t, rfl, _, _, rfl, _, _, rfl, rfl, ?_⟩
                    refine ⟨_, _, rfl, ?_⟩
                    refine ⟨_, _, rfl, sqT_mono hid_le q2.t, rfl, _, _, rfl, _, _, rfl, rfl, ?_⟩
                    refine ⟨rfl, ?_⟩
                    have ok3 := ((((ok2.go g).setD i1 (x := .dat _) m1 trivial).setD j1 (x := .dat _) n1 trivial).setD i2 (x := .dat _) m2 trivial).setD j2 (x := .dat _) n2 trivial
                    refine hs k _ _ _ _ ρ2 hd1 hd2 iv2 (wAt w o1 H1).H0 o2 _ _ _ ok3 (fun o' σ' H' ρ' a1 a2 => ⟨o', ρ', a1, a2⟩) ?_ ?_ (fun o' σ' H' ρ' a1 a2 => ⟨o', ρ', a1, a2⟩)
                    · intro o' H' v' d' a1 a2 a3
                      exact kr o' H' v' d' (bas_out bs1 a1).1 a2 a3
                    · intro o' σ' H' ρ' a1 a2
                      exact kn o' σ' H' ρ' (ok_out bs1 a1).1 a2
      · rintro σ' H' ⟨o', ρ', k1, iv1⟩
        rw [l1, l2] at iv1
        exact kn o' σ' H' ρ' (ok_out bs1 k1).1 (hd ρ' iv1)
end
end DL

/-! tuple(zip(a, b)) of two lists. -/
namespace DL
open PySem PySem.Spec PyProof.Rows L2

/-- a zip of two lists, i turns on; S is a list elsewhere -/
def ZAt (z TI TO i1 i2 l1 l2 S : Addr) (xs ys : Array Value) (i : Nat) (h : Heap) : Prop :=
  IsPair h TI (.ref i1) (.ref i2) ∧ h.IsListIter i1 l1 i ∧ h.IsListIter i2 l2 i ∧ h.IsList l1 xs ∧ h.IsList l2 ys ∧
  ((IsZip h z TI TO .none ∧ ∃ a b, IsPair h TO a b) ∨ ∃ (T : Addr) (oT : Obj) (f : Bool), IsZipHeld h z TI TO T f ∧ h.get? T = some oT ∧ T ≠ S ∧ T ≠ z ∧ T ≠ i1 ∧ T ≠ i2)
/-- the pairs so far, one behind the other -/
def Got (N0 : Nat) (xs ys acc : Array Value) (i : Nat) (h : Heap) : Prop :=
  acc.size = i ∧ ∀ j, j < i → acc[j]? = some (.ref (N0 + j)) ∧ ∀ x y, xs[j]? = some x → ys[j]? = some y → IsPair h (N0 + j) x y
theorem ne_lo {a : Addr} {N : Nat} (j : Nat) (h : a < N) : N + j ≠ a := Nat.ne_of_gt (Nat.lt_of_lt_of_le h (Nat.le_add_right N j))
theorem lt_lo {a : Addr} {N : Nat} (j : Nat) (h : a < N) : a < N + j := Nat.lt_of_lt_of_le h (Nat.le_add_right N j)
abbrev lstO (acc : Array Value) (c : Nat) : Obj := { cls := .type "list", dict := none, data := .seq acc c, slots := #[] }
section
variable {prog : Program} {w : World} {A : Around} {E : Value → Shared → Prop} {s : Shared} {z TI TO i1 i2 l1 l2 S : Addr} {xs ys : Array Value}
theorem zat_item {i : Nat} {x y : Value} {Q : Option Value → Shared → Prop} (D : ZipApart z TI TO i1 i2 l1 l2) (st : ZAt z TI TO i1 i2 l1 l2 S xs ys i s.heap) (hx : xs[i]? = some x) (hy : ys[i]? = some y)
    (lz : z < s.heap.objs.size) (lS : S < s.heap.objs.size) (m1 : i1 < s.heap.objs.size) (m2 : i2 < s.heap.objs.size)
    (hQ : ∀ h', ZAt z TI TO i1 i2 l1 l2 S xs ys (i + 1) h' → IsPair h' s.heap.objs.size x y → h'.objs.size = s.heap.objs.size + 1 →
      (∀ c o, c ≠ z → c ≠ TO → c ≠ i1 → c ≠ i2 → s.heap.get? c = some o → h'.get? c = some o) → Q (some (.ref s.heap.objs.size)) { s with heap := h' }) :
    wpAny (model prog w) A (pyNext (.ref z)) Q E s := by
  obtain ⟨hTI, h1, h2, hl1, hl2, ⟨hz, a, b, hTO⟩ | ⟨T, oT, f, hz, hT, n1, n2, n3, n4⟩⟩ := st
  · refine wpAny_pyNext_zip_item D hz hTI hTO h1 h2 hl1 hl2 hx hy fun h' e1 e2 e3 e4 e5 e6 e7 => hQ h' ⟨?_, e3, e4, ?_, ?_, .inr ⟨s.heap.objs.size, _, false, e1, e5, ?_, ?_, ?_, ?_⟩⟩ e5 e6 e7
    · exact e7 _ _ D.TIz D.TITO D.TIi1 D.TIi2 hTI
    · exact hl1.at fun o q => e7 _ _ D.l1z D.l1TO D.l1i1 D.l1i2 q
    · exact hl2.at fun o q => e7 _ _ D.l2z D.l2TO D.l2i1 D.l2i2 q
    · exact Nat.ne_of_gt lS
    · exact Nat.ne_of_gt lz
    · exact Nat.ne_of_gt m1
    · exact Nat.ne_of_gt m2
  · refine wpAny_pyNext_zip_item_held D hz hT hTI h1 h2 hl1 hl2 hx hy fun h' e1 e3 e4 e5 e6 e7 => hQ h' ⟨?_, e3, e4, ?_, ?_, .inr ⟨T, oT, true, e1, ?_, n1, n2, n3, n4⟩⟩ e5 e6 fun c o c1 _ c3 c4 q => e7 c o c1 c3 c4 q
    · exact e7 _ _ D.TIz D.TIi1 D.TIi2 hTI
    · exact hl1.at fun o q => e7 _ _ D.l1z D.l1i1 D.l1i2 q
    · exact hl2.at fun o q => e7 _ _ D.l2z D.l2i1 D.l2i2 q
    · exact e7 _ _ n2 n3 n4 hT
theorem zat_end {i : Nat} {Q : Option Value → Shared → Prop} (hh : A.handled = none) (D : ZipApart z TI TO i1 i2 l1 l2) (st : ZAt z TI TO i1 i2 l1 l2 S xs ys i s.heap) (he : xs[i]? = none ∨ ys[i]? = none)
    (hQ : ∀ h', (∀ c o, c ≠ z → c ≠ TO → c ≠ i1 → c ≠ i2 → s.heap.get? c = some o → h'.get? c = some o) → Q none { s with heap := h' }) : wpAny (model prog w) A (pyNext (.ref z)) Q E s := by
  obtain ⟨hTI, h1, h2, hl1, hl2, ⟨hz, a, b, hTO⟩ | ⟨T, oT, f, hz, hT, n1, n2, n3, n4⟩⟩ := st
  · exact wpAny_pyNext_zip_end hh D hz hTI hTO h1 h2 hl1 hl2 he hQ
  · exact wpAny_pyNext_zip_end_held hh D hz hT hTI h1 h2 hl1 hl2 he fun h' k => hQ h' fun c o c1 _ c3 c4 q => k c o c1 c3 c4 q
theorem zat_but {i : Nat} {h h' : Heap} (st : ZAt z TI TO i1 i2 l1 l2 S xs ys i h) (d1 : TI ≠ S) (d2 : i1 ≠ S) (d3 : i2 ≠ S) (d4 : l1 ≠ S) (d5 : l2 ≠ S) (d6 : z ≠ S) (d7 : TO ≠ S) (k : ∀ b o, b ≠ S → h.get? b = some o → h'.get? b = some o) : ZAt z TI TO i1 i2 l1 l2 S xs ys i h' := by
  obtain ⟨hTI, h1, h2, hl1, hl2, st⟩ := st
  refine ⟨k _ _ d1 hTI, h1.at fun o q => k _ _ d2 q, h2.at fun o q => k _ _ d3 q, hl1.at fun o q => k _ _ d4 q, hl2.at fun o q => k _ _ d5 q, ?_⟩
  rcases st with ⟨hz, a, b, hTO⟩ | ⟨T, oT, f, hz, hT, n1, n⟩
  · exact .inl ⟨k _ _ d6 hz, a, b, k _ _ d7 hTO⟩
  · exact .inr ⟨T, oT, f, k _ _ d6 hz, k _ _ n1 hT, n1, n⟩
theorem ext_zip {R : Result → Shared → Prop} {n N0 : Nat} (hh : A.handled = none) (D : ZipApart z TI TO i1 i2 l1 l2) (res : Value) (d1 : TI ≠ S) (d2 : i1 ≠ S) (d3 : i2 ≠ S) (d4 : l1 ≠ S) (d5 : l2 ≠ S) (d6 : z ≠ S) (d7 : TO ≠ S)
    (hn : n = min xs.size ys.size) (hs : n ≤ sizeLine) (b1 : z < N0) (b2 : TO < N0) (b3 : i1 < N0) (b4 : i2 < N0) (b5 : S < N0) :
    ∀ (k i : Nat) (s : Shared) (acc : Array Value) (c : Nat), n - i = k → i ≤ n → ZAt z TI TO i1 i2 l1 l2 S xs ys i s.heap → s.heap.objs.size = N0 + i → s.heap.get? S = some (lstO acc c) → Got N0 xs ys acc i s.heap →
      (∀ h' acc' c', (∀ b o, b ≠ S → b ≠ z → b ≠ TO → b ≠ i1 → b ≠ i2 → s.heap.get? b = some o → h'.get? b = some o) → h'.get? S = some (lstO acc' c') → Got N0 xs ys acc' n h' → R (.ok (.ret res)) { s with heap := h' }) →
      codeAny (model prog w) A (.builtin "list.extend.loop" ⟨[.ref S, .ref z, res], []⟩) R s := by
  have hh1 : A.in1.handled = none := hh
  intro k
  induction k with
  | zero =>
    intro i s acc c hk hi st sz hS got hR
    have hin : i = n := by omega
    refine codeAny_builtin F.entry_extend_loop ?_
    rw [Around.under_plainId F.plain_extend_loop _]
    show wpAny _ A.in1 (pyNext (.ref z) >>= _) _ _ s
    refine wpAny_bind (zat_end hh1 D st ?_ fun h' kp => wpAny_pure ?_)
    · by_cases hx : xs.size ≤ i
      · exact .inl (Array.getElem?_eq_none hx)
      · exact .inr (Array.getElem?_eq_none (by omega))
    · refine hR h' acc c (fun b o _ c1 c2 c3 c4 q => kp b o c1 c2 c3 c4 q) (kp _ _ d6.symm d7.symm d2.symm d3.symm hS) ?_
      rw [← hin]
      refine ⟨got.1, fun j hj => ⟨(got.2 j hj).1, fun x y e1 e2 => kp _ _ ?_ ?_ ?_ ?_ ((got.2 j hj).2 x y e1 e2)⟩⟩
      · exact ne_lo j b1
      · exact ne_lo j b2
      · exact ne_lo j b3
      · exact ne_lo j b4
  | succ k ih =>
    intro i s acc c hk hi st sz hS got hR
    have hlt : i < n := by omega
    have hx : xs[i]? = some xs[i] := Array.getElem?_eq_getElem (by omega)
    have hy : ys[i]? = some ys[i] := Array.getElem?_eq_getElem (by omega)
    refine codeAny_builtin F.entry_extend_loop ?_
    rw [Around.under_plainId F.plain_extend_loop _]
    show wpAny _ A.in1 (pyNext (.ref z) >>= _) _ _ s
    refine wpAny_bind (zat_item D st hx hy (sz ▸ lt_lo i b1) (sz ▸ lt_lo i b5) (sz ▸ lt_lo i b3) (sz ▸ lt_lo i b4) fun h' st' hp hz' kp => ?_)
    have hS' : h'.get? S = some (lstO acc c) := kp _ _ d6.symm d7.symm d2.symm d3.symm hS
    show wpAny _ A.in1 (updateSeq S (·.push (.ref s.heap.objs.size)) >>= _) _ _ _
    refine wpAny_bind ?_
    have but := Heap.SameBut.update (h := h') (a := S) (f := Obj.mapSeq (·.push (.ref s.heap.objs.size)))
    have upd_ : ∀ b o, b ≠ S → h'.get? b = some o → (h'.update S (Obj.mapSeq (·.push (.ref s.heap.objs.size)))).get? b = some o := fun b o nb q => but.extBut b o nb q
    have sz2 : (h'.update S (Obj.mapSeq (·.push (.ref s.heap.objs.size)))).objs.size = N0 + (i + 1) := by
      rw [but.1, hz', sz]
      omega
    have got2 : Got N0 xs ys (acc.push (.ref s.heap.objs.size)) (i + 1) (h'.update S (Obj.mapSeq (·.push (.ref s.heap.objs.size)))) := by
      refine ⟨by rw [Array.size_push, got.1], fun j hj => ?_⟩
      by_cases hji : j = i
      · subst hji
        refine ⟨?_, fun x y e1 e2 => ?_⟩
        · rw [Array.getElem?_push, if_pos got.1.symm, sz]
        · rw [hx] at e1
          rw [hy] at e2
          cases e1
          cases e2
          rw [sz] at hp
          exact upd_ _ _ (ne_lo j b5) hp
      · obtain ⟨g1, g2⟩ := got.2 j (by omega)
        refine ⟨?_, fun x y e1 e2 => upd_ _ _ (ne_lo j b5) (kp _ _ (ne_lo j b1) (ne_lo j b2) (ne_lo j b3) (ne_lo j b4) (g2 x y e1 e2))⟩
        rw [Array.getElem?_push, if_neg (by rw [got.1]; exact hji)]
        exact g1
    refine wpAny_updateSeq hS' rfl (wpAny_pure ⟨plainId_quiet F.plain_extend_loop _, ?_⟩) (by rw [got.1]; omega) (by show (acc.push (.ref s.heap.objs.size)).size ≤ sizeLine + 1; rw [Array.size_push, got.1]; omega)
    refine ih (i + 1) _ _ _ (by omega) hlt (zat_but st' d1 d2 d3 d4 d5 d6 d7 upd_) sz2 (Heap.get?_update_self _ hS' rfl) got2 fun h'' acc' c' k2 e1 e2 => ?_
    exact hR h'' acc' c' (fun b o n0 n1 n2 n3 n4 q => k2 b o n0 n1 n2 n3 n4 (upd_ b o n0 (kp b o n1 n2 n3 n4 q))) e1 e2
/-- the steps between: a list grows and shrinks by one -/
theorem room_keeps {h : Heap} {S : Addr} {f g : Obj → Obj} : (∀ b o, b ≠ S → h.get? b = some o → ((h.update S f).update S g).get? b = some o) ∧ ((h.update S f).update S g).objs.size = h.objs.size := by
  have u1 := Heap.SameBut.update (h := h) (a := S) (f := f)
  have u2 := Heap.SameBut.update (h := h.update S f) (a := S) (f := g)
  exact ⟨fun b o n q => u2.extBut b o n (u1.extBut b o n q), u2.1.trans u1.1⟩
theorem zip_noLen : typeLookup (.type "zip") "__len__" = pure none := am_miss_of_fast (by decide +kernel)
theorem zip_noHint : typeLookup (.type "zip") "__length_hint__" = pure none := am_miss_of_fast (by decide +kernel)
theorem collect_zip {n : Nat} {Q : List Value → Shared → Prop} (hh : A.handled = none) (D : ZipApart z TI TO i1 i2 l1 l2) (hn : n = min xs.size ys.size) (hs : n ≤ sizeLine)
    (hz : IsZip s.heap z TI TO .none) (hTI : IsPair s.heap TI (.ref i1) (.ref i2)) (hTO : ∃ a b, IsPair s.heap TO a b) (h1 : s.heap.IsListIter i1 l1 0) (h2 : s.heap.IsListIter i2 l2 0) (hl1 : s.heap.IsList l1 xs) (hl2 : s.heap.IsList l2 ys)
    (hQ : ∀ h' acc, (∀ b o, b ≠ z → b ≠ TO → b ≠ i1 → b ≠ i2 → s.heap.get? b = some o → h'.get? b = some o) → Got (s.heap.objs.size + 1) xs ys acc n h' → Q acc.toList { s with heap := h' }) :
    wpAny (model prog w) A (collect (.ref z)) Q E s := by
  obtain ⟨aT, bT, hTO⟩ := hTO
  have lt : ∀ {b o}, s.heap.get? b = some o → b < s.heap.objs.size := fun q => Heap.lt_size q
  have c1 : i1 < s.heap.objs.size := let ⟨o, q, _⟩ := h1; lt q
  have c2 : i2 < s.heap.objs.size := let ⟨o, q, _⟩ := h2; lt q
  have c3 : l1 < s.heap.objs.size := let ⟨o, q, _⟩ := hl1; lt q
  have c4 : l2 < s.heap.objs.size := let ⟨o, q, _⟩ := hl2; lt q
  have sc {b : Addr} (q : b < s.heap.objs.size) : b < s.heap.objs.size + 1 := Nat.lt_succ_of_lt q
  unfold collect
  refine wpAny_bind (wpAny_runValue (codeAny_builtin F.entry_proto_collect ?_))
  rw [Around.under_plainId F.plain_proto_collect _]
  show wpAny _ A.in1 (newList [] >>= fun l => again (.builtin "list.__iadd__" ⟨[l, .ref z], []⟩)) _ _ s
  refine wpAny_bind (wpAny_newObj_type ?_)
  refine wpAny_pure ⟨plainId_quiet F.plain_list_iadd _, codeAny_builtin F.entry_list_iadd ?_⟩
  rw [Around.under_plainId F.plain_list_iadd _]
  generalize hp : s.heap.push { cls := .type "list", data := .seq ([] : List Value).toArray } = h0
  have k0 : ∀ b o, s.heap.get? b = some o → h0.get? b = some o := fun b o q => by rw [← hp]; exact Heap.get?_push_of_some _ q
  have z0 : h0.objs.size = s.heap.objs.size + 1 := by rw [← hp]; exact Heap.size_push ..
  have S0 : h0.get? s.heap.objs.size = some { cls := .type "list", data := .seq ([] : List Value).toArray } := by rw [← hp]; exact Heap.get?_push_size _ rfl
  have T0 : Shared.TypeIs { s with heap := h0 } (.ref z) "zip" := ⟨_, k0 _ _ hz, rfl⟩
  show wpAny _ A.in1 (Builtin.List.listExtendWith (.ref s.heap.objs.size) (.ref z) (.ref s.heap.objs.size)) _ _ _
  unfold Builtin.List.listExtendWith
  refine wpAny_bind (wpAny_typeOf T0 ?_)
  have ns : Builtin.List.listSameRef (.ref s.heap.objs.size) (.ref z) = false := by simp [Builtin.List.listSameRef, Nat.ne_of_gt (lt hz)]
  have e1 : (Value.type "zip" == Value.type "list") = false := by decide +kernel
  have e2 : (Value.type "zip" == Value.type "tuple") = false := by decide +kernel
  simp only [ns, e1, e2, Bool.or_false, Bool.false_eq_true, if_false]
  refine wpAny_bind (wpAny_pyIter_zip (k0 _ _ hz) ?_)
  refine wpAny_bind (wpAny_holding ?_)
  unfold Builtin.List.listLengthHint
  refine wpAny_bind (wpAny_specialOf T0 zip_noLen ?_)
  show wpAny _ A.in1 (specialOf (Value.ref z) (Str.ofString "__length_hint__") >>= _) _ _ _
  refine wpAny_bind (wpAny_specialOf T0 zip_noHint ?_)
  refine wpAny_pure ?_
  show wpAny _ A.in1 (rule "list.extend.makes-room" >>= fun _ => Builtin.List.listTouch (.ref s.heap.objs.size) >>= fun _ =>
    again (.builtin "list.extend.loop" ⟨[.ref s.heap.objs.size, .ref z, .ref s.heap.objs.size], []⟩)) _ _ _
  refine wpAny_bind (wpAny_rule (wpAny_bind ?_))
  show wpAny _ A.in1 (updateSeq s.heap.objs.size (·.push .none) >>= fun _ => updateSeq s.heap.objs.size (·.pop)) _ _ _
  refine wpAny_bind (wpAny_updateSeq S0 rfl ?_)
  have S1 := Heap.get?_update_self (Obj.mapSeq (·.push Value.none)) S0 rfl
  refine wpAny_updateSeq S1 rfl ?_
  have S2 := Heap.get?_update_self (Obj.mapSeq (·.pop)) S1 rfl
  obtain ⟨rk, rz⟩ := room_keeps (h := h0) (S := s.heap.objs.size) (f := Obj.mapSeq (·.push Value.none)) (g := Obj.mapSeq (·.pop))
  have kk : ∀ b o, s.heap.get? b = some o → ((h0.update s.heap.objs.size (Obj.mapSeq (·.push Value.none))).update s.heap.objs.size (Obj.mapSeq (·.pop))).get? b = some o := fun b o q => rk b o (Nat.ne_of_lt (lt q)) (k0 b o q)
  have st : ZAt z TI TO i1 i2 l1 l2 s.heap.objs.size xs ys 0 ((h0.update s.heap.objs.size (Obj.mapSeq (·.push Value.none))).update s.heap.objs.size (Obj.mapSeq (·.pop))) :=
    ⟨kk _ _ hTI, h1.at fun o q => kk _ _ q, h2.at fun o q => kk _ _ q, hl1.at fun o q => kk _ _ q, hl2.at fun o q => kk _ _ q, .inl ⟨kk _ _ hz, aT, bT, kk _ _ hTO⟩⟩
  refine wpAny_pure ⟨plainId_quiet F.plain_extend_loop _, ?_⟩
  refine ext_zip (N0 := s.heap.objs.size + 1) hh D _ (Nat.ne_of_lt (lt hTI)) (Nat.ne_of_lt c1) (Nat.ne_of_lt c2) (Nat.ne_of_lt c3) (Nat.ne_of_lt c4) (Nat.ne_of_lt (lt hz)) (Nat.ne_of_lt (lt hTO)) hn hs (sc (lt hz)) (sc (lt hTO)) (sc c1) (sc c2) (Nat.lt_succ_self _)
    n 0 { s with heap := (h0.update s.heap.objs.size (Obj.mapSeq (·.push Value.none))).update s.heap.objs.size (Obj.mapSeq (·.pop)) } _ _ rfl (Nat.zero_le _) st (rz.trans z0) S2 ⟨rfl, fun j hj => absurd hj (Nat.not_lt_zero j)⟩ fun h' acc c kp hS got => ?_
  show wpAny _ A (load s.heap.objs.size >>= _) _ _ _
  refine wpAny_bind (wpAny_load hS ?_)
  exact wpAny_pure (hQ h' acc (fun b o n1 n2 n3 n4 q => kp b o (Nat.ne_of_lt (lt q)) n1 n2 n3 n4 (kk b o q)) got)
theorem code_tuple_zip {n : Nat} {Q : Value → Shared → Prop} (hh : A.handled = none) (D : ZipApart z TI TO i1 i2 l1 l2) (hn : n = min xs.size ys.size) (hs : n ≤ sizeLine)
    (hz : IsZip s.heap z TI TO .none) (hTI : IsPair s.heap TI (.ref i1) (.ref i2)) (hTO : ∃ a b, IsPair s.heap TO a b) (h1 : s.heap.IsListIter i1 l1 0) (h2 : s.heap.IsListIter i2 l2 0) (hl1 : s.heap.IsList l1 xs) (hl2 : s.heap.IsList l2 ys)
    (hQ : ∀ h' acc, (∀ b o, b ≠ z → b ≠ TO → b ≠ i1 → b ≠ i2 → s.heap.get? b = some o → h'.get? b = some o) → Got (s.heap.objs.size + 1) xs ys acc n h' → Q (.ref h'.objs.size) { s with heap := h'.push { cls := .type "tuple", data := .seq acc } }) :
    codeAny (model prog w) A (.call (.builtin "tuple.__new__") ⟨[.type "tuple", .ref z], []⟩) (wants Q E) s := by
  refine codeAny_of_tree ?_
  show wpAny _ A.in1 (do checkBuiltinCall "tuple.__new__" ⟨[.type "tuple", .ref z], []⟩; again (.builtin "tuple.__new__" ⟨[.type "tuple", .ref z], []⟩)) _ _ s
  refine wpAny_bind (wpAny_of_eq (F.newCall_tuple_1 _) (wpAny_pure ⟨plainId_quiet F.plain_tuple_new _, codeAny_builtin F.entry_tuple_new ?_⟩))
  rw [Around.under_plainId F.plain_tuple_new _]
  have f1 := sub_tuple_self
  have f2 := init_tuple_lookup
  have f3 := madeHere_tuple
  have hT : s.TypeIs (.ref z) "zip" := ⟨_, hz, rfl⟩
  have hh1 : A.in1.handled = none := hh
  wp_walk using wpAny_typeOf hT, collect_zip (A := A.in1) hh1 D hn hs hz hTI hTO h1 h2 hl1 hl2
  intro h' acc kp got
  show wpAny _ _ (Builtin.Tuple.tupleExact acc.toList.toArray >>= fun v => ret v) _ _ _
  unfold Builtin.Tuple.tupleExact
  have e : acc.toList.toArray = acc := by simp
  refine wpAny_bind (wpAny_newObj_type ?_ (by show acc.toList.toArray.size ≤ sizeLine; rw [e, got.1]; exact hs))
  refine wpAny_pure ?_
  rw [e]
  exact hQ h' acc kp got
theorem call_tuple_zip {n : Nat} {Q : Value → Shared → Prop} (hh : A.handled = none) (D : ZipApart z TI TO i1 i2 l1 l2) (hn : n = min xs.size ys.size) (hs : n ≤ sizeLine)
    (hz : IsZip s.heap z TI TO .none) (hTI : IsPair s.heap TI (.ref i1) (.ref i2)) (hTO : ∃ a b, IsPair s.heap TO a b) (h1 : s.heap.IsListIter i1 l1 0) (h2 : s.heap.IsListIter i2 l2 0) (hl1 : s.heap.IsList l1 xs) (hl2 : s.heap.IsList l2 ys)
    (hQ : ∀ h' acc, (∀ b o, b ≠ z → b ≠ TO → b ≠ i1 → b ≠ i2 → s.heap.get? b = some o → h'.get? b = some o) → Got (s.heap.objs.size + 1) xs ys acc n h' → Q (.ref h'.objs.size) { s with heap := h'.push { cls := .type "tuple", data := .seq acc } }) :
    wpAny (model prog w) A (call (.type "tuple") [.ref z]) Q E s := by
  refine callType_codes (Q₁ := fun obj s₁ => s₁.TypeIs obj "tuple" ∧ Q obj s₁) F.called_tuple (F.typeCall_tuple_1 _) F.entry_object_init
    (code_tuple_zip (A := A.in1) hh D hn hs hz hTI hTO h1 h2 hl1 hl2 fun h' acc kp got => ⟨⟨_, Heap.get?_push_size _ rfl, rfl⟩, hQ h' acc kp got⟩) fun obj s₁ q => ?_
  exact ⟨q.1, F.args_object_init_2 obj _, object_init_meets F.called_tuple.init.lookup F.called_tuple.made (by decide) prog w A.in1 _ s₁ ⟨q.1, rfl, q.2⟩⟩
end
theorem un_grow {fs ex : List Addr} {H H2 : Hp} {h h' : Heap} (k : ∀ b u, h.get? b = some u → h'.get? b = some u) (e : Same H H2) (n : ∀ b o, H b = none → h.get? b = some o → H2 b = none) : Un fs ex H H2 h h' where
  keep := fun b u q _ _ _ => k b u q
  slot := fun b u q _ _ _ => ⟨u.slots, k b u q⟩
  free := fun b u q z _ => n b u z q
  there := fun b u q _ => ⟨u, k b u q⟩
  tups := fun b xs q => e b _ q
  frzs := fun b u xs q => e b _ q
  tbls := fun b ps q => ⟨#[], by rw [e b _ q]; simp⟩
theorem inv_grow {X : Cx} {pins : List (Addr × Obj)} {σ : L2.St} {H H2 : Hp} {s : Shared} {h' : Heap} {t' : Tok} (I : Inv X pins σ H s) (k : ∀ b u, s.heap.get? b = some u → h'.get? b = some u) (e : Same H H2) (n : ∀ b o, H b = none → s.heap.get? b = some o → H2 b = none)
    (new : ∀ b u, H b = none → H2 b = some u → ObjOk X.prog X.w H2 h' b u) : Inv X pins σ H2 { s with heap := h', toks := t' } := by
  refine I.un (un_grow k e n) fun b u q => ?_
  cases hb : H b with
  | none => exact new b u hb q
  | some v =>
    have e2 := e b v hb
    have z := Option.some.inj (e2.symm.trans q)
    subst z
    exact (I.hok b _ hb).stay (fun c o _ z => k c o z) (fun c z => e c _ z) fun c ys z => e c _ z
end DL

namespace DL
open PySem PySem.Spec PyProof.Rows L2
/-- tuple(zip(a, b)), of lists -/
def tTupZ (K : PySem.W.Frag) (t : TA) : TE := fun σ H Q => t σ H fun vs H1 => ∃ a b xs ys, vs = [.ref a, .ref b] ∧ SqL K H1 a xs ∧ SqL K H1 b ys ∧
  ∀ (p : Addr) (ts : List Addr) (H2 : Hp), Same H1 H2 → H1 p = none → SqP H2 p (ts.map V.ref) → Paired (fun t (q : V × V) => H1 t = none ∧ SqP H2 t [q.1, q.2]) ts (xs.zip ys) → Q (.ref p) H2
abbrev prO (x y : Value) : Obj := { cls := .type "tuple", data := .seq #[x, y] }
/-- the heap with the pairs at N, N + 1, .. and the tuple of them at p -/
def zipH (H : Hp) (p N n : Nat) (xs ys : List V) (us ws : Array Value) (ob : Obj) : Hp := fun b =>
  if b = p then some (.frz ob (.tup ((List.range n).map fun j => V.ref (N + j))))
  else if N ≤ b ∧ b < N + n then some (.frz (prO (us.getD (b - N) .none) (ws.getD (b - N) .none)) (.tup [xs.getD (b - N) .non, ys.getD (b - N) .non])) else H b
theorem vals_getD {xs : List V} {us : List Value} (r : Vals xs us) {j : Nat} (h : j < xs.length) : RelV (xs.getD j .non) (us.getD j .none) := by
  have hx : xs[j]? = some xs[j] := List.getElem?_eq_getElem h
  obtain ⟨u, hu, ru⟩ := r.get hx
  rw [List.getD_eq_getElem?_getD, List.getD_eq_getElem?_getD, hx, hu]
  exact ru
theorem paired_zip {α : Type} {F : α → V × V → Prop} {f : Nat → α} : ∀ (xs ys : List V) (k : Nat), (∀ j x y, xs[j]? = some x → ys[j]? = some y → F (f (k + j)) (x, y)) → Paired F ((List.range (min xs.length ys.length)).map fun j => f (k + j)) (xs.zip ys) := by
  intro xs
  induction xs with
  | nil =>
    intro ys k h
    have e : min ([] : List V).length ys.length = 0 := Nat.zero_min _
    rw [e]
    exact .nil
  | cons x xs ih =>
    intro ys k h
    cases ys with
    | nil =>
      have e : min (x :: xs).length ([] : List V).length = 0 := Nat.min_zero _
      rw [e]
      exact .nil
    | cons y ys =>
      have e : min (x :: xs).length (y :: ys).length = min xs.length ys.length + 1 := by
        rw [List.length_cons, List.length_cons]
        omega
      rw [e, List.range_succ_eq_map, List.map_cons, List.map_map]
      refine .cons (h 0 x y rfl rfl) ?_
      have g := ih ys (k + 1) fun j a b e1 e2 => by
        have := h (j + 1) a b e1 e2
        rw [show k + 1 + j = k + (j + 1) by omega]
        exact this
      have e3 : ((fun j => f (k + j)) ∘ Nat.succ) = fun j => f (k + 1 + j) := by
        funext j
        show f (k + (j + 1)) = f (k + 1 + j)
        rw [show k + 1 + j = k + (j + 1) by omega]
      rw [e3]
      exact g
theorem pe_tupZip {X : Cx} {K : PySem.W.Frag} {e1 e2 : Expr} {p pos p2 pos2 : Pos} {ta : TA} (hK : X.K = K) (hc : X.calm = true) (hg : Gl X "tuple") (hm : X.mg "tuple" = none) (hg2 : Gl X "zip") (hm2 : X.mg "zip" = none) (ha : PA X [e1, e2] ta)
    (hs : starEach [e1, e2] X.env = (false, eval e1 X.env) :: starEach [e2] X.env := by rfl) (hpl : (backTo pos2 (starEach [e2] X.env)).any (·.1) = false := by rfl)
    (n2 : starEach [Expr.Call (.Name "zip" p2) [e1, e2] [] pos2] X.env = (false, eval (Expr.Call (.Name "zip" p2) [e1, e2] [] pos2) X.env) :: starEach [] X.env := by rfl) :
    PE X (.Call (.Name "tuple" p) [.Call (.Name "zip" p2) [e1, e2] [] pos2] [] pos) (tTupZ K ta) := by
  subst hK
  refine ⟨fun pins s σ H Q I h => ?_⟩
  refine Call_ (ld_blt I hg hm boot_tuple (PyProof.Rows.callWith_type1 (args_cons ?_ n2) n2))
  refine Call_ (ld_blt I hg2 hm2 PyProof.Rows.boot_zip (PyProof.Rows.callWith_type1 (thn (ha.run pos2 pins s σ H _ I h) ?_) hs hpl))
  rintro us s1 ⟨vs, H1, I1, r1, a, b, xs, ys, ex, hx, hy, q⟩
  subst ex
  cases r1 with
  | cons ra rt =>
    cases rt with
    | cons rb rt =>
      cases rt
      cases ra
      cases rb
      obtain ⟨its1, v1, p1, z1⟩ := I1.list hx
      obtain ⟨its2, v2, p2, z2⟩ := I1.list hy
      have L1 := v1.length
      have L2 := v2.length
      have la : a < s1.heap.objs.size := p1.lt
      have lb : b < s1.heap.objs.size := p2.lt
      refine call_zip_2 p1.isList p2.isList fun h' hz hTI hTO hi1 hi2 hsz hk => args_nil ?_
      have hh : X.A.handled = none := I1.ok.hd hc
      have lists1 : h'.IsList a its1.toArray := p1.isList.at fun o q => hk _ _ q
      have lists2 : h'.IsList b its2.toArray := p2.isList.at fun o q => hk _ _ q
      have hn : min xs.length ys.length = min its1.toArray.size its2.toArray.size := by
        rw [List.size_toArray, List.size_toArray, L1, L2]
      refine call_tuple_zip (s := { s1 with heap := h' }) (n := min xs.length ys.length) hh (PySem.W.ktu_apart s1.heap.objs.size a b la lb) hn (by omega) hz hTI ⟨_, _, hTO⟩ hi1 hi2 lists1 lists2 fun h2 acc kp got => ?_
      generalize hN : h'.objs.size + 1 = N at got
      have lo : s1.heap.objs.size < N := by
        have : (h'.objs.size : Nat) = s1.heap.objs.size + 5 := hsz
        omega
      have keep : ∀ c o, s1.heap.get? c = some o → h2.get? c = some o := by
        intro c o e
        have lc : c < s1.heap.objs.size := Heap.lt_size e
        exact kp c o (Nat.ne_of_lt (Nat.lt_add_right 4 lc)) (Nat.ne_of_lt (Nat.lt_add_right 3 lc)) (Nat.ne_of_lt lc) (Nat.ne_of_lt (Nat.lt_add_right 1 lc)) (hk c o e)
      have big : ∀ c, s1.heap.objs.size ≤ c → H1 c = none := fun c l => I1.hok.fresh l
      have pr : ∀ j, j < min xs.length ys.length → h2.get? (N + j) = some (prO (its1.toArray.getD j .none) (its2.toArray.getD j .none)) := by
        intro j hj
        have g1 : its1.toArray[j]? = some its1.toArray[j] := Array.getElem?_eq_getElem (by rw [List.size_toArray]; omega)
        have g2 : its2.toArray[j]? = some its2.toArray[j] := Array.getElem?_eq_getElem (by rw [List.size_toArray]; omega)
        have e1 : its1.toArray.getD j .none = its1.toArray[j] := by rw [Array.getD_eq_getD_getElem?, g1]; rfl
        have e2 : its2.toArray.getD j .none = its2.toArray[j] := by rw [Array.getD_eq_getD_getElem?, g2]; rfl
        rw [e1, e2]
        exact (got.2 j hj).2 _ _ g1 g2
      have above : ∀ j, j < min xs.length ys.length → N + j < h2.objs.size := fun j hj => Heap.lt_size (pr j hj)
      have lp : s1.heap.objs.size ≤ h2.objs.size := by
        have hT2 : h2.get? (s1.heap.objs.size + 2) = some (prO (.ref s1.heap.objs.size) (.ref (s1.heap.objs.size + 1))) := by
          refine kp _ _ ?_ ?_ ?_ ?_ hTI
          · exact Nat.ne_of_lt (Nat.add_lt_add_left (by decide) _)
          · exact Nat.ne_of_lt (Nat.add_lt_add_left (by decide) _)
          · exact Nat.ne_of_gt (Nat.lt_add_of_pos_right (by decide))
          · exact Nat.ne_of_gt (Nat.add_lt_add_left (by decide) _)
        exact Nat.le_trans (Nat.le_add_right _ 2) (Nat.le_of_lt (Heap.lt_size hT2))
      have accE : acc.toList = ((List.range (min xs.length ys.length)).map fun j => N + j).map Value.ref := by
        refine List.ext_getElem? fun j => ?_
        by_cases hj : j < min xs.length ys.length
        · rw [Array.getElem?_toList, (got.2 j hj).1, List.getElem?_map, List.getElem?_map, List.getElem?_range hj]
          rfl
        · rw [List.getElem?_eq_none (by rw [Array.length_toList, got.1]; omega), List.getElem?_eq_none (by rw [List.length_map, List.length_map, List.length_range]; omega)]
      let ob : Obj := { cls := .type "tuple", data := .seq acc }
      let H2 := zipH H1 h2.objs.size N (min xs.length ys.length) xs ys its1.toArray its2.toArray ob
      have low : ∀ c : Addr, c < s1.heap.objs.size → H2 c = H1 c := by
        intro c l
        have c1 : ¬ c = h2.objs.size := Nat.ne_of_lt (Nat.lt_of_lt_of_le l lp)
        have c2 : ¬ (N ≤ c ∧ c < N + min xs.length ys.length) := fun z => absurd (Nat.lt_of_lt_of_le (Nat.lt_trans l lo) z.1) (Nat.lt_irrefl _)
        show zipH _ _ _ _ _ _ _ _ _ c = _
        unfold zipH
        rw [if_neg c1, if_neg c2]
      have atP : H2 h2.objs.size = some (.frz ob (.tup ((List.range (min xs.length ys.length)).map fun j => V.ref (N + j)))) := by
        show zipH _ _ _ _ _ _ _ _ _ _ = _
        unfold zipH
        rw [if_pos rfl]
      have atT : ∀ j, j < min xs.length ys.length → H2 (N + j) = some (.frz (prO (its1.toArray.getD j .none) (its2.toArray.getD j .none)) (.tup [xs.getD j .non, ys.getD j .non])) := by
        intro j hj
        show zipH _ _ _ _ _ _ _ _ _ _ = _
        unfold zipH
        rw [if_neg (Nat.ne_of_lt (above j hj)), if_pos ⟨Nat.le_add_right _ _, Nat.add_lt_add_left hj _⟩, Nat.add_sub_cancel_left]
      have same : Same H1 H2 := by
        intro c u e
        rw [low c (Nat.lt_of_not_le fun l => by rw [big c l] at e; cases e)]
        exact e
      have fin : ∀ c o, s1.heap.get? c = some o → (h2.push ob).get? c = some o := fun c o e => Heap.get?_push_of_some _ (keep c o e)
      have obAt : (h2.push ob).get? h2.objs.size = some ob := Heap.get?_push_size h2 rfl
      have two : (2 : Nat) ≤ sizeLine := Nat.le_of_ble_eq_true rfl
      have I3 : Inv X pins σ H2 { s1 with heap := h2.push ob, toks := s1.toks } := by
        refine inv_grow I1 fin same (fun c o e1 e2 => ?_) fun c u e1 e2 => ?_
        · rw [low c (Heap.lt_size e2)]
          exact e1
        · by_cases cp : c = h2.objs.size
          · subst cp
            rw [atP] at e2
            cases e2
            refine ⟨obAt, ?_, acc.toList, ?_, ob, obAt, rfl, 0, ?_⟩
            · rw [List.length_map, List.length_range]
              omega
            · rw [accE, show ((List.range (min xs.length ys.length)).map fun j => V.ref (N + j)) = ((List.range (min xs.length ys.length)).map fun j => N + j).map V.ref by rw [List.map_map]; rfl]
              exact vals_refs _
            · show Data.seq acc 0 = Data.seq acc.toList.toArray 0
              rw [Array.toArray_toList]
          · by_cases cn : N ≤ c ∧ c < N + min xs.length ys.length
            · obtain ⟨j, rfl⟩ : ∃ j, c = N + j := ⟨c - N, (Nat.add_sub_cancel' cn.1).symm⟩
              have hj : j < min xs.length ys.length := Nat.lt_of_add_lt_add_left cn.2
              rw [atT j hj] at e2
              cases e2
              have g := Heap.get?_push_of_some ob (pr j hj)
              refine ⟨g, two, [its1.toArray.getD j .none, its2.toArray.getD j .none], ?_, _, g, rfl, 0, rfl⟩
              have t1 := vals_getD v1 (j := j) (Nat.lt_of_lt_of_le hj (Nat.min_le_left _ _))
              have t2 := vals_getD v2 (j := j) (Nat.lt_of_lt_of_le hj (Nat.min_le_right _ _))
              have q1 : its1.toArray.getD j .none = its1.getD j .none := by rw [Array.getD_eq_getD_getElem?, List.getD_eq_getElem?_getD, List.getElem?_toArray]
              have q2 : its2.toArray.getD j .none = its2.getD j .none := by rw [Array.getD_eq_getD_getElem?, List.getD_eq_getElem?_getD, List.getElem?_toArray]
              rw [q1, q2]
              exact .cons t1 (.cons t2 .nil)
            · have e3 : H2 c = H1 c := by
                show zipH _ _ _ _ _ _ _ _ _ c = _
                unfold zipH
                rw [if_neg cp, if_neg cn]
              rw [e3, e1] at e2
              cases e2
      refine ⟨V.ref h2.objs.size, H2, I3, rfl, q h2.objs.size ((List.range (min xs.length ys.length)).map fun j => N + (0 + j)) H2 same (big _ lp) ⟨ob, ?_, rfl⟩ ?_⟩
      · rw [atP, List.map_map]
        have e4 : (V.ref ∘ fun j => N + (0 + j)) = fun j => V.ref (N + j) := by
          funext j
          show V.ref (N + (0 + j)) = _
          rw [Nat.zero_add]
        rw [e4]
      · refine paired_zip (f := fun j => N + j) xs ys 0 fun j x y e1 e2 => ?_
        have j1 : j < xs.length := (List.getElem?_eq_some_iff.mp e1).1
        have j2 : j < ys.length := (List.getElem?_eq_some_iff.mp e2).1
        rw [Nat.zero_add]
        refine ⟨big _ (Nat.le_trans (Nat.le_of_lt lo) (Nat.le_add_right _ _)), prO (its1.toArray.getD j .none) (its2.toArray.getD j .none), ?_, rfl⟩
        have at3 := atT j (by omega)
        rw [List.getD_eq_getElem?_getD, List.getD_eq_getElem?_getD, e1, e2] at at3
        exact at3
section
variable {w : Wd} {ρ : List Sl} {P : Sl → Prop} {te tl ti td ty : TE} {tt : TT} {tr : TA} {ts : TS} {e : En}
theorem zip_dd {K : PySem.W.Frag} {H : Hp} {o : Addr → Prop} {H2 : Hp} : ∀ {ds es : List PyData} {xs ys : List V} {as : List Addr}, DdAll K (hid H2 o) xs ds → DdAll K (hid H2 o) ys es → Paired (fun t (q : V × V) => (H t = none ∧ SqP H2 t [q.1, q.2])) as (xs.zip ys) → (∀ t, o t → H t ≠ none) →
    DdAll K (hid H2 o) (as.map V.ref) ((ds.zip es).map fun p => PyData.tuple [p.1, p.2]) := by
  intro ds
  induction ds with
  | nil =>
    intro es xs ys as h1 h2 hp ho
    cases h1
    cases hp
    exact .nil
  | cons d ds ih =>
    intro es xs ys as h1 h2 hp ho
    cases h1 with
    | cons a1 t1 =>
      cases h2 with
      | nil =>
        cases hp
        exact .nil
      | cons a2 t2 =>
        cases hp with
        | cons q t =>
          obtain ⟨n, ob, e, nd⟩ := q
          refine .cons (Dd.tup ⟨ob, ?_, nd⟩ (.cons a1 (.cons a2 .nil))) (ih t1 t2 t ho)
          rw [hid_of fun z => ho _ z n]
          exact e
/-- tuple(zip(a, b)) of lists -/
theorem e_tupZ (h : A w tr ρ fun xs => ∃ x y ds es, xs = [x, y] ∧ lstD x = some ds ∧ lstD y = some es ∧ P (.dat (.tuple ((ds.zip es).map fun p => PyData.tuple [p.1, p.2])))) : E w (tTupZ w.K tr) ρ P := by
  intro o σ H Q ok k
  refine h o σ H _ ok ?_
  rintro o1 H1 vs xs g1 r1 ⟨x, y, ds, es, rfl, hx, hy, q⟩
  cases r1 with
  | cons ra rt =>
    cases rt with
    | cons rb rt =>
      cases rt
      obtain ⟨a, us, rfl, s1, d1⟩ := ra.lst hx
      obtain ⟨b, ws, rfl, s2, d2⟩ := rb.lst hy
      refine ⟨a, b, us, ws, rfl, s1, s2, fun p ts H2 sm np sq pr => ?_⟩
      have b1 := ok.toBas.go g1
      have g2 := b1.ext sm
      have po : ¬ o1 p := fun z => b1.hn p z np
      obtain ⟨ob, e, nd⟩ := sq
      refine k o1 H2 _ _ (g1.trans g2) (VR.dat (Dd.tup ⟨ob, ?_, nd⟩ (zip_dd (ddAll_mono g2.same d1) (ddAll_mono g2.same d2) pr b1.hn))) q
      rw [hid_of po]
      exact e
/-- x, y = [..], e through a tuple: x a list that will be changed -/
theorem s_asgOwnA {i j m : Nat} (hm : m = 2) (h : A w tr ρ fun xs => ∃ ds, undats xs = some ds ∧ ds.length ≤ sizeLine ∧ E w te ρ fun y => ∃ d, y = .dat d ∧ ∀ p, e.nx ((ρ.set i (.own p ds)).set j (.dat d))) :
    S w (tAsg (tTupP (tCons (tLst tr) (tCons te tNil))) (gTup w.K m (gCons (gName i) (gCons (gName j) gNil)))) ρ e := by
  subst hm
  intro o σ H D ok kn kr kb kc
  refine h o σ H _ ok ?_
  rintro o1 H1 vs xs g1 r1 ⟨ds, hu, hl, q⟩
  have hu2 := undats_some hu
  subst hu2
  have ha := VRs.dats r1
  refine ⟨by rw [DdAll.len ha]; exact hl, fun p np => ?_⟩
  have ok1 := ok.go g1
  have g2 := ok1.toBas.newOwn (u := .lst vs) np
  have ok2 := ok1.go g2
  have n0 : ¬ w.own0 p := fun z => ok1.hn p (ok1.sub p z) np
  refine q _ σ _ _ ok2 ?_
  rintro o3 H3 u y g3 r3 ⟨d, rfl, q⟩
  have keep : H3 p = some (.lst vs) := (g3.keep p (.inr rfl) (ok2.toBas.nb n0)).trans upd_same
  refine ⟨Nat.le_of_ble_eq_true rfl, fun t ob nt nd => ?_⟩
  have ok3 := ok2.go g3
  have g4 := ok3.toBas.new (u := .frz ob (.tup [.ref p, u])) nt
  have keep4 : upd H3 t (.frz ob (.tup [.ref p, u])) p = some (.lst vs) := by rw [upd_ne (ne_of_none keep nt)]; exact keep
  refine ⟨t, _, rfl, .inl (.inr ⟨ob, upd_same⟩), rfl, _, _, rfl, _, _, rfl, rfl, ?_⟩
  have p3 : o3 p := g3.sub p (.inr rfl)
  refine kn o3 _ _ _ (((ok3.go g4).set i (x := .own p ds) ⟨rfl, p3, n0, vs, keep4, dpAll_mono ((g2.same.trans g3.same).trans g4.same) ds vs ha⟩ ?_).setD j (x := .dat d) (dd_mono g4.same r3) trivial) (q p)
  intro p' e' m y' q' nm em a'
  cases e'
  intro z
  subst z
  exact ok1.hn _ (ok1.adr em a') np
/-- [f(x) for x in a] -/
theorem e_lcSMap {j : Nat} (f : PyData → PyData) (h : E w tl ρ fun x => ∃ c ds, x = .dat c ∧ seqD (.dat c) = some ds ∧ ds.length ≤ sizeLine ∧ (∀ (i : Nat) d, ds[i]? = some d → E w te ((ρ.set j .no).set j (.dat d)) fun y => y = .dat (f d)) ∧ P (.dat (.list (ds.map f)))) :
    E w (tLc (iSeq w.K tl) (gName j) tYes te [j]) ρ P := by
  refine e_lcS (h.mono ?_)
  rintro x ⟨c, ds, e1, e2, hl, hf, q⟩
  refine ⟨c, ds, e1, e2, hl, fun i acc => acc = (ds.take i).map f, rfl, fun i d acc hd ha => ?_, fun acc ha _ => ?_⟩
  · subst ha
    refine t_yes ?_
    rw [if_pos rfl]
    refine (hf i d hd).mono ?_
    rintro y rfl
    refine ⟨_, rfl, ?_⟩
    show _ = (ds.take (i + 1)).map f
    rw [List.take_succ, hd, List.map_append]
    rfl
  · rw [ha, List.take_length]
    exact q
theorem e_lcLMap {j : Nat} (f : PyData → PyData) (h : E w tl ρ fun x => ∃ ds, lstD x = some ds ∧ ds.length ≤ sizeLine ∧ (∀ (i : Nat) d, ds[i]? = some d → E w te ((ρ.set j .no).set j (.dat d)) fun y => y = .dat (f d)) ∧ P (.dat (.list (ds.map f)))) :
    E w (tLc (iList w.K tl) (gName j) tYes te [j]) ρ P := by
  refine e_lcL (h.mono ?_)
  rintro x ⟨ds, e2, hl, hf, q⟩
  refine ⟨ds, e2, hl, fun i acc => acc = (ds.take i).map f, rfl, fun i d acc hd ha => ?_, fun acc ha _ => ?_⟩
  · subst ha
    refine t_yes ?_
    rw [if_pos rfl]
    refine (hf i d hd).mono ?_
    rintro y rfl
    refine ⟨_, rfl, ?_⟩
    show _ = (ds.take (i + 1)).map f
    rw [List.take_succ, hd, List.map_append]
    rfl
  · rw [ha, List.take_length]
    exact q
theorem call_sortedSK {X : Cx} {K : PySem.W.Frag} (h : X.K = K) : CallR X (.builtin "sorted") (rSortedS K) := by
  subst h
  exact cr_sortedS
theorem call_sortedIK {X : Cx} {K : PySem.W.Frag} (h : X.K = K) : CallR X (.builtin "sorted") (rSortedI K) := by
  subst h
  exact cr_sortedI
/-- sorted, of ints -/
theorem cl_sortI : Cl w (rSortedI w.K) (fun xs P => ∃ (x : Sl) (zs : List Int), xs = [x] ∧ lstD x = some (zs.map .int) ∧ ∀ ys : List Int, ys.Perm zs → ys.Pairwise (· ≤ ·) → P (.dat (.list (ys.map .int)))) := by
  rintro o H vs xs P Q b r ⟨x, zs, rfl, hx, q⟩ k
  cases r with
  | cons r t =>
    cases t
    obtain ⟨a, us, rfl, s1, d1⟩ := r.lst hx
    have e := DdAll.ints d1
    subst e
    refine ⟨a, zs, rfl, s1, fun ys p hy hs np => ?_⟩
    have g := b.new (u := .lst (ys.map V.int)) np
    exact k o _ _ _ g (VR.dat (Dd.lst (.inl (.inl (b.seen np))) (DdAll.ofInts ys))) (q ys hy hs)
/-- for x, y in a -/
theorem s_for2 {i j m : Nat} (hm : m = 2) (h : E w te ρ fun x => ∃ c ds, x = .dat c ∧ seqD (.dat c) = some ds ∧ (∀ d ∈ ds, ∃ d1 d2, d = .tuple [d1, d2]) ∧ ∃ I : Nat → List Sl → Prop, I 0 ρ ∧
      (∀ (k : Nat) (d1 d2 : PyData) (ρ' : List Sl), ds[k]? = some (.tuple [d1, d2]) → I k ρ' → Turns w ts e I k ((ρ'.set i (.dat d1)).set j (.dat d2))) ∧ ∀ ρ', I ds.length ρ' → e.nx ρ') :
    S w (tFor (iSeq w.K te) (gTup w.K m (gCons (gName i) (gCons (gName j) gNil))) ts) ρ e := by
  subst hm
  intro o σ H D ok kn kr kb kc
  refine h o σ H _ ok ?_
  rintro o1 H1 v x g1 r1 ⟨c, ds, rfl, hx, h3, I, h0, hs, hd⟩
  have ok1 := ok.go g1
  obtain ⟨a, vs, rfl, ha, hq⟩ := r1.seqDat hx
  have ln := DdAll.len ha
  have b1 := ok1.toBas
  have okA := ok_in b1 ok1 (Same.refl _)
  have fin : ∀ σ' H', (∃ o' ρ', Ok (wAt w o1 H1) o' σ' H' ρ' ∧ I vs.length ρ') → D.nx σ' H' := by
    rintro σ' H' ⟨o', ρ', k1, i1⟩
    rw [ln] at i1
    exact kn o' σ' H' ρ' (ok_out b1 k1).1 (hd ρ' i1)
  have step : ∀ (k : Nat) (y : V) (σ2 : L2.St) (H2 H3 : Hp), k < vs.length → (∃ o' ρ', Ok (wAt w o1 H1) o' σ2 H2 ρ' ∧ I k ρ') → YAt vs k H2 y H3 →
      gTup w.K 2 (gCons (gName i) (gCons (gName j) gNil)) y σ2 H3 fun σ4 H4 => ts { D with
        nx := fun σ' H' => ∃ o' ρ', Ok (wAt w o1 H1) o' σ' H' ρ' ∧ I (k + 1) ρ',
        ct := fun σ' H' => ∃ o' ρ', Ok (wAt w o1 H1) o' σ' H' ρ' ∧ I (k + 1) ρ', bk := D.nx } σ4 H4 := by
    rintro k y σ2 H2 H3 hk ⟨o2, ρ2, ok2, i2⟩ ⟨rfl, e2⟩
    obtain ⟨_, s2⟩ := ok_out b1 ok2
    obtain ⟨d, hd1, rd⟩ := DdAll.gets (ddAll_mono s2 ha) e2
    obtain ⟨d1, d2, rfl⟩ := h3 d (List.mem_of_getElem? hd1)
    cases rd with
    | tup hs1 ha1 =>
      cases ha1 with
      | cons ra ha1 =>
        cases ha1 with
        | cons rb ha1 =>
            cases ha1
            refine ⟨_, _, rfl, sqT_mono hid_le hs1.t, rfl, _, _, rfl, _, _, rfl, rfl, ?_⟩
            refine hs k d1 d2 ρ2 hd1 i2 (wAt w o1 H1).H0 o2 _ _ _ ((ok2.setD i (x := .dat d1) ra trivial).setD j (x := .dat d2) rb trivial) ?_ ?_ ?_ ?_
            · intro o' σ' H' ρ' a1 a2
              exact ⟨o', ρ', a1, a2⟩
            · intro o' H' v' d' a1 a2 a3
              exact kr o' H' v' d' (bas_out b1 a1).1 a2 a3
            · intro o' σ' H' ρ' a1 a2
              exact kn o' σ' H' ρ' (ok_out b1 a1).1 a2
            · intro o' σ' H' ρ' a1 a2
              exact ⟨o', ρ', a1, a2⟩
  refine ⟨a, vs, rfl, ?_⟩
  rcases hq with hq | hq
  · refine .inl ⟨hid_le.seq hq, ?_⟩
    exact for_it walk_list (fun k σ' H' => ∃ o' ρ', Ok (wAt w o1 H1) o' σ' H' ρ' ∧ I k ρ') ⟨o1, ρ, okA, h0⟩
      (fun k σ' H' _ ⟨o', ρ', k1, _⟩ => hid_le.seq ((ok_out b1 k1).2.seq hq)) step fin
  · refine .inr ⟨sqT_mono hid_le hq, ?_⟩
    exact for_it walk_tup (fun k σ' H' => ∃ o' ρ', Ok (wAt w o1 H1) o' σ' H' ρ' ∧ I k ρ') ⟨o1, ρ, okA, h0⟩
      (fun k σ' H' _ ⟨o', ρ', k1, _⟩ => sqT_mono hid_le (sqT_mono (ok_out b1 k1).2 hq)) step fin
end
end DL

/-! Set comprehensions with one and two clauses, whatever object the set is told as: how an object changes by set.add is a relation. -/
namespace DL
open PySem PySem.Spec PyProof.Rows L2

/-- the object at D, the value added, the object then -/
abbrev AddRel := Addr → HO → V → HO → Prop
/-- set.add does so -/
def AddOk (P : Program) (W : World) (rel : AddRel) : Prop := ∀ (Y : Cx), Y.prog = P → Y.w = W → ∀ (pn : List (Addr × Obj)) (τ : L2.St) (H : Hp) (s : Shared) (F : Value → Shared → Prop) (D : Addr) (u u2 : HO) (y : V) (z : Value) (Q : Value → Shared → Prop),
  Inv Y pn τ H s → H D = some u → RelV y z → rel D u y u2 → (∀ s2, Inv Y pn τ (upd H D u2) s2 → Q .none s2) → wpAny (model Y.prog Y.w) Y.A (call (.builtin "set.add") [.ref D, z]) Q F s
abbrev freshSet (w : World) : Obj := { cls := .type "set", dict := none, data := .set #[] 0 (.fresh 0 0 (!w.params.followText "set-order")) }
/-- the object that a new set is told as -/
def NewOk (w : World) (P : Program) (mk : Addr → HO) : Prop := ∀ (H : Hp) (h : Heap), ObjOk P w H (h.push (freshSet w)) h.objs.size (mk h.objs.size)

section
variable {P : Program} {w : World} {A : Around} {R : Result → Shared → Prop} {s : Shared} {e a0 b0 a1 b1 : Expr} {q0 q1 : List Expr} {sc : Scope} {ps : Pos} {it acc : Value} {env : Env}
abbrev sc2E (e a0 b0 a1 b1 : Expr) (q0 q1 : List Expr) (sc : Scope) (ps : Pos) : Expr := .SetComp e [⟨a0, b0, q0, 0⟩, ⟨a1, b1, q1, 0⟩] sc ps
/-- a turn's head: the next item is stored, the tests are asked -/
abbrev headOf (P : Program) (w : World) (A : Around) (R : Result → Shared → Prop) (env : Env) (it : Value) (tg : Expr) (ifs : List Expr) (body : Bool → Shared → Prop) (s : Shared) : Prop :=
  let N := notedBy (model P w) A env fun x s' => R (.error x) s'
  wpAny (model P w) A (pyNext it) (fun r s1 => match r with
    | none => R (.ok .next) s1
    | some v => wpAny (model P w) A (letOwnedTupleGo tg it v) (fun _ s2 => wpAny (model P w) A (assign tg env v) (fun _ s3 =>
        wpAny (model P w) A (forIn ifs true fun c r => if r = true then do let ok ← isTrue c env (eval c env); pure (ForInStep.yield ok) else pure (ForInStep.yield r)) body N s3) N s2) N s1) N s
theorem sc2_outer (hs : ∀ x, foldedSetIterable b1 env x = pure x) (I : Nat → Shared → Prop)
    (turn : ∀ n s, I n s → headOf P w A R env it a0 q0 (fun ok s3 =>
      if ok = true then wpAny (model P w) A (eval b1 env) (fun x s4 => wpAny (model P w) A (pyIter x) (fun it1 s5 =>
          codeAny (model P w) A (.compStart (sc2E e a0 b0 a1 b1 q0 q1 sc ps) 1 it1 acc env) (fun r s' => (∃ f, r = .ok f) ∧ ∃ m, m < n ∧ I m s') s5)
            (notedBy (model P w) A env fun x s' => R (.error x) s') s4) (notedBy (model P w) A env fun x s' => R (.error x) s') s3
      else ∃ m, m < n ∧ I m s3) s) (n : Nat) (h0 : I n s) : codeAny (model P w) A (.compLoop (sc2E e a0 b0 a1 b1 q0 q1 sc ps) 0 it acc env) R s := by
  refine codeAny_loop rfl I (fun k s2 hI => ?_) n h0
  show wpAny _ A ((compTurn (sc2E e a0 b0 a1 b1 q0 q1 sc ps) 0 it acc env).onRaise (fun x => do noteFrame x env; theTreesLotGoes x)) _ _ s2
  refine wpAny_noted ?_
  have open0 : compTurn (sc2E e a0 b0 a1 b1 q0 q1 sc ps) 0 it acc env = (do
      standAt b0.pos
      match ← pyNext it with
      | none => pure (.done .next)
      | some v =>
        letOwnedTupleGo a0 it v
        assign a0 env v
        let mut ok := true
        for c in q0 do
          if ok then ok ← isTrue c env (eval c env)
        if ok then
          let x ← eval b1 env
          standAt b1.pos
          let x ← foldedSetIterable b1 env x
          let _ ← runOwn (.compStart (sc2E e a0 b0 a1 b1 q0 q1 sc ps) 1 (← holding [x] (pyIter x)) acc env) env
        again (.compLoop (sc2E e a0 b0 a1 b1 q0 q1 sc ps) 0 it acc env)) := by rfl
  rw [open0]
  refine wpAny_bind (wpAny_standAt (wpAny_bind (wpAny_mono (turn k s2 hI) (fun r s3 g1 => ?_) fun _ _ z => z)))
  cases r with
  | none => exact wpAny_pure g1
  | some v =>
    refine wpAny_bind (wpAny_mono g1 (fun _ s4 g2 => wpAny_bind (wpAny_mono g2 (fun _ s5 g3 => wpAny_bind (wpAny_mono g3 (fun ok s6 g4 => ?_) fun _ _ z => z)) fun _ _ z => z)) fun _ _ z => z)
    cases ok with
    | false => exact wpAny_pure ⟨rfl, g4⟩
    | true =>
      refine wpAny_bind (wpAny_mono g4 (fun x s7 g5 => ?_) fun _ _ z => z)
      refine wpAny_bind (wpAny_standAt (wpAny_bind (wpAny_of_eq (hs x) (wpAny_bind (wpAny_holding (wpAny_mono g5 (fun i1 s8 g6 => ?_) fun _ _ z => z))))))
      refine wpAny_bind (wpAny_runOwn ?_)
      rw [Around.mark_none]
      refine codeAny_mono g6 fun r s9 ⟨⟨f, hr⟩, g7⟩ => ?_
      subst hr
      first
        | exact wpAny_pure ⟨rfl, g7⟩
        | exact wpAny_bind (wpAny_pure (wpAny_pure ⟨rfl, g7⟩))
theorem sc2_inner (I : Nat → Shared → Prop)
    (turn : ∀ n s, I n s → headOf P w A R env it a1 q1 (fun ok s3 =>
      if ok = true then wpAny (model P w) A (eval e env) (fun x s4 => wpAny (model P w) A (call (.builtin "set.add") [acc, x]) (fun _ s5 => ∃ m, m < n ∧ I m s5)
            (notedBy (model P w) A env fun x s' => R (.error x) s') s4) (notedBy (model P w) A env fun x s' => R (.error x) s') s3
      else ∃ m, m < n ∧ I m s3) s) (n : Nat) (h0 : I n s) : codeAny (model P w) A (.compLoop (sc2E e a0 b0 a1 b1 q0 q1 sc ps) 1 it acc env) R s := by
  refine codeAny_loop rfl I (fun k s2 hI => ?_) n h0
  show wpAny _ A ((compTurn (sc2E e a0 b0 a1 b1 q0 q1 sc ps) 1 it acc env).onRaise (fun x => do noteFrame x env; theTreesLotGoes x)) _ _ s2
  refine wpAny_noted ?_
  have open1 : compTurn (sc2E e a0 b0 a1 b1 q0 q1 sc ps) 1 it acc env = (do
      standAt b1.pos
      match ← pyNext it with
      | none => pure (.done .next)
      | some v =>
        letOwnedTupleGo a1 it v
        assign a1 env v
        let mut ok := true
        for c in q1 do
          if ok then ok ← isTrue c env (eval c env)
        if ok then
          (do let v ← eval e env; standAt e.pos; let _ ← call (.builtin "set.add") [acc, v])
        again (.compLoop (sc2E e a0 b0 a1 b1 q0 q1 sc ps) 1 it acc env)) := by rfl
  rw [open1]
  refine wpAny_bind (wpAny_standAt (wpAny_bind (wpAny_mono (turn k s2 hI) (fun r s3 g1 => ?_) fun _ _ z => z)))
  cases r with
  | none => exact wpAny_pure g1
  | some v =>
    refine wpAny_bind (wpAny_mono g1 (fun _ s4 g2 => wpAny_bind (wpAny_mono g2 (fun _ s5 g3 => wpAny_bind (wpAny_mono g3 (fun ok s6 g4 => ?_) fun _ _ z => z)) fun _ _ z => z)) fun _ _ z => z)
    cases ok with
    | false => exact wpAny_pure ⟨rfl, g4⟩
    | true => exact wpAny_bind (wpAny_bind (wpAny_mono g4 (fun x s7 g5 => wpAny_bind (wpAny_standAt (wpAny_bind (wpAny_mono g5 (fun _ s8 g6 => wpAny_pure (wpAny_pure ⟨rfl, g6⟩)) fun _ _ z => z)))) fun _ _ z => z))
theorem sc2_second (h0 : codeAny (model P w) A (.compLoop (sc2E e a0 b0 a1 b1 q0 q1 sc ps) 1 it acc env) R s)
    (h : wpAny (model P w) A (pyIter it) (fun i2 s2 => codeAny (model P w) A (.compLoop (sc2E e a0 b0 a1 b1 q0 q1 sc ps) 1 i2 acc env) R s2) (notedBy (model P w) A env fun x s2 => R (.error x) s2) s) :
    codeAny (model P w) A (.compStart (sc2E e a0 b0 a1 b1 q0 q1 sc ps) 1 it acc env) R s := by
  refine codeAny_of_tree ?_
  show wpAny _ _ ((compStart (sc2E e a0 b0 a1 b1 q0 q1 sc ps) 1 it acc env).onRaise (fun x => do noteFrame x env; standAt theWindowsPlace)) _ _ s
  refine wpAny_notedAt ?_
  unfold compStart
  refine wpAny_bind (wpAny_askSetting (wpAny_ite ?_))
  split
  · first
      | exact wpAny_bind (wpAny_pure (wpAny_pure ⟨rfl, h0⟩))
      | exact wpAny_pure ⟨rfl, h0⟩
  · refine wpAny_bind (wpAny_rule ?_)
    first
      | exact wpAny_bind (wpAny_standAt (wpAny_bind (wpAny_mono h (fun _ s2 z => wpAny_pure ⟨rfl, z⟩) fun _ _ z => z)))
      | (show wpAny _ _ (standAt b1.pos >>= _) _ _ s; exact wpAny_bind (wpAny_standAt (wpAny_bind (wpAny_mono h (fun _ s2 z => wpAny_pure ⟨rfl, z⟩) fun _ _ z => z))))
end

section
variable {X : Cx}
/-- {e for g in .. if ..} -/
def tScG (rel : AddRel) (mk : Addr → HO) (wi : TI) (g : TG) (tt : TT) (te : TE) (vs : List Nat) : TE := fun σ H Q => wi σ H fun J H1 => ∀ D, H1 D = none →
  ∃ W : Nat → Nat → Hp → Prop, (∃ m, W 0 m (upd H1 D (mk D))) ∧ ∀ i m H2, W i m H2 →
    (J.stop i H2 ∧ Q (.ref D) H2) ∨ (J.go i H2 ∧ ∃ Nx : Hp → Prop, (∀ H', Nx H' → ∃ m', m' < m ∧ W (i + 1) m' H') ∧ ∀ x H', J.yld i H2 x H' →
      g x (wipe σ vs) H' fun σ2 H3 => wipe σ2 vs = wipe σ vs ∧ tt σ2 H3 fun b H4 => if b = true then te σ2 H4 fun y H5 => ∃ u u2, H5 D = some u ∧ rel D u y u2 ∧ Nx (upd H5 D u2) else Nx H4)
/-- {e for g in .. if .. for g1 in .. if ..} -/
def tScG2 (rel : AddRel) (mk : Addr → HO) (wi : TI) (g : TG) (tt : TT) (wi1 : TI) (g1 : TG) (tt1 : TT) (te : TE) (vs vs1 : List Nat) : TE := fun σ H Q => wi σ H fun J H1 => ∀ D, H1 D = none →
  ∃ W : Nat → Nat → Hp → Prop, (∃ m, W 0 m (upd H1 D (mk D))) ∧ ∀ i m H2, W i m H2 →
    (J.stop i H2 ∧ Q (.ref D) H2) ∨ (J.go i H2 ∧ ∃ Nx : Hp → Prop, (∀ H', Nx H' → ∃ m', m' < m ∧ W (i + 1) m' H') ∧ ∀ x H', J.yld i H2 x H' →
      g x (wipe σ vs) H' fun σ2 H3 => wipe σ2 vs = wipe σ vs ∧ tt σ2 H3 fun b H4 => if b = true then wi1 σ2 H4 fun J1 H5 =>
        ∃ W1 : Nat → Nat → Hp → Prop, (∃ m, W1 0 m H5) ∧ ∀ j k H6, W1 j k H6 →
          (J1.stop j H6 ∧ Nx H6) ∨ (J1.go j H6 ∧ ∃ Nx1 : Hp → Prop, (∀ H', Nx1 H' → ∃ k', k' < k ∧ W1 (j + 1) k' H') ∧ ∀ x H', J1.yld j H6 x H' →
            g1 x (wipe σ2 vs1) H' fun σ3 H7 => wipe σ3 vs1 = wipe σ2 vs1 ∧ tt1 σ3 H7 fun b H8 => if b = true then te σ3 H8 fun y H9 => ∃ u u2, H9 D = some u ∧ rel D u y u2 ∧ Nx1 (upd H9 D u2) else Nx1 H8)
        else Nx H4)
abbrev inBlk (X : Cx) (sc : Scope) (F : Cx → Prop) : Prop := ∀ (s : Shared) (H : Hp) (C : Addr) (cl : List (Str × Addr)) (fp : List Addr), F (X.blk s H sc (compEnvC sc cl C X.env) fp)
theorem sc2_whole {pn : List (Addr × Obj)} {s : Shared} {σ : L2.St} {H : Hp} {Q : VK} {e a0 b0 a1 b1 : Expr} {q0 q1 : List Expr} {sc : Scope} {own : List (Str × Nat)} {vs1 : List Nat} {ps fpos : Pos} {wi wi1 : TI} {g g1 : TG} {tt tt1 : TT} {te : TE}
    {rel : AddRel} {mk : Addr → HO} (add : AddOk X.prog X.w rel) (new : NewOk X.w X.prog mk) {Qf : Value → Shared → Prop}
    (hc : X.calm = true) (hN : X.N.Nodup) (I : Inv X pn σ H s) (hi : PI X a0 b0 wi) (ok : BlkOk X.N X.env.scope sc own) (hv : ∀ i ∈ vs1, i ∈ own.map (·.2))
    (hg : inBlk X sc fun Y => PG Y a0 g) (ht : inBlk X sc fun Y => PTs Y q0 tt) (he : inBlk X sc fun Y => PE Y e te) (hi1 : inBlk X sc fun Y => PI Y a1 b1 wi1) (hg1 : inBlk X sc fun Y => PG Y a1 g1) (ht1 : inBlk X sc fun Y => PTs Y q1 tt1)
    (hs : ∀ x, foldedSetIterable b0 X.env x = pure x) (hs1 : ∀ env x, foldedSetIterable b1 env x = pure x) (h : tScG2 rel mk wi g tt wi1 g1 tt1 te (own.map (·.2)) vs1 σ H Q)
    (out : ∀ D C s2 m H2, Inv X pn σ H2 s2 → Q (.ref D) H2 → s2.heap.Ns C m → FpOk X pn H2 C → compPost (model X.prog X.w) X.A X.xe none Qf (.ref D) C (.ok .next) s2) :
    wpAny (model X.prog X.w) X.A (comprehension (sc2E e a0 b0 a1 b1 q0 q1 sc ps) sc X.env fpos (newSet (.type "set")) false (eval b0 X.env) none) Qf X.xe s := by
  have free0 : ∀ y ∈ sc.names, y.2 = .free → ∃ c, X.env.cells.lookup y.1 = some c := fun y hy z => (ok.free y hy z).elim (fun k => I.ok.has _ (.inl k)) fun k => I.ok.has _ (.inr k)
  refine wpAny_comprehension_free (use := none) rfl hs (closure_ok free0) ok.kind (fun y hy z => by rw [ok.uniq y hy, z]) (thn (hi.run pn s σ H _ I h) fun xv s1 hx => thn hx fun itv s2 h2 => ?_)
  obtain ⟨it, fp, tn, J, H2, z, I2, T, st2, f2, q⟩ := h2
  subst z
  refine PpSet.newSet_ok (newEnv_comp ?_)
  generalize eD : s2.heap.objs.size = D
  have nD : H2 D = none := I2.hok.fresh (Nat.le_of_eq eD)
  obtain ⟨W, ⟨m0, w0⟩, turn⟩ := q D nD
  generalize e3 : ({ s2 with heap := s2.heap.push (freshSet X.w) } : Shared) = s3
  have h3 : s3.heap = s2.heap.push (freshSet X.w) := by rw [← e3]
  have I3 : Inv X pn σ (upd H2 D (mk D)) s3 := by
    rw [← e3]
    refine I2.laid (t' := s2.toks) (fun b o z => Heap.get?_push_of_some _ z) (Nat.le_of_eq eD) ?_
    rw [← eD]
    exact new _ _
  have low : ∀ b ∈ fp, b < s2.heap.objs.size := fun b hb => let ⟨_, z, _⟩ := T.obj _ _ st2 b hb; Heap.lt_size z
  have f3 : ∀ b ∈ fp, FpOk X pn (upd H2 D (mk D)) b ∧ b < s3.heap.objs.size := fun b hb => by
    refine ⟨⟨?_, (f2 b hb).2⟩, by rw [h3, Heap.size_push]; exact Nat.lt_succ_of_lt (low b hb)⟩
    rw [upd_ne (by rw [← eD]; exact Nat.ne_of_lt (low b hb))]
    exact (f2 b hb).1
  have st3 : tn 0 s3.heap := T.keep _ _ _ st2 fun b _ o z => by rw [h3]; exact Heap.get?_push_of_some _ z
  have I4 := block_start I3 ok hN f3
  generalize eH : upd H2 D (mk D) = H3 at I3 I4 w0 f3
  generalize eC : cellsFrom (s3.heap.objs.size + 1) sc.names (cloFrom X.env.cells sc.names []) = cl at I4
  have pg := hg s3 H3 s3.heap.objs.size cl fp
  have pt := ht s3 H3 s3.heap.objs.size cl fp
  have pe := he s3 H3 s3.heap.objs.size cl fp
  have pi1 := hi1 s3 H3 s3.heap.objs.size cl fp
  have pg1 := hg1 s3 H3 s3.heap.objs.size cl fp
  have pt1 := ht1 s3 H3 s3.heap.objs.size cl fp
  show codeAny _ _ (.compStart (sc2E e a0 b0 a1 b1 q0 q1 sc ps) 0 (.ref it) (.ref D) (compEnvC sc cl s3.heap.objs.size X.env)) (compPost (model X.prog X.w) X.A X.xe none Qf (.ref D) s3.heap.objs.size) { s3 with heap := pushCells (s3.heap.push { cls := .type "dict", data := .dict #[] }) sc.names }
  generalize ece : compEnvC sc cl s3.heap.objs.size X.env = ce at I4 pg pt pe pi1 pg1 pt1 ⊢
  have cL : ce.locals = s3.heap.objs.size := by subst ece; rfl
  generalize e4 : ({ s3 with heap := pushCells (s3.heap.push { cls := .type "dict", data := .dict #[] }) sc.names } : Shared) = s4 at I4 ⊢
  have st4 : tn 0 s4.heap := T.keep _ _ _ st3 fun b _ o z => by rw [← e4]; exact pushCells_keeps _ _ _ _ (Heap.get?_push_of_some _ z)
  have stat : ∀ {τ : L2.St} {H' : Hp} {s' : Shared}, Inv (X.blk s3 H3 sc ce fp) [] τ H' s' → (∀ b ∈ fp, H' b = none) → ∀ b ∈ fp, FpOk (X.blk s3 H3 sc ce fp) [] H' b := fun {τ H' s'} I' hn b hb =>
    ⟨hn b hb, (I'.ok.exf b hb).1, I'.ok.exfs b hb, .inl hb, fun x c z => (I'.ok.exf b hb).2 x c z, fun p hp => absurd (show p ∈ ([] : List (Addr × Obj)) ++ [] from hp) (by simp)⟩
  have loop : codeAny (model X.prog X.w) X.A (.compLoop (sc2E e a0 b0 a1 b1 q0 q1 sc ps) 0 (.ref it) (.ref D) ce) (compPost (model X.prog X.w) X.A X.xe none Qf (.ref D) s3.heap.objs.size) s4 := by
    refine sc2_outer (hs1 ce) (fun n s' => ∃ i H', Inv (X.blk s3 H3 sc ce fp) [] (wipe σ (own.map (·.2))) H' s' ∧ tn i s'.heap ∧ (∀ b ∈ fp, H' b = none) ∧ W i n H') ?_ m0 ⟨0, H3, I4, st4, fun b hb => (f3 b hb).1.1, w0⟩
    rintro n s5 ⟨i, H5, I5, st5, n5, w5⟩
    rcases turn i n H5 w5 with ⟨stop, qq⟩ | ⟨go, Nx, nxt, step⟩
    · refine thnF (T.done (X.blk s3 H3 sc ce fp) rfl rfl rfl hc i [] s5 _ H5 (fun _ _ => False) I5 (stat I5 n5) st5 stop) fun r s6 ⟨hr, I6⟩ => ?_
      subst hr
      have I7 : Inv X pn σ H5 s6 := I3.call' (ch := fp) I6.os I6.base I6.hok I6.bare fun b hb => ⟨(f3 b hb).1.2.2.2.1, (f3 b hb).1.2.1, (f3 b hb).1.2.2.2.2.1, (f3 b hb).1.2.2.2.2.2⟩
      have nC : H5 s3.heap.objs.size = none := cL ▸ I6.free
      obtain ⟨m, hn, _⟩ := I6.loc
      exact out D s3.heap.objs.size s6 m H5 I7 qq (cL ▸ hn) (I3.fpOk (Nat.le_refl _) nC)
    · refine thnF (T.item (X.blk s3 H3 sc ce fp) rfl rfl rfl hc i [] s5 _ H5 (fun _ _ => False) I5 (stat I5 n5) st5 go) fun r s6 ⟨u, hr, h6⟩ => ?_
      subst hr
      refine thnF h6 fun _ s7 ⟨x, H7, I7, r7, y7, st7, n7⟩ => ?_
      refine thnF (pg.run _ s7 _ H7 x u _ (I7.pinned (stat I7 n7) (T.obj _ _ st7)) r7 (step x H7 y7)) fun _ s8 ⟨σ8, H8, I8, hw8, q8⟩ => ?_
      refine thnF (pt.run _ s8 σ8 H8 _ I8 q8) fun b s9 ⟨H9, I9, q9⟩ => ?_
      have fin : ∀ {τ : L2.St} {s' : Shared} {H' : Hp}, Inv (X.blk s3 H3 sc ce fp) ([] ++ pinsAt fp s7.heap) τ H' s' → (wipe σ (own.map (·.2))).length = τ.length → (∀ (j : Nat) v, (wipe σ (own.map (·.2)))[j]? = some (some v) → τ[j]? = some (some v)) → Nx H' →
          ∃ m, m < n ∧ ∃ i H', Inv (X.blk s3 H3 sc ce fp) [] (wipe σ (own.map (·.2))) H' s' ∧ tn i s'.heap ∧ (∀ b ∈ fp, H' b = none) ∧ W i m H' := fun {τ s' H'} I' hl hk nx => by
        obtain ⟨m', hm, w'⟩ := nxt H' nx
        have pin' : ∀ b ∈ fp, ∀ o, s7.heap.get? b = some o → s'.heap.get? b = some o ∧ H' b = none := fun b hb o z =>
          have k := I'.pin (b, o) (List.mem_append_right _ (List.mem_append_right _ (mem_pinsAt hb z)))
          ⟨k.1, k.2.1⟩
        exact ⟨m', hm, i + 1, H', (I'.unpinned (pins := [])).weak hl hk, T.keep _ _ _ st7 fun b hb o z => (pin' b hb o z).1, fun b hb => let ⟨o, z, _⟩ := T.obj _ _ st7 b hb; (pin' b hb o z).2, w'⟩
      have l8 : (wipe σ (own.map (·.2))).length = σ8.length := by rw [← hw8, wipe_length]
      have k8 : ∀ (j : Nat) v, (wipe σ (own.map (·.2)))[j]? = some (some v) → σ8[j]? = some (some v) := fun j v z => (wipe_some (hw8 ▸ z)).1
      have k9 : ∀ (j : Nat) v, (wipe σ (own.map (·.2)))[j]? = some (some v) → (wipe σ8 vs1)[j]? = some (some v) := fun j v z => by
        obtain ⟨z1, z2⟩ := wipe_some (hw8 ▸ z)
        rw [wipe_out fun k => z2 (hv j k)]
        exact z1
      cases b with
      | false => exact fin I9 l8 k8 (by simpa using q9)
      | true =>
        simp only [if_true] at q9 ⊢
        refine thnF (pi1.run _ s9 σ8 H9 _ I9 q9) fun xv s10 hx => thnF hx fun itv s11 h11 => ?_
        obtain ⟨it1, fp1, tn1, J1, H11, z1, I11, T1, st11, f11, W1, ⟨m1, w1⟩, turn1⟩ := h11
        subst z1
        have stat1 : ∀ {H' : Hp}, (∀ b ∈ fp1, H' b = none) → ∀ b ∈ fp1, FpOk (X.blk s3 H3 sc ce fp) ([] ++ pinsAt fp s7.heap) H' b := fun hn b hb => ⟨hn b hb, (f11 b hb).2⟩
        have inner : codeAny (model X.prog X.w) X.A (.compLoop (sc2E e a0 b0 a1 b1 q0 q1 sc ps) 1 (.ref it1) (.ref D) ce)
            (fun r s' => (∃ f, r = .ok f) ∧ ∃ m, m < n ∧ ∃ i H', Inv (X.blk s3 H3 sc ce fp) [] (wipe σ (own.map (·.2))) H' s' ∧ tn i s'.heap ∧ (∀ b ∈ fp, H' b = none) ∧ W i m H') s11 := by
          refine sc2_inner (fun k s' => ∃ j H', Inv (X.blk s3 H3 sc ce fp) ([] ++ pinsAt fp s7.heap) (wipe σ8 vs1) H' s' ∧ tn1 j s'.heap ∧ (∀ b ∈ fp1, H' b = none) ∧ W1 j k H') ?_ m1 ⟨0, H11, I11.weak (wipe_length _ _) (fun j v z => (wipe_some z).1), st11, fun b hb => (f11 b hb).1, w1⟩
          rintro k s12 ⟨j, H12, I12, st12, n12, w12⟩
          rcases turn1 j k H12 w12 with ⟨stop1, nx1⟩ | ⟨go1, Nx1, nxt1, step1⟩
          · refine thnF (T1.done (X.blk s3 H3 sc ce fp) rfl rfl rfl hc j _ s12 (wipe σ8 vs1) H12 (fun _ _ => False) I12 (stat1 n12) st12 stop1) fun r s13 ⟨hr, I13⟩ => ?_
            subst hr
            exact ⟨⟨_, rfl⟩, fin I13 (l8.trans (wipe_length σ8 vs1).symm) k9 nx1⟩
          · refine thnF (T1.item (X.blk s3 H3 sc ce fp) rfl rfl rfl hc j _ s12 (wipe σ8 vs1) H12 (fun _ _ => False) I12 (stat1 n12) st12 go1) fun r s13 ⟨u1, hr, h13⟩ => ?_
            subst hr
            refine thnF h13 fun _ s14 ⟨x1, H14, I14, r14, y14, st14, n14⟩ => ?_
            refine thnF (pg1.run _ s14 (wipe σ8 vs1) H14 x1 u1 _ (I14.pinned (stat1 n14) (T1.obj _ _ st14)) r14 (step1 x1 H14 y14)) fun _ s15 ⟨σ15, H15, I15, hw15, q15⟩ => ?_
            refine thnF (pt1.run _ s15 σ15 H15 _ I15 q15) fun b1 s16 ⟨H16, I16, q16⟩ => ?_
            have fin1 : ∀ {s' : Shared} {H' : Hp}, Inv (X.blk s3 H3 sc ce fp) (([] ++ pinsAt fp s7.heap) ++ pinsAt fp1 s14.heap) σ15 H' s' → Nx1 H' → ∃ m, m < k ∧ ∃ j H', Inv (X.blk s3 H3 sc ce fp) ([] ++ pinsAt fp s7.heap) (wipe σ8 vs1) H' s' ∧ tn1 j s'.heap ∧ (∀ b ∈ fp1, H' b = none) ∧ W1 j m H' := fun {s' H'} I' nx => by
              obtain ⟨m', hm, w'⟩ := nxt1 H' nx
              have pin' : ∀ b ∈ fp1, ∀ o, s14.heap.get? b = some o → s'.heap.get? b = some o ∧ H' b = none := fun b hb o z =>
                have k := I'.pin (b, o) (List.mem_append_right _ (List.mem_append_right _ (mem_pinsAt hb z)))
                ⟨k.1, k.2.1⟩
              exact ⟨m', hm, j + 1, H', I'.unpinned.weak (by rw [← hw15, wipe_length]) (fun j v z => (wipe_some (hw15 ▸ z)).1), T1.keep _ _ _ st14 fun b hb o z => (pin' b hb o z).1, fun b hb => let ⟨o, z, _⟩ := T1.obj _ _ st14 b hb; (pin' b hb o z).2, w'⟩
            cases b1 with
            | false => exact fin1 I16 (by simpa using q16)
            | true =>
              simp only [if_true] at q16 ⊢
              refine thnF (pe.run _ s16 σ15 H16 _ I16 q16) fun z s17 ⟨yv, H17, I17, r17, u, u2, hD17, rl, nx⟩ => ?_
              exact add (X.blk s3 H3 sc ce fp) rfl rfl _ _ _ _ _ _ _ _ _ _ _ I17 hD17 r17 rl fun s18 I18 => fin1 I18 nx
        refine codeAny_mono (sc2_second inner (T1.self X.A 0 _ _ _ st11 inner)) fun r s' z => z
  exact PpSet.codeAny_compStart_set loop (T.self X.A 0 _ _ _ st4 loop)
theorem pe_sc2G {e a0 b0 a1 b1 : Expr} {q0 q1 : List Expr} {sc : Scope} {own : List (Str × Nat)} {vs1 : List Nat} {ps : Pos} {wi wi1 : TI} {g g1 : TG} {tt tt1 : TT} {te : TE} {rel : AddRel} {mk : Addr → HO} (add : AddOk X.prog X.w rel) (new : NewOk X.w X.prog mk)
    (hc : X.calm = true) (hN : X.N.Nodup) (hi : PI X a0 b0 wi) (ok : BlkOk X.N X.env.scope sc own) (hv : ∀ i ∈ vs1, i ∈ own.map (·.2))
    (hg : inBlk X sc fun Y => PG Y a0 g) (ht : inBlk X sc fun Y => PTs Y q0 tt) (hi1 : inBlk X sc fun Y => PI Y a1 b1 wi1) (hg1 : inBlk X sc fun Y => PG Y a1 g1) (ht1 : inBlk X sc fun Y => PTs Y q1 tt1) (he : inBlk X sc fun Y => PE Y e te)
    (hs : ∀ x, foldedSetIterable b0 X.env x = pure x := by intro _; rfl) (hs1 : ∀ env x, foldedSetIterable b1 env x = pure x := by intro _ _; rfl) :
    PE X (sc2E e a0 b0 a1 b1 q0 q1 sc ps) (tScG2 rel mk wi g tt wi1 g1 tt1 te (own.map (·.2)) vs1) := by
  refine ⟨fun pn s σ H Q I h => ?_⟩
  rw [PpSet.eval_SetComp]
  refine sc2_whole add new hc hN I hi ok hv hg ht he hi1 hg1 ht1 hs hs1 h fun D C s2 m H2 I' q hn f => ⟨m, hn, fun h'' sb => ?_⟩
  exact ⟨.ref D, H2, I'.turned (t' := s2.toks) (fun b o hb z => (sb.2 b hb).trans z) f.1 f.2.1 f.2.2.2.1 f.2.2.2.2.1 f.2.2.2.2.2, rfl, q⟩

abbrev sc1E (e a0 b0 : Expr) (q0 : List Expr) (sc : Scope) (ps : Pos) : Expr := .SetComp e [⟨a0, b0, q0, 0⟩] sc ps
theorem sc1_whole {pn : List (Addr × Obj)} {s : Shared} {σ : L2.St} {H : Hp} {Q : VK} {e a0 b0 : Expr} {q0 : List Expr} {sc : Scope} {own : List (Str × Nat)} {ps fpos : Pos} {wi : TI} {g : TG} {tt : TT} {te : TE}
    {rel : AddRel} {mk : Addr → HO} (add : AddOk X.prog X.w rel) (new : NewOk X.w X.prog mk) {Qf : Value → Shared → Prop}
    (hc : X.calm = true) (hN : X.N.Nodup) (I : Inv X pn σ H s) (hi : PI X a0 b0 wi) (ok : BlkOk X.N X.env.scope sc own)
    (hg : inBlk X sc fun Y => PG Y a0 g) (ht : inBlk X sc fun Y => PTs Y q0 tt) (he : inBlk X sc fun Y => PE Y e te)
    (hs : ∀ x, foldedSetIterable b0 X.env x = pure x) (h : tScG rel mk wi g tt te (own.map (·.2)) σ H Q)
    (out : ∀ D C s2 m H2, Inv X pn σ H2 s2 → Q (.ref D) H2 → s2.heap.Ns C m → FpOk X pn H2 C → compPost (model X.prog X.w) X.A X.xe none Qf (.ref D) C (.ok .next) s2) :
    wpAny (model X.prog X.w) X.A (comprehension (sc1E e a0 b0 q0 sc ps) sc X.env fpos (newSet (.type "set")) false (eval b0 X.env) none) Qf X.xe s := by
  have free0 : ∀ y ∈ sc.names, y.2 = .free → ∃ c, X.env.cells.lookup y.1 = some c := fun y hy z => (ok.free y hy z).elim (fun k => I.ok.has _ (.inl k)) fun k => I.ok.has _ (.inr k)
  refine wpAny_comprehension_free (use := none) rfl hs (closure_ok free0) ok.kind (fun y hy z => by rw [ok.uniq y hy, z]) (thn (hi.run pn s σ H _ I h) fun xv s1 hx => thn hx fun itv s2 h2 => ?_)
  obtain ⟨it, fp, tn, J, H2, z, I2, T, st2, f2, q⟩ := h2
  subst z
  refine PpSet.newSet_ok (newEnv_comp ?_)
  generalize eD : s2.heap.objs.size = D
  have nD : H2 D = none := I2.hok.fresh (Nat.le_of_eq eD)
  obtain ⟨W, ⟨m0, w0⟩, turn⟩ := q D nD
  generalize e3 : ({ s2 with heap := s2.heap.push (freshSet X.w) } : Shared) = s3
  have h3 : s3.heap = s2.heap.push (freshSet X.w) := by rw [← e3]
  have I3 : Inv X pn σ (upd H2 D (mk D)) s3 := by
    rw [← e3]
    refine I2.laid (t' := s2.toks) (fun b o z => Heap.get?_push_of_some _ z) (Nat.le_of_eq eD) ?_
    rw [← eD]
    exact new _ _
  have low : ∀ b ∈ fp, b < s2.heap.objs.size := fun b hb => let ⟨_, z, _⟩ := T.obj _ _ st2 b hb; Heap.lt_size z
  have f3 : ∀ b ∈ fp, FpOk X pn (upd H2 D (mk D)) b ∧ b < s3.heap.objs.size := fun b hb => by
    refine ⟨⟨?_, (f2 b hb).2⟩, by rw [h3, Heap.size_push]; exact Nat.lt_succ_of_lt (low b hb)⟩
    rw [upd_ne (by rw [← eD]; exact Nat.ne_of_lt (low b hb))]
    exact (f2 b hb).1
  have st3 : tn 0 s3.heap := T.keep _ _ _ st2 fun b _ o z => by rw [h3]; exact Heap.get?_push_of_some _ z
  have I4 := block_start I3 ok hN f3
  generalize eH : upd H2 D (mk D) = H3 at I3 I4 w0 f3
  generalize eC : cellsFrom (s3.heap.objs.size + 1) sc.names (cloFrom X.env.cells sc.names []) = cl at I4
  have pg := hg s3 H3 s3.heap.objs.size cl fp
  have pt := ht s3 H3 s3.heap.objs.size cl fp
  have pe := he s3 H3 s3.heap.objs.size cl fp
  show codeAny _ _ (.compStart (sc1E e a0 b0 q0 sc ps) 0 (.ref it) (.ref D) (compEnvC sc cl s3.heap.objs.size X.env)) (compPost (model X.prog X.w) X.A X.xe none Qf (.ref D) s3.heap.objs.size) { s3 with heap := pushCells (s3.heap.push { cls := .type "dict", data := .dict #[] }) sc.names }
  generalize ece : compEnvC sc cl s3.heap.objs.size X.env = ce at I4 pg pt pe ⊢
  have cL : ce.locals = s3.heap.objs.size := by subst ece; rfl
  generalize e4 : ({ s3 with heap := pushCells (s3.heap.push { cls := .type "dict", data := .dict #[] }) sc.names } : Shared) = s4 at I4 ⊢
  have st4 : tn 0 s4.heap := T.keep _ _ _ st3 fun b _ o z => by rw [← e4]; exact pushCells_keeps _ _ _ _ (Heap.get?_push_of_some _ z)
  have stat : ∀ {τ : L2.St} {H' : Hp} {s' : Shared}, Inv (X.blk s3 H3 sc ce fp) [] τ H' s' → (∀ b ∈ fp, H' b = none) → ∀ b ∈ fp, FpOk (X.blk s3 H3 sc ce fp) [] H' b := fun {τ H' s'} I' hn b hb =>
    ⟨hn b hb, (I'.ok.exf b hb).1, I'.ok.exfs b hb, .inl hb, fun x c z => (I'.ok.exf b hb).2 x c z, fun p hp => absurd (show p ∈ ([] : List (Addr × Obj)) ++ [] from hp) (by simp)⟩
  have loop : codeAny (model X.prog X.w) X.A (.compLoop (sc1E e a0 b0 q0 sc ps) 0 (.ref it) (.ref D) ce) (compPost (model X.prog X.w) X.A X.xe none Qf (.ref D) s3.heap.objs.size) s4 := by
    refine PpSet.compLoopS_any (fun n s' => ∃ i H', Inv (X.blk s3 H3 sc ce fp) [] (wipe σ (own.map (·.2))) H' s' ∧ tn i s'.heap ∧ (∀ b ∈ fp, H' b = none) ∧ W i n H') ?_ m0 ⟨0, H3, I4, st4, fun b hb => (f3 b hb).1.1, w0⟩
    rintro n s5 ⟨i, H5, I5, st5, n5, w5⟩
    rcases turn i n H5 w5 with ⟨stop, qq⟩ | ⟨go, Nx, nxt, step⟩
    · refine thnF (T.done (X.blk s3 H3 sc ce fp) rfl rfl rfl hc i [] s5 _ H5 (fun _ _ => False) I5 (stat I5 n5) st5 stop) fun r s6 ⟨hr, I6⟩ => ?_
      subst hr
      have I7 : Inv X pn σ H5 s6 := I3.call' (ch := fp) I6.os I6.base I6.hok I6.bare fun b hb => ⟨(f3 b hb).1.2.2.2.1, (f3 b hb).1.2.1, (f3 b hb).1.2.2.2.2.1, (f3 b hb).1.2.2.2.2.2⟩
      have nC : H5 s3.heap.objs.size = none := cL ▸ I6.free
      obtain ⟨m, hn, _⟩ := I6.loc
      exact out D s3.heap.objs.size s6 m H5 I7 qq (cL ▸ hn) (I3.fpOk (Nat.le_refl _) nC)
    · refine thnF (T.item (X.blk s3 H3 sc ce fp) rfl rfl rfl hc i [] s5 _ H5 (fun _ _ => False) I5 (stat I5 n5) st5 go) fun r s6 ⟨u, hr, h6⟩ => ?_
      subst hr
      refine thnF h6 fun _ s7 ⟨x, H7, I7, r7, y7, st7, n7⟩ => ?_
      refine thnF (pg.run _ s7 _ H7 x u _ (I7.pinned (stat I7 n7) (T.obj _ _ st7)) r7 (step x H7 y7)) fun _ s8 ⟨σ8, H8, I8, hw8, q8⟩ => ?_
      refine thnF (pt.run _ s8 σ8 H8 _ I8 q8) fun b s9 ⟨H9, I9, q9⟩ => ?_
      have fin : ∀ {s' : Shared} {H' : Hp}, Inv (X.blk s3 H3 sc ce fp) ([] ++ pinsAt fp s7.heap) σ8 H' s' → Nx H' →
          ∃ m, m < n ∧ ∃ i H', Inv (X.blk s3 H3 sc ce fp) [] (wipe σ (own.map (·.2))) H' s' ∧ tn i s'.heap ∧ (∀ b ∈ fp, H' b = none) ∧ W i m H' := fun {s' H'} I' nx => by
        obtain ⟨m', hm, w'⟩ := nxt H' nx
        have pin' : ∀ b ∈ fp, ∀ o, s7.heap.get? b = some o → s'.heap.get? b = some o ∧ H' b = none := fun b hb o z =>
          have k := I'.pin (b, o) (List.mem_append_right _ (List.mem_append_right _ (mem_pinsAt hb z)))
          ⟨k.1, k.2.1⟩
        exact ⟨m', hm, i + 1, H', (I'.unpinned (pins := [])).weak (by rw [← hw8, wipe_length]) (fun j v z => (wipe_some (hw8 ▸ z)).1), T.keep _ _ _ st7 fun b hb o z => (pin' b hb o z).1, fun b hb => let ⟨o, z, _⟩ := T.obj _ _ st7 b hb; (pin' b hb o z).2, w'⟩
      cases b with
      | false => exact fin I9 (by simpa using q9)
      | true =>
        simp only [if_true] at q9 ⊢
        refine thnF (pe.run _ s9 σ8 H9 _ I9 q9) fun z s10 ⟨yv, H10, I10, r10, u, u2, hD10, rl, nx⟩ => ?_
        exact add (X.blk s3 H3 sc ce fp) rfl rfl _ _ _ _ _ _ _ _ _ _ _ I10 hD10 r10 rl fun s11 I11 => fin I11 nx
  exact PpSet.codeAny_compStart_set loop (T.self X.A 0 _ _ _ st4 loop)
theorem pe_scG {e a0 b0 : Expr} {q0 : List Expr} {sc : Scope} {own : List (Str × Nat)} {ps : Pos} {wi : TI} {g : TG} {tt : TT} {te : TE} {rel : AddRel} {mk : Addr → HO} (add : AddOk X.prog X.w rel) (new : NewOk X.w X.prog mk)
    (hc : X.calm = true) (hN : X.N.Nodup) (hi : PI X a0 b0 wi) (ok : BlkOk X.N X.env.scope sc own)
    (hg : inBlk X sc fun Y => PG Y a0 g) (ht : inBlk X sc fun Y => PTs Y q0 tt) (he : inBlk X sc fun Y => PE Y e te)
    (hs : ∀ x, foldedSetIterable b0 X.env x = pure x := by intro _; rfl) :
    PE X (sc1E e a0 b0 q0 sc ps) (tScG rel mk wi g tt te (own.map (·.2))) := by
  refine ⟨fun pn s σ H Q I h => ?_⟩
  rw [PpSet.eval_SetComp]
  refine sc1_whole add new hc hN I hi ok hg ht he hs h fun D C s2 m H2 I' q hn f => ⟨m, hn, fun h'' sb => ?_⟩
  exact ⟨.ref D, H2, I'.turned (t' := s2.toks) (fun b o hb z => (sb.2 b hb).trans z) f.1 f.2.1 f.2.2.2.1 f.2.2.2.2.1 f.2.2.2.2.2, rfl, q⟩
end
/-! ### sets of ints -/
def relI (W : World) : AddRel := fun D u y u2 => ∃ (S : Int → Bool) (n : Nat) (k : Int), u = SetO W D S n ∧ y = .int k ∧ n + 1 < scanBound ∧ u2 = SetO W D (fun j => S j || decide (j = k)) (if S k = true then n else n + 1)
def mkI (W : World) (D : Addr) : HO := SetO W D (fun _ => false) 0
theorem newI {P : Program} {W : World} : NewOk W P (mkI W) := fun H h => setO_new (by
  have z := setR_new_at (w := W) (h := h.push (freshSet W)) (a := h.objs.size) (ns := []) (Heap.get?_push_size _ rfl)
  simpa using z)
theorem addI_ok {P : Program} {W : World} : AddOk P W (relI W) := by
  rintro Y rfl rfl pn τ H s F D u u2 y z Q I hD r ⟨S, n, k, rfl, rfl, room, rfl⟩ q
  obtain ⟨tk, rfl⟩ := r
  have R := setO_get I hD
  refine setR_add R room fun h' sb new => ?_
  have he : ∃ u, h'.get? D = some u := let ⟨o, _, _, _, ho, _⟩ := new; ⟨o, ho⟩
  exact q _ (I.write (e := D) (t' := s.toks + 1) (by rw [hD]; trivial) (.inl rfl) (fun b u hb hu => (sb.2 b hb).trans hu) he (setO_new new))
/-! ### sets of ints and texts -/
def relK (P : Program) (W : World) : AddRel := fun D u y u2 => ∃ (S : Key → Bool) (n : Nat) (k : Key), u = SetK P W D S n ∧ y = kV k ∧ n + 1 < scanBound ∧ u2 = SetK P W D (fun j => S j || decide (j = k)) (if S k = true then n else n + 1)
def mkK (P : Program) (W : World) (D : Addr) : HO := SetK P W D (fun _ => false) 0
/-! ### sets of the def's own -/
abbrev plainO (q : Str) : Obj := { cls := .none, data := .fields #[.none, .str q 0] }
theorem heap_of (q : Str) (n : Nat) : ∃ h : Heap, h.objs.size = n ∧ ∀ b, b < n → h.get? b = some (plainO q) := by
  refine ⟨⟨(List.replicate n (plainO q)).toArray, {}⟩, by simp, fun b hb => ?_⟩
  unfold Heap.get?
  have z : (List.replicate n (plainO q)).toArray[b]? = some (plainO q) := by simp [hb]
  show (match (List.replicate n (plainO q)).toArray[b]? with
    | some ⟨_, _, .freed, _⟩ => none
    | o => o) = _
  rw [z]
theorem no_code {φ : Heap → Prop} {c : Addr} {q : Str} (h : ∀ h : Heap, (∀ b u, h.get? b = some u → ∃ vs, u.data = .fields vs) → ¬ φ h) : HO.ext φ ≠ LamX.CodeO c q := by
  intro z
  unfold LamX.CodeO at z
  have e := HO.ext.inj z
  obtain ⟨h1, hs, ho⟩ := heap_of q c
  have at_c : (h1.push (plainO q)).get? c = some (plainO q) := by rw [← hs]; exact Heap.get?_push_size _ rfl
  have all : ∀ b u, (h1.push (plainO q)).get? b = some u → ∃ vs, u.data = .fields vs := by
    intro b u z
    have lt := Heap.lt_size z
    rw [Heap.size_push, hs] at lt
    by_cases hb : b = c
    · rw [hb, at_c] at z
      cases z
      exact ⟨_, rfl⟩
    · rw [Heap.get?_push_of_some _ (ho b (Nat.lt_of_le_of_ne (Nat.le_of_lt_succ lt) hb))] at z
      cases z
      exact ⟨_, rfl⟩
  refine h _ all ?_
  rw [e]
  exact ⟨_, _, _, at_c, rfl, rfl⟩
theorem setO_hid {W : World} {a c : Addr} {S : Int → Bool} {n : Nat} {q : Str} : SetO W a S n ≠ LamX.CodeO c q := no_code fun h hf ⟨o, es, ep, t, e, _, d, _⟩ => by
  obtain ⟨vs, z⟩ := hf a o e
  rw [d] at z
  cases z
theorem setK_hid {P : Program} {W : World} {a c : Addr} {S : Key → Bool} {n : Nat} {q : Str} : SetK P W a S n ≠ LamX.CodeO c q := no_code fun h hf ⟨o, es, ep, t, e, _, d, _⟩ => by
  obtain ⟨vs, z⟩ := hf a o e
  rw [d] at z
  cases z
end DL

/-! Loops and comprehensions over any walk, with any targets: the items are data, or new tuples of data. -/
namespace DL
open PySem PySem.Spec PyProof.Rows L2

/-! ### targets -/
/-- data; where lo says so also a new tuple of data -/
def LdB (K : PySem.W.Frag) (lo : Bool) (H : Hp) (v : V) (d : PyData) : Prop := Dd K H v d ∨ (lo = true ∧ ∃ p vs ds, v = .ref p ∧ d = .tuple ds ∧ SqT K H p vs ∧ DdAll K H vs ds)
def setsV (σ : L2.St) : List Nat → List V → L2.St
  | i :: is, v :: vs => setsV (σ.set i (some v)) is vs
  | _, _ => σ
def setsD (ρ : List Sl) : List (Nat × PyData) → List Sl
  | [] => ρ
  | p :: ps => setsD (ρ.set p.1 (.dat p.2)) ps
theorem setsV_app (σ : L2.St) : ∀ (is js : List Nat) (us vs : List V), is.length = us.length → setsV σ (is ++ js) (us ++ vs) = setsV (setsV σ is us) js vs := by
  intro is
  induction is generalizing σ with
  | nil =>
    intro js us vs h
    cases us with
    | nil => rfl
    | cons _ _ => cases h
  | cons i is ih =>
    intro js us vs h
    cases us with
    | nil => cases h
    | cons u us => exact ih (σ.set i (some u)) js us vs (by simpa using h)
theorem ok_sets {w : Wd} {o : Addr → Prop} {H : Hp} : ∀ (ps : List (Nat × PyData)) {σ : L2.St} {ρ : List Sl} {vs : List V}, Ok w o σ H ρ → DdAll w.K (hid H o) vs (ps.map (·.2)) → Ok w o (setsV σ (ps.map (·.1)) vs) H (setsD ρ ps)
  | [], σ, ρ, vs, k, h => by
    cases h
    exact k
  | p :: ps, σ, ρ, vs, k, h => by
    rw [List.map_cons] at h
    cases h with
    | cons h1 h2 => exact ok_sets ps (k.setD p.1 (x := .dat p.2) h1 trivial) h2
theorem wipe_sets {vs : List Nat} : ∀ (is : List Nat) (us : List V) (σ : L2.St), (∀ i ∈ is, i ∈ vs) → wipe (setsV σ is us) vs = wipe σ vs
  | [], _, _, _ => by unfold setsV; rfl
  | i :: is, [], _, _ => by unfold setsV; rfl
  | i :: is, u :: us, σ, h => by
    show wipe (setsV (σ.set i (some u)) is us) vs = _
    rw [wipe_sets is us _ fun j hj => h j (List.mem_cons_of_mem _ hj)]
    simp only [wipe_clr]
    rw [clr_set (h i (List.mem_cons_self ..))]
theorem clr_sets {vs : List Nat} : ∀ (ps : List (Nat × PyData)) (ρ : List Sl), (∀ p ∈ ps, p.1 ∈ vs) → DL.clr Sl.no (setsD ρ ps) vs = DL.clr Sl.no ρ vs
  | [], _, _ => rfl
  | p :: ps, ρ, h => by
    show DL.clr Sl.no (setsD (ρ.set p.1 _) ps) vs = _
    rw [clr_sets ps _ fun q hq => h q (List.mem_cons_of_mem _ hq), clr_set (h p (List.mem_cons_self ..))]
/-- the target g stores the item d so -/
def TgOk (K : PySem.W.Frag) (lo : Bool) (g : TG) (d : PyData) (ps : List (Nat × PyData)) : Prop := ∀ (o : Addr → Prop) (H : Hp) (v : V) (σ : L2.St) (Q : L2.St → Hp → Prop), LdB K lo (hid H o) v d →
  (∀ vs : List V, DdAll K (hid H o) vs (ps.map (·.2)) → Q (setsV σ (ps.map (·.1)) vs) H) → g v σ H Q
def TgsOk (K : PySem.W.Frag) (g : TGs) (ds : List PyData) (ps : List (Nat × PyData)) : Prop := ∀ (o : Addr → Prop) (H : Hp) (us : List V) (σ : L2.St) (Q : L2.St → Hp → Prop), DdAll K (hid H o) us ds →
  (∀ vs : List V, DdAll K (hid H o) vs (ps.map (·.2)) → Q (setsV σ (ps.map (·.1)) vs) H) → g us σ H Q
section
variable {K : PySem.W.Frag} {lo : Bool} {g : TG} {gs : TGs} {d : PyData} {ds : List PyData} {ps qs : List (Nat × PyData)}
theorem tg_name {i : Nat} : TgOk K false (gName i) d [(i, d)] := by
  intro o H v σ Q h k
  rcases h with h | ⟨z, _⟩
  · exact k [v] (.cons h .nil)
  · cases z
theorem tgs_nil : TgsOk K gNil [] [] := by
  intro o H us σ Q h k
  cases h
  exact ⟨rfl, k [] .nil⟩
theorem tgs_cons (h1 : TgOk K false g d ps) (h2 : TgsOk K gs ds qs) : TgsOk K (gCons g gs) (d :: ds) (ps ++ qs) := by
  intro o H us σ Q h k
  cases h with
  | cons ha hb =>
    refine ⟨_, _, rfl, h1 o H _ σ _ (.inl ha) fun vs hv => h2 o H _ _ Q hb fun vs2 hv2 => ?_⟩
    have e := k (vs ++ vs2) (by rw [List.map_append]; exact DdAll.app hv hv2)
    rw [List.map_append, setsV_app _ _ _ _ _ (by rw [List.length_map, DdAll.len hv, List.length_map])] at e
    exact e
theorem tg_tup {m : Nat} (hm : m = ds.length) (h : TgsOk K gs ds ps) : TgOk K lo (gTup K m gs) (.tuple ds) ps := by
  subst hm
  intro o H v σ Q hl k
  rcases hl with hl | ⟨_, p, vs, ds2, rfl, e, hs, ha⟩
  · cases hl with
    | tup hs ha => exact ⟨_, _, rfl, sqT_mono hid_le hs.t, DdAll.len ha, h o H _ σ Q ha k⟩
  · cases e
    exact ⟨_, _, rfl, sqT_mono hid_le hs, DdAll.len ha, h o H _ σ Q ha k⟩
end

def inVs (ps : List (Nat × PyData)) (vs : List Nat) : Bool := ps.all fun p => vs.contains p.1
theorem inVs_mem {ps : List (Nat × PyData)} {vs : List Nat} (h : inVs ps vs = true) : ∀ p ∈ ps, p.1 ∈ vs := fun p hp => by
  have := List.all_eq_true.mp h p hp
  simpa using this
/-! ### walks -/
/-- J yields the data ds, one behind the other, wherever ok holds; a turn leaves the heap, or lays one object -/
def DW (K : PySem.W.Frag) (lo : Bool) (J : It) (ds : List PyData) (ok : (Addr → Prop) → Hp → Prop) : Prop := ∃ (G : Hp → Prop) (Y : Nat → Hp → V → Hp → Prop), Walk J ds.length G Y ∧ (∀ o H, ok o H → G H) ∧
  ∀ (i : Nat) (x : V) (o : Addr → Prop) (H H' : Hp), i < ds.length → (∀ a, o a → H a ≠ none) → ok o H → Y i H x H' → (H' = H ∨ ∃ p u, H p = none ∧ H' = upd H p u) ∧ ∃ d, ds[i]? = some d ∧ LdB K lo (hid H' o) x d
/-- the source of a loop -/
def If (w : Wd) (lo : Bool) (wi : TI) (ρ : List Sl) (P : List PyData → Prop) : Prop := ∀ (o : Addr → Prop) (σ : L2.St) (H : Hp) (R : It → Hp → Prop), Ok w o σ H ρ →
  (∀ o' H' J ds, Go w o H o' H' → DW w.K lo J ds (fun o2 H2 => Same (hid H' o') (hid H2 o2)) → P ds → R J H') → wi σ H R
/-- the source of a comprehension -/
def Ic (w : Wd) (lo : Bool) (wi : TI) (ρ : List Sl) (P : List PyData → Prop) : Prop := ∀ (o : Addr → Prop) (σ : L2.St) (H : Hp) (R : It → Hp → Prop), Ok w o σ H ρ →
  (∀ o' H' J ds, Go w o H o' H' → DW w.K lo J ds (Go w o' H') → P ds → R J H') → wi σ H R
section
variable {w : Wd} {o o1 o2 : Addr → Prop} {H H1 H2 : Hp} {σ : L2.St} {ρ : List Sl} {P : Sl → Prop} {Pd : List PyData → Prop} {te tl : TE} {tt tt1 : TT} {tr : TA} {ts : TS} {e : En} {lo lo1 : Bool} {wi wi1 : TI} {g g1 : TG}
theorem DW.mono {K : PySem.W.Frag} {J : It} {ds : List PyData} {ok ok' : (Addr → Prop) → Hp → Prop} (h : DW K lo J ds ok) (q : ∀ o H, ok' o H → ok o H) : DW K lo J ds ok' := by
  obtain ⟨G, Y, w1, w2, w3⟩ := h
  exact ⟨G, Y, w1, fun o H z => w2 o H (q o H z), fun i x o H H' hi hn z => w3 i x o H H' hi hn (q o H z)⟩
theorem ic_of (h : If w lo wi ρ Pd) : Ic w lo wi ρ Pd := fun o σ H R ok k => h o σ H R ok fun o' H' J ds g dw p => k o' H' J ds g (dw.mono fun o2 H2 z => z.same) p
theorem Ic.mono {Pd' : List PyData → Prop} (h : Ic w lo wi ρ Pd) (q : ∀ ds, Pd ds → Pd' ds) : Ic w lo wi ρ Pd' := fun o σ H R ok k => h o σ H R ok fun o' H' J ds g dw p => k o' H' J ds g dw (q ds p)
theorem If.mono {Pd' : List PyData → Prop} (h : If w lo wi ρ Pd) (q : ∀ ds, Pd ds → Pd' ds) : If w lo wi ρ Pd' := fun o σ H R ok k => h o σ H R ok fun o' H' J ds g dw p => k o' H' J ds g dw (q ds p)
theorem dw_seq {K : PySem.W.Frag} {a : Addr} {us : List V} {ds : List PyData} (ha : DdAll K (hid H1 o1) us ds) (hq : SqL K (hid H1 o1) a us ∨ SqT K (hid H1 o1) a us) :
    (SqL K H1 a us ∧ DW K false (Itl K a) ds (fun o2 H2 => Same (hid H1 o1) (hid H2 o2))) ∨ (SqT K H1 a us ∧ DW K false (Itt K a) ds (fun o2 H2 => Same (hid H1 o1) (hid H2 o2))) := by
  have ln := DdAll.len ha
  rcases hq with hq | hq
  · refine .inl ⟨hid_le.seq hq, _, _, ln ▸ walk_list, fun o2 H2 s => hid_le.seq (s.seq hq), ?_⟩
    rintro i x o2 H2 H3 hi hn s ⟨rfl, e⟩
    obtain ⟨d, hd, r⟩ := DdAll.gets (ddAll_mono s ha) e
    exact ⟨.inl rfl, d, hd, .inl r⟩
  · refine .inr ⟨sqT_mono hid_le hq, _, _, ln ▸ walk_tup, fun o2 H2 s => sqT_mono hid_le (sqT_mono s hq), ?_⟩
    rintro i x o2 H2 H3 hi hn s ⟨rfl, e⟩
    obtain ⟨d, hd, r⟩ := DdAll.gets (ddAll_mono s ha) e
    exact ⟨.inl rfl, d, hd, .inl r⟩
theorem i_seq (h : E w tl ρ fun x => ∃ c ds, x = .dat c ∧ seqD (.dat c) = some ds ∧ Pd ds) : If w false (iSeq w.K tl) ρ Pd := by
  intro o σ H R ok k
  refine h o σ H _ ok ?_
  rintro o1 H1 v x g1 r1 ⟨c, ds, rfl, hx, p⟩
  obtain ⟨a, us, rfl, ha, hq⟩ := r1.seqDat hx
  refine ⟨a, us, rfl, ?_⟩
  rcases dw_seq ha hq with ⟨s, dw⟩ | ⟨s, dw⟩
  · exact .inl ⟨s, k o1 H1 _ ds g1 dw p⟩
  · exact .inr ⟨s, k o1 H1 _ ds g1 dw p⟩
theorem c_seq (h : E w tl ρ fun x => ∃ ds, seqD x = some ds ∧ Pd ds) : Ic w false (iSeq w.K tl) ρ Pd := by
  intro o σ H R ok k
  refine h o σ H _ ok ?_
  rintro o1 H1 v x g1 r1 ⟨ds, hx, p⟩
  have b1 := ok.toBas.go g1
  cases x with
  | no => cases hx
  | bag => cases hx
  | ownD _ _ => cases hx
  | fn _ _ _ => cases hx
  | dat c =>
    obtain ⟨a, us, rfl, ha, hq⟩ := r1.seqDat hx
    refine ⟨a, us, rfl, ?_⟩
    rcases dw_seq ha hq with ⟨s, dw⟩ | ⟨s, dw⟩
    · exact .inl ⟨s, k o1 H1 _ ds g1 (dw.mono fun _ _ z => z.same) p⟩
    · exact .inr ⟨s, k o1 H1 _ ds g1 (dw.mono fun _ _ z => z.same) p⟩
  | own q xs =>
    cases hx
    obtain ⟨rfl, oq, nq, us, e1, ha⟩ := r1
    have ln := DdAll.len ha
    have at2 : ∀ {o2 : Addr → Prop} {H2 : Hp}, Go w o1 H1 o2 H2 → SqL w.K H2 q us := fun g2 => .inl (.inl ((g2.keep q oq (b1.nb nq)).trans e1))
    refine ⟨q, us, rfl, .inl ⟨.inl (.inl e1), k o1 H1 _ _ g1 ⟨_, _, ln ▸ walk_list, fun o2 H2 g2 => at2 g2, ?_⟩ p⟩⟩
    rintro i x o2 H2 H3 hi hn g2 ⟨rfl, e⟩
    obtain ⟨d, hd, r⟩ := DdAll.gets (ddAll_mono g2.same ha) e
    exact ⟨.inl rfl, d, hd, .inl r⟩
theorem c_list (h : E w tl ρ fun x => ∃ ds, lstD x = some ds ∧ Pd ds) : Ic w false (iList w.K tl) ρ Pd := by
  intro o σ H R ok k
  refine h o σ H _ ok ?_
  rintro o1 H1 v x g1 r1 ⟨ds, hx, p⟩
  have b1 := ok.toBas.go g1
  obtain ⟨a, us, rfl, ha, at2⟩ := r1.lstGo b1 hx
  have ln := DdAll.len ha
  refine ⟨a, rfl, ⟨us, (at2 o1 H1 b1.refl).1⟩, k o1 H1 _ _ g1 ⟨_, _, ln ▸ walk_list, fun o2 H2 g2 => (at2 o2 H2 g2).1, ?_⟩ p⟩
  rintro i x o2 H2 H3 hi hn g2 ⟨rfl, e⟩
  obtain ⟨d, hd, r⟩ := DdAll.gets (at2 o2 _ g2).2 e
  exact ⟨.inl rfl, d, hd, .inl r⟩
def enumD (ds : List PyData) : List PyData := ds.zipIdx.map fun p => .tuple [.int ((p.2 : Nat) : Int), p.1]
theorem enumD_len (ds : List PyData) : (enumD ds).length = ds.length := by simp [enumD]
theorem enumD_get {ds : List PyData} {i : Nat} {d : PyData} (h : ds[i]? = some d) : (enumD ds)[i]? = some (.tuple [.int (i : Nat), d]) := by
  unfold enumD
  rw [List.getElem?_map, List.getElem?_zipIdx, h]
  simp
theorem enumD_of {ds : List PyData} {i : Nat} {x : PyData} (h : (enumD ds)[i]? = some x) : ∃ d, ds[i]? = some d ∧ x = .tuple [.int (i : Nat), d] := by
  have hi : i < ds.length := by
    have := List.getElem?_eq_some_iff.mp h
    obtain ⟨q, _⟩ := this
    rw [enumD_len] at q
    exact q
  have e := List.getElem?_eq_getElem hi
  rw [enumD_get e] at h
  exact ⟨_, e, (Option.some.inj h).symm⟩
theorem i_enum (h : E w tl ρ fun x => ∃ c ds, x = .dat c ∧ seqD (.dat c) = some ds ∧ Pd (enumD ds)) : If w true (iEnumA w.K tl) ρ Pd := by
  intro o σ H R ok k
  refine h o σ H _ ok ?_
  rintro o1 H1 v x g1 r1 ⟨c, ds, rfl, hx, p⟩
  obtain ⟨a, us, rfl, ha, hq⟩ := r1.seqDat hx
  have ln := DdAll.len ha
  have ld : ∀ (i : Nat) (x : V) (o2 : Addr → Prop) (H2 H3 : Hp), i < (enumD ds).length → (∀ a, o2 a → H2 a ≠ none) → Same (hid H1 o1) (hid H2 o2) → YPair (fun i => some (.int (i : Nat))) (fun i => us[i]?) i H2 x H3 →
      (H3 = H2 ∨ ∃ p u, H2 p = none ∧ H3 = upd H2 p u) ∧ ∃ d, (enumD ds)[i]? = some d ∧ LdB w.K true (hid H3 o2) x d := by
    rintro i x o2 H2 H3 hi hn s ⟨p, u1, u2, rfl, np, rfl, e1, e2⟩
    cases e1
    have nh : ¬ o2 p := fun z => hn p z np
    have sm : Same (hid H2 o2) (hid (upd H2 p (.tup [.int (i : Nat), u2])) o2) := fun b u z => by
      obtain ⟨n1, z⟩ := hid_some z
      rw [hid_of n1, upd_ne (fun q => by rw [q, np] at z; cases z)]
      exact z
    obtain ⟨d, hd, r⟩ := DdAll.gets (ddAll_mono (s.trans sm) ha) e2
    refine ⟨.inr ⟨p, _, np, rfl⟩, _, enumD_get hd, .inr ⟨rfl, p, _, _, rfl, rfl, .inl (.inl ?_), .cons (.int _) (.cons r .nil)⟩⟩
    rw [hid_of nh]
    exact upd_same
  refine ⟨a, us, rfl, ?_⟩
  have len : us.length = (enumD ds).length := by rw [ln, enumD_len]
  rcases hq with hq | hq
  · exact .inl ⟨hid_le.seq hq, k o1 H1 _ _ g1 ⟨_, _, len ▸ walk_enum, fun o2 H2 s => hid_le.seq (s.seq hq), ld⟩ p⟩
  · exact .inr ⟨sqT_mono hid_le hq, k o1 H1 _ _ g1 ⟨_, _, len ▸ walk_enumT, fun o2 H2 s => sqT_mono hid_le (sqT_mono s hq), ld⟩ p⟩
def zipD (ds es : List PyData) : List PyData := (ds.zip es).map fun p => .tuple [p.1, p.2]
theorem zipD_len (ds es : List PyData) : (zipD ds es).length = min ds.length es.length := by simp [zipD]
theorem zipD_get {ds es : List PyData} {i : Nat} {d e : PyData} (h : ds[i]? = some d) (k : es[i]? = some e) : (zipD ds es)[i]? = some (.tuple [d, e]) := by
  unfold zipD
  have q : (ds.zip es)[i]? = some (d, e) := by
    rw [List.getElem?_zip_eq_some]
    exact ⟨h, k⟩
  rw [List.getElem?_map, q]
  rfl
theorem zipD_of {ds es : List PyData} {i : Nat} {x : PyData} (h : (zipD ds es)[i]? = some x) : ∃ d e, ds[i]? = some d ∧ es[i]? = some e ∧ x = .tuple [d, e] := by
  unfold zipD at h
  rw [List.getElem?_map] at h
  cases q : (ds.zip es)[i]? with
  | none => rw [q] at h; cases h
  | some p =>
    rw [q] at h
    obtain ⟨h1, h2⟩ := List.getElem?_zip_eq_some.mp q
    exact ⟨_, _, h1, h2, (Option.some.inj h).symm⟩
theorem i_zip (h : A w tr ρ fun xs => ∃ c1 c2 ds es, xs = [.dat c1, .dat c2] ∧ seqD (.dat c1) = some ds ∧ seqD (.dat c2) = some es ∧ Pd (zipD ds es)) : If w true (iZipB w.K tr) ρ Pd := by
  intro o σ H R ok k
  refine h o σ H _ ok ?_
  rintro o1 H1 vs xs g1 r1 ⟨c1, c2, ds, es, rfl, hx, hy, p⟩
  cases r1 with
  | cons ra r1 =>
    cases r1 with
    | cons rb r1 =>
      cases r1
      obtain ⟨b1, a1, us1, rfl, ha1, hs1⟩ := ra.seqB hx
      obtain ⟨b2, a2, us2, rfl, ha2, hs2⟩ := rb.seqB hy
      have sq : ∀ {b : Bool} {a : Addr} {us : List V} {o2 : Addr → Prop} {H2 : Hp}, SqB b w.K (hid H1 o1) a us → Same (hid H1 o1) (hid H2 o2) → SqB b w.K H2 a us := by
        intro b a us o2 H2 z s
        cases b with
        | true => first | exact sqT_mono hid_le (sqT_mono s z) | exact hid_le.seq (s.seq z)
        | false => first | exact sqT_mono hid_le (sqT_mono s z) | exact hid_le.seq (s.seq z)
      refine ⟨b1, b2, a1, a2, us1, us2, rfl, sq hs1 (Same.refl _), sq hs2 (Same.refl _), k o1 H1 _ _ g1 ⟨fun H => SqB b1 w.K H a1 us1 ∧ SqB b2 w.K H a2 us2, YPair (fun i => us1[i]?) (fun i => us2[i]?), ?_, fun o2 H2 s => ⟨sq hs1 s, sq hs2 s⟩, ?_⟩ p⟩
      · rw [zipD_len, ← DdAll.len ha1, ← DdAll.len ha2]
        exact walk_zipB
      · rintro i x o2 H2 H3 hi hn s ⟨q, u1, u2, rfl, np, rfl, e1, e2⟩
        have nh : ¬ o2 q := fun z => hn q z np
        have sm : Same (hid H2 o2) (hid (upd H2 q (.tup [u1, u2])) o2) := fun b u z => by
          obtain ⟨n1, z⟩ := hid_some z
          rw [hid_of n1, upd_ne (fun q => by rw [q, np] at z; cases z)]
          exact z
        obtain ⟨d1, hd1, rd1⟩ := DdAll.gets (ddAll_mono (s.trans sm) ha1) e1
        obtain ⟨d2, hd2, rd2⟩ := DdAll.gets (ddAll_mono (s.trans sm) ha2) e2
        refine ⟨.inr ⟨q, _, np, rfl⟩, _, zipD_get hd1 hd2, .inr ⟨rfl, q, _, _, rfl, rfl, .inl (.inl ?_), .cons rd1 (.cons rd2 .nil)⟩⟩
        rw [hid_of nh]
        exact upd_same
def rngD (lo : Int) (n : Nat) : List PyData := (List.range n).map fun i => .int (lo + (i : Nat))
theorem rngD_len (a : Int) (n : Nat) : (rngD a n).length = n := by simp [rngD]
theorem rngD_of {a : Int} {n i : Nat} {x : PyData} (h : (rngD a n)[i]? = some x) : i < n ∧ x = .int (a + (i : Nat)) := by
  have hi : i < n := by
    obtain ⟨q, _⟩ := List.getElem?_eq_some_iff.mp h
    rw [rngD_len] at q
    exact q
  unfold rngD at h
  rw [List.getElem?_map, List.getElem?_range hi] at h
  exact ⟨hi, (Option.some.inj h).symm⟩
theorem dw_rng {K : PySem.W.Frag} {a : Int} {n : Nat} {ok : (Addr → Prop) → Hp → Prop} : DW K false (Itr a n) (rngD a n) ok := by
  refine ⟨_, _, by rw [rngD_len]; exact walk_range, fun _ _ _ => trivial, ?_⟩
  rintro i x o2 H2 H3 hi hn s ⟨rfl, rfl⟩
  rw [rngD_len] at hi
  refine ⟨.inl rfl, _, ?_, .inl (.int _)⟩
  unfold rngD
  rw [List.getElem?_map, List.getElem?_range hi]
  rfl
theorem i_rng1 (h : A w tr ρ fun xs => ∃ n : Int, xs = [.dat (.int n)] ∧ -(2 ^ 62) ≤ n ∧ n < 2 ^ 62 ∧ Pd (rngD 0 n.toNat)) : If w false (iRng1 tr) ρ Pd := by
  intro o σ H R ok k
  refine h o σ H _ ok ?_
  rintro o1 H1 vs xs g1 r1 ⟨n, rfl, n1, n2, p⟩
  cases r1 with
  | cons r t =>
    cases t
    cases r
    exact ⟨n, rfl, n1, n2, k o1 H1 _ _ g1 dw_rng p⟩
theorem i_rng2 (h : A w tr ρ fun xs => ∃ a b : Int, xs = [.dat (.int a), .dat (.int b)] ∧ (-(2 ^ 62) ≤ a ∧ a < 2 ^ 62 ∧ -(2 ^ 62) ≤ b ∧ b < 2 ^ 62) ∧ Pd (rngD a (b - a).toNat)) : If w false (iRng2 tr) ρ Pd := by
  intro o σ H R ok k
  refine h o σ H _ ok ?_
  rintro o1 H1 vs xs g1 r1 ⟨a, b, rfl, n1, p⟩
  cases r1 with
  | cons r t =>
    cases t with
    | cons r2 t =>
      cases t
      cases r
      cases r2
      exact ⟨a, b, rfl, n1, k o1 H1 _ _ g1 dw_rng p⟩
def chrD (z : Str) : List PyData := z.cps.toList.map fun c => .str ⟨#[c]⟩
theorem i_str (h : E w tl ρ fun x => ∃ z : Str, x = .dat (.str z) ∧ Pd (chrD z)) : If w false (iStr tl) ρ Pd := by
  intro o σ H R ok k
  refine h o σ H _ ok ?_
  rintro o1 H1 v x g1 r1 ⟨z, rfl, p⟩
  cases r1
  refine ⟨z, rfl, k o1 H1 _ _ g1 ⟨_, _, (show (chrD z).length = z.cps.size by simp [chrD]) ▸ walk_str, fun _ _ _ => trivial, ?_⟩ p⟩
  rintro i x o2 H2 H3 hi hn s ⟨rfl, c, hc, rfl⟩
  refine ⟨.inl rfl, .str ⟨#[c]⟩, ?_, .inl (.str _)⟩
  unfold chrD
  rw [List.getElem?_map, Array.getElem?_toList, hc]
  rfl
/-- what a walk's turn leaves -/
theorem go_turn {w1 : Wd} (b : Bas w1 o H) (h : H1 = H ∨ ∃ p u, H p = none ∧ H1 = upd H p u) : Go w1 o H o H1 := by
  rcases h with rfl | ⟨p, u, np, rfl⟩
  · exact b.refl
  · exact b.new np

/-! ### loops -/
theorem s_forG (h : If w lo wi ρ fun ds => ∃ I : Nat → List Sl → Prop, I 0 ρ ∧ (∀ (k : Nat) (d : PyData) (ρ' : List Sl), ds[k]? = some d → I k ρ' → ∃ ps, TgOk w.K lo g d ps ∧ Turns w ts e I k (setsD ρ' ps)) ∧ ∀ ρ', I ds.length ρ' → e.nx ρ') :
    S w (tFor wi g ts) ρ e := by
  intro o σ H D ok kn kr kb kc
  refine h o σ H _ ok ?_
  rintro o1 H1 J ds g1 ⟨G, Y, wk, hG, hY⟩ ⟨I, h0, hs, hd⟩
  have ok1 := ok.go g1
  have b1 := ok1.toBas
  have okA := ok_in b1 ok1 (Same.refl _)
  refine for_it wk (fun k σ' H' => ∃ o' ρ', Ok (wAt w o1 H1) o' σ' H' ρ' ∧ I k ρ') ⟨o1, ρ, okA, h0⟩ (fun k σ' H' _ ⟨o', ρ', k1, _⟩ => hG o' H' (ok_out b1 k1).2) ?_ ?_
  · rintro k y σ2 H2 H3 hk ⟨o2, ρ2, ok2, i2⟩ yy
    obtain ⟨hh, d, hd1, ld⟩ := hY k y o2 H2 H3 hk ok2.toBas.hn (ok_out b1 ok2).2 yy
    have g2 := go_turn ok2.toBas hh
    obtain ⟨ps, tg, tn⟩ := hs k d ρ2 hd1 i2
    refine tg o2 H3 y σ2 _ ld fun vs hv => ?_
    refine tn (wAt w o1 H1).H0 o2 _ _ _ (ok_sets ps (ok2.go g2) hv) ?_ ?_ ?_ ?_
    · intro o' σ' H' ρ' a1 a2
      exact ⟨o', ρ', a1, a2⟩
    · intro o' H' v' d' a1 a2 a3
      exact kr o' H' v' d' (bas_out b1 a1).1 a2 a3
    · intro o' σ' H' ρ' a1 a2
      exact kn o' σ' H' ρ' (ok_out b1 a1).1 a2
    · intro o' σ' H' ρ' a1 a2
      exact ⟨o', ρ', a1, a2⟩
  · rintro σ' H' ⟨o', ρ', k1, i1⟩
    exact kn o' σ' H' ρ' (ok_out b1 k1).1 (hd ρ' i1)
/-- over a list of the def's own that stays as it is meanwhile -/
theorem s_forOwn {i : Nat} {q : Addr} {xs : List PyData} (hi : ρ[i]? = some (.own q xs)) (I : Nat → List Sl → Prop) (h0 : I 0 ρ) (hI : ∀ k ρ', I k ρ' → ρ'[i]? = some (.own q xs))
    (hs : ∀ (k : Nat) (d : PyData) (ρ' : List Sl), xs[k]? = some d → I k ρ' → ∃ ps, TgOk w.K false g d ps ∧ Turns w ts e I k (setsD ρ' ps)) (hd : ∀ ρ', I xs.length ρ' → e.nx ρ') : S w (tFor (iSeq w.K (tVar i)) g ts) ρ e := by
  intro o σ H D ok kn kr kb kc
  have at_ : ∀ {w1 : Wd} {o' : Addr → Prop} {σ' : L2.St} {H' : Hp} {ρ' : List Sl}, w1.K = w.K → Ok w1 o' σ' H' ρ' → ρ'[i]? = some (.own q xs) → ∃ v, σ'[i]? = some (some v) ∧ v = .ref q ∧ ∃ us, H' q = some (.lst us) ∧ DdAll w.K (hid H' o') us xs := by
    intro w1 o' σ' H' ρ' hK k z
    rcases k.slot i _ z with y | ⟨v, e1, e2, _, _, us, e3, e4⟩
    · cases y
    · exact ⟨v, e1, e2, us, e3, hK ▸ e4⟩
  obtain ⟨v, e1, rfl, us, e3, e4⟩ := at_ rfl ok hi
  refine ⟨.ref q, e1, q, us, rfl, .inl ⟨.inl (.inl e3), ?_⟩⟩
  have b1 := ok.toBas
  have okA := ok_in b1 ok (Same.refl _)
  let G : Hp → Prop := fun H' => ∃ us, H' q = some (.lst us) ∧ us.length = xs.length
  have wk : Walk (Itl w.K q) xs.length G (fun i H x H' => H' = H ∧ ∀ us, H q = some (.lst us) → us[i]? = some x) := by
    refine ⟨fun i H hi ⟨us, z1, z2⟩ => ⟨us, us[i]'(by omega), .inl (.inl z1), by simp [z2, hi]⟩, fun H ⟨us, z1, z2⟩ => ⟨us, .inl (.inl z1), by omega⟩, ?_⟩
    rintro i H x H' hi ⟨us, z1, z2⟩ ⟨z3, z4⟩
    refine ⟨z3, fun us' z5 => z4 us' (.inl (.inl z5))⟩
  refine for_it wk (fun k σ' H' => ∃ o' ρ', Ok (wAt w o H) o' σ' H' ρ' ∧ I k ρ') ⟨o, ρ, okA, h0⟩ (fun k σ' H' _ ⟨o', ρ', k1, k2⟩ => ?_) ?_ ?_
  · obtain ⟨_, _, _, us', z1, z2⟩ := at_ (w1 := wAt w o H) rfl k1 (hI k ρ' k2)
    exact ⟨us', z1, DdAll.len z2⟩
  · rintro k y σ2 H2 H3 hk ⟨o2, ρ2, ok2, i2⟩ ⟨rfl, hy⟩
    obtain ⟨_, _, _, us', z1, z2⟩ := at_ (w1 := wAt w o H) rfl ok2 (hI k ρ2 i2)
    obtain ⟨d, hd1, rd⟩ := DdAll.gets z2 (hy us' z1)
    obtain ⟨ps, tg, tn⟩ := hs k d ρ2 hd1 i2
    refine tg o2 _ y σ2 _ (.inl rd) fun vs hv => ?_
    refine tn (wAt w o H).H0 o2 _ _ _ (ok_sets ps ok2 hv) ?_ ?_ ?_ ?_
    · intro o' σ' H' ρ' a1 a2
      exact ⟨o', ρ', a1, a2⟩
    · intro o' H' v' d' a1 a2 a3
      exact kr o' H' v' d' (bas_out b1 a1).1 a2 a3
    · intro o' σ' H' ρ' a1 a2
      exact kn o' σ' H' ρ' (ok_out b1 a1).1 a2
    · intro o' σ' H' ρ' a1 a2
      exact ⟨o', ρ', a1, a2⟩
  · rintro σ' H' ⟨o', ρ', k1, i1⟩
    exact kn o' σ' H' ρ' (ok_out b1 k1).1 (hd ρ' i1)

/-! ### comprehensions -/
/-- how the object that is made stands for a -/
structure AccR (w : Wd) (rel : HO → V → HO → Prop) (α : Type) (Rep : (Addr → Prop) → Hp → HO → α → Prop) (C : α → PyData → α → Prop) : Prop where
  go : ∀ o1 H1 o2 H2 u a, Same (DL.hid H1 o1) (DL.hid H2 o2) → Rep o1 H1 u a → Rep o2 H2 u a
  hidn : ∀ o H u a, Rep o H u a → Hidn (some u)
  add : ∀ o H u a y z a', Rep o H u a → Dd w.K (DL.hid H o) y z → C a z a' → ∃ u2, rel u y u2 ∧ Rep o H u2 a'
/-- while it is made: D is the def's own -/
abbrev Mk (w : Wd) (vs : List Nat) (ρ : List Sl) (σ : L2.St) (o1 : Addr → Prop) (H1 : Hp) (D : Addr) {α : Type} (Rep : (Addr → Prop) → Hp → HO → α → Prop) (F : α → Prop) (H : Hp) : Prop :=
  LcG w vs ρ σ o1 H1 D (fun o H u => ∃ a, Rep o H u a ∧ F a) H
section
variable {α : Type} {rel : HO → V → HO → Prop} {Rep : (Addr → Prop) → Hp → HO → α → Prop} {C : α → PyData → α → Prop} {put : Hp → Addr → V → (Hp → Prop) → Prop} {D : Addr} {vs : List Nat}
/-- one element is made (or left out), from slots σ2 that know ρ2 -/
theorem mk_elt (ar : AccR w rel α Rep C) (hput : ∀ H y Nx, (∃ u u2, H D = some u ∧ rel u y u2 ∧ Nx (upd H D u2)) → put H D y Nx) (ok1 : Ok w o1 σ H1 ρ) (hD : H1 D = none) {σ2 : L2.St} {ρ2 : List Sl} {H3 : Hp} {u : HO} {a : α} {F : α → Prop}
    (ok3 : Ok w o2 σ2 H3 ρ2) (g3 : Go w o1 H1 o2 H3) (oD : o2 D) (e3 : H3 D = some u) (r3 : Rep o2 H3 u a) (hσ : wipe σ2 vs = wipe σ vs) (hρ : DL.clr Sl.no ρ2 vs = DL.clr Sl.no ρ vs)
    (ht : T w tt ρ2 fun b => if b = true then E w te ρ2 fun y => ∃ z a', y = .dat z ∧ C a z a' ∧ F a' else F a) {Nx : Hp → Prop} (hN : ∀ H, Mk w vs ρ σ o1 H1 D Rep F H → Nx H) :
    tt σ2 H3 fun b H4 => if b = true then te σ2 H4 fun y H5 => put H5 D y Nx else Nx H4 := by
  obtain ⟨h00, hn⟩ := own_apart ok1 hD
  have hnb : ¬ w.mu D := ok1.toBas.nb h00
  refine ht o2 σ2 H3 _ ok3 ?_
  intro o4 H4 b g4 q4
  have e4 : H4 D = some u := (g4.keep D oD hnb).trans e3
  cases b with
  | false => exact hN H4 (lcg_same (ok3.go g4) (g3.trans g4) (g4.sub D oD) e4 hσ hρ ⟨a, ar.go _ _ _ _ _ _ g4.same r3, q4⟩)
  | true =>
    refine q4 o4 σ2 H4 _ (ok3.go g4) ?_
    rintro o5 H5 y x g5 r5 ⟨z, a', rfl, hC, hF⟩
    have e5 : H5 D = some u := (g5.keep D (g4.sub D oD) hnb).trans e4
    obtain ⟨u2, hr, hr2⟩ := ar.add o5 H5 u a y z a' (ar.go _ _ _ _ _ _ (g4.trans g5).same r3) r5 hC
    refine hput H5 y Nx ⟨u, u2, e5, hr, hN _ ?_⟩
    exact lcg_put hD h00 hn ok1 ((ok3.go g4).go g5) ((g3.trans g4).trans g5) (g5.sub D (g4.sub D oD)) hσ hρ (fun H6 e6 => ⟨a', ar.go _ _ _ _ _ _ (by rw [e6]; exact Same.refl _) hr2, hF⟩) (ar.hidn _ _ _ _ hr2)
/-- one clause -/
theorem mk_one {J : It} {ds : List PyData} (ar : AccR w rel α Rep C) (hput : ∀ H y Nx, (∃ u u2, H D = some u ∧ rel u y u2 ∧ Nx (upd H D u2)) → put H D y Nx) (ok1 : Ok w o1 σ H1 ρ) (hD : H1 D = none) (dw : DW w.K lo J ds (Go w o1 H1)) {u0 : HO} {a0 : α}
    (r0 : ∀ o H, Rep o H u0 a0) (I : Nat → α → Prop) (h0 : I 0 a0)
    (hs : ∀ (k : Nat) (d : PyData) (a : α), ds[k]? = some d → I k a → ∃ ps, (∀ p ∈ ps, p.1 ∈ vs) ∧ TgOk w.K lo g d ps ∧
      T w tt (setsD (DL.clr Sl.no ρ vs) ps) fun b => if b = true then E w te (setsD (DL.clr Sl.no ρ vs) ps) fun y => ∃ z a', y = .dat z ∧ C a z a' ∧ I (k + 1) a' else I (k + 1) a)
    {Qd : Hp → Prop} (fin : ∀ H, Mk w vs ρ σ o1 H1 D Rep (I ds.length) H → Qd H) :
    ∃ W : Nat → Nat → Hp → Prop, (∃ m, W 0 m (upd H1 D u0)) ∧ ∀ n m H, W n m H → (J.stop n H ∧ Qd H) ∨ (J.go n H ∧ ∃ Nx : Hp → Prop, (∀ H', Nx H' → ∃ m', m' < m ∧ W (n + 1) m' H') ∧
      ∀ x H', J.yld n H x H' → g x (wipe σ vs) H' fun σ2 H2 => wipe σ2 vs = wipe σ vs ∧ tt σ2 H2 fun b H3 => if b = true then te σ2 H3 fun y H4 => put H4 D y Nx else Nx H3) := by
  obtain ⟨G, Y, wk, hG, hY⟩ := dw
  refine ⟨fun n m H => m = ds.length - n ∧ n ≤ ds.length ∧ Mk w vs ρ σ o1 H1 D Rep (I n) H, ⟨_, rfl, Nat.zero_le _, lcg_start ok1 hD ⟨a0, r0 _ _, h0⟩ (ar.hidn o1 H1 _ _ (r0 _ _))⟩, ?_⟩
  rintro n m H ⟨rfl, hn, st⟩
  obtain ⟨o2, u, ok2, g2, oD, e1, a, r2, hI⟩ := id st
  have gg := hG o2 H g2
  by_cases hlt : n < ds.length
  · refine .inr ⟨wk.goes n H hlt gg, Mk w vs ρ σ o1 H1 D Rep (I (n + 1)), fun H' z => ⟨ds.length - (n + 1), by omega, rfl, hlt, z⟩, fun x H' hy => ?_⟩
    obtain ⟨hh, d, hd, ld⟩ := hY n x o2 H H' hlt ok2.toBas.hn g2 (wk.yields n H x H' hlt gg hy)
    have g3 := go_turn ok2.toBas hh
    obtain ⟨ps, hv, tg, ht⟩ := hs n d a hd hI
    refine tg o2 H' x _ _ ld fun us hus => ?_
    have hσ : wipe (setsV (wipe σ vs) (ps.map (·.1)) us) vs = wipe σ vs := by
      rw [wipe_sets _ _ _ fun i hi => by
        obtain ⟨p, hp, rfl⟩ := List.mem_map.mp hi
        exact hv p hp]
      simp only [wipe_clr, clr_clr]
    obtain ⟨h00, _⟩ := own_apart ok1 hD
    refine ⟨hσ, mk_elt (F := I (n + 1)) ar hput ok1 hD (ok_sets ps (ok2.go g3) hus) (g2.trans g3) (g3.sub D oD) ((g3.keep D oD (ok1.toBas.nb h00)).trans e1) (ar.go _ _ _ _ _ _ g3.same r2) hσ ?_ ht fun H z => z⟩
    rw [clr_sets ps _ hv, clr_clr]
  · have e : n = ds.length := by omega
    subst e
    exact .inl ⟨wk.stops H gg, fin H st⟩
theorem setsD_adr : ∀ (ps : List (Nat × PyData)) {ρ : List Sl} {m : Nat} {y : Sl} {q : Addr}, (setsD ρ ps)[m]? = some y → y.adr = some q → ρ[m]? = some y
  | [], _, _, _, _, h, _ => h
  | p :: ps, ρ, m, y, q, h, a => by
    have h2 := setsD_adr ps (ρ := ρ.set p.1 (.dat p.2)) h a
    rw [List.getElem?_set'] at h2
    by_cases e : p.1 = m
    · rw [if_pos e] at h2
      cases z : ρ[m]? with
      | none => rw [z] at h2; cases h2
      | some c =>
        rw [z] at h2
        cases h2
        cases a
    · rw [if_neg e] at h2
      exact h2
theorem put_go {σ2 : L2.St} {ρ2 : List Sl} {H3 : Hp} {u2 : HO} (hu : Hidn (some u2)) (ok1 : Ok w o1 σ H1 ρ) (hD : H1 D = none) (ok3 : Ok w o2 σ2 H3 ρ2) (g : Go w o1 H1 o2 H3) (oD : o2 D)
    (no : ∀ (m : Nat) (y : Sl) (q : Addr), ρ2[m]? = some y → y.adr = some q → q ≠ D) : Ok w o2 σ2 (upd H3 D u2) ρ2 ∧ Go w o1 H1 o2 (upd H3 D u2) ∧ hid (upd H3 D u2) o2 = hid H3 o2 := by
  obtain ⟨h00, _⟩ := own_apart ok1 hD
  obtain ⟨ok4, eq4⟩ := put_own (u := u2) hu ok3 oD h00 no
  refine ⟨ok4, ⟨by rw [eq4]; exact g.same, g.sub, fun a h nb => (upd_ne fun z => ?_).trans (g.keep a h nb), fun b hb => (ok4.bag b hb).2, ok4.tab.2, ok4.here⟩, eq4⟩
  subst z
  exact ok1.hn _ h hD
theorem clr_two {β : Type} {n : β} {vs vs1 : List Nat} (sub : ∀ i ∈ vs1, i ∈ vs) (r : List β) : DL.clr n (DL.clr n r vs1) vs = DL.clr n r vs := by
  apply List.ext_getElem?
  intro k
  rw [clr_get, clr_get, clr_get]
  by_cases h1 : k ∈ vs
  · rw [if_pos h1, if_pos h1]
    by_cases h2 : k ∈ vs1
    · rw [if_pos h2]
      cases r[k]? <;> rfl
    · rw [if_neg h2]
  · rw [if_neg h1, if_neg h1, if_neg fun z => h1 (sub k z)]
/-- two clauses; the second source is data -/
theorem mk_two {J : It} {ds : List PyData} {vs1 : List Nat} (sub : ∀ i ∈ vs1, i ∈ vs) (ar : AccR w rel α Rep C) (hput : ∀ H y Nx, (∃ u u2, H D = some u ∧ rel u y u2 ∧ Nx (upd H D u2)) → put H D y Nx) (ok1 : Ok w o1 σ H1 ρ) (hD : H1 D = none) (dw : DW w.K lo J ds (Go w o1 H1)) {u0 : HO} {a0 : α}
    (r0 : ∀ o H, Rep o H u0 a0) (I : Nat → α → Prop) (h0 : I 0 a0)
    (hs : ∀ (k : Nat) (d : PyData) (a : α), ds[k]? = some d → I k a → ∃ ps, (∀ p ∈ ps, p.1 ∈ vs) ∧ TgOk w.K lo g d ps ∧
      T w tt (setsD (DL.clr Sl.no ρ vs) ps) fun b => if b = true then If w lo1 wi1 (setsD (DL.clr Sl.no ρ vs) ps) fun es => ∃ I1 : Nat → α → Prop, I1 0 a ∧
        (∀ (j : Nat) (d1 : PyData) (a1 : α), es[j]? = some d1 → I1 j a1 → ∃ qs, (∀ p ∈ qs, p.1 ∈ vs1) ∧ TgOk w.K lo1 g1 d1 qs ∧
          T w tt1 (setsD (DL.clr Sl.no (setsD (DL.clr Sl.no ρ vs) ps) vs1) qs) fun b => if b = true then E w te (setsD (DL.clr Sl.no (setsD (DL.clr Sl.no ρ vs) ps) vs1) qs) fun y => ∃ z a', y = .dat z ∧ C a1 z a' ∧ I1 (j + 1) a' else I1 (j + 1) a1) ∧
        ∀ a', I1 es.length a' → I (k + 1) a' else I (k + 1) a)
    {Qd : Hp → Prop} (fin : ∀ H, Mk w vs ρ σ o1 H1 D Rep (I ds.length) H → Qd H) :
    ∃ W : Nat → Nat → Hp → Prop, (∃ m, W 0 m (upd H1 D u0)) ∧ ∀ n m H, W n m H → (J.stop n H ∧ Qd H) ∨ (J.go n H ∧ ∃ Nx : Hp → Prop, (∀ H', Nx H' → ∃ m', m' < m ∧ W (n + 1) m' H') ∧
      ∀ x H', J.yld n H x H' → g x (wipe σ vs) H' fun σ2 H2 => wipe σ2 vs = wipe σ vs ∧ tt σ2 H2 fun b H3 => if b = true then wi1 σ2 H3 fun J1 H4 =>
        ∃ W1 : Nat → Nat → Hp → Prop, (∃ m, W1 0 m H4) ∧ ∀ j k H, W1 j k H → (J1.stop j H ∧ Nx H) ∨ (J1.go j H ∧ ∃ Nx1 : Hp → Prop, (∀ H', Nx1 H' → ∃ k', k' < k ∧ W1 (j + 1) k' H') ∧
          ∀ x H', J1.yld j H x H' → g1 x (wipe σ2 vs1) H' fun σ3 H5 => wipe σ3 vs1 = wipe σ2 vs1 ∧ tt1 σ3 H5 fun b H6 => if b = true then te σ3 H6 fun y H7 => put H7 D y Nx1 else Nx1 H6) else Nx H3) := by
  obtain ⟨G, Y, wk, hG, hY⟩ := dw
  obtain ⟨h00, hnn⟩ := own_apart ok1 hD
  have hnb : ¬ w.mu D := ok1.toBas.nb h00
  refine ⟨fun n m H => m = ds.length - n ∧ n ≤ ds.length ∧ Mk w vs ρ σ o1 H1 D Rep (I n) H, ⟨_, rfl, Nat.zero_le _, lcg_start ok1 hD ⟨a0, r0 _ _, h0⟩ (ar.hidn o1 H1 _ _ (r0 _ _))⟩, ?_⟩
  rintro n m H ⟨rfl, hn, st⟩
  obtain ⟨o2, u, ok2, g2, oD, e1, a, r2, hI⟩ := id st
  have gg := hG o2 H g2
  by_cases hlt : n < ds.length
  · refine .inr ⟨wk.goes n H hlt gg, Mk w vs ρ σ o1 H1 D Rep (I (n + 1)), fun H' z => ⟨ds.length - (n + 1), by omega, rfl, hlt, z⟩, fun x H' hy => ?_⟩
    obtain ⟨hh, d, hd, ld⟩ := hY n x o2 H H' hlt ok2.toBas.hn g2 (wk.yields n H x H' hlt gg hy)
    have g3 := go_turn ok2.toBas hh
    obtain ⟨ps, hv, tg, ht⟩ := hs n d a hd hI
    refine tg o2 H' x _ _ ld fun us hus => ?_
    have hσ : wipe (setsV (wipe σ vs) (ps.map (·.1)) us) vs = wipe σ vs := by
      rw [wipe_sets _ _ _ fun i hi => by
        obtain ⟨p, hp, rfl⟩ := List.mem_map.mp hi
        exact hv p hp]
      simp only [wipe_clr, clr_clr]
    have hρ : DL.clr Sl.no (setsD (DL.clr Sl.no ρ vs) ps) vs = DL.clr Sl.no ρ vs := by rw [clr_sets ps _ hv, clr_clr]
    have no2 : ∀ (m : Nat) (y : Sl) (q : Addr), (setsD (DL.clr Sl.no ρ vs) ps)[m]? = some y → y.adr = some q → q ≠ D := fun m y q z1 z2 =>
      hnn m y q (clr_no (setsD_adr ps z1 z2) (fun z => by rw [z] at z2; cases z2)) z2
    have ok3 := ok_sets ps (ok2.go g3) hus
    refine ⟨hσ, ?_⟩
    generalize setsV (wipe σ vs) (ps.map (·.1)) us = σ2 at hσ ok3 ⊢
    generalize setsD (DL.clr Sl.no ρ vs) ps = ρ2 at hρ ok3 ht no2
    refine ht o2 σ2 H' _ ok3 ?_
    intro o4 H4 b g4 q4
    have e4 : H4 D = some u := (g4.keep D (g3.sub D oD) hnb).trans ((g3.keep D oD hnb).trans e1)
    have r4 : Rep o4 H4 u a := ar.go _ _ _ _ _ _ (g3.trans g4).same r2
    have oD4 : o4 D := g4.sub D (g3.sub D oD)
    have ok4 := ok3.go g4
    cases b with
    | false =>
      show Mk w vs ρ σ o1 H1 D Rep (I (n + 1)) H4
      exact lcg_same ok4 ((g2.trans g3).trans g4) oD4 e4 hσ hρ ⟨a, r4, q4⟩
    | true =>
      refine q4 o4 σ2 H4 _ ok4 ?_
      rintro o5 H5 J1 es g5 ⟨G1, Y1, wk1, hG1, hY1⟩ ⟨I1, h01, hs1, hd1⟩
      have ok5 := (ok4.go g5)
      have g15 := (((g2.trans g3).trans g4).trans g5)
      have e5 : H5 D = some u := (g5.keep D oD4 hnb).trans e4
      have no3 : ∀ (qs : List (Nat × PyData)) (m : Nat) (y : Sl) (q : Addr), (setsD (DL.clr Sl.no ρ2 vs1) qs)[m]? = some y → y.adr = some q → q ≠ D := fun qs m y q z1 z2 =>
        no2 m y q (clr_no (setsD_adr qs z1 z2) (fun z => by rw [z] at z2; cases z2)) z2
      let St : Nat → Hp → Prop := fun j H => ∃ o6 u6, Ok w o6 (wipe σ2 vs1) H (DL.clr Sl.no ρ2 vs1) ∧ Go w o1 H1 o6 H ∧ Same (hid H5 o5) (hid H o6) ∧ o6 D ∧ H D = some u6 ∧ ∃ a6, Rep o6 H u6 a6 ∧ I1 j a6
      have St0 : St 0 H5 := ⟨o5, u, ok5.clr vs1, g15, Same.refl _, g5.sub D oD4, e5, a, ar.go _ _ _ _ _ _ g5.same r4, h01⟩
      refine ⟨fun j k H => k = es.length - j ∧ j ≤ es.length ∧ St j H, ⟨es.length - 0, rfl, Nat.zero_le _, St0⟩, ?_⟩
      rintro j k H ⟨rfl, hj, o6, u6, ok6, g6, s6, oD6, e6, a6, r6, hI6⟩
      have gg1 := hG1 o6 H s6
      by_cases hlt1 : j < es.length
      · refine .inr ⟨wk1.goes j H hlt1 gg1, St (j + 1), fun H' z => ⟨es.length - (j + 1), by omega, rfl, hlt1, z⟩, fun x H' hy => ?_⟩
        obtain ⟨hh1, d1, hd1', ld1⟩ := hY1 j x o6 H H' hlt1 ok6.toBas.hn s6 (wk1.yields j H x H' hlt1 gg1 hy)
        have g7 := go_turn ok6.toBas hh1
        obtain ⟨qs, hv1, tg1, ht1⟩ := hs1 j d1 a6 hd1' hI6
        refine tg1 o6 H' x _ _ ld1 fun us1 hus1 => ?_
        have hσ7 : wipe (setsV (wipe σ2 vs1) (qs.map (·.1)) us1) vs1 = wipe σ2 vs1 := by
          rw [wipe_sets _ _ _ fun i hi => by
            obtain ⟨p, hp, rfl⟩ := List.mem_map.mp hi
            exact hv1 p hp]
          simp only [wipe_clr, clr_clr]
        have hρ7 : DL.clr Sl.no (setsD (DL.clr Sl.no ρ2 vs1) qs) vs1 = DL.clr Sl.no ρ2 vs1 := by rw [clr_sets qs _ hv1, clr_clr]
        have ok7 := ok_sets qs (ok6.go g7) hus1
        refine ⟨hσ7, ?_⟩
        have e7 : H' D = some u6 := (g7.keep D oD6 hnb).trans e6
        have r7 : Rep o6 H' u6 a6 := ar.go _ _ _ _ _ _ g7.same r6
        have back : ∀ {o9 : Addr → Prop} {H9 : Hp}, Ok w o9 (setsV (wipe σ2 vs1) (qs.map (·.1)) us1) H9 (setsD (DL.clr Sl.no ρ2 vs1) qs) → Ok w o9 (wipe σ2 vs1) H9 (DL.clr Sl.no ρ2 vs1) := fun z => by
          have z2 := z.clr vs1
          rw [hσ7, hρ7] at z2
          exact z2
        refine ht1 o6 _ H' _ ok7 ?_
        intro o8 H8 b g8 q8
        have e8 : H8 D = some u6 := (g8.keep D oD6 hnb).trans e7
        cases b with
        | false => exact ⟨o8, u6, back (ok7.go g8), (g6.trans g7).trans g8, s6.trans (g7.trans g8).same, g8.sub D oD6, e8, a6, ar.go _ _ _ _ _ _ g8.same r7, q8⟩
        | true =>
          refine q8 o8 _ H8 _ (ok7.go g8) ?_
          rintro o9 H9 y x9 g9 r9 ⟨z, a', rfl, hC, hF⟩
          have e9 : H9 D = some u6 := (g9.keep D (g8.sub D oD6) hnb).trans e8
          obtain ⟨u2, hr, hr2⟩ := ar.add o9 H9 u6 a6 y z a' (ar.go _ _ _ _ _ _ (g8.trans g9).same r7) r9 hC
          have oD9 := g9.sub D (g8.sub D oD6)
          obtain ⟨okA, gA, eqA⟩ := put_go (u2 := u2) (ar.hidn _ _ _ _ hr2) ok1 hD ((ok7.go g8).go g9) (((g6.trans g7).trans g8).trans g9) oD9 (no3 qs)
          refine hput H9 y _ ⟨u6, u2, e9, hr, o9, u2, back okA, gA, ?_, oD9, upd_same, a', ar.go _ _ _ _ _ _ (by rw [eqA]; exact Same.refl _) hr2, hF⟩
          rw [eqA]
          exact s6.trans ((g7.trans g8).trans g9).same
      · have e : j = es.length := by omega
        subst e
        refine .inl ⟨wk1.stops H gg1, o6, u6, ?_, g6, oD6, e6, a6, r6, hd1 a6 hI6⟩
        have z := ok6.clr vs
        have e1 : wipe (wipe σ2 vs1) vs = wipe σ vs := by
          rw [← hσ]
          simp only [wipe_clr]
          exact clr_two sub σ2
        have e2 : DL.clr Sl.no (DL.clr Sl.no ρ2 vs1) vs = DL.clr Sl.no ρ vs := by rw [← hρ, clr_two sub]
        rw [e1, e2] at z
        exact z
  · have e : n = ds.length := by omega
    subst e
    exact .inl ⟨wk.stops H gg, fin H st⟩
end
end
end DL

/-! Comprehensions as they are used: lists, own lists, sorted sets of ints. -/
namespace DL
open PySem PySem.Spec PyProof.Rows L2
section
variable {w : Wd} {o o1 : Addr → Prop} {H H1 : Hp} {σ : L2.St} {ρ : List Sl} {P : Sl → Prop} {te : TE} {tt tt1 : TT} {ts : TS} {e : En} {lo lo1 : Bool} {wi wi1 : TI} {g g1 : TG} {vs vs1 : List Nat}
/-! ### lists -/
def relL : HO → V → HO → Prop := fun u y u2 => ∃ us, u = .lst us ∧ us.length < sizeLine ∧ u2 = .lst (us ++ [y])
def repL (w : Wd) : (Addr → Prop) → Hp → HO → List PyData → Prop := fun o H u acc => ∃ us, u = .lst us ∧ DdAll w.K (hid H o) us acc
def capL : List PyData → PyData → List PyData → Prop := fun a z a' => a.length < sizeLine ∧ a' = a ++ [z]
def putL : Hp → Addr → V → (Hp → Prop) → Prop := fun H D y Nx => ∃ acc, H D = some (.lst acc) ∧ acc.length < sizeLine ∧ Nx (upd H D (.lst (acc ++ [y])))
theorem accL : AccR w relL (List PyData) (repL w) capL := by
  refine ⟨?_, ?_, ?_⟩
  · rintro o1 H1 o2 H2 u a s ⟨us, rfl, ha⟩
    exact ⟨us, rfl, ddAll_mono s ha⟩
  · rintro o H u a ⟨us, rfl, ha⟩
    exact hidn_lst
  · rintro o H u a y z a' ⟨us, rfl, ha⟩ r ⟨hl, rfl⟩
    exact ⟨_, ⟨us, rfl, by rw [DdAll.len ha]; exact hl, rfl⟩, _, rfl, DdAll.app ha (.cons r .nil)⟩
theorem putL_ok {D : Addr} : ∀ H y Nx, (∃ u u2, H D = some u ∧ relL u y u2 ∧ Nx (upd H D u2)) → putL H D y Nx := by
  rintro H y Nx ⟨u, u2, e, ⟨us, rfl, hl, rfl⟩, n⟩
  exact ⟨us, e, hl, n⟩
theorem mkL_end {D : Addr} {F : List PyData → Prop} {Q : VK} (ok1 : Ok w o1 σ H1 ρ) (hD : H1 D = none) (hp : ∀ acc, F acc → P (.dat (.list acc))) {H2 : Hp} (st : Mk w vs ρ σ o1 H1 D (repL w) F H2)
    (k : ∀ o' H' v x, Go w o1 H1 o' H' → VR w o' H' v x → P x → Q v H') : Q (.ref D) H2 := by
  refine lcg_end ok1 hD st ?_ k
  rintro o2 u g2 ⟨acc, ⟨us, rfl, ha⟩, hF⟩ e2
  refine ⟨_, hp acc hF, Dd.lst (.inl (.inl ?_)) (ddAll_mono (hid_less fun a h => h.1) ha)⟩
  rw [hid_of fun z => z.2 rfl]
  exact e2
/-- [e for g in .. if ..] with an invariant -/
theorem e_lcG (h : Ic w lo wi ρ fun ds => ds.length ≤ sizeLine ∧ ∃ I : Nat → List PyData → Prop, I 0 [] ∧ (∀ (k : Nat) (d : PyData) (acc : List PyData), ds[k]? = some d → I k acc → ∃ ps, inVs ps vs = true ∧ TgOk w.K lo g d ps ∧ Lc w tt te (setsD (DL.clr Sl.no ρ vs) ps) I k acc) ∧
      ∀ acc, I ds.length acc → acc.length ≤ ds.length → P (.dat (.list acc))) : E w (tLc wi g tt te vs) ρ P := by
  intro o σ H Q ok k
  refine h o σ H _ ok ?_
  rintro o1 H1 J ds g1 dw ⟨hz, I, h0, hs, hp⟩ D hD
  have ok1 := ok.go g1
  have main := mk_one (Rep := repL w) (C := capL) (put := putL) (tt := tt) (te := te) (g := g) (vs := vs) (Qd := fun H => Q (.ref D) H) accL putL_ok ok1 hD dw (u0 := .lst []) (a0 := []) (fun _ _ => ⟨[], rfl, .nil⟩) (fun k acc => acc.length ≤ k ∧ I k acc) ⟨Nat.le_refl _, h0⟩ ?_ ?_
  · exact main
  · rintro n d acc hd ⟨hl, hI⟩
    obtain ⟨ps, h1, h2, h3⟩ := hs n d acc hd hI
    have hn : n < ds.length := (List.getElem?_eq_some_iff.mp hd).1
    refine ⟨ps, inVs_mem h1, h2, h3.mono fun b hb => ?_⟩
    cases b with
    | false => exact ⟨by omega, hb⟩
    | true => exact hb.mono fun x ⟨z, hx, hi⟩ => ⟨z, _, hx, ⟨by omega, rfl⟩, by rw [List.length_append, List.length_singleton]; omega, hi⟩
  · intro H2 st
    exact mkL_end ok1 hD (fun acc ⟨hl, hI⟩ => hp acc hI hl) st fun o' H' v x g r p => k o' H' v x (g1.trans g) r p
/-- [e for g in .. if ..] of data alone -/
theorem e_lcF (h : Ic w lo wi ρ fun ds => ds.length ≤ sizeLine ∧ ∃ f : PyData → Option PyData, (∀ d ∈ ds, ∃ ps, inVs ps vs = true ∧ TgOk w.K lo g d ps ∧
      T w tt (setsD (DL.clr Sl.no ρ vs) ps) fun b => if b = true then E w te (setsD (DL.clr Sl.no ρ vs) ps) fun y => ∃ z, y = .dat z ∧ f d = some z else f d = none) ∧ P (.dat (.list (ds.filterMap f)))) : E w (tLc wi g tt te vs) ρ P := by
  refine e_lcG (h.mono ?_)
  rintro ds ⟨hz, f, hs, hp⟩
  refine ⟨hz, fun k acc => acc = (ds.take k).filterMap f, rfl, ?_, ?_⟩
  · rintro k d acc hd rfl
    obtain ⟨ps, h1, h2, h3⟩ := hs d (List.mem_of_getElem? hd)
    have e1 : ds.take (k + 1) = ds.take k ++ [d] := by rw [List.take_add_one, hd]; rfl
    refine ⟨ps, h1, h2, h3.mono fun b hb => ?_⟩
    cases b with
    | false =>
      have hb : f d = none := hb
      show _ = _
      rw [e1, List.filterMap_append, List.filterMap_cons, hb]
      simp
    | true =>
      refine hb.mono fun x ⟨z, hx, hf⟩ => ⟨z, hx, ?_⟩
      show _ = _
      rw [e1, List.filterMap_append, List.filterMap_cons, hf]
      simp
  · rintro acc rfl _
    rw [List.take_length]
    exact hp
theorem e_lcM (h : Ic w lo wi ρ fun ds => ds.length ≤ sizeLine ∧ ∃ f : PyData → PyData, (∀ d ∈ ds, ∃ ps, inVs ps vs = true ∧ TgOk w.K lo g d ps ∧ E w te (setsD (DL.clr Sl.no ρ vs) ps) fun y => y = .dat (f d)) ∧ P (.dat (.list (ds.map f)))) :
    E w (tLc wi g tYes te vs) ρ P := by
  refine e_lcF (h.mono ?_)
  rintro ds ⟨hz, f, hs, hp⟩
  refine ⟨hz, fun d => some (f d), fun d hd => ?_, ?_⟩
  · obtain ⟨ps, h1, h2, h3⟩ := hs d hd
    refine ⟨ps, h1, h2, t_yes ?_⟩
    rw [if_pos rfl]
    exact h3.mono fun x hx => ⟨_, hx, rfl⟩
  · rw [show (fun d => some (f d)) = some ∘ f from rfl, List.filterMap_eq_map]
    exact hp
/-- x = [..], a list that will be changed -/
theorem s_setLcG {i : Nat} (h : Ic w lo wi ρ fun ds => ds.length ≤ sizeLine ∧ ∃ I : Nat → List PyData → Prop, I 0 [] ∧ (∀ (k : Nat) (d : PyData) (acc : List PyData), ds[k]? = some d → I k acc → ∃ ps, inVs ps vs = true ∧ TgOk w.K lo g d ps ∧ Lc w tt te (setsD (DL.clr Sl.no ρ vs) ps) I k acc) ∧
      ∀ acc p, I ds.length acc → acc.length ≤ ds.length → e.nx (ρ.set i (.own p acc))) : S w (tAsg (tLc wi g tt te vs) (gName i)) ρ e := by
  intro o σ H En ok kn kr kb kc
  refine h o σ H _ ok ?_
  rintro o1 H1 J ds g1 dw ⟨hz, I, h0, hs, hp⟩ D hD
  have ok1 := ok.go g1
  have main := mk_one (Rep := repL w) (C := capL) (put := putL) (tt := tt) (te := te) (g := g) (vs := vs) (Qd := fun H => gName i (.ref D) σ H En.nx) accL putL_ok ok1 hD dw (u0 := .lst []) (a0 := []) (fun _ _ => ⟨[], rfl, .nil⟩) (fun k acc => acc.length ≤ k ∧ I k acc) ⟨Nat.le_refl _, h0⟩ ?_ ?_
  · exact main
  · rintro n d acc hd ⟨hl, hI⟩
    obtain ⟨ps, h1, h2, h3⟩ := hs n d acc hd hI
    have hn : n < ds.length := (List.getElem?_eq_some_iff.mp hd).1
    refine ⟨ps, inVs_mem h1, h2, h3.mono fun b hb => ?_⟩
    cases b with
    | false => exact ⟨by omega, hb⟩
    | true => exact hb.mono fun x ⟨z, hx, hi⟩ => ⟨z, _, hx, ⟨by omega, rfl⟩, by rw [List.length_append, List.length_singleton]; omega, hi⟩
  · rintro H2 ⟨o2, u, ok2, g2, oD, e1, acc, ⟨us, rfl, ha⟩, hl, hI⟩
    obtain ⟨h00, hn⟩ := own_apart ok1 hD
    refine kn o2 _ _ _ ((ok1.go g2).set i (x := .own D acc) ⟨rfl, oD, h00, us, e1, ha⟩ ?_) (hp acc D hI hl)
    rintro p' e' m y' q' nj ej a'
    cases e'
    exact (hn m y' q' ej a').symm
/-- [e for g in .. if .. for g1 in .. if ..] with invariants -/
theorem e_lc2G (sub : ∀ i ∈ vs1, i ∈ vs) (h : Ic w lo wi ρ fun ds => ∃ I : Nat → List PyData → Prop, I 0 [] ∧
      (∀ (k : Nat) (d : PyData) (acc : List PyData), ds[k]? = some d → I k acc → ∃ ps, inVs ps vs = true ∧ TgOk w.K lo g d ps ∧ T w tt (setsD (DL.clr Sl.no ρ vs) ps) fun b => if b = true then
        If w lo1 wi1 (setsD (DL.clr Sl.no ρ vs) ps) fun es => ∃ I1 : Nat → List PyData → Prop, I1 0 acc ∧
          (∀ (j : Nat) (d1 : PyData) (acc1 : List PyData), es[j]? = some d1 → I1 j acc1 → ∃ qs, inVs qs vs1 = true ∧ TgOk w.K lo1 g1 d1 qs ∧ T w tt1 (setsD (DL.clr Sl.no (setsD (DL.clr Sl.no ρ vs) ps) vs1) qs) fun b =>
            if b = true then E w te (setsD (DL.clr Sl.no (setsD (DL.clr Sl.no ρ vs) ps) vs1) qs) fun y => ∃ z, y = .dat z ∧ acc1.length < sizeLine ∧ I1 (j + 1) (acc1 ++ [z]) else I1 (j + 1) acc1) ∧
          ∀ a', I1 es.length a' → I (k + 1) a' else I (k + 1) acc) ∧ ∀ acc, I ds.length acc → P (.dat (.list acc))) : E w (tLc2 wi g tt wi1 g1 tt1 te vs vs1) ρ P := by
  intro o σ H Q ok k
  refine h o σ H _ ok ?_
  rintro o1 H1 J ds g1' dw ⟨I, h0, hs, hp⟩ D hD
  have ok1 := ok.go g1'
  have main := mk_two (Rep := repL w) (C := capL) (put := putL) (tt := tt) (te := te) (g := g) (vs := vs) (wi1 := wi1) (g1 := g1) (tt1 := tt1) (lo1 := lo1) (Qd := fun H => Q (.ref D) H) sub accL putL_ok ok1 hD dw (u0 := .lst []) (a0 := []) (fun _ _ => ⟨[], rfl, .nil⟩) I h0 ?_ ?_
  · exact main
  · intro n d acc hd hI
    obtain ⟨ps, h1, h2, h3⟩ := hs n d acc hd hI
    refine ⟨ps, inVs_mem h1, h2, h3.mono fun b hb => ?_⟩
    cases b with
    | false => exact hb
    | true =>
      rw [if_pos rfl] at hb ⊢
      refine hb.mono ?_
      rintro es ⟨I1, k0, ks, kd⟩
      refine ⟨I1, k0, fun j d1 a1 hd1 hi1 => ?_, kd⟩
      obtain ⟨qs, j1, j2, j3⟩ := ks j d1 a1 hd1 hi1
      refine ⟨qs, inVs_mem j1, j2, j3.mono fun b hb => ?_⟩
      cases b with
      | false => exact hb
      | true =>
        rw [if_pos rfl] at hb ⊢
        exact hb.mono fun x ⟨z, hx, hl, hi⟩ => ⟨z, _, hx, ⟨hl, rfl⟩, hi⟩
  · intro H2 st
    exact mkL_end ok1 hD (fun acc hI => hp acc hI) st fun o' H' v x g r p => k o' H' v x (g1'.trans g) r p
theorem take_next {α : Type} {l : List α} {k : Nat} {d : α} (h : l[k]? = some d) : l.take (k + 1) = l.take k ++ [d] := by rw [List.take_add_one, h]; rfl
theorem pre_len {α β : Type} (F : α → List β) {l : List α} {k : Nat} {d : α} (h : l[k]? = some d) : ((l.take k).flatMap F).length + (F d).length ≤ (l.flatMap F).length := by
  have e : l = l.take k ++ d :: l.drop (k + 1) := by
    have hk : k < l.length := (List.getElem?_eq_some_iff.mp h).1
    have : l[k] = d := (List.getElem?_eq_some_iff.mp h).2
    rw [← this, ← List.drop_eq_getElem_cons hk, List.take_append_drop]
  have z : l.flatMap F = (l.take k).flatMap F ++ (F d ++ (l.drop (k + 1)).flatMap F) := by
    conv => lhs; rw [e]
    rw [List.flatMap_append, List.flatMap_cons]
  rw [z, List.length_append, List.length_append]
  omega
theorem pre_len1 {α β : Type} (f : α → Option β) {l : List α} {k : Nat} {d : α} {z : β} (h : l[k]? = some d) (hz : f d = some z) : ((l.take k).filterMap f).length < (l.filterMap f).length := by
  have e : l = l.take k ++ d :: l.drop (k + 1) := by
    have hk : k < l.length := (List.getElem?_eq_some_iff.mp h).1
    have : l[k] = d := (List.getElem?_eq_some_iff.mp h).2
    rw [← this, ← List.drop_eq_getElem_cons hk, List.take_append_drop]
  have q : l.filterMap f = (l.take k).filterMap f ++ (z :: (l.drop (k + 1)).filterMap f) := by
    conv => lhs; rw [e]
    rw [List.filterMap_append, List.filterMap_cons, hz]
  rw [q, List.length_append, List.length_cons]
  omega
/-- [e for g in .. if .. for g1 in .. if ..] of data alone: F, what an item of the first source leads to -/
theorem e_lc2F (sub : ∀ i ∈ vs1, i ∈ vs) (h : Ic w lo wi ρ fun ds => ∃ F : PyData → List PyData, (ds.flatMap F).length ≤ sizeLine ∧
      (∀ d ∈ ds, ∃ ps, inVs ps vs = true ∧ TgOk w.K lo g d ps ∧ T w tt (setsD (DL.clr Sl.no ρ vs) ps) fun b => if b = true then
        If w lo1 wi1 (setsD (DL.clr Sl.no ρ vs) ps) fun es => ∃ f : PyData → Option PyData, F d = es.filterMap f ∧
          ∀ d1 ∈ es, ∃ qs, inVs qs vs1 = true ∧ TgOk w.K lo1 g1 d1 qs ∧ T w tt1 (setsD (DL.clr Sl.no (setsD (DL.clr Sl.no ρ vs) ps) vs1) qs) fun b =>
            if b = true then E w te (setsD (DL.clr Sl.no (setsD (DL.clr Sl.no ρ vs) ps) vs1) qs) fun y => ∃ z, y = .dat z ∧ f d1 = some z else f d1 = none
        else F d = []) ∧ P (.dat (.list (ds.flatMap F)))) : E w (tLc2 wi g tt wi1 g1 tt1 te vs vs1) ρ P := by
  refine e_lc2G (lo1 := lo1) sub (h.mono ?_)
  rintro ds ⟨F, hz, hs, hp⟩
  refine ⟨fun k acc => acc = (ds.take k).flatMap F, rfl, ?_, ?_⟩
  · rintro k d acc hd rfl
    obtain ⟨ps, h1, h2, h3⟩ := hs d (List.mem_of_getElem? hd)
    refine ⟨ps, h1, h2, h3.mono fun b hb => ?_⟩
    have pl := pre_len F hd
    cases b with
    | false =>
      have hb : F d = [] := hb
      show _ = _
      rw [take_next hd, List.flatMap_append, List.flatMap_cons, hb]
      simp
    | true =>
      rw [if_pos rfl] at hb ⊢
      refine hb.mono ?_
      rintro es ⟨f, hF, hs1⟩
      refine ⟨fun j acc1 => acc1 = (ds.take k).flatMap F ++ (es.take j).filterMap f, by simp, ?_, ?_⟩
      · rintro j d1 acc1 hd1 rfl
        obtain ⟨qs, j1, j2, j3⟩ := hs1 d1 (List.mem_of_getElem? hd1)
        refine ⟨qs, j1, j2, j3.mono fun b hb => ?_⟩
        cases b with
        | false =>
          have hb : f d1 = none := hb
          show _ = _
          rw [take_next hd1, List.filterMap_append, List.filterMap_cons, hb]
          simp
        | true =>
          rw [if_pos rfl] at hb ⊢
          refine hb.mono fun x ⟨z, hx, hf⟩ => ⟨z, hx, ?_, ?_⟩
          · have := pre_len1 f hd1 hf
            rw [hF] at pl
            rw [List.length_append]
            omega
          · show _ = _
            rw [take_next hd1, List.filterMap_append, List.filterMap_cons, hf]
            simp
      · rintro a' rfl
        show _ = _
        rw [List.take_length, take_next hd, List.flatMap_append, List.flatMap_cons, hF]
        simp
  · rintro acc rfl
    rw [List.take_length]
    exact hp

/-! ### sorted sets of ints -/
def addL (L : List Int) (k : Int) : List Int := if k ∈ L then L else L ++ [k]
theorem addL_mem {L : List Int} {k x : Int} : x ∈ addL L k ↔ x ∈ L ∨ x = k := by
  unfold addL
  split
  · constructor
    · exact .inl
    · rintro (h | rfl)
      · exact h
      · assumption
  · simp
theorem addL_nd {L : List Int} {k : Int} (h : L.Nodup) : (addL L k).Nodup := by
  unfold addL
  split
  · exact h
  · rename_i hk
    rw [List.nodup_append]
    refine ⟨h, by simp, fun a ha b hb => ?_⟩
    rw [List.mem_singleton.mp hb]
    rintro rfl
    exact hk ha
theorem addL_len {L : List Int} {k : Int} : (addL L k).length ≤ L.length + 1 := by
  unfold addL
  split
  · omega
  · simp
def repI (W : World) (D : Addr) : (Addr → Prop) → Hp → HO → List Int → Prop := fun _ _ u L => u = SetO W D (fun j => decide (j ∈ L)) L.length ∧ L.Nodup
def capI : List Int → PyData → List Int → Prop := fun L z L' => ∃ k, z = .int k ∧ L.length + 1 < scanBound ∧ L' = addL L k
theorem accI {W : World} {D : Addr} : AccR w (relI W D) (List Int) (repI W D) capI := by
  refine ⟨fun _ _ _ _ _ _ _ h => h, ?_, ?_⟩
  · rintro o H u L ⟨rfl, _⟩
    exact ⟨(fun z => nomatch z), (fun c q z => setO_hid (Option.some.inj z)), (fun _ _ z => by unfold SetO at z; cases z)⟩
  · rintro o H u L y z L' ⟨rfl, nd⟩ r ⟨k, rfl, room, rfl⟩
    cases r
    refine ⟨_, ⟨_, _, k, rfl, rfl, room, rfl⟩, ?_, addL_nd nd⟩
    have e1 : (fun j => decide (j ∈ addL L k)) = fun j => (decide (j ∈ L) || decide (j = k)) := by
      funext j
      rw [Bool.eq_iff_iff]
      simp [addL_mem]
    have e2 : (addL L k).length = if (decide (k ∈ L)) = true then L.length else L.length + 1 := by
      unfold addL
      by_cases h : k ∈ L
      · simp [h]
      · simp [h]
    rw [e1, e2]
theorem mkI_end {W : World} {D : Addr} {F : List Int → Prop} {Q : VK} (ok1 : Ok w o1 σ H1 ρ) (hD : H1 D = none) (hp : ∀ L, L.Nodup → F L → L.length < 64 ∧ ∀ ns : List Int, ns.Pairwise (· < ·) → (∀ x, x ∈ ns ↔ x ∈ L) → P (.dat (.list (ns.map .int)))) {H2 : Hp}
    (st : Mk w vs ρ σ o1 H1 D (repI W D) F H2) (k : ∀ o' H' v x, Go w o1 H1 o' H' → VR w o' H' v x → P x → Q v H') : rSortedSet W [V.ref D] H2 Q := by
  obtain ⟨o2, u, ok2, g2, oD, e1, L, ⟨rfl, nd⟩, hF⟩ := st
  obtain ⟨l64, hq⟩ := hp L nd hF
  refine ⟨D, _, _, rfl, e1, l64, fun ns p hs hm hl np => ?_⟩
  have b2 := ok2.toBas
  have gn := b2.new (u := .lst (ns.map V.int)) np
  have m2 : ∀ x, x ∈ ns ↔ x ∈ L := fun x => by rw [hm]; simp
  refine k o2 _ _ (.dat (.list (ns.map .int))) (g2.trans gn) ?_ (hq ns hs m2)
  exact Dd.lst (.inl (.inl (b2.seen np))) (DdAll.ofInts ns)
/-- sorted({e for g in .. if ..}) with an invariant -/
theorem e_sortScG {W : World} (h : Ic w lo wi ρ fun ds => ∃ I : Nat → List Int → Prop, I 0 [] ∧ (∀ (k : Nat) (d : PyData) (L : List Int), ds[k]? = some d → I k L → ∃ ps, inVs ps vs = true ∧ TgOk w.K lo g d ps ∧
        T w tt (setsD (DL.clr Sl.no ρ vs) ps) fun b => if b = true then E w te (setsD (DL.clr Sl.no ρ vs) ps) fun y => ∃ z : Int, y = .dat (.int z) ∧ L.length + 1 < scanBound ∧ I (k + 1) (addL L z) else I (k + 1) L) ∧
      ∀ L, L.Nodup → I ds.length L → L.length < 64 ∧ ∀ ns : List Int, ns.Pairwise (· < ·) → (∀ x, x ∈ ns ↔ x ∈ L) → P (.dat (.list (ns.map .int)))) :
    E w (tCB (rSortedSet W) (tCons (tScG (relI W) (mkI W) wi g tt te vs) tNil)) ρ P := by
  intro o σ H Q ok k
  refine h o σ H _ ok ?_
  rintro o1 H1 J ds g1 dw ⟨I, h0, hs, hp⟩ D hD
  have ok1 := ok.go g1
  have e0 : mkI W D = SetO W D (fun j => decide (j ∈ ([] : List Int))) ([] : List Int).length := by
    unfold mkI
    simp
  rw [e0]
  refine mk_one (Rep := repI W D) (C := capI) (put := fun H D y Nx => ∃ u u2, H D = some u ∧ relI W D u y u2 ∧ Nx (upd H D u2)) accI (fun _ _ _ z => z) ok1 hD dw (a0 := []) (fun _ _ => ⟨rfl, List.nodup_nil⟩) I h0 ?_ ?_
  · intro n d L hd hI
    obtain ⟨ps, h1, h2, h3⟩ := hs n d L hd hI
    refine ⟨ps, inVs_mem h1, h2, h3.mono fun b hb => ?_⟩
    cases b with
    | false => exact hb
    | true =>
      rw [if_pos rfl] at hb ⊢
      exact hb.mono fun x ⟨z, hx, hl, hi⟩ => ⟨_, _, hx, ⟨z, rfl, hl, rfl⟩, hi⟩
  · intro H2 st
    exact mkI_end ok1 hD hp st fun o' H' v x g r p => k o' H' v x (g1.trans g) r p
theorem e_sortSc2G {W : World} (sub : ∀ i ∈ vs1, i ∈ vs) (h : Ic w lo wi ρ fun ds => ∃ I : Nat → List Int → Prop, I 0 [] ∧
      (∀ (k : Nat) (d : PyData) (L : List Int), ds[k]? = some d → I k L → ∃ ps, inVs ps vs = true ∧ TgOk w.K lo g d ps ∧ T w tt (setsD (DL.clr Sl.no ρ vs) ps) fun b => if b = true then
        If w lo1 wi1 (setsD (DL.clr Sl.no ρ vs) ps) fun es => ∃ I1 : Nat → List Int → Prop, I1 0 L ∧
          (∀ (j : Nat) (d1 : PyData) (L1 : List Int), es[j]? = some d1 → I1 j L1 → ∃ qs, inVs qs vs1 = true ∧ TgOk w.K lo1 g1 d1 qs ∧ T w tt1 (setsD (DL.clr Sl.no (setsD (DL.clr Sl.no ρ vs) ps) vs1) qs) fun b =>
            if b = true then E w te (setsD (DL.clr Sl.no (setsD (DL.clr Sl.no ρ vs) ps) vs1) qs) fun y => ∃ z : Int, y = .dat (.int z) ∧ L1.length + 1 < scanBound ∧ I1 (j + 1) (addL L1 z) else I1 (j + 1) L1) ∧
          ∀ a', I1 es.length a' → I (k + 1) a' else I (k + 1) L) ∧
      ∀ L, L.Nodup → I ds.length L → L.length < 64 ∧ ∀ ns : List Int, ns.Pairwise (· < ·) → (∀ x, x ∈ ns ↔ x ∈ L) → P (.dat (.list (ns.map .int)))) :
    E w (tCB (rSortedSet W) (tCons (tScG2 (relI W) (mkI W) wi g tt wi1 g1 tt1 te vs vs1) tNil)) ρ P := by
  intro o σ H Q ok k
  refine h o σ H _ ok ?_
  rintro o1 H1 J ds g1' dw ⟨I, h0, hs, hp⟩ D hD
  have ok1 := ok.go g1'
  have e0 : mkI W D = SetO W D (fun j => decide (j ∈ ([] : List Int))) ([] : List Int).length := by
    unfold mkI
    simp
  rw [e0]
  refine mk_two (Rep := repI W D) (C := capI) (lo1 := lo1) (put := fun H D y Nx => ∃ u u2, H D = some u ∧ relI W D u y u2 ∧ Nx (upd H D u2)) sub accI (fun _ _ _ z => z) ok1 hD dw (a0 := []) (fun _ _ => ⟨rfl, List.nodup_nil⟩) I h0 ?_ ?_
  · intro n d L hd hI
    obtain ⟨ps, h1, h2, h3⟩ := hs n d L hd hI
    refine ⟨ps, inVs_mem h1, h2, h3.mono fun b hb => ?_⟩
    cases b with
    | false => exact hb
    | true =>
      rw [if_pos rfl] at hb ⊢
      refine hb.mono ?_
      rintro es ⟨I1, k0, ks, kd⟩
      refine ⟨I1, k0, fun j d1 a1 hd1 hi1 => ?_, kd⟩
      obtain ⟨qs, j1, j2, j3⟩ := ks j d1 a1 hd1 hi1
      refine ⟨qs, inVs_mem j1, j2, j3.mono fun b hb => ?_⟩
      cases b with
      | false => exact hb
      | true =>
        rw [if_pos rfl] at hb ⊢
        exact hb.mono fun x ⟨z, hx, hl, hi⟩ => ⟨_, _, hx, ⟨z, rfl, hl, rfl⟩, hi⟩
  · intro H2 st
    exact mkI_end ok1 hD hp st fun o' H' v x g r p => k o' H' v x (g1'.trans g) r p
/-- a list of ints without doubles within B is no longer than it -/
theorem nd_sub : ∀ {L B : List Int}, L.Nodup → (∀ x ∈ L, x ∈ B) → L.length ≤ B.length
  | [], B, _, _ => Nat.zero_le _
  | x :: L, B, nd, h => by
    have hx := h x (List.mem_cons_self ..)
    have nd2 := List.nodup_cons.mp nd
    have := nd_sub (L := L) (B := B.erase x) nd2.2 fun y hy => (List.mem_erase_of_ne (fun z : y = x => nd2.1 (z ▸ hy))).mpr (h y (List.mem_cons_of_mem _ hy))
    rw [List.length_erase_of_mem hx] at this
    have hp := List.length_pos_of_mem hx
    rw [List.length_cons]
    omega
/-- sorted({e for g in .. if .. for g1 in .. if ..}) of data alone -/
theorem e_sortSc2F {W : World} (sub : ∀ i ∈ vs1, i ∈ vs) (h : Ic w lo wi ρ fun ds => ∃ (F : PyData → List Int) (B : List Int), B.length < 64 ∧
      (∀ d ∈ ds, (∀ x ∈ F d, x ∈ B) ∧ ∃ ps, inVs ps vs = true ∧ TgOk w.K lo g d ps ∧ T w tt (setsD (DL.clr Sl.no ρ vs) ps) fun b => if b = true then
        If w lo1 wi1 (setsD (DL.clr Sl.no ρ vs) ps) fun es => ∃ f : PyData → Option Int, F d = es.filterMap f ∧
          ∀ d1 ∈ es, ∃ qs, inVs qs vs1 = true ∧ TgOk w.K lo1 g1 d1 qs ∧ T w tt1 (setsD (DL.clr Sl.no (setsD (DL.clr Sl.no ρ vs) ps) vs1) qs) fun b =>
            if b = true then E w te (setsD (DL.clr Sl.no (setsD (DL.clr Sl.no ρ vs) ps) vs1) qs) fun y => ∃ z : Int, y = .dat (.int z) ∧ f d1 = some z else f d1 = none
        else F d = []) ∧ ∀ ns : List Int, ns.Pairwise (· < ·) → (∀ x, x ∈ ns ↔ ∃ d ∈ ds, x ∈ F d) → P (.dat (.list (ns.map .int)))) :
    E w (tCB (rSortedSet W) (tCons (tScG2 (relI W) (mkI W) wi g tt wi1 g1 tt1 te vs vs1) tNil)) ρ P := by
  refine e_sortSc2G (lo1 := lo1) sub (h.mono ?_)
  rintro ds ⟨F, B, hB, hs, hp⟩
  have few : ∀ {L : List Int}, L.Nodup → (∀ x ∈ L, x ∈ B) → L.length + 1 < scanBound := fun nd h => Nat.lt_of_le_of_lt (Nat.succ_le_succ (nd_sub nd h)) (Nat.lt_of_lt_of_le (Nat.succ_lt_succ hB) (by decide))
  refine ⟨fun k L => L.Nodup ∧ (∀ x ∈ L, x ∈ B) ∧ ∀ x, x ∈ L ↔ ∃ d ∈ ds.take k, x ∈ F d, ⟨List.nodup_nil, ⟨by simp, by simp⟩⟩, ?_, ?_⟩
  · rintro k d L hd ⟨nd, hb, hm⟩
    obtain ⟨hFB, ps, h1, h2, h3⟩ := hs d (List.mem_of_getElem? hd)
    have mem_next : ∀ x, (∃ c ∈ ds.take (k + 1), x ∈ F c) ↔ x ∈ L ∨ x ∈ F d := fun x => by
      rw [hm, take_next hd]
      constructor
      · rintro ⟨c, hc, hx⟩
        rcases List.mem_append.mp hc with z | z
        · exact .inl ⟨c, z, hx⟩
        · rw [List.mem_singleton.mp z] at hx
          exact .inr hx
      · rintro (⟨c, hc, hx⟩ | hx)
        · exact ⟨c, List.mem_append.mpr (.inl hc), hx⟩
        · exact ⟨d, List.mem_append.mpr (.inr (List.mem_singleton.mpr rfl)), hx⟩
    refine ⟨ps, h1, h2, h3.mono fun b hb2 => ?_⟩
    cases b with
    | false =>
      have hb2 : F d = [] := hb2
      refine ⟨nd, hb, fun x => ?_⟩
      rw [mem_next, hb2]
      simp
    | true =>
      rw [if_pos rfl] at hb2 ⊢
      refine hb2.mono ?_
      rintro es ⟨f, hF, hs1⟩
      refine ⟨fun j L1 => L1.Nodup ∧ (∀ x ∈ L1, x ∈ B) ∧ ∀ x, x ∈ L1 ↔ x ∈ L ∨ x ∈ (es.take j).filterMap f, ⟨nd, hb, fun x => by simp⟩, ?_, ?_⟩
      · rintro j d1 L1 hd1 ⟨nd1, hb1, hm1⟩
        obtain ⟨qs, j1, j2, j3⟩ := hs1 d1 (List.mem_of_getElem? hd1)
        refine ⟨qs, j1, j2, j3.mono fun b hb3 => ?_⟩
        cases b with
        | false =>
          have hb3 : f d1 = none := hb3
          refine ⟨nd1, hb1, fun x => ?_⟩
          rw [hm1, take_next hd1, List.filterMap_append, List.filterMap_cons, hb3]
          simp
        | true =>
          rw [if_pos rfl] at hb3 ⊢
          refine hb3.mono fun x ⟨z, hx, hf⟩ => ⟨z, hx, few nd1 hb1, addL_nd nd1, fun x hx => ?_, fun x => ?_⟩
          · rcases addL_mem.mp hx with z2 | rfl
            · exact hb1 x z2
            · refine hFB x ?_
              rw [hF]
              exact List.mem_filterMap.mpr ⟨d1, List.mem_of_getElem? hd1, hf⟩
          · rw [addL_mem, hm1, take_next hd1, List.filterMap_append, List.filterMap_cons, hf]
            simp [or_assoc]
      · rintro L1 ⟨nd1, hb1, hm1⟩
        refine ⟨nd1, hb1, fun x => ?_⟩
        rw [mem_next, hm1, List.take_length, hF]
  · rintro L nd ⟨_, hb, hm⟩
    refine ⟨Nat.lt_of_le_of_lt (nd_sub nd hb) hB, fun ns hs2 hm2 => hp ns hs2 fun x => ?_⟩
    rw [hm2, hm, List.take_length]
/-- sorted({e for g in .. if ..}) of data alone -/
theorem e_sortScF {W : World} (h : Ic w lo wi ρ fun ds => ∃ (f : PyData → Option Int) (B : List Int), B.length < 64 ∧
      (∀ d ∈ ds, (∀ x, f d = some x → x ∈ B) ∧ ∃ ps, inVs ps vs = true ∧ TgOk w.K lo g d ps ∧ T w tt (setsD (DL.clr Sl.no ρ vs) ps) fun b => if b = true then E w te (setsD (DL.clr Sl.no ρ vs) ps) fun y => ∃ z : Int, y = .dat (.int z) ∧ f d = some z else f d = none) ∧
      ∀ ns : List Int, ns.Pairwise (· < ·) → (∀ x, x ∈ ns ↔ ∃ d ∈ ds, f d = some x) → P (.dat (.list (ns.map .int)))) :
    E w (tCB (rSortedSet W) (tCons (tScG (relI W) (mkI W) wi g tt te vs) tNil)) ρ P := by
  refine e_sortScG (h.mono ?_)
  rintro ds ⟨f, B, hB, hs, hp⟩
  have few : ∀ {L : List Int}, L.Nodup → (∀ x ∈ L, x ∈ B) → L.length + 1 < scanBound := fun nd h => Nat.lt_of_le_of_lt (Nat.succ_le_succ (nd_sub nd h)) (Nat.lt_of_lt_of_le (Nat.succ_lt_succ hB) (by decide))
  refine ⟨fun k L => L.Nodup ∧ (∀ x ∈ L, x ∈ B) ∧ ∀ x, x ∈ L ↔ x ∈ (ds.take k).filterMap f, ⟨List.nodup_nil, ⟨by simp, by simp⟩⟩, ?_, ?_⟩
  · rintro k d L hd ⟨nd, hb, hm⟩
    obtain ⟨hFB, ps, h1, h2, h3⟩ := hs d (List.mem_of_getElem? hd)
    refine ⟨ps, h1, h2, h3.mono fun b hb2 => ?_⟩
    cases b with
    | false =>
      have hb2 : f d = none := hb2
      refine ⟨nd, hb, fun x => ?_⟩
      rw [hm, take_next hd, List.filterMap_append, List.filterMap_cons, hb2]
      simp
    | true =>
      rw [if_pos rfl] at hb2 ⊢
      refine hb2.mono fun x ⟨z, hx, hf⟩ => ⟨z, hx, few nd hb, addL_nd nd, fun x hx => ?_, fun x => ?_⟩
      · rcases addL_mem.mp hx with z2 | rfl
        · exact hb x z2
        · exact hFB x hf
      · rw [addL_mem, hm, take_next hd, List.filterMap_append, List.filterMap_cons, hf]
        simp
  · rintro L nd ⟨_, hb, hm⟩
    refine ⟨Nat.lt_of_le_of_lt (nd_sub nd hb) hB, fun ns hs2 hm2 => hp ns hs2 fun x => ?_⟩
    rw [hm2, hm, List.take_length, List.mem_filterMap]
end
end DL

/-! Built-ins over data: sorted of any alike data, in, not in, lists times numbers. -/
namespace DL
open PySem PySem.Spec PyProof.Rows L2
section
variable {X : Cx} {pins : List (Addr × Obj)} {σ : L2.St} {H : Hp} {s : Shared}
mutual
theorem Dd.reads (I : Inv X pins σ H s) : ∀ {v : V} {d : PyData}, Dd X.K H v d → ∀ u : Value, RelV v u → ∃ as, Reads s.heap u d as
  | _, _, .non, u, r => by cases r; exact ⟨_, .none⟩
  | _, _, .bl b, u, r => by cases r; exact ⟨_, .bool b⟩
  | _, _, .int i, u, r => by obtain ⟨t, rfl⟩ := r; exact ⟨_, .int i t⟩
  | _, _, .str x, u, r => by obtain ⟨t, rfl⟩ := r; exact ⟨_, .str x t⟩
  | _, _, .lst hs ha, u, r => by
    cases r
    obtain ⟨its, rv, ⟨o, n, e1, e2, _, e3⟩, _⟩ := I.list hs
    obtain ⟨as, q⟩ := DdAll.reads I ha its rv
    exact ⟨_, .list e1 e2 e3 q⟩
  | _, _, .tup hs ha, u, r => by
    cases r
    obtain ⟨its, rv, ⟨o, e1, e2, n, e3⟩, _⟩ := I.tuple hs.t
    obtain ⟨as, q⟩ := DdAll.reads I ha its rv
    exact ⟨_, .tuple e1 e2 e3 q⟩
  | _, _, .dic hs ha, u, r => by
    cases r
    obtain ⟨_, hsys, vs, hv, o, es, ep, e1, e2, e3, _, e4, _⟩ := (show ObjOk X.prog X.w H s.heap _ (.dK _) from hs.ok I.hok)
    obtain ⟨b1, b2, q1, q2⟩ := DdKv.reads I ha es.toList vs hv e4
    exact ⟨_, .dict e1 e2.1 e3 q1 q2⟩
theorem DdAll.reads (I : Inv X pins σ H s) : ∀ {vs : List V} {ds : List PyData}, DdAll X.K H vs ds → ∀ us : List Value, Vals vs us → ∃ as, ReadsAll s.heap us ds as
  | _, _, .nil, us, r => by cases r; exact ⟨_, .nil⟩
  | _, _, .cons h1 h2, us, r => by
    cases r with
    | cons r1 r2 =>
      obtain ⟨a, q1⟩ := Dd.reads I h1 _ r1
      obtain ⟨b, q2⟩ := DdAll.reads I h2 _ r2
      exact ⟨_, .cons q1 q2⟩
theorem DdKv.reads (I : Inv X pins σ H s) : ∀ {kvs : List (Key × V)} {ps : List (PyData × PyData)}, DdKv X.K H kvs ps → ∀ (es : List DictEntry) (vs : List (Key × Value)), KV kvs vs → PySem.Pairs (mixKind X.prog X.w) es vs →
    ∃ b1 b2, ReadsAll s.heap (es.map (·.key)) (ps.map (·.1)) b1 ∧ ReadsAll s.heap (es.map (·.val)) (ps.map (·.2)) b2
  | _, _, .nil, es, vs, hv, hp => by
    cases hv
    cases hp
    exact ⟨_, _, .nil, .nil⟩
  | _, _, .cons (k := k) (d := d) (ps := ps) h1 h2, es, vs, hv, hp => by
    cases hv with
    | cons hx ht =>
      obtain ⟨ek, rv⟩ := hx
      cases hp with
      | cons ik ev hp2 =>
        obtain ⟨c1, c2, t1, t2⟩ := DdKv.reads I h2 _ _ ht hp2
        obtain ⟨b2, s2⟩ := Dd.reads I h1 _ rv
        rw [← ev] at s2
        have ek : k = _ := ek
        rw [← ek] at ik
        rcases keyIs_shape ik with ⟨i, t, e1, e2⟩ | ⟨x, t, e1, e2⟩
        · have rk : ∀ v : Value, v = Value.int i t → Reads s.heap v (keyD k) [] := by
            rintro v rfl
            rw [e1]
            exact .int i t
          exact ⟨_, _, .cons (rk _ e2) t1, .cons s2 t2⟩
        · have rk : ∀ v : Value, v = Value.str x t → Reads s.heap v (keyD k) [] := by
            rintro v rfl
            rw [e1]
            exact .str x t
          exact ⟨_, _, .cons (rk _ e2) t1, .cons s2 t2⟩
end
end

/-! ### sorted of any alike data -/
def SortOk (ds : List PyData) : Prop := PySem.W.AllAlike ds ∧ PySem.W.Sortable ds ∧ ∀ d ∈ ds, d.depth ≤ 60
def sortD (ds : List PyData) : List PyData := ds.mergeSort (PySem.W.dataLe false id)
def rSortD (K : PySem.W.Frag) : List V → Hp → VK → Prop := fun vs H Q => ∃ (a : Addr) (xs : List V) (ds : List PyData) (H0 : Hp), vs = [V.ref a] ∧ SqL K H a xs ∧ Same H0 H ∧ DdAll K H0 xs ds ∧ SortOk ds ∧
  ∀ (ys : List V) (p : Addr), DdAll K H0 ys (sortD ds) → H p = none → Q (.ref p) (upd H p (.lst ys))
theorem each_of {K : PySem.W.Frag} {H : Hp} : ∀ {xs : List V} {ds : List PyData} {us : List Value}, DdAll K H xs ds → Vals xs us → PySem.W.EachIs (fun v d => ∃ y : V, RelV y v ∧ Dd K H y d) us ds
  | _, _, _, .nil, r => by cases r; exact .nil
  | _, _, _, .cons h1 h2, r => by
    cases r with
    | cons r1 r2 => exact .cons ⟨_, r1, h1⟩ (each_of h2 r2)
theorem of_each {K : PySem.W.Frag} {H : Hp} : ∀ {ds : List PyData} {us : List Value}, PySem.W.EachIs (fun v d => ∃ y : V, RelV y v ∧ Dd K H y d) us ds → ∃ ys, Vals ys us ∧ DdAll K H ys ds
  | _, _, .nil => ⟨[], .nil, .nil⟩
  | _, _, .cons ⟨y, r, h⟩ t => by
    obtain ⟨ys, r2, h2⟩ := of_each t
    exact ⟨y :: ys, .cons r r2, .cons h h2⟩
theorem each_reads {h : Heap} : ∀ {us : List Value} {ds : List PyData} {as : List Addr}, ReadsAll h us ds as → PySem.W.EachIs (fun v d => ∃ as, Reads h v (id d) as) us ds
  | _, _, _, .nil => .nil
  | _, _, _, .cons r t => .cons ⟨_, r⟩ (each_reads t)
section
variable {X : Cx}
theorem call_sortD {K : PySem.W.Frag} (hK : X.K = K) (hu : X.A.units + 64 < cLine) : CallR X (.builtin "sorted") (rSortD K) := by
  subst hK
  intro pins s σ H vs us Q I r h
  obtain ⟨a, xs, ds, H0, rfl, hq, sm, hd, ⟨al, so, dp⟩, q⟩ := h
  obtain ⟨its, rv, hl, hz⟩ := I.list hq
  obtain ⟨u, rfl, ru⟩ := vals1 r
  obtain rfl : u = Value.ref a := ru
  obtain ⟨as, rd⟩ := DdAll.reads I (ddAll_mono sm hd) its rv
  have ln := DdAll.len hd
  have lr := rv.length
  refine PySem.W.sorted_data (enc := id) (R := fun v d => ∃ y : V, RelV y v ∧ Dd X.K H0 y d) hl.isList (each_of hd rv) (each_reads rd) (by simpa using al) (by simpa using so) (by omega) (fun d hd => ?_) fun out lo he => ?_
  · have := dp d hd
    show X.A.units + 2 + d.depth < cLine
    omega
  · obtain ⟨ys, r2, h2⟩ := of_each he
    obtain ⟨n, hn⟩ := PyProof.Rows.sortedAll_at s.heap its out.toArray
    have l2 := r2.length
    exact ⟨.ref _, upd H (s.heap.objs.size + 1) (.lst ys), I.laid (t' := s.toks) (fun _ _ => PyProof.Rows.sortedAll_old) (Nat.le_succ _) ⟨by omega, out, n, r2, hn⟩, rfl, q ys _ h2 (I.hok.fresh (Nat.le_succ _))⟩

theorem atI_getD {ds : List PyData} {x : Int} {z : PyData} (h0 : 0 ≤ x) (h : atI ds x = some z) : ds[x.toNat]? = some z ∧ ds.getD x.toNat .none = z := by
  unfold atI ixN at h
  rw [if_pos h0] at h
  have e : ds[x.toNat]? = some z := by
    split at h
    · exact h
    · cases h
  exact ⟨e, by rw [List.getD_eq_getElem?_getD, e]; rfl⟩
/-! ### in, not in -/
def rInA (K : PySem.W.Frag) (neg : Bool) : R2 := fun x y H Q => ∃ d ds, Dd K H x d ∧ (Dd K H y (.list ds) ∨ Dd K H y (.tuple ds)) ∧ SeqAt.shaped d = true ∧ SeqAt.shaped (.list ds) = true ∧ Q (.bl (if neg = true then !ds.any fun z => PyData.eqv z d else ds.any fun z => PyData.eqv z d)) H
theorem op_inA {K : PySem.W.Frag} (hK : X.K = K) (hu : X.A.units + 65 < cLine) : OpR X (compareOp .In) (rInA K false) := by
  subst hK
  intro pins s σ H x y v u Q I rx ry h
  obtain ⟨d, ds, hd, he, sd, se, q⟩ := h
  obtain ⟨as, r1⟩ := Dd.reads I hd v rx
  rcases he with he | he
  · obtain ⟨bs, r2⟩ := Dd.reads I he u ry
    exact SeqAt.in_list_reads r2 r1 (SeqAt.canLay_of_shaped se) (SeqAt.canLay_of_shaped sd) (room_in_shaped sd hu) ⟨.bl _, H, I, rfl, q⟩
  · obtain ⟨bs, r2⟩ := Dd.reads I he u ry
    exact SeqAt.in_tuple_reads r2 r1 (SeqAt.canLay_of_shaped se) (SeqAt.canLay_of_shaped sd) (room_in_shaped sd hu) ⟨.bl _, H, I, rfl, q⟩
theorem op_notInA {K : PySem.W.Frag} (hK : X.K = K) (hu : X.A.units + 65 < cLine) : OpR X (compareOp .NotIn) (rInA K true) := by
  subst hK
  intro pins s σ H x y v u Q I rx ry h
  obtain ⟨d, ds, hd, he, sd, se, q⟩ := h
  obtain ⟨as, r1⟩ := Dd.reads I hd v rx
  rcases he with he | he
  · obtain ⟨bs, r2⟩ := Dd.reads I he u ry
    exact SeqAt.notIn_list_reads r2 r1 (SeqAt.canLay_of_shaped se) (SeqAt.canLay_of_shaped sd) (room_in_shaped sd hu) ⟨.bl _, H, I, rfl, q⟩
  · obtain ⟨bs, r2⟩ := Dd.reads I he u ry
    exact SeqAt.notIn_tuple_reads r2 r1 (SeqAt.canLay_of_shaped se) (SeqAt.canLay_of_shaped sd) (room_in_shaped sd hu) ⟨.bl _, H, I, rfl, q⟩
theorem call_sortedSet {W : World} (hw : X.w = W) (hc : X.calm = true) : CallR X (.builtin "sorted") (rSortedSet W) := by
  subst hw
  exact cr_sortedSet hc
end
section
variable {w : Wd} {ρ : List Sl} {P : Sl → Prop} {te : TE} {tr : TA}
theorem cl_sortD : Cl w (rSortD w.K) (fun xs P => ∃ (x : Sl) (ds : List PyData), xs = [x] ∧ lstD x = some ds ∧ SortOk ds ∧ P (.dat (.list (sortD ds)))) := by
  rintro o H vs xs P Q b r ⟨x, ds, rfl, hx, ok, q⟩ k
  cases r with
  | cons r t =>
    cases t
    obtain ⟨a, us, rfl, hs, ha⟩ := r.lst hx
    refine ⟨a, us, ds, hid H o, rfl, hs, hid_le, ha, ok, fun ys p hy np => ?_⟩
    have g := b.new (u := .lst ys) np
    exact k o _ _ _ g (VR.dat (Dd.lst (.inl (.inl (b.seen np))) (ddAll_mono g.same hy))) q
theorem op2_inA {neg : Bool} : Op2 w (rInA w.K neg) (fun x y P => ∃ d ds, x = .dat d ∧ seqD y = some ds ∧ SeqAt.shaped d = true ∧ SeqAt.shaped (.list ds) = true ∧ P (.dat (.bool (if neg = true then !ds.any fun z => PyData.eqv z d else ds.any fun z => PyData.eqv z d)))) := by
  rintro o H u v x y P Q b ru rv ⟨d, ds, rfl, hy, s1, s2, q⟩ k
  refine ⟨d, ds, dd_mono hid_le ru, ?_, s1, s2, k o H _ _ b.refl (VR.dat (Dd.bl _)) q⟩
  cases y with
  | no => cases hy
  | bag => cases hy
  | ownD _ _ => cases hy
  | fn _ _ _ => cases hy
  | own p zs =>
    obtain ⟨a, us, rfl, hs, ha⟩ := rv.lst (show lstD (.own p zs) = some ds from hy)
    exact .inl (Dd.lst hs (ddAll_mono hid_le ha))
  | dat c =>
    cases c with
    | list zs =>
      cases hy
      exact .inl (dd_mono hid_le rv)
    | tuple zs =>
      cases hy
      exact .inr (dd_mono hid_le rv)
    | none => cases hy
    | bool _ => cases hy
    | int _ => cases hy
    | str _ => cases hy
    | dict _ => cases hy
theorem op2_notInA : Op2 w (rInA w.K true) (fun x y P => ∃ d ds, x = .dat d ∧ seqD y = some ds ∧ SeqAt.shaped d = true ∧ SeqAt.shaped (.list ds) = true ∧ P (.dat (.bool (!ds.any fun z => PyData.eqv z d)))) := op2_inA
theorem op2_isInA : Op2 w (rInA w.K false) (fun x y P => ∃ d ds, x = .dat d ∧ seqD y = some ds ∧ SeqAt.shaped d = true ∧ SeqAt.shaped (.list ds) = true ∧ P (.dat (.bool (ds.any fun z => PyData.eqv z d)))) := op2_inA
/-- [..] * n -/
theorem e_repN (h : A w tr ρ fun xs => ∃ ds, undats xs = some ds ∧ ds.length ≤ sizeLine ∧ E w te ρ fun y => ∃ n : Int, y = .dat (.int n) ∧ -(2 ^ 63) ≤ n ∧ n < 2 ^ 63 ∧ ds.length * n.toNat ≤ sizeLine ∧ P (.dat (.list (List.replicate n.toNat ds).flatten))) :
    E w (tOp rRep (tLst tr) te) ρ P := by
  intro o σ H Q ok k
  refine h o σ H _ ok ?_
  rintro o1 H1 vs xs g1 r1 ⟨ds, hu, hz, q1⟩
  have hu2 := undats_some hu
  subst hu2
  have ha := VRs.dats r1
  have ln := DdAll.len ha
  have b1 := ok.toBas.go g1
  refine ⟨by rw [ln]; exact hz, fun p np => ?_⟩
  have g2 := b1.new (u := .lst vs) np
  refine q1 o1 σ _ _ ((ok.go g1).go g2) ?_
  rintro o3 H3 v y g3 r3 ⟨n, rfl, n1, n2, n3, q⟩
  cases r3
  have e3 : H3 p = some (.lst vs) := hid_le _ _ (g3.same _ _ (b1.seen np))
  refine ⟨p, n, vs, rfl, rfl, e3, n1, n2, by rw [ln]; exact n3, fun p2 np2 => ?_⟩
  have b3 := (b1.go g2).go g3
  have g4 := b3.new (u := .lst (List.replicate n.toNat vs).flatten) np2
  refine k o3 _ _ _ (((g1.trans g2).trans g3).trans g4) (VR.dat (Dd.lst (.inl (.inl (b3.seen np2))) (ddAll_mono g4.same ?_))) q
  have ha3 := ddAll_mono (g2.trans g3).same ha
  have rep : ∀ m : Nat, DdAll w.K (hid H3 o3) (List.replicate m vs).flatten (List.replicate m ds).flatten := by
    intro m
    induction m with
    | zero => exact .nil
    | succ m ih =>
      rw [List.replicate_succ, List.replicate_succ, List.flatten_cons, List.flatten_cons]
      exact DdAll.app ha3 ih
  exact rep _
end
end DL

/-! set(xs) of a list of ints: as HandS.SetFor has it of a tuple. -/
namespace DL
open PySem PySem.Spec PyProof.Rows L2
section
variable {P : Program} {w : World} {A : Around} {E : Value → Shared → Prop} {s : Shared}
set_option maxHeartbeats 8000000 in
theorem set_of_list {l : Addr} {its : Array Value} (ns : List Int) {Q : Value → Shared → Prop} (nh : A.handled = none) (hl : s.heap.IsList l its) (are : IntsAre its.toList ns) (few : ns.length + 1 < scanBound)
    (q : ∀ (h2 : Heap) (tk c : Nat), SetR w h2 s.heap.objs.size (fun j => decide (j ∈ ns)) c → c ≤ ns.length → (∀ b o, s.heap.get? b = some o → h2.get? b = some o) → Q (.ref s.heap.objs.size) { s with heap := h2, toks := tk }) :
    wpAny (model P w) A (call (.type "set") [.ref l]) Q E s := by
  have sz : its.size = ns.length := by rw [← Array.length_toList]; exact IntsAre.length are
  obtain ⟨cc, tl, mro⟩ := F.called_set.mro
  have z1 := F.called_set.made; have z2 := F.called_set.sub
  refine wpAny_call (codeAny_of_tree ?_); show wpAny _ _ (callAny (.type "set") _) _ _ _
  refine wpAny_pure ⟨Code.quiet_builtin _ (by decide +kernel), codeAny_builtin F.entry_type_call ?_⟩; rw [Around.under_plain (weight_type_call_type "set" [.ref l] []) rfl]
  have z3 := F.called_set.notType; have z4 := F.called_set.canCreate; have z5 := F.typeCall_set_1 (.ref l)
  iterate 40 (try (any_goals (first | assumption | wp_step)))
  generalize eN : s.heap.push (freshSet w) = H1
  have at1 : H1.get? s.heap.objs.size = some (freshSet w) := by rw [← eN]; exact Heap.get?_push_size _ rfl
  have sz1 : H1.objs.size = s.heap.objs.size + 1 := by rw [← eN]; exact Heap.size_push ..
  have old1 : ∀ {b : Addr} {o : Obj}, s.heap.get? b = some o → H1.get? b = some o := fun e => by rw [← eN]; exact Heap.get?_push_of_some _ e
  refine codeAny_mono (code_set_led1 (.ref l) (E := E) (Q₁ := fun ob s1 => ob = .ref s.heap.objs.size ∧ s1 = { s with heap := H1 }) ⟨rfl, by rw [← eN]⟩) fun r s1 hr => ?_
  match r, hr with
  | .error _, hr => exact hr
  | .ok .next, hr | .ok .brk, hr | .ok .cont, hr => exact hr.elim
  | .ok (.ret obj), hr =>
    obtain ⟨rfl, rfl⟩ := hr
    have ty : Shared.TypeIs { s with heap := H1 } (.ref s.heap.objs.size) "set" := ⟨_, at1, rfl⟩
    have y1 := F.called_set.init.lookup; have y2 := F.called_set.init.bind (.ref s.heap.objs.size)
    iterate 40 (try (any_goals (first | assumption | wp_step)))
    let post : Value → Shared → Prop := fun r s2 => r = .none ∧ ∃ h2 tk c, s2 = { s with heap := h2, toks := tk } ∧ SetR w h2 s.heap.objs.size (fun j => decide (j ∈ ns)) c ∧ c ≤ ns.length ∧ ∀ b o, s.heap.get? b = some o → h2.get? b = some o
    refine codeAny_mono (codeAny_call_builtin (R := wants post E) F.called_set.init.plain F.entry_set_init (check_set_init_1 ty ?_)) fun r2 s2 hr2 => ?_
    · obtain ⟨⟨c0, d0, dt0, sl0⟩, hol, hc, n0, hd⟩ := hl
      simp only at hc hd
      subst hc hd
      have here := old1 hol
      have u1 := F.sub_list_set; have u2 := F.sub_list_frozenset
      have u3 : (Value.type "list" == Value.type "dict") = false := by decide
      have il : H1.IsList l its := ⟨_, here, rfl, n0, rfl⟩
      unfold Builtin.«set.__init__» noKeywords Builtin.Frozenset.updateFrom
      generalize ePI : pyIter = PI; wp_walk; subst ePI
      refine wpAny_pyIter_list il (wpAny_bind (wpAny_runValue ?_))
      have lt0 : l < s.heap.objs.size := Heap.lt_size hol
      have nI : l ≠ H1.objs.size := by rw [sz1]; exact Nat.ne_of_lt (Nat.lt_succ_of_lt lt0)
      have nS : s.heap.objs.size ∉ [H1.objs.size, l] := by
        rw [sz1]; simp only [List.mem_cons, List.not_mem_nil, or_false, not_or]; exact ⟨Nat.ne_of_lt (Nat.lt_succ_self _), Nat.ne_of_gt lt0⟩
      have vals : ∀ (i : Nat) (v : Value), its[i]? = some v → ∃ k t, ns[i]? = some k ∧ v = .int k t := fun i v hv => by
        have hi : i < ns.length := by rw [← sz]; exact (Array.getElem?_eq_some_iff.mp hv).1
        obtain ⟨t, e⟩ := PyProof.Rows.IntsAre.int_at are i v (by rw [Array.getElem?_toList]; exact hv)
        refine ⟨ns[i], t, List.getElem?_eq_getElem hi, e.trans ?_⟩
        rw [List.getD_eq_getElem?_getD, List.getElem?_eq_getElem hi] <;> rfl
      refine set_update_ints ((Walks.list (by simp [nh]) _ l nI its).toS) s.heap.objs.size nS ns sz few vals (its.size - 0) 0 _ (by omega) (Nat.zero_le _) ⟨⟨_, Heap.get?_push_size _ rfl, rfl, rfl⟩, il.push _⟩ ⟨0, Nat.le_refl 0, ?_⟩ ?_
      · exact setR_new_at (Heap.get?_push_of_some _ at1)
      · rintro ⟨h2, g2, d2, tk2, os2⟩ c2 hm hc2 hS2
        obtain rfl : g2 = s.gens := hm.gens
        obtain rfl : d2 = s.drawn := hm.drawn
        obtain rfl : os2 = s.os := hm.os
        show wpAny _ _ _ _ _ _
        refine wpAny_pure ?_
        show wpAny _ _ (ret Value.none) _ _ _
        rw [sz] at hc2
        refine wpAny_pure ⟨rfl, h2, tk2, c2, rfl, hS2, hc2, fun b o e => ?_⟩
        have lb := Heap.lt_size e
        refine hm.heap b o ?_ (Heap.get?_push_of_some _ (old1 e))
        rw [sz1]; simp only [List.mem_cons, List.not_mem_nil, or_false, not_or]; exact ⟨Nat.ne_of_lt lb, Nat.ne_of_lt (Nat.lt_succ_of_lt lb)⟩
    · match r2, hr2 with
      | .error _, hr2 => exact hr2
      | .ok .next, hr2 | .ok .brk, hr2 | .ok .cont, hr2 => exact hr2.elim
      | .ok (.ret r), hr2 =>
        obtain ⟨rfl, h2, tk, c2, rfl, a1, a2, a3⟩ := hr2
        iterate 40 (try (any_goals (first | assumption | wp_step)))
        exact q _ _ _ a1 a2 a3
end
end DL

/-! More built-ins over data: sorted(set(xs)), isinstance, all, any, a sign in a text, list(range(a, b)). -/
namespace DL
open PySem PySem.Spec PyProof.Rows L2
theorem setR_of {w : World} {h : Heap} {a : Addr} {S : Int → Bool} {n : Nat} (R : SetR w h a S n) : ∃ L : List Int, L.Nodup ∧ L.length = n ∧ ∀ k, S k = true ↔ k ∈ L := by
  obtain ⟨o, es, ep, t, _, _, _, _, nd, m, _, _, sz, _⟩ := R
  exact ⟨es.toList.map keyOf, nd, by rw [List.length_map, Array.length_toList]; exact sz, m⟩
def rSetL (K : PySem.W.Frag) (W : World) : List V → Hp → VK → Prop := fun xs H Q => ∃ (p : Addr) (ns : List Int), xs = [V.ref p] ∧ SqL K H p (ns.map V.int) ∧ ns.length + 1 < scanBound ∧
  ∀ (D : Addr) (L : List Int), H D = none → L.Nodup → (∀ x, x ∈ L ↔ x ∈ ns) → Q (.ref D) (upd H D (SetO W D (fun j => decide (j ∈ L)) L.length))
def rIsa (K : PySem.W.Frag) (n : String) (f : PyData → Bool) : List V → Hp → VK → Prop := fun xs H Q => ∃ (x : V) (d : PyData), xs = [x, .ty n] ∧ Dd K H x d ∧ Q (.bl (f d)) H
def rAllD (K : PySem.W.Frag) (b : Bool) : List V → Hp → VK → Prop := fun xs H Q => ∃ (a : Addr) (bs : List Bool), xs = [V.ref a] ∧ SqL K H a (bs.map V.bl) ∧ Q (.bl (if b = true then bs.all id else bs.any id)) H
section
variable {X : Cx} {K : PySem.W.Frag}
theorem ints_vals : ∀ {ns : List Int} {us : List Value}, Vals (ns.map V.int) us → IntsAre us ns
  | [], _, .nil => .nil
  | n :: ns, _, .cons r t => by
    obtain ⟨k, rfl⟩ := r
    exact .cons _ _ (ints_vals t)
theorem call_setL {W : World} (hK : X.K = K) (hw : X.w = W) (hc : X.calm = true) : CallR X (.type "set") (rSetL K W) := by
  subst hK hw
  intro pins s σ H xs us Q I r h
  obtain ⟨p, ns, rfl, hs, few, q⟩ := h
  obtain ⟨u, rfl, ru⟩ := vals1 r
  obtain rfl : u = Value.ref p := ru
  obtain ⟨its, rv, pl, hz⟩ := I.list hs
  refine set_of_list ns (I.ok.hd hc) pl.isList (by simpa using ints_vals rv) few fun h2 tk c S hc2 keep => ?_
  obtain ⟨L, nd, ll, m⟩ := setR_of S
  have e : (fun j => decide (j ∈ ns)) = fun j => decide (j ∈ L) := funext fun j => by
    have := m j
    rw [Bool.eq_iff_iff, this]
    simp
  rw [e, ← ll] at S
  exact ⟨.ref _, upd H s.heap.objs.size (SetO X.w s.heap.objs.size (fun j => decide (j ∈ L)) L.length), I.laid (t' := tk) keep (Nat.le_refl _) (setO_new S), rfl, q _ L (I.hok.fresh (Nat.le_refl _)) nd fun x => by
    have := m x
    simp only [decide_eq_true_eq] at this
    exact this.symm⟩
theorem vals2 {x y : V} {us : List Value} (r : Vals [x, y] us) : ∃ u v, us = [u, v] ∧ RelV x u ∧ RelV y v := by
  cases r with
  | cons r1 t =>
    cases t with
    | cons r2 t =>
      cases t
      exact ⟨_, _, rfl, r1, r2⟩
theorem isa_of {n : String} {f : PyData → Bool} (hK : X.K = K) (h : ∀ (s : Shared) (v : Value) (d : PyData) (as : List Addr) (Q : Value → Shared → Prop), Reads s.heap v d as → (∀ tk, s.toks ≤ tk → Q (.bool (f d)) { s with toks := tk }) →
    wpAny (model X.prog X.w) X.A (call (.builtin "isinstance") [v, .type n]) Q X.xe s) : CallR X (.builtin "isinstance") (rIsa K n f) := by
  subst hK
  intro pins s σ H xs us Q I r hh
  obtain ⟨x, d, rfl, hd, q⟩ := hh
  obtain ⟨u, v, rfl, ru, rv⟩ := vals2 r
  obtain rfl : v = Value.type n := by cases rv; rfl
  obtain ⟨as, rd⟩ := Dd.reads I hd u ru
  exact h s u d as _ rd fun tk _ => ⟨.bl _, H, I.tok tk, rfl, q⟩
theorem isa_int (hK : X.K = K) : CallR X (.builtin "isinstance") (rIsa K "int" PyData.isInt) := isa_of hK fun _ _ _ _ _ r h => PySem.W.isinstance_int_data r h
theorem isa_bool (hK : X.K = K) : CallR X (.builtin "isinstance") (rIsa K "bool" PyData.isBool) := isa_of hK fun _ _ _ _ _ r h => PySem.W.isinstance_bool_data r h
theorem isa_str (hK : X.K = K) : CallR X (.builtin "isinstance") (rIsa K "str" PyData.isStr) := isa_of hK fun _ _ _ _ _ r h => PySem.W.isinstance_str_data r h
theorem isa_tuple (hK : X.K = K) : CallR X (.builtin "isinstance") (rIsa K "tuple" PyData.isTuple) := isa_of hK fun _ _ _ _ _ r h => PySem.W.isinstance_tuple_data r h
theorem isa_list (hK : X.K = K) : CallR X (.builtin "isinstance") (rIsa K "list" PyData.isList) := isa_of hK fun _ _ _ _ _ r h => PySem.W.isinstance_list_data r h
theorem isa_dict (hK : X.K = K) : CallR X (.builtin "isinstance") (rIsa K "dict" PyData.isDict) := isa_of hK fun _ _ _ _ _ r h => PySem.W.isinstance_dict_data r h
theorem call_allD (hK : X.K = K) (hc : X.calm = true) : CallR X (.builtin "all") (rAllD K true) := by
  subst hK
  intro pins s σ H xs us Q I r h
  obtain ⟨a, bs, e, hs, q⟩ := h
  exact cr_all hc pins s σ H xs us Q I r ⟨a, bs, e, hs, q⟩
theorem call_anyD (hK : X.K = K) (hc : X.calm = true) : CallR X (.builtin "any") (rAllD K false) := by
  subst hK
  intro pins s σ H xs us Q I r h
  obtain ⟨a, bs, e, hs, q⟩ := h
  exact cr_any hc pins s σ H xs us Q I r ⟨a, bs, e, hs, q⟩
def rInS (neg : Bool) : R2 := fun x y H Q => ∃ (c : Nat) (z : Str), x = .str ⟨#[c]⟩ ∧ y = .str z ∧ Q (.bl (if neg = true then !decide (c ∈ z.cps.toList) else decide (c ∈ z.cps.toList))) H
theorem op_inT : OpR X (compareOp .In) (rInS false) := by
  intro pins s σ H x y v u Q I rx ry ⟨c, z, e1, e2, q⟩
  exact op_in_sign pins s σ H x y v u Q I rx ry ⟨c, z, e1, e2, q⟩
theorem op_notInT : OpR X (compareOp .NotIn) (rInS true) := by
  intro pins s σ H x y v u Q I rx ry ⟨c, z, e1, e2, q⟩
  exact op_notIn_sign pins s σ H x y v u Q I rx ry ⟨c, z, e1, e2, q⟩
end
section
variable {w : Wd} {ρ : List Sl} {P : Sl → Prop} {te ta tb : TE} {tr : TA}
/-- sorted(set(xs)) -/
theorem e_sortSet {W : World} (h : E w te ρ fun x => ∃ (ns B : List Int), lstD x = some (ns.map .int) ∧ ns.length + 1 < scanBound ∧ B.length < 64 ∧ (∀ x ∈ ns, x ∈ B) ∧ ∀ ys : List Int, ys.Pairwise (· < ·) → (∀ x, x ∈ ys ↔ x ∈ ns) → P (.dat (.list (ys.map .int)))) :
    E w (tCB (rSortedSet W) (tCons (tCB (rSetL w.K W) (tCons te tNil)) tNil)) ρ P := by
  intro o σ H Q ok k
  refine h o σ H _ ok ?_
  rintro o1 H1 v x g1 r1 ⟨ns, B, hx, few, hB, sub, q⟩
  have b1 := ok.toBas.go g1
  obtain ⟨a, us, rfl, hs, ha⟩ := r1.lst hx
  have e := DdAll.ints ha
  subst e
  refine ⟨a, ns, rfl, hs, few, fun D L nD nd m => ?_⟩
  have g2 := b1.new (u := SetO W D (fun j => decide (j ∈ L)) L.length) nD
  refine ⟨D, _, _, rfl, upd_same, Nat.lt_of_le_of_lt (nd_sub nd fun x hx => sub x ((m x).mp hx)) hB, fun ys p hs2 hm hl np => ?_⟩
  have b2 := b1.go g2
  have g3 := b2.new (u := .lst (ys.map V.int)) np
  exact k o1 _ _ (.dat (.list (ys.map .int))) ((g1.trans g2).trans g3) (Dd.lst (.inl (.inl (b2.seen np))) (DdAll.ofInts ys)) (q ys hs2 fun x => by rw [hm, ← m x]; simp)
/-- isinstance(x, T) -/
theorem e_isa {n : String} {f : PyData → Bool} (h : E w te ρ fun x => ∃ d, x = .dat d ∧ P (.dat (.bool (f d)))) : E w (tCB (rIsa w.K n f) (tCons te (tCons (tC (.ty n)) tNil))) ρ P := by
  intro o σ H Q ok k
  refine h o σ H _ ok ?_
  rintro o1 H1 v x g1 r1 ⟨d, rfl, q⟩
  exact ⟨v, d, rfl, dd_mono hid_le r1, k o1 H1 _ _ g1 (VR.dat (Dd.bl _)) q⟩
theorem cl_allD {b : Bool} : Cl w (rAllD w.K b) (fun xs P => ∃ (x : Sl) (bs : List Bool), xs = [x] ∧ lstD x = some (bs.map .bool) ∧ P (.dat (.bool (if b = true then bs.all id else bs.any id)))) := by
  rintro o H vs xs P Q b' r ⟨x, bs, rfl, hx, q⟩ k
  cases r with
  | cons r t =>
    cases t
    obtain ⟨a, us, rfl, hs, ha⟩ := r.lst hx
    have e := DdAll.bools ha
    subst e
    exact ⟨a, bs, rfl, hs, k o H _ _ b'.refl (VR.dat (Dd.bl _)) q⟩
theorem op2_inT {neg : Bool} : Op2 w (rInS neg) (fun x y P => ∃ (c : Nat) (z : Str), x = .dat (.str ⟨#[c]⟩) ∧ y = .dat (.str z) ∧ P (.dat (.bool (if neg = true then !decide (c ∈ z.cps.toList) else decide (c ∈ z.cps.toList))))) := by
  rintro o H u v x y P Q b ru rv ⟨c, z, rfl, rfl, q⟩ k
  cases ru
  cases rv
  exact ⟨c, z, rfl, rfl, k o H _ _ b.refl (VR.dat (Dd.bl _)) q⟩
theorem op2_isInT : Op2 w (rInS false) (fun x y P => ∃ (c : Nat) (z : Str), x = .dat (.str ⟨#[c]⟩) ∧ y = .dat (.str z) ∧ P (.dat (.bool (decide (c ∈ z.cps.toList))))) := op2_inT
theorem dd_rg2 {K : PySem.W.Frag} {H : Hp} (a b : Int) : DdAll K H (rgV a b) (rngD a (b - a).toNat) := by
  unfold rgV rngD
  induction List.range (b - a).toNat with
  | nil => exact .nil
  | cons x xs ih => exact .cons (.int _) ih
/-- list(range(a, b)) -/
theorem e_lstRg2 (h : E w ta ρ fun x => E w tb ρ fun y => ∃ a b : Int, x = .dat (.int a) ∧ y = .dat (.int b) ∧ RgOk a b ∧ P (.dat (.list (rngD a (b - a).toNat)))) : E w (tLstRg (tRg2 ta tb)) ρ P := by
  intro o σ H Q ok k
  refine h o σ H _ ok ?_
  intro o1 H1 v x g1 r1 q1
  refine q1 o1 σ H1 _ (ok.go g1) ?_
  rintro o2 H2 u y g2 r2 ⟨a, b, rfl, rfl, ro, q⟩
  cases r1
  cases r2
  refine ⟨a, b, rfl, rfl, ro, fun p np => ?_⟩
  have b2 := (ok.toBas.go g1).go g2
  have g3 := b2.new (u := .lst (rgV a b)) np
  exact k o2 _ _ _ ((g1.trans g2).trans g3) (VR.dat (Dd.lst (.inl (.inl (b2.seen np))) (dd_rg2 a b))) q
end
end DL

/-! Expressions that make a new list: kept as the def's own, or handed to extend. -/
namespace DL
open PySem PySem.Spec PyProof.Rows L2
section
variable {w : Wd} {o o1 o2 : Addr → Prop} {H H1 H2 : Hp} {σ : L2.St} {ρ : List Sl} {P : Sl → Prop} {te ta tb tl : TE} {tt : TT} {tr : TA} {ts : TS} {e : En} {lo : Bool} {wi : TI} {g : TG} {vs : List Nat} {Pd : List PyData → Prop}
/-- what stands when a new list was made: it is the def's own, no slot knows it -/
structure NewL (w : Wd) (ρ : List Sl) (o : Addr → Prop) (H : Hp) (o' : Addr → Prop) (H' : Hp) (p : Addr) (us : List V) (ds : List PyData) : Prop where
  go : Go w o H o' H'
  own : o' p
  new : ¬ o p
  out : ¬ w.own0 p
  no : ∀ (m : Nat) (y : Sl) (q : Addr), ρ[m]? = some y → y.adr = some q → q ≠ p
  at_ : H' p = some (.lst us)
  dd : DdAll w.K (hid H' o') us ds
def EL (w : Wd) (te : TE) (ρ : List Sl) (Pd : List PyData → Prop) : Prop := ∀ (o : Addr → Prop) (σ : L2.St) (H : Hp) (Q : VK), Ok w o σ H ρ → (∀ o' H' p us ds, NewL w ρ o H o' H' p us ds → Pd ds → Q (.ref p) H') → te σ H Q
theorem newL_of (ok : Ok w o σ H ρ) (g1 : Go w o H o1 H1) {p : Addr} {us : List V} {ds : List PyData} (np : H1 p = none) (ha : DdAll w.K (hid H1 o1) us ds) : NewL w ρ o H (fun a => o1 a ∨ a = p) (upd H1 p (.lst us)) p us ds := by
  have ok1 := ok.go g1
  have g2 := ok1.toBas.newOwn (u := .lst us) np
  obtain ⟨h0, hn⟩ := own_apart ok1 np
  exact ⟨g1.trans g2, .inr rfl, fun z => ok1.hn p (g1.sub p z) np, h0, hn, upd_same, ddAll_mono g2.same ha⟩
theorem EL.mono {Pd' : List PyData → Prop} (h : EL w te ρ Pd) (q : ∀ ds, Pd ds → Pd' ds) : EL w te ρ Pd' := fun o σ H Q ok k => h o σ H Q ok fun o' H' p us ds n hp => k o' H' p us ds n (q ds hp)
/-- as data -/
theorem e_ofL (h : EL w te ρ fun ds => P (.dat (.list ds))) : E w te ρ P := by
  intro o σ H Q ok k
  refine h o σ H Q ok ?_
  intro o' H' p us ds n hp
  have less : ∀ a, (o' a ∧ a ≠ p) → o' a := fun a h => h.1
  have b' := ok.toBas.go n.go
  have off : ∀ a, w.own0 a → a ≠ p := fun a ha z => n.out (z ▸ ha)
  have hp0 := n.new
  refine k (fun a => o' a ∧ a ≠ p) H' (.ref p) (.dat (.list ds)) ⟨n.go.same.trans (hid_less less), fun a h => ⟨n.go.sub a h, fun z => hp0 (z ▸ h)⟩, n.go.keep, fun b hb => ?_, n.go.tab.go (hid_less less) (fun _ _ => rfl) (fun q hq => ⟨(n.go.tab q hq).1, off q.1 (ok.tab.1 q hq)⟩), fun a h => n.go.here a h.1⟩ ?_ hp
  · have b2 := n.go.bag b hb
    exact b2.go (hid_less less) rfl ⟨b2.1, off b (ok.bag b hb).1⟩
  · refine Dd.lst (.inl (.inl ?_)) (ddAll_mono (hid_less less) n.dd)
    rw [hid_of fun z => z.2 rfl]
    exact n.at_
/-- a display -/
theorem el_lst (h : A w tr ρ fun xs => ∃ ds, undats xs = some ds ∧ ds.length ≤ sizeLine ∧ Pd ds) : EL w (tLst tr) ρ Pd := by
  intro o σ H Q ok k
  refine h o σ H _ ok ?_
  rintro o1 H1 vs xs g1 r1 ⟨ds, hu, hl, p⟩
  have hu2 := undats_some hu
  subst hu2
  have ha := VRs.dats r1
  exact ⟨by rw [DdAll.len ha]; exact hl, fun q nq => k _ _ q _ ds (newL_of ok g1 nq ha) p⟩
/-- a comprehension -/
theorem el_lcG (h : Ic w lo wi ρ fun ds => ds.length ≤ sizeLine ∧ ∃ I : Nat → List PyData → Prop, I 0 [] ∧ (∀ (k : Nat) (d : PyData) (acc : List PyData), ds[k]? = some d → I k acc → ∃ ps, inVs ps vs = true ∧ TgOk w.K lo g d ps ∧ Lc w tt te (setsD (DL.clr Sl.no ρ vs) ps) I k acc) ∧
      ∀ acc, I ds.length acc → acc.length ≤ ds.length → Pd acc) : EL w (tLc wi g tt te vs) ρ Pd := by
  intro o σ H Q ok k
  refine h o σ H _ ok ?_
  rintro o1 H1 J ds g1 dw ⟨hz, I, h0, hs, hp⟩ D hD
  have ok1 := ok.go g1
  have main := mk_one (Rep := repL w) (C := capL) (put := putL) (tt := tt) (te := te) (g := g) (vs := vs) (Qd := fun H => Q (.ref D) H) accL putL_ok ok1 hD dw (u0 := .lst []) (a0 := []) (fun _ _ => ⟨[], rfl, .nil⟩) (fun k acc => acc.length ≤ k ∧ I k acc) ⟨Nat.le_refl _, h0⟩ ?_ ?_
  · exact main
  · rintro n d acc hd ⟨hl, hI⟩
    obtain ⟨ps, h1, h2, h3⟩ := hs n d acc hd hI
    have hn : n < ds.length := (List.getElem?_eq_some_iff.mp hd).1
    refine ⟨ps, inVs_mem h1, h2, h3.mono fun b hb => ?_⟩
    cases b with
    | false => exact ⟨by omega, hb⟩
    | true => exact hb.mono fun x ⟨z, hx, hi⟩ => ⟨z, _, hx, ⟨by omega, rfl⟩, by rw [List.length_append, List.length_singleton]; omega, hi⟩
  · rintro H2 ⟨o2, u, ok2, g2, oD, e1, acc, ⟨us, rfl, ha⟩, hl, hI⟩
    obtain ⟨h00, hn⟩ := own_apart ok1 hD
    exact k o2 H2 D us acc ⟨g1.trans g2, oD, fun z => ok1.hn D (g1.sub D z) hD, h00, hn, e1, ha⟩ (hp acc hI hl)
theorem el_lcF (h : Ic w lo wi ρ fun ds => ds.length ≤ sizeLine ∧ ∃ f : PyData → Option PyData, (∀ d ∈ ds, ∃ ps, inVs ps vs = true ∧ TgOk w.K lo g d ps ∧
      T w tt (setsD (DL.clr Sl.no ρ vs) ps) fun b => if b = true then E w te (setsD (DL.clr Sl.no ρ vs) ps) fun y => ∃ z, y = .dat z ∧ f d = some z else f d = none) ∧ Pd (ds.filterMap f)) : EL w (tLc wi g tt te vs) ρ Pd := by
  refine el_lcG (h.mono ?_)
  rintro ds ⟨hz, f, hs, hp⟩
  refine ⟨hz, fun k acc => acc = (ds.take k).filterMap f, rfl, ?_, ?_⟩
  · rintro k d acc hd rfl
    obtain ⟨ps, h1, h2, h3⟩ := hs d (List.mem_of_getElem? hd)
    refine ⟨ps, h1, h2, h3.mono fun b hb => ?_⟩
    cases b with
    | false =>
      have hb : f d = none := hb
      show _ = _
      rw [take_next hd, List.filterMap_append, List.filterMap_cons, hb]
      simp
    | true =>
      refine hb.mono fun x ⟨z, hx, hf⟩ => ⟨z, hx, ?_⟩
      show _ = _
      rw [take_next hd, List.filterMap_append, List.filterMap_cons, hf]
      simp
  · rintro acc rfl _
    rw [List.take_length]
    exact hp
theorem el_lcM (h : Ic w lo wi ρ fun ds => ds.length ≤ sizeLine ∧ ∃ f : PyData → PyData, (∀ d ∈ ds, ∃ ps, inVs ps vs = true ∧ TgOk w.K lo g d ps ∧ E w te (setsD (DL.clr Sl.no ρ vs) ps) fun y => y = .dat (f d)) ∧ Pd (ds.map f)) :
    EL w (tLc wi g tYes te vs) ρ Pd := by
  refine el_lcF (h.mono ?_)
  rintro ds ⟨hz, f, hs, hp⟩
  refine ⟨hz, fun d => some (f d), fun d hd => ?_, ?_⟩
  · obtain ⟨ps, h1, h2, h3⟩ := hs d hd
    refine ⟨ps, h1, h2, t_yes ?_⟩
    rw [if_pos rfl]
    exact h3.mono fun x hx => ⟨_, hx, rfl⟩
  · rw [show (fun d => some (f d)) = some ∘ f from rfl, List.filterMap_eq_map]
    exact hp
/-- sorted(set(xs)) -/
theorem el_sortSet {W : World} (h : E w te ρ fun x => ∃ (ns B : List Int), lstD x = some (ns.map .int) ∧ ns.length + 1 < scanBound ∧ B.length < 64 ∧ (∀ x ∈ ns, x ∈ B) ∧ ∀ ys : List Int, ys.Pairwise (· < ·) → (∀ x, x ∈ ys ↔ x ∈ ns) → Pd (ys.map .int)) :
    EL w (tCB (rSortedSet W) (tCons (tCB (rSetL w.K W) (tCons te tNil)) tNil)) ρ Pd := by
  intro o σ H Q ok k
  refine h o σ H _ ok ?_
  rintro o1 H1 v x g1 r1 ⟨ns, B, hx, few, hB, sub, q⟩
  have b1 := ok.toBas.go g1
  obtain ⟨a, us, rfl, hs, ha⟩ := r1.lst hx
  have e := DdAll.ints ha
  subst e
  refine ⟨a, ns, rfl, hs, few, fun D L nD nd m => ?_⟩
  have g2 := b1.new (u := SetO W D (fun j => decide (j ∈ L)) L.length) nD
  refine ⟨D, _, _, rfl, upd_same, Nat.lt_of_le_of_lt (nd_sub nd fun x hx => sub x ((m x).mp hx)) hB, fun ys p hs2 hm hl np => ?_⟩
  exact k _ _ p _ _ (newL_of ok (g1.trans g2) np (DdAll.ofInts ys)) (q ys hs2 fun x => by rw [hm, ← m x]; simp)
/-- sorted(xs) -/
theorem el_sortD (h : E w te ρ fun x => ∃ ds, lstD x = some ds ∧ SortOk ds ∧ Pd (sortD ds)) : EL w (tCB (rSortD w.K) (tCons te tNil)) ρ Pd := by
  intro o σ H Q ok k
  refine h o σ H _ ok ?_
  rintro o1 H1 v x g1 r1 ⟨ds, hx, so, q⟩
  obtain ⟨a, us, rfl, hs, ha⟩ := r1.lst hx
  exact ⟨a, us, ds, hid H1 o1, rfl, hs, hid_le, ha, so, fun ys p hy np => k _ _ p _ _ (newL_of ok g1 np hy) q⟩
/-- list(xs) -/
theorem el_list (h : E w te ρ fun x => ∃ ds, seqD x = some ds ∧ Pd ds) :
    EL w (tCB (fun xs H Q => ∃ p ys, xs = [.ref p] ∧ (SqL w.K H p ys ∨ SqT w.K H p ys) ∧ ∀ l, H l = none → Q (.ref l) (upd H l (.lst ys))) (tCons te tNil)) ρ Pd := by
  intro o σ H Q ok k
  refine h o σ H _ ok ?_
  rintro o1 H1 v x g1 r1 ⟨ds, hx, q⟩
  obtain ⟨a, us, rfl, ha, hs⟩ := r1.seq hx
  exact ⟨a, us, rfl, hs, fun p np => k _ _ p _ ds (newL_of ok g1 np ha) q⟩
/-- xs + ys -/
theorem el_catL (h : E w ta ρ fun x => E w tb ρ fun y => ∃ ds es, lstD x = some ds ∧ lstD y = some es ∧ ds.length + es.length ≤ sizeLine ∧ Pd (ds ++ es)) : EL w (tOp (rCatL w.K) ta tb) ρ Pd := by
  intro o σ H Q ok k
  refine h o σ H _ ok ?_
  intro o1 H1 v x g1 r1 q1
  refine q1 o1 σ H1 _ (ok.go g1) ?_
  rintro o2 H2 u y g2 r2 ⟨ds, es, hx, hy, hz, q⟩
  have b1 := ok.toBas.go g1
  obtain ⟨a, us, rfl, ha0, at2⟩ := r1.lstGo b1 hx
  obtain ⟨hs, ha⟩ := at2 o2 H2 g2
  obtain ⟨c, ws, rfl, hs2, hb⟩ := r2.lst hy
  refine ⟨a, c, us, ws, rfl, rfl, hs, hs2, by rw [DdAll.len ha, DdAll.len hb]; exact hz, fun p np => ?_⟩
  exact k _ _ p _ _ (newL_of ok (g1.trans g2) np (DdAll.app ha hb)) q
/-- x = a new list, which will be changed -/
theorem s_setEL {i : Nat} (h : EL w te ρ fun ds => ∀ p, e.nx (ρ.set i (.own p ds))) : S w (tAsg te (gName i)) ρ e := by
  intro o σ H En ok kn kr kb kc
  refine h o σ H _ ok ?_
  intro o' H' p us ds n hp
  refine kn o' _ _ _ ((ok.go n.go).set i (x := .own p ds) ⟨rfl, n.own, n.out, us, n.at_, n.dd⟩ ?_) (hp p)
  rintro p' e' m y' q' nj ej a'
  cases e'
  exact (n.no m y' q' ej a').symm
/-- x.extend(a new list) -/
theorem s_extEL {i : Nat} {p : Addr} {xs : List PyData} (hx : ρ[i]? = some (.own p xs)) (h : EL w te ρ fun ds => xs.length + ds.length ≤ sizeLine ∧ e.nx (ρ.set i (.own p (xs ++ ds)))) :
    S w (tDrop (tBM w.K "list" rExtend (tVar i) (tCons te tNil))) ρ e := by
  intro o σ H D ok kn kr kb kc
  rcases ok.slot i _ hx with z | ⟨v, hv, r⟩
  · cases z
  · obtain ⟨rfl, hp, n, vs, e1, ha⟩ := id r
    refine ⟨_, hv, .inl ⟨rfl, vs, .inl (.inl e1)⟩, ?_⟩
    refine h o σ H _ ok ?_
    rintro o' H' q us ds nl ⟨hz, hn⟩
    have e2 : H' p = some (.lst vs) := (nl.go.keep p hp (ok.toBas.nb n)).trans e1
    refine ⟨p, q, vs, us, rfl, rfl, e2, nl.at_, by rw [DdAll.len ha, DdAll.len nl.dd]; exact hz, ?_⟩
    exact kn o' σ _ _ ((ok.go nl.go).put hx (DdAll.app (dpAll_mono nl.go.same xs vs ha) nl.dd)) hn
end
end DL

/-! Sets of texts: made of a list or a tuple, put in order. As HandS.Set has it of ints. -/
namespace DL
open PySem PySem.Spec PyProof.Rows L2
def keyS (e : Int × Value) : Str := match e.2 with
  | .str k _ => k
  | _ => ""
def GoodS (w : World) (e : Int × Value) : Prop := ∃ k tk, e.2 = Value.str k tk ∧ e.1 = hashStr w k
/-- the set of texts at a: L its members; its table rises and can be walked -/
def SetS (w : World) (h : Heap) (a : Addr) (S : Str → Bool) (n : Nat) : Prop :=
  ∃ o es ep t, h.get? a = some o ∧ o.ExactSet ∧ o.data = .set es ep t ∧ (∀ e ∈ es.toList, GoodS w e) ∧ (es.toList.map keyS).Nodup ∧ (∀ k, S k = true ↔ k ∈ es.toList.map keyS) ∧
    es.size < scanBound ∧ t.fits es.size = true ∧ es.size = n ∧ Ris t.place.toList ∧ (w.params.followText "set-order" = true ∨ t.led = true)
section
variable {P : Program} {w : World} {h h' : Heap} {a : Addr} {S : Str → Bool} {n : Nat}
theorem SetS.at (R : SetS w h a S n) (k : ∀ o, h.get? a = some o → h'.get? a = some o) : SetS w h' a S n := by
  obtain ⟨o, es, ep, t, ho, r⟩ := R
  exact ⟨o, es, ep, t, k o ho, r⟩
theorem SetS.congr {S' : Str → Bool} (R : SetS w h a S n) (e : ∀ k, S' k = S k) : SetS w h a S' n := by
  have q : S' = S := funext e
  rw [q]
  exact R
theorem goodS_elems {l : List (Int × Value)} (g : ∀ e ∈ l, GoodS w e) : ElemsOf (PySem.strKind P w) l := fun e he => by
  obtain ⟨k, tk, h1, h2⟩ := g e he
  exact ⟨⟨k, by rw [h1]; exact strKind_is P w k tk, h2⟩, by rw [h1] <;> rfl⟩
theorem goodS_is {e : Int × Value} (g : GoodS w e) (k : Str) : (PySem.strKind P w).is k e.2 = true ↔ keyS e = k := by
  obtain ⟨k0, tk, h1, _⟩ := g
  unfold keyS
  rw [h1]
  constructor
  · intro z
    exact (PySem.strKind P w).inj _ _ _ (strKind_is P w k0 tk) z
  · rintro rfl
    exact strKind_is P w _ tk
theorem goodS_mem {l : List (Int × Value)} (g : ∀ e ∈ l, GoodS w e) (k : Str) : k ∈ l.map keyS ↔ ∃ e ∈ l, (PySem.strKind P w).is k e.2 = true := by
  rw [List.mem_map]
  constructor
  · rintro ⟨e, he, q⟩
    exact ⟨e, he, (goodS_is (g e he) k).2 q⟩
  · rintro ⟨e, he, q⟩
    exact ⟨e, he, (goodS_is (g e he) k).1 q⟩
end
section
variable {P : Program} {w : World} {A : Around} {E : Value → Shared → Prop} {s : Shared} {a : Addr} {S : Str → Bool} {n : Nat}
theorem setS_add_tail {g : Bool → Sem Unit} (hg : ∀ (b : Bool) (s₁ : Shared) (Q' : Unit → Shared → Prop), Q' () s₁ → wpAny (model P w) A (g b) Q' E s₁)
    {o : Obj} {es : Array (Int × Value)} {ep : Nat} {t : SetTable} (ho : s.heap.get? a = some o) (hex : o.ExactSet) (hd : o.data = .set es ep t)
    {es1 : Array (Int × Value)} {t2 : SetTable} {S' : Str → Bool} (g1 : ∀ e ∈ es1.toList, GoodS w e) (nd1 : (es1.toList.map keyS).Nodup) (m1 : ∀ k, S' k = true ↔ k ∈ es1.toList.map keyS)
    (hb1 : es1.size < scanBound) (hf2 : t2.fits es1.size = true) (hr : Ris t2.place.toList) (hl : w.params.followText "set-order" = true ∨ t2.led = true) {wasDummy : Bool} {R : Option Bool → Shared → Prop}
    (hR : ∀ h', Heap.SameBut a s.heap h' → SetS w h' a S' es1.size → R (some true) { s with heap := h' }) :
    wpAny (model P w) A (do
        storeSet a es1 t2
        if (!wasDummy && t2.tooFull) = true then do
            g (relayAll t2 es1 (SetTable.grown es1.size)).2.2
            storeSet a (relayAll t2 es1 (SetTable.grown es1.size)).1 (relayAll t2 es1 (SetTable.grown es1.size)).2.1
            pure (some true)
          else pure (some true)) R E s := by
  refine wpAny_bind (wpAny_storeSet_of ho hd ?_ (fits_of_scanBound hb1))
  have ho1 := store_at (es' := es1) (t' := t2) ho hd
  have sb1 := Heap.SameBut.update s.heap a (Obj.putSet es1 t2)
  split
  · have pm := relayAll_perm t2 es1 (SetTable.grown es1.size)
    have hf3 := relayAll_fits t2 es1 (SetTable.grown es1.size)
    have hr3 := relayAll_ris t2 es1 (SetTable.grown es1.size)
    have hl3 := relayAll_led t2 es1 (SetTable.grown es1.size)
    generalize relayAll t2 es1 (SetTable.grown es1.size) = Z at pm hf3 hr3 hl3 ⊢
    obtain ⟨es2, t3, gave⟩ := Z
    dsimp only at pm hf3 hr3 hl3 ⊢
    have hsz : es2.size = es1.size := by rw [← Array.length_toList, pm.length_eq, Array.length_toList]
    have hb2 : es2.size < scanBound := by rw [hsz]; exact hb1
    refine wpAny_bind (hg _ _ _ ?_)
    refine wpAny_bind (wpAny_storeSet_of ho1 rfl ?_ (fits_of_scanBound hb2))
    have ho2 := store_at (es' := es2) (t' := t3) ho1 rfl
    refine wpAny_pure (hR _ (sb1.trans (Heap.SameBut.update _ a _)) ?_)
    exact ⟨_, es2, _, t3, ho2, hex, rfl, fun e he => g1 e (pm.mem_iff.mp he), (pm.map keyS).nodup_iff.mpr nd1, fun k => (m1 k).trans (pm.map keyS).mem_iff.symm, hb2, hf3, hsz, hr3,
      hl.imp id fun z => by rw [hl3]; exact z⟩
  · exact wpAny_pure (hR _ sb1 ⟨_, es1, _, t2, ho1, hex, rfl, g1, nd1, m1, hb1, hf2, rfl, hr, hl⟩)
theorem setS_add_hashed {k : Str} {tk : Tok} {Q : Bool → Shared → Prop} (R : SetS w s.heap a S n) (room : n + 1 < scanBound)
    (hQ : ∀ h', Heap.SameBut a s.heap h' → SetS w h' a (fun j => S j || decide (j = k)) (if S k = true then n else n + 1) → Q (!S k) { s with heap := h' }) :
    wpAny (model P w) A (setAddHashed a (.str k tk) ((PySem.strKind P w).hash k)) Q E s := by
  obtain ⟨o, es, ep, t, ho, hex, hd, g, nd, hm, hb, hf, hn, hr, hl⟩ := R
  have hkey : (PySem.strKind P w).is k (.str k tk) = true := strKind_is P w k tk
  have hsc : (Value.str k tk).scannable = true := rfl
  have hel : ElemsOf (PySem.strKind P w) es.toList := goodS_elems g
  unfold setAddHashed setAddHashedIn
  refine wpAny_holding (wpAny_bind (wpAny_setState_of ho hd hf ?_))
  dsimp only
  rw [byScan_of hsc hb hel]
  simp only [↓reduceIte]
  unfold setAddByScan
  refine wpAny_bind ?_
  refine wpAny_bind (wpAny_rule ?_)
  refine wpAny_bind (wpAny_setScan_of hkey ho hd hf hel ?_)
  cases hfi : List.findIdx? (fun e => (PySem.strKind P w).is k e.2) es.toList with
  | some j =>
    dsimp only
    obtain ⟨hj, pj, _⟩ := List.findIdx?_eq_some_iff_getElem.mp hfi
    have hSk : S k = true := (hm k).2 ((goodS_mem (P := P) (w := w) g k).2 ⟨es.toList[j], List.getElem_mem hj, pj⟩)
    refine wpAny_pure (wpAny_pure ?_)
    have q := hQ s.heap (Heap.SameBut.refl a s.heap) ⟨o, es, ep, t, ho, hex, hd, g, nd, fun i => by
      rw [Bool.or_eq_true, decide_eq_true_eq, ← hm i]
      exact ⟨fun z => z.elim id (fun e => e ▸ hSk), .inl⟩, hb, hf, by rw [if_pos hSk]; exact hn, hr, hl⟩
    rw [hSk] at q
    exact q
  | none =>
    dsimp only
    have hnk : k ∉ es.toList.map keyS := fun z => by
      obtain ⟨e, he, q⟩ := (goodS_mem (P := P) (w := w) g k).1 z
      have c := List.findIdx?_eq_none_iff.mp hfi e he
      rw [q] at c
      cases c
    have hSk : S k = false := by
      cases q : S k with
      | false => rfl
      | true => exact absurd ((hm k).1 q) hnk
    have hgw : ∀ (b : Bool) {s₁ : Shared} {Q' : Unit → Shared → Prop}, Q' () s₁ → wpAny (model P w) A (match b with | true => rule "set.scan.the-table-gave-way" | false => pure ()) Q' E s₁ :=
      fun b s₁ Q' q => by cases b <;> first | exact wpAny_pure q | exact wpAny_rule q
    have pm := layNew_perm t es ((PySem.strKind P w).hash k) (.str k tk)
    have hf1 := layNew_fits t es ((PySem.strKind P w).hash k) (.str k tk)
    have hr1 := layNew_ris t es ((PySem.strKind P w).hash k) (.str k tk) hr
    have hl1 := layNew_led t es ((PySem.strKind P w).hash k) (.str k tk)
    generalize layNew t es ((PySem.strKind P w).hash k) (.str k tk) = Z at pm hf1 hr1 hl1 ⊢
    obtain ⟨es1, t1, wasDummy, gave⟩ := Z
    dsimp only at pm hf1 hr1 hl1 ⊢
    rw [Array.toList_push] at pm
    have pc : es1.toList.Perm (((PySem.strKind P w).hash k, Value.str k tk) :: es.toList) := pm.trans (List.perm_append_singleton _ _)
    have pk : (es1.toList.map keyS).Perm (k :: es.toList.map keyS) := pc.map keyS
    have g1 : ∀ e ∈ es1.toList, GoodS w e := fun e he => by
      rcases List.mem_cons.mp (pc.mem_iff.mp he) with z | z
      · rw [z]; exact ⟨k, tk, rfl, rfl⟩
      · exact g e z
    have nd1 : (es1.toList.map keyS).Nodup := pk.nodup_iff.mpr (List.nodup_cons.mpr ⟨hnk, nd⟩)
    have m1 : ∀ i, (S i || decide (i = k)) = true ↔ i ∈ es1.toList.map keyS := fun i => by
      rw [Bool.or_eq_true, decide_eq_true_eq, hm i, pk.mem_iff, List.mem_cons]
      exact Or.comm
    have hsz : es1.size = n + 1 := by rw [← Array.length_toList, pc.length_eq, List.length_cons, Array.length_toList, hn]
    have hb1 : es1.size < scanBound := by rw [hsz]; exact room
    have hled : w.params.followText "set-order" = true ∨ t1.led = true := hl.imp id fun z => by rw [hl1]; exact z
    have fin : ∀ h', Heap.SameBut a s.heap h' → SetS w h' a (fun j => S j || decide (j = k)) es1.size → Q true { s with heap := h' } := fun h' sb r => by
      have q := hQ h' sb
      rw [hSk] at q
      rw [hsz] at r
      exact q r
    refine wpAny_bind (hgw _ ?_)
    split
    · refine wpAny_bind ?_
      rw [hashByValue_scannable 8 hsc]
      refine wpAny_pure ?_
      refine setS_add_tail ?_ ho hex hd g1 nd1 m1 hb1 ?_ ?_ ?_ ?_
      · intro b s₁ Q' q; cases b <;> first | exact wpAny_pure q | exact wpAny_rule q
      · first | (split <;> first | exact hf1 | exact SetTable.fits_plain_off hf1) | exact hf1
      · first | (split <;> exact hr1) | exact hr1
      · first | (split <;> exact hled) | exact hled
      · intro h' sb r; dsimp only; exact wpAny_pure (fin h' sb r)
    · refine wpAny_bind (wpAny_pure ?_)
      simp only [↓reduceIte]
      refine setS_add_tail ?_ ho hex hd g1 nd1 m1 hb1 hf1 hr1 hled ?_
      · intro b s₁ Q' q; cases b <;> first | exact wpAny_pure q | exact wpAny_rule q
      · intro h' sb r; dsimp only; exact wpAny_pure (fin h' sb r)
theorem set_update_strs {I : Addr} {fp wr : List Addr} {G : Array GenState → Array GenState → Prop} {n : Nat} {Pv : Nat → Value → Prop} {St : Nat → Shared → Prop} {R : Result → Shared → Prop}
    (W : WalksS P w A.in1 I fp wr G n Pv St) (S : Addr) (hSf : S ∉ fp) (ns : List Str) (hn : n = ns.length) (hb : ns.length + 1 < scanBound) (hval : ∀ i v, Pv i v → ∃ k t, ns[i]? = some k ∧ v = .str k t) :
    ∀ (k i : Nat) (s : Shared), n - i = k → i ≤ n → St i s → (∃ c, c ≤ i ∧ SetS w s.heap S (fun j => decide (j ∈ ns.take i)) c) →
      (∀ s' c, Moved (S :: wr) G s s' → c ≤ n → SetS w s'.heap S (fun j => decide (j ∈ ns)) c → R (.ok (.ret .none)) s') →
      codeAny (model P w) A (.builtin "set.update.loop" ⟨[.ref S, .ref I], []⟩) R s := by
  have hSw : S ∉ wr := fun h => hSf (W.sub _ h)
  have hsub : ∀ b ∈ wr, b ∈ S :: wr := fun b hb => List.mem_cons_of_mem _ hb
  intro k
  induction k with
  | zero =>
    intro i s hk' hi hst ⟨c, hc, hS⟩ hR
    have hin : i = n := by omega
    subst hin
    refine codeAny_builtin F.entry_set_update_loop ?_
    rw [Around.under_plainId F.plain_set_update_loop _]
    show wpAny _ A.in1 (pyNext (.ref I) >>= _) _ _ s
    refine wpAny_bind (W.done s _ _ hst fun s' hm => ?_)
    show wpAny _ A.in1 (ret Value.none) _ _ s'
    have e : ns.take i = ns := List.take_of_length_le (by omega)
    rw [e] at hS
    exact wpAny_pure (hR s' c (hm.mono hsub) hc (hS.at fun o e => hm.heap S o hSw e))
  | succ k ih =>
    intro i s hk' hi hst ⟨c, hc, hS⟩ hR
    have hlt : i < n := by omega
    refine codeAny_builtin F.entry_set_update_loop ?_
    rw [Around.under_plainId F.plain_set_update_loop _]
    show wpAny _ A.in1 (pyNext (.ref I) >>= _) _ _ s
    refine wpAny_bind (W.item i s _ _ hlt hst fun v s' hP hst' hm => ?_)
    obtain ⟨z, t, hz, rfl⟩ := hval i v hP
    have hS' : SetS w s'.heap S (fun j => decide (j ∈ ns.take i)) c := hS.at fun o e => hm.heap S o hSw e
    show wpAny _ A.in1 (holding [Value.str z t] (setAdd S (.str z t)) >>= _) _ _ s'
    refine wpAny_bind (wpAny_holding ?_)
    unfold setAdd
    refine wpAny_holding ?_
    refine wpAny_bind ((PySem.strKind P w).pyHash (k := z) (strKind_is _ _ _ _) ?_)
    refine setS_add_hashed (s := { s' with toks := s'.toks + 1 }) hS' (by omega) fun h' hsb hS2 => ?_
    have hS3 : SetS w h' S (fun j => decide (j ∈ ns.take (i + 1))) (if decide (z ∈ ns.take i) = true then c else c + 1) := hS2.congr fun j => by
      rw [List.take_add_one, hz]
      simp [List.mem_append]
    have hc3 : (if decide (z ∈ ns.take i) = true then c else c + 1) ≤ i + 1 := by
      split <;> omega
    refine wpAny_pure ⟨plainId_quiet F.plain_set_update_loop _, ih (i + 1) _ (by omega) hlt (W.frame _ s' _ _ hst' (Nat.le_succ _) fun b hb o e => ?_) ⟨_, hc3, hS3⟩ fun s'' c2 hm'' hc'' hS'' => ?_⟩
    · rw [hsb.2 b (fun h : b = S => hSf (by rw [← h]; exact hb))]; exact e
    · refine hR s'' c2 (Moved.trans W.gtrans ((hm.mono hsub).then_heap (Nat.le_succ _) fun b o hb e => ?_) hm'') hc'' hS''
      rw [hsb.2 b (fun h : b = S => hb (by rw [h]; exact List.mem_cons_self))]; exact e
theorem setS_new_at {h : Heap} {ns : List Str} (ho : h.get? a = some { cls := .type "set", dict := none, data := .set #[] 0 (.fresh 0 0 (!w.params.followText "set-order")) }) : SetS w h a (fun j => decide (j ∈ ns.take 0)) 0 :=
  ⟨_, #[], 0, _, ho, ⟨rfl, rfl, rfl⟩, rfl, (fun e he => by simp at he), (by simp), (fun k => by simp), (by decide), (by rfl), rfl, List.Pairwise.nil, by
    show _ ∨ (!w.params.followText "set-order") = true
    cases w.params.followText "set-order"
    · exact .inr rfl
    · exact .inl rfl⟩
theorem StrsAre.str_at : ∀ {us : List Value} {ns : List Str}, StrsAre us ns → ∀ (i : Nat) (v : Value), us[i]? = some v → ∃ k t, ns[i]? = some k ∧ v = .str k t
  | _, _, .nil, i, v, h => by simp at h
  | _, _, .cons k t r, 0, v, h => ⟨k, t, rfl, (Option.some.inj h).symm⟩
  | _, _, .cons _ _ r, i + 1, v, h => StrsAre.str_at r i v (by simpa using h)
set_option maxHeartbeats 8000000 in
theorem set_of_strs {l : Addr} {its : Array Value} (ns : List Str) {Q : Value → Shared → Prop} (nh : A.handled = none) (hl : s.heap.IsList l its) (are : StrsAre its.toList ns) (few : ns.length + 1 < scanBound)
    (q : ∀ (h2 : Heap) (tk c : Nat), SetS w h2 s.heap.objs.size (fun j => decide (j ∈ ns)) c → c ≤ ns.length → (∀ b o, s.heap.get? b = some o → h2.get? b = some o) → Q (.ref s.heap.objs.size) { s with heap := h2, toks := tk }) :
    wpAny (model P w) A (call (.type "set") [.ref l]) Q E s := by
  have sz : its.size = ns.length := by rw [← Array.length_toList]; exact are.length
  obtain ⟨cc, tl, mro⟩ := F.called_set.mro
  have z1 := F.called_set.made; have z2 := F.called_set.sub
  refine wpAny_call (codeAny_of_tree ?_); show wpAny _ _ (callAny (.type "set") _) _ _ _
  refine wpAny_pure ⟨Code.quiet_builtin _ (by decide +kernel), codeAny_builtin F.entry_type_call ?_⟩; rw [Around.under_plain (weight_type_call_type "set" [.ref l] []) rfl]
  have z3 := F.called_set.notType; have z4 := F.called_set.canCreate; have z5 := F.typeCall_set_1 (.ref l)
  iterate 40 (try (any_goals (first | assumption | wp_step)))
  generalize eN : s.heap.push (freshSet w) = H1
  have at1 : H1.get? s.heap.objs.size = some (freshSet w) := by rw [← eN]; exact Heap.get?_push_size _ rfl
  have sz1 : H1.objs.size = s.heap.objs.size + 1 := by rw [← eN]; exact Heap.size_push ..
  have old1 : ∀ {b : Addr} {o : Obj}, s.heap.get? b = some o → H1.get? b = some o := fun e => by rw [← eN]; exact Heap.get?_push_of_some _ e
  refine codeAny_mono (code_set_led1 (.ref l) (E := E) (Q₁ := fun ob s1 => ob = .ref s.heap.objs.size ∧ s1 = { s with heap := H1 }) ⟨rfl, by rw [← eN]⟩) fun r s1 hr => ?_
  match r, hr with
  | .error _, hr => exact hr
  | .ok .next, hr | .ok .brk, hr | .ok .cont, hr => exact hr.elim
  | .ok (.ret obj), hr =>
    obtain ⟨rfl, rfl⟩ := hr
    have ty : Shared.TypeIs { s with heap := H1 } (.ref s.heap.objs.size) "set" := ⟨_, at1, rfl⟩
    have y1 := F.called_set.init.lookup; have y2 := F.called_set.init.bind (.ref s.heap.objs.size)
    iterate 40 (try (any_goals (first | assumption | wp_step)))
    let post : Value → Shared → Prop := fun r s2 => r = .none ∧ ∃ h2 tk c, s2 = { s with heap := h2, toks := tk } ∧ SetS w h2 s.heap.objs.size (fun j => decide (j ∈ ns)) c ∧ c ≤ ns.length ∧ ∀ b o, s.heap.get? b = some o → h2.get? b = some o
    refine codeAny_mono (codeAny_call_builtin (R := wants post E) F.called_set.init.plain F.entry_set_init (check_set_init_1 ty ?_)) fun r2 s2 hr2 => ?_
    · obtain ⟨⟨c0, d0, dt0, sl0⟩, hol, hc, n0, hd⟩ := hl
      simp only at hc hd
      subst hc hd
      have here := old1 hol
      have u1 := F.sub_list_set; have u2 := F.sub_list_frozenset
      have u3 : (Value.type "list" == Value.type "dict") = false := by decide
      have il : H1.IsList l its := ⟨_, here, rfl, n0, rfl⟩
      unfold Builtin.«set.__init__» noKeywords Builtin.Frozenset.updateFrom
      generalize ePI : pyIter = PI; wp_walk; subst ePI
      refine wpAny_pyIter_list il (wpAny_bind (wpAny_runValue ?_))
      have lt0 : l < s.heap.objs.size := Heap.lt_size hol
      have nI : l ≠ H1.objs.size := by rw [sz1]; exact Nat.ne_of_lt (Nat.lt_succ_of_lt lt0)
      have nS : s.heap.objs.size ∉ [H1.objs.size, l] := by
        rw [sz1]; simp only [List.mem_cons, List.not_mem_nil, or_false, not_or]; exact ⟨Nat.ne_of_lt (Nat.lt_succ_self _), Nat.ne_of_gt lt0⟩
      have vals : ∀ (i : Nat) (v : Value), its[i]? = some v → ∃ k t, ns[i]? = some k ∧ v = .str k t := fun i v hv => StrsAre.str_at are i v (by rw [Array.getElem?_toList]; exact hv)
      refine set_update_strs ((Walks.list (by simp [nh]) _ l nI its).toS) s.heap.objs.size nS ns sz few vals (its.size - 0) 0 _ (by omega) (Nat.zero_le _) ⟨⟨_, Heap.get?_push_size _ rfl, rfl, rfl⟩, il.push _⟩ ⟨0, Nat.le_refl 0, ?_⟩ ?_
      · exact setS_new_at (Heap.get?_push_of_some _ at1)
      · rintro ⟨h2, g2, d2, tk2, os2⟩ c2 hm hc2 hS2
        obtain rfl : g2 = s.gens := hm.gens
        obtain rfl : d2 = s.drawn := hm.drawn
        obtain rfl : os2 = s.os := hm.os
        show wpAny _ _ _ _ _ _
        refine wpAny_pure ?_
        show wpAny _ _ (ret Value.none) _ _ _
        rw [sz] at hc2
        refine wpAny_pure ⟨rfl, h2, tk2, c2, rfl, hS2, hc2, fun b o e => ?_⟩
        have lb := Heap.lt_size e
        refine hm.heap b o ?_ (Heap.get?_push_of_some _ (old1 e))
        rw [sz1]; simp only [List.mem_cons, List.not_mem_nil, or_false, not_or]; exact ⟨Nat.ne_of_lt lb, Nat.ne_of_lt (Nat.lt_succ_of_lt lb)⟩
    · match r2, hr2 with
      | .error _, hr2 => exact hr2
      | .ok .next, hr2 | .ok .brk, hr2 | .ok .cont, hr2 => exact hr2.elim
      | .ok (.ret r), hr2 =>
        obtain ⟨rfl, h2, tk, c2, rfl, a1, a2, a3⟩ := hr2
        iterate 40 (try (any_goals (first | assumption | wp_step)))
        exact q _ _ _ a1 a2 a3
theorem strs_of : ∀ (l : List (Int × Value)), (∀ e ∈ l, GoodS w e) → StrsAre (l.map (·.2)) (l.map keyS)
  | [], _ => .nil
  | e :: l, h => by
    obtain ⟨k, tk, e1, _⟩ := h e (List.mem_cons_self ..)
    have e2 : keyS e = k := by
      unfold keyS
      rw [e1]
    rw [List.map_cons, List.map_cons, e2, e1]
    exact .cons k tk (strs_of l fun u hu => h u (List.mem_cons_of_mem _ hu))
theorem strs_perm {vs us : List Value} {ns : List Str} (p : vs.Perm us) (h : StrsAre us ns) : ∃ ms, StrsAre vs ms ∧ ms.Perm ns := by
  induction p generalizing ns with
  | nil => exact ⟨ns, h, List.Perm.refl _⟩
  | cons x p ih =>
    cases h with
    | cons k t r =>
      obtain ⟨ms, a, b⟩ := ih r
      exact ⟨k :: ms, .cons k t a, b.cons k⟩
  | swap x y l =>
    cases h with
    | cons k t r =>
      cases r with
      | cons k2 t2 r => exact ⟨_, .cons k2 t2 (.cons k t r), List.Perm.swap ..⟩
  | trans p q ih1 ih2 =>
    obtain ⟨ms, a, b⟩ := ih2 h
    obtain ⟨ms2, c, d⟩ := ih1 a
    exact ⟨ms2, c, d.trans b⟩
theorem sorted_setS {Q : Value → Shared → Prop} (R : SetS w s.heap a S n) (hh : A.handled = none) (h64 : n < 64)
    (hQ : ∀ s' p (out : Array Value) (c : Nat) (ns : List Str), (∀ b o, s.heap.get? b = some o → s'.heap.get? b = some o) → s'.gens = s.gens → s'.os = s.os → s.heap.objs.size ≤ p →
      s'.heap.get? p = some (seqObj "list" out c) → StrsAre out.toList ns → sortedS ns = true → ns.Nodup → (∀ k, k ∈ ns ↔ S k = true) → ns.length = n → Q (.ref p) s') :
    wpAny (model P w) A (call (.builtin "sorted") [.ref a]) Q E s := by
  obtain ⟨o, es, ep, t, ho, hex, hd, g, nd, hm, hb, hf, hn, hr, hl⟩ := R
  refine Calls.call_function_entry kind_sorted plain_sorted entry_sorted (args_sorted1 _) ?_
  unfold Builtin.«sorted»
  refine wpAny_bind (m := checkCount "sorted" 1 1 _) (wpAny_pure ?_)
  refine wpAny_bind (collect_set (A := A.in1) hh ⟨o, ho, hex.1, hd⟩ hf hb hr hl fun s1 vs k1 hz g1 o1 pm => ?_)
  have hvl : vs.length = n := by rw [pm.length_eq, List.length_map, Array.length_toList]; exact hn
  obtain ⟨ms, hI, pk⟩ := strs_perm pm (strs_of es.toList g)
  refine wpAny_bind (wpAny_newList ?_ (by rw [hvl, sizeLine_eq]; omega))
  have hoL : (s1.heap.push (seqObj "list" vs.toArray 0)).get? s1.heap.objs.size = some (seqObj "list" vs.toArray 0) := Heap.get?_push_size _ rfl
  refine wpAny_bind (wpAny_holding (wpAny_call_entry slot_list_sort ⟨_, hoL, rfl⟩ entry_list_sort (list_sort_treeK strKind_oneLt hoL hI.keysOf (fun v₁ v₂ rest e => keyKind_strs (by rw [← e]; exact hI)) (by rw [hvl]; exact h64) fun st' a1 a2 => ⟨_, rfl, ?_⟩) (args_list_sort _)))
  obtain ⟨ns', b1, b2, b3⟩ := sorted_out_str hI a1 a2
  obtain ⟨c, hc⟩ := sortedHeap_at (vs := vs) (out := (arrOf st').map (·.2)) hoL
  have pn : ns'.Perm (es.toList.map keyS) := b2.trans pk
  refine wpAny_pure ⟨_, rfl, hQ _ s1.heap.objs.size ((arrOf st').map (·.2)) c ns' (fun b u e => ?_) g1 o1 hz hc b1 b3 (pn.nodup_iff.mpr nd) (fun k => by rw [pn.mem_iff, ← hm k]) ?_⟩
  · have q := k1 b u e
    have hlt := Heap.lt_size q
    show (sortedHeap (s1.heap.push (seqObj "list" vs.toArray 0)) s1.heap.objs.size vs ((arrOf st').map (·.2))).get? b = some u
    rw [sortedHeap_old (Nat.ne_of_lt hlt) (by rw [size_push']; exact Nat.lt_succ_of_lt hlt)]
    exact Heap.get?_push_of_some _ q
  · rw [pn.length_eq, List.length_map, Array.length_toList]; exact hn
end
end DL

/-! sorted(set(xs)) of ints or texts, comparisons of texts, written dicts, list(text). -/
namespace DL
open PySem PySem.Spec PyProof.Rows L2
def SetSO (w : World) (a : Addr) (S : Str → Bool) (n : Nat) : HO := .ext fun h => SetS w h a S n
theorem setSO_new {w : World} {P : Program} {H : Hp} {h : Heap} {a : Addr} {S : Str → Bool} {n : Nat} (R : SetS w h a S n) : ObjOk P w H h a (SetSO w a S n) := by
  have ⟨o, _, _, _, ho, _⟩ := R
  exact ⟨R, ⟨o, ho⟩, fun h1 h2 p k => SetS.at p k⟩
def rSetInts (K : PySem.W.Frag) (W : World) : List V → Hp → VK → Prop := fun xs H Q => ∃ (p : Addr) (ns : List Int), xs = [V.ref p] ∧ (SqL K H p (ns.map V.int) ∨ SqT K H p (ns.map V.int)) ∧ ns.length + 1 < scanBound ∧
  ∀ (D : Addr) (L : List Int), H D = none → L.Nodup → L.length ≤ ns.length → (∀ x, x ∈ L ↔ x ∈ ns) → Q (.ref D) (upd H D (SetO W D (fun j => decide (j ∈ L)) L.length))
def rSetStrs (K : PySem.W.Frag) (W : World) : List V → Hp → VK → Prop := fun xs H Q => ∃ (p : Addr) (ns : List Str), xs = [V.ref p] ∧ SqL K H p (ns.map V.str) ∧ ns.length < 63 ∧
  ∀ (D : Addr) (c : Nat), H D = none → c ≤ ns.length → Q (.ref D) (upd H D (SetSO W D (fun j => decide (j ∈ ns)) c))
def rSetA (K : PySem.W.Frag) (W : World) : List V → Hp → VK → Prop := fun xs H Q => rSetInts K W xs H Q ∨ rSetStrs K W xs H Q
def rSortedSetS (W : World) : List V → Hp → VK → Prop := fun xs H Q => ∃ (D : Addr) (S : Str → Bool) (n : Nat), xs = [V.ref D] ∧ H D = some (SetSO W D S n) ∧ n < 64 ∧
  ∀ (ys : List Str) (p : Addr), sortedS ys = true → ys.Nodup → (∀ k, k ∈ ys ↔ S k = true) → H p = none → Q (.ref p) (upd H p (.lst (ys.map V.str)))
def rSortedSetA (W : World) : List V → Hp → VK → Prop := fun xs H Q => rSortedSet W xs H Q ∨ rSortedSetS W xs H Q
def chS1 (z : Str) : List Str := z.cps.toList.map fun c => ⟨#[c]⟩
def rListT : List V → Hp → VK → Prop := fun xs H Q => ∃ z : Str, xs = [.str z] ∧ z.length ≤ sizeLine ∧ ∀ p, H p = none → Q (.ref p) (upd H p (.lst ((chS1 z).map V.str)))
def rLtS : R2 := fun x y H Q => ∃ i j : Str, x = .str i ∧ y = .str j ∧ Q (.bl (decide (i.cps.toList < j.cps.toList))) H
def rLeS : R2 := fun x y H Q => ∃ i j : Str, x = .str i ∧ y = .str j ∧ Q (.bl (!decide (j.cps.toList < i.cps.toList))) H
section
variable {X : Cx} {K : PySem.W.Frag}
theorem op_ltA : OpR X (compareOp .Lt) (orR (rI0 fun i j => .bl (decide (i < j))) rLtS) := opr_or op_lt op_lt_str
theorem op_leS : OpR X (compareOp .LtE) rLeS := op_le_str
theorem callr_or {f : Value} {r1 r2 : List V → Hp → VK → Prop} (h1 : CallR X f r1) (h2 : CallR X f r2) : CallR X f (fun xs H Q => r1 xs H Q ∨ r2 xs H Q) := by
  intro pins s σ H xs us Q I r h
  rcases h with h | h
  · exact h1 pins s σ H xs us Q I r h
  · exact h2 pins s σ H xs us Q I r h
theorem call_setInts {W : World} (hK : X.K = K) (hw : X.w = W) (hc : X.calm = true) : CallR X (.type "set") (rSetInts K W) := by
  subst hK hw
  intro pins s σ H xs us Q I r h
  obtain ⟨p, ns, rfl, hs, few, q⟩ := h
  obtain ⟨u, rfl, ru⟩ := vals1 r
  obtain rfl : u = Value.ref p := ru
  have few2 := few
  have fin : ∀ (h2 : Heap) (tk c : Nat), SetR X.w h2 s.heap.objs.size (fun j => decide (j ∈ ns)) c → c ≤ ns.length → (∀ b o, s.heap.get? b = some o → h2.get? b = some o) →
      ∃ (x : V) (H' : Hp), Inv X pins σ H' { s with heap := h2, toks := tk } ∧ RelV x (Value.ref s.heap.objs.size) ∧ Q x H' := fun h2 tk c S hc2 keep => by
    obtain ⟨L, nd, ll, m⟩ := setR_of S
    have e : (fun j => decide (j ∈ ns)) = fun j => decide (j ∈ L) := funext fun j => by
      have := m j
      rw [Bool.eq_iff_iff, this]
      simp
    rw [e, ← ll] at S
    exact ⟨.ref _, upd H s.heap.objs.size (SetO X.w s.heap.objs.size (fun j => decide (j ∈ L)) L.length), I.laid (t' := tk) keep (Nat.le_refl _) (setO_new S), rfl, q _ L (I.hok.fresh (Nat.le_refl _)) nd (by omega) fun x => by
      have := m x
      simp only [decide_eq_true_eq] at this
      exact this.symm⟩
  rcases hs with hs | hs
  · obtain ⟨its, rv, pl, hz⟩ := I.list hs
    exact set_of_list ns (I.ok.hd hc) pl.isList (by simpa using ints_vals rv) few2 fin
  · obtain ⟨its, rv, pl, hz⟩ := I.tuple hs
    exact call_set_tupI ns (I.ok.hd hc) (show s.heap.IsTuple p its.toArray from pl) (by simpa using ints_vals rv) few2 fin
theorem call_setStrs {W : World} (hK : X.K = K) (hw : X.w = W) (hc : X.calm = true) : CallR X (.type "set") (rSetStrs K W) := by
  subst hK hw
  intro pins s σ H xs us Q I r h
  obtain ⟨p, ns, rfl, hs, few, q⟩ := h
  obtain ⟨u, rfl, ru⟩ := vals1 r
  obtain rfl : u = Value.ref p := ru
  obtain ⟨its, rv, pl, hz⟩ := I.list hs
  refine set_of_strs ns (I.ok.hd hc) pl.isList (by simpa using rv.strs) (Nat.lt_of_lt_of_le (Nat.succ_lt_succ few) (by decide)) fun h2 tk c S hc2 keep => ?_
  exact ⟨.ref _, upd H s.heap.objs.size (SetSO X.w s.heap.objs.size (fun j => decide (j ∈ ns)) c), I.laid (t' := tk) keep (Nat.le_refl _) (setSO_new S), rfl, q _ c (I.hok.fresh (Nat.le_refl _)) hc2⟩
theorem call_setA {W : World} (hK : X.K = K) (hw : X.w = W) (hc : X.calm = true) : CallR X (.type "set") (rSetA K W) := callr_or (call_setInts hK hw hc) (call_setStrs hK hw hc)
theorem call_sortedSetS {W : World} (hw : X.w = W) (hc : X.calm = true) : CallR X (.builtin "sorted") (rSortedSetS W) := by
  subst hw
  intro pins s σ H vs us Q I r h
  obtain ⟨a, S, n, rfl, ha, h64, q⟩ := h
  have R : SetS X.w s.heap a S n := (I.hok a _ ha).1
  rw [Vals.ref1 r]
  refine sorted_setS R (I.ok.hd hc) h64 fun s' p out c ns k g o hp hg hi hs nd hm hl => ?_
  have hlen : (ns.map V.str).length ≤ sizeLine := by rw [List.length_map, hl, sizeLine_eq]; omega
  have hn : H p = none := I.hok.fresh hp
  have J : Inv X pins σ (upd H p (.lst (ns.map V.str))) { s with heap := s'.heap, gens := s'.gens, drawn := s'.drawn, toks := s'.toks } :=
    I.call (ch := []) (Un.laid k hp hn) (I.hok.laid k hp ⟨hlen, out.toList, c, vals_of_strs hi, hg⟩) (by rw [g]; exact I.bare) (fun _ z => nomatch z)
  have e : s' = { s with heap := s'.heap, gens := s'.gens, drawn := s'.drawn, toks := s'.toks } := by
    cases s'
    cases s
    cases o
    rfl
  rw [e]
  exact ⟨.ref p, _, J, rfl, q ns p hs nd hm hn⟩
theorem call_sortedSetA {W : World} (hw : X.w = W) (hc : X.calm = true) : CallR X (.builtin "sorted") (rSortedSetA W) := callr_or (call_sortedSet hw hc) (call_sortedSetS hw hc)
theorem strs_at : ∀ {us : List Value} {zs : List Str}, us.length = zs.length → (∀ (j : Nat) (v : Value), us[j]? = some v → ∃ z t, zs[j]? = some z ∧ v = Value.str z t) → StrsAre us zs
  | [], [], _, _ => .nil
  | [], _ :: _, h, _ => by cases h
  | _ :: _, [], h, _ => by cases h
  | u :: us, z :: zs, h, k => by
    obtain ⟨z', t, e1, rfl⟩ := k 0 u rfl
    cases e1
    exact .cons z t (strs_at (by simpa using h) fun j v hv => k (j + 1) v (by simpa using hv))
theorem call_listT (hc : X.calm = true) : CallR X (.type "list") rListT := by
  intro pins s σ H xs us Q I r h
  obtain ⟨z, rfl, hz, q⟩ := h
  obtain ⟨u, rfl, t, rfl⟩ := vals1 r
  have hn : z.cps.size ≤ sizeLine := hz
  refine call_list_str (hn := hn) (I.ok.hd hc) z t fun h' tk acc' c' keep hl hi => ?_
  have hlen : ((chS1 z).map V.str).length ≤ sizeLine := by
    unfold chS1
    rw [List.length_map, List.length_map, Array.length_toList]
    exact hn
  have are : StrsAre acc'.toList (chS1 z) := strs_at (by unfold chS1; rw [List.length_map, Array.length_toList, Array.length_toList]; exact hi.1) fun j v hv => by
    obtain ⟨c, u, e1, e2⟩ := hi.2 j v (by rw [← Array.getElem?_toList]; exact hv)
    exact ⟨⟨#[c]⟩, u, by unfold chS1; rw [List.getElem?_map, Array.getElem?_toList, e1]; rfl, e2⟩
  exact ⟨.ref _, upd H s.heap.objs.size (.lst ((chS1 z).map V.str)), I.laid (t' := tk) keep (Nat.le_refl _) ⟨hlen, acc'.toList, c', vals_of_strs are, hl⟩, rfl, q _ (I.hok.fresh (Nat.le_refl _))⟩
end
section
variable {w : Wd} {ρ : List Sl} {P : Sl → Prop} {te ta tb tc : TE} {tr : TA}
/-- sorted(set(xs)) -/
theorem e_sortSetA {W : World} (h : E w te ρ fun x => (∃ ns B : List Int, seqD x = some (ns.map .int) ∧ ns.length + 1 < scanBound ∧ B.length < 64 ∧ (∀ x ∈ ns, x ∈ B) ∧ ∀ ys : List Int, ys.Pairwise (· < ·) → (∀ x, x ∈ ys ↔ x ∈ ns) → P (.dat (.list (ys.map .int)))) ∨
      ∃ ns : List Str, lstD x = some (ns.map PyData.str) ∧ ns.length < 63 ∧ ∀ ys : List Str, sortedS ys = true → ys.Nodup → (∀ x, x ∈ ys ↔ x ∈ ns) → P (.dat (.list (ys.map PyData.str)))) :
    E w (tCB (rSortedSetA W) (tCons (tCB (rSetA w.K W) (tCons te tNil)) tNil)) ρ P := by
  intro o σ H Q ok k
  refine h o σ H _ ok ?_
  rintro o1 H1 v x g1 r1 hq
  have b1 := ok.toBas.go g1
  rcases hq with ⟨ns, B, hx, few, hB, sub, q⟩ | ⟨ns, hx, few, q⟩
  · obtain ⟨a, us, rfl, ha, hs⟩ := r1.seq hx
    have e := DdAll.ints ha
    subst e
    refine .inl ⟨a, ns, rfl, hs, few, fun D L nD nd ll m => ?_⟩
    have g2 := b1.new (u := SetO W D (fun j => decide (j ∈ L)) L.length) nD
    refine .inl ⟨D, _, _, rfl, upd_same, Nat.lt_of_le_of_lt (nd_sub nd fun x hx => sub x ((m x).mp hx)) hB, fun ys p hs2 hm hl np => ?_⟩
    have b2 := b1.go g2
    have g3 := b2.new (u := .lst (ys.map V.int)) np
    exact k o1 _ _ (.dat (.list (ys.map .int))) ((g1.trans g2).trans g3) (Dd.lst (.inl (.inl (b2.seen np))) (DdAll.ofInts ys)) (q ys hs2 fun x => by rw [hm, ← m x]; simp)
  · obtain ⟨a, us, rfl, hs, ha⟩ := r1.lst hx
    have e := DdAll.strs ha
    subst e
    refine .inr ⟨a, ns, rfl, hs, few, fun D c nD hc => ?_⟩
    have g2 := b1.new (u := SetSO W D (fun j => decide (j ∈ ns)) c) nD
    refine .inr ⟨D, _, _, rfl, upd_same, by omega, fun ys p hs2 nd hm np => ?_⟩
    have b2 := b1.go g2
    have g3 := b2.new (u := .lst (ys.map V.str)) np
    exact k o1 _ _ (.dat (.list (ys.map PyData.str))) ((g1.trans g2).trans g3) (Dd.lst (.inl (.inl (b2.seen np))) (DdAll.ofStrs ys)) (q ys hs2 nd fun x => by rw [hm]; simp)
theorem op2_ltS : Op2 w rLtS (fun x y P => ∃ i j : Str, x = .dat (.str i) ∧ y = .dat (.str j) ∧ P (.dat (.bool (decide (i.cps.toList < j.cps.toList))))) := by
  rintro o H u v x y P Q b ru rv ⟨i, j, rfl, rfl, q⟩ k
  cases ru
  cases rv
  exact ⟨i, j, rfl, rfl, k o H _ _ b.refl (VR.dat (Dd.bl _)) q⟩
theorem op2_leS : Op2 w rLeS (fun x y P => ∃ i j : Str, x = .dat (.str i) ∧ y = .dat (.str j) ∧ P (.dat (.bool (!decide (j.cps.toList < i.cps.toList))))) := by
  rintro o H u v x y P Q b ru rv ⟨i, j, rfl, rfl, q⟩ k
  cases ru
  cases rv
  exact ⟨i, j, rfl, rfl, k o H _ _ b.refl (VR.dat (Dd.bl _)) q⟩
/-- a chain of two comparisons of any kind -/
theorem e_chain2 {r r' : R2} {R R' : Sl → Sl → (Sl → Prop) → Prop} (h1 : Op2 w r R) (h2 : Op2 w r' R') (h : E w ta ρ fun x => E w tb ρ fun y => R x y fun z => ∃ b, z = .dat (.bool b) ∧
      if b = true then E w tc ρ fun x' => R' y x' P else P (.dat (.bool false))) : E w (tChain r r' ta tb tc) ρ P := by
  intro o σ H Q ok k
  refine h o σ H _ ok ?_
  intro o1 H1 v x g1 r1 q1
  refine q1 o1 σ H1 _ (ok.go g1) ?_
  intro o2 H2 u y g2 r2 q2
  have b1 := ok.toBas.go g1
  have b2 := b1.go g2
  refine h1 o2 H2 v u x y _ _ b2 (VR.go b1 g2 r1) r2 q2 ?_
  rintro o3 H3 z d g3 r3 ⟨b, rfl, q3⟩
  cases r3
  refine ⟨b, rfl, ?_⟩
  have g123 := (g1.trans g2).trans g3
  cases b with
  | false => exact k o3 H3 _ _ g123 (VR.dat (Dd.bl _)) q3
  | true =>
    refine q3 o3 σ H3 _ (ok.go g123) ?_
    intro o4 H4 t x' g4 r4 q4
    have b3 := b2.go g3
    refine h2 o4 H4 u t y x' _ _ (b3.go g4) (VR.go b3 g4 (VR.go b2 g3 r2)) r4 q4 ?_
    intro o5 H5 z2 d2 g5 r5 p5
    exact k o5 H5 z2 d2 ((g123.trans g4).trans g5) r5 p5
/-- {} -/
theorem e_dnewK (q : P (.dat (.dict []))) : E w tDNewK ρ P := by
  intro o σ H Q ok k p np
  have b := ok.toBas
  exact k o _ _ _ (b.new (u := .dK []) np) (VR.dat (Dd.dic (.inl (b.seen np)) DdKv.nil)) q
/-- {z: n} -/
theorem e_disp1 {z : Str} {n : Int} (q : P (.dat (.dict [(.str z, .int n)]))) : E w (tDisp [(tC (.str z), tC (.int n))]) ρ P := by
  intro o σ H Q ok k p np
  have b := ok.toBas
  refine ⟨upd_same, [(.inr z, .int n)], rfl, (show 1 ≤ 15 by decide), ?_⟩
  rw [upd_upd]
  exact k o _ _ _ (b.new (u := .dK [(.inr z, .int n)]) np) (VR.dat (Dd.dic (.inl (b.seen np)) (DdKv.cons (k := .inr z) (Dd.int n) DdKv.nil))) q
theorem cl_listT : Cl w rListT (fun xs P => ∃ z : Str, xs = [.dat (.str z)] ∧ z.length ≤ sizeLine ∧ P (.dat (.list ((chS1 z).map PyData.str)))) := by
  rintro o H vs xs P Q b r ⟨z, rfl, hz, q⟩ k
  cases r with
  | cons r t =>
    cases t
    cases r
    refine ⟨z, rfl, hz, fun p np => ?_⟩
    have g := b.new (u := .lst ((chS1 z).map V.str)) np
    exact k o _ _ _ g (VR.dat (Dd.lst (.inl (.inl (b.seen np))) (DdAll.ofStrs _))) q
end
end DL

/-! A call without arguments; a def that is never called. -/
namespace DL
open PySem PySem.Spec PyProof.Rows L2
theorem pe_callG0 {X : Cx} {n : Nat} {f : Addr} {fd : FuncData} {sp : Sp} {x : Str} {p pos : Pos}
    (F : FnG X.prog X.w X.K X.mg X.base n f fd [] sp) (hgd : X.A.guards = some [])
    (hroom : Room n X.A) (hg : Gl X x) (hm : X.mg x = some (.ref f))
    (hk : PySem.W.keepIn X.K (.ref f) = true) (hb : Binds X.K fd [] [])
    (hdb : (x == ("__debug__" : Str)) = false := by decide) :
    PE X (.Call (.Name x p) [] [] pos) (tCall sp [] E0 tNil) := by
  constructor
  intro pins s σ H Q I h
  refine wpAny_Call_Name_kw (ld_glob I hg hm ?_ hdb)
  refine PySem.W.callWith_K0 I.kIn hk ?_
  have qb : sp ([] ++ []) H Q E0 := h
  rw [List.append_nil] at qb
  have hbd := hb s [] I.kIn rfl
  refine wpAny_call (codeAny_mono (F.go X.A X.stack s H ⟨[], []⟩ [] [] Q E0 hgd hroom I.env0 hbd .nil qb) ?_)
  intro r sz hz
  cases r with
  | error e => exact hz.elim
  | ok fl =>
    cases fl with
    | ret u => exact I.after hz
    | next => exact hz.elim
    | brk => exact hz.elim
    | cont => exact hz.elim
/-- what is promised of a call that never comes -/
theorem fnNone {P : Program} {w : World} {K : PySem.W.Frag} {mg : Str → Option Value} {bs : Heap} {f : Addr} {fd : FuncData} {ps : List Str} {tb : List (Addr × Str)} : FnG P w K mg bs 0 f fd ps (spG K tb fun _ _ => False) := by
  refine ⟨fun vs H Q E h => ?_, fun A out s H args us vs Q E hg hr e0 hb r h => ?_⟩
  · obtain ⟨_, _, _, _, _, _, _, _, z, _⟩ := h
    exact z.elim
  · obtain ⟨_, _, _, _, _, _, _, _, z, _⟩ := h
    exact z.elim
section
variable {w : Wd} {ρ : List Sl} {te tl : TE} {e : En}
/-- x, y = e, a new list that will be changed -/
theorem s_set2EL {i j m : Nat} (hm : m = 2) (h : E w te ρ fun x => notOwn x ∧ EL w tl ρ fun ds => ∀ p, e.nx ((ρ.set i x).set j (.own p ds))) :
    S w (tAsg (tTupP (tCons te (tCons tl tNil))) (gTup w.K m (gCons (gName i) (gCons (gName j) gNil)))) ρ e := by
  subst hm
  intro o σ H D ok kn kr kb kc
  refine h o σ H _ ok ?_
  rintro o1 H1 v x g1 r1 ⟨n1, q⟩
  have ok1 := ok.go g1
  refine q o1 σ H1 _ ok1 ?_
  intro o2 H2 p us ds nl hp
  refine ⟨(show 2 ≤ sizeLine from Nat.le_of_ble_eq_true rfl), fun t ob nt nd => ?_⟩
  have ok2 := ok1.go nl.go
  have g3 := ok2.toBas.new (u := .frz ob (.tup [v, .ref p])) nt
  have ok3 := ok2.go g3
  have pt : p ≠ t := fun z => by
    have := nl.at_
    rw [z, nt] at this
    cases this
  refine ⟨t, [v, .ref p], rfl, .inl (.inr ⟨ob, upd_same⟩), rfl, _, _, rfl, _, _, rfl, rfl, ?_⟩
  have rx := VR.go ok2.toBas g3 (VR.go ok1.toBas nl.go r1)
  refine kn o2 _ _ _ ((ok3.setD i rx n1).set j (x := .own p ds) ⟨rfl, nl.own, nl.out, us, ?_, ddAll_mono g3.same nl.dd⟩ ?_) (hp p)
  · rw [upd_ne pt]
    exact nl.at_
  · rintro p' e' m y' q' nj ej a'
    cases e'
    by_cases mi : i = m
    · subst mi
      have hl : i < (ρ.set i x).length := (List.getElem?_eq_some_iff.mp ej).1
      rw [List.length_set] at hl
      rw [List.getElem?_set_self hl] at ej
      cases ej
      rw [n1.adr] at a'
      cases a'
    · rw [List.getElem?_set_ne mi] at ej
      exact (nl.no m y' q' ej a').symm
end
end DL

/-! t[::-1] of a tuple. -/
namespace DL
open PySem PySem.Spec PyProof.Rows L2
section
variable {prog : Program} {w : World} {A : Around} {E : Value → Shared → Prop} {s : Shared}
theorem places_rev (n : Nat) : Builtin.Slice.slicePlaces ((n : Int) - 1) (-1) (-1) = n := by
  unfold Builtin.Slice.slicePlaces
  rw [if_neg (by decide)]
  by_cases h : (n : Int) - 1 > -1
  · rw [if_pos h]
    have : ((n : Int) - 1 - -1 - 1) / - -1 + 1 = (n : Int) := by
      rw [show (- -1 : Int) = 1 from rfl, Int.ediv_one]
      omega
    rw [this, Int.toNat_natCast]
  · rw [if_neg h]
    omega
theorem sliceApplied_rev {sl : Addr} {vl vu vs : Value} {n : Nat} {Q : Int × Int × Nat → Shared → Prop} (hs : s.heap.IsSliceOf sl vl vu vs) (pl : IsPart vl none) (pu : IsPart vu none) (ps : IsPart vs (some (-1)))
    (h : Q ((n : Int) - 1, -1, n) s) : wpAny (model prog w) A (Builtin.Slice.sliceApplied (.ref sl) (pure (n : Int))) Q E s := by
  obtain ⟨os, hos, hcs, hds⟩ := id hs
  unfold Builtin.Slice.sliceApplied Builtin.Slice.sliceFields
  refine wpAny_bind (wpAny_bind (wpAny_field hos hds (x := vl) rfl (wpAny_bind (wpAny_field hos hds (x := vu) rfl (wpAny_bind (wpAny_field hos hds (x := vs) rfl (wpAny_pure ?_)))))))
  refine wpAny_bind (HT.slicePart_ ps ?_)
  show wpAny _ _ (if ((-1 : Int) == 0) = true then _ else _) _ _ s
  rw [if_neg (by decide)]
  refine wpAny_bind (HT.slicePart_ pl (wpAny_bind (HT.slicePart_ pu (wpAny_bind (wpAny_pure ?_)))))
  show wpAny _ _ (pure ((n : Int) - 1, (-1 : Int), Builtin.Slice.slicePlaces ((n : Int) - 1) (-1) (-1))) _ _ s
  rw [places_rev]
  exact wpAny_pure h
theorem fm_congr {α β : Type} {f g : α → Option β} : ∀ {l : List α}, (∀ x ∈ l, f x = g x) → l.filterMap f = l.filterMap g
  | [], _ => rfl
  | x :: l, h => by rw [List.filterMap_cons, List.filterMap_cons, h x (List.mem_cons_self ..), fm_congr fun y hy => h y (List.mem_cons_of_mem _ hy)]
theorem pick_rev (xs : Array Value) : ((List.range xs.size).filterMap fun (m : Nat) => xs[(((xs.size : Int) - 1) + (m : Int) * (-1)).toNat]?).toArray = xs.toList.reverse.toArray := by
  have e : (List.range xs.size).filterMap (fun (m : Nat) => xs[(((xs.size : Int) - 1) + (m : Int) * (-1)).toNat]?) = (List.range xs.size).filterMap (some ∘ fun (m : Nat) => xs.toList.getD (xs.size - 1 - m) .none) := by
    refine fm_congr fun m hm => ?_
    have lm := List.mem_range.mp hm
    have i1 : (((xs.size : Int) - 1) + (m : Int) * (-1)).toNat = xs.size - 1 - m := by omega
    have l2 : xs.size - 1 - m < xs.toList.length := by rw [Array.length_toList]; omega
    rw [i1, ← Array.getElem?_toList, List.getElem?_eq_getElem l2]
    show some xs.toList[xs.size - 1 - m] = some (xs.toList.getD (xs.size - 1 - m) .none)
    rw [List.getD_eq_getElem?_getD, List.getElem?_eq_getElem l2]
    rfl
  rw [e, List.filterMap_eq_map]
  congr 1
  apply List.ext_getElem
  · rw [List.length_map, List.length_range, List.length_reverse, Array.length_toList]
  · intro i h1 h2
    rw [List.length_map, List.length_range] at h1
    have l2 : xs.size - 1 - i < xs.toList.length := by rw [Array.length_toList]; omega
    rw [List.getElem_map, List.getElem_range, List.getElem_reverse, List.getD_eq_getElem?_getD, List.getElem?_eq_getElem l2]
    simp only [Option.getD_some, Array.length_toList]
theorem getItem_tuple_rev {t sl : Addr} {items : Array Value} {vl vu vs : Value} {Q : Value → Shared → Prop} (ht : IsTup s.heap t items) (hs : s.heap.IsSliceOf sl vl vu vs) (pl : IsPart vl none) (pu : IsPart vu none) (ps : IsPart vs (some (-1)))
    (h : Q (.ref s.heap.objs.size) { s with heap := s.heap.push { cls := .type "tuple", data := .seq items.toList.reverse.toArray } })
    (hsz : items.size ≤ sizeLine) : wpAny (model prog w) A (getItem (.ref t) (.ref sl)) Q E s := by
  have htake : sizeOk (.seq items.toList.reverse.toArray) := by
    show items.toList.reverse.toArray.size ≤ sizeLine
    rw [List.size_toArray, List.length_reverse, Array.length_toList]
    exact hsz
  obtain ⟨os, hos, hcs, hds⟩ := id hs
  have hTs : s.TypeIs (.ref sl) "slice" := ⟨os, hos, hcs⟩
  unfold getItem
  try with_reducible refine wpAny_holding ?_
  first | refine wpAny_bind (wpAny_pure ?_) | skip
  refine wpAny_bind (wpAny_sequenceKey ht.typeIs (by decide) ?_)
  refine wpAny_bind (wpAny_callSpecial?_slot (name := Str.ofString "__getitem__") ht.typeIs PyProof.Rows.slot_tuple_getitem
    (wpAny_call_entry PyProof.Rows.slot_tuple_getitem ht.typeIs entry_tuple_getitem ?_ (args_tuple_getitem _ _)))
  show wpAny _ _ (Builtin.Tuple.tupleItemsOf (.ref t) >>= _) _ _ s
  refine wpAny_bind (PyProof.Rows.tupleItemsOf_ ht ?_)
  refine wpAny_bind (wpAny_typeOf hTs ?_)
  rw [if_pos (by decide)]
  refine wpAny_bind (sliceApplied_rev hs pl pu ps ?_)
  have hno : ¬ ((((items.size : Int) - 1) == 0 && (-1 : Int) == 1 && items.size == items.size) = true) := by
    intro q
    rw [Bool.and_eq_true, Bool.and_eq_true] at q
    exact absurd (eq_of_beq q.1.2) (by decide)
  show wpAny _ _ (if (((items.size : Int) - 1) == 0 && (-1 : Int) == 1 && items.size == items.size) = true then _ else _) _ _ s
  rw [if_neg hno, pick_rev]
  first
    | exact wpAny_bind (m := Builtin.Tuple.tupleExact _) (wpAny_newObj_type (wpAny_pure ⟨_, rfl, wpAny_pure h⟩) htake)
    | exact wpAny_bind (m := Builtin.Tuple.tupleExact _) (wpAny_newObj_type (wpAny_bind (wpAny_pure (wpAny_pure ⟨_, rfl, wpAny_pure h⟩))) htake)
    | exact wpAny_bind (wpAny_bind (m := Builtin.Tuple.tupleExact _) (wpAny_newObj_type (wpAny_pure (wpAny_pure ⟨_, rfl, wpAny_pure h⟩)) htake))
    | exact wpAny_bind (wpAny_bind (m := Builtin.Tuple.tupleExact _) (wpAny_newObj_type (wpAny_pure ⟨_, rfl, wpAny_pure h⟩) htake))
end
def tRevT (K : PySem.W.Frag) (te : TE) : TE := fun σ H Q => te σ H fun x H1 => ∃ a xs, x = .ref a ∧ SqT K H1 a xs ∧ ∀ (p : Addr) (o : Obj), H1 p = none → o.dict = none → Q (.ref p) (upd H1 p (.frz o (.tup xs.reverse)))
theorem pe_revT {X : Cx} {K : PySem.W.Frag} (hK : X.K = K) {e : Expr} {te : TE} {k : Nat} {p1 p2 p3 pos : Pos} (he : PE X e te) : PE X (.Subscript e (.Slice none none (some (.UnaryOp .USub (.Constant (.int 1) k p1) p2)) p3) pos) (tRevT K te) := by
  subst hK
  refine ⟨fun pins s σ H Q I h => ?_⟩
  refine Subscript_ (thn (he.run pins s σ H _ I h) fun v s1 ⟨x, H1, I1, r1, q1⟩ => ?_)
  obtain ⟨a, xs, ex, hx, q⟩ := q1
  subst ex
  cases r1
  have hst : PO X (some (.UnaryOp .USub (.Constant (.int 1) k p1) p2)) (tPart (tUn (rU fun i => .int (-i)) (tC (.int 1)))) := po_some (pe_un un_neg pe_int)
  refine wpAny_Slice (thn (po_none.run pins s1 σ H1 (fun o H2 => o = none ∧ H2 = H1) I1 ⟨rfl, rfl⟩) fun vl s2 ⟨l, H2, I2, pl, el, e2⟩ => ?_)
  subst el e2
  refine thn (po_none.run pins s2 σ H2 (fun o H3 => o = none ∧ H3 = H2) I2 ⟨rfl, rfl⟩) fun vu s3 ⟨u, H3, I3, pu, eu, e3⟩ => ?_
  subst eu e3
  refine thn (hst.run pins s3 σ H3 (fun o H4 => o = some (-1) ∧ H4 = H3) I3 ⟨1, rfl, -1, rfl, rfl, rfl⟩) fun vs s4 ⟨o, H4, I4, ps, eo, e4⟩ => ?_
  subst eo e4
  have I5 : Inv X pins σ H4 { s4 with heap := s4.heap.push { cls := .type "slice", data := .fields #[vl, vu, vs] } } := I4.kept (t' := s4.toks) fun b ob q => Heap.get?_push_of_some _ q
  obtain ⟨its, r, ht, hz⟩ := I5.tuple hx
  have hlen := r.length
  show wpAny (model X.prog X.w) X.A (subscriptTail e (.Slice none none (some (.UnaryOp .USub (.Constant (.int 1) k p1) p2)) p3) (.ref a) (.ref s4.heap.objs.size)) (EP X pins σ Q) X.xe { s4 with heap := s4.heap.push { cls := .type "slice", data := .fields #[vl, vu, vs] } }
  refine tail_any (ops := [.ref a, .ref s4.heap.objs.size]) ht.typeIs (PyProof.Rows.slot_tuple_getitem.lookup) ?_ (by with_unfolding_all rfl)
  refine getItem_tuple_rev ht (Heap.IsSliceOf.new _ vl vu vs) pl pu ps ?_ (by rw [List.size_toArray]; omega)
  exact tup_new I5 rfl rfl rfl r.reverse (by rw [List.length_reverse]; exact hz) q
section
variable {w : Wd} {ρ : List Sl} {P : Sl → Prop} {te : TE}
theorem e_revT (h : E w te ρ fun x => ∃ ds, x = .dat (.tuple ds) ∧ P (.dat (.tuple ds.reverse))) : E w (tRevT w.K te) ρ P := by
  intro o σ H Q ok k
  refine h o σ H _ ok ?_
  rintro o1 H1 v x g1 r1 ⟨ds, rfl, q⟩
  have b1 := ok.toBas.go g1
  cases r1 with
  | @tup _ vs _ hs ha =>
    refine ⟨_, _, rfl, sqT_mono hid_le hs.t, fun p ob np nd => ?_⟩
    have g2 := b1.new (u := .frz ob (.tup vs.reverse)) np
    exact k o1 _ _ _ (g1.trans g2) (VR.dat (Dd.tup (b1.seenP np nd) (dpAll_mono g2.same _ _ (DdAll.rev ha)))) q
end
end DL

namespace K7
open PySem PySem.Spec PyProof.Rows L2 DL

def topS (i : Nat) : Stmt := PySem.Challenge.pw_unwrittenrow_k07_wishes_of_any_value.main.body.getD i (.Pass ⟨0, 0, 0, 0⟩)
abbrev s_is_integer : Stmt := topS 2
theorem sc_is_integer : FnScope ["thing"] ["thing"] (defScope s_is_integer) :=
  ⟨rfl, rfl, rfl, by decide +kernel, rfl, by decide +kernel, by decide +kernel⟩
abbrev s_is_within : Stmt := topS 3
theorem sc_is_within : FnScope ["thing", "low", "high"] ["thing", "low", "high"] (defScope s_is_within) :=
  ⟨rfl, rfl, rfl, by decide +kernel, rfl, by decide +kernel, by decide +kernel⟩
abbrev s_is_tuple : Stmt := topS 4
theorem sc_is_tuple : FnScope ["thing", "least", "most"] ["thing", "least", "most"] (defScope s_is_tuple) :=
  ⟨rfl, rfl, rfl, by decide +kernel, rfl, by decide +kernel, by decide +kernel⟩
abbrev s_is_ascending : Stmt := topS 5
theorem sc_is_ascending : FnScope ["items", "one", "other"] ["items"] (defScope s_is_ascending) :=
  ⟨rfl, rfl, rfl, by decide +kernel, rfl, by decide +kernel, by decide +kernel⟩
abbrev s_are_ascending_below : Stmt := topS 6
theorem sc_are_ascending_below : FnScope ["thing", "bound", "item"] ["thing", "bound"] (defScope s_are_ascending_below) :=
  ⟨rfl, rfl, rfl, by decide +kernel, rfl, by decide +kernel, by decide +kernel⟩
abbrev s_is_letter : Stmt := topS 7
theorem sc_is_letter : FnScope ["thing"] ["thing"] (defScope s_is_letter) :=
  ⟨rfl, rfl, rfl, by decide +kernel, rfl, by decide +kernel, by decide +kernel⟩
abbrev s__is_step : Stmt := topS 12
theorem sc__is_step : FnScope ["thing", "spots"] ["thing", "spots"] (defScope s__is_step) :=
  ⟨rfl, rfl, rfl, by decide +kernel, rfl, by decide +kernel, by decide +kernel⟩
abbrev s__letters_in : Stmt := topS 13
theorem sc__letters_in : FnScope ["row", "letter", "_"] ["row"] (defScope s__letters_in) :=
  ⟨rfl, rfl, rfl, by decide +kernel, rfl, by decide +kernel, by decide +kernel⟩
abbrev s__is_row : Stmt := topS 11
theorem sc__is_row : FnScope ["thing", "spots", "item"] ["thing", "spots"] (defScope s__is_row) :=
  ⟨rfl, rfl, rfl, by decide +kernel, rfl, by decide +kernel, by decide +kernel⟩
abbrev s_is_wish : Stmt := topS 10
theorem sc_is_wish : FnScope ["thing", "steps", "ends", "row"] ["thing"] (defScope s_is_wish) :=
  ⟨rfl, rfl, rfl, by decide +kernel, rfl, by decide +kernel, by decide +kernel⟩
abbrev s_takes : Stmt := topS 14
theorem sc_takes : FnScope ["wish", "word", "steps", "ends", "rows", "spot", "letter", "row"] ["wish", "word"] (defScope s_takes) :=
  ⟨rfl, rfl, rfl, by decide +kernel, rfl, by decide +kernel, by decide +kernel⟩
abbrev s_not_taken : Stmt := topS 15
theorem sc_not_taken : FnScope ["wish", "steps", "ends", "spot"] ["wish"] (defScope s_not_taken) :=
  ⟨rfl, rfl, rfl, by decide +kernel, rfl, by decide +kernel, by decide +kernel⟩
abbrev s__law_bag : Stmt := topS 17
theorem sc__law_bag : FnScope ["script", "cell"] ["script"] (defScope s__law_bag) :=
  ⟨rfl, rfl, rfl, by decide +kernel, rfl, by decide +kernel, by decide +kernel⟩
abbrev s__law_take : Stmt := topS 18
theorem sc__law_take : FnScope ["bag", "many", "cell", "stirred", "value", "begin", "second"] ["bag", "many"] (defScope s__law_take) :=
  ⟨rfl, rfl, rfl, by decide +kernel, rfl, by decide +kernel, by decide +kernel⟩
abbrev s__law_some : Stmt := topS 19
theorem sc__law_some : FnScope ["bag", "things"] ["bag", "things"] (defScope s__law_some) :=
  ⟨rfl, rfl, rfl, by decide +kernel, rfl, by decide +kernel, by decide +kernel⟩
abbrev s__law_mixed : Stmt := topS 20
theorem sc__law_mixed : FnScope ["bag", "things", "found", "thing"] ["bag", "things"] (defScope s__law_mixed) :=
  ⟨rfl, rfl, rfl, by decide +kernel, rfl, by decide +kernel, by decide +kernel⟩
abbrev s__law_alike : Stmt := topS 21
theorem sc__law_alike : FnScope ["found", "due"] ["found", "due"] (defScope s__law_alike) :=
  ⟨rfl, rfl, rfl, by decide +kernel, rfl, by decide +kernel, by decide +kernel⟩
abbrev s__law_is_int : Stmt := topS 22
theorem sc__law_is_int : FnScope ["thing"] ["thing"] (defScope s__law_is_int) :=
  ⟨rfl, rfl, rfl, by decide +kernel, rfl, by decide +kernel, by decide +kernel⟩
abbrev s__law_odd : Stmt := topS 23
theorem sc__law_odd : FnScope ["bag", "menu"] ["bag"] (defScope s__law_odd) :=
  ⟨rfl, rfl, rfl, by decide +kernel, rfl, by decide +kernel, by decide +kernel⟩
abbrev s__law_bent : Stmt := topS 24
theorem sc__law_bent : FnScope ["bag", "thing", "deep", "way", "at"] ["bag", "thing", "deep"] (defScope s__law_bent) :=
  ⟨rfl, rfl, rfl, by decide +kernel, rfl, by decide +kernel, by decide +kernel⟩
abbrev s__law_letters : Stmt := topS 25
theorem sc__law_letters : FnScope [] [] (defScope s__law_letters) :=
  ⟨rfl, rfl, rfl, by decide +kernel, rfl, by decide +kernel, by decide +kernel⟩
abbrev s__law_is_letter : Stmt := topS 26
theorem sc__law_is_letter : FnScope ["thing"] ["thing"] (defScope s__law_is_letter) :=
  ⟨rfl, rfl, rfl, by decide +kernel, rfl, by decide +kernel, by decide +kernel⟩
abbrev s__law_is_from : Stmt := topS 27
theorem sc__law_is_from : FnScope ["thing", "least", "most"] ["thing", "least", "most"] (defScope s__law_is_from) :=
  ⟨rfl, rfl, rfl, by decide +kernel, rfl, by decide +kernel, by decide +kernel⟩
abbrev s__law_word : Stmt := topS 28
theorem sc__law_word : FnScope ["bag", "letters", "most", "turn"] ["bag", "letters", "most"] (defScope s__law_word) :=
  ⟨rfl, rfl, rfl, by decide +kernel, rfl, by decide +kernel, by decide +kernel⟩
abbrev s__law_wish : Stmt := topS 29
theorem sc__law_wish : FnScope ["bag", "letters", "most", "spots", "steps", "spot", "letter"] ["bag", "letters", "most"] (defScope s__law_wish) :=
  ⟨rfl, rfl, rfl, by decide +kernel, rfl, by decide +kernel, by decide +kernel⟩
abbrev s__law_takes : Stmt := topS 30
theorem sc__law_takes : FnScope ["wish", "word", "spot", "letter"] ["wish", "word"] (defScope s__law_takes) :=
  ⟨rfl, rfl, rfl, by decide +kernel, rfl, by decide +kernel, by decide +kernel⟩
abbrev s__law_is_wish : Stmt := topS 31
theorem sc__law_is_wish : FnScope ["thing", "spots", "rows", "row", "one"] ["thing"] (defScope s__law_is_wish) :=
  ⟨rfl, rfl, rfl, by decide +kernel, rfl, by decide +kernel, by decide +kernel⟩
abbrev s_law : Stmt := topS 32
theorem sc_law : FnScope ["script", "bag", "turn", "letters", "wish", "word", "is_taken", "wide", "twice", "long", "thing", "shown", "k"] ["script"] (defScope s_law) :=
  ⟨rfl, rfl, rfl, by decide +kernel, rfl, by decide +kernel, by decide +kernel⟩
/-- what the top has left -/
structure Txt (K : PySem.W.Frag) (mg : Str → Option Value) where
  a_is_integer : Addr
  d_is_integer : FuncData
  F_is_integer : Fun K "is_integer" "is_integer" s_is_integer a_is_integer d_is_integer
  g_is_integer : mg "is_integer" = some (.ref a_is_integer)
  b_is_integer : L2.Binds K d_is_integer ["thing"] []
  a_is_within : Addr
  d_is_within : FuncData
  F_is_within : Fun K "is_within" "is_within" s_is_within a_is_within d_is_within
  g_is_within : mg "is_within" = some (.ref a_is_within)
  b_is_within : L2.Binds K d_is_within ["thing", "low", "high"] []
  a_is_tuple : Addr
  d_is_tuple : FuncData
  F_is_tuple : Fun K "is_tuple" "is_tuple" s_is_tuple a_is_tuple d_is_tuple
  g_is_tuple : mg "is_tuple" = some (.ref a_is_tuple)
  b_is_tuple : L2.Binds K d_is_tuple ["thing", "least", "most"] []
  a_is_ascending : Addr
  d_is_ascending : FuncData
  F_is_ascending : Fun K "is_ascending" "is_ascending" s_is_ascending a_is_ascending d_is_ascending
  g_is_ascending : mg "is_ascending" = some (.ref a_is_ascending)
  b_is_ascending : L2.Binds K d_is_ascending ["items"] []
  a_are_ascending_below : Addr
  d_are_ascending_below : FuncData
  F_are_ascending_below : Fun K "are_ascending_below" "are_ascending_below" s_are_ascending_below a_are_ascending_below d_are_ascending_below
  g_are_ascending_below : mg "are_ascending_below" = some (.ref a_are_ascending_below)
  b_are_ascending_below : L2.Binds K d_are_ascending_below ["thing", "bound"] []
  a_is_letter : Addr
  d_is_letter : FuncData
  F_is_letter : Fun K "is_letter" "is_letter" s_is_letter a_is_letter d_is_letter
  g_is_letter : mg "is_letter" = some (.ref a_is_letter)
  b_is_letter : L2.Binds K d_is_letter ["thing"] []
  a__is_step : Addr
  d__is_step : FuncData
  F__is_step : Fun K "_is_step" "_is_step" s__is_step a__is_step d__is_step
  g__is_step : mg "_is_step" = some (.ref a__is_step)
  b__is_step : L2.Binds K d__is_step ["thing", "spots"] []
  a__letters_in : Addr
  d__letters_in : FuncData
  F__letters_in : Fun K "_letters_in" "_letters_in" s__letters_in a__letters_in d__letters_in
  g__letters_in : mg "_letters_in" = some (.ref a__letters_in)
  b__letters_in : L2.Binds K d__letters_in ["row"] []
  a__is_row : Addr
  d__is_row : FuncData
  F__is_row : Fun K "_is_row" "_is_row" s__is_row a__is_row d__is_row
  g__is_row : mg "_is_row" = some (.ref a__is_row)
  b__is_row : L2.Binds K d__is_row ["thing", "spots"] []
  a_is_wish : Addr
  d_is_wish : FuncData
  F_is_wish : Fun K "is_wish" "is_wish" s_is_wish a_is_wish d_is_wish
  g_is_wish : mg "is_wish" = some (.ref a_is_wish)
  b_is_wish : L2.Binds K d_is_wish ["thing"] []
  a_takes : Addr
  d_takes : FuncData
  F_takes : Fun K "takes" "takes" s_takes a_takes d_takes
  g_takes : mg "takes" = some (.ref a_takes)
  b_takes : L2.Binds K d_takes ["wish", "word"] []
  a_not_taken : Addr
  d_not_taken : FuncData
  F_not_taken : Fun K "not_taken" "not_taken" s_not_taken a_not_taken d_not_taken
  g_not_taken : mg "not_taken" = some (.ref a_not_taken)
  b_not_taken : L2.Binds K d_not_taken ["wish"] []
  a__law_bag : Addr
  d__law_bag : FuncData
  F__law_bag : Fun K "_law_bag" "_law_bag" s__law_bag a__law_bag d__law_bag
  g__law_bag : mg "_law_bag" = some (.ref a__law_bag)
  b__law_bag : L2.Binds K d__law_bag ["script"] []
  a__law_take : Addr
  d__law_take : FuncData
  F__law_take : Fun K "_law_take" "_law_take" s__law_take a__law_take d__law_take
  g__law_take : mg "_law_take" = some (.ref a__law_take)
  b__law_take : L2.Binds K d__law_take ["bag", "many"] []
  a__law_some : Addr
  d__law_some : FuncData
  F__law_some : Fun K "_law_some" "_law_some" s__law_some a__law_some d__law_some
  g__law_some : mg "_law_some" = some (.ref a__law_some)
  b__law_some : L2.Binds K d__law_some ["bag", "things"] []
  a__law_mixed : Addr
  d__law_mixed : FuncData
  F__law_mixed : Fun K "_law_mixed" "_law_mixed" s__law_mixed a__law_mixed d__law_mixed
  g__law_mixed : mg "_law_mixed" = some (.ref a__law_mixed)
  b__law_mixed : L2.Binds K d__law_mixed ["bag", "things"] []
  a__law_alike : Addr
  d__law_alike : FuncData
  F__law_alike : Fun K "_law_alike" "_law_alike" s__law_alike a__law_alike d__law_alike
  g__law_alike : mg "_law_alike" = some (.ref a__law_alike)
  b__law_alike : L2.Binds K d__law_alike ["found", "due"] []
  a__law_is_int : Addr
  d__law_is_int : FuncData
  F__law_is_int : Fun K "_law_is_int" "_law_is_int" s__law_is_int a__law_is_int d__law_is_int
  g__law_is_int : mg "_law_is_int" = some (.ref a__law_is_int)
  b__law_is_int : L2.Binds K d__law_is_int ["thing"] []
  a__law_odd : Addr
  d__law_odd : FuncData
  F__law_odd : Fun K "_law_odd" "_law_odd" s__law_odd a__law_odd d__law_odd
  g__law_odd : mg "_law_odd" = some (.ref a__law_odd)
  b__law_odd : L2.Binds K d__law_odd ["bag"] []
  a__law_bent : Addr
  d__law_bent : FuncData
  F__law_bent : Fun K "_law_bent" "_law_bent" s__law_bent a__law_bent d__law_bent
  g__law_bent : mg "_law_bent" = some (.ref a__law_bent)
  b__law_bent : L2.Binds K d__law_bent ["bag", "thing", "deep"] []
  a__law_letters : Addr
  d__law_letters : FuncData
  F__law_letters : Fun K "_law_letters" "_law_letters" s__law_letters a__law_letters d__law_letters
  g__law_letters : mg "_law_letters" = some (.ref a__law_letters)
  b__law_letters : L2.Binds K d__law_letters [] []
  a__law_is_letter : Addr
  d__law_is_letter : FuncData
  F__law_is_letter : Fun K "_law_is_letter" "_law_is_letter" s__law_is_letter a__law_is_letter d__law_is_letter
  g__law_is_letter : mg "_law_is_letter" = some (.ref a__law_is_letter)
  b__law_is_letter : L2.Binds K d__law_is_letter ["thing"] []
  a__law_is_from : Addr
  d__law_is_from : FuncData
  F__law_is_from : Fun K "_law_is_from" "_law_is_from" s__law_is_from a__law_is_from d__law_is_from
  g__law_is_from : mg "_law_is_from" = some (.ref a__law_is_from)
  b__law_is_from : L2.Binds K d__law_is_from ["thing", "least", "most"] []
  a__law_word : Addr
  d__law_word : FuncData
  F__law_word : Fun K "_law_word" "_law_word" s__law_word a__law_word d__law_word
  g__law_word : mg "_law_word" = some (.ref a__law_word)
  b__law_word : L2.Binds K d__law_word ["bag", "letters", "most"] []
  a__law_wish : Addr
  d__law_wish : FuncData
  F__law_wish : Fun K "_law_wish" "_law_wish" s__law_wish a__law_wish d__law_wish
  g__law_wish : mg "_law_wish" = some (.ref a__law_wish)
  b__law_wish : L2.Binds K d__law_wish ["bag", "letters", "most"] []
  a__law_takes : Addr
  d__law_takes : FuncData
  F__law_takes : Fun K "_law_takes" "_law_takes" s__law_takes a__law_takes d__law_takes
  g__law_takes : mg "_law_takes" = some (.ref a__law_takes)
  b__law_takes : L2.Binds K d__law_takes ["wish", "word"] []
  a__law_is_wish : Addr
  d__law_is_wish : FuncData
  F__law_is_wish : Fun K "_law_is_wish" "_law_is_wish" s__law_is_wish a__law_is_wish d__law_is_wish
  g__law_is_wish : mg "_law_is_wish" = some (.ref a__law_is_wish)
  b__law_is_wish : L2.Binds K d__law_is_wish ["thing"] []
  a_law : Addr
  d_law : FuncData
  F_law : Fun K "law" "law" s_law a_law d_law
  g_law : mg "law" = some (.ref a_law)
  b_law : L2.Binds K d_law ["script"] []
  z_abs : mg "abs" = none
  z_all : mg "all" = none
  z_bool : mg "bool" = none
  z_dict : mg "dict" = none
  z_int : mg "int" = none
  z_isinstance : mg "isinstance" = none
  z_len : mg "len" = none
  z_list : mg "list" = none
  z_range : mg "range" = none
  z_repr : mg "repr" = none
  z_set : mg "set" = none
  z_sorted : mg "sorted" = none
  z_str : mg "str" = none
  z_tuple : mg "tuple" = none
  z_zip : mg "zip" = none
  k_MOST_LETTERS : Tok
  c_MOST_LETTERS : mg "MOST_LETTERS" = some (.int 6 k_MOST_LETTERS)
  k_MOST_SPOTS : Tok
  c_MOST_SPOTS : mg "MOST_SPOTS" = some (.int 6 k_MOST_SPOTS)
section
variable {K : PySem.W.Frag} {mg : Str → Option Value}
def Txt.tb (T : Txt K mg) : List (Addr × Str) := []
def Txt.cs (T : Txt K mg) : List (Addr × Addr) := []
abbrev Tabled (bs : Heap) (T : Txt K mg) : Prop := ∀ p ∈ T.cs, LamX.TabB bs mg p.1 p.2
theorem Txt.tbl_all (T : Txt K mg) {H : Hp} (h : ∀ p ∈ T.cs, H p.2 = some (.tbl #[])) : ∀ q ∈ T.tb, H q.1 = some (.tbl #[]) := by
  intro q hq
  simp only [Txt.tb, List.mem_cons, List.not_mem_nil, or_false] at hq
  
end
/-- the promise of the law: cs, the code objects and their tables -/
def spLaw (K : PySem.W.Frag) (cs : List (Addr × Addr)) : Sp := fun vs H Q _ => ∃ (a : Addr) (ns : List Int), vs = [.ref a] ∧ SqL K H a (ns.map V.int) ∧ ns.length ≤ 63 ∧
  (∀ p ∈ cs, H p.2 = some (.tbl #[])) ∧ ∀ H', Q (.bl true) H'
theorem get_lt {α : Type} {xs : List α} {k : Nat} {x : α} (h : xs[k]? = some x) : k < xs.length := (List.getElem?_eq_some_iff.mp h).1
theorem get_some {α : Type} {xs : List α} {k : Nat} (h : k < xs.length) : ∃ x, xs[k]? = some x := ⟨xs[k], List.getElem?_eq_getElem h⟩
theorem take_snoc {α : Type} {xs : List α} {k : Nat} {x : α} (h : xs[k]? = some x) : xs.take (k + 1) = xs.take k ++ [x] := by
  rw [List.take_succ, h]
  rfl
/-! ### tables -/
def rowD (r : List Int) : PyData := .tuple (r.map .int)
def tblD (T : List (List Int)) : PyData := .tuple (T.map rowD)
def mkT (n : Nat) (φ : Int → Int → Int) : List (List Int) := (List.range n).map fun (x : Nat) => (List.range n).map fun (y : Nat) => φ x y
def op (T : List (List Int)) (x y : Int) : Int := (T.getD x.toNat []).getD y.toNat 0
/-- a table of k members, by which these are a monoid with 0 -/
structure Mon (T : List (List Int)) (k : Nat) : Prop where
  pos : 1 ≤ k
  few : k ≤ 8
  len : T.length = k
  row : ∀ r ∈ T, r.length = k
  rng : ∀ x y : Int, 0 ≤ x → x < k → 0 ≤ y → y < k → 0 ≤ op T x y ∧ op T x y < k
  id1 : ∀ x : Int, 0 ≤ x → x < k → op T 0 x = x
  id2 : ∀ x : Int, 0 ≤ x → x < k → op T x 0 = x
  assoc : ∀ x y z : Int, 0 ≤ x → x < k → 0 ≤ y → y < k → 0 ≤ z → z < k → op T (op T x y) z = op T x (op T y z)
theorem op_mk {n : Nat} {φ : Int → Int → Int} {x y : Int} (hx : 0 ≤ x) (hx1 : x < n) (hy : 0 ≤ y) (hy1 : y < n) : op (mkT n φ) x y = φ x y := by
  unfold op mkT
  rw [List.getD_eq_getElem?_getD, List.getD_eq_getElem?_getD, List.getElem?_map, List.getElem?_range (by omega)]
  show (((List.range n).map fun (y : Nat) => φ (x.toNat : Nat) y)[y.toNat]?).getD 0 = _
  rw [List.getElem?_map, List.getElem?_range (by omega)]
  show φ (x.toNat : Nat) (y.toNat : Nat) = _
  rw [Int.toNat_of_nonneg hx, Int.toNat_of_nonneg hy]
theorem mon_mk {n : Nat} {φ : Int → Int → Int} (h1 : 1 ≤ n) (h8 : n ≤ 8) (rng : ∀ x y : Int, 0 ≤ x → x < n → 0 ≤ y → y < n → 0 ≤ φ x y ∧ φ x y < n)
    (id1 : ∀ x : Int, 0 ≤ x → x < n → φ 0 x = x) (id2 : ∀ x : Int, 0 ≤ x → x < n → φ x 0 = x)
    (as : ∀ x y z : Int, 0 ≤ x → x < n → 0 ≤ y → y < n → 0 ≤ z → z < n → φ (φ x y) z = φ x (φ y z)) : Mon (mkT n φ) n := by
  refine ⟨h1, h8, by unfold mkT; simp, fun r hr => ?_, fun x y a b c d => ?_, fun x a b => ?_, fun x a b => ?_, fun x y z a b c d e f => ?_⟩
  · unfold mkT at hr
    obtain ⟨x, _, rfl⟩ := List.mem_map.mp hr
    simp
  · rw [op_mk a b c d]
    exact rng x y a b c d
  · rw [op_mk (by omega) (by omega) a b]
    exact id1 x a b
  · rw [op_mk a b (by omega) (by omega)]
    exact id2 x a b
  · have r1 := rng x y a b c d
    have r2 := rng y z c d e f
    rw [op_mk a b c d, op_mk c d e f, op_mk r1.1 r1.2 e f, op_mk a b r2.1 r2.2]
    exact as x y z a b c d e f
section
variable {T : List (List Int)} {k : Nat} (h : Mon T k)
include h
theorem Mon.ix {x : Int} (h0 : 0 ≤ x) (h1 : x < k) : atI (T.map rowD) x = some (rowD (T.getD x.toNat [])) ∧ (T.getD x.toNat []).length = k := by
  have hl : x.toNat < T.length := by have := h.len; omega
  have e : T.getD x.toNat [] = T[x.toNat] := by rw [List.getD_eq_getElem?_getD, List.getElem?_eq_getElem hl]; rfl
  refine ⟨?_, ?_⟩
  · unfold atI ixN
    rw [if_pos h0, if_pos (by rw [List.length_map]; omega)]
    show (T.map rowD)[x.toNat]? = _
    rw [List.getElem?_map, List.getElem?_eq_getElem hl, e]
    rfl
  · rw [e]
    exact h.row _ (List.getElem_mem hl)
theorem Mon.ix2 {x y : Int} (h0 : 0 ≤ x) (h1 : x < k) (g0 : 0 ≤ y) (g1 : y < k) : atI ((T.getD x.toNat []).map PyData.int) y = some (.int (op T x y)) := by
  have hl := (h.ix h0 h1).2
  have hy : y.toNat < (T.getD x.toNat []).length := by omega
  unfold atI ixN
  rw [if_pos g0, if_pos (by rw [List.length_map]; omega)]
  show ((T.getD x.toNat []).map PyData.int)[y.toNat]? = _
  rw [List.getElem?_map, List.getElem?_eq_getElem hy]
  unfold op
  rw [List.getD_eq_getElem?_getD (l := T.getD x.toNat []), List.getElem?_eq_getElem hy]
  rfl
end
def turnF (n : Nat) (x y : Int) : Int := if x + y < n then x + y else x + y - n
def countF (n : Nat) (x y : Int) : Int := if (n : Int) - 1 < x + y then n - 1 else x + y
def lastF (x y : Int) : Int := if y > 0 then y else x
def frstF (x y : Int) : Int := if x > 0 then x else y
theorem mon_turn {n : Nat} (h1 : 1 ≤ n) (h8 : n ≤ 8) : Mon (mkT n (turnF n)) n := by
  refine mon_mk h1 h8 (fun x y a b c d => ?_) (fun x a b => ?_) (fun x a b => ?_) (fun x y z a b c d e f => ?_)
  · unfold turnF; split <;> omega
  · unfold turnF; split <;> omega
  · unfold turnF; split <;> omega
  · unfold turnF; repeat' split
    all_goals omega
theorem mon_count {n : Nat} (h1 : 1 ≤ n) (h8 : n ≤ 8) : Mon (mkT n (countF n)) n := by
  refine mon_mk h1 h8 (fun x y a b c d => ?_) (fun x a b => ?_) (fun x a b => ?_) (fun x y z a b c d e f => ?_)
  · unfold countF; split <;> omega
  · unfold countF; split <;> omega
  · unfold countF; split <;> omega
  · unfold countF; repeat' split
    all_goals omega
theorem mon_last {n : Nat} (h1 : 1 ≤ n) (h8 : n ≤ 8) : Mon (mkT n lastF) n := by
  refine mon_mk h1 h8 (fun x y a b c d => ?_) (fun x a b => ?_) (fun x a b => ?_) (fun x y z a b c d e f => ?_)
  · unfold lastF; split <;> omega
  · unfold lastF; split <;> omega
  · unfold lastF; split <;> omega
  · unfold lastF; repeat' split
    all_goals omega
theorem mon_frst {n : Nat} (h1 : 1 ≤ n) (h8 : n ≤ 8) : Mon (mkT n frstF) n := by
  refine mon_mk h1 h8 (fun x y a b c d => ?_) (fun x a b => ?_) (fun x a b => ?_) (fun x y z a b c d e f => ?_)
  · unfold frstF; split <;> omega
  · unfold frstF; split <;> omega
  · unfold frstF; split <;> omega
  · unfold frstF; repeat' split
    all_goals omega
/-! ### two tables beside one another -/
def pf (A B : List (List Int)) (m : Int) (x y : Int) : Int := op A (x.fdiv m) (y.fdiv m) * m + op B (x - x.fdiv m * m) (y - y.fdiv m * m)
theorem fd_facts {k m : Nat} {x : Int} (hm : 1 ≤ m) (h0 : 0 ≤ x) (h1 : x < ((k * m : Nat) : Int)) : 0 ≤ x.fdiv m ∧ x.fdiv m < k ∧ 0 ≤ x - x.fdiv m * m ∧ x - x.fdiv m * m < m := by
  have mp : (0 : Int) < m := by omega
  rw [Int.fdiv_eq_ediv_of_nonneg x (by omega)]
  have e := Int.mul_ediv_add_emod x m
  have e2 : x / m * m = m * (x / m) := Int.mul_comm _ _
  have r0 := Int.emod_nonneg x (show (m : Int) ≠ 0 by omega)
  have r1 := Int.emod_lt_of_pos x mp
  refine ⟨Int.ediv_nonneg h0 (by omega), ?_, by omega, by omega⟩
  refine Int.ediv_lt_of_lt_mul mp ?_
  rw [Int.natCast_mul] at h1
  exact h1
theorem fd_put {m : Nat} {a b : Int} (hm : 1 ≤ m) (b0 : 0 ≤ b) (b1 : b < m) : (a * m + b).fdiv m = a ∧ (a * m + b) - (a * m + b).fdiv m * m = b := by
  have e : (a * m + b).fdiv m = a := by
    rw [Int.fdiv_eq_ediv_of_nonneg _ (by omega), Int.add_comm, Int.add_mul_ediv_right _ _ (by omega), Int.ediv_eq_zero_of_lt b0 b1, Int.zero_add]
  rw [e]
  exact ⟨rfl, by omega⟩
theorem put_lt {k m : Nat} {a b : Int} (a0 : 0 ≤ a) (a1 : a < k) (b0 : 0 ≤ b) (b1 : b < m) : 0 ≤ a * m + b ∧ a * m + b < ((k * m : Nat) : Int) := by
  have h1 : 0 ≤ a * m := Int.mul_nonneg a0 (by omega)
  have h2 : a * m ≤ (k - 1) * m := Int.mul_le_mul_of_nonneg_right (by omega) (by omega)
  have h3 : ((k : Int) - 1) * m = k * m - m := by rw [Int.sub_mul, Int.one_mul]
  rw [Int.natCast_mul]
  exact ⟨by omega, by omega⟩
theorem mon_pair {A B : List (List Int)} {k m : Nat} (hA : Mon A k) (hB : Mon B m) (h8 : k * m ≤ 8) : Mon (mkT (k * m) (pf A B m)) (k * m) := by
  have hm := hB.pos
  have hk := hA.pos
  have put : ∀ x y : Int, 0 ≤ x → x < ((k * m : Nat) : Int) → 0 ≤ y → y < ((k * m : Nat) : Int) →
      (0 ≤ pf A B m x y ∧ pf A B m x y < ((k * m : Nat) : Int)) ∧ (pf A B m x y).fdiv m = op A (x.fdiv m) (y.fdiv m) ∧ pf A B m x y - (pf A B m x y).fdiv m * m = op B (x - x.fdiv m * m) (y - y.fdiv m * m) := by
    intro x y x0 x1 y0 y1
    obtain ⟨a0, a1, a2, a3⟩ := fd_facts hm x0 x1
    obtain ⟨b0, b1, b2, b3⟩ := fd_facts hm y0 y1
    obtain ⟨c0, c1⟩ := hA.rng _ _ a0 a1 b0 b1
    obtain ⟨d0, d1⟩ := hB.rng _ _ a2 a3 b2 b3
    exact ⟨put_lt c0 c1 d0 d1, fd_put hm d0 d1⟩
  refine mon_mk (Nat.mul_pos hk hm) h8 (fun x y a b c d => (put x y a b c d).1) (fun x a b => ?_) (fun x a b => ?_) (fun x y z a b c d e f => ?_)
  · obtain ⟨a0, a1, a2, a3⟩ := fd_facts hm a b
    have e : (0 : Int).fdiv m = 0 := Int.zero_fdiv _
    unfold pf
    rw [e, Int.zero_mul, Int.sub_zero, hA.id1 _ a0 a1, hB.id1 _ a2 a3]
    omega
  · obtain ⟨a0, a1, a2, a3⟩ := fd_facts hm a b
    have e : (0 : Int).fdiv m = 0 := Int.zero_fdiv _
    unfold pf
    rw [e, Int.zero_mul, Int.sub_zero, hA.id2 _ a0 a1, hB.id2 _ a2 a3]
    omega
  · obtain ⟨_, p1, p2⟩ := put x y a b c d
    obtain ⟨_, q1, q2⟩ := put y z c d e f
    obtain ⟨a0, a1, a2, a3⟩ := fd_facts hm a b
    obtain ⟨b0, b1, b2, b3⟩ := fd_facts hm c d
    obtain ⟨c0, c1, c2, c3⟩ := fd_facts hm e f
    have l : pf A B m (pf A B m x y) z = op A ((pf A B m x y).fdiv m) (z.fdiv m) * m + op B (pf A B m x y - (pf A B m x y).fdiv m * m) (z - z.fdiv m * m) := rfl
    have r : pf A B m x (pf A B m y z) = op A (x.fdiv m) ((pf A B m y z).fdiv m) * m + op B (x - x.fdiv m * m) (pf A B m y z - (pf A B m y z).fdiv m * m) := rfl
    rw [l, r, p2, p1, q2, q1, hA.assoc _ _ _ a0 a1 b0 b1 c0 c1, hB.assoc _ _ _ a2 a3 b2 b3 c2 c3]
/-! ### steps of a few places, put behind one another -/
def Tr (p : Nat) (u : List Int) : Prop := u.length = p ∧ ∀ x ∈ u, 0 ≤ x ∧ x < p
def cmp (u v : List Int) : List Int := u.map fun x => v.getD x.toNat 0
def idT (p : Nat) : List Int := (List.range p).map fun (i : Nat) => (i : Int)
theorem tr_get {p : Nat} {u : List Int} (h : Tr p u) {i : Nat} (hi : i < p) : u[i]? = some (u.getD i 0) ∧ 0 ≤ u.getD i 0 ∧ u.getD i 0 < p := by
  have l : i < u.length := by rw [h.1]; exact hi
  have e : u[i]? = some u[i] := List.getElem?_eq_getElem l
  have e2 : u.getD i 0 = u[i] := by rw [List.getD_eq_getElem?_getD, e]; rfl
  rw [e2]
  exact ⟨e, h.2 _ (List.getElem_mem l)⟩
theorem tr_at {p : Nat} {u : List Int} (h : Tr p u) {x : Int} (x0 : 0 ≤ x) (x1 : x < p) : 0 ≤ u.getD x.toNat 0 ∧ u.getD x.toNat 0 < p := (tr_get h (i := x.toNat) (by omega)).2
theorem tr_id (p : Nat) : Tr p (idT p) := by
  refine ⟨by unfold idT; rw [List.length_map, List.length_range], fun x hx => ?_⟩
  obtain ⟨i, hi, rfl⟩ := List.mem_map.mp hx
  rw [List.mem_range] at hi
  omega
theorem tr_cmp {p : Nat} {u v : List Int} (hu : Tr p u) (hv : Tr p v) : Tr p (cmp u v) := by
  refine ⟨by unfold cmp; rw [List.length_map]; exact hu.1, fun x hx => ?_⟩
  obtain ⟨y, hy, rfl⟩ := List.mem_map.mp hx
  have := hu.2 y hy
  exact tr_at hv this.1 this.2
theorem cmp_assoc {p : Nat} {u v t : List Int} (hu : Tr p u) (hv : Tr p v) : cmp (cmp u v) t = cmp u (cmp v t) := by
  unfold cmp
  rw [List.map_map]
  refine List.map_congr_left fun x hx => ?_
  have b := hu.2 x hx
  have g := (tr_get hv (i := x.toNat) (by omega)).1
  show t.getD (v.getD x.toNat 0).toNat 0 = (v.map fun x => t.getD x.toNat 0).getD x.toNat 0
  rw [List.getD_eq_getElem?_getD (l := v.map _), List.getElem?_map, g]
  rfl
theorem cmp_id1 {p : Nat} {v : List Int} (hv : Tr p v) : cmp (idT p) v = v := by
  refine List.ext_getElem? fun i => ?_
  unfold cmp idT
  rw [List.map_map, List.getElem?_map]
  by_cases hi : i < p
  · rw [List.getElem?_range hi, (tr_get hv hi).1]
    rfl
  · rw [List.getElem?_eq_none (by rw [List.length_range]; omega), List.getElem?_eq_none (by rw [hv.1]; omega)]
    rfl
theorem cmp_id2 {p : Nat} {u : List Int} (hu : Tr p u) : cmp u (idT p) = u := by
  unfold cmp
  have e : u.map (fun x => (idT p).getD x.toNat 0) = u.map fun x => x := List.map_congr_left fun x hx => by
    have b := hu.2 x hx
    unfold idT
    rw [List.getD_eq_getElem?_getD, List.getElem?_map, List.getElem?_range (by omega)]
    show ((x.toNat : Nat) : Int) = x
    omega
  rw [e, List.map_id']
/-- what is made of steps -/
inductive Gen (p : Nat) (ss : List (List Int)) : List Int → Prop
  | id : Gen p ss (idT p)
  | step {u s : List Int} : Gen p ss u → s ∈ ss → Gen p ss (cmp u s)
def idx (F : List (List Int)) (u : List Int) : Int := (F.idxOf u : Nat)
def mulT (F : List (List Int)) : List (List Int) := F.map fun u => F.map fun v => idx F (cmp u v)
/-- found: the steps' closure so far, in full up to a -/
structure Fnd (p : Nat) (ss F : List (List Int)) (a : Nat) : Prop where
  first : F[0]? = some (idT p)
  tr : ∀ u ∈ F, Tr p u
  nd : F.Nodup
  gen : ∀ u ∈ F, Gen p ss u
  shut : ∀ (i : Nat) (u : List Int), i < a → F[i]? = some u → ∀ s ∈ ss, cmp u s ∈ F
theorem fnd_closed {p : Nat} {ss F : List (List Int)} (hs : ∀ s ∈ ss, Tr p s) (f : Fnd p ss F F.length) {u v : List Int} (hu : u ∈ F) (hv : v ∈ F) : cmp u v ∈ F := by
  have shut : ∀ u ∈ F, ∀ s ∈ ss, cmp u s ∈ F := by
    intro u hu s hs
    obtain ⟨i, hi⟩ := List.getElem?_of_mem hu
    exact f.shut i u (List.getElem?_eq_some_iff.mp hi).1 hi s hs
  have trg : ∀ v, Gen p ss v → Tr p v := by
    intro v g
    induction g with
    | id => exact tr_id p
    | step _ h ih => exact tr_cmp ih (hs _ h)
  have key : ∀ v, Gen p ss v → cmp u v ∈ F := by
    intro v g
    induction g with
    | id =>
      rw [cmp_id2 (f.tr u hu)]
      exact hu
    | step g h ih =>
      rw [← cmp_assoc (f.tr u hu) (trg _ g)]
      exact shut _ ih _ h
  exact key v (f.gen v hv)
theorem idx_lt {F : List (List Int)} {u : List Int} (h : u ∈ F) : 0 ≤ idx F u ∧ idx F u < F.length := ⟨Int.natCast_nonneg _, by have := List.idxOf_lt_length_of_mem h; unfold idx; omega⟩
theorem idx_at {F : List (List Int)} {u : List Int} (h : u ∈ F) : F[(idx F u).toNat]? = some u := by
  unfold idx
  rw [Int.toNat_natCast]
  have l := List.idxOf_lt_length_of_mem h
  rw [List.getElem?_eq_getElem l, List.getElem_idxOf l]
theorem idx_of {F : List (List Int)} (nd : F.Nodup) {i : Nat} {u : List Int} (h : F[i]? = some u) : idx F u = i := by
  have l := (List.getElem?_eq_some_iff.mp h).1
  have e := (List.getElem?_eq_some_iff.mp h).2
  have m : u ∈ F := List.mem_of_getElem? h
  have a := idx_at m
  have l2 := List.idxOf_lt_length_of_mem m
  unfold idx at a ⊢
  rw [Int.toNat_natCast] at a
  have inj := (List.getElem?_inj l nd (j := F.idxOf u)).mp (h.trans a.symm)
  omega
theorem op_mul {F : List (List Int)} {x y : Int} {u v : List Int} (hx : F[x.toNat]? = some u) (hy : F[y.toNat]? = some v) : op (mulT F) x y = idx F (cmp u v) := by
  unfold op mulT
  rw [List.getD_eq_getElem?_getD (l := F.map _), List.getElem?_map, hx]
  show (F.map fun v => idx F (cmp u v)).getD y.toNat 0 = _
  rw [List.getD_eq_getElem?_getD, List.getElem?_map, hy]
  rfl
theorem mon_steps {p : Nat} {ss F : List (List Int)} (hs : ∀ s ∈ ss, Tr p s) (f : Fnd p ss F F.length) (h8 : F.length ≤ 8) : Mon (mulT F) F.length := by
  have at_ : ∀ x : Int, 0 ≤ x → x < F.length → ∃ u, F[x.toNat]? = some u ∧ u ∈ F := fun x a b => by
    have l : x.toNat < F.length := by omega
    exact ⟨F[x.toNat], List.getElem?_eq_getElem l, List.getElem_mem l⟩
  have pos : 0 < F.length := (List.getElem?_eq_some_iff.mp f.first).1
  refine ⟨pos, h8, by unfold mulT; rw [List.length_map], fun r hr => ?_, fun x y a b c d => ?_, fun x a b => ?_, fun x a b => ?_, fun x y z a b c d e g => ?_⟩
  · obtain ⟨u, _, rfl⟩ := List.mem_map.mp hr
    rw [List.length_map]
  · obtain ⟨u, h1, m1⟩ := at_ x a b
    obtain ⟨v, h2, m2⟩ := at_ y c d
    rw [op_mul h1 h2]
    exact idx_lt (fnd_closed hs f m1 m2)
  · obtain ⟨u, h1, m1⟩ := at_ x a b
    have h0 : F[(0 : Int).toNat]? = some (idT p) := f.first
    rw [op_mul h0 h1, cmp_id1 (f.tr u m1), idx_of f.nd h1]
    omega
  · obtain ⟨u, h1, m1⟩ := at_ x a b
    have h0 : F[(0 : Int).toNat]? = some (idT p) := f.first
    rw [op_mul h1 h0, cmp_id2 (f.tr u m1), idx_of f.nd h1]
    omega
  · obtain ⟨u, h1, m1⟩ := at_ x a b
    obtain ⟨v, h2, m2⟩ := at_ y c d
    obtain ⟨t, h3, m3⟩ := at_ z e g
    have c1 := fnd_closed hs f m1 m2
    have c2 := fnd_closed hs f m2 m3
    rw [op_mul h1 h2, op_mul h2 h3, op_mul (idx_at c1) h3, op_mul h1 (idx_at c2), cmp_assoc (f.tr u m1) (f.tr v m2)]
/-- one more -/
theorem fnd_more {p : Nat} {ss F : List (List Int)} {a : Nat} (f : Fnd p ss F a) {u s : List Int} (hu : u ∈ F) (h : s ∈ ss) (hs : Tr p s) (n : ¬ cmp u s ∈ F) (ha : a ≤ F.length) : Fnd p ss (F ++ [cmp u s]) a := by
  have l0 : 0 < F.length := (List.getElem?_eq_some_iff.mp f.first).1
  refine ⟨by rw [List.getElem?_append_left l0]; exact f.first, fun v hv => ?_, ?_, fun v hv => ?_, fun i v hi e t ht => ?_⟩
  · rcases List.mem_append.mp hv with hv | hv
    · exact f.tr v hv
    · rw [List.mem_singleton.mp hv]
      exact tr_cmp (f.tr u hu) hs
  · rw [List.nodup_append]
    exact ⟨f.nd, by simp, fun x hx y hy z => n (by rw [List.mem_singleton] at hy; rw [← hy, ← z]; exact hx)⟩
  · rcases List.mem_append.mp hv with hv | hv
    · exact f.gen v hv
    · rw [List.mem_singleton.mp hv]
      exact .step (f.gen u hu) h
  · rw [List.getElem?_append_left (by omega)] at e
    exact List.mem_append.mpr (.inl (f.shut i v hi e t ht))
theorem eqv_row (u v : List Int) : PyData.eqv (rowD u) (rowD v) = decide (u = v) := eqv_nm u v
theorem any_row (F : List (List Int)) (u : List Int) : ((F.map rowD).any fun z => PyData.eqv z (rowD u)) = decide (u ∈ F) := by
  rw [List.any_map]
  have e : ((fun z => PyData.eqv z (rowD u)) ∘ rowD) = fun v => decide (v = u) := by
    funext v
    exact eqv_row v u
  rw [e]
  by_cases h : u ∈ F
  · rw [decide_eq_true h, List.any_eq_true]
    exact ⟨u, h, decide_eq_true rfl⟩
  · rw [decide_eq_false h, List.any_eq_false]
    intro x hx z
    exact h (by rw [← of_decide_eq_true z]; exact hx)
theorem fine_row {p : Nat} {u : List Int} (h : Tr p u) (hp : p ≤ 8) : Fine 40000 1 (rowD u) := by
  have f := fines_all (m := 4302) (k := 0) (ds := u.map PyData.int) fun d hd => by
    obtain ⟨x, hx, rfl⟩ := List.mem_map.mp hd
    have b := h.2 x hx
    refine fine_int (Nat.lt_of_lt_of_le (show x.natAbs < 2 ^ 4 by omega) (Nat.pow_le_pow_right (by decide) (by decide)))
  have l : (u.map PyData.int).length ≤ 8 := by rw [List.length_map, h.1]; exact hp
  refine (fine_tuple f).mono ?_ (Nat.le_refl _)
  have : (4302 + 2) * (u.map PyData.int).length ≤ (4302 + 2) * 8 := Nat.mul_le_mul_left _ l
  omega
theorem shaped_rows {p : Nat} {F : List (List Int)} (h : ∀ u ∈ F, Tr p u) (hp : p ≤ 8) : SeqAt.shaped (.list (F.map rowD)) = true := by
  have f := fines_all (m := 40000) (k := 1) (ds := F.map rowD) fun d hd => by
    obtain ⟨u, hu, rfl⟩ := List.mem_map.mp hd
    exact fine_row (h u hu) hp
  exact (fine_list f).shaped (by decide)
def unI : PyData → List Int
  | .tuple ds => ds.map fun z => match z with | .int x => x | _ => 0
  | _ => []
theorem unI_row (u : List Int) : unI (rowD u) = u := by
  unfold unI rowD
  show (u.map PyData.int).map _ = u
  rw [List.map_map]
  exact List.map_id' u
theorem idx_first {F : List (List Int)} (nd : F.Nodup) {w : List Int} (hw : w ∈ F) : (F.map rowD)[F.idxOf w]? = some (rowD w) ∧ ∀ (m : Nat) (z' : PyData), m < F.idxOf w → (F.map rowD)[m]? = some z' → PyData.eqv z' (rowD w) = false := by
  have a := idx_at hw
  unfold idx at a
  rw [Int.toNat_natCast] at a
  refine ⟨by rw [List.getElem?_map, a]; rfl, fun m z' hm e => ?_⟩
  obtain ⟨v, hv, rfl⟩ := map_getE e
  rw [eqv_row]
  refine decide_eq_false fun z => ?_
  subst z
  have := idx_of nd hv
  unfold idx at this
  omega
def stepD (s : List Int) : PyData → PyData
  | .int x => .int (s.getD x.toNat 0)
  | z => z
theorem cmp_dat (u s : List Int) : (PyData.tuple ((u.map PyData.int).map (stepD s))) = rowD (cmp u s) := by
  unfold rowD cmp
  rw [List.map_map, List.map_map]
  rfl
theorem cmp_get {p : Nat} {s : List Int} (ts : Tr p s) {x : Int} (x0 : 0 ≤ x) (x1 : x < p) : atI (s.map PyData.int) x = some (.int (s.getD x.toNat 0)) := by
  have gx := (tr_get ts (i := x.toNat) (by omega)).1
  have e1 := atI_of (i := x.toNat) (xs := s.map PyData.int) (x := .int (s.getD x.toNat 0)) (by rw [List.getElem?_map, gx]; rfl)
  rw [show ((x.toNat : Nat) : Int) = x by omega] at e1
  exact e1
/-- a measure: its table, its letters with the members -/
def lmD (p : Str × Int) : PyData := .tuple [.str p.1, .int p.2]
def measD (A : List (List Int)) (ls : List (Str × Int)) : PyData := .tuple [tblD A, .tuple (ls.map lmD)]
def abcx : List Str := ["a", "b", "c", "x"]
/-- letters told with members below k -/
structure Lets (k : Nat) (ls : List (Str × Int)) : Prop where
  nd : (ls.map fun p => p.1).Nodup
  pos : 1 ≤ ls.length
  few : ls.length ≤ 4
  one : ∀ p ∈ ls, p.1 ∈ abcx
  mem : ∀ p ∈ ls, 0 ≤ p.2 ∧ p.2 < k
theorem lets_zip {k : Nat} {zs : List Str} {ms : List Int} (nd : zs.Nodup) (h1 : 1 ≤ zs.length) (h4 : zs.length ≤ 4) (ho : ∀ z ∈ zs, z ∈ abcx) (hl : ms.length = zs.length) (hm : ∀ m ∈ ms, 0 ≤ m ∧ m < k) : Lets k (zs.zip ms) := by
  have e : (zs.zip ms).map (fun p => p.1) = zs := List.map_fst_zip (by omega)
  have l : (zs.zip ms).length = zs.length := by rw [List.length_zip]; omega
  refine ⟨by rw [e]; exact nd, by omega, by omega, fun p hp => ?_, fun p hp => ?_⟩
  · exact ho _ (List.of_mem_zip hp).1
  · exact hm _ (List.of_mem_zip hp).2
def unS : PyData → Str
  | .str z => z
  | _ => ""
theorem perm_strs {es : List PyData} {zs : List Str} (h : es.Perm (zs.map PyData.str)) : ∃ ws : List Str, es = ws.map PyData.str ∧ ws.Perm zs := by
  refine ⟨es.map unS, ?_, ?_⟩
  · have e : ∀ d ∈ es, (PyData.str (unS d)) = d := by
      intro d hd
      obtain ⟨z, _, rfl⟩ := List.mem_map.mp (h.mem_iff.mp hd)
      rfl
    rw [List.map_map]
    have e2 : es.map (PyData.str ∘ unS) = es.map id := List.map_congr_left fun d hd => e d hd
    rw [e2, List.map_id]
  · have e3 := h.map unS
    rw [List.map_map] at e3
    have e4 : zs.map (unS ∘ PyData.str) = zs := List.map_id' zs
    rw [e4] at e3
    exact e3
theorem eqv_two (x y : PyData) : PyData.eqv (.tuple [x, y]) (.tuple []) = false := by
  show PyData.eqvAll [x, y] [] = false
  simp [PyData.eqvAll]
theorem fine_tbl {A : List (List Int)} {k : Nat} (h : Mon A k) : Fine 400000 2 (tblD A) := by
  have f := fines_all (m := 40000) (k := 1) (ds := A.map rowD) fun d hd => by
    obtain ⟨r, hr, rfl⟩ := List.mem_map.mp hd
    refine fine_row (p := k) ⟨h.row r hr, fun x hx => ?_⟩ h.few
    obtain ⟨i, hi⟩ := List.getElem?_of_mem hr
    obtain ⟨j, hj⟩ := List.getElem?_of_mem hx
    have li := (List.getElem?_eq_some_iff.mp hi).1
    have lj := (List.getElem?_eq_some_iff.mp hj).1
    have lr := h.row r hr
    have la := h.len
    have g := h.rng (i : Int) (j : Int) (by omega) (by omega) (by omega) (by omega)
    have e : op A (i : Int) (j : Int) = x := by
      unfold op
      rw [Int.toNat_natCast, Int.toNat_natCast, List.getD_eq_getElem?_getD (l := A), hi]
      show r.getD j 0 = x
      rw [List.getD_eq_getElem?_getD, hj]
      rfl
    rw [e] at g
    exact g
  have l : (A.map rowD).length ≤ 8 := by rw [List.length_map, h.len]; exact h.few
  refine (fine_tuple f).mono ?_ (Nat.le_refl _)
  have : (40000 + 2) * (A.map rowD).length ≤ (40000 + 2) * 8 := Nat.mul_le_mul_left _ l
  omega
theorem fine_mems {k : Nat} {ms : List Int} (h8 : k ≤ 8) (hl : ms.length ≤ 8) (hm : ∀ m ∈ ms, 0 ≤ m ∧ m < k) : Fine 40000 1 (.list (ms.map .int)) := by
  have f := fines_all (m := 4302) (k := 0) (ds := ms.map PyData.int) fun d hd => by
    obtain ⟨x, hx, rfl⟩ := List.mem_map.mp hd
    have b := hm x hx
    exact fine_int (Nat.lt_of_lt_of_le (show x.natAbs < 2 ^ 4 by omega) (Nat.pow_le_pow_right (by decide) (by decide)))
  have l : (ms.map PyData.int).length ≤ 8 := by rw [List.length_map]; exact hl
  refine (fine_list f).mono ?_ (Nat.le_refl _)
  have : (4302 + 2) * (ms.map PyData.int).length ≤ (4302 + 2) * 8 := Nat.mul_le_mul_left _ l
  omega
theorem zip_lm (zs : List Str) (ms : List Int) : ((zs.map PyData.str).zip (ms.map PyData.int)).map (fun p => PyData.tuple [p.1, p.2]) = (zs.zip ms).map lmD := by
  rw [List.zip_map, List.map_map]
  rfl
def minF (x y : Int) : Int := if (1 : Int) < x + y then 1 else x + y
def oddF (x y : Int) : Int := if x + y < 2 then x + y else 0
theorem mon_min : Mon (mkT 2 minF) 2 := by
  refine mon_mk (by decide) (by decide) (fun x y a b c d => ?_) (fun x a b => ?_) (fun x a b => ?_) (fun x y z a b c d e f => ?_)
  · unfold minF; split <;> omega
  · unfold minF; split <;> omega
  · unfold minF; split <;> omega
  · unfold minF; repeat' split
    all_goals omega
theorem mon_odd : Mon (mkT 2 oddF) 2 := by
  refine mon_mk (by decide) (by decide) (fun x y a b c d => ?_) (fun x a b => ?_) (fun x a b => ?_) (fun x y z a b c d e f => ?_)
  · unfold oddF; split <;> omega
  · unfold oddF; split <;> omega
  · unfold oddF; split <;> omega
  · unfold oddF; repeat' split
    all_goals omega
/-! ### words and powers -/
theorem get1 (A : List (List Int)) (ls : List (Str × Int)) : ixD (.dat (measD A ls)) 0 = some (tblD A) := rfl
theorem get2 (A : List (List Int)) (ls : List (Str × Int)) : ixD (.dat (measD A ls)) 1 = some (.tuple (ls.map lmD)) := rfl
def lukM (ls : List (Str × Int)) (s : Str) : Int := ((ls.find? fun p => decide (p.1 = s)).map fun p => p.2).getD 0
def chS (c : Nat) : Str := ⟨#[c]⟩
def WOk (ls : List (Str × Int)) (cs : List Nat) : Prop := ∀ c ∈ cs, chS c ∈ ls.map fun p => p.1
def val (A : List (List Int)) (ls : List (Str × Int)) (cs : List Nat) (x : Int) : Int := cs.foldl (fun x c => op A x (lukM ls (chS c))) x
theorem luk_mem {k : Nat} {ls : List (Str × Int)} (h : Lets k ls) {s : Str} (hs : s ∈ ls.map fun p => p.1) : lukS (ls.map fun p => (p.1, .int p.2)) s = some (.int (lukM ls s)) ∧ 0 ≤ lukM ls s ∧ lukM ls s < k := by
  obtain ⟨p, hp, e⟩ := List.mem_map.mp hs
  have f : (ls.find? fun p => decide (p.1 = s)).isSome = true := by
    rw [List.find?_isSome]
    exact ⟨p, hp, decide_eq_true e⟩
  obtain ⟨q, hq⟩ := Option.isSome_iff_exists.mp f
  have mq := List.mem_of_find?_eq_some hq
  have e1 : lukM ls s = q.2 := by unfold lukM; rw [hq]; rfl
  rw [e1]
  refine ⟨?_, h.mem q mq⟩
  unfold lukS
  rw [List.find?_map]
  have e2 : ((fun p : Str × PyData => decide (p.1 = s)) ∘ fun p : Str × Int => (p.1, PyData.int p.2)) = fun p => decide (p.1 = s) := rfl
  rw [e2, hq]
  rfl
theorem val_rng {A : List (List Int)} {k : Nat} {ls : List (Str × Int)} (hA : Mon A k) (h : Lets k ls) : ∀ {cs : List Nat} {x : Int}, WOk ls cs → 0 ≤ x → x < k → 0 ≤ val A ls cs x ∧ val A ls cs x < k := by
  intro cs
  induction cs with
  | nil => intro x _ a b; exact ⟨a, b⟩
  | cons c cs ih =>
    intro x hc a b
    have m := (luk_mem h (hc c (List.mem_cons_self ..))).2
    have r := hA.rng x _ a b m.1 m.2
    exact ih (fun d hd => hc d (List.mem_cons_of_mem _ hd)) r.1 r.2
theorem val_op {A : List (List Int)} {k : Nat} {ls : List (Str × Int)} (hA : Mon A k) (h : Lets k ls) : ∀ {cs : List Nat} {x : Int}, WOk ls cs → 0 ≤ x → x < k → val A ls cs x = op A x (val A ls cs 0) := by
  intro cs
  induction cs with
  | nil => intro x _ a b; exact (hA.id2 x a b).symm
  | cons c cs ih =>
    intro x hc a b
    have hp := hA.pos
    have m := (luk_mem h (hc c (List.mem_cons_self ..))).2
    have w : WOk ls cs := fun d hd => hc d (List.mem_cons_of_mem _ hd)
    have r := hA.rng x _ a b m.1 m.2
    have v := val_rng hA h w (x := 0) (Int.le_refl 0) (by omega)
    show val A ls cs (op A x (lukM ls (chS c))) = op A x (val A ls cs (op A 0 (lukM ls (chS c))))
    rw [hA.id1 _ m.1 m.2, ih w r.1 r.2, ih w m.1 m.2, hA.assoc x _ _ a b m.1 m.2 v.1 v.2]
theorem val_app {A : List (List Int)} {ls : List (Str × Int)} (cs ds : List Nat) (x : Int) : val A ls (cs ++ ds) x = val A ls ds (val A ls cs x) := List.foldl_append
/-- a member taken n times -/
def pw (A : List (List Int)) (x : Int) : Nat → Int
  | 0 => 0
  | n + 1 => op A (pw A x n) x
theorem pw_rng {A : List (List Int)} {k : Nat} (hA : Mon A k) {x : Int} (a : 0 ≤ x) (b : x < k) : ∀ n, 0 ≤ pw A x n ∧ pw A x n < k
  | 0 => by have := hA.pos; show (0 : Int) ≤ 0 ∧ (0 : Int) < k; omega
  | n + 1 => let r := pw_rng hA a b n; hA.rng _ _ r.1 r.2 a b
theorem pw_add {A : List (List Int)} {k : Nat} (hA : Mon A k) {x : Int} (a : 0 ≤ x) (b : x < k) (m : Nat) : ∀ n, pw A x (m + n) = op A (pw A x m) (pw A x n)
  | 0 => (hA.id2 _ (pw_rng hA a b m).1 (pw_rng hA a b m).2).symm
  | n + 1 => by
    have r := pw_rng hA a b m
    have q := pw_rng hA a b n
    show op A (pw A x (m + n)) x = op A (pw A x m) (op A (pw A x n) x)
    rw [pw_add hA a b m n, hA.assoc _ _ _ r.1 r.2 q.1 q.2 a b]
theorem pw_sq {A : List (List Int)} {k : Nat} (hA : Mon A k) {x : Int} (a : 0 ≤ x) (b : x < k) : ∀ n, pw A (op A x x) n = pw A x (2 * n)
  | 0 => rfl
  | n + 1 => by
    have r := pw_rng hA a b (2 * n)
    show op A (pw A (op A x x) n) (op A x x) = op A (op A (pw A x (2 * n)) x) x
    rw [pw_sq hA a b n, hA.assoc _ _ _ r.1 r.2 a b a b]
theorem pw_one {A : List (List Int)} {k : Nat} (hA : Mon A k) {x : Int} (a : 0 ≤ x) (b : x < k) : pw A x 1 = x := hA.id1 x a b
theorem val_rep {A : List (List Int)} {k : Nat} {ls : List (Str × Int)} (hA : Mon A k) (h : Lets k ls) {cs : List Nat} (w : WOk ls cs) : ∀ n, val A ls (List.replicate n cs).flatten 0 = pw A (val A ls cs 0) n := by
  have hp := hA.pos
  have v := val_rng hA h w (x := 0) (Int.le_refl 0) (by omega)
  intro n
  induction n with
  | zero => rfl
  | succ n ih =>
    have e : (List.replicate (n + 1) cs).flatten = (List.replicate n cs).flatten ++ cs := by
      rw [List.replicate_succ', List.flatten_append]
      simp
    have r := pw_rng hA v.1 v.2 n
    rw [e, val_app, ih, val_op hA h w r.1 r.2]
    rfl
/-- powers go round -/
theorem pw_round {A : List (List Int)} {x : Int} {b t : Nat} (h : pw A x (b + t) = pw A x b) : ∀ j, pw A x (b + t + j) = pw A x (b + j)
  | 0 => h
  | j + 1 => by
    show op A (pw A x (b + t + j)) x = op A (pw A x (b + j)) x
    rw [pw_round h j]
theorem pw_mod {A : List (List Int)} {x : Int} {b t : Nat} (h : pw A x (b + t) = pw A x b) : ∀ q r, pw A x (b + (q * t + r)) = pw A x (b + r)
  | 0, r => by rw [Nat.zero_mul, Nat.zero_add]
  | q + 1, r => by
    have e : b + ((q + 1) * t + r) = b + t + (q * t + r) := by rw [Nat.succ_mul]; omega
    rw [e, pw_round h, pw_mod h q r]
theorem join_ch (cs : List Nat) : Txt.join "" (cs.map chS) = ⟨cs.toArray⟩ := by
  rw [TL.join_eq]
  induction cs with
  | nil => rfl
  | cons c cs ih =>
    cases cs with
    | nil => rfl
    | cons d ds =>
      show (chS c ++ "") ++ Str.join "" ((d :: ds).map chS) = _
      rw [ih]
      show (⟨(#[c] ++ #[]) ++ (d :: ds).toArray⟩ : Str) = _
      simp
/-! ### members of words -/
inductive RGen (A : List (List Int)) (ls : List (Str × Int)) : Int → Prop
  | zero : RGen A ls 0
  | step {x : Int} {p : Str × Int} : RGen A ls x → p ∈ ls → RGen A ls (op A x p.2)
structure Rch (A : List (List Int)) (ls : List (Str × Int)) (k : Nat) (F : List Int) (a : Nat) : Prop where
  first : F[0]? = some 0
  rng : ∀ x ∈ F, 0 ≤ x ∧ x < k
  nd : F.Nodup
  gen : ∀ x ∈ F, RGen A ls x
  shut : ∀ (i : Nat) (x : Int), i < a → F[i]? = some x → ∀ p ∈ ls, op A x p.2 ∈ F
theorem rch_all {A : List (List Int)} {ls : List (Str × Int)} {k : Nat} {F : List Int} (f : Rch A ls k F F.length) (x : Int) : x ∈ F ↔ RGen A ls x := by
  refine ⟨f.gen x, fun g => ?_⟩
  induction g with
  | zero => exact List.mem_of_getElem? f.first
  | step _ hp ih =>
    obtain ⟨i, hi⟩ := List.getElem?_of_mem ih
    exact f.shut i _ (List.getElem?_eq_some_iff.mp hi).1 hi _ hp
theorem few_of {k : Nat} {F : List Int} (nd : F.Nodup) (h : ∀ x ∈ F, 0 ≤ x ∧ x < k) : F.length ≤ k := by
  have n : (F.map Int.toNat).Nodup := by
    unfold List.Nodup
    rw [List.pairwise_map]
    refine List.Pairwise.imp_of_mem (fun ha hb z w => z ?_) nd
    have h1 := h _ ha
    have h2 := h _ hb
    omega
  have s : ∀ y ∈ F.map Int.toNat, y ∈ List.range k := fun y hy => by
    obtain ⟨x, hx, rfl⟩ := List.mem_map.mp hy
    have h1 := h x hx
    rw [List.mem_range]
    omega
  have e := L2.nat_nodup_len _ _ n s
  rw [List.length_map, List.length_range] at e
  exact e
theorem any_int (F : List Int) (y : Int) : ((F.map PyData.int).any fun z => PyData.eqv z (.int y)) = decide (y ∈ F) := by
  rw [List.any_map]
  have e : ((fun z => PyData.eqv z (.int y)) ∘ PyData.int) = fun v => decide (v = y) := rfl
  rw [e]
  by_cases h : y ∈ F
  · rw [decide_eq_true h, List.any_eq_true]
    exact ⟨y, h, decide_eq_true rfl⟩
  · rw [decide_eq_false h, List.any_eq_false]
    intro x hx z
    exact h (by rw [← of_decide_eq_true z]; exact hx)
theorem rch_more {A : List (List Int)} {ls : List (Str × Int)} {k : Nat} {F : List Int} {a : Nat} (hA : Mon A k) (hl : Lets k ls) (f : Rch A ls k F a) {x : Int} {p : Str × Int} (hx : x ∈ F) (hp : p ∈ ls) (n : ¬ op A x p.2 ∈ F) (ha : a ≤ F.length) : Rch A ls k (F ++ [op A x p.2]) a := by
  have l0 : 0 < F.length := (List.getElem?_eq_some_iff.mp f.first).1
  have bx := f.rng x hx
  have bp := hl.mem p hp
  refine ⟨by rw [List.getElem?_append_left l0]; exact f.first, fun v hv => ?_, ?_, fun v hv => ?_, fun i v hi e t ht => ?_⟩
  · rcases List.mem_append.mp hv with hv | hv
    · exact f.rng v hv
    · rw [List.mem_singleton.mp hv]
      exact hA.rng _ _ bx.1 bx.2 bp.1 bp.2
  · rw [List.nodup_append]
    exact ⟨f.nd, by simp, fun y hy z hz w => n (by rw [List.mem_singleton] at hz; rw [← hz, ← w]; exact hy)⟩
  · rcases List.mem_append.mp hv with hv | hv
    · exact f.gen v hv
    · rw [List.mem_singleton.mp hv]
      exact .step (f.gen x hx) hp
  · rw [List.getElem?_append_left (by omega)] at e
    exact List.mem_append.mpr (.inl (f.shut i v hi e t ht))
theorem rch_zero {A : List (List Int)} {ls : List (Str × Int)} {k : Nat} (hA : Mon A k) : Rch A ls k [0] 0 := by
  have hp := hA.pos
  refine ⟨rfl, fun x hx => ?_, by simp, fun x hx => ?_, fun i x hi => absurd hi (Nat.not_lt_zero i)⟩
  · rw [List.mem_singleton.mp hx]
    omega
  · rw [List.mem_singleton.mp hx]
    exact .zero
theorem rch_next {A : List (List Int)} {ls : List (Str × Int)} {k : Nat} {F : List Int} {a : Nat} (f : Rch A ls k F a) {x : Int} (hx : F[a]? = some x) (h : ∀ p ∈ ls, op A x p.2 ∈ F) : Rch A ls k F (a + 1) := by
  refine ⟨f.first, f.rng, f.nd, f.gen, fun i v hi e t ht => ?_⟩
  by_cases hia : i = a
  · subst hia
    rw [hx] at e
    cases e
    exact h t ht
  · exact f.shut i v (by omega) e t ht
/-- two ascending lists of the same members -/
theorem sorted_eq {ys zs : List Int} (h1 : ys.Pairwise (· ≤ ·)) (h2 : zs.Pairwise (· ≤ ·)) (n1 : ys.Nodup) (n2 : zs.Nodup) (h : ∀ x, x ∈ ys ↔ x ∈ zs) : ys = zs := by
  have p : ys.Perm zs := (List.perm_ext_iff_of_nodup n1 n2).mpr h
  exact p.eq_of_pairwise (fun a b _ _ x y => Int.le_antisymm x y) h1 h2
def dgD (x : Int) : PyData := .tuple [.int x, .int x]
theorem any_dg (F : List Int) (y : Int) : ((F.map dgD).any fun z => PyData.eqv z (dgD y)) = decide (y ∈ F) := by
  rw [List.any_map]
  have e : ((fun z => PyData.eqv z (dgD y)) ∘ dgD) = fun v => decide (v = y) := by
    funext v
    have e1 := eqv_row [v, v] [y, y]
    refine Eq.trans (show PyData.eqv (dgD v) (dgD y) = _ from e1) ?_
    by_cases h : v = y
    · rw [h, decide_eq_true rfl, decide_eq_true rfl]
    · rw [decide_eq_false h, decide_eq_false fun z => h (List.cons.inj z).1]
  rw [e]
  by_cases h : y ∈ F
  · rw [decide_eq_true h, List.any_eq_true]
    exact ⟨y, h, decide_eq_true rfl⟩
  · rw [decide_eq_false h, List.any_eq_false]
    intro x hx z
    exact h (by rw [← of_decide_eq_true z]; exact hx)
theorem fine_dg {x : Int} (h0 : 0 ≤ x) (h1 : x < 8) : Fine 9000 1 (dgD x) := by
  have f : Fine 4302 0 (.int x) := fine_int (Nat.lt_of_lt_of_le (show x.natAbs < 2 ^ 4 by omega) (Nat.pow_le_pow_right (by decide) (by decide)))
  exact (fine_tuple (fine_cons f (fine_cons f fine_nil))).mono (by decide) (by decide)
theorem shaped_dgs {k : Nat} {F : List Int} (h8 : k ≤ 8) (h : ∀ x ∈ F, 0 ≤ x ∧ x < k) : SeqAt.shaped (.list (F.map dgD)) = true := by
  have f := fines_all (m := 9000) (k := 1) (ds := F.map dgD) fun d hd => by
    obtain ⟨x, hx, rfl⟩ := List.mem_map.mp hd
    have b := h x hx
    exact fine_dg b.1 (by omega)
  exact (fine_list f).shaped (by decide)
def pws (A : List (List Int)) (x : Int) (L : Nat) : List Int := (List.range L).map (pw A x)
theorem pws_len (A : List (List Int)) (x : Int) (L : Nat) : (pws A x L).length = L := by unfold pws; rw [List.length_map, List.length_range]
theorem pws_get {A : List (List Int)} {x : Int} {L i : Nat} (h : i < L) : (pws A x L)[i]? = some (pw A x i) := by
  unfold pws
  rw [List.getElem?_map, List.getElem?_range h]
  rfl
theorem pws_more (A : List (List Int)) (x : Int) (L : Nat) : pws A x (L + 1) = pws A x L ++ [pw A x L] := by
  unfold pws
  rw [List.range_succ, List.map_append]
  rfl
theorem pws_rng {A : List (List Int)} {k : Nat} (hA : Mon A k) {x : Int} (a : 0 ≤ x) (b : x < k) (L : Nat) : ∀ y ∈ pws A x L, 0 ≤ y ∧ y < k := fun y hy => by
  obtain ⟨i, _, rfl⟩ := List.mem_map.mp hy
  exact pw_rng hA a b i
theorem last_pw {A : List (List Int)} {x : Int} {L : Nat} (q : Addr) (h : 1 ≤ L) : ixD (.own q ((pws A x L).map .int)) (-(1 : Int)) = some (.int (pw A x (L - 1))) := by
  show atI ((pws A x L).map PyData.int) (-(1 : Int)) = _
  unfold atI ixN
  rw [if_neg (by decide), if_pos (by rw [List.length_map, pws_len]; omega)]
  show ((pws A x L).map PyData.int)[(-(1 : Int) + (((pws A x L).map PyData.int).length : Nat)).toNat]? = _
  rw [List.length_map, pws_len, show (-(1 : Int) + (L : Nat)).toNat = L - 1 by omega, List.getElem?_map, pws_get (by omega)]
  rfl
theorem idx_int {F : List Int} {w : Int} (hw : w ∈ F) : (F.map PyData.int)[F.idxOf w]? = some (.int w) ∧ ∀ (m : Nat) (z' : PyData), m < F.idxOf w → (F.map PyData.int)[m]? = some z' → PyData.eqv z' (.int w) = false := by
  have l := List.idxOf_lt_length_of_mem hw
  refine ⟨by rw [List.getElem?_map, List.getElem?_eq_getElem l, List.getElem_idxOf l]; rfl, fun m z' hm e => ?_⟩
  obtain ⟨v, hv, rfl⟩ := map_getE e
  refine decide_eq_false (p := v = w) fun z => ?_
  subst z
  have lm : m < F.length := by omega
  have ne := List.not_of_lt_findIdx (p := fun z => z == v) (xs := F) (i := m) hm
  have ev : F[m] = v := (List.getElem?_eq_some_iff.mp hv).2
  rw [ev] at ne
  simp at ne
theorem abcx_ch {s : Str} (h : s ∈ abcx) : ∃ c, s = chS c := by
  unfold abcx at h
  simp only [List.mem_cons, List.not_mem_nil, or_false] at h
  rcases h with h | h | h | h
  · exact ⟨97, h.trans (by rfl)⟩
  · exact ⟨98, h.trans (by rfl)⟩
  · exact ⟨99, h.trans (by rfl)⟩
  · exact ⟨120, h.trans (by rfl)⟩
theorem len_succ {ρ : List Sl} {n : Nat} (h : ρ.length = n + 1) : ∃ x r, ρ = x :: r ∧ r.length = n := by
  cases ρ with
  | nil => cases h
  | cons x r => exact ⟨x, r, rfl, Nat.succ.inj h⟩
theorem bg18 {ρ : List Sl} (h : ρ.length = 18 ∧ ρ[1]? = some .bag) : ∃ x0 x2 x3 x4 x5 x6 x7 x8 x9 x10 x11 x12 x13 x14 x15 x16 x17, ρ = [x0, .bag, x2, x3, x4, x5, x6, x7, x8, x9, x10, x11, x12, x13, x14, x15, x16, x17] := by
  obtain ⟨h0, hb⟩ := h
  obtain ⟨x0, r0, rfl, h1⟩ := len_succ h0
  obtain ⟨x1, r1, rfl, h2⟩ := len_succ h1
  obtain ⟨x2, r2, rfl, h3⟩ := len_succ h2
  obtain ⟨x3, r3, rfl, h4⟩ := len_succ h3
  obtain ⟨x4, r4, rfl, h5⟩ := len_succ h4
  obtain ⟨x5, r5, rfl, h6⟩ := len_succ h5
  obtain ⟨x6, r6, rfl, h7⟩ := len_succ h6
  obtain ⟨x7, r7, rfl, h8⟩ := len_succ h7
  obtain ⟨x8, r8, rfl, h9⟩ := len_succ h8
  obtain ⟨x9, r9, rfl, h10⟩ := len_succ h9
  obtain ⟨x10, r10, rfl, h11⟩ := len_succ h10
  obtain ⟨x11, r11, rfl, h12⟩ := len_succ h11
  obtain ⟨x12, r12, rfl, h13⟩ := len_succ h12
  obtain ⟨x13, r13, rfl, h14⟩ := len_succ h13
  obtain ⟨x14, r14, rfl, h15⟩ := len_succ h14
  obtain ⟨x15, r15, rfl, h16⟩ := len_succ h15
  obtain ⟨x16, r16, rfl, h17⟩ := len_succ h16
  obtain ⟨x17, r17, rfl, h18⟩ := len_succ h17
  cases r17 with
  | nil =>
    cases hb
    exact ⟨x0, x2, x3, x4, x5, x6, x7, x8, x9, x10, x11, x12, x13, x14, x15, x16, x17, rfl⟩
  | cons _ _ => cases h18
theorem fold_rep (a : Array Nat) : ∀ (n : Nat) (acc : Array Nat), ((List.replicate n a).foldl (· ++ ·) acc).toList = acc.toList ++ (List.replicate n a.toList).flatten
  | 0, acc => by simp
  | n + 1, acc => by
    rw [List.replicate_succ, List.foldl_cons, fold_rep a n, List.replicate_succ, List.flatten_cons, Array.toList_append, List.append_assoc]
theorem mul_cps {cs : List Nat} {n : Nat} (h : 1 ≤ n) : (Txt.mul (⟨cs.toArray⟩ : Str) (n : Int)).cps.toList = (List.replicate n cs).flatten := by
  unfold Txt.mul
  rw [if_neg (by omega)]
  by_cases h1 : (((n : Int) == 1) || ((⟨cs.toArray⟩ : Str).length == 0)) = true
  · rw [if_pos h1]
    rw [Bool.or_eq_true] at h1
    rcases h1 with h1 | h1
    · have e : n = 1 := by
        have := eq_of_beq h1
        omega
      subst e
      simp
    · have e : cs = [] := by
        have h2 : cs.toArray.size = 0 := eq_of_beq h1
        simpa using h2
      subst e
      simp
  · rw [if_neg h1]
    show ((List.replicate (n : Int).toNat cs.toArray).foldl (· ++ ·) #[]).toList = _
    rw [fold_rep, Int.toNat_natCast]
    simp
theorem mulOk_few {z : Str} {n : Nat} (h : 1 ≤ n) (h2 : n ≤ 200) (hz : z.length ≤ 9) : MulOk z (n : Int) := by
  refine ⟨?_, fun _ _ => ?_, fun _ _ => ?_⟩
  · rw [decide_eq_false (by omega), decide_eq_false (by omega)]
    rfl
  · have e : (9 : Int) ≤ (2 ^ 63 - 1) / (n : Int) := by
      refine (Int.le_ediv_iff_mul_le (by omega)).mpr ?_
      omega
    omega
  · rw [Int.toNat_natCast]
    have : z.length * n ≤ 9 * 200 := Nat.mul_le_mul hz h2
    have big : 1800 ≤ sizeLine := Nat.le_of_ble_eq_true rfl
    unfold Builtin.Str.tooLong
    refine decide_eq_false ?_
    omega
theorem rgen_rng {A : List (List Int)} {ls : List (Str × Int)} {k : Nat} (hA : Mon A k) (hl : Lets k ls) {x : Int} (g : RGen A ls x) : 0 ≤ x ∧ x < k := by
  induction g with
  | zero => have := hA.pos; omega
  | step _ hp ih =>
    have b := hl.mem _ hp
    exact hA.rng _ _ ih.1 ih.2 b.1 b.2
theorem fine_memT {k : Nat} {ms : List Int} (h8 : k ≤ 8) (hl : ms.length ≤ 8) (hm : ∀ m ∈ ms, 0 ≤ m ∧ m < k) : Fine 40000 1 (.tuple (ms.map .int)) := by
  have f := fines_all (m := 4302) (k := 0) (ds := ms.map PyData.int) fun d hd => by
    obtain ⟨x, hx, rfl⟩ := List.mem_map.mp hd
    have b := hm x hx
    exact fine_int (Nat.lt_of_lt_of_le (show x.natAbs < 2 ^ 4 by omega) (Nat.pow_le_pow_right (by decide) (by decide)))
  have l : (ms.map PyData.int).length ≤ 8 := by rw [List.length_map]; exact hl
  refine (fine_tuple f).mono ?_ (Nat.le_refl _)
  have : (4302 + 2) * (ms.map PyData.int).length ≤ (4302 + 2) * 8 := Nat.mul_le_mul_left _ l
  omega
/-! any value, as data: how heavy, how deep; what small questions of it answer -/
def isIntD : PyData → Bool
  | .int _ => true
  | _ => false
theorem isInt_eq (d : PyData) : (if d.isInt = true then !d.isBool else false) = isIntD d := by cases d <;> rfl
def withinD (d : PyData) (a b : Int) : Bool := match d with
  | .int x => decide (a ≤ x) && decide (x ≤ b)
  | _ => false
theorem eqv_int (x y : Int) : PyData.eqv (.int x) (.int y) = decide (x = y) := rfl
theorem shaped_int (x : Int) : SeqAt.shaped (.int x) = true := rfl
theorem shaped_ints (ns : List Int) : SeqAt.shaped (.list (ns.map .int)) = true := by
  show (PyData.canLayAll0 (ns.map PyData.int) && decide (PyData.depthAll (ns.map PyData.int) + 1 ≤ 64)) = true
  rw [lay_ints, depth_ints]
  rfl
mutual
def wt : PyData → Nat
  | .none => (PyData.shown .none).length
  | .bool b => (PyData.shown (.bool b)).length
  | .int i => (PyData.shown (.int i)).length
  | .str z => (PyData.shown (.str z)).length + z.length
  | .list ds => 2 + wtAll ds
  | .tuple ds => 3 + wtAll ds
  | .dict ps => (PyData.shown (.dict ps)).length
def wtAll : List PyData → Nat
  | [] => 0
  | d :: ds => wt d + 2 + wtAll ds
end
mutual
theorem wt_shown : ∀ d : PyData, d.shown.length ≤ wt d
  | .none => Nat.le_refl _
  | .bool _ => Nat.le_refl _
  | .int _ => Nat.le_refl _
  | .str _ => by rw [wt]; exact Nat.le_add_right _ _
  | .list ds => by
    simp only [PyData.shown, wt]
    have := list_le (PyData.shownAll ds)
    have := wtAll_shown ds
    omega
  | .tuple ds => by
    simp only [PyData.shown, wt]
    have := tuple_le (PyData.shownAll ds)
    have := wtAll_shown ds
    omega
  | .dict _ => Nat.le_refl _
theorem wtAll_shown : ∀ ds : List PyData, ((PyData.shownAll ds).map fun t => t.length + 2).sum ≤ wtAll ds
  | [] => Nat.le_refl _
  | d :: ds => by
    simp only [PyData.shownAll, List.map_cons, List.sum_cons, wtAll]
    have := wt_shown d
    have := wtAll_shown ds
    omega
end
theorem wtAll_len : ∀ ds : List PyData, ds.length ≤ wtAll ds
  | [] => Nat.le_refl _
  | d :: ds => by
    have := wtAll_len ds
    rw [wtAll, List.length_cons]
    omega
theorem wtAll_mem {d : PyData} : ∀ {ds : List PyData}, d ∈ ds → wt d ≤ wtAll ds
  | x :: ds, h => by
    rw [wtAll]
    rcases List.mem_cons.mp h with rfl | h
    · omega
    · have := wtAll_mem h
      omega
theorem wtAll_app : ∀ a b : List PyData, wtAll (a ++ b) = wtAll a + wtAll b
  | [], b => by rw [List.nil_append, wtAll, Nat.zero_add]
  | x :: a, b => by
    rw [List.cons_append, wtAll, wtAll, wtAll_app a b]
    omega
theorem wt_tup (ds : List PyData) : wt (.tuple ds) = 3 + wtAll ds := by rw [wt]
theorem wt_lst (ds : List PyData) : wt (.list ds) = 2 + wtAll ds := by rw [wt]
def HV : Nat := 3000
theorem hv_line {n : Nat} (h : n ≤ HV) : n ≤ sizeLine := Nat.le_trans h (Nat.le_of_ble_eq_true rfl)
theorem hv_tup {ds : List PyData} (h : wt (.tuple ds) ≤ HV) : ds.length ≤ HV ∧ ∀ d ∈ ds, wt d ≤ HV := by
  rw [wt_tup] at h
  have := wtAll_len ds
  exact ⟨by omega, fun d hd => by have := wtAll_mem hd; omega⟩
/-! what is asked of wishes -/
def isTupD (d : PyData) (a b : Int) : Bool := match d with
  | .tuple ds => decide (a ≤ (ds.length : Nat)) && decide (((ds.length : Nat) : Int) ≤ b)
  | _ => false
def ascB {α : Type} (r : α → α → Bool) (zs : List α) : Bool := (zs.zip (zs.drop 1)).all fun p => r p.1 p.2
def ltS (a b : Str) : Bool := decide (a.cps.toList < b.cps.toList)
def ltI (a b : Int) : Bool := decide (a < b)
def intsD (ds : List PyData) : List Int := ds.filterMap intOf
def ascBelowD (d : PyData) (b : Int) : Bool := match d with
  | .tuple ds => (ds.all fun x => withinD x 0 (b - 1)) && ascB ltI (intsD ds)
  | _ => false
def isLetD (d : PyData) : Bool := match d with
  | .str z => (match z.cps.toList with
    | [c] => decide (97 ≤ c) && decide (c ≤ 122)
    | _ => false)
  | _ => false
def isStepD (d : PyData) (s : Int) : Bool := match d with
  | .tuple [x, y] => isLetD x && withinD y 0 (s - 1)
  | _ => false
def letOf : PyData → Option Str
  | .tuple [.str z, _] => some z
  | _ => none
def lettersOf (ds : List PyData) : List Str := ds.filterMap letOf
def lettersR : PyData → List Str
  | .tuple ds => lettersOf ds
  | _ => []
def isRowD (d : PyData) (s : Int) : Bool := match d with
  | .tuple ds => (decide (1 ≤ ds.length) && decide (ds.length ≤ 6)) && (ds.all (isStepD · s) && ascB ltS (lettersOf ds))
  | _ => false
def isWishD (d : PyData) : Bool := match d with
  | .tuple [.tuple rows, ends] => (decide (1 ≤ rows.length) && decide (rows.length ≤ 6)) && ((rows.all fun r => isRowD r (rows.length : Nat)) && ((rows.all fun r => decide (lettersR r = lettersR (rows.headD .none))) && ascBelowD ends (rows.length : Nat)))
  | _ => false
theorem within_int {d : PyData} {a b : Int} (h : withinD d a b = true) : ∃ x, d = .int x ∧ a ≤ x ∧ x ≤ b := by
  cases d <;> first | (simp [withinD] at h; done) | skip
  rename_i x
  simp only [withinD, Bool.and_eq_true, decide_eq_true_eq] at h
  exact ⟨x, rfl, h⟩
theorem ints_all : ∀ {ds : List PyData} {a b : Int}, (ds.all fun x => withinD x a b) = true → ds = (intsD ds).map .int ∧ ∀ x ∈ intsD ds, a ≤ x ∧ x ≤ b
  | [], _, _, _ => ⟨rfl, fun x hx => by simp [intsD] at hx⟩
  | d :: ds, a, b, h => by
    rw [List.all_cons, Bool.and_eq_true] at h
    obtain ⟨x, rfl, h1, h2⟩ := within_int h.1
    obtain ⟨e, m⟩ := ints_all h.2
    have c : intsD (.int x :: ds) = x :: intsD ds := by
      unfold intsD
      rw [List.filterMap_cons]
      rfl
    rw [c]
    refine ⟨by rw [List.map_cons, ← e], fun y hy => ?_⟩
    rcases List.mem_cons.mp hy with rfl | hy
    · exact ⟨h1, h2⟩
    · exact m y hy
theorem intsD_map (ns : List Int) : intsD (ns.map .int) = ns := by
  induction ns with
  | nil => rfl
  | cons n ns ih =>
    unfold intsD at ih ⊢
    rw [List.map_cons, List.filterMap_cons, ih]
    rfl
theorem let_str {d : PyData} (h : isLetD d = true) : ∃ c, d = .str (chS c) ∧ 97 ≤ c ∧ c ≤ 122 := by
  cases d <;> first | (simp [isLetD] at h; done) | skip
  rename_i z
  unfold isLetD at h
  dsimp only at h
  cases q : z.cps.toList with
  | nil => rw [q] at h; cases h
  | cons c r =>
    cases r with
    | cons _ _ => rw [q] at h; cases h
    | nil =>
      rw [q] at h
      simp only [Bool.and_eq_true, decide_eq_true_eq] at h
      refine ⟨c, ?_, h⟩
      cases z with
      | mk cps =>
        have : cps = #[c] := by rw [← Array.toArray_toList (xs := cps), show cps.toList = [c] from q]
        rw [this]
        rfl
theorem let_of (c : Nat) : isLetD (.str (chS c)) = (decide (97 ≤ c) && decide (c ≤ 122)) := rfl
theorem step_lm {d : PyData} {s : Int} (h : isStepD d s = true) : ∃ p : Str × Int, d = lmD p ∧ isLetD (.str p.1) = true ∧ 0 ≤ p.2 ∧ p.2 ≤ s - 1 := by
  unfold isStepD at h
  split at h
  · rename_i x y
    rw [Bool.and_eq_true] at h
    obtain ⟨c, rfl, _⟩ := let_str h.1
    obtain ⟨n, rfl, hn⟩ := within_int h.2
    exact ⟨(chS c, n), rfl, h.1, hn⟩
  · cases h
theorem steps_lm : ∀ {ds : List PyData} {s : Int}, ds.all (isStepD · s) = true → ∃ rs : List (Str × Int), ds = rs.map lmD ∧ (∀ p ∈ rs, isLetD (.str p.1) = true ∧ 0 ≤ p.2 ∧ p.2 ≤ s - 1) ∧ lettersOf ds = rs.map (·.1)
  | [], _, _ => ⟨[], rfl, fun p hp => by simp at hp, rfl⟩
  | d :: ds, s, h => by
    rw [List.all_cons, Bool.and_eq_true] at h
    obtain ⟨p, rfl, hp⟩ := step_lm h.1
    obtain ⟨rs, rfl, m, e⟩ := steps_lm h.2
    refine ⟨p :: rs, rfl, fun q hq => ?_, ?_⟩
    · rcases List.mem_cons.mp hq with rfl | hq
      · exact hp
      · exact m q hq
    · unfold lettersOf at e ⊢
      rw [List.filterMap_cons, List.map_cons, ← e]
      rfl
/-! strictly ascending rows -/
theorem ascB_cons {α : Type} {r : α → α → Bool} (x y : α) (zs : List α) : ascB r (x :: y :: zs) = (r x y && ascB r (y :: zs)) := by
  unfold ascB
  simp [List.zip_cons_cons, List.all_cons]
theorem ascB_iff {α : Type} {r : α → α → Bool} (tr : ∀ a b c, r a b = true → r b c = true → r a c = true) : ∀ zs : List α, ascB r zs = true ↔ zs.Pairwise fun a b => r a b = true
  | [] => ⟨fun _ => .nil, fun _ => rfl⟩
  | [x] => ⟨fun _ => by simp, fun _ => rfl⟩
  | x :: y :: zs => by
    rw [ascB_cons, Bool.and_eq_true, ascB_iff tr (y :: zs), List.pairwise_cons (a := x)]
    constructor
    · rintro ⟨h1, h2⟩
      refine ⟨fun z hz => ?_, h2⟩
      rcases List.mem_cons.mp hz with rfl | hz
      · exact h1
      · exact tr x y z h1 ((List.pairwise_cons.mp h2).1 z hz)
    · rintro ⟨h1, h2⟩
      exact ⟨h1 y (List.mem_cons_self ..), h2⟩
theorem asc_uniq {α : Type} {r : α → α → Prop} (ir : ∀ a, ¬ r a a) (as : ∀ a b, r a b → ¬ r b a) : ∀ {a b : List α}, a.Pairwise r → b.Pairwise r → (∀ x, x ∈ a ↔ x ∈ b) → a = b
  | [], [], _, _, _ => rfl
  | [], y :: b, _, _, h => absurd ((h y).mpr (List.mem_cons_self ..)) (by simp)
  | x :: a, [], _, _, h => absurd ((h x).mp (List.mem_cons_self ..)) (by simp)
  | x :: a, y :: b, pa, pb, h => by
    obtain ⟨a1, a2⟩ := List.pairwise_cons.mp pa
    obtain ⟨b1, b2⟩ := List.pairwise_cons.mp pb
    have e : x = y := by
      rcases List.mem_cons.mp ((h x).mp (List.mem_cons_self ..)) with e | hx
      · exact e
      · rcases List.mem_cons.mp ((h y).mpr (List.mem_cons_self ..)) with e | hy
        · exact e.symm
        · exact absurd (b1 x hx) (as x y (a1 y hy))
    subst e
    rw [asc_uniq ir as a2 b2 fun z => ?_]
    constructor
    · intro hz
      rcases List.mem_cons.mp ((h z).mp (List.mem_cons_of_mem _ hz)) with rfl | hz2
      · exact absurd (a1 z hz) (ir z)
      · exact hz2
    · intro hz
      rcases List.mem_cons.mp ((h z).mpr (List.mem_cons_of_mem _ hz)) with rfl | hz2
      · exact absurd (b1 z hz) (ir z)
      · exact hz2
theorem ltI_tr (a b c : Int) (h1 : ltI a b = true) (h2 : ltI b c = true) : ltI a c = true := by
  unfold ltI at *
  simp only [decide_eq_true_eq] at *
  omega
theorem ltS_tr (a b c : Str) (h1 : ltS a b = true) (h2 : ltS b c = true) : ltS a c = true := by
  unfold ltS at *
  simp only [decide_eq_true_eq] at *
  exact List.lt_trans h1 h2
theorem ltS_ir (a : Str) : ¬ ltS a a = true := by
  unfold ltS
  simp only [decide_eq_true_eq]
  exact List.lt_irrefl _
theorem asc_sortI {ns ys : List Int} (h : ys.Pairwise (· < ·)) (m : ∀ x, x ∈ ys ↔ x ∈ ns) : decide (ns = ys) = ascB ltI ns := by
  have key : ∀ zs : List Int, ascB ltI zs = true ↔ zs.Pairwise (· < ·) := fun zs => (ascB_iff ltI_tr zs).trans (by unfold ltI; simp only [decide_eq_true_eq])
  rw [Bool.eq_iff_iff, decide_eq_true_eq, key]
  constructor
  · rintro rfl
    exact h
  · intro h2
    exact asc_uniq (fun a => by omega) (fun a b z => by omega) h2 h fun x => (m x).symm
theorem le_cps {a b : Str} (h : ¬ a.cps.toList < b.cps.toList) (ne : a ≠ b) : b.cps.toList < a.cps.toList := by
  by_cases z : b.cps.toList < a.cps.toList
  · exact z
  · exact absurd (List.le_antisymm (List.not_lt.mp z) (List.not_lt.mp h)) fun e => ne (by
      cases a
      cases b
      have := Array.toList_inj.mp e
      simp_all)
theorem rising_pw : ∀ (l : List Str) (p : Str), risingS p l = true → (p :: l).Nodup → (p :: l).Pairwise fun a b => ltS a b = true
  | [], p, _, _ => by simp
  | x :: l, p, h, nd => by
    have h2 : (!ltCps x.cps.toList p.cps.toList && risingS x l) = true := h
    rw [Bool.and_eq_true] at h2
    obtain ⟨n1, n2⟩ := List.nodup_cons.mp nd
    have ih := rising_pw l x h2.2 n2
    have lt : ltS p x = true := by
      unfold ltS
      rw [decide_eq_true_eq]
      have z := h2.1
      rw [ltCps_eq] at z
      simp only [Bool.not_eq_true', decide_eq_false_iff_not] at z
      exact le_cps z fun e => n1 (by rw [← e]; exact List.mem_cons_self ..)
    refine List.pairwise_cons.mpr ⟨fun y hy => ?_, ih⟩
    rcases List.mem_cons.mp hy with rfl | hy
    · exact lt
    · exact ltS_tr _ _ _ lt ((List.pairwise_cons.mp ih).1 y hy)
theorem sorted_pw : ∀ {l : List Str}, sortedS l = true → l.Nodup → l.Pairwise fun a b => ltS a b = true
  | [], _, _ => .nil
  | x :: l, h, nd => rising_pw l x h nd
theorem asc_sortS {zs ys : List Str} (h : sortedS ys = true) (nd : ys.Nodup) (m : ∀ x, x ∈ ys ↔ x ∈ zs) : decide (zs = ys) = ascB ltS zs := by
  have pw := sorted_pw h nd
  rw [Bool.eq_iff_iff, decide_eq_true_eq, ascB_iff ltS_tr]
  constructor
  · rintro rfl
    exact pw
  · intro h2
    exact asc_uniq (r := fun a b => ltS a b = true) ltS_ir (fun a b z1 z2 => ltS_ir a (ltS_tr a b a z1 z2)) h2 pw fun x => (m x).symm
theorem cut1 (ds : List PyData) : DL.cutD ds (some 1) none = ds.drop 1 := by
  have e1 := HT.sIx_nat ds.length 0 1
  have e2 := HT.sIx_none ds.length ds.length
  have e3 : HT.sIx ds.length 0 (some 1) = min 1 ds.length := e1
  unfold DL.cutD
  rw [e2, e3]
  cases ds with
  | nil => rfl
  | cons d ds =>
    rw [List.length_cons, Nat.min_eq_left (by omega)]
    show List.take (ds.length + 1 - 1) ds = ds
    rw [Nat.add_sub_cancel, List.take_length]
theorem zip_str (zs ys : List Str) : zipD (zs.map .str) (ys.map .str) = (zs.zip ys).map fun p => .tuple [.str p.1, .str p.2] := by
  unfold zipD
  rw [List.zip_map, List.map_map]
  rfl
theorem zip_int (zs ys : List Int) : zipD (zs.map .int) (ys.map .int) = (zs.zip ys).map fun p => .tuple [.int p.1, .int p.2] := by
  unfold zipD
  rw [List.zip_map, List.map_map]
  rfl
theorem one_lt (a b : Nat) : ([a] < [b]) ↔ a < b := by
  simp [List.cons_lt_cons_iff]
theorem le_a (c : Nat) : (!decide ((chS c).cps.toList < ("a" : Str).cps.toList)) = decide (97 ≤ c) := by
  have e : ("a" : Str).cps.toList = [97] := by decide +kernel
  rw [e, Bool.eq_iff_iff]
  show (!decide ([c] < [97])) = true ↔ _
  simp only [one_lt, Bool.not_eq_true', decide_eq_false_iff_not, decide_eq_true_eq]
  omega
theorem le_z (c : Nat) : (!decide (("z" : Str).cps.toList < (chS c).cps.toList)) = decide (c ≤ 122) := by
  have e : ("z" : Str).cps.toList = [122] := by decide +kernel
  rw [e, Bool.eq_iff_iff]
  show (!decide ([122] < [c])) = true ↔ _
  simp only [one_lt, Bool.not_eq_true', decide_eq_false_iff_not, decide_eq_true_eq]
  omega
theorem len_one {z : Str} (h : z.length = 1) : ∃ c, z = chS c := by
  cases z with
  | mk cps =>
    have h : cps.size = 1 := h
    refine ⟨cps[0], ?_⟩
    unfold chS
    congr 1
    apply Array.ext
    · simp [h]
    · intro i h1 h2
      have : i = 0 := by omega
      subst this
      rfl
theorem let_len {z : Str} (h : ¬ z.length = 1) : isLetD (.str z) = false := by
  unfold isLetD
  dsimp only
  have e : z.cps.toList.length = z.length := Array.length_toList
  split
  · rename_i c q
    rw [q] at e
    exact absurd e.symm h
  · rfl
theorem wt_str {z : Str} (h : wt (.str z) ≤ HV) : z.length ≤ HV := by
  rw [wt] at h
  omega
theorem tup2 {d : PyData} (h : isTupD d 2 2 = true) : ∃ x y, d = .tuple [x, y] := by
  cases d <;> first | (simp [isTupD] at h; done) | skip
  rename_i ds
  simp only [isTupD, Bool.and_eq_true, decide_eq_true_eq] at h
  match ds, h with
  | [x, y], _ => exact ⟨x, y, rfl⟩
  | [], h => simp at h
  | [_], h => simp at h
  | _ :: _ :: _ :: _, h => simp at h; omega
theorem step_no {d : PyData} {s : Int} (h : isTupD d 2 2 = false) : isStepD d s = false := by
  unfold isStepD
  split
  · simp [isTupD] at h
  · rfl
theorem tup_len {d : PyData} {a b : Nat} (h : isTupD d (a : Nat) (b : Nat) = true) : ∃ ds, d = .tuple ds ∧ a ≤ ds.length ∧ ds.length ≤ b := by
  cases d <;> first | (simp [isTupD] at h; done) | skip
  rename_i ds
  simp only [isTupD, Bool.and_eq_true, decide_eq_true_eq] at h
  exact ⟨ds, rfl, by omega, by omega⟩
theorem row_no {d : PyData} {s : Int} (h : isTupD d 1 6 = false) : isRowD d s = false := by
  cases d <;> first | rfl | skip
  rename_i ds
  simp only [isTupD, Bool.and_eq_false_iff, decide_eq_false_iff_not] at h
  simp only [isRowD, Bool.and_eq_false_iff, decide_eq_false_iff_not]
  omega
theorem row_yes {ds : List PyData} {s : Int} (h1 : 1 ≤ ds.length) (h2 : ds.length ≤ 6) : isRowD (.tuple ds) s = (ds.all (isStepD · s) && ascB ltS (lettersOf ds)) := by
  unfold isRowD
  dsimp only
  rw [decide_eq_true h1, decide_eq_true h2]
  rfl
theorem eqv_strs : ∀ a b : List Str, PyData.eqvAll (a.map PyData.str) (b.map PyData.str) = decide (a = b)
  | [], [] => rfl
  | [], _ :: _ => by simp [PyData.eqvAll]
  | _ :: _, [] => by simp [PyData.eqvAll]
  | x :: a, y :: b => by
    rw [List.map_cons, List.map_cons]
    show (PyData.eqv (.str x) (.str y) && PyData.eqvAll (a.map PyData.str) (b.map PyData.str)) = _
    rw [eqv_strs a b]
    have e : PyData.eqv (.str x) (.str y) = decide (x = y) := rfl
    rw [e]
    by_cases h1 : x = y
    · by_cases h2 : a = b
      · simp [h1, h2]
      · simp [h1, h2]
    · simp [h1]
theorem eqv_lstr (a b : List Str) : PyData.eqv (.list (a.map .str)) (.list (b.map .str)) = decide (a = b) := eqv_strs a b
theorem let_lay {z : Str} (h : isLetD (.str z) = true) : (PyData.str z).canLay0 = true := by
  obtain ⟨c, e, h1, h2⟩ := let_str h
  cases e
  show (chS c).cps.all (· < 0x110000) = true
  rw [Array.all_eq_true']
  intro x hx
  have : x = c := by simpa [chS] using hx
  rw [this]
  exact decide_eq_true (by omega)
theorem lay_lets : ∀ {zs : List Str}, (∀ z ∈ zs, isLetD (.str z) = true) → PyData.canLayAll0 (zs.map PyData.str) = true
  | [], _ => rfl
  | z :: zs, h => by
    rw [List.map_cons]
    show ((PyData.str z).canLay0 && _) = true
    rw [let_lay (h z (List.mem_cons_self ..)), lay_lets fun y hy => h y (List.mem_cons_of_mem _ hy)]
    rfl
theorem depth_strs : ∀ zs : List Str, PyData.depthAll (zs.map PyData.str) = 0
  | [] => rfl
  | z :: zs => by
    rw [List.map_cons]
    show max (PyData.depth (.str z)) (PyData.depthAll _) = 0
    rw [depth_strs zs]
    rfl
theorem shaped_lets {zs : List Str} (h : ∀ z ∈ zs, isLetD (.str z) = true) : SeqAt.shaped (.list (zs.map .str)) = true := by
  show (PyData.canLayAll0 (zs.map PyData.str) && decide (PyData.depthAll (zs.map PyData.str) + 1 ≤ 64)) = true
  rw [lay_lets h, depth_strs]
  rfl
/-- a row that is one -/
structure RowOf (s : Int) (r : PyData) (rs : List (Str × Int)) : Prop where
  eq : r = .tuple (rs.map lmD)
  pos : 1 ≤ rs.length
  few : rs.length ≤ 6
  lets : lettersR r = rs.map (·.1)
  ok : ∀ p ∈ rs, isLetD (.str p.1) = true ∧ 0 ≤ p.2 ∧ p.2 ≤ s - 1
  asc : ascB ltS (rs.map (·.1)) = true
theorem RowOf.isLet {s : Int} {r : PyData} {rs : List (Str × Int)} (h : RowOf s r rs) : ∀ z ∈ rs.map (·.1), isLetD (.str z) = true := fun z hz => by
  obtain ⟨p, hp, rfl⟩ := List.mem_map.mp hz
  exact (h.ok p hp).1
theorem row_of {r : PyData} {s : Int} (h : isRowD r s = true) : ∃ rs, RowOf s r rs := by
  cases r <;> first | (simp [isRowD] at h; done) | skip
  rename_i ds
  simp only [isRowD, Bool.and_eq_true, decide_eq_true_eq] at h
  obtain ⟨⟨h1, h2⟩, h3, h4⟩ := h
  obtain ⟨rs, rfl, m, e⟩ := steps_lm h3
  rw [List.length_map] at h1 h2
  rw [e] at h4
  exact ⟨rs, rfl, h1, h2, e, m, h4⟩
theorem wish_no1 {d : PyData} (h : isTupD d 2 2 = false) : isWishD d = false := by
  unfold isWishD
  split
  · simp [isTupD] at h
  · rfl
theorem wish_no2 {x y : PyData} (h : isTupD x 1 6 = false) : isWishD (.tuple [x, y]) = false := by
  cases x <;> first | rfl | skip
  rename_i ds
  simp only [isTupD, Bool.and_eq_false_iff, decide_eq_false_iff_not] at h
  simp only [isWishD, Bool.and_eq_false_iff, decide_eq_false_iff_not]
  omega
theorem wish_yes {rows : List PyData} {y : PyData} (h1 : 1 ≤ rows.length) (h2 : rows.length ≤ 6) : isWishD (.tuple [.tuple rows, y]) = ((rows.all fun r => isRowD r (rows.length : Nat)) && ((rows.all fun r => decide (lettersR r = lettersR (rows.headD .none))) && ascBelowD y (rows.length : Nat))) := by
  unfold isWishD
  dsimp only
  rw [decide_eq_true h1, decide_eq_true h2]
  rfl
theorem head_at {ds : List PyData} (h : 1 ≤ ds.length) : ds[0]? = some (ds.headD .none) := by
  cases ds with
  | nil => simp at h
  | cons d ds => rfl
def abcS : Str := "abcdefghijklmnopqrstuvwxyz"
theorem abc_list : abcS.cps.toList = (List.range 26).map (97 + ·) := by decide +kernel
theorem abc_mem (c : Nat) : decide (c ∈ abcS.cps.toList) = (decide (97 ≤ c) && decide (c ≤ 122)) := by
  rw [abc_list, Bool.eq_iff_iff, decide_eq_true_eq, List.mem_map, Bool.and_eq_true, decide_eq_true_eq, decide_eq_true_eq]
  constructor
  · rintro ⟨i, hi, rfl⟩
    have := List.mem_range.mp hi
    omega
  · rintro ⟨h1, h2⟩
    exact ⟨c - 97, List.mem_range.mpr (by omega), by omega⟩
theorem wish_no3 {x y : PyData} (h : y.isTuple = false) : isWishD (.tuple [x, y]) = false := by
  have e : ∀ b, ascBelowD y b = false := fun b => by
    cases y <;> first | rfl | (cases h; done)
  cases x <;> first | rfl | skip
  simp [isWishD, e]
theorem wish_no4 {d : PyData} (h : d.isTuple = false) : isWishD d = false := by
  cases d <;> first | rfl | (cases h; done)
theorem wish_no5 {ds : List PyData} (h : ¬ ds.length = 2) : isWishD (.tuple ds) = false := by
  unfold isWishD
  split
  · rename_i e
    cases e
    simp at h
  · rfl
theorem wish_no6 {x y : PyData} (h : x.isTuple = false) : isWishD (.tuple [x, y]) = false := by
  cases x <;> first | rfl | (cases h; done)
theorem wish_no7 {rows : List PyData} {y : PyData} (h : ¬ (1 ≤ rows.length ∧ rows.length ≤ 6)) : isWishD (.tuple [.tuple rows, y]) = false := by
  simp only [isWishD, Bool.and_eq_false_iff, decide_eq_false_iff_not]
  omega
theorem is_tup {d : PyData} (h : d.isTuple = true) : ∃ ds, d = .tuple ds := by
  cases d <;> first | (cases h; done) | exact ⟨_, rfl⟩
theorem two_of {α : Type} {ds : List α} (h : ds.length = 2) : ∃ x y, ds = [x, y] := by
  match ds, h with
  | [x, y], _ => exact ⟨x, y, rfl⟩
/-! the law's own reading -/
/-- a row, told item by item, breaks off at the first bad one -/
theorem within_le {a x b : Int} : (if decide (a ≤ x) = true then decide (x ≤ b) else false) = (decide (a ≤ x) && decide (x ≤ b)) := by
  cases decide (a ≤ x) <;> rfl
theorem rows_ex {s : Int} : ∀ {rows : List PyData}, (∀ r ∈ rows, isRowD r s = true) → ∃ rss : List (List (Str × Int)), rows = rss.map fun rs => .tuple (rs.map lmD)
  | [], _ => ⟨[], rfl⟩
  | r :: rows, h => by
    obtain ⟨rs, ok⟩ := row_of (h r (List.mem_cons_self ..))
    obtain ⟨rss, e⟩ := rows_ex fun y hy => h y (List.mem_cons_of_mem _ hy)
    exact ⟨rs :: rss, by rw [List.map_cons, ← e, ok.eq]⟩
/-- a row of steps, its letters not asked to ascend -/
def isRow0 (d : PyData) (s : Int) : Bool := match d with
  | .tuple ds => (decide (1 ≤ ds.length) && decide (ds.length ≤ 6)) && ds.all (isStepD · s)
  | _ => false
theorem row0 (d : PyData) (s : Int) : isRowD d s = (isRow0 d s && ascB ltS (lettersR d)) := by
  cases d <;> first | rfl | skip
  rename_i ds
  unfold isRowD isRow0 lettersR
  dsimp only
  simp only [Bool.and_assoc]
theorem row0_of {r : PyData} {s : Int} (h : isRow0 r s = true) : ∃ rs : List (Str × Int), r = .tuple (rs.map lmD) ∧ 1 ≤ rs.length ∧ rs.length ≤ 6 ∧ lettersR r = rs.map (·.1) ∧ ∀ z ∈ rs.map (·.1), isLetD (.str z) = true := by
  cases r <;> first | (simp [isRow0] at h; done) | skip
  rename_i ds
  simp only [isRow0, Bool.and_eq_true, decide_eq_true_eq] at h
  obtain ⟨⟨h1, h2⟩, h3⟩ := h
  obtain ⟨rs, rfl, m, e⟩ := steps_lm h3
  rw [List.length_map] at h1 h2
  refine ⟨rs, rfl, h1, h2, e, fun z hz => ?_⟩
  obtain ⟨p, hp, rfl⟩ := List.mem_map.mp hz
  exact (m p hp).1
/-- the letters of the rows: all alike, and ascending -/
def letsOk (zss : List (List Str)) : Bool := zss.all fun zs => decide (zs = zss.headD []) && ascB ltS zs
theorem wish_split {rows : List PyData} {y : PyData} (h1 : 1 ≤ rows.length) (h2 : rows.length ≤ 6) (h0 : ∀ r ∈ rows, isRow0 r (rows.length : Nat) = true) :
    isWishD (.tuple [.tuple rows, y]) = (letsOk (rows.map lettersR) && ascBelowD y (rows.length : Nat)) := by
  rw [wish_yes h1 h2]
  have e1 : (rows.all fun r => isRowD r (rows.length : Nat)) = rows.all fun r => ascB ltS (lettersR r) := by
    rw [Bool.eq_iff_iff, List.all_eq_true, List.all_eq_true]
    constructor
    · intro h r hr
      have := h r hr
      rw [row0, h0 r hr, Bool.true_and] at this
      exact this
    · intro h r hr
      rw [row0, h0 r hr, Bool.true_and]
      exact h r hr
  have e2 : (rows.map lettersR).headD [] = lettersR (rows.headD .none) := by
    cases rows <;> rfl
  rw [e1, ← Bool.and_assoc]
  congr 1
  unfold letsOk
  rw [e2, List.all_map, Bool.eq_iff_iff, Bool.and_eq_true, List.all_eq_true, List.all_eq_true, List.all_eq_true]
  constructor
  · rintro ⟨a, b⟩ r hr
    show (decide _ && _) = true
    rw [Bool.and_eq_true]
    exact ⟨b r hr, a r hr⟩
  · intro h
    refine ⟨fun r hr => ?_, fun r hr => ?_⟩
    · have := h r hr
      rw [Function.comp, Bool.and_eq_true] at this
      exact this.2
    · have := h r hr
      rw [Function.comp, Bool.and_eq_true] at this
      exact this.1
theorem wish_bad {rows : List PyData} {y r : PyData} (hr : r ∈ rows) (h : isRow0 r (rows.length : Nat) = false) : isWishD (.tuple [.tuple rows, y]) = false := by
  have e : isRowD r (rows.length : Nat) = false := by rw [row0, h]; rfl
  have a : (rows.all fun r => isRowD r (rows.length : Nat)) = false := by
    rw [Bool.eq_false_iff]
    intro z
    have := List.all_eq_true.mp z r hr
    rw [e] at this
    cases this
  unfold isWishD
  dsimp only
  rw [a, Bool.false_and, Bool.and_false]
theorem row0_no1 {d : PyData} {s : Int} (h : d.isTuple = false) : isRow0 d s = false := by
  cases d <;> first | rfl | (cases h; done)
theorem row0_no2 {ds : List PyData} {s : Int} (h : ¬ (1 ≤ ds.length ∧ ds.length ≤ 6)) : isRow0 (.tuple ds) s = false := by
  simp only [isRow0, Bool.and_eq_false_iff, decide_eq_false_iff_not]
  omega
theorem row0_no3 {ds : List PyData} {s : Int} {x : PyData} (hx : x ∈ ds) (h : isStepD x s = false) : isRow0 (.tuple ds) s = false := by
  have a : (ds.all (isStepD · s)) = false := by
    rw [Bool.eq_false_iff]
    intro z
    have := List.all_eq_true.mp z x hx
    rw [h] at this
    cases this
  unfold isRow0
  dsimp only
  rw [a, Bool.and_false]
theorem step_no1 {d : PyData} {s : Int} (h : d.isTuple = false) : isStepD d s = false := by
  cases d <;> first | rfl | (cases h; done)
theorem step_no2 {ds : List PyData} {s : Int} (h : ¬ ds.length = 2) : isStepD (.tuple ds) s = false := by
  unfold isStepD
  split
  · rename_i e
    cases e
    simp at h
  · rfl
def lstS (zs : List Str) : PyData := .list (zs.map .str)
def strsD : PyData → List Str
  | .list ds => ds.filterMap fun d => match d with
    | .str z => some z
    | _ => none
  | _ => []
theorem strsD_lst (zs : List Str) : strsD (lstS zs) = zs := by
  unfold strsD lstS
  dsimp only
  induction zs with
  | nil => rfl
  | cons z zs ih =>
    rw [List.map_cons, List.filterMap_cons]
    dsimp only
    rw [ih]
theorem shaped_lst {zss : List (List Str)} (h : ∀ zs ∈ zss, ∀ z ∈ zs, isLetD (.str z) = true) : SeqAt.shaped (.list (zss.map lstS)) = true := by
  have a : ∀ zss : List (List Str), (∀ zs ∈ zss, ∀ z ∈ zs, isLetD (.str z) = true) → PyData.canLayAll0 (zss.map lstS) = true ∧ PyData.depthAll (zss.map lstS) ≤ 1 := by
    intro zss
    induction zss with
    | nil => intro _; exact ⟨rfl, Nat.zero_le _⟩
    | cons zs zss ih =>
      intro h
      obtain ⟨i1, i2⟩ := ih fun y hy => h y (List.mem_cons_of_mem _ hy)
      rw [List.map_cons]
      constructor
      · show ((lstS zs).canLay0 && _) = true
        rw [i1, Bool.and_true]
        exact lay_lets (h zs (List.mem_cons_self ..))
      · show max (PyData.depth (lstS zs)) (PyData.depthAll _) ≤ 1
        have : PyData.depth (lstS zs) = 1 := by
          show PyData.depthAll (zs.map PyData.str) + 1 = 1
          rw [depth_strs]
        omega
  obtain ⟨a1, a2⟩ := a zss h
  show (PyData.canLayAll0 (zss.map lstS) && decide (PyData.depthAll (zss.map lstS) + 1 ≤ 64)) = true
  rw [a1, decide_eq_true (by omega)]
  rfl
theorem eqv_nil (L : List PyData) : PyData.eqv (.list L) (.list []) = L.isEmpty := by
  show PyData.eqvAll L [] = _
  cases L with
  | nil => rfl
  | cons x L => simp [PyData.eqvAll]
/-- rows that are not as they should be -/
def badF (z0 : List Str) (d : PyData) : Option PyData := if (decide (strsD d = z0) && ascB ltS (strsD d)) = true then none else some d
theorem bad_none (zss : List (List Str)) : ((zss.map lstS).filterMap (badF (zss.headD []))).isEmpty = letsOk zss := by
  unfold letsOk
  generalize zss.headD [] = z0
  induction zss with
  | nil => rfl
  | cons zs zss ih =>
    rw [List.map_cons, List.filterMap_cons, List.all_cons]
    unfold badF
    rw [strsD_lst]
    cases q : (decide (zs = z0) && ascB ltS zs) with
    | true =>
      rw [if_pos rfl]
      exact ih
    | false => rfl
theorem bad_sub (z0 : List Str) : ∀ zss : List (List Str), ∃ yss : List (List Str), (zss.map lstS).filterMap (badF z0) = yss.map lstS ∧ ∀ ys ∈ yss, ys ∈ zss
  | [] => ⟨[], rfl, fun y h => h⟩
  | zs :: zss => by
    obtain ⟨yss, e, m⟩ := bad_sub z0 zss
    rw [List.map_cons, List.filterMap_cons, e]
    unfold badF
    split
    · rename_i q
      exact ⟨yss, rfl, fun y hy => List.mem_cons_of_mem _ (m y hy)⟩
    · rename_i b q
      split at q
      · cases q
      · cases q
        exact ⟨zs :: yss, rfl, fun y hy => (List.mem_cons.mp hy).elim (fun e => e ▸ List.mem_cons_self ..) fun h => List.mem_cons_of_mem _ (m y h)⟩
def farF (b : Int) (d : PyData) : Option PyData := if withinD d 0 b = true then none else some (.int 1)
theorem far_none (b : Int) : ∀ es : List PyData, ((es.filterMap (farF b)).isEmpty = es.all fun x => withinD x 0 b) ∧ ∃ ns : List Int, es.filterMap (farF b) = ns.map .int
  | [] => ⟨rfl, [], rfl⟩
  | e :: es => by
    obtain ⟨h1, ns, h2⟩ := far_none b es
    rw [List.filterMap_cons, List.all_cons]
    unfold farF at *
    cases q : withinD e 0 b with
    | true =>
      rw [if_pos rfl]
      exact ⟨by rw [Bool.true_and]; exact h1, ns, h2⟩
    | false =>
      rw [if_neg (by decide)]
      dsimp only
      exact ⟨rfl, 1 :: ns, by rw [h2, List.map_cons]⟩
theorem shaped_tupI (ns : List Int) : SeqAt.shaped (.tuple (ns.map .int)) = true := shaped_ints ns
theorem idT_mem {k : Nat} {x : Int} : x ∈ idT k ↔ 0 ≤ x ∧ x < k := by
  unfold idT
  rw [List.mem_map]
  constructor
  · rintro ⟨i, hi, rfl⟩
    have := List.mem_range.mp hi
    omega
  · rintro ⟨h0, h1⟩
    exact ⟨x.toNat, List.mem_range.mpr (by omega), by omega⟩
/-! wishes -/
def rwD (rs : List (Str × Int)) : PyData := .tuple (rs.map lmD)
def wishD (rows : List (List (Str × Int))) (ends : List Int) : PyData := .tuple [.tuple (rows.map rwD), .tuple (ends.map .int)]
def runW (rows : List (List (Str × Int))) (cs : List Nat) (x : Int) : Int := cs.foldl (fun x c => lukM (rows.getD x.toNat []) (chS c)) x
structure Wk (s : Nat) (rows : List (List (Str × Int))) (ls : List Str) : Prop where
  len : rows.length = s
  pos : 1 ≤ s
  few : s ≤ 6
  lets : ∀ rs ∈ rows, Lets s rs
  same : ∀ rs ∈ rows, rs.map (·.1) = ls
section
variable {s : Nat} {rows : List (List (Str × Int))} {ls : List Str} (W : Wk s rows ls)
include W
theorem Wk.at_ {x : Int} (x0 : 0 ≤ x) (x1 : x < s) : rows[x.toNat]? = some (rows.getD x.toNat []) ∧ rows.getD x.toNat [] ∈ rows := by
  have h : x.toNat < rows.length := by rw [W.len]; omega
  have e : rows.getD x.toNat [] = rows[x.toNat] := by rw [List.getD_eq_getElem?_getD, List.getElem?_eq_getElem h]; rfl
  rw [e]
  exact ⟨List.getElem?_eq_getElem h, List.getElem_mem h⟩
theorem Wk.step {x : Int} {c : Nat} (x0 : 0 ≤ x) (x1 : x < s) (hc : chS c ∈ ls) :
    lukS ((rows.getD x.toNat []).map fun p => (p.1, .int p.2)) (chS c) = some (.int (lukM (rows.getD x.toNat []) (chS c))) ∧ 0 ≤ lukM (rows.getD x.toNat []) (chS c) ∧ lukM (rows.getD x.toNat []) (chS c) < s := by
  have m := (W.at_ x0 x1).2
  exact luk_mem (W.lets _ m) (by rw [W.same _ m]; exact hc)
theorem Wk.run : ∀ {cs : List Nat} {x : Int}, (∀ c ∈ cs, chS c ∈ ls) → 0 ≤ x → x < s → 0 ≤ runW rows cs x ∧ runW rows cs x < s
  | [], x, _, x0, x1 => ⟨x0, x1⟩
  | c :: cs, x, h, x0, x1 => by
    have st := (W.step x0 x1 (h c (List.mem_cons_self ..))).2
    exact Wk.run (cs := cs) (fun d hd => h d (List.mem_cons_of_mem _ hd)) st.1 st.2
end
theorem runW_snoc (rows : List (List (Str × Int))) (cs : List Nat) (c : Nat) (x : Int) : runW rows (cs ++ [c]) x = lukM (rows.getD (runW rows cs x).toNat []) (chS c) := by
  unfold runW
  rw [List.foldl_append]
  rfl
def dcR (rs : List (Str × Int)) : PyData := spD (rs.map fun p => (p.1, .int p.2))
theorem dc_seq {s : Nat} {rs : List (Str × Int)} (hl : Lets s rs) : seqD (.dat (rwD rs)) = some ((rs.map (fun p => (p.1, PyData.int p.2))).map fun p => PyData.tuple [.str p.1, p.2]) ∧ ((rs.map (fun p => (p.1, PyData.int p.2))).map (·.1)).Nodup := by
  refine ⟨?_, ?_⟩
  · show some (rs.map lmD) = _
    rw [List.map_map]
    rfl
  · rw [List.map_map]
    exact hl.nd
def notE (s : Nat) (ends : List Int) : List Int := (idT s).filter fun x => !decide (x ∈ ends)
theorem fm_filter {α β : Type} {g : α → β} {f : β → Option β} {p : α → Bool} (h : ∀ x, f (g x) = if p x = true then some (g x) else none) : ∀ xs : List α, (xs.map g).filterMap f = (xs.filter p).map g
  | [] => rfl
  | x :: xs => by
    rw [List.map_cons, List.filterMap_cons, h x, List.filter_cons, fm_filter h xs]
    by_cases q : p x = true
    · rw [if_pos q, if_pos q]
      rfl
    · rw [if_neg q, if_neg q]
theorem rng_idT (n : Nat) : rngD 0 n = (idT n).map .int := by
  unfold rngD idT
  rw [List.map_map]
  refine List.map_congr_left fun i _ => ?_
  show PyData.int (0 + (i : Nat)) = .int (i : Nat)
  rw [Int.zero_add]
/-! values made otherwise -/
def okB (d : PyData) : Bool := okInts d && (decide (wt d ≤ 400) && decide (d.depth ≤ 4))
structure Gd (m k : Nat) (d : PyData) : Prop where
  num : okInts d = true
  wt : wt d ≤ m
  deep : d.depth ≤ k
theorem ok_all : ∀ {ds : List PyData}, (∀ d ∈ ds, okInts d = true) → okAll ds = true
  | [], _ => rfl
  | d :: ds, h => by simp [okAll, h d (List.mem_cons_self ..), ok_all fun y hy => h y (List.mem_cons_of_mem _ hy)]
theorem depth_all {k : Nat} : ∀ {ds : List PyData}, (∀ d ∈ ds, d.depth ≤ k) → PyData.depthAll ds ≤ k
  | [], _ => Nat.zero_le _
  | d :: ds, h => by
    have h1 := h d (List.mem_cons_self ..)
    have h2 := depth_all fun y hy => h y (List.mem_cons_of_mem _ hy)
    simp only [PyData.depthAll]
    omega
theorem depth_mem {d : PyData} : ∀ {ds : List PyData}, d ∈ ds → d.depth ≤ PyData.depthAll ds
  | x :: ds, h => by
    simp only [PyData.depthAll]
    rcases List.mem_cons.mp h with rfl | h
    · omega
    · have := depth_mem h
      omega
theorem depth_tup (ds : List PyData) : (PyData.tuple ds).depth = PyData.depthAll ds + 1 := by simp only [PyData.depth]
theorem gd_tup {m k : Nat} {ds : List PyData} (h1 : ∀ d ∈ ds, okInts d = true) (h2 : wtAll ds + 3 ≤ m) (h3 : ∀ d ∈ ds, d.depth + 1 ≤ k) (h0 : 1 ≤ k) : Gd m k (.tuple ds) := by
  refine ⟨by simp [okInts, ok_all h1], by rw [wt_tup]; omega, ?_⟩
  have := depth_all (k := k - 1) fun d hd => by have := h3 d hd; omega
  rw [depth_tup]
  omega
theorem gd_lst {m k : Nat} {ds : List PyData} (h1 : ∀ d ∈ ds, okInts d = true) (h2 : wtAll ds + 2 ≤ m) (h3 : ∀ d ∈ ds, d.depth + 1 ≤ k) (h0 : 1 ≤ k) : Gd m k (.list ds) := by
  refine ⟨by simp [okInts, ok_all h1], by rw [wt_lst]; omega, ?_⟩
  have := depth_all (k := k - 1) fun d hd => by have := h3 d hd; omega
  simp only [PyData.depth]
  omega
theorem gd_ok {d : PyData} (h : okB d = true) {m k : Nat} (hm : 400 ≤ m) (hk : 4 ≤ k) : Gd m k d := by
  unfold okB at h
  simp only [Bool.and_eq_true, decide_eq_true_eq] at h
  exact ⟨h.1, by omega, by omega⟩
mutual
def plB : PyData → Bool
  | .int i => decide (i.natAbs < 100)
  | .str z => isLetD (.str z)
  | .tuple ds => plAll ds
  | .none => false
  | .bool _ => false
  | .list _ => false
  | .dict _ => false
def plAll : List PyData → Bool
  | [] => true
  | d :: ds => plB d && plAll ds
end
theorem plAll_mem {d : PyData} : ∀ {ds : List PyData}, plAll ds = true → d ∈ ds → plB d = true
  | x :: ds, h, hd => by
    rw [plAll, Bool.and_eq_true] at h
    rcases List.mem_cons.mp hd with rfl | hd
    · exact h.1
    · exact plAll_mem h.2 hd
theorem plAll_of : ∀ {ds : List PyData}, (∀ d ∈ ds, plB d = true) → plAll ds = true
  | [], _ => by rw [plAll]
  | d :: ds, h => by rw [plAll, h d (List.mem_cons_self ..), plAll_of fun y hy => h y (List.mem_cons_of_mem _ hy)]; rfl
mutual
theorem pl_ok : ∀ {d : PyData}, plB d = true → okInts d = true ∧ d.canLay0 = true
  | .int i, h => by
    rw [plB, decide_eq_true_eq] at h
    have : i.natAbs < 10 ^ 4300 := Nat.lt_of_lt_of_le h (Nat.le_trans (show 100 ≤ 10 ^ 2 by decide) (Nat.pow_le_pow_right (by decide) (by decide)))
    exact ⟨by simp [okInts, this], rfl⟩
  | .str z, h => by
    rw [plB] at h
    exact ⟨rfl, let_lay h⟩
  | .tuple ds, h => by
    rw [plB] at h
    have := pl_okAll h
    exact ⟨by simp [okInts, this.1], by simp [PyData.canLay0, this.2]⟩
  | .none, h => by rw [plB] at h; cases h
  | .bool _, h => by rw [plB] at h; cases h
  | .list _, h => by rw [plB] at h; cases h
  | .dict _, h => by rw [plB] at h; cases h
theorem pl_okAll : ∀ {ds : List PyData}, plAll ds = true → okAll ds = true ∧ PyData.canLayAll0 ds = true
  | [], _ => ⟨rfl, rfl⟩
  | d :: ds, h => by
    rw [plAll, Bool.and_eq_true] at h
    have h1 := pl_ok h.1
    have h2 := pl_okAll h.2
    exact ⟨by simp [okAll, h1.1, h2.1], by simp [PyData.canLayAll0, h1.2, h2.2]⟩
end
theorem pl_shaped {d : PyData} (h : plB d = true) (hd : d.depth ≤ 4) : SeqAt.shaped d = true := by
  unfold SeqAt.shaped
  rw [(pl_ok h).2, decide_eq_true (by omega)]
  rfl
theorem wt_int {i : Int} {k : Nat} (h : i.natAbs < 10 ^ k) (hk : 1 ≤ k) : wt (.int i) ≤ k + 1 := by
  rw [wt]
  show (Str.ofString (toString i)).length ≤ _
  rw [PySem.ofString_length]
  exact int_text_length_le10 hk h
theorem gd_int {i : Int} (h : i.natAbs < 10 ^ 10) {m k : Nat} (hm : 400 ≤ m) : Gd m k (.int i) := by
  have lt : i.natAbs < 10 ^ 4300 := Nat.lt_of_lt_of_le h (Nat.pow_le_pow_right (by decide) (by decide))
  refine ⟨by simp [okInts, lt], ?_, Nat.zero_le _⟩
  have := wt_int h (by decide)
  omega
theorem gd_bool (b : Bool) {m k : Nat} (hm : 400 ≤ m) (hk : 4 ≤ k) : Gd m k (.bool b) := gd_ok (by cases b <;> decide +kernel) hm hk
theorem strs_ok : ((List.range 199).all fun k => okB (.str (Str.ofString (toString ((k : Int) - 99))))) = true := by decide +kernel
theorem gd_strI {i : Int} (h : i.natAbs < 100) {m k : Nat} (hm : 400 ≤ m) (hk : 4 ≤ k) : Gd m k (.str (Str.ofString (toString i))) := by
  have := List.all_eq_true.mp strs_ok (i + 99).toNat (List.mem_range.mpr (by omega))
  rw [show (((i + 99).toNat : Nat) : Int) - 99 = i by omega] at this
  exact gd_ok this hm hk
theorem cut_to (ds : List PyData) {n : Nat} (h : n ≤ ds.length) : DL.cutD ds none (some (n : Int)) = ds.take n := by
  have e1 := HT.sIx_nat ds.length ds.length n
  have e2 := HT.sIx_none ds.length 0
  unfold DL.cutD
  rw [e1, e2, Nat.min_eq_left h, List.drop_zero, Nat.sub_zero]
theorem cut_from (ds : List PyData) {n : Nat} (h : n ≤ ds.length) : DL.cutD ds (some (n : Int)) none = ds.drop n := by
  have e1 := HT.sIx_nat ds.length 0 n
  have e2 := HT.sIx_none ds.length ds.length
  unfold DL.cutD
  rw [e1, e2, Nat.min_eq_left h, List.take_of_length_le]
  rw [List.length_drop]
  exact Nat.le_refl _
theorem wtAll_rev : ∀ ds : List PyData, wtAll ds.reverse = wtAll ds
  | [] => rfl
  | d :: ds => by
    rw [List.reverse_cons, wtAll_app, wtAll_rev ds, wtAll, wtAll, wtAll]
    omega
theorem wt_split {ds : List PyData} {n : Nat} {x : PyData} (h : ds[n]? = some x) : wtAll ds = wtAll (ds.take n) + (wt x + 2) + wtAll (ds.drop (n + 1)) := by
  have hn := (List.getElem?_eq_some_iff.mp h).1
  have e : ds = ds.take n ++ (x :: ds.drop (n + 1)) := by
    rw [← (List.getElem?_eq_some_iff.mp h).2, ← List.drop_eq_getElem_cons hn, List.take_append_drop]
  have := congrArg wtAll e
  rw [wtAll_app, wtAll] at this
  omega
/-! drawn wishes -/
structure WishOk (s : Nat) (rows : List (List (Str × Int))) (ends : List Int) (zs : List Str) : Prop where
  len : rows.length = s
  pos : 1 ≤ s
  few : s ≤ 6
  row : ∀ rs ∈ rows, rs.map (·.1) = zs ∧ ∀ p ∈ rs, 0 ≤ p.2 ∧ p.2 < s
  asc : ends.Pairwise (· < ·)
  rng : ∀ x ∈ ends, 0 ≤ x ∧ x < (s : Int)
theorem idT_asc (k : Nat) : (idT k).Pairwise (· < ·) := by
  unfold idT
  rw [List.pairwise_map]
  exact (List.pairwise_lt_range (n := k)).imp fun z => by omega
theorem ascI_iff (zs : List Int) : ascB ltI zs = true ↔ zs.Pairwise (· < ·) := (ascB_iff ltI_tr zs).trans (by unfold ltI; simp only [decide_eq_true_eq])
theorem WishOk.notT {s : Nat} {rows : List (List (Str × Int))} {ends : List Int} {zs : List Str} (h : WishOk s rows ends zs) : WishOk s rows (notE s ends) zs :=
  ⟨h.len, h.pos, h.few, h.row, (idT_asc s).filter _, fun x hx => idT_mem.mp (List.mem_filter.mp hx).1⟩
theorem not_mem {s : Nat} {ends : List Int} {x : Int} (x0 : 0 ≤ x) (x1 : x < s) : decide (x ∈ notE s ends) = !decide (x ∈ ends) := by
  unfold notE
  rw [Bool.eq_iff_iff, decide_eq_true_eq, List.mem_filter, idT_mem]
  simp [x0, x1]
theorem wish_true {s : Nat} {rows : List (List (Str × Int))} {ends : List Int} {zs : List Str} (h : WishOk s rows ends zs) (ha : ascB ltS zs = true) (z1 : 1 ≤ zs.length) (z6 : zs.length ≤ 6) (hz : ∀ z ∈ zs, isLetD (.str z) = true) : isWishD (wishD rows ends) = true := by
  have hl := h.len
  have hp := h.pos
  have hf := h.few
  unfold wishD
  rw [wish_yes (by rw [List.length_map]; omega) (by rw [List.length_map]; omega), List.length_map, hl]
  have steps : ∀ rs ∈ rows, (rs.map lmD).all (isStepD · (s : Nat)) = true ∧ lettersOf (rs.map lmD) = zs := fun rs hrs => by
    obtain ⟨e, v⟩ := h.row rs hrs
    constructor
    · rw [List.all_eq_true]
      intro d hd
      obtain ⟨p, hp', rfl⟩ := List.mem_map.mp hd
      have hl' : isLetD (.str p.1) = true := hz _ (by rw [← e]; exact List.mem_map.mpr ⟨p, hp', rfl⟩)
      have vp := v p hp'
      show (isLetD (.str p.1) && (decide (0 ≤ p.2) && decide (p.2 ≤ (s : Int) - 1))) = true
      rw [hl', decide_eq_true vp.1, decide_eq_true (by omega)]
      rfl
    · rw [← e]
      unfold lettersOf
      rw [List.filterMap_map]
      exact (List.filterMap_eq_map (f := fun p : Str × Int => p.1) ▸ rfl)
  rw [Bool.and_eq_true, Bool.and_eq_true]
  refine ⟨?_, ?_, ?_⟩
  · rw [List.all_eq_true]
    intro r hr
    obtain ⟨rs, hrs, rfl⟩ := List.mem_map.mp hr
    obtain ⟨a, b⟩ := steps rs hrs
    have lr : rs.length = zs.length := by rw [← (h.row rs hrs).1, List.length_map]
    unfold rwD
    rw [row_yes (by rw [List.length_map]; omega) (by rw [List.length_map]; omega), a, b, ha]
    rfl
  · rw [List.all_eq_true]
    intro r hr
    obtain ⟨rs, hrs, rfl⟩ := List.mem_map.mp hr
    rw [decide_eq_true_eq]
    have h0 : ∃ r0 ∈ rows, (rows.map rwD).headD .none = rwD r0 := by
      cases rows with
      | nil => rw [List.length_nil] at hl; omega
      | cons r0 _ => exact ⟨r0, List.mem_cons_self .., rfl⟩
    obtain ⟨r0, m0, e0⟩ := h0
    rw [e0]
    show lettersOf (rs.map lmD) = lettersOf (r0.map lmD)
    rw [(steps rs hrs).2, (steps r0 m0).2]
  · show (((ends.map PyData.int).all fun x => withinD x 0 ((s : Int) - 1)) && ascB ltI (intsD (ends.map .int))) = true
    rw [intsD_map, Bool.and_eq_true, ascI_iff]
    refine ⟨?_, h.asc⟩
    rw [List.all_eq_true]
    intro d hd
    obtain ⟨x, hx, rfl⟩ := List.mem_map.mp hd
    have := h.rng x hx
    show (decide (0 ≤ x) && decide (x ≤ (s : Int) - 1)) = true
    rw [decide_eq_true this.1, decide_eq_true (by omega)]
    rfl
theorem wtAll_le {m n : Nat} : ∀ {ds : List PyData}, (∀ d ∈ ds, wt d ≤ m) → ds.length ≤ n → wtAll ds ≤ n * (m + 2)
  | [], _, _ => by rw [wtAll]; exact Nat.zero_le _
  | d :: ds, h, hl => by
    rw [List.length_cons] at hl
    cases n with
    | zero => omega
    | succ n =>
      have h1 := h d (List.mem_cons_self ..)
      have h2 := wtAll_le (n := n) (fun y hy => h y (List.mem_cons_of_mem _ hy)) (by omega)
      rw [wtAll, Nat.succ_mul]
      omega
theorem chars_wt : ((List.range 26).all fun k => decide (wt (.str (chS (97 + k))) ≤ 5)) = true := by decide +kernel
theorem let_wt {z : Str} (h : isLetD (.str z) = true) : wt (.str z) ≤ 5 := by
  obtain ⟨c, e, h1, h2⟩ := let_str h
  cases e
  have := List.all_eq_true.mp chars_wt (c - 97) (List.mem_range.mpr (by omega))
  rw [decide_eq_true_eq, show 97 + (c - 97) = c by omega] at this
  exact this
theorem lm_wt {p : Str × Int} (hz : isLetD (.str p.1) = true) (h0 : 0 ≤ p.2) (h1 : p.2 < 10) : wt (lmD p) ≤ 14 ∧ plB (lmD p) = true ∧ (lmD p).depth ≤ 1 := by
  have w1 := let_wt hz
  have w2 : wt (.int p.2) ≤ 2 := wt_int (k := 1) (by omega) (by decide)
  refine ⟨?_, ?_, ?_⟩
  · unfold lmD
    rw [wt_tup, wtAll, wtAll, wtAll]
    omega
  · unfold lmD
    rw [plB, plAll, plAll, plAll, plB, plB, hz, decide_eq_true (by omega)]
    rfl
  · unfold lmD
    rw [depth_tup]
    have := depth_all (k := 0) (ds := [PyData.str p.1, .int p.2]) fun d hd => by
      simp only [List.mem_cons, List.not_mem_nil, or_false] at hd
      rcases hd with rfl | rfl <;> exact Nat.le_refl 0
    omega
theorem wish_wt {s : Nat} {rows : List (List (Str × Int))} {ends : List Int} {zs : List Str} (h : WishOk s rows ends zs) (z7 : zs.length ≤ 7) (hz : ∀ z ∈ zs, isLetD (.str z) = true) :
    wt (wishD rows ends) ≤ 1200 ∧ plB (wishD rows ends) = true ∧ (wishD rows ends).depth ≤ 4 := by
  have hl := h.len
  have hf := h.few
  have lm : ∀ rs ∈ rows, ∀ p ∈ rs, wt (lmD p) ≤ 14 ∧ plB (lmD p) = true ∧ (lmD p).depth ≤ 1 := fun rs hrs p hp => by
    obtain ⟨e, v⟩ := h.row rs hrs
    have vp := v p hp
    exact lm_wt (hz _ (by rw [← e]; exact List.mem_map.mpr ⟨p, hp, rfl⟩)) vp.1 (by omega)
  have rw_ : ∀ rs ∈ rows, wt (rwD rs) ≤ 115 ∧ plB (rwD rs) = true ∧ (rwD rs).depth ≤ 2 := fun rs hrs => by
    have lr : rs.length = zs.length := by rw [← (h.row rs hrs).1, List.length_map]
    unfold rwD
    refine ⟨?_, ?_, ?_⟩
    · have := wtAll_le (m := 14) (n := 7) (ds := rs.map lmD) (fun d hd => by
        obtain ⟨p, hp, rfl⟩ := List.mem_map.mp hd
        exact (lm rs hrs p hp).1) (by rw [List.length_map]; omega)
      rw [wt_tup]
      omega
    · rw [plB]
      exact plAll_of fun d hd => by
        obtain ⟨p, hp, rfl⟩ := List.mem_map.mp hd
        exact (lm rs hrs p hp).2.1
    · rw [depth_tup]
      have := depth_all (k := 1) (ds := rs.map lmD) fun d hd => by
        obtain ⟨p, hp, rfl⟩ := List.mem_map.mp hd
        exact (lm rs hrs p hp).2.2
      omega
  have el : ends.length ≤ 6 := Nat.le_trans (few_of (k := s) (h.asc.imp fun z e => by omega) h.rng) hf
  have e1 : ∀ d ∈ ends.map PyData.int, wt d ≤ 2 ∧ plB d = true ∧ d.depth ≤ 0 := fun d hd => by
    obtain ⟨x, hx, rfl⟩ := List.mem_map.mp hd
    have := h.rng x hx
    exact ⟨wt_int (k := 1) (by omega) (by decide), by rw [plB, decide_eq_true (by omega)], Nat.le_refl _⟩
  have r1 : ∀ d ∈ rows.map rwD, wt d ≤ 115 ∧ plB d = true ∧ d.depth ≤ 2 := fun d hd => by
    obtain ⟨rs, hrs, rfl⟩ := List.mem_map.mp hd
    exact rw_ rs hrs
  unfold wishD
  refine ⟨?_, ?_, ?_⟩
  · have a := wtAll_le (m := 115) (n := 6) (fun d hd => (r1 d hd).1) (by rw [List.length_map]; omega)
    have b := wtAll_le (m := 2) (n := 6) (fun d hd => (e1 d hd).1) (by rw [List.length_map]; omega)
    rw [wt_tup, wtAll, wtAll, wtAll, wt_tup, wt_tup]
    omega
  · rw [plB, plAll, plAll, plAll, plB, plB, plAll_of fun d hd => (r1 d hd).2.1, plAll_of fun d hd => (e1 d hd).2.1]
    rfl
  · rw [depth_tup]
    have a := depth_all (k := 2) fun d hd => (r1 d hd).2.2
    have b := depth_all (k := 0) fun d hd => (e1 d hd).2.2
    have c := depth_all (k := 3) (ds := [PyData.tuple (rows.map rwD), .tuple (ends.map .int)]) fun d hd => by
      simp only [List.mem_cons, List.not_mem_nil, or_false] at hd
      rcases hd with rfl | rfl
      · rw [depth_tup]
        omega
      · rw [depth_tup]
        omega
    omega
theorem gd_pl {d : PyData} {m k : Nat} (h : wt d ≤ m ∧ plB d = true ∧ d.depth ≤ k) : Gd m k d := ⟨(pl_ok h.2.1).1, h.1, h.2.2⟩
theorem Gd.mono {m k m' k' : Nat} {d : PyData} (h : Gd m k d) (hm : m ≤ m') (hk : k ≤ k') : Gd m' k' d := ⟨h.num, Nat.le_trans h.wt hm, Nat.le_trans h.deep hk⟩
theorem bg13 {ρ : List Sl} (h : ρ.length = 13 ∧ ρ[1]? = some .bag) : ∃ x0 x2 x3 x4 x5 x6 x7 x8 x9 x10 x11 x12, ρ = [x0, .bag, x2, x3, x4, x5, x6, x7, x8, x9, x10, x11, x12] := by
  obtain ⟨hl, hb⟩ := h
  obtain ⟨x0, r, rfl, h0⟩ := len_succ hl
  obtain ⟨x1, r, rfl, h1⟩ := len_succ h0
  obtain ⟨x2, r, rfl, h2⟩ := len_succ h1
  obtain ⟨x3, r, rfl, h3⟩ := len_succ h2
  obtain ⟨x4, r, rfl, h4⟩ := len_succ h3
  obtain ⟨x5, r, rfl, h5⟩ := len_succ h4
  obtain ⟨x6, r, rfl, h6⟩ := len_succ h5
  obtain ⟨x7, r, rfl, h7⟩ := len_succ h6
  obtain ⟨x8, r, rfl, h8⟩ := len_succ h7
  obtain ⟨x9, r, rfl, h9⟩ := len_succ h8
  obtain ⟨x10, r, rfl, h10⟩ := len_succ h9
  obtain ⟨x11, r, rfl, h11⟩ := len_succ h10
  obtain ⟨x12, r, rfl, h12⟩ := len_succ h11
  obtain rfl : r = [] := List.length_eq_zero_iff.mp h12
  cases hb
  exact ⟨_, _, _, _, _, _, _, _, _, _, _, _, rfl⟩
theorem abcx_let {z : Str} (h : z ∈ abcx) : isLetD (.str z) = true := by
  unfold abcx at h
  simp only [List.mem_cons, List.not_mem_nil, or_false] at h
  rcases h with rfl | rfl | rfl | rfl <;> decide +kernel
theorem wk_of {s : Nat} {rows : List (List (Str × Int))} {ends : List Int} {zs : List Str} (h : WishOk s rows ends zs) (nd : zs.Nodup) (z1 : 1 ≤ zs.length) (z4 : zs.length ≤ 4) (zo : ∀ z ∈ zs, z ∈ abcx) : Wk s rows zs :=
  ⟨h.len, h.pos, h.few, fun rs hrs => by
    obtain ⟨e, v⟩ := h.row rs hrs
    have lr : rs.length = zs.length := by rw [← e, List.length_map]
    exact ⟨by rw [show rs.map (fun p => p.1) = zs from e]; exact nd, by omega, by omega, fun p hp => zo _ (by rw [← e]; exact List.mem_map.mpr ⟨p, hp, rfl⟩), v⟩, fun rs hrs => (h.row rs hrs).1⟩
theorem fine_two (a b : Bool) : Fine 100 1 (.list [.bool a, .bool b]) := (fine_list (fine_cons (fine_bool a) (fine_cons (fine_bool b) fine_nil))).mono (by decide) (by decide)
theorem mulOk15 {z : Str} (hz : z.length ≤ 15) : MulOk z 200 := by
  refine ⟨?_, fun _ _ => ?_, fun _ _ => ?_⟩
  · rfl
  · have e : (15 : Int) ≤ (2 ^ 63 - 1) / (200 : Int) := by decide
    omega
  · show Builtin.Str.tooLong (z.length * 200) = false
    have : z.length * 200 ≤ 15 * 200 := Nat.mul_le_mul hz (Nat.le_refl _)
    have big : 3000 ≤ sizeLine := Nat.le_of_ble_eq_true rfl
    unfold Builtin.Str.tooLong
    refine decide_eq_false ?_
    omega
theorem wide_ok (n : Nat) (h : n = 6 ∨ n = 7) : (chS1 (cutS "abcdefg" none (some (n : Int)))).length ≤ 7 ∧ ∀ z ∈ chS1 (cutS "abcdefg" none (some (n : Int))), isLetD (.str z) = true := by
  have e : ∀ zs : List Str, (decide (zs.length ≤ 7) && zs.all fun z => isLetD (.str z)) = true → zs.length ≤ 7 ∧ ∀ z ∈ zs, isLetD (.str z) = true := fun zs h => by
    rw [Bool.and_eq_true, decide_eq_true_eq, List.all_eq_true] at h
    exact h
  rcases h with rfl | rfl
  · exact e _ (by decide +kernel)
  · exact e _ (by decide +kernel)
theorem chS1_len (z : Str) : (chS1 z).length = z.length := by
  unfold chS1
  rw [List.length_map]
  exact Array.length_toList
theorem twice_ok {z0 : Str} {es : List Int} (h1 : es.Pairwise (· < ·)) (h2 : ∀ x ∈ es, 0 ≤ x ∧ x < 2) : WishOk 2 [[(z0, 0), (z0, 1)], [(z0, 0), (z0, 1)]] es [z0, z0] := by
  refine ⟨rfl, by decide, by decide, fun rs hrs => ?_, h1, h2⟩
  simp only [List.mem_cons, List.not_mem_nil, or_false, or_self] at hrs
  subst hrs
  refine ⟨rfl, fun p hp => ?_⟩
  simp only [List.mem_cons, List.not_mem_nil, or_false] at hp
  rcases hp with rfl | rfl
  · exact ⟨(show (0 : Int) ≤ 0 by decide), (show (0 : Int) < 2 by decide)⟩
  · exact ⟨(show (0 : Int) ≤ 1 by decide), (show (1 : Int) < 2 by decide)⟩
open TL
local macro_rules | `(tactic| walk_at "dl") => `(tactic| first
  | with_reducible refine s_seq ?_
  | with_reducible refine s_if (t_test ?_)
  | with_reducible refine s_if ?_
  | with_reducible refine s_ret ?_
  | with_reducible refine s_par ?_
  | with_reducible refine s_par3 ?_
  | ((with_reducible show S _ (tAsg _ (gTup _ _ _)) _ _); refine s_set2 rfl ?_)
  | with_reducible refine s_set ?_
  | with_reducible refine s_next ?_
  | ((with_reducible show DL.E _ (tOp (rIx _) (tVar _) (tC (V.int 3))) _ _); refine e_bagL rfl ?_)
  | ((with_reducible show DL.E _ (tOp (rIx _) (tVar _) (tC (V.int _))) _ _); refine e_bagI rfl (by decide) (fun c => ?_))
  | ((with_reducible show S _ (tAsg _ (gSub _ _ _)) _ _); refine s_bagSet rfl (by decide) ?_)
  | ((with_reducible show S _ (tAugS _ _ _ _ _ _) _ _); refine s_bagAug rfl (by decide) ?_)
  | ((with_reducible show DL.E _ (tVar _) _ _); refine e_var rfl (fun h => nomatch h) ?_)
  | with_reducible refine e_int ?_
  | with_reducible refine e_str ?_
  | with_reducible refine e_bl ?_
  | with_reducible refine e_non ?_
  | with_reducible refine e_repN ?_
  | with_reducible refine e_op op2_isN ?_
  | with_reducible refine e_op op2_notN ?_
  | with_reducible refine e_op (op2_or op2_I0 op2_addS) ?_
  | with_reducible refine e_op (op2_or op2_I op2_mulS) ?_
  | with_reducible refine e_op op2_I0 ?_
  | with_reducible refine e_op op2_B0 ?_
  | with_reducible refine e_op op2_I ?_
  | with_reducible refine e_op op2_ix ?_
  | with_reducible refine e_op (op2_or op2_eqSt op2_eqD) ?_
  | with_reducible refine e_op (op2_or op2_neSt op2_neD) ?_
  | with_reducible refine e_neg ?_
  | with_reducible refine e_op op2_catT ?_
  | with_reducible refine e_op op2_notInA ?_
  | with_reducible refine e_op op2_isInT ?_
  | with_reducible refine e_isa ?_
  | with_reducible refine e_cb cl_allD ?_
  | with_reducible refine e_lstRg2 ?_
  | with_reducible refine e_op op2_isInA ?_
  | with_reducible refine e_op op2_oddI ?_
  | with_reducible refine e_cb cl_sortD ?_
  | with_reducible refine e_cb cl_sortS ?_
  | with_reducible refine e_cb cl_sortI ?_
  | with_reducible refine e_cb cl_min2 ?_
  | ((with_reducible show (0 : Int) ≤ _ ∧ _); refine And.intro (by decide) ?_)
  | with_reducible refine e_chain ?_
  | with_reducible refine e_tup ?_
  | with_reducible refine e_lst ?_
  | with_reducible refine e_dnewK ?_
  | with_reducible refine e_disp1 ?_
  | with_reducible refine a_cons ?_
  | with_reducible refine a_nil ?_
  | with_reducible refine e_call ⟨rfl, rfl⟩ ?_
  | with_reducible refine e_cb cl_lenQ ?_
  | with_reducible refine e_cb cl_dictS ?_
  | with_reducible refine e_index ?_
  | with_reducible refine e_tupRg ?_
  | with_reducible refine e_lstRg ?_
  | with_reducible refine e_tupZ ?_
  | with_reducible refine e_cb cl_abs ?_
  | with_reducible refine e_cb cl_intB ?_
  | with_reducible refine e_cb cl_max2 ?_
  | with_reducible refine e_cb cl_strI ?_
  | with_reducible refine e_cb cl_gcd ?_
  | with_reducible refine e_cb cl_divmod ?_
  | with_reducible refine e_cb cl_repr ?_
  | with_reducible refine e_cb cl_sumA ?_
  | with_reducible refine e_cb cl_tuple ?_
  | with_reducible refine e_cb cl_list ?_
  | with_reducible refine e_zfill ?_
  | with_reducible refine e_join ?_
  | with_reducible refine e_revL ?_
  | with_reducible refine e_slS ?_
  | with_reducible refine e_slL ?_
  | with_reducible refine e_slA ?_
  | with_reducible refine e_op op2_catL ?_
  | with_reducible refine o_none ?_
  | with_reducible refine o_some ?_
  | with_reducible refine e_if (t_test ?_)
  | with_reducible refine e_if ?_
  | with_reducible refine e_andV ?_
  | with_reducible refine e_notV ?_
  | with_reducible refine e_orV ?_
  | with_reducible refine t_test ?_
  | with_reducible refine t_B ?_
  | with_reducible refine t_not ?_
  | with_reducible refine t_and ?_
  | with_reducible refine t_or ?_
  | ((with_reducible show En.nx _ _); dsimp only [List.set])
  | ((with_reducible show En.rt _ _); dsimp only)
  | ((with_reducible show _ ≤ sizeLine ∧ _); refine And.intro (Nat.le_of_ble_eq_true rfl) ?_)
  | ((with_reducible show List.all _ _ = true ∧ _); refine And.intro rfl ?_)
  | ((with_reducible show SeqAt.shaped _ = true ∧ _); refine And.intro rfl ?_)
  | ((with_reducible show CPow _ _ ∧ _); refine And.intro ⟨by decide, by decide, by decide⟩ ?_)
  | ((with_reducible show (_ : Int) ≠ _ ∧ _); refine And.intro (by decide) ?_)
  | ((with_reducible show CMulB _ _ ∧ _); refine And.intro (Or.inr (Or.inl ⟨by decide, by decide⟩)) ?_)
  | ((with_reducible show CMulB _ _ ∧ _); refine And.intro (Or.inr (Or.inr ⟨by decide, by decide⟩)) ?_)
  | ((with_reducible show notOwn _ ∧ _); refine And.intro trivial ?_)
  | refine Exists.intro _ (And.intro rfl ?_)
  | refine Exists.intro _ (Exists.intro _ (And.intro rfl ?_))
  | refine Or.inl (Exists.intro _ (Exists.intro _ (And.intro rfl (And.intro rfl ?_))))
  | refine Or.inr (Exists.intro _ (Exists.intro _ (And.intro rfl (And.intro rfl ?_))))
  | refine Exists.intro _ (Exists.intro _ (And.intro rfl (And.intro rfl ?_))))
local macro_rules | `(tactic| walk_at "dx") => `(tactic| ((fail_if_success (with_reducible show DL.E _ (tIf _ _ _) _ _)); (fail_if_success (with_reducible show DL.T _ (tAnd _ _) _ _)); walk_at "dl"))
local macro_rules | `(tactic| walk_at "ds") => `(tactic| ((fail_if_success (with_reducible show S _ (tSeq _ _) _ _)); walk_at "dl"))
section
variable {P : Program} {w : World} {K : PySem.W.Frag} {mg : Str → Option Value} {bs : Heap}
def gs_is_integer : Gs := fun xs R => xs.length = 1 ∧ ∃ (d : PyData), xs = [.dat d] ∧ R (.bool (isIntD d))
theorem ok_is_integer (T : Txt K mg) (nd : bs.NoDigits) (tabs : Tabled bs T) : FnG P w K mg bs 1 T.a_is_integer T.d_is_integer ["thing"] (spG K T.tb gs_is_integer) := by
  refine fnD T.F_is_integer sc_is_integer (fun xs R h => h.1) (fun cd A out s H E hcd hg hr => ⟨_, (pss_one (ps_ret (pe_and (pe_callB (isa_int (K := K) rfl) (by rfl) T.z_isinstance (by decide +kernel) (pa_cons (pv 0) (pa_cons (pe_bltn (v := .ty "int") (u := .type "int") (by rfl) T.z_int (by decide +kernel) rfl) pa_nil))) (pe_one (pe_not (pe_callB (isa_bool (K := K) rfl) (by rfl) T.z_isinstance (by decide +kernel) (pa_cons (pv 0) (pa_cons (pe_bltn (v := .ty "bool") (u := .type "bool") (by rfl) T.z_bool (by decide +kernel) rfl) pa_nil)))))))), fun H0 own0 bg xs R h => ?_⟩)
  obtain ⟨_, d, rfl, hR⟩ := h
  change S _ _ [.dat d] _
  try dsimp only [cxOf]
  rw [← isInt_eq] at hR
  refine s_ret (e_andV (e_isa (e_var rfl (fun h => nomatch h) ⟨d, rfl, _, rfl, ?_⟩)))
  cases q : d.isInt with
  | true =>
    rw [q] at hR
    refine iteT (e_notV (e_isa (e_var rfl (fun h => nomatch h) ⟨d, rfl, _, rfl, _, rfl, hR⟩)))
  | false =>
    rw [q] at hR
    exact iteF ⟨_, rfl, hR⟩
end
section
variable {P : Program} {w : World} {K : PySem.W.Frag} {mg : Str → Option Value} {bs : Heap}
def gs_is_within : Gs := fun xs R => xs.length = 3 ∧ ∃ (d : PyData) (a b : Int), xs = [.dat d, .dat (.int a), .dat (.int b)] ∧ R (.bool (withinD d a b))
theorem ok_is_within (T : Txt K mg) (nd : bs.NoDigits) (tabs : Tabled bs T) : FnG P w K mg bs 2 T.a_is_within T.d_is_within ["thing", "low", "high"] (spG K T.tb gs_is_within) := by
  have C_is_integer := ok_is_integer (P := P) (w := w) (bs := bs) T nd tabs
  refine fnD T.F_is_within sc_is_within (fun xs R h => h.1) (fun cd A out s H E hcd hg hr => ⟨_, (pss_one (ps_ret (pe_and (pe_callG C_is_integer hg (hr.mono (by decide)) (by rfl) T.g_is_integer T.F_is_integer.kp T.b_is_integer (pa_cons (pv 0) pa_nil)) (pe_one (pe_chain op_le op_le (pv 1) (pv 0) (pv 2)))))), fun H0 own0 bg xs R h => ?_⟩)
  obtain ⟨_, d, a, b, rfl, hR⟩ := h
  change S _ _ [.dat d, .dat (.int a), .dat (.int b)] _
  try dsimp only [cxOf]
  refine s_ret (e_andV (e_call ⟨rfl, rfl⟩ (a_cons (e_var rfl (fun h => nomatch h) (a_nil ⟨rfl, rfl, d, rfl, _, rfl, ?_⟩)))))
  cases d with
  | int x =>
    refine iteT (e_chain (e_var rfl (fun h => nomatch h) (e_var rfl (fun h => nomatch h) ⟨a, x, rfl, rfl, ?_⟩)))
    have hR : R (.bool (decide (a ≤ x) && decide (x ≤ b))) := hR
    refine ite2 (fun h => ?_) (fun h => ?_)
    · refine e_var rfl (fun h => nomatch h) ⟨b, rfl, _, rfl, ?_⟩
      have h : decide (a ≤ x) = true := h
      rw [h, Bool.true_and] at hR
      exact hR
    · have h : ¬ decide (a ≤ x) = true := h
      rw [Bool.eq_false_iff.mpr h, Bool.false_and] at hR
      exact ⟨_, rfl, hR⟩
  | none => exact iteF ⟨_, rfl, hR⟩
  | bool _ => exact iteF ⟨_, rfl, hR⟩
  | str _ => exact iteF ⟨_, rfl, hR⟩
  | list _ => exact iteF ⟨_, rfl, hR⟩
  | tuple _ => exact iteF ⟨_, rfl, hR⟩
  | dict _ => exact iteF ⟨_, rfl, hR⟩
end
section
variable {P : Program} {w : World} {K : PySem.W.Frag} {mg : Str → Option Value} {bs : Heap}
def gs_is_tuple : Gs := fun xs R => xs.length = 3 ∧ ∃ (d : PyData) (a b : Int), xs = [.dat d, .dat (.int a), .dat (.int b)] ∧ wt d ≤ HV ∧ R (.bool (isTupD d a b))
theorem ok_is_tuple (T : Txt K mg) (nd : bs.NoDigits) (tabs : Tabled bs T) : FnG P w K mg bs 1 T.a_is_tuple T.d_is_tuple ["thing", "least", "most"] (spG K T.tb gs_is_tuple) := by
  refine fnD T.F_is_tuple sc_is_tuple (fun xs R h => h.1) (fun cd A out s H E hcd hg hr => ⟨_, (pss_one (ps_ret (pe_and (pe_callB (isa_tuple (K := K) rfl) (by rfl) T.z_isinstance (by decide +kernel) (pa_cons (pv 0) (pa_cons (pe_bltn (v := .ty "tuple") (u := .type "tuple") (by rfl) T.z_tuple (by decide +kernel) rfl) pa_nil))) (pe_one (pe_chain op_le op_le (pv 1) (pe_callB (call_lenK (K := K) rfl) (by rfl) T.z_len (by decide +kernel) (pa_cons (pv 0) pa_nil)) (pv 2)))))), fun H0 own0 bg xs R h => ?_⟩)
  obtain ⟨_, d, a, b, rfl, hd, hR⟩ := h
  change S _ _ [.dat d, .dat (.int a), .dat (.int b)] _
  try dsimp only [cxOf]
  refine s_ret (e_andV (e_isa (e_var rfl (fun h => nomatch h) ⟨d, rfl, _, rfl, ?_⟩)))
  cases d with
  | tuple ds =>
    refine iteT (e_chain (e_var rfl (fun h => nomatch h) (e_cb cl_lenQ (a_cons (e_var rfl (fun h => nomatch h) (a_nil ⟨_, ds, rfl, rfl, a, _, rfl, rfl, ?_⟩))))))
    have hR : R (.bool (decide (a ≤ (ds.length : Nat)) && decide (((ds.length : Nat) : Int) ≤ b))) := hR
    refine ite2 (fun h => ?_) (fun h => ?_)
    · refine e_var rfl (fun h => nomatch h) ⟨b, rfl, _, rfl, ?_⟩
      have h : decide (a ≤ ((ds.length : Nat) : Int)) = true := h
      rw [h, Bool.true_and] at hR
      exact hR
    · have h : ¬ decide (a ≤ ((ds.length : Nat) : Int)) = true := h
      rw [Bool.eq_false_iff.mpr h, Bool.false_and] at hR
      exact ⟨_, rfl, hR⟩
  | none => exact iteF ⟨_, rfl, hR⟩
  | bool _ => exact iteF ⟨_, rfl, hR⟩
  | int _ => exact iteF ⟨_, rfl, hR⟩
  | str _ => exact iteF ⟨_, rfl, hR⟩
  | list _ => exact iteF ⟨_, rfl, hR⟩
  | dict _ => exact iteF ⟨_, rfl, hR⟩
end
section
variable {P : Program} {w : World} {K : PySem.W.Frag} {mg : Str → Option Value} {bs : Heap}
def gs_is_ascending : Gs := fun xs R => xs.length = 1 ∧ ((∃ zs : List Str, xs = [.dat (.list (zs.map .str))] ∧ zs.length ≤ HV ∧ R (.bool (ascB ltS zs))) ∨ ∃ ns : List Int, xs = [.dat (.tuple (ns.map .int))] ∧ ns.length ≤ HV ∧ R (.bool (ascB ltI ns)))
theorem ok_is_ascending (T : Txt K mg) (nd : bs.NoDigits) (tabs : Tabled bs T) : FnG P w K mg bs 1 T.a_is_ascending T.d_is_ascending ["items"] (spG K T.tb gs_is_ascending) := by
  refine fnD T.F_is_ascending sc_is_ascending (fun xs R h => h.1) (fun cd A out s H E hcd hg hr => ⟨_, (pss_one (ps_ret (pe_callB (call_allD (K := K) rfl (by rfl)) (by rfl) T.z_all (by decide +kernel) (pa_cons (pe_lc (own := [("one", 1), ("other", 2)]) (g := (gTup K 2 (gCons (gName 1) (gCons (gName 2) gNil)))) (tt := tYes) (by rfl) sc_is_ascending.nd (pi_zipB (K := K) rfl (by rfl) T.z_zip (pa_cons (pv 0) (pa_cons (pe_slice (sl_seqK (K := K) rfl) (pv 0) (po_some pe_int) po_none) pa_nil))) (blkOk_by (own := [("one", 1), ("other", 2)]) (N := ["items", "one", "other"]) (sc := defScope s_is_ascending) (by decide +kernel)) (fun _ _ _ _ _ => (pg_tupK (K := K) rfl (by rfl) (pgs_cons (pg_name (i := 1) sc_is_ascending.nd rfl (Or.inl rfl)) (pgs_cons (pg_name (i := 2) sc_is_ascending.nd rfl (Or.inl rfl)) pgs_nil)))) (fun _ _ _ _ _ => pts_nil) (fun _ _ _ _ _ => (pe_cmpR op_ltA (pv 1) (pv 2) (nomark _)))) pa_nil)))), fun H0 own0 bg xs R h => ?_⟩)
  rcases h with ⟨_, ⟨zs, rfl, hz, hR⟩ | ⟨ns, rfl, hz, hR⟩⟩
  · change S _ _ [.dat (.list (zs.map .str)), .no, .no] _
    try dsimp only [cxOf]
    refine s_ret (e_cb cl_allD (a_cons (e_lcM (ic_of (i_zip (a_cons (e_var rfl (fun h => nomatch h) (a_cons (e_slA (e_var rfl (fun h => nomatch h) (o_some (e_int ⟨_, rfl, o_none ⟨_, rfl, a_nil ⟨_, _, _, _, rfl, rfl, rfl, ?_⟩⟩⟩))))))))))))
    rw [cut1, ← List.map_drop, zip_str]
    refine ⟨by rw [List.length_map, List.length_zip]; exact hv_line (by omega), fun d => match d with
      | .tuple [.str a, .str b] => .bool (ltS a b)
      | _ => .none, fun d hd => ?_, ?_⟩
    · obtain ⟨p, hp, rfl⟩ := List.mem_map.mp hd
      refine ⟨[(1, .str p.1), (2, .str p.2)], rfl, tg_tup rfl (tgs_cons tg_name (tgs_cons tg_name tgs_nil)), ?_⟩
      dsimp only [setsD, DL.clr, List.set]
      exact e_op (op2_or op2_B0 op2_ltS) (e_var rfl (fun h => nomatch h) (e_var rfl (fun h => nomatch h) (.inr ⟨p.1, p.2, rfl, rfl, rfl⟩)))
    · refine a_nil ⟨_, (zs.zip (zs.drop 1)).map fun p => ltS p.1 p.2, rfl, by rw [List.map_map, List.map_map]; rfl, _, rfl, ?_⟩
      show R (.bool (((zs.zip (zs.drop 1)).map fun p => ltS p.1 p.2).all id))
      rw [List.all_map]
      exact hR
  · change S _ _ [.dat (.tuple (ns.map .int)), .no, .no] _
    try dsimp only [cxOf]
    refine s_ret (e_cb cl_allD (a_cons (e_lcM (ic_of (i_zip (a_cons (e_var rfl (fun h => nomatch h) (a_cons (e_slA (e_var rfl (fun h => nomatch h) (o_some (e_int ⟨_, rfl, o_none ⟨_, rfl, a_nil ⟨_, _, _, _, rfl, rfl, rfl, ?_⟩⟩⟩))))))))))))
    rw [cut1, ← List.map_drop, zip_int]
    refine ⟨by rw [List.length_map, List.length_zip]; exact hv_line (by omega), fun d => match d with
      | .tuple [.int a, .int b] => .bool (ltI a b)
      | _ => .none, fun d hd => ?_, ?_⟩
    · obtain ⟨p, hp, rfl⟩ := List.mem_map.mp hd
      refine ⟨[(1, .int p.1), (2, .int p.2)], rfl, tg_tup rfl (tgs_cons tg_name (tgs_cons tg_name tgs_nil)), ?_⟩
      dsimp only [setsD, DL.clr, List.set]
      exact e_op (op2_or op2_B0 op2_ltS) (e_var rfl (fun h => nomatch h) (e_var rfl (fun h => nomatch h) (.inl ⟨p.1, p.2, rfl, rfl, rfl⟩)))
    · refine a_nil ⟨_, (ns.zip (ns.drop 1)).map fun p => ltI p.1 p.2, rfl, by rw [List.map_map, List.map_map]; rfl, _, rfl, ?_⟩
      show R (.bool (((ns.zip (ns.drop 1)).map fun p => ltI p.1 p.2).all id))
      rw [List.all_map]
      exact hR
end
section
variable {P : Program} {w : World} {K : PySem.W.Frag} {mg : Str → Option Value} {bs : Heap}
def gs_are_ascending_below : Gs := fun xs R => xs.length = 2 ∧ ∃ (d : PyData) (b : Int), xs = [.dat d, .dat (.int b)] ∧ wt d ≤ HV ∧ R (.bool (ascBelowD d b))
theorem ok_are_ascending_below (T : Txt K mg) (nd : bs.NoDigits) (tabs : Tabled bs T) : FnG P w K mg bs 3 T.a_are_ascending_below T.d_are_ascending_below ["thing", "bound"] (spG K T.tb gs_are_ascending_below) := by
  have C_is_ascending := ok_is_ascending (P := P) (w := w) (bs := bs) T nd tabs
  have C_is_within := ok_is_within (P := P) (w := w) (bs := bs) T nd tabs
  refine fnD T.F_are_ascending_below sc_are_ascending_below (fun xs R h => h.1) (fun cd A out s H E hcd hg hr => ⟨_, (pss_cons (ps_if (pt_not (pt_val (pe_callB (isa_tuple (K := K) rfl) (by rfl) T.z_isinstance (by decide +kernel) (pa_cons (pv 0) (pa_cons (pe_bltn (v := .ty "tuple") (u := .type "tuple") (by rfl) T.z_tuple (by decide +kernel) rfl) pa_nil)))))
  (pss_one (ps_ret pe_bl))
  pss_nil)
  (pss_one (ps_ret (pe_and (pe_callB (call_allD (K := K) rfl (by rfl)) (by rfl) T.z_all (by decide +kernel) (pa_cons (pe_lc (own := [("item", 2)]) (g := (gName 2)) (tt := tYes) (by rfl) sc_are_ascending_below.nd (pi_seqK (K := K) rfl (pv 0)) (blkOk_by (own := [("item", 2)]) (N := ["thing", "bound", "item"]) (sc := defScope s_are_ascending_below) (by decide +kernel)) (fun _ _ _ _ _ => (pg_name (i := 2) sc_are_ascending_below.nd rfl (Or.inl rfl))) (fun _ _ _ _ _ => pts_nil) (fun _ _ _ _ _ => (pe_callG C_is_within hg (hr.mono (by decide)) (by rfl) T.g_is_within T.F_is_within.kp T.b_is_within (pa_cons (pv 2) (pa_cons pe_int (pa_cons (pe_op op_sub (pv 1) pe_int) pa_nil)))))) pa_nil)) (pe_one (pe_callG C_is_ascending hg (hr.mono (by decide)) (by rfl) T.g_is_ascending T.F_is_ascending.kp T.b_is_ascending (pa_cons (pv 0) pa_nil))))))), fun H0 own0 bg xs R h => ?_⟩)
  obtain ⟨_, d, b, rfl, hd, hR⟩ := h
  change S _ _ [.dat d, .dat (.int b), .no] _
  try dsimp only [cxOf]
  refine s_seq (s_if (t_not (t_B (e_isa (e_var rfl (fun h => nomatch h) ⟨d, rfl, _, rfl, ?_⟩)))))
  cases d with
  | tuple ds =>
    have hv := hv_tup hd
    refine iteF (s_next ?_)
    dsimp only
    refine s_ret (e_andV (e_cb cl_allD (a_cons (e_lcM (ic_of (i_seq (e_var rfl (fun h => nomatch h) ⟨_, ds, rfl, rfl, hv_line hv.1, fun x => .bool (withinD x 0 (b - 1)), fun x hx => ?_, a_nil ⟨_, ds.map fun x => withinD x 0 (b - 1), rfl, by rw [List.map_map]; rfl, _, rfl, ?_⟩⟩)))))))
    · refine ⟨[(2, x)], rfl, tg_name, ?_⟩
      dsimp only [setsD, DL.clr, List.set]
      exact e_call ⟨rfl, rfl⟩ (a_cons (e_var rfl (fun h => nomatch h) (a_cons (e_int (a_cons (e_op op2_I0 (e_var rfl (fun h => nomatch h) (e_int ⟨_, _, rfl, rfl, a_nil ⟨rfl, rfl, x, 0, b - 1, rfl, rfl⟩⟩))))))))
    · show if ((ds.map fun x => withinD x 0 (b - 1)).all id) = true then _ else _
      rw [List.all_map]
      have hR : R (.bool ((ds.all fun x => withinD x 0 (b - 1)) && ascB ltI (intsD ds))) := hR
      refine ite2 (fun h => ?_) (fun h => ?_)
      · have h : (ds.all fun x => withinD x 0 (b - 1)) = true := h
        rw [h, Bool.true_and] at hR
        obtain ⟨e, _⟩ := ints_all h
        have le : (intsD ds).length ≤ HV := by
          have := congrArg List.length e
          rw [List.length_map] at this
          omega
        refine e_call ⟨rfl, rfl⟩ (a_cons (e_var rfl (fun h => nomatch h) (a_nil ⟨rfl, rfl, .inr ⟨intsD ds, ?_, le, _, rfl, hR⟩⟩)))
        rw [← e]
      · have h : ¬ (ds.all fun x => withinD x 0 (b - 1)) = true := h
        rw [Bool.eq_false_iff.mpr h, Bool.false_and] at hR
        exact ⟨_, rfl, hR⟩
  | none => exact iteT (s_ret (e_bl ⟨_, rfl, hR⟩))
  | bool _ => exact iteT (s_ret (e_bl ⟨_, rfl, hR⟩))
  | int _ => exact iteT (s_ret (e_bl ⟨_, rfl, hR⟩))
  | str _ => exact iteT (s_ret (e_bl ⟨_, rfl, hR⟩))
  | list _ => exact iteT (s_ret (e_bl ⟨_, rfl, hR⟩))
  | dict _ => exact iteT (s_ret (e_bl ⟨_, rfl, hR⟩))
end
section
variable {P : Program} {w : World} {K : PySem.W.Frag} {mg : Str → Option Value} {bs : Heap}
def gs_is_letter : Gs := fun xs R => xs.length = 1 ∧ ∃ (d : PyData), xs = [.dat d] ∧ wt d ≤ HV ∧ R (.bool (isLetD d))
theorem ok_is_letter (T : Txt K mg) (nd : bs.NoDigits) (tabs : Tabled bs T) : FnG P w K mg bs 1 T.a_is_letter T.d_is_letter ["thing"] (spG K T.tb gs_is_letter) := by
  refine fnD T.F_is_letter sc_is_letter (fun xs R h => h.1) (fun cd A out s H E hcd hg hr => ⟨_, (pss_one (ps_ret (pe_and (pe_callB (isa_str (K := K) rfl) (by rfl) T.z_isinstance (by decide +kernel) (pa_cons (pv 0) (pa_cons (pe_bltn (v := .ty "str") (u := .type "str") (by rfl) T.z_str (by decide +kernel) rfl) pa_nil))) (pe_and (pe_cmpR (op_eqK (K := K) rfl (by exact hr.units)) (pe_callB (call_lenK (K := K) rfl) (by rfl) T.z_len (by decide +kernel) (pa_cons (pv 0) pa_nil)) pe_int (nomark _)) (pe_one (pe_chain op_leS op_leS pe_str (pv 0) pe_str)))))), fun H0 own0 bg xs R h => ?_⟩)
  obtain ⟨_, d, rfl, hd, hR⟩ := h
  change S _ _ [.dat d] _
  try dsimp only [cxOf]
  refine s_ret (e_andV (e_isa (e_var rfl (fun h => nomatch h) ⟨d, rfl, _, rfl, ?_⟩)))
  cases d with
  | str z =>
    have lz := hv_line (wt_str hd)
    refine iteT (e_andV (e_op (op2_or op2_eqSt op2_eqD) (e_cb cl_len (a_cons (e_var rfl (fun h => nomatch h) (a_nil ⟨_, z.length, rfl, if_pos lz, e_int (.inr ⟨_, _, rfl, rfl, shaped_int _, shaped_int _, _, rfl, ?_⟩)⟩))))))
    rw [eqv_int]
    refine ite2 (fun h => ?_) (fun h => ?_)
    · have h : decide (((z.length : Nat) : Int) = 1) = true := h
      obtain ⟨c, rfl⟩ := len_one (z := z) (by have := of_decide_eq_true h; omega)
      rw [let_of] at hR
      refine e_chain2 op2_leS op2_leS (e_str (e_var rfl (fun h => nomatch h) ⟨_, _, rfl, rfl, _, rfl, ?_⟩))
      rw [le_a]
      refine ite2 (fun h => ?_) (fun h => ?_)
      · refine e_str ⟨_, _, rfl, rfl, _, rfl, ?_⟩
        rw [le_z]
        have h : decide (97 ≤ c) = true := h
        rw [h, Bool.true_and] at hR
        exact hR
      · have h : ¬ decide (97 ≤ c) = true := h
        rw [Bool.eq_false_iff.mpr h, Bool.false_and] at hR
        exact ⟨_, rfl, hR⟩
    · have h : ¬ decide (((z.length : Nat) : Int) = 1) = true := h
      rw [let_len (fun e => h (decide_eq_true (by omega)))] at hR
      exact ⟨_, rfl, hR⟩
  | none => exact iteF ⟨_, rfl, hR⟩
  | bool _ => exact iteF ⟨_, rfl, hR⟩
  | int _ => exact iteF ⟨_, rfl, hR⟩
  | list _ => exact iteF ⟨_, rfl, hR⟩
  | tuple _ => exact iteF ⟨_, rfl, hR⟩
  | dict _ => exact iteF ⟨_, rfl, hR⟩
end
section
variable {P : Program} {w : World} {K : PySem.W.Frag} {mg : Str → Option Value} {bs : Heap}
def gs__is_step : Gs := fun xs R => xs.length = 2 ∧ ∃ (d : PyData) (s : Int), xs = [.dat d, .dat (.int s)] ∧ wt d ≤ HV ∧ R (.bool (isStepD d s))
theorem ok__is_step (T : Txt K mg) (nd : bs.NoDigits) (tabs : Tabled bs T) : FnG P w K mg bs 3 T.a__is_step T.d__is_step ["thing", "spots"] (spG K T.tb gs__is_step) := by
  have C_is_letter := ok_is_letter (P := P) (w := w) (bs := bs) T nd tabs
  have C_is_tuple := ok_is_tuple (P := P) (w := w) (bs := bs) T nd tabs
  have C_is_within := ok_is_within (P := P) (w := w) (bs := bs) T nd tabs
  refine fnD T.F__is_step sc__is_step (fun xs R h => h.1) (fun cd A out s H E hcd hg hr => ⟨_, (pss_one (ps_ret (pe_and (pe_callG C_is_tuple hg (hr.mono (by decide)) (by rfl) T.g_is_tuple T.F_is_tuple.kp T.b_is_tuple (pa_cons (pv 0) (pa_cons pe_int (pa_cons pe_int pa_nil)))) (pe_and (pe_callG C_is_letter hg (hr.mono (by decide)) (by rfl) T.g_is_letter T.F_is_letter.kp T.b_is_letter (pa_cons (pe_ix (ix_seqK (K := K) rfl) (pv 0) pe_int (fun _ _ => rfl)) pa_nil)) (pe_one (pe_callG C_is_within hg (hr.mono (by decide)) (by rfl) T.g_is_within T.F_is_within.kp T.b_is_within (pa_cons (pe_ix (ix_seqK (K := K) rfl) (pv 0) pe_int (fun _ _ => rfl)) (pa_cons pe_int (pa_cons (pe_op op_sub (pv 1) pe_int) pa_nil))))))))), fun H0 own0 bg xs R h => ?_⟩)
  obtain ⟨_, d, s, rfl, hd, hR⟩ := h
  change S _ _ [.dat d, .dat (.int s)] _
  try dsimp only [cxOf]
  refine s_ret (e_andV (e_call ⟨rfl, rfl⟩ (a_cons (e_var rfl (fun h => nomatch h) (a_cons (e_int (a_cons (e_int (a_nil ⟨rfl, rfl, d, 2, 2, rfl, hd, _, rfl, ?_⟩)))))))))
  cases q : isTupD d 2 2 with
  | false =>
    rw [step_no q] at hR
    exact iteF ⟨_, rfl, hR⟩
  | true =>
    obtain ⟨x, y, rfl⟩ := tup2 q
    have hv := (hv_tup hd).2
    have hR : R (.bool (isLetD x && withinD y 0 (s - 1))) := hR
    refine iteT (e_andV (e_call ⟨rfl, rfl⟩ (a_cons (e_op op2_ix (e_var rfl (fun h => nomatch h) (e_int ⟨0, x, rfl, rfl, a_nil ⟨rfl, rfl, x, rfl, hv x (by simp), _, rfl, ?_⟩⟩))))))
    refine ite2 (fun h => ?_) (fun h => ?_)
    · have h : isLetD x = true := h
      rw [h, Bool.true_and] at hR
      exact e_call ⟨rfl, rfl⟩ (a_cons (e_op op2_ix (e_var rfl (fun h => nomatch h) (e_int ⟨1, y, rfl, rfl, a_cons (e_int (a_cons (e_op op2_I0 (e_var rfl (fun h => nomatch h) (e_int ⟨_, _, rfl, rfl, a_nil ⟨rfl, rfl, y, 0, s - 1, rfl, _, rfl, hR⟩⟩)))))⟩))))
    · have h : ¬ isLetD x = true := h
      rw [Bool.eq_false_iff.mpr h, Bool.false_and] at hR
      exact ⟨_, rfl, hR⟩
end
section
variable {P : Program} {w : World} {K : PySem.W.Frag} {mg : Str → Option Value} {bs : Heap}
def gs__letters_in : Gs := fun xs R => xs.length = 1 ∧ ∃ (rs : List (Str × Int)), xs = [.dat (.tuple (rs.map lmD))] ∧ rs.length ≤ HV ∧ R (.list ((rs.map (·.1)).map .str))
theorem ok__letters_in (T : Txt K mg) (nd : bs.NoDigits) (tabs : Tabled bs T) : FnG P w K mg bs 1 T.a__letters_in T.d__letters_in ["row"] (spG K T.tb gs__letters_in) := by
  refine fnD T.F__letters_in sc__letters_in (fun xs R h => h.1) (fun cd A out s H E hcd hg hr => ⟨_, (pss_one (ps_ret (pe_lc (own := [("letter", 1), ("_", 2)]) (g := (gTup K 2 (gCons (gName 1) (gCons (gName 2) gNil)))) (tt := tYes) (by rfl) sc__letters_in.nd (pi_seqK (K := K) rfl (pv 0)) (blkOk_by (own := [("letter", 1), ("_", 2)]) (N := ["row", "letter", "_"]) (sc := defScope s__letters_in) (by decide +kernel)) (fun _ _ _ _ _ => (pg_tupK (K := K) rfl (by rfl) (pgs_cons (pg_name (i := 1) sc__letters_in.nd rfl (Or.inl rfl)) (pgs_cons (pg_name (i := 2) sc__letters_in.nd rfl (Or.inl rfl)) pgs_nil)))) (fun _ _ _ _ _ => pts_nil) (fun _ _ _ _ _ => (pv 1))))), fun H0 own0 bg xs R h => ?_⟩)
  obtain ⟨_, rs, rfl, hl, hR⟩ := h
  change S _ _ [.dat (.tuple (rs.map lmD)), .no, .no] _
  try dsimp only [cxOf]
  refine s_ret (e_lcM (ic_of (i_seq (e_var rfl (fun h => nomatch h) ⟨_, rs.map lmD, rfl, rfl, by rw [List.length_map]; exact hv_line hl, fun d => match d with
    | .tuple (z :: _) => z
    | _ => .none, fun d hd => ?_, _, rfl, ?_⟩))))
  · obtain ⟨p, hp, rfl⟩ := List.mem_map.mp hd
    refine ⟨[(1, .str p.1), (2, .int p.2)], rfl, tg_tup rfl (tgs_cons tg_name (tgs_cons tg_name tgs_nil)), ?_⟩
    dsimp only [setsD, DL.clr, List.set]
    exact e_var rfl (fun h => nomatch h) rfl
  · rw [List.map_map] at hR ⊢
    exact hR
end
section
variable {P : Program} {w : World} {K : PySem.W.Frag} {mg : Str → Option Value} {bs : Heap}
def gs__is_row : Gs := fun xs R => xs.length = 2 ∧ ∃ (d : PyData) (s : Int), xs = [.dat d, .dat (.int s)] ∧ wt d ≤ HV ∧ R (.bool (isRowD d s))
theorem ok__is_row (T : Txt K mg) (nd : bs.NoDigits) (tabs : Tabled bs T) : FnG P w K mg bs 4 T.a__is_row T.d__is_row ["thing", "spots"] (spG K T.tb gs__is_row) := by
  have C__is_step := ok__is_step (P := P) (w := w) (bs := bs) T nd tabs
  have C__letters_in := ok__letters_in (P := P) (w := w) (bs := bs) T nd tabs
  have C_is_ascending := ok_is_ascending (P := P) (w := w) (bs := bs) T nd tabs
  have C_is_tuple := ok_is_tuple (P := P) (w := w) (bs := bs) T nd tabs
  refine fnD T.F__is_row sc__is_row (fun xs R h => h.1) (fun cd A out s H E hcd hg hr => ⟨_, (pss_cons (ps_if (pt_not (pt_val (pe_callG C_is_tuple hg (hr.mono (by decide)) (by rfl) T.g_is_tuple T.F_is_tuple.kp T.b_is_tuple (pa_cons (pv 0) (pa_cons pe_int (pa_cons (pe_glob (v := .int 6) (by rfl) T.c_MOST_LETTERS ⟨_, rfl⟩) pa_nil))))))
  (pss_one (ps_ret pe_bl))
  pss_nil)
  (pss_cons (ps_if (pt_not (pt_val (pe_callB (call_allD (K := K) rfl (by rfl)) (by rfl) T.z_all (by decide +kernel) (pa_cons (pe_lc (own := [("item", 2)]) (g := (gName 2)) (tt := tYes) (by rfl) sc__is_row.nd (pi_seqK (K := K) rfl (pv 0)) (blkOk_by (own := [("item", 2)]) (N := ["thing", "spots", "item"]) (sc := defScope s__is_row) (by decide +kernel)) (fun _ _ _ _ _ => (pg_name (i := 2) sc__is_row.nd rfl (Or.inl rfl))) (fun _ _ _ _ _ => pts_nil) (fun _ _ _ _ _ => (pe_callG C__is_step hg (hr.mono (by decide)) (by rfl) T.g__is_step T.F__is_step.kp T.b__is_step (pa_cons (pv 2) (pa_cons (pv 1) pa_nil))))) pa_nil))))
  (pss_one (ps_ret pe_bl))
  pss_nil)
  (pss_one (ps_ret (pe_callG C_is_ascending hg (hr.mono (by decide)) (by rfl) T.g_is_ascending T.F_is_ascending.kp T.b_is_ascending (pa_cons (pe_callG C__letters_in hg (hr.mono (by decide)) (by rfl) T.g__letters_in T.F__letters_in.kp T.b__letters_in (pa_cons (pv 0) pa_nil)) pa_nil)))))), fun H0 own0 bg xs R h => ?_⟩)
  obtain ⟨_, d, s, rfl, hd, hR⟩ := h
  change S _ _ [.dat d, .dat (.int s), .no] _
  try dsimp only [cxOf]
  refine s_seq (s_if (t_not (t_B (e_call ⟨rfl, rfl⟩ (a_cons (e_var rfl (fun h => nomatch h) (a_cons (e_int (a_cons (e_int (a_nil ⟨rfl, rfl, d, 1, 6, rfl, hd, _, rfl, ?_⟩)))))))))))
  cases q : isTupD d 1 6 with
  | false =>
    rw [row_no q] at hR
    exact iteT (s_ret (e_bl ⟨_, rfl, hR⟩))
  | true =>
    obtain ⟨ds, rfl, l1, l6⟩ := tup_len (a := 1) (b := 6) q
    have hv := hv_tup hd
    rw [row_yes l1 l6] at hR
    refine iteF (s_next ?_)
    dsimp only
    refine s_seq (s_if (t_not (t_B (e_cb cl_allD (a_cons (e_lcM (ic_of (i_seq (e_var rfl (fun h => nomatch h) ⟨_, ds, rfl, rfl, hv_line hv.1, fun x => .bool (isStepD x s), fun x hx => ?_, a_nil ⟨_, ds.map fun x => isStepD x s, rfl, by rw [List.map_map]; rfl, _, rfl, ?_⟩⟩)))))))))
    · refine ⟨[(2, x)], rfl, tg_name, ?_⟩
      dsimp only [setsD, DL.clr, List.set]
      exact e_call ⟨rfl, rfl⟩ (a_cons (e_var rfl (fun h => nomatch h) (a_cons (e_var rfl (fun h => nomatch h) (a_nil ⟨rfl, rfl, x, s, rfl, hv.2 x hx, rfl⟩)))))
    · show if (!(ds.map fun x => isStepD x s).all id) = true then _ else _
      rw [List.all_map]
      have e1 : ds.all (id ∘ fun x => isStepD x s) = ds.all (isStepD · s) := rfl
      rw [e1]
      cases q2 : ds.all (isStepD · s) with
      | false =>
        rw [q2, Bool.false_and] at hR
        exact iteT (s_ret (e_bl ⟨_, rfl, hR⟩))
      | true =>
        rw [q2, Bool.true_and] at hR
        obtain ⟨rs, rfl, m, e⟩ := steps_lm q2
        rw [List.length_map] at l1 l6
        have lr : rs.length ≤ HV := Nat.le_trans l6 (by decide)
        rw [e] at hR
        refine iteF (s_next ?_)
        dsimp only
        exact s_ret (e_call ⟨rfl, rfl⟩ (a_cons (e_call ⟨rfl, rfl⟩ (a_cons (e_var rfl (fun h => nomatch h) (a_nil ⟨rfl, rfl, rs, rfl, lr, a_nil ⟨rfl, rfl, .inl ⟨rs.map (·.1), rfl, by rw [List.length_map]; exact lr, _, rfl, hR⟩⟩⟩))))))
end
section
variable {P : Program} {w : World} {K : PySem.W.Frag} {mg : Str → Option Value} {bs : Heap}
def gs_is_wish : Gs := fun xs R => xs.length = 1 ∧ ∃ (d : PyData), xs = [.dat d] ∧ wt d ≤ HV ∧ R (.bool (isWishD d))
theorem ok_is_wish (T : Txt K mg) (nd : bs.NoDigits) (tabs : Tabled bs T) : FnG P w K mg bs 5 T.a_is_wish T.d_is_wish ["thing"] (spG K T.tb gs_is_wish) := by
  have C__is_row := ok__is_row (P := P) (w := w) (bs := bs) T nd tabs
  have C__letters_in := ok__letters_in (P := P) (w := w) (bs := bs) T nd tabs
  have C_are_ascending_below := ok_are_ascending_below (P := P) (w := w) (bs := bs) T nd tabs
  have C_is_tuple := ok_is_tuple (P := P) (w := w) (bs := bs) T nd tabs
  refine fnD T.F_is_wish sc_is_wish (fun xs R h => h.1) (fun cd A out s H E hcd hg hr => ⟨_, (pss_cons (ps_if (pt_not (PW.pt (pw_and (pt_val (pe_callG C_is_tuple hg (hr.mono (by decide)) (by rfl) T.g_is_tuple T.F_is_tuple.kp T.b_is_tuple (pa_cons (pv 0) (pa_cons pe_int (pa_cons pe_int pa_nil))))) (pw_and1 (pt_val (pe_callG C_is_tuple hg (hr.mono (by decide)) (by rfl) T.g_is_tuple T.F_is_tuple.kp T.b_is_tuple (pa_cons (pe_ix (ix_seqK (K := K) rfl) (pv 0) pe_int (fun _ _ => rfl)) (pa_cons pe_int (pa_cons (pe_glob (v := .int 6) (by rfl) T.c_MOST_SPOTS ⟨_, rfl⟩) pa_nil)))))))))
  (pss_one (ps_ret pe_bl))
  pss_nil)
  (pss_cons (ps_asg (pv 0) (pg_tup (by rfl) (pgs_cons (pg_name (i := 1) sc_is_wish.nd rfl (.inr rfl)) (pgs_cons (pg_name (i := 2) sc_is_wish.nd rfl (.inl rfl)) pgs_nil))))
  (pss_cons (ps_if (pt_not (pt_val (pe_callB (call_allD (K := K) rfl (by rfl)) (by rfl) T.z_all (by decide +kernel) (pa_cons (pe_lc (own := [("row", 3)]) (g := (gName 3)) (tt := tYes) (by rfl) sc_is_wish.nd (pi_seqK (K := K) rfl (pv 1)) (blkOk_by (own := [("row", 3)]) (N := ["thing", "steps", "ends", "row"]) (sc := defScope s_is_wish) (by decide +kernel)) (fun _ _ _ _ _ => (pg_name (i := 3) sc_is_wish.nd rfl (Or.inl rfl))) (fun _ _ _ _ _ => pts_nil) (fun _ _ _ _ _ => (pe_callG C__is_row hg (hr.mono (by decide)) (by rfl) T.g__is_row T.F__is_row.kp T.b__is_row (pa_cons (pv 3) (pa_cons (pe_callB (call_lenK (K := K) rfl) (by rfl) T.z_len (by decide +kernel) (pa_cons (pv 1) pa_nil)) pa_nil))))) pa_nil))))
  (pss_one (ps_ret pe_bl))
  pss_nil)
  (pss_cons (ps_if (pt_not (pt_val (pe_callB (call_allD (K := K) rfl (by rfl)) (by rfl) T.z_all (by decide +kernel) (pa_cons (pe_lc (own := [("row", 3)]) (g := (gName 3)) (tt := tYes) (by rfl) sc_is_wish.nd (pi_seqK (K := K) rfl (pv 1)) (blkOk_by (own := [("row", 3)]) (N := ["thing", "steps", "ends", "row"]) (sc := defScope s_is_wish) (by decide +kernel)) (fun _ _ _ _ _ => (pg_name (i := 3) sc_is_wish.nd rfl (Or.inl rfl))) (fun _ _ _ _ _ => pts_nil) (fun _ _ _ _ _ => (pe_cmpR (op_eqK (K := K) rfl (by exact hr.units)) (pe_callG C__letters_in hg (hr.mono (by decide)) (by rfl) T.g__letters_in T.F__letters_in.kp T.b__letters_in (pa_cons (pv 3) pa_nil)) (pe_callG C__letters_in hg (hr.mono (by decide)) (by rfl) T.g__letters_in T.F__letters_in.kp T.b__letters_in (pa_cons (pe_ix (ix_seqK (K := K) rfl) (pv 1) pe_int (fun _ _ => rfl)) pa_nil)) (nomark _)))) pa_nil))))
  (pss_one (ps_ret pe_bl))
  pss_nil)
  (pss_one (ps_ret (pe_callG C_are_ascending_below hg (hr.mono (by decide)) (by rfl) T.g_are_ascending_below T.F_are_ascending_below.kp T.b_are_ascending_below (pa_cons (pv 2) (pa_cons (pe_callB (call_lenK (K := K) rfl) (by rfl) T.z_len (by decide +kernel) (pa_cons (pv 1) pa_nil)) pa_nil))))))))), fun H0 own0 bg xs R h => ?_⟩)
  obtain ⟨_, d, rfl, hd, hR⟩ := h
  change S _ _ [.dat d, .no, .no, .no] _
  try dsimp only [cxOf]
  refine s_seq (s_if (t_not (t_and (t_B (e_call ⟨rfl, rfl⟩ (a_cons (e_var rfl (fun h => nomatch h) (a_cons (e_int (a_cons (e_int (a_nil ⟨rfl, rfl, d, 2, 2, rfl, hd, _, rfl, ?_⟩))))))))))))
  cases q : isTupD d 2 2 with
  | false =>
    rw [wish_no1 q] at hR
    exact iteF (iteT (s_ret (e_bl ⟨_, rfl, hR⟩)))
  | true =>
    obtain ⟨x, y, rfl⟩ := tup2 q
    have hv := (hv_tup hd).2
    have hx := hv x (by simp)
    have hy := hv y (by simp)
    refine iteT (t_B (e_call ⟨rfl, rfl⟩ (a_cons (e_op op2_ix (e_var rfl (fun h => nomatch h) (e_int ⟨0, x, rfl, rfl, a_cons (e_int (a_cons (e_int (a_nil ⟨rfl, rfl, x, 1, 6, rfl, hx, _, rfl, ?_⟩))))⟩))))))
    cases q2 : isTupD x 1 6 with
    | false =>
      rw [wish_no2 q2] at hR
      exact iteT (s_ret (e_bl ⟨_, rfl, hR⟩))
    | true =>
      obtain ⟨rows, rfl, l1, l6⟩ := tup_len (a := 1) (b := 6) q2
      have hr := hv_tup hx
      rw [wish_yes l1 l6] at hR
      refine iteF (s_next ?_)
      dsimp only
      refine s_seq (s_set2 rfl (e_var rfl (fun h => nomatch h) ⟨_, _, rfl, ?_⟩))
      dsimp only [List.set]
      refine s_seq (s_if (t_not (t_B (e_cb cl_allD (a_cons (e_lcM (ic_of (i_seq (e_var rfl (fun h => nomatch h) ⟨_, rows, rfl, rfl, hv_line hr.1, fun x => .bool (isRowD x (rows.length : Nat)), fun x hx => ?_, a_nil ⟨_, rows.map fun x => isRowD x (rows.length : Nat), rfl, by rw [List.map_map]; rfl, _, rfl, ?_⟩⟩)))))))))
      · refine ⟨[(3, x)], rfl, tg_name, ?_⟩
        dsimp only [setsD, DL.clr, List.set]
        exact e_call ⟨rfl, rfl⟩ (a_cons (e_var rfl (fun h => nomatch h) (a_cons (e_cb cl_lenQ (a_cons (e_var rfl (fun h => nomatch h) (a_nil ⟨_, rows, rfl, rfl, a_nil ⟨rfl, rfl, x, _, rfl, hr.2 x hx, rfl⟩⟩)))))))
      · show if (!(rows.map fun x => isRowD x (rows.length : Nat)).all id) = true then _ else _
        rw [List.all_map]
        have e1 : rows.all (id ∘ fun x => isRowD x (rows.length : Nat)) = rows.all fun r => isRowD r (rows.length : Nat) := rfl
        rw [e1]
        cases q3 : rows.all fun r => isRowD r (rows.length : Nat) with
        | false =>
          rw [q3, Bool.false_and] at hR
          exact iteT (s_ret (e_bl ⟨_, rfl, hR⟩))
        | true =>
          rw [q3, Bool.true_and] at hR
          have each : ∀ r ∈ rows, ∃ rs, RowOf (rows.length : Nat) r rs := fun r hr => row_of (List.all_eq_true.mp q3 r hr)
          have h0 := head_at l1
          obtain ⟨r0, ok0⟩ := each _ (List.mem_of_getElem? h0)
          refine iteF (s_next ?_)
          dsimp only
          refine s_seq (s_if (t_not (t_B (e_cb cl_allD (a_cons (e_lcM (ic_of (i_seq (e_var rfl (fun h => nomatch h) ⟨_, rows, rfl, rfl, hv_line hr.1, fun x => .bool (decide (lettersR x = lettersR (rows.headD .none))), fun x hx => ?_, a_nil ⟨_, rows.map fun x => decide (lettersR x = lettersR (rows.headD .none)), rfl, by rw [List.map_map]; rfl, _, rfl, ?_⟩⟩)))))))))
          · obtain ⟨rs, ok⟩ := each x hx
            have f0 : r0.length ≤ HV := Nat.le_trans ok0.few (by decide)
            have f1 : rs.length ≤ HV := Nat.le_trans ok.few (by decide)
            refine ⟨[(3, x)], rfl, tg_name, ?_⟩
            dsimp only [setsD, DL.clr, List.set]
            have at0 : ixD (.dat (.tuple rows)) ((0 : Nat) : Int) = some (rows.headD .none) := atI_of h0
            refine e_op (op2_or op2_eqSt op2_eqD) (e_call ⟨rfl, rfl⟩ (a_cons (e_var rfl (fun h => nomatch h) (a_nil ⟨rfl, rfl, rs, by rw [ok.eq], f1, e_call ⟨rfl, rfl⟩ (a_cons (e_op op2_ix (e_var rfl (fun h => nomatch h) (e_int ⟨0, _, rfl, at0, a_nil ⟨rfl, rfl, r0, by rw [ok0.eq], f0, .inr ⟨_, _, rfl, rfl, shaped_lets ok.isLet, shaped_lets ok0.isLet, ?_⟩⟩⟩))))⟩))))
            rw [eqv_lstr, ok.lets, ok0.lets]
          · show if (!(rows.map fun x => decide (lettersR x = lettersR (rows.headD .none))).all id) = true then _ else _
            rw [List.all_map]
            have e2 : rows.all (id ∘ fun x => decide (lettersR x = lettersR (rows.headD .none))) = rows.all fun r => decide (lettersR r = lettersR (rows.headD .none)) := rfl
            rw [e2]
            cases q4 : rows.all fun r => decide (lettersR r = lettersR (rows.headD .none)) with
            | false =>
              rw [q4, Bool.false_and] at hR
              exact iteT (s_ret (e_bl ⟨_, rfl, hR⟩))
            | true =>
              rw [q4, Bool.true_and] at hR
              refine iteF (s_next ?_)
              dsimp only
              exact s_ret (e_call ⟨rfl, rfl⟩ (a_cons (e_var rfl (fun h => nomatch h) (a_cons (e_cb cl_lenQ (a_cons (e_var rfl (fun h => nomatch h) (a_nil ⟨_, rows, rfl, rfl, a_nil ⟨rfl, rfl, y, _, rfl, hy, _, rfl, hR⟩⟩))))))))
end
section
variable {P : Program} {w : World} {K : PySem.W.Frag} {mg : Str → Option Value} {bs : Heap}
def gs_takes : Gs := fun xs R => xs.length = 2 ∧ ∃ (rows : List (List (Str × Int))) (ends : List Int) (s : Nat) (ls : List Str) (z : Str), xs = [.dat (wishD rows ends), .dat (.str z)] ∧ Wk s rows ls ∧ (∀ c ∈ z.cps.toList, chS c ∈ ls) ∧ R (.bool (decide (runW rows z.cps.toList 0 ∈ ends)))
theorem ok_takes (T : Txt K mg) (nd : bs.NoDigits) (tabs : Tabled bs T) : FnG P w K mg bs 1 T.a_takes T.d_takes ["wish", "word"] (spG K T.tb gs_takes) := by
  refine fnD T.F_takes sc_takes (fun xs R h => h.1) (fun cd A out s H E hcd hg hr => ⟨_, (pss_cons (ps_asg (pv 0) (pg_tup (by rfl) (pgs_cons (pg_name (i := 2) sc_takes.nd rfl (.inl rfl)) (pgs_cons (pg_name (i := 3) sc_takes.nd rfl (.inl rfl)) pgs_nil))))
  (pss_cons (ps_setLc (i := 4) (own := [("row", 7)]) (g := (gName 7)) (tt := tYes) (by rfl) sc_takes.nd rfl rfl (by rfl) (pi_seqK (K := K) rfl (pv 2)) (blkOk_by (own := [("row", 7)]) (N := ["wish", "word", "steps", "ends", "rows", "spot", "letter", "row"]) (sc := defScope s_takes) (by decide +kernel)) (fun _ _ _ _ _ => (pg_name (i := 7) sc_takes.nd rfl (Or.inl rfl))) (fun _ _ _ _ _ => pts_nil) (fun _ _ _ _ _ => (pe_callTy (call_dictPK (K := K) rfl rfl) (by rfl) T.z_dict (by decide +kernel) (pa_cons (pv 7) pa_nil))))
  (pss_cons (ps_set (i := 5) sc_takes.nd rfl (.inl rfl) pe_int)
  (pss_cons (ps_for PassesOwn.never rfl (pi_str (pv 1)) (pg_name (i := 6) sc_takes.nd rfl (.inl rfl))
  (pss_one (ps_set (i := 5) sc_takes.nd rfl (.inl rfl) (pe_dget (units1 hr) (pe_ix (ix_seqK (K := K) rfl) (pv 4) (pv 5) (fun _ _ => rfl)) (pv 6) (fun _ _ => rfl)))))
  (pss_one (ps_ret (pe_cmpR (op_inA (K := K) rfl (by exact units65 hr)) (pv 5) (pv 3) (by rfl)))))))), fun H0 own0 bg xs R h => ?_⟩)
  obtain ⟨_, rows, ends, s, ls, z, rfl, W, hz, hR⟩ := h
  change S _ _ [.dat (wishD rows ends), .dat (.str z), .no, .no, .no, .no, .no, .no] _
  try dsimp only [cxOf]
  have wp := W.pos
  have w6 := W.few
  have wl := W.len
  refine s_seq (s_set2 rfl (e_var rfl (fun h => nomatch h) ⟨_, _, rfl, ?_⟩))
  dsimp only [List.set]
  refine s_seq (s_set (e_lcG (ic_of (i_seq (e_var rfl (fun h => nomatch h) ⟨_, rows.map rwD, rfl, rfl, by rw [List.length_map]; exact hv_line (show rows.length ≤ HV from Nat.le_trans (by omega : rows.length ≤ 6) (by decide)), fun k acc => acc = (rows.take k).map dcR, rfl, ?_, ?_⟩)))))
  · rintro k d acc hd rfl
    rw [List.getElem?_map] at hd
    obtain ⟨rs, hrs, rfl⟩ : ∃ rs, rows[k]? = some rs ∧ d = rwD rs := by
      cases q : rows[k]? with
      | none => rw [q] at hd; cases hd
      | some x => rw [q] at hd; exact ⟨x, rfl, (Option.some.inj hd).symm⟩
    have sq := dc_seq (W.lets rs (List.mem_of_getElem? hrs))
    refine ⟨[(7, rwD rs)], rfl, tg_name, ?_⟩
    dsimp only [setsD, DL.clr, List.set]
    unfold Lc
    refine t_yes (iteT (e_cb cl_dictS (a_cons (e_var rfl (fun h => nomatch h) (a_nil ⟨_, _, rfl, sq.1, sq.2, _, rfl, ?_⟩)))))
    show (rows.take k).map dcR ++ _ = (rows.take (k + 1)).map dcR
    rw [DL.take_next hrs, List.map_append]
    rfl
  rintro acc rfl _
  rw [List.length_map, List.take_length]
  refine ⟨trivial, ?_⟩
  dsimp only [List.set]
  refine s_seq (s_set (e_int ⟨trivial, ?_⟩))
  dsimp only [List.set]
  refine s_seq (s_forC (e_var rfl (fun h => nomatch h) ⟨z, rfl, fun n ρ => ∃ x6 x7 : Sl, ρ = [.dat (wishD rows ends), .dat (.str z), .dat (.tuple (rows.map rwD)), .dat (.tuple (ends.map .int)), .dat (.list (rows.map dcR)), .dat (.int (runW rows (z.cps.toList.take n) 0)), x6, x7], ⟨_, _, rfl⟩, ?_, ?_⟩))
  · rintro n c ρ' hc ⟨x6, x7, rfl⟩
    have hc2 : z.cps.toList[n]? = some c := by rw [Array.getElem?_toList]; exact hc
    have mc := hz c (List.mem_of_getElem? hc2)
    have v := W.run (cs := z.cps.toList.take n) (x := 0) (fun d hd => hz d (List.mem_of_mem_take hd)) (Int.le_refl 0) (by omega)
    have ar := W.at_ v.1 v.2
    have st := W.step v.1 v.2 mc
    have ax : ixD (.dat (.list (rows.map dcR))) (runW rows (z.cps.toList.take n) 0) = some (dcR (rows.getD (runW rows (z.cps.toList.take n) 0).toNat [])) := by
      have := atI_of (xs := rows.map dcR) (i := (runW rows (z.cps.toList.take n) 0).toNat) (by rw [List.getElem?_map, ar.1]; rfl)
      rw [Int.toNat_of_nonneg v.1] at this
      exact this
    dsimp only [List.set]
    refine s_set (e_dgetS (e_op op2_ix (e_var rfl (fun h => nomatch h) (e_var rfl (fun h => nomatch h) ⟨_, _, rfl, ax, e_var rfl (fun h => nomatch h) ⟨_, _, _, rfl, rfl, st.1, trivial, .dat (.str ⟨#[c]⟩), x7, ?_⟩⟩))))
    rw [take_snoc hc2, runW_snoc]
    rfl
  · rintro ρ' ⟨x6, x7, rfl⟩
    have e : z.cps.toList.take z.cps.size = z.cps.toList := by rw [← Array.length_toList, List.take_length]
    rw [e]
    refine s_ret (e_op op2_isInA (e_var rfl (fun h => nomatch h) (e_var rfl (fun h => nomatch h) ⟨_, _, rfl, rfl, shaped_int _, shaped_ints _, _, rfl, ?_⟩)))
    rw [any_int]
    exact hR
end
section
variable {P : Program} {w : World} {K : PySem.W.Frag} {mg : Str → Option Value} {bs : Heap}
def gs_not_taken : Gs := fun xs R => xs.length = 1 ∧ ∃ (rows : List (List (Str × Int))) (ends : List Int), xs = [.dat (wishD rows ends)] ∧ rows.length ≤ 6 ∧ R (wishD rows (notE rows.length ends))
theorem ok_not_taken (T : Txt K mg) (nd : bs.NoDigits) (tabs : Tabled bs T) : FnG P w K mg bs 1 T.a_not_taken T.d_not_taken ["wish"] (spG K T.tb gs_not_taken) := by
  refine fnD T.F_not_taken sc_not_taken (fun xs R h => h.1) (fun cd A out s H E hcd hg hr => ⟨_, (pss_cons (ps_asg (pv 0) (pg_tup (by rfl) (pgs_cons (pg_name (i := 1) sc_not_taken.nd rfl (.inl rfl)) (pgs_cons (pg_name (i := 2) sc_not_taken.nd rfl (.inr rfl)) pgs_nil))))
  (pss_one (ps_ret (pe_tupP (pa_cons (pv 1) (pa_cons (pe_callTy (call_tupleK (K := K) rfl) (by rfl) T.z_tuple (by decide +kernel) (pa_cons (pe_lc (own := [("spot", 3)]) (g := (gName 3)) (by rfl) sc_not_taken.nd (pi_range1 (by rfl) T.z_range (pa_cons (pe_callB (call_lenK (K := K) rfl) (by rfl) T.z_len (by decide +kernel) (pa_cons (pv 1) pa_nil)) pa_nil)) (blkOk_by (own := [("spot", 3)]) (N := ["wish", "steps", "ends", "spot"]) (sc := defScope s_not_taken) (by decide +kernel)) (fun _ _ _ _ _ => (pg_name (i := 3) sc_not_taken.nd rfl (Or.inl rfl))) (fun _ _ _ _ _ => (pts_one (pt_cmpR (op_notInA (K := K) rfl (by exact units65 hr)) (pv 3) (pv 2) (by rfl)))) (fun _ _ _ _ _ => (pv 3))) pa_nil)) pa_nil)))))), fun H0 own0 bg xs R h => ?_⟩)
  obtain ⟨_, rows, ends, rfl, hl, hR⟩ := h
  change S _ _ [.dat (wishD rows ends), .no, .no, .no] _
  try dsimp only [cxOf]
  have hs : rows.length ≤ sizeLine := hv_line (Nat.le_trans hl (by decide))
  refine s_seq (s_set2 rfl (e_var rfl (fun h => nomatch h) ⟨_, _, rfl, ?_⟩))
  dsimp only [List.set]
  refine s_ret (e_tup (a_cons (e_var rfl (fun h => nomatch h) (a_cons (e_cb cl_tuple (a_cons (e_lcF (ic_of (i_rng1 (a_cons (e_cb cl_lenQ (a_cons (e_var rfl (fun h => nomatch h) (a_nil ⟨_, rows.map rwD, rfl, rfl, a_nil ⟨_, rfl, by rw [List.length_map]; omega, by rw [List.length_map]; omega, ?_⟩⟩))))))))))))))
  rw [List.length_map, Int.toNat_natCast]
  refine ⟨by rw [rngD_len]; exact hs, fun d => match d with
    | .int x => if (!decide (x ∈ ends)) = true then some (.int x) else none
    | _ => none, fun d hd => ?_, ?_⟩
  · obtain ⟨i, hi⟩ := List.mem_iff_getElem?.mp hd
    obtain ⟨hi, rfl⟩ := rngD_of hi
    refine ⟨[(3, .int (0 + (i : Nat)))], rfl, tg_name, ?_⟩
    dsimp only [setsD, DL.clr, List.set]
    refine t_test (e_op op2_notInA (e_var rfl (fun h => nomatch h) (e_var rfl (fun h => nomatch h) ⟨_, _, rfl, rfl, shaped_int _, shaped_ints _, _, rfl, ?_⟩)))
    rw [any_int]
    show if (!decide ((0 + (i : Nat) : Int) ∈ ends)) = true then _ else (if (!decide ((0 + (i : Nat) : Int) ∈ ends)) = true then _ else _) = _
    cases q : (!decide ((0 + (i : Nat) : Int) ∈ ends)) with
    | true => exact iteT (e_var rfl (fun h => nomatch h) ⟨_, rfl, rfl⟩)
    | false => exact iteF rfl
  · rw [rng_idT, fm_filter (g := PyData.int) (p := fun x => !decide (x ∈ ends)) fun x => rfl]
    exact a_nil ⟨_, _, rfl, rfl, a_nil ⟨_, rfl, hv_line (show 2 ≤ HV by decide), _, rfl, hR⟩⟩
end
section
variable {P : Program} {w : World} {K : PySem.W.Frag} {mg : Str → Option Value} {bs : Heap}
theorem ok__law_bag (T : Txt K mg) (nd : bs.NoDigits) (tabs : Tabled bs T) : FnG P w K mg bs 1 T.a__law_bag T.d__law_bag ["script"] (spBag K) := by
  refine fnG T.F__law_bag sc__law_bag (fun vs H Q E h => ?_) (fun cd A out s H vs Q E hcd hg hr h => ?_)
  · obtain ⟨a, ns, rfl, _⟩ := h
    rfl
  · obtain ⟨a, ns, rfl, hS, k⟩ := h
    refine ⟨_, (pss_one (ps_ret (pe_lst (pa_cons pe_int (pa_cons pe_int (pa_cons pe_int (pa_cons (pe_lc (own := [("cell", 1)]) (g := (gName 1)) (tt := tYes) (by rfl) sc__law_bag.nd (pi_listK (K := K) rfl (pe_slice sl_list (pv 0) po_none (po_some pe_int))) (blkOk_by (own := [("cell", 1)]) (N := ["script", "cell"]) (sc := defScope s__law_bag) (by decide +kernel)) (fun _ _ _ _ _ => (pg_name (i := 1) sc__law_bag.nd rfl (Or.inl rfl))) (fun _ _ _ _ _ => pts_nil) (fun _ _ _ _ _ => (pe_callB call_abs (by rfl) T.z_abs (by decide +kernel) (pa_cons (pv 1) pa_nil)))) pa_nil))))))), ?_⟩
    refine bag_go (Q := Q) hS rfl ?_ k
    dsimp only [cxOf, List.map]
    repeat walk_at "dl"
    refine e_lcL ?_
    repeat walk_at "dl"
    have few : (DL.cutD (ns.map PyData.int) none (some 63)).length ≤ 63 := by
      unfold DL.cutD
      rw [List.length_take]
      have e1 := HT.sIx_none (ns.map PyData.int).length 0
      have e2 := HT.sIx_nat (ns.map PyData.int).length (ns.map PyData.int).length 63
      have e3 : HT.sIx (ns.map PyData.int).length (ns.map PyData.int).length (some 63) = min 63 (ns.map PyData.int).length := e2
      rw [e1, e3]
      omega
    obtain ⟨cs, hcs, _⟩ := cut_ints ns none (some 63)
    rw [hcs, List.length_map] at few
    rw [hcs]
    refine ⟨by rw [List.length_map]; exact Nat.le_trans few (Nat.le_of_ble_eq_true rfl), fun i acc => ∃ ms : List Int, acc = ms.map PyData.int, ⟨[], rfl⟩, ?_, ?_⟩
    · rintro i d acc hd ⟨ms, rfl⟩
      obtain ⟨c, rfl⟩ : ∃ c : Int, d = .int c := by
        rw [List.getElem?_map] at hd
        cases q : cs[i]? with
        | none =>
          rw [q] at hd
          cases hd
        | some c =>
          rw [q] at hd
          exact ⟨c, (Option.some.inj hd).symm⟩
      unfold Lc
      refine t_yes (iteT ?_)
      repeat walk_at "dl"
      refine ⟨ms ++ [if c < 0 then -c else c], ?_⟩
      rw [List.map_append]
      rfl
    · rintro acc ⟨ms, rfl⟩ hl
      repeat walk_at "dl"
      rw [List.length_map, List.length_map] at hl
      exact ⟨ms, by omega, rfl⟩
end
section
variable {P : Program} {w : World} {K : PySem.W.Frag} {mg : Str → Option Value} {bs : Heap}
def gs__law_take : Gs := fun xs R => xs.length = 2 ∧ ∃ n : Int, xs = [.bag, .dat (.int n)] ∧ 1 ≤ n ∧ Sm 250 n ∧ ∀ r : Int, 0 ≤ r → r < n → R (.int r)
theorem ok__law_take (T : Txt K mg) (nd : bs.NoDigits) (tabs : Tabled bs T) : FnG P w K mg bs 1 T.a__law_take T.d__law_take ["bag", "many"] (spG K T.tb gs__law_take) := by
  refine fnD T.F__law_take sc__law_take (fun xs R h => h.1) (fun cd A out s H E hcd hg hr => ⟨_, (pss_cons (ps_if (pt_cmpR (op_eqK (K := K) rfl (by exact hr.units)) (pe_ix (ix_seqK (K := K) rfl) (pv 0) pe_int (fun _ _ => rfl)) pe_int (nomark _))
  (pss_cons (ps_set (i := 2) sc__law_take.nd rfl (.inl rfl) (pe_ix (ix_seqK (K := K) rfl) (pe_op op_catL (pe_slice sl_list (pe_ix (ix_seqK (K := K) rfl) (pv 0) pe_int (fun _ _ => rfl)) (po_some (pe_ix (ix_seqK (K := K) rfl) (pv 0) pe_int (fun _ _ => rfl))) po_none) (pe_lst (pa_cons pe_int pa_nil))) pe_int (fun _ _ => rfl)))
  (pss_cons (ps_augS (pv 0) pe_int get_list pe_int ip_add set_list)
  (pss_cons (ps_if (pt_cmpR op_ge (pv 2) (pe_op op_pow pe_int pe_int) (nomark _))
  (pss_one (ps_asg (pv 2) (pg_sub (pv 0) pe_int set_list)))
  pss_nil)
  (pss_cons (ps_set (i := 3) sc__law_take.nd rfl (.inl rfl) (pe_op op_addG (pe_op op_addG (pe_op op_mulG (pe_ix (ix_seqK (K := K) rfl) (pv 0) pe_int (fun _ _ => rfl)) pe_int) (pe_op op_modN (pe_callTy call_int1 (by rfl) T.z_int (by decide +kernel) (pa_cons (pv 2) pa_nil)) pe_int)) (pe_op op_mulG pe_int (pe_ix (ix_seqK (K := K) rfl) (pv 0) pe_int (fun _ _ => rfl)))))
  (pss_one (ps_asg (pe_op op_modN (pe_callTy call_int1 (by rfl) T.z_int (by decide +kernel) (pa_cons (pv 3) pa_nil)) pe_int) (pg_sub (pv 0) pe_int set_list)))))))
  pss_nil)
  (pss_cons (ps_if (pt_cmpR op_gt (pe_ix (ix_seqK (K := K) rfl) (pv 0) pe_int (fun _ _ => rfl)) pe_int (nomark _))
  (pss_cons (ps_set (i := 4) sc__law_take.nd rfl (.inl rfl) (pe_op op_modN (pe_callTy call_int1 (by rfl) T.z_int (by decide +kernel) (pa_cons (pe_ix (ix_seqK (K := K) rfl) (pv 0) pe_int (fun _ _ => rfl)) pa_nil)) (pv 1)))
  (pss_cons (ps_asg (pe_op op_fdivA (pe_callTy call_int1 (by rfl) T.z_int (by decide +kernel) (pa_cons (pe_ix (ix_seqK (K := K) rfl) (pv 0) pe_int (fun _ _ => rfl)) pa_nil)) (pv 1)) (pg_sub (pv 0) pe_int set_list))
  (pss_one (ps_ret (pv 4)))))
  pss_nil)
  (pss_cons (ps_set (i := 5) sc__law_take.nd rfl (.inl rfl) (pe_op op_modN (pe_callTy call_int1 (by rfl) T.z_int (by decide +kernel) (pa_cons (pe_op op_mulG (pe_op op_addG (pe_ix (ix_seqK (K := K) rfl) (pv 0) pe_int (fun _ _ => rfl)) pe_int) pe_int) pa_nil)) pe_int))
  (pss_cons (ps_set (i := 6) sc__law_take.nd rfl (.inl rfl) (pe_op op_modN (pe_callTy call_int1 (by rfl) T.z_int (by decide +kernel) (pa_cons (pe_op op_mulG (pe_op op_modN (pe_callTy call_int1 (by rfl) T.z_int (by decide +kernel) (pa_cons (pe_op op_mulG (pv 5) (pv 5)) pa_nil)) pe_int) pe_int) pa_nil)) pe_int))
  (pss_one (ps_ret (pe_op op_modN (pe_callTy call_int1 (by rfl) T.z_int (by decide +kernel) (pa_cons (pe_op op_fdivA (pv 6) pe_int) pa_nil)) (pv 1)))))))), fun H0 own0 bg xs R h => ?_⟩)
  obtain ⟨_, n, rfl, n1, n2, hR⟩ := h
  change S _ _ [.bag, .dat (.int n), .no, .no, .no, .no, .no] _
  try dsimp only [cxOf]
  have nz : n ≠ 0 := by omega
  have np : ∀ c : Int, CFd c n := fun c => ⟨nz, PyProof.noPylong_of_log2 ((n2.mono (by decide : 250 ≤ 9000)).log (by decide))⟩
  have md : ∀ c : Int, 0 ≤ c.fmod n ∧ c.fmod n < n := fun c => by
    rw [Int.fmod_eq_emod_of_nonneg _ (by omega)]
    exact ⟨Int.emod_nonneg _ nz, Int.emod_lt_of_pos _ (by omega)⟩
  have mo : ∀ (c : Int) (k : Int), 0 < k → 0 ≤ c.fmod k ∧ c.fmod k < k := fun c k hk => by
    rw [Int.fmod_eq_emod_of_nonneg _ (by omega)]
    exact ⟨Int.emod_nonneg _ (by omega), Int.emod_lt_of_pos _ hk⟩
  refine s_seq (S.cut (M := fun ρ => ∃ x2 x3, ρ = [.bag, .dat (.int n), x2, x3, .no, .no, .no]) ?_ ?_)
  · repeat walk_at "dl"
    refine ite2 (fun hc => ?_) (fun hc => ?_)
    · repeat walk_at "dl"
      intro ns hns
      repeat walk_at "dl"
      rename_i c1
      refine ⟨?_, ?_⟩
      · have := cut_nil ns (some c1) none
        have big : 64 ≤ sizeLine := Nat.le_of_ble_eq_true rfl
        show (cutD (ns.map PyData.int) (some c1) none).length + 1 ≤ sizeLine
        omega
      repeat walk_at "dl"
      obtain ⟨cell, hcell⟩ := cut_first ns (some c1) none 0
      refine ⟨_, _, rfl, hcell, ?_⟩
      repeat walk_at "dl"
      refine ite2 (fun hc => ?_) (fun hc => ?_)
      · repeat walk_at "dl"
        exact ⟨_, _, rfl⟩
      · repeat walk_at "dl"
        exact ⟨_, _, rfl⟩
    · repeat walk_at "dl"
      exact ⟨_, _, rfl⟩
  · rintro ρ ⟨x2, x3, rfl⟩
    repeat walk_at "dl"
    refine ite2 (fun hc => ?_) (fun hc => ?_)
    · repeat walk_at "dl"
      rename_i c1
      refine ⟨nz, ?_⟩
      repeat walk_at "dl"
      refine ⟨np _, ?_⟩
      repeat walk_at "dl"
      exact hR _ (md _).1 (md _).2
    · repeat walk_at "dl"
      rename_i c1
      have b1 := mo ((c1 + 1) * 39373) 1000000007 (by decide)
      generalize ((c1 + 1) * 39373).fmod 1000000007 = beg at b1 ⊢
      refine ⟨.inr (.inl ⟨by omega, by omega⟩), ?_⟩
      repeat walk_at "dl"
      refine ⟨⟨by decide, PyProof.noPylong_small (by decide)⟩, ?_⟩
      repeat walk_at "dl"
      refine ⟨nz, ?_⟩
      repeat walk_at "dl"
      exact hR _ (md _).1 (md _).2
end
section
variable {P : Program} {w : World} {K : PySem.W.Frag} {mg : Str → Option Value} {bs : Heap}
def gs__law_some : Gs := fun xs R => xs.length = 2 ∧ ∃ ds : List PyData, xs = [.bag, .dat (.list ds)] ∧ 0 < ds.length ∧ ds.length < 1073741824 ∧ ∀ d, d ∈ ds → R d
theorem ok__law_some (T : Txt K mg) (nd : bs.NoDigits) (tabs : Tabled bs T) : FnG P w K mg bs 2 T.a__law_some T.d__law_some ["bag", "things"] (spG K T.tb gs__law_some) := by
  have C__law_take := ok__law_take (P := P) (w := w) (bs := bs) T nd tabs
  refine fnD T.F__law_some sc__law_some (fun xs R h => h.1) (fun cd A out s H E hcd hg hr => ⟨_, (pss_one (ps_ret (pe_ix (ix_seqK (K := K) rfl) (pv 1) (pe_callG C__law_take hg (hr.mono (by decide)) (by rfl) T.g__law_take T.F__law_take.kp T.b__law_take (pa_cons (pv 0) (pa_cons (pe_callB (call_lenK (K := K) rfl) (by rfl) T.z_len (by decide +kernel) (pa_cons (pv 1) pa_nil)) pa_nil))) (fun _ _ => rfl)))), fun H0 own0 bg xs R h => ?_⟩)
  obtain ⟨_, ds, rfl, h0, h1, hR⟩ := h
  change S _ _ [.bag, .dat (.list ds)] _
  try dsimp only [cxOf]
  repeat walk_at "dl"
  refine ⟨rfl, _, rfl, by omega, Sm.mono (a := 31) (by unfold Sm; omega) (by decide), fun r r0 r1 => ?_⟩
  have hr : r.toNat < ds.length := by omega
  have at_ : atI ds r = some ds[r.toNat] := by
    unfold atI ixN
    rw [if_pos r0, if_pos r1]
    exact List.getElem?_eq_getElem hr
  refine ⟨_, _, rfl, at_, _, rfl, hR _ (List.getElem_mem hr)⟩
end
section
variable {P : Program} {w : World} {K : PySem.W.Frag} {mg : Str → Option Value} {bs : Heap}
def gs__law_mixed : Gs := fun xs R => xs.length = 2 ∧ ∃ ds : List PyData, xs = [.bag, .dat (.list ds)] ∧ ds.length ≤ 64 ∧ ∀ es : List PyData, es.Perm ds → R (.list es)
theorem ok__law_mixed (T : Txt K mg) (nd : bs.NoDigits) (tabs : Tabled bs T) : FnG P w K mg bs 2 T.a__law_mixed T.d__law_mixed ["bag", "things"] (spG K T.tb gs__law_mixed) := by
  have C__law_take := ok__law_take (P := P) (w := w) (bs := bs) T nd tabs
  refine fnD T.F__law_mixed sc__law_mixed (fun xs R h => h.1) (fun cd A out s H E hcd hg hr => ⟨_, (pss_cons (ps_set (i := 2) sc__law_mixed.nd rfl (.inl rfl) (pe_lst pa_nil))
  (pss_cons (ps_for PassesOwn.never rfl (pi_seqK (K := K) rfl (pv 1)) (pg_name (i := 3) sc__law_mixed.nd rfl (.inl rfl))
  (pss_one (ps_expr (pe_bm PySem.F.plainAttrs_list PySem.F.slot_list_insert PySem.F.type_list_insert mt_insert (pv 2) (pa_cons (pe_callG C__law_take hg (hr.mono (by decide)) (by rfl) T.g__law_take T.F__law_take.kp T.b__law_take (pa_cons (pv 0) (pa_cons (pe_op op_addG (pe_callB (call_lenK (K := K) rfl) (by rfl) T.z_len (by decide +kernel) (pa_cons (pv 2) pa_nil)) pe_int) pa_nil))) (pa_cons (pv 3) pa_nil))))))
  (pss_one (ps_ret (pv 2))))), fun H0 own0 bg xs R h => ?_⟩)
  obtain ⟨_, ds, rfl, hl, hR⟩ := h
  change S _ _ [.bag, .dat (.list ds), .no, .no] _
  try dsimp only [cxOf]
  have big : 1000 ≤ sizeLine := Nat.le_of_ble_eq_true rfl
  refine s_seq (s_setOwn (a_nil ⟨[], rfl, Nat.zero_le _, fun p => ?_⟩))
  try dsimp only [List.set]
  refine s_seq (s_forS (e_var rfl (fun h => nomatch h) ⟨_, ds, rfl, rfl, fun n ρ => ∃ (es : List PyData) (x3 : Sl), es.Perm (ds.take n) ∧ ρ = [.bag, .dat (.list ds), .own p es, x3], ⟨[], .no, List.Perm.refl _, rfl⟩, ?_, ?_⟩))
  · rintro n d ρ' hd ⟨es, x3, hp, rfl⟩ H1
    try dsimp only [List.set]
    have le : es.length ≤ 64 := by
      rw [hp.length_eq, List.length_take]
      omega
    refine s_ins rfl (by omega) ?_
    repeat walk_at "dl"
    refine ⟨rfl, _, rfl, by omega, Sm.mono (a := 31) (by unfold Sm; omega) (by decide), fun r r0 r1 => ?_⟩
    repeat walk_at "dl"
    refine ⟨r0, by omega, ?_⟩
    refine ⟨_, _, ?_, rfl⟩
    rw [take_snoc hd]
    refine List.Perm.trans ?_ (List.Perm.append_right [d] hp)
    have e := List.take_append_drop r.toNat es
    rw [List.append_assoc]
    refine List.Perm.trans List.perm_middle ?_
    show (d :: (List.take r.toNat es ++ List.drop r.toNat es)).Perm _
    rw [e]
    exact (List.perm_append_singleton d es).symm
  · rintro ρ' ⟨es, x3, hp, rfl⟩
    refine s_retOwn rfl ?_
    rw [List.take_length] at hp
    exact hR es hp
end
section
variable {P : Program} {w : World} {K : PySem.W.Frag} {mg : Str → Option Value} {bs : Heap}
def gs__law_alike : Gs := fun xs R => xs.length = 2 ∧ ∃ (d : PyData) (m k : Nat), xs = [.dat d, .dat d] ∧ Fine m k d ∧ m ≤ 16000000 ∧ k ≤ 60 ∧ R (.bool true)
theorem ok__law_alike (T : Txt K mg) (nd : bs.NoDigits) (tabs : Tabled bs T) : FnG P w K mg bs 1 T.a__law_alike T.d__law_alike ["found", "due"] (spG K T.tb gs__law_alike) := by
  refine fnD T.F__law_alike sc__law_alike (fun xs R h => h.1) (fun cd A out s H E hcd hg hr => ⟨_, (pss_one (ps_ret (pe_and (pe_cmpR (op_eqK (K := K) rfl (by exact hr.units)) (pv 0) (pv 1) (nomark _)) (pe_one (pe_cmpR (op_eqK (K := K) rfl (by exact hr.units)) (pe_callB (call_repr hg nd hr.units) (by rfl) T.z_repr (by decide +kernel) (pa_cons (pv 0) pa_nil)) (pe_callB (call_repr hg nd hr.units) (by rfl) T.z_repr (by decide +kernel) (pa_cons (pv 1) pa_nil)) (nomark _)))))), fun H0 own0 bg xs R h => ?_⟩)
  obtain ⟨_, d, m, k, rfl, hd, hm, hk, hR⟩ := h
  change S _ _ [.dat d, .dat d] _
  try dsimp only [cxOf]
  have sz : d.shown.length ≤ sizeLine := Nat.le_trans hd.len (Nat.le_trans hm (Nat.le_of_ble_eq_true rfl))
  repeat walk_at "dl"
  refine ⟨hd.shaped hk, hd.shaped hk, ?_⟩
  rw [SeqAt.eqv_refl d hd.lay]
  repeat walk_at "dl"
  refine iteT ?_
  repeat walk_at "dl"
  refine ⟨hd.num, sz, Nat.le_trans hd.deep hk, ?_⟩
  repeat walk_at "dl"
  refine ⟨hd.num, sz, Nat.le_trans hd.deep hk, ?_⟩
  repeat walk_at "dl"
  rw [decide_eq_true rfl]
  exact hR
end
section
variable {P : Program} {w : World} {K : PySem.W.Frag} {mg : Str → Option Value} {bs : Heap}
def gs__law_is_int : Gs := fun xs R => xs.length = 1 ∧ ∃ (d : PyData), xs = [.dat d] ∧ R (.bool (isIntD d))
theorem ok__law_is_int (T : Txt K mg) (nd : bs.NoDigits) (tabs : Tabled bs T) : FnG P w K mg bs 1 T.a__law_is_int T.d__law_is_int ["thing"] (spG K T.tb gs__law_is_int) := by
  refine fnD T.F__law_is_int sc__law_is_int (fun xs R h => h.1) (fun cd A out s H E hcd hg hr => ⟨_, (pss_one (ps_ret (pe_and (pe_callB (isa_int (K := K) rfl) (by rfl) T.z_isinstance (by decide +kernel) (pa_cons (pv 0) (pa_cons (pe_bltn (v := .ty "int") (u := .type "int") (by rfl) T.z_int (by decide +kernel) rfl) pa_nil))) (pe_one (pe_not (pe_callB (isa_bool (K := K) rfl) (by rfl) T.z_isinstance (by decide +kernel) (pa_cons (pv 0) (pa_cons (pe_bltn (v := .ty "bool") (u := .type "bool") (by rfl) T.z_bool (by decide +kernel) rfl) pa_nil)))))))), fun H0 own0 bg xs R h => ?_⟩)
  obtain ⟨_, d, rfl, hR⟩ := h
  change S _ _ [.dat d] _
  try dsimp only [cxOf]
  rw [← isInt_eq] at hR
  refine s_ret (e_andV (e_isa (e_var rfl (fun h => nomatch h) ⟨d, rfl, _, rfl, ?_⟩)))
  cases q : d.isInt with
  | true =>
    rw [q] at hR
    refine iteT (e_notV (e_isa (e_var rfl (fun h => nomatch h) ⟨d, rfl, _, rfl, _, rfl, hR⟩)))
  | false =>
    rw [q] at hR
    exact iteF ⟨_, rfl, hR⟩
end
section
variable {P : Program} {w : World} {K : PySem.W.Frag} {mg : Str → Option Value} {bs : Heap}
def gs__law_odd : Gs := fun xs R => xs.length = 1 ∧ (xs = [.bag] ∧ ∀ d, okB d = true → R d)
theorem ok__law_odd (T : Txt K mg) (nd : bs.NoDigits) (tabs : Tabled bs T) : FnG P w K mg bs 3 T.a__law_odd T.d__law_odd ["bag"] (spG K T.tb gs__law_odd) := by
  have C__law_some := ok__law_some (P := P) (w := w) (bs := bs) T nd tabs
  refine fnD T.F__law_odd sc__law_odd (fun xs R h => h.1) (fun cd A out s H E hcd hg hr => ⟨_, (pss_cons (ps_set (i := 1) sc__law_odd.nd rfl (.inl rfl) (pe_lst (pa_cons pe_non (pa_cons pe_bl (pa_cons pe_bl (pa_cons pe_int (pa_cons pe_int (pa_cons pe_int (pa_cons (pe_un un_neg pe_int) (pa_cons (pe_op op_pow pe_int pe_int) (pa_cons pe_str (pa_cons pe_str (pa_cons pe_str (pa_cons pe_str (pa_cons (pe_tupP pa_nil) (pa_cons (pe_lst pa_nil) (pa_cons pe_dnewK (pa_cons (pe_tupP (pa_cons pe_int (pa_cons pe_int pa_nil))) (pa_cons (pe_lst (pa_cons pe_int (pa_cons pe_int pa_nil))) (pa_cons (pe_tupP (pa_cons (pe_tupP pa_nil) pa_nil)) (pa_cons (pe_tupP (pa_cons pe_int pa_nil)) (pa_cons (pe_tupP (pa_cons pe_int (pa_cons pe_int pa_nil))) pa_nil))))))))))))))))))))))
  (pss_cons (ps_set (i := 1) sc__law_odd.nd rfl (.inl rfl) (pe_op op_catL (pv 1) (pe_lst (pa_cons (pe_tupP (pa_cons (pe_tupP (pa_cons pe_int pa_nil)) pa_nil)) (pa_cons (pe_tupP (pa_cons pe_bl pa_nil)) (pa_cons (pe_tupP (pa_cons pe_str (pa_cons pe_int pa_nil))) (pa_cons (pe_tupP (pa_cons pe_int (pa_cons pe_str (pa_cons pe_int (pa_cons pe_int pa_nil))))) (pa_cons (pe_tupP (pa_cons (pe_tupP (pa_cons pe_int (pa_cons pe_int pa_nil))) (pa_cons pe_int (pa_cons pe_bl pa_nil)))) (pa_cons (pe_tupP (pa_cons pe_int (pa_cons (pe_tupP pa_nil) pa_nil))) (pa_cons (pe_tupP (pa_cons pe_int (pa_cons pe_int (pa_cons pe_int pa_nil)))) (pa_cons (pe_disp (pps_cons pe_str pe_int pps_nil) (by rfl) (by rfl) (fun z => by cases z) (by decide)) (pa_cons pe_str (pa_cons (pe_un un_neg (pe_op op_pow pe_int pe_int)) pa_nil)))))))))))))
  (pss_one (ps_ret (pe_callG C__law_some hg (hr.mono (by decide)) (by rfl) T.g__law_some T.F__law_some.kp T.b__law_some (pa_cons (pv 0) (pa_cons (pe_op op_catL (pv 1) (pe_lst (pa_cons (pe_tupP (pa_cons (pe_tupP (pa_cons (pe_tupP (pa_cons pe_int pa_nil)) pa_nil)) (pa_cons (pe_tupP (pa_cons (pe_tupP (pa_cons pe_str (pa_cons pe_int pa_nil))) pa_nil)) pa_nil))) (pa_cons (pe_tupP (pa_cons pe_int (pa_cons pe_int pa_nil))) (pa_cons (pe_tupP (pa_cons pe_int (pa_cons (pe_un un_neg pe_int) pa_nil))) (pa_cons (pe_tupP (pa_cons (pe_tupP (pa_cons pe_int (pa_cons pe_int pa_nil))) pa_nil)) (pa_cons (pe_tupP (pa_cons pe_non pa_nil)) (pa_cons (pe_op op_mulG pe_str pe_int) (pa_cons (pe_tupP (pa_cons pe_int (pa_cons pe_int (pa_cons pe_int pa_nil)))) pa_nil))))))))) pa_nil))))))), fun H0 own0 bg xs R h => ?_⟩)
  obtain ⟨_, rfl, hR⟩ := h
  change S _ _ [.bag, .no] _
  try dsimp only [cxOf]
  refine s_seq ?_
  repeat walk_at "ds"
  dsimp only [List.set]
  refine s_seq (s_set (e_op op2_catL (e_var rfl (fun h => nomatch h) ?_)))
  repeat walk_at "ds"
  refine ⟨mulOk_few (n := 30) (by decide) (by decide) (by decide +kernel), ?_⟩
  repeat walk_at "ds"
  refine ⟨rfl, _, rfl, (by show 0 < 37; decide), (by show 37 < 1073741824; decide), fun d hd => ?_⟩
  refine ⟨_, rfl, hR d (List.all_eq_true.mp ?_ d hd)⟩
  decide +kernel
end
section
variable {P : Program} {w : World} {K : PySem.W.Frag} {mg : Str → Option Value} {bs : Heap}
def gs__law_bent (deep : Nat) : Gs := fun xs R => xs.length = 3 ∧ ∃ d : PyData, xs = [.bag, .dat d, .dat (.int (deep : Nat))] ∧ plB d = true ∧ wt d ≤ 1200 ∧ d.depth ≤ 4 ∧ ∀ e, Gd (2 * wt d + 400) (d.depth + 5) e → R e
theorem bent_step (T : Txt K mg) (nd : bs.NoDigits) (tabs : Tabled bs T) {m deep : Nat} {G : Gs} (hm : 3 ≤ m) (C__law_bent : FnG P w K mg bs m T.a__law_bent T.d__law_bent ["bag", "thing", "deep"] (spG K T.tb G)) (hG : deep = 0 ∨ ∃ j, deep = j + 1 ∧ G = gs__law_bent j) :
    FnG P w K mg bs (m + 1) T.a__law_bent T.d__law_bent ["bag", "thing", "deep"] (spG K T.tb (gs__law_bent deep)) := by
  have C__law_is_int := ok__law_is_int (P := P) (w := w) (bs := bs) T nd tabs
  have C__law_odd := ok__law_odd (P := P) (w := w) (bs := bs) T nd tabs
  have C__law_some := ok__law_some (P := P) (w := w) (bs := bs) T nd tabs
  have C__law_take := ok__law_take (P := P) (w := w) (bs := bs) T nd tabs
  refine fnD T.F__law_bent sc__law_bent (fun xs R h => h.1) (fun cd A out s H E hcd hg hr => ⟨_, (pss_cons (ps_set (i := 3) sc__law_bent.nd rfl (.inl rfl) (pe_callG C__law_take hg (hr.mono (by omega)) (by rfl) T.g__law_take T.F__law_take.kp T.b__law_take (pa_cons (pv 0) (pa_cons pe_int pa_nil))))
  (pss_cons (ps_if (PW.pt (pw_or (pt_not (pt_val (pe_callB (isa_tuple (K := K) rfl) (by rfl) T.z_isinstance (by decide +kernel) (pa_cons (pv 1) (pa_cons (pe_bltn (v := .ty "tuple") (u := .type "tuple") (by rfl) T.z_tuple (by decide +kernel) rfl) pa_nil))))) (pw_or (pt_cmpR (op_eqK (K := K) rfl (by exact hr.units)) (pv 1) (pe_tupP pa_nil) (nomark _)) (pw_or (pt_cmpR (op_eqK (K := K) rfl (by exact hr.units)) (pv 2) pe_int (nomark _)) (pw_or1 (pt_cmpR (op_eqK (K := K) rfl (by exact hr.units)) (pv 3) pe_int (nomark _)))))))
  (pss_cons (ps_if (PW.pt (pw_and (pt_val (pe_callG C__law_is_int hg (hr.mono (by omega)) (by rfl) T.g__law_is_int T.F__law_is_int.kp T.b__law_is_int (pa_cons (pv 1) pa_nil))) (pw_and1 (pt_cmpR op_gt (pv 3) pe_int (nomark _)))))
  (pss_one (ps_ret (pe_callG C__law_some hg (hr.mono (by omega)) (by rfl) T.g__law_some T.F__law_some.kp T.b__law_some (pa_cons (pv 0) (pa_cons (pe_lst (pa_cons (pe_op op_addG (pv 1) pe_int) (pa_cons (pe_op op_sub (pv 1) pe_int) (pa_cons (pe_un un_neg (pv 1)) (pa_cons (pe_cmpR (op_eqK (K := K) rfl (by exact hr.units)) (pv 1) pe_int (nomark _)) (pa_cons (pe_callTy call_str_int (by rfl) T.z_str (by decide +kernel) (pa_cons (pv 1) pa_nil)) (pa_cons pe_int (pa_cons (pe_op op_pow pe_int pe_int) (pa_cons (pe_op op_addG (pe_op op_pow pe_int pe_int) pe_int) (pa_cons pe_int pa_nil)))))))))) pa_nil)))))
  pss_nil)
  (pss_one (ps_ret (pe_callG C__law_odd hg (hr.mono (by omega)) (by rfl) T.g__law_odd T.F__law_odd.kp T.b__law_odd (pa_cons (pv 0) pa_nil)))))
  pss_nil)
  (pss_cons (ps_set (i := 4) sc__law_bent.nd rfl (.inl rfl) (pe_callG C__law_take hg (hr.mono (by omega)) (by rfl) T.g__law_take T.F__law_take.kp T.b__law_take (pa_cons (pv 0) (pa_cons (pe_callB (call_lenK (K := K) rfl) (by rfl) T.z_len (by decide +kernel) (pa_cons (pv 1) pa_nil)) pa_nil))))
  (pss_cons (ps_if (pt_cmpR (op_eqK (K := K) rfl (by exact hr.units)) (pv 3) pe_int (nomark _))
  (pss_one (ps_ret (pe_callG C__law_some hg (hr.mono (by omega)) (by rfl) T.g__law_some T.F__law_some.kp T.b__law_some (pa_cons (pv 0) (pa_cons (pe_lst (pa_cons (pe_op (op_catK (K := K) rfl) (pe_slice (sl_seqK (K := K) rfl) (pv 1) po_none (po_some (pv 4))) (pe_slice (sl_seqK (K := K) rfl) (pv 1) (po_some (pe_op op_addG (pv 4) pe_int)) po_none)) (pa_cons (pe_op (op_catK (K := K) rfl) (pv 1) (pe_tupP (pa_cons (pe_ix (ix_seqK (K := K) rfl) (pv 1) (pv 4) (fun _ _ => rfl)) pa_nil))) (pa_cons (pe_callTy (call_listK (K := K) rfl) (by rfl) T.z_list (by decide +kernel) (pa_cons (pv 1) pa_nil)) (pa_cons (pe_revT (K := K) rfl (pv 1)) (pa_cons (pe_op (op_catK (K := K) rfl) (pv 1) (pv 1)) pa_nil)))))) pa_nil)))))
  pss_nil)
  (pss_one (ps_ret (pe_op (op_catK (K := K) rfl) (pe_op (op_catK (K := K) rfl) (pe_slice (sl_seqK (K := K) rfl) (pv 1) po_none (po_some (pv 4))) (pe_tupP (pa_cons (pe_callG C__law_bent hg (hr.mono (by omega)) (by rfl) T.g__law_bent T.F__law_bent.kp T.b__law_bent (pa_cons (pv 0) (pa_cons (pe_ix (ix_seqK (K := K) rfl) (pv 1) (pv 4) (fun _ _ => rfl)) (pa_cons (pe_op op_sub (pv 2) pe_int) pa_nil)))) pa_nil))) (pe_slice (sl_seqK (K := K) rfl) (pv 1) (po_some (pe_op op_addG (pv 4) pe_int)) po_none)))))))), fun H0 own0 bg xs R h => ?_⟩)
  obtain ⟨_, d, rfl, hp, hw, hd, hR⟩ := h
  change S _ _ [.bag, .dat d, .dat (.int (deep : Nat)), .no, .no] _
  try dsimp only [cxOf]
  have big : 10000 ≤ sizeLine := Nat.le_of_ble_eq_true rfl
  refine s_seq ?_
  repeat walk_at "ds"
  refine ⟨rfl, _, rfl, by decide, by decide, fun way w0 w1 => ⟨trivial, ?_⟩⟩
  dsimp only [List.set]
  refine s_seq (s_if (DL.T.mono (P := fun b => b = true ∨ (b = false ∧ deep ≠ 0 ∧ ∃ ds, d = .tuple ds ∧ 1 ≤ ds.length)) ?_ ?_))
  · refine t_or (t_not (t_B (e_isa (e_var rfl (fun h => nomatch h) ⟨d, rfl, _, rfl, ?_⟩))))
    cases q1 : d.isTuple with
    | false => exact iteT (.inl rfl)
    | true =>
    obtain ⟨ds, rfl⟩ := is_tup q1
    refine iteF (t_or (t_test (e_op (op2_or op2_eqSt op2_eqD) (e_var rfl (fun h => nomatch h) (e_tup (a_nil ⟨[], rfl, Nat.zero_le _, .inr ⟨_, _, rfl, rfl, pl_shaped hp hd, rfl, _, rfl, ?_⟩⟩))))))
    rw [show PyData.eqv (.tuple ds) (.tuple []) = ds.isEmpty from eqv_nil ds]
    cases q2 : ds.isEmpty with
    | true => exact iteT (.inl rfl)
    | false =>
    have l1 : 1 ≤ ds.length := by
      cases ds with
      | nil => cases q2
      | cons _ _ => rw [List.length_cons]; omega
    refine iteF (t_or (t_test (e_op (op2_or op2_eqSt op2_eqD) (e_var rfl (fun h => nomatch h) (e_int (.inr ⟨_, _, rfl, rfl, shaped_int _, shaped_int _, _, rfl, ?_⟩))))))
    rw [eqv_int]
    by_cases h0 : deep = 0
    · rw [decide_eq_true (by omega)]
      exact iteT (.inl rfl)
    rw [decide_eq_false (by omega)]
    refine iteF (t_test (e_op (op2_or op2_eqSt op2_eqD) (e_var rfl (fun h => nomatch h) (e_int (.inr ⟨_, _, rfl, rfl, shaped_int _, shaped_int _, _, rfl, ?_⟩)))))
    cases PyData.eqv (.int way) (.int 0) with
    | true => exact .inl rfl
    | false => exact .inr ⟨rfl, h0, ds, rfl, l1⟩
  · rintro b (rfl | ⟨rfl, h0, ds, rfl, l1⟩)
    · refine iteT (s_seq (s_if (DL.T.mono (P := fun b => b = true → ∃ n : Int, d = .int n) ?_ ?_)))
      · refine t_and (t_B (e_call ⟨rfl, rfl⟩ (a_cons (e_var rfl (fun h => nomatch h) (a_nil ⟨rfl, rfl, d, rfl, _, rfl, ?_⟩)))))
        cases d with
        | int n => exact iteT (t_test (e_op op2_B0 (e_var rfl (fun h => nomatch h) (e_int ⟨_, _, rfl, rfl, _, rfl, fun _ => ⟨n, rfl⟩⟩))))
        | none => exact iteF (fun h => by cases h)
        | bool _ => exact iteF (fun h => by cases h)
        | str _ => exact iteF (fun h => by cases h)
        | list _ => exact iteF (fun h => by cases h)
        | tuple _ => exact iteF (fun h => by cases h)
        | dict _ => exact iteF (fun h => by cases h)
      · intro b hb
        cases b with
        | true =>
          obtain ⟨n, rfl⟩ := hb rfl
          have hn : n.natAbs < 100 := by
            rw [plB, decide_eq_true_eq] at hp
            exact hp
          refine iteT ?_
          repeat walk_at "dl"
          refine ⟨by have := Nat.log2_le_self n.natAbs; omega, ?_⟩
          repeat walk_at "dl"
          refine ⟨rfl, _, rfl, (by show 0 < 9; decide), (by show 9 < 1073741824; decide), fun d hd => ⟨_, rfl, hR d ?_⟩⟩
          simp only [List.mem_cons, List.not_mem_nil, or_false] at hd
          rcases hd with rfl | rfl | rfl | rfl | rfl | rfl | rfl | rfl | rfl
          · exact gd_int (by omega) (by omega)
          · exact gd_int (by omega) (by omega)
          · exact gd_int (by omega) (by omega)
          · exact gd_bool _ (by omega) (by omega)
          · exact gd_strI hn (by omega) (by omega)
          · exact gd_int (by decide) (by omega)
          · exact gd_int (by decide) (by omega)
          · exact gd_int (by decide) (by omega)
          · exact gd_int (by decide) (by omega)
        | false =>
          refine iteF (s_next ?_)
          dsimp only
          exact s_ret (e_call ⟨rfl, rfl⟩ (a_cons (e_var rfl (fun h => nomatch h) (a_nil ⟨rfl, rfl, rfl, fun e he => ⟨_, rfl, hR e (gd_ok he (by omega) (by omega))⟩⟩))))
    · refine iteF (s_next ?_)
      dsimp only
      obtain ⟨j, rfl, rfl⟩ := hG.resolve_left h0
      have wd : wt (.tuple ds) = 3 + wtAll ds := wt_tup ds
      have wl := wtAll_len ds
      have dd : (PyData.tuple ds).depth = PyData.depthAll ds + 1 := depth_tup ds
      have hpa : plAll ds = true := by rw [plB] at hp; exact hp
      have okd : ∀ e ∈ ds, okInts e = true := fun e he => (pl_ok (plAll_mem hpa he)).1
      have dpd : ∀ e ∈ ds, e.depth + 1 ≤ (PyData.tuple ds).depth + 5 := fun e he => by have := depth_mem he; omega
      refine s_seq ?_
      repeat walk_at "ds"
      refine ⟨rfl, _, rfl, by omega, Sm.mono (a := 31) (by unfold Sm; omega) (by decide), fun at_ a0 a1 => ⟨trivial, ?_⟩⟩
      dsimp only [List.set]
      obtain ⟨n, rfl⟩ : ∃ n : Nat, at_ = (n : Nat) := ⟨at_.toNat, by omega⟩
      have ln : n < ds.length := by omega
      obtain ⟨x, hx⟩ : ∃ x, ds[n]? = some x := ⟨ds[n], List.getElem?_eq_getElem ln⟩
      have mx := List.mem_of_getElem? hx
      have hix : ixD (.dat (.tuple ds)) (n : Nat) = some x := atI_of hx
      have ws := wt_split hx
      have dx := depth_mem mx
      have len := wtAll_len (ds.take n)
      have sub1 : ∀ e ∈ ds.take n, e ∈ ds := fun e h => List.mem_of_mem_take h
      have sub2 : ∀ e ∈ ds.drop (n + 1), e ∈ ds := fun e h => List.mem_of_mem_drop h
      have l1' : (ds.take n).length ≤ 1200 := by rw [List.length_take]; omega
      have l2' : (ds.drop (n + 1)).length ≤ 1200 := by rw [List.length_drop]; omega
      have en : ((n : Nat) : Int) + 1 = ((n + 1 : Nat) : Int) := by omega
      refine s_seq (s_if (t_test (e_op (op2_or op2_eqSt op2_eqD) (e_var rfl (fun h => nomatch h) (e_int (.inr ⟨_, _, rfl, rfl, shaped_int _, shaped_int _, _, rfl, ?_⟩))))))
      refine ite2 (fun _ => ?_) (fun _ => s_next ?_)
      · refine s_ret (e_call ⟨rfl, rfl⟩ (a_cons (e_var rfl (fun h => nomatch h) (a_cons (e_lst (a_cons (e_op op2_catT (e_slA (e_var rfl (fun h => nomatch h) (o_none (o_some (e_var rfl (fun h => nomatch h) ⟨_, rfl, _, rfl, ?_⟩))))))))))))
        refine e_slA (e_var rfl (fun h => nomatch h) (o_some (e_op (op2_or op2_I0 op2_addS) (e_var rfl (fun h => nomatch h) (e_int (.inl ⟨_, _, rfl, rfl, _, rfl, o_none ⟨_, rfl, ?_⟩⟩))))))
        rw [en, cut_to ds (by omega), cut_from ds (by omega)]
        refine ⟨_, _, rfl, rfl, by omega, ?_⟩
        refine a_cons (e_op op2_catT (e_var rfl (fun h => nomatch h) (e_tup (a_cons (e_op op2_ix (e_var rfl (fun h => nomatch h)  (e_var rfl (fun h => nomatch h) ⟨_, x, rfl, hix, a_nil ⟨[x], rfl, (show 1 ≤ sizeLine by omega), _, _, rfl, rfl, (show ds.length + 1 ≤ sizeLine by omega), ?_⟩⟩)))))))
        refine a_cons (e_cb cl_list (a_cons (e_var rfl (fun h => nomatch h) (a_nil ⟨_, ds, rfl, rfl, ?_⟩))))
        refine a_cons (e_revT (e_var rfl (fun h => nomatch h) ⟨ds, rfl, ?_⟩))
        refine a_cons (e_op op2_catT (e_var rfl (fun h => nomatch h)  (e_var rfl (fun h => nomatch h) ⟨ds, ds, rfl, rfl, by omega, ?_⟩)))
        refine a_nil ⟨_, rfl, (show 5 ≤ sizeLine by omega), a_nil ⟨rfl, rfl, _, rfl, (by show 0 < 5; decide), (by show 5 < 1073741824; decide), fun d hd => ⟨_, rfl, hR d ?_⟩⟩⟩
        simp only [List.mem_cons, List.not_mem_nil, or_false] at hd
        rcases hd with rfl | rfl | rfl | rfl | rfl
        · refine gd_tup (fun e he => ?_) (by rw [wtAll_app]; omega) (fun e he => ?_) (by omega)
          · rcases List.mem_append.mp he with z | z
            · exact okd e (sub1 e z)
            · exact okd e (sub2 e z)
          · rcases List.mem_append.mp he with z | z
            · exact dpd e (sub1 e z)
            · exact dpd e (sub2 e z)
        · refine gd_tup (fun e he => ?_) (by rw [wtAll_app, wtAll, wtAll]; omega) (fun e he => ?_) (by omega)
          · rcases List.mem_append.mp he with z | z
            · exact okd e z
            · rw [List.mem_singleton.mp z]
              exact okd x mx
          · rcases List.mem_append.mp he with z | z
            · exact dpd e z
            · rw [List.mem_singleton.mp z]
              exact dpd x mx
        · exact gd_lst okd (by omega) dpd (by omega)
        · exact gd_tup (fun e he => okd e (List.mem_reverse.mp he)) (by rw [wtAll_rev]; omega) (fun e he => dpd e (List.mem_reverse.mp he)) (by omega)
        · refine gd_tup (fun e he => ?_) (by rw [wtAll_app]; omega) (fun e he => ?_) (by omega)
          · rcases List.mem_append.mp he with z | z <;> exact okd e z
          · rcases List.mem_append.mp he with z | z <;> exact dpd e z
      · dsimp only
        have ej : ((j + 1 : Nat) : Int) - 1 = (j : Nat) := by omega
        refine s_ret (e_op op2_catT (e_op op2_catT (e_slA (e_var rfl (fun h => nomatch h) (o_none (o_some (e_var rfl (fun h => nomatch h) ⟨_, rfl, _, rfl, ?_⟩)))))))
        refine e_tup (a_cons (e_call ⟨rfl, rfl⟩ (a_cons (e_var rfl (fun h => nomatch h) (a_cons (e_op op2_ix (e_var rfl (fun h => nomatch h)  (e_var rfl (fun h => nomatch h) ⟨_, x, rfl, hix, a_cons (e_op op2_I0 (e_var rfl (fun h => nomatch h) (e_int ⟨_, _, rfl, rfl, ?_⟩)))⟩))))))))
        rw [ej]
        refine a_nil ⟨rfl, rfl, x, rfl, plAll_mem hpa mx, by omega, by omega, fun e he => ?_⟩
        have ge := he.wt
        have gdp := he.deep
        refine a_nil ⟨[e], rfl, (show 1 ≤ sizeLine by omega), ?_⟩
        rw [cut_to ds (by omega)]
        refine ⟨_, _, rfl, rfl, (show (ds.take n).length + 1 ≤ sizeLine by omega), ?_⟩
        refine e_slA (e_var rfl (fun h => nomatch h) (o_some (e_op (op2_or op2_I0 op2_addS) (e_var rfl (fun h => nomatch h) (e_int (.inl ⟨_, _, rfl, rfl, _, rfl, o_none ⟨_, rfl, ?_⟩⟩))))))
        rw [en, cut_from ds (by omega)]
        refine ⟨_, _, rfl, rfl, by rw [List.length_append]; show (ds.take n).length + 1 + _ ≤ _; omega, _, rfl, hR _ ?_⟩
        refine gd_tup (fun y hy => ?_) (by rw [wtAll_app, wtAll_app, wtAll, wtAll]; omega) (fun y hy => ?_) (by omega)
        · rcases List.mem_append.mp hy with z | z
          · rcases List.mem_append.mp z with z | z
            · exact okd y (sub1 y z)
            · rw [List.mem_singleton.mp z]
              exact he.num
          · exact okd y (sub2 y z)
        · rcases List.mem_append.mp hy with z | z
          · rcases List.mem_append.mp z with z | z
            · exact dpd y (sub1 y z)
            · rw [List.mem_singleton.mp z]
              omega
          · exact dpd y (sub2 y z)
theorem ok__law_bent (T : Txt K mg) (nd : bs.NoDigits) (tabs : Tabled bs T) : FnG P w K mg bs 8 T.a__law_bent T.d__law_bent ["bag", "thing", "deep"] (spG K T.tb (gs__law_bent 4)) :=
  bent_step T nd tabs (by decide) (bent_step T nd tabs (by decide) (bent_step T nd tabs (by decide) (bent_step T nd tabs (by decide) (bent_step T nd tabs (by decide) (fnNone.mono (Nat.zero_le 3)) (.inl rfl)) (.inr ⟨0, rfl, rfl⟩)) (.inr ⟨1, rfl, rfl⟩)) (.inr ⟨2, rfl, rfl⟩)) (.inr ⟨3, rfl, rfl⟩)
end
section
variable {P : Program} {w : World} {K : PySem.W.Frag} {mg : Str → Option Value} {bs : Heap}
def gs__law_letters : Gs := fun xs R => xs.length = 0 ∧ (xs = [] ∧ R (.str abcS))
theorem ok__law_letters (T : Txt K mg) (nd : bs.NoDigits) (tabs : Tabled bs T) : FnG P w K mg bs 1 T.a__law_letters T.d__law_letters [] (spG K T.tb gs__law_letters) := by
  refine fnD T.F__law_letters sc__law_letters (fun xs R h => h.1) (fun cd A out s H E hcd hg hr => ⟨_, (pss_one (ps_ret pe_str)), fun H0 own0 bg xs R h => ?_⟩)
  obtain ⟨_, rfl, hR⟩ := h
  change S _ _ [] _
  try dsimp only [cxOf]
  exact s_ret (e_str ⟨_, rfl, hR⟩)
end
section
variable {P : Program} {w : World} {K : PySem.W.Frag} {mg : Str → Option Value} {bs : Heap}
def gs__law_is_letter : Gs := fun xs R => xs.length = 1 ∧ ∃ (d : PyData), xs = [.dat d] ∧ wt d ≤ HV ∧ R (.bool (isLetD d))
theorem ok__law_is_letter (T : Txt K mg) (nd : bs.NoDigits) (tabs : Tabled bs T) : FnG P w K mg bs 2 T.a__law_is_letter T.d__law_is_letter ["thing"] (spG K T.tb gs__law_is_letter) := by
  have C__law_letters := ok__law_letters (P := P) (w := w) (bs := bs) T nd tabs
  refine fnD T.F__law_is_letter sc__law_is_letter (fun xs R h => h.1) (fun cd A out s H E hcd hg hr => ⟨_, (pss_one (ps_ret (pe_and (pe_callB (isa_str (K := K) rfl) (by rfl) T.z_isinstance (by decide +kernel) (pa_cons (pv 0) (pa_cons (pe_bltn (v := .ty "str") (u := .type "str") (by rfl) T.z_str (by decide +kernel) rfl) pa_nil))) (pe_and (pe_cmpR (op_eqK (K := K) rfl (by exact hr.units)) (pe_callB (call_lenK (K := K) rfl) (by rfl) T.z_len (by decide +kernel) (pa_cons (pv 0) pa_nil)) pe_int (nomark _)) (pe_one (pe_cmpR op_inT (pv 0) (pe_callG0 C__law_letters hg (hr.mono (by decide)) (by rfl) T.g__law_letters T.F__law_letters.kp T.b__law_letters) (by rfl))))))), fun H0 own0 bg xs R h => ?_⟩)
  obtain ⟨_, d, rfl, hd, hR⟩ := h
  change S _ _ [.dat d] _
  try dsimp only [cxOf]
  refine s_ret (e_andV (e_isa (e_var rfl (fun h => nomatch h) ⟨d, rfl, _, rfl, ?_⟩)))
  cases d with
  | str z =>
    have lz := hv_line (wt_str hd)
    refine iteT (e_andV (e_op (op2_or op2_eqSt op2_eqD) (e_cb cl_len (a_cons (e_var rfl (fun h => nomatch h) (a_nil ⟨_, z.length, rfl, if_pos lz, e_int (.inr ⟨_, _, rfl, rfl, shaped_int _, shaped_int _, _, rfl, ?_⟩)⟩))))))
    rw [eqv_int]
    refine ite2 (fun h => ?_) (fun h => ?_)
    · have h : decide (((z.length : Nat) : Int) = 1) = true := h
      obtain ⟨c, rfl⟩ := len_one (z := z) (by have := of_decide_eq_true h; omega)
      rw [let_of, ← abc_mem] at hR
      exact e_op op2_isInT (e_var rfl (fun h => nomatch h) (e_call ⟨rfl, rfl⟩ (a_nil ⟨rfl, rfl, rfl, c, abcS, rfl, rfl, _, rfl, hR⟩)))
    · have h : ¬ decide (((z.length : Nat) : Int) = 1) = true := h
      rw [let_len (fun e => h (decide_eq_true (by omega)))] at hR
      exact ⟨_, rfl, hR⟩
  | none => exact iteF ⟨_, rfl, hR⟩
  | bool _ => exact iteF ⟨_, rfl, hR⟩
  | int _ => exact iteF ⟨_, rfl, hR⟩
  | list _ => exact iteF ⟨_, rfl, hR⟩
  | tuple _ => exact iteF ⟨_, rfl, hR⟩
  | dict _ => exact iteF ⟨_, rfl, hR⟩
end
section
variable {P : Program} {w : World} {K : PySem.W.Frag} {mg : Str → Option Value} {bs : Heap}
def gs__law_is_from : Gs := fun xs R => xs.length = 3 ∧ ∃ (d : PyData) (a b : Int), xs = [.dat d, .dat (.int a), .dat (.int b)] ∧ R (.bool (withinD d a b))
theorem ok__law_is_from (T : Txt K mg) (nd : bs.NoDigits) (tabs : Tabled bs T) : FnG P w K mg bs 2 T.a__law_is_from T.d__law_is_from ["thing", "least", "most"] (spG K T.tb gs__law_is_from) := by
  have C__law_is_int := ok__law_is_int (P := P) (w := w) (bs := bs) T nd tabs
  refine fnD T.F__law_is_from sc__law_is_from (fun xs R h => h.1) (fun cd A out s H E hcd hg hr => ⟨_, (pss_one (ps_ret (pe_and (pe_callG C__law_is_int hg (hr.mono (by decide)) (by rfl) T.g__law_is_int T.F__law_is_int.kp T.b__law_is_int (pa_cons (pv 0) pa_nil)) (pe_one (pe_chain op_le op_le (pv 1) (pv 0) (pv 2)))))), fun H0 own0 bg xs R h => ?_⟩)
  obtain ⟨_, d, a, b, rfl, hR⟩ := h
  change S _ _ [.dat d, .dat (.int a), .dat (.int b)] _
  try dsimp only [cxOf]
  refine s_ret (e_andV (e_call ⟨rfl, rfl⟩ (a_cons (e_var rfl (fun h => nomatch h) (a_nil ⟨rfl, rfl, d, rfl, _, rfl, ?_⟩)))))
  cases d with
  | int x =>
    refine iteT (e_chain (e_var rfl (fun h => nomatch h) (e_var rfl (fun h => nomatch h) ⟨a, x, rfl, rfl, ?_⟩)))
    have hR : R (.bool (decide (a ≤ x) && decide (x ≤ b))) := hR
    refine ite2 (fun h => ?_) (fun h => ?_)
    · refine e_var rfl (fun h => nomatch h) ⟨b, rfl, _, rfl, ?_⟩
      have h : decide (a ≤ x) = true := h
      rw [h, Bool.true_and] at hR
      exact hR
    · have h : ¬ decide (a ≤ x) = true := h
      rw [Bool.eq_false_iff.mpr h, Bool.false_and] at hR
      exact ⟨_, rfl, hR⟩
  | none => exact iteF ⟨_, rfl, hR⟩
  | bool _ => exact iteF ⟨_, rfl, hR⟩
  | str _ => exact iteF ⟨_, rfl, hR⟩
  | list _ => exact iteF ⟨_, rfl, hR⟩
  | tuple _ => exact iteF ⟨_, rfl, hR⟩
  | dict _ => exact iteF ⟨_, rfl, hR⟩
end
section
variable {P : Program} {w : World} {K : PySem.W.Frag} {mg : Str → Option Value} {bs : Heap}
def gs__law_word : Gs := fun xs R => xs.length = 3 ∧ ∃ (ss : List Str) (most : Nat), xs = [.bag, .dat (.list (ss.map .str)), .dat (.int (most : Int))] ∧ 1 ≤ ss.length ∧ ss.length ≤ 8 ∧ most ≤ 100 ∧ (∀ s ∈ ss, ∃ c, s = chS c) ∧ ∀ cs : List Nat, (∀ c ∈ cs, chS c ∈ ss) → cs.length ≤ most → R (.str ⟨cs.toArray⟩)
theorem ok__law_word (T : Txt K mg) (nd : bs.NoDigits) (tabs : Tabled bs T) : FnG P w K mg bs 3 T.a__law_word T.d__law_word ["bag", "letters", "most"] (spG K T.tb gs__law_word) := by
  have C__law_some := ok__law_some (P := P) (w := w) (bs := bs) T nd tabs
  have C__law_take := ok__law_take (P := P) (w := w) (bs := bs) T nd tabs
  refine fnD T.F__law_word sc__law_word (fun xs R h => h.1) (fun cd A out s H E hcd hg hr => ⟨_, (pss_one (ps_ret (pe_join pe_str (pe_lc (own := [("turn", 3)]) (g := (gName 3)) (tt := tYes) (by rfl) sc__law_word.nd (pi_range1 (by rfl) T.z_range (pa_cons (pe_callG C__law_take hg (hr.mono (by decide)) (by rfl) T.g__law_take T.F__law_take.kp T.b__law_take (pa_cons (pv 0) (pa_cons (pe_op op_addG (pv 2) pe_int) pa_nil))) pa_nil)) (blkOk_by (own := [("turn", 3)]) (N := ["bag", "letters", "most", "turn"]) (sc := defScope s__law_word) (by decide +kernel)) (fun _ _ _ _ _ => (pg_name (i := 3) sc__law_word.nd rfl (Or.inl rfl))) (fun _ _ _ _ _ => pts_nil) (fun _ _ _ _ _ => (pe_callG C__law_some hg (hr.mono (by decide)) (by rfl) T.g__law_some T.F__law_some.kp T.b__law_some (pa_cons (pv 0) (pa_cons (pv 1) pa_nil)))))))), fun H0 own0 bg xs R h => ?_⟩)
  obtain ⟨_, ss, most, rfl, s1, s8, hm, hs, hR⟩ := h
  change S _ _ [.bag, .dat (.list (ss.map .str)), .dat (.int (most : Int)), .no] _
  try dsimp only [cxOf]
  refine s_ret (e_join (e_str ⟨_, rfl, e_lcR (a_cons (e_call ⟨rfl, rfl⟩ ?_))⟩))
  repeat walk_at "dl"
  refine ⟨rfl, _, rfl, by omega, Sm.mono (a := 31) (by unfold Sm; omega) (by decide), fun r r0 r1 => ?_⟩
  refine a_nil ⟨r, rfl, by omega, by omega, fun i acc => ∃ cs : List Nat, acc = cs.map (fun c => PyData.str (chS c)) ∧ (∀ c ∈ cs, chS c ∈ ss) ∧ cs.length ≤ i, ⟨[], rfl, (fun c hc => by simp at hc), Nat.le_refl _⟩, ?_, ?_⟩
  · rintro i acc hi ⟨cs, rfl, hc, hl⟩
    unfold Lc
    refine t_yes (iteT ?_)
    repeat walk_at "dl"
    refine ⟨rfl, _, rfl, by rw [List.length_map]; omega, by rw [List.length_map]; omega, fun d hd => ?_⟩
    obtain ⟨s, hs2, rfl⟩ := List.mem_map.mp hd
    obtain ⟨c, rfl⟩ := hs s hs2
    refine ⟨_, rfl, cs ++ [c], by rw [List.map_append]; rfl, fun d hd => ?_, by rw [List.length_append, List.length_singleton]; omega⟩
    rcases List.mem_append.mp hd with h | h
    · exact hc d h
    · rw [List.mem_singleton.mp h]
      exact hs2
  · rintro acc ⟨cs, rfl, hc, hl⟩ _
    refine ⟨cs.map chS, .inl (by rw [List.map_map]; rfl), ?_, _, rfl, ?_⟩
    · rw [List.map_map]
      have e : ∀ cs : List Nat, (cs.map ((fun s : Str => s.length) ∘ chS)).sum = cs.length := by
        intro cs
        induction cs with
        | nil => rfl
        | cons c cs ih =>
          rw [List.map_cons, List.sum_cons, ih, List.length_cons]
          show 1 + _ = _
          omega
      rw [e, List.length_map]
      show cs.length + cs.length * 0 ≤ _
      omega
    · rw [join_ch]
      exact hR cs hc (by omega)
end
section
variable {P : Program} {w : World} {K : PySem.W.Frag} {mg : Str → Option Value} {bs : Heap}
def gs__law_wish : Gs := fun xs R => xs.length = 3 ∧ ∃ (zs : List Str), xs = [.bag, .dat (.list (zs.map .str)), .dat (.int 6)] ∧ zs.length ≤ 7 ∧ ∀ s rows ends, WishOk s rows ends zs → R (wishD rows ends)
theorem ok__law_wish (T : Txt K mg) (nd : bs.NoDigits) (tabs : Tabled bs T) : FnG P w K mg bs 2 T.a__law_wish T.d__law_wish ["bag", "letters", "most"] (spG K T.tb gs__law_wish) := by
  have C__law_take := ok__law_take (P := P) (w := w) (bs := bs) T nd tabs
  refine fnD T.F__law_wish sc__law_wish (fun xs R h => h.1) (fun cd A out s H E hcd hg hr => ⟨_, (pss_cons (ps_set (i := 3) sc__law_wish.nd rfl (.inr rfl) (pe_op op_addG pe_int (pe_callG C__law_take hg (hr.mono (by decide)) (by rfl) T.g__law_take T.F__law_take.kp T.b__law_take (pa_cons (pv 0) (pa_cons (pv 2) pa_nil)))))
  (pss_cons (ps_set (i := 4) sc__law_wish.nd rfl (.inl rfl) (pe_callTy (call_tupleK (K := K) rfl) (by rfl) T.z_tuple (by decide +kernel) (pa_cons (pe_lc (own := [("spot", 5)]) (g := (gName 5)) (tt := tYes) (by rfl) sc__law_wish.nd (pi_range1 (by rfl) T.z_range (pa_cons (pv 3) pa_nil)) (blkOk_by (own := [("spot", 5)]) (N := ["bag", "letters", "most", "spots", "steps", "spot", "letter"]) (sc := defScope s__law_wish) (by decide +kernel)) (fun _ _ _ _ _ => (pg_name (i := 5) sc__law_wish.nd rfl (Or.inl rfl))) (fun _ _ _ _ _ => pts_nil) (fun _ _ _ _ _ => (pe_callTy (call_tupleK (K := K) rfl) (by rfl) T.z_tuple (by decide +kernel) (pa_cons (by exact (pe_lc (own := [("letter", 6)]) (g := (gName 6)) (tt := tYes) (by rfl) sc__law_wish.nd (pi_seqK (K := K) rfl (pv 1)) (blkOk_by (own := [("letter", 6)]) (N := ["bag", "letters", "most", "spots", "steps", "spot", "letter"]) (sc := { kind := PySem.ScopeKind.function, names := [ (PySem.Str.ofString ".0", PySem.NameKind.local), (PySem.Str.ofString "spot", PySem.NameKind.local), (PySem.Str.ofString "tuple", PySem.NameKind.globalImplicit), (PySem.Str.ofString "bag", PySem.NameKind.cell), (PySem.Str.ofString "letters", PySem.NameKind.cell), (PySem.Str.ofString "spots", PySem.NameKind.cell)], isGenerator := false, isCoroutine := false, more := [] : PySem.Scope }) (by decide +kernel)) (fun _ _ _ _ _ => (pg_name (i := 6) sc__law_wish.nd rfl (Or.inl rfl))) (fun _ _ _ _ _ => pts_nil) (fun _ _ _ _ _ => (pe_tupP (pa_cons (pv 6) (pa_cons (pe_callG C__law_take hg (hr.mono (by decide)) (by rfl) T.g__law_take T.F__law_take.kp T.b__law_take (pa_cons (pv 0) (pa_cons (pv 3) pa_nil))) pa_nil)))))) pa_nil)))) pa_nil)))
  (pss_one (ps_ret (pe_tupP (pa_cons (pv 4) (pa_cons (pe_callTy (call_tupleK (K := K) rfl) (by rfl) T.z_tuple (by decide +kernel) (pa_cons (pe_lc (own := [("spot", 5)]) (g := (gName 5)) (by rfl) sc__law_wish.nd (pi_range1 (by rfl) T.z_range (pa_cons (pv 3) pa_nil)) (blkOk_by (own := [("spot", 5)]) (N := ["bag", "letters", "most", "spots", "steps", "spot", "letter"]) (sc := defScope s__law_wish) (by decide +kernel)) (fun _ _ _ _ _ => (pg_name (i := 5) sc__law_wish.nd rfl (Or.inl rfl))) (fun _ _ _ _ _ => (pts_one (pt_cmpR (op_eqK (K := K) rfl (by exact hr.units)) (pe_callG C__law_take hg (hr.mono (by decide)) (by rfl) T.g__law_take T.F__law_take.kp T.b__law_take (pa_cons (pv 0) (pa_cons pe_int pa_nil))) pe_int (nomark _)))) (fun _ _ _ _ _ => (pv 5))) pa_nil)) pa_nil))))))), fun H0 own0 bg xs R h => ?_⟩)
  obtain ⟨_, zs, rfl, z7, hR⟩ := h
  change S _ _ [.bag, .dat (.list (zs.map .str)), .dat (.int 6), .no, .no, .no, .no] _
  try dsimp only [cxOf]
  have big : 1000 ≤ sizeLine := Nat.le_of_ble_eq_true rfl
  refine s_seq (s_set (e_op (op2_or op2_I0 op2_addS) (e_int (e_call ⟨rfl, rfl⟩ (a_cons (e_var rfl (fun h => nomatch h) (a_cons (e_var rfl (fun h => nomatch h) (a_nil ⟨rfl, rfl, _, rfl, by decide, by decide, fun t t0 t1 => .inl ⟨_, _, rfl, rfl, trivial, ?_⟩⟩)))))))))
  obtain ⟨s, hs⟩ : ∃ s : Nat, 1 + t = (s : Nat) := ⟨(1 + t).toNat, by omega⟩
  have s1 : 1 ≤ s := by omega
  have s6 : s ≤ 6 := by omega
  rw [hs]
  dsimp only [List.set]
  refine s_seq (s_set (e_cb cl_tuple (a_cons (e_lcG (ic_of (i_rng1 (a_cons (e_var rfl (fun h => nomatch h) (a_nil ⟨_, rfl, by omega, by omega, ?_⟩)))))))))
  rw [Int.toNat_natCast]
  refine ⟨by rw [rngD_len]; omega, fun k acc => ∃ rows : List (List (Str × Int)), acc = rows.map rwD ∧ rows.length = k ∧ ∀ rs ∈ rows, rs.map (·.1) = zs ∧ ∀ p ∈ rs, 0 ≤ p.2 ∧ p.2 < (s : Int), ⟨[], rfl, rfl, fun rs h => by simp at h⟩, ?_, ?_⟩
  · rintro k d acc hd ⟨rows, rfl, hl, hr⟩
    refine ⟨[(5, d)], rfl, tg_name, ?_⟩
    dsimp only [setsD, DL.clr, List.set]
    unfold Lc
    refine t_yes (iteT (e_cb cl_tuple (a_cons (e_lcG (ic_of (i_seq (e_var rfl (fun h => nomatch h) ⟨_, zs.map .str, rfl, rfl, by rw [List.length_map]; omega, fun m acc => ∃ rs : List (Str × Int), acc = rs.map lmD ∧ rs.map (·.1) = zs.take m ∧ ∀ p ∈ rs, 0 ≤ p.2 ∧ p.2 < (s : Int), ⟨[], rfl, rfl, fun p h => by simp at h⟩, ?_, ?_⟩)))))))
    · rintro m d2 acc2 hd2 ⟨rs, rfl, e, v⟩
      rw [List.getElem?_map] at hd2
      obtain ⟨z, hz, rfl⟩ : ∃ z, zs[m]? = some z ∧ d2 = .str z := by
        cases q : zs[m]? with
        | none => rw [q] at hd2; cases hd2
        | some z => rw [q] at hd2; exact ⟨z, rfl, (Option.some.inj hd2).symm⟩
      refine ⟨[(6, .str z)], rfl, tg_name, ?_⟩
      dsimp only [setsD, DL.clr, List.set]
      unfold Lc
      refine t_yes (iteT (e_tup (a_cons (e_var rfl (fun h => nomatch h) (a_cons (e_call ⟨rfl, rfl⟩ (a_cons (e_var rfl (fun h => nomatch h) (a_cons (e_var rfl (fun h => nomatch h) (a_nil ⟨rfl, rfl, _, rfl, by omega, Sm.mono (a := 31) (by unfold Sm; omega) (by decide), fun r r0 r1 => a_nil ⟨_, rfl, (show 2 ≤ sizeLine by omega), _, rfl, rs ++ [(z, r)], by rw [List.map_append]; rfl, ?_, fun p hp => ?_⟩⟩)))))))))))
      · rw [DL.take_next hz, List.map_append, e]
        rfl
      · rcases List.mem_append.mp hp with y | y
        · exact v p y
        · rw [List.mem_singleton.mp y]
          exact ⟨r0, r1⟩
    · rintro acc2 ⟨rs, rfl, e, v⟩ _
      rw [List.length_map, List.take_length] at e
      refine a_nil ⟨_, _, rfl, rfl, _, rfl, rows ++ [rs], by rw [List.map_append]; rfl, by rw [List.length_append, hl]; rfl, fun rs2 h2 => ?_⟩
      rcases List.mem_append.mp h2 with y | y
      · exact hr rs2 y
      · rw [List.mem_singleton.mp y]
        exact ⟨e, v⟩
  rintro acc ⟨rows, rfl, hl, hr⟩ _
  rw [rngD_len] at hl
  refine a_nil ⟨_, _, rfl, rfl, trivial, ?_⟩
  dsimp only [List.set]
  refine s_ret (e_tup (a_cons (e_var rfl (fun h => nomatch h) (a_cons (e_cb cl_tuple (a_cons (e_lcG (ic_of (i_rng1 (a_cons (e_var rfl (fun h => nomatch h) (a_nil ⟨_, rfl, by omega, by omega, ?_⟩))))))))))))
  rw [Int.toNat_natCast]
  refine ⟨by rw [rngD_len]; omega, fun i acc => ∃ L : List Int, acc = L.map .int ∧ L.Pairwise (· < ·) ∧ ∀ x ∈ L, 0 ≤ x ∧ x < (i : Int), ⟨[], rfl, List.Pairwise.nil, fun x hx => by simp at hx⟩, ?_, ?_⟩
  · rintro i d acc hd ⟨L, rfl, h1, h2⟩
    obtain ⟨hi, rfl⟩ := rngD_of hd
    rw [Int.zero_add]
    refine ⟨[(5, .int (i : Nat))], rfl, tg_name, ?_⟩
    dsimp only [setsD, DL.clr, List.set]
    unfold Lc
    refine t_test (e_op (op2_or op2_eqSt op2_eqD) (e_call ⟨rfl, rfl⟩ (a_cons (e_var rfl (fun h => nomatch h) (a_cons (e_int (a_nil ⟨rfl, rfl, _, rfl, by decide, by decide, fun r r0 r1 => e_int (.inr ⟨_, _, rfl, rfl, shaped_int _, shaped_int _, _, rfl, ?_⟩)⟩)))))))
    refine ite2 (fun _ => ?_) (fun _ => ?_)
    · refine (e_var rfl (fun h => nomatch h) ⟨_, rfl, L ++ [(i : Int)], by rw [List.map_append]; rfl, List.pairwise_append.mpr ⟨h1, by simp, fun a ha b hb => ?_⟩, fun x hx => ?_⟩)
      · rw [List.mem_singleton.mp hb]
        exact (h2 a ha).2
      · rcases List.mem_append.mp hx with z | z
        · have := h2 x z
          omega
        · rw [List.mem_singleton.mp z]
          omega
    · exact ⟨L, rfl, h1, fun x hx => by have := h2 x hx; omega⟩
  · rintro acc ⟨L, rfl, h1, h2⟩ _
    rw [rngD_len] at h2
    exact a_nil ⟨_, _, rfl, rfl, a_nil ⟨_, rfl, (show 2 ≤ sizeLine by omega), _, rfl, hR s rows L ⟨hl, s1, s6, hr, h1, h2⟩⟩⟩
end
section
variable {P : Program} {w : World} {K : PySem.W.Frag} {mg : Str → Option Value} {bs : Heap}
def gs__law_takes : Gs := fun xs R => xs.length = 2 ∧ ∃ (rows : List (List (Str × Int))) (ends : List Int) (s : Nat) (ls : List Str) (z : Str), xs = [.dat (wishD rows ends), .dat (.str z)] ∧ Wk s rows ls ∧ (∀ c ∈ z.cps.toList, chS c ∈ ls) ∧ R (.bool (decide (runW rows z.cps.toList 0 ∈ ends)))
theorem ok__law_takes (T : Txt K mg) (nd : bs.NoDigits) (tabs : Tabled bs T) : FnG P w K mg bs 1 T.a__law_takes T.d__law_takes ["wish", "word"] (spG K T.tb gs__law_takes) := by
  refine fnD T.F__law_takes sc__law_takes (fun xs R h => h.1) (fun cd A out s H E hcd hg hr => ⟨_, (pss_cons (ps_set (i := 2) sc__law_takes.nd rfl (.inl rfl) pe_int)
  (pss_cons (ps_for PassesOwn.never rfl (pi_str (pv 1)) (pg_name (i := 3) sc__law_takes.nd rfl (.inl rfl))
  (pss_one (ps_set (i := 2) sc__law_takes.nd rfl (.inl rfl) (pe_dget (units1 hr) (pe_callTy (call_dictPK (K := K) rfl rfl) (by rfl) T.z_dict (by decide +kernel) (pa_cons (pe_ix (ix_seqK (K := K) rfl) (pe_ix (ix_seqK (K := K) rfl) (pv 0) pe_int (fun _ _ => rfl)) (pv 2) (fun _ _ => rfl)) pa_nil)) (pv 3) (fun _ _ => rfl)))))
  (pss_one (ps_ret (pe_cmpR (op_inA (K := K) rfl (by exact units65 hr)) (pv 2) (pe_ix (ix_seqK (K := K) rfl) (pv 0) pe_int (fun _ _ => rfl)) (by rfl)))))), fun H0 own0 bg xs R h => ?_⟩)
  obtain ⟨_, rows, ends, s, ls, z, rfl, W, hz, hR⟩ := h
  change S _ _ [.dat (wishD rows ends), .dat (.str z), .no, .no] _
  try dsimp only [cxOf]
  have wp := W.pos
  have w6 := W.few
  have wl := W.len
  refine s_seq (s_set (e_int ⟨trivial, ?_⟩))
  dsimp only [List.set]
  refine s_seq (s_forC (e_var rfl (fun h => nomatch h) ⟨z, rfl, fun n ρ => ∃ x3 : Sl, ρ = [.dat (wishD rows ends), .dat (.str z), .dat (.int (runW rows (z.cps.toList.take n) 0)), x3], ⟨_, rfl⟩, ?_, ?_⟩))
  · rintro n c ρ' hc ⟨x3, rfl⟩
    have hc2 : z.cps.toList[n]? = some c := by rw [Array.getElem?_toList]; exact hc
    have mc := hz c (List.mem_of_getElem? hc2)
    have v := W.run (cs := z.cps.toList.take n) (x := 0) (fun d hd => hz d (List.mem_of_mem_take hd)) (Int.le_refl 0) (by omega)
    have ar := W.at_ v.1 v.2
    have st := W.step v.1 v.2 mc
    have sq := dc_seq (W.lets _ ar.2)
    have ax : ixD (.dat (.tuple (rows.map rwD))) (runW rows (z.cps.toList.take n) 0) = some (rwD (rows.getD (runW rows (z.cps.toList.take n) 0).toNat [])) := by
      have := atI_of (xs := rows.map rwD) (i := (runW rows (z.cps.toList.take n) 0).toNat) (by rw [List.getElem?_map, ar.1]; rfl)
      rw [Int.toNat_of_nonneg v.1] at this
      exact this
    dsimp only [List.set]
    refine s_set (e_dgetS (e_cb cl_dictS (a_cons (e_op op2_ix (e_op op2_ix (e_var rfl (fun h => nomatch h) (e_int ⟨0, _, rfl, rfl, e_var rfl (fun h => nomatch h) ⟨_, _, rfl, ax, a_nil ⟨_, _, rfl, sq.1, sq.2, e_var rfl (fun h => nomatch h) ⟨_, _, _, rfl, rfl, st.1, trivial, .dat (.str ⟨#[c]⟩), ?_⟩⟩⟩⟩)))))))
    rw [take_snoc hc2, runW_snoc]
    rfl
  · rintro ρ' ⟨x3, rfl⟩
    have e : z.cps.toList.take z.cps.size = z.cps.toList := by rw [← Array.length_toList, List.take_length]
    rw [e]
    refine s_ret (e_op op2_isInA (e_var rfl (fun h => nomatch h) (e_op op2_ix (e_var rfl (fun h => nomatch h) (e_int ⟨1, _, rfl, rfl, _, _, rfl, rfl, shaped_int _, shaped_ints _, _, rfl, ?_⟩)))))
    rw [any_int]
    exact hR
end
section
variable {P : Program} {w : World} {K : PySem.W.Frag} {mg : Str → Option Value} {bs : Heap}
def gs__law_is_wish : Gs := fun xs R => xs.length = 1 ∧ ∃ (d : PyData), xs = [.dat d] ∧ wt d ≤ HV ∧ R (.bool (isWishD d))
theorem ok__law_is_wish (T : Txt K mg) (nd : bs.NoDigits) (tabs : Tabled bs T) : FnG P w K mg bs 3 T.a__law_is_wish T.d__law_is_wish ["thing"] (spG K T.tb gs__law_is_wish) := by
  have C__law_is_from := ok__law_is_from (P := P) (w := w) (bs := bs) T nd tabs
  have C__law_is_letter := ok__law_is_letter (P := P) (w := w) (bs := bs) T nd tabs
  refine fnD T.F__law_is_wish sc__law_is_wish (fun xs R h => h.1) (fun cd A out s H E hcd hg hr => ⟨_, (pss_cons (ps_if (PW.pt (pw_or (pt_not (pt_val (pe_callB (isa_tuple (K := K) rfl) (by rfl) T.z_isinstance (by decide +kernel) (pa_cons (pv 0) (pa_cons (pe_bltn (v := .ty "tuple") (u := .type "tuple") (by rfl) T.z_tuple (by decide +kernel) rfl) pa_nil))))) (pw_or (pt_cmpR (op_neK (K := K) rfl (by exact hr.units)) (pe_callB (call_lenK (K := K) rfl) (by rfl) T.z_len (by decide +kernel) (pa_cons (pv 0) pa_nil)) pe_int (nomark _)) (pw_or (pt_not (pt_val (pe_callB (isa_tuple (K := K) rfl) (by rfl) T.z_isinstance (by decide +kernel) (pa_cons (pe_ix (ix_seqK (K := K) rfl) (pv 0) pe_int (fun _ _ => rfl)) (pa_cons (pe_bltn (v := .ty "tuple") (u := .type "tuple") (by rfl) T.z_tuple (by decide +kernel) rfl) pa_nil))))) (pw_or1 (pt_not (pt_val (pe_callB (isa_tuple (K := K) rfl) (by rfl) T.z_isinstance (by decide +kernel) (pa_cons (pe_ix (ix_seqK (K := K) rfl) (pv 0) pe_int (fun _ _ => rfl)) (pa_cons (pe_bltn (v := .ty "tuple") (u := .type "tuple") (by rfl) T.z_tuple (by decide +kernel) rfl) pa_nil))))))))))
  (pss_one (ps_ret pe_bl))
  pss_nil)
  (pss_cons (ps_asg (pe_tupP (pa_cons (pe_callB (call_lenK (K := K) rfl) (by rfl) T.z_len (by decide +kernel) (pa_cons (pe_ix (ix_seqK (K := K) rfl) (pv 0) pe_int (fun _ _ => rfl)) pa_nil)) (pa_cons (pe_lst pa_nil) pa_nil))) (pg_tup (by rfl) (pgs_cons (pg_name (i := 1) sc__law_is_wish.nd rfl (.inr rfl)) (pgs_cons (pg_name (i := 2) sc__law_is_wish.nd rfl (.inr rfl)) pgs_nil))))
  (pss_cons (ps_if (pt_not (pt_chain op_le op_le pe_int (pv 1) pe_int))
  (pss_one (ps_ret pe_bl))
  pss_nil)
  (pss_cons (ps_for PassesOwn.never rfl (pi_seqK (K := K) rfl (pe_ix (ix_seqK (K := K) rfl) (pv 0) pe_int (fun _ _ => rfl))) (pg_name (i := 3) sc__law_is_wish.nd rfl (.inl rfl))
  (pss_cons (ps_if (PW.pt (pw_or (pt_not (pt_val (pe_callB (isa_tuple (K := K) rfl) (by rfl) T.z_isinstance (by decide +kernel) (pa_cons (pv 3) (pa_cons (pe_bltn (v := .ty "tuple") (u := .type "tuple") (by rfl) T.z_tuple (by decide +kernel) rfl) pa_nil))))) (pw_or1 (pt_not (pt_chain op_le op_le pe_int (pe_callB (call_lenK (K := K) rfl) (by rfl) T.z_len (by decide +kernel) (pa_cons (pv 3) pa_nil)) pe_int)))))
  (pss_one (ps_ret pe_bl))
  pss_nil)
  (pss_cons (ps_for PassesOwn.never rfl (pi_seqK (K := K) rfl (pv 3)) (pg_name (i := 4) sc__law_is_wish.nd rfl (.inl rfl))
  (pss_one (ps_if (PW.pt (pw_or (pt_not (pt_val (pe_callB (isa_tuple (K := K) rfl) (by rfl) T.z_isinstance (by decide +kernel) (pa_cons (pv 4) (pa_cons (pe_bltn (v := .ty "tuple") (u := .type "tuple") (by rfl) T.z_tuple (by decide +kernel) rfl) pa_nil))))) (pw_or (pt_cmpR (op_neK (K := K) rfl (by exact hr.units)) (pe_callB (call_lenK (K := K) rfl) (by rfl) T.z_len (by decide +kernel) (pa_cons (pv 4) pa_nil)) pe_int (nomark _)) (pw_or (pt_not (pt_val (pe_callG C__law_is_letter hg (hr.mono (by decide)) (by rfl) T.g__law_is_letter T.F__law_is_letter.kp T.b__law_is_letter (pa_cons (pe_ix (ix_seqK (K := K) rfl) (pv 4) pe_int (fun _ _ => rfl)) pa_nil)))) (pw_or1 (pt_not (pt_val (pe_callG C__law_is_from hg (hr.mono (by decide)) (by rfl) T.g__law_is_from T.F__law_is_from.kp T.b__law_is_from (pa_cons (pe_ix (ix_seqK (K := K) rfl) (pv 4) pe_int (fun _ _ => rfl)) (pa_cons pe_int (pa_cons (pe_op op_sub (pv 1) pe_int) pa_nil)))))))))))
  (pss_one (ps_ret pe_bl))
  pss_nil)))
  (pss_one (ps_expr (pe_bm PySem.F.plainAttrs_list PySem.F.slot_list_append PySem.F.type_list_append mt_append (pv 2) (pa_cons (pe_lc (own := [("one", 4)]) (g := (gName 4)) (tt := tYes) (by rfl) sc__law_is_wish.nd (pi_seqK (K := K) rfl (pv 3)) (blkOk_by (own := [("one", 4)]) (N := ["thing", "spots", "rows", "row", "one"]) (sc := defScope s__law_is_wish) (by decide +kernel)) (fun _ _ _ _ _ => (pg_name (i := 4) sc__law_is_wish.nd rfl (Or.inl rfl))) (fun _ _ _ _ _ => pts_nil) (fun _ _ _ _ _ => (pe_ix (ix_seqK (K := K) rfl) (pv 4) pe_int (fun _ _ => rfl)))) pa_nil)))))))
  (pss_cons (ps_if (pt_cmpR (op_neK (K := K) rfl (by exact hr.units)) (pe_lc (own := [("row", 3)]) (g := (gName 3)) (by rfl) sc__law_is_wish.nd (pi_seqK (K := K) rfl (pv 2)) (blkOk_by (own := [("row", 3)]) (N := ["thing", "spots", "rows", "row", "one"]) (sc := defScope s__law_is_wish) (by decide +kernel)) (fun _ _ _ _ _ => (pg_name (i := 3) sc__law_is_wish.nd rfl (Or.inl rfl))) (fun _ _ _ _ _ => (pts_one (PW.pt (pw_or (pt_cmpR (op_neK (K := K) rfl (by exact hr.units)) (pv 3) (pe_ix (ix_seqK (K := K) rfl) (pv 2) pe_int (fun _ _ => rfl)) (nomark _)) (pw_or1 (pt_cmpR (op_neK (K := K) rfl (by exact hr.units)) (pv 3) (pe_callB (call_sortedSetA (W := w) rfl (by rfl)) (by rfl) T.z_sorted (by decide +kernel) (pa_cons (pe_callTy (call_setA (K := K) (W := w) rfl rfl (by rfl)) (by rfl) T.z_set (by decide +kernel) (pa_cons (pv 3) pa_nil)) pa_nil)) (nomark _))))))) (fun _ _ _ _ _ => (pv 3))) (pe_lst pa_nil) (nomark _))
  (pss_one (ps_ret pe_bl))
  pss_nil)
  (pss_cons (ps_if (pt_cmpR (op_neK (K := K) rfl (by exact hr.units)) (pe_lc (own := [("one", 4)]) (g := (gName 4)) (by rfl) sc__law_is_wish.nd (pi_seqK (K := K) rfl (pe_ix (ix_seqK (K := K) rfl) (pv 0) pe_int (fun _ _ => rfl))) (blkOk_by (own := [("one", 4)]) (N := ["thing", "spots", "rows", "row", "one"]) (sc := defScope s__law_is_wish) (by decide +kernel)) (fun _ _ _ _ _ => (pg_name (i := 4) sc__law_is_wish.nd rfl (Or.inl rfl))) (fun _ _ _ _ _ => (pts_one (pt_not (pt_val (pe_callG C__law_is_from hg (hr.mono (by decide)) (by rfl) T.g__law_is_from T.F__law_is_from.kp T.b__law_is_from (pa_cons (pv 4) (pa_cons pe_int (pa_cons (pe_op op_sub (pv 1) pe_int) pa_nil)))))))) (fun _ _ _ _ _ => pe_int)) (pe_lst pa_nil) (nomark _))
  (pss_one (ps_ret pe_bl))
  pss_nil)
  (pss_one (ps_ret (pe_cmpR (op_eqK (K := K) rfl (by exact hr.units)) (pe_callTy (call_listK (K := K) rfl) (by rfl) T.z_list (by decide +kernel) (pa_cons (pe_ix (ix_seqK (K := K) rfl) (pv 0) pe_int (fun _ _ => rfl)) pa_nil)) (pe_callB (call_sortedSetA (W := w) rfl (by rfl)) (by rfl) T.z_sorted (by decide +kernel) (pa_cons (pe_callTy (call_setA (K := K) (W := w) rfl rfl (by rfl)) (by rfl) T.z_set (by decide +kernel) (pa_cons (pe_ix (ix_seqK (K := K) rfl) (pv 0) pe_int (fun _ _ => rfl)) pa_nil)) pa_nil)) (nomark _)))))))))), fun H0 own0 bg xs R h => ?_⟩)
  obtain ⟨_, d, rfl, hd, hR⟩ := h
  change S _ _ [.dat d, .no, .no, .no, .no] _
  try dsimp only [cxOf]
  refine s_seq (s_if (t_or (t_not (t_B (e_isa (e_var rfl (fun h => nomatch h) ⟨d, rfl, _, rfl, ?_⟩))))))
  cases q1 : d.isTuple with
  | false =>
    rw [wish_no4 q1] at hR
    exact iteT (iteT (s_ret (e_bl ⟨_, rfl, hR⟩)))
  | true =>
  obtain ⟨ds, rfl⟩ := is_tup q1
  refine iteF (t_or (t_test (e_op (op2_or op2_neSt op2_neD) (e_cb cl_lenQ (a_cons (e_var rfl (fun h => nomatch h) (a_nil ⟨_, ds, rfl, rfl, e_int (.inr ⟨_, _, rfl, rfl, shaped_int _, shaped_int _, _, rfl, ?_⟩)⟩)))))))
  rw [eqv_int]
  by_cases h2 : ds.length = 2
  case neg =>
    rw [wish_no5 h2] at hR
    rw [decide_eq_false (by omega)]
    exact iteT (iteT (s_ret (e_bl ⟨_, rfl, hR⟩)))
  rw [decide_eq_true (by omega)]
  obtain ⟨x, y, rfl⟩ := two_of h2
  have hv := (hv_tup hd).2
  have hx := hv x (by simp)
  have hy := hv y (by simp)
  refine iteF (t_or (t_not (t_B (e_isa (e_op op2_ix (e_var rfl (fun h => nomatch h) (e_int ⟨0, x, rfl, rfl, x, rfl, _, rfl, ?_⟩)))))))
  cases q2 : x.isTuple with
  | false =>
    rw [wish_no6 q2] at hR
    exact iteT (iteT (s_ret (e_bl ⟨_, rfl, hR⟩)))
  | true =>
  obtain ⟨rows, rfl⟩ := is_tup q2
  refine iteF (t_not (t_B (e_isa (e_op op2_ix (e_var rfl (fun h => nomatch h) (e_int ⟨1, y, rfl, rfl, y, rfl, _, rfl, ?_⟩))))))
  cases q3 : y.isTuple with
  | false =>
    rw [wish_no3 q3] at hR
    exact iteT (s_ret (e_bl ⟨_, rfl, hR⟩))
  | true =>
  obtain ⟨es, rfl⟩ := is_tup q3
  have hr := hv_tup hx
  have he := hv_tup hy
  refine iteF (s_next ?_)
  dsimp only
  refine s_seq (s_set2EL rfl (e_cb cl_lenQ (a_cons (e_op op2_ix (e_var rfl (fun h => nomatch h) (e_int ⟨0, _, rfl, rfl, a_nil ⟨_, rows, rfl, rfl, trivial, el_lst (a_nil ⟨[], rfl, Nat.zero_le _, fun p => ?_⟩)⟩⟩))))))
  dsimp only [List.set]
  refine s_seq (s_if (t_not (t_test (e_chain (e_int (e_var rfl (fun h => nomatch h) ⟨1, _, rfl, rfl, ?_⟩))))))
  by_cases l1 : 1 ≤ rows.length
  case neg =>
    rw [wish_no7 (fun h => l1 h.1)] at hR
    rw [decide_eq_false (by omega)]
    exact iteF ⟨_, rfl, iteT (s_ret (e_bl ⟨_, rfl, hR⟩))⟩
  rw [decide_eq_true (by omega)]
  refine iteT (e_int ⟨6, rfl, _, rfl, ?_⟩)
  by_cases l6 : rows.length ≤ 6
  case neg =>
    rw [wish_no7 (fun h => l6 h.2)] at hR
    rw [decide_eq_false (by omega)]
    exact iteT (s_ret (e_bl ⟨_, rfl, hR⟩))
  rw [decide_eq_true (by omega)]
  refine iteF (s_next ?_)
  dsimp only
  refine s_seq (s_forG (i_seq (e_op op2_ix (e_var rfl (fun h => nomatch h) (e_int ⟨0, _, rfl, rfl, _, rows, rfl, rfl, fun n ρ => ∃ x3 x4 : Sl, ρ = [.dat (.tuple [.tuple rows, .tuple es]), .dat (.int (rows.length : Nat)), .own p (((rows.take n).map lettersR).map lstS), x3, x4] ∧ ∀ r ∈ rows.take n, isRow0 r (rows.length : Nat) = true, ⟨_, _, rfl, fun r h => by simp at h⟩, ?_, ?_⟩)))))
  · rintro n r ρ' hn ⟨x3, x4, rfl, ok⟩
    have mr := List.mem_of_getElem? hn
    have wr := hr.2 r mr
    have ln := (List.getElem?_eq_some_iff.mp hn).1
    refine ⟨[(3, r)], tg_name, fun H1 => ?_⟩
    dsimp only [setsD, List.set]
    refine s_seq (s_if (t_or (t_not (t_B (e_isa (e_var rfl (fun h => nomatch h) ⟨r, rfl, _, rfl, ?_⟩))))))
    cases q4 : r.isTuple with
    | false =>
      rw [wish_bad mr (row0_no1 q4)] at hR
      exact iteT (iteT (s_ret (e_bl ⟨_, rfl, hR⟩)))
    | true =>
    obtain ⟨ts, rfl⟩ := is_tup q4
    have ht := hv_tup wr
    refine iteF (t_not (t_test (e_chain (e_int (e_cb cl_lenQ (a_cons (e_var rfl (fun h => nomatch h) (a_nil ⟨_, ts, rfl, rfl, 1, _, rfl, rfl, ?_⟩))))))))
    by_cases k1 : 1 ≤ ts.length
    case neg =>
      rw [wish_bad mr (row0_no2 (fun h => k1 h.1))] at hR
      rw [decide_eq_false (by omega)]
      exact iteF ⟨_, rfl, iteT (s_ret (e_bl ⟨_, rfl, hR⟩))⟩
    rw [decide_eq_true (by omega)]
    refine iteT (e_int ⟨6, rfl, _, rfl, ?_⟩)
    by_cases k6 : ts.length ≤ 6
    case neg =>
      rw [wish_bad mr (row0_no2 (fun h => k6 h.2))] at hR
      rw [decide_eq_false (by omega)]
      exact iteT (s_ret (e_bl ⟨_, rfl, hR⟩))
    rw [decide_eq_true (by omega)]
    refine iteF (s_next ?_)
    dsimp only
    refine s_seq (s_forG (i_seq (e_var rfl (fun h => nomatch h) ⟨_, ts, rfl, rfl, fun m ρ => ∃ x4 : Sl, ρ = [.dat (.tuple [.tuple rows, .tuple es]), .dat (.int (rows.length : Nat)), .own p (((rows.take n).map lettersR).map lstS), .dat (.tuple ts), x4] ∧ ∀ t ∈ ts.take m, isStepD t (rows.length : Nat) = true, ⟨_, rfl, fun r h => by simp at h⟩, ?_, ?_⟩)))
    · rintro m t ρ' hm ⟨x4, rfl, okt⟩
      have mt := List.mem_of_getElem? hm
      have wtt := ht.2 t mt
      refine ⟨[(4, t)], tg_name, fun H2 => ?_⟩
      dsimp only [setsD, List.set]
      have bad : isStepD t (rows.length : Nat) = false → R (.bool false) := fun z => by
        rw [wish_bad mr (row0_no3 mt z)] at hR
        exact hR
      refine s_if (t_or (t_not (t_B (e_isa (e_var rfl (fun h => nomatch h) ⟨t, rfl, _, rfl, ?_⟩)))))
      cases q5 : t.isTuple with
      | false => exact iteT (iteT (s_ret (e_bl ⟨_, rfl, bad (step_no1 q5)⟩)))
      | true =>
      obtain ⟨us, rfl⟩ := is_tup q5
      refine iteF (t_or (t_test (e_op (op2_or op2_neSt op2_neD) (e_cb cl_lenQ (a_cons (e_var rfl (fun h => nomatch h) (a_nil ⟨_, us, rfl, rfl, e_int (.inr ⟨_, _, rfl, rfl, shaped_int _, shaped_int _, _, rfl, ?_⟩)⟩)))))))
      rw [eqv_int]
      by_cases u2 : us.length = 2
      case neg =>
        rw [decide_eq_false (by omega)]
        exact iteT (iteT (s_ret (e_bl ⟨_, rfl, bad (step_no2 u2)⟩)))
      rw [decide_eq_true (by omega)]
      obtain ⟨a, b, rfl⟩ := two_of u2
      have wa := (hv_tup wtt).2 a (by simp)
      have st : isStepD (.tuple [a, b]) (rows.length : Nat) = (isLetD a && withinD b 0 ((rows.length : Nat) - 1)) := rfl
      refine iteF (t_or (t_not (t_B (e_call ⟨rfl, rfl⟩ (a_cons (e_op op2_ix (e_var rfl (fun h => nomatch h) (e_int ⟨0, a, rfl, rfl, a_nil ⟨rfl, rfl, a, rfl, wa, _, rfl, ?_⟩⟩))))))))
      cases q6 : isLetD a with
      | false =>
        rw [q6, Bool.false_and] at st
        exact iteT (iteT (s_ret (e_bl ⟨_, rfl, bad st⟩)))
      | true =>
      rw [q6, Bool.true_and] at st
      refine iteF (t_not (t_B (e_call ⟨rfl, rfl⟩ (a_cons (e_op op2_ix (e_var rfl (fun h => nomatch h) (e_int ⟨1, b, rfl, rfl, a_cons (e_int (a_cons (e_op op2_I0 (e_var rfl (fun h => nomatch h) (e_int ⟨_, _, rfl, rfl, a_nil ⟨rfl, rfl, b, 0, (rows.length : Nat) - 1, rfl, _, rfl, ?_⟩⟩)))))⟩)))))))
      cases q7 : withinD b 0 ((rows.length : Nat) - 1) with
      | false =>
        rw [q7] at st
        exact iteT (s_ret (e_bl ⟨_, rfl, bad st⟩))
      | true =>
      rw [q7] at st
      refine iteF (s_next ⟨_, rfl, fun t' h' => ?_⟩)
      rw [DL.take_next hm] at h'
      rcases List.mem_append.mp h' with z | z
      · exact okt t' z
      · rw [List.mem_singleton.mp z]
        exact st
    · rintro ρ' ⟨x4, rfl, okt⟩
      rw [List.take_length] at okt
      have r0 : isRow0 (.tuple ts) (rows.length : Nat) = true := by
        unfold isRow0
        dsimp only
        rw [decide_eq_true k1, decide_eq_true k6, List.all_eq_true.mpr okt]
        rfl
      obtain ⟨rs, e, _, _, el, _⟩ := row0_of r0
      have e : ts = rs.map lmD := by cases e; rfl
      subst e
      have ll : (((rows.take n).map lettersR).map lstS).length < sizeLine := by
        rw [List.length_map, List.length_map, List.length_take]
        have := hv_line (n := 7) (by decide)
        omega
      refine s_app rfl ll (e_lcM (ic_of (i_seq (e_var rfl (fun h => nomatch h) ⟨_, rs.map lmD, rfl, rfl, hv_line ht.1, fun d => match d with
        | .tuple (z :: _) => z
        | _ => .none, fun d hd => ?_, _, rfl, .dat (.tuple (rs.map lmD)), x4, ?_⟩))))
      · obtain ⟨q, hq, rfl⟩ := List.mem_map.mp hd
        refine ⟨[(4, lmD q)], rfl, tg_name, ?_⟩
        dsimp only [setsD, DL.clr, List.set]
        exact e_op op2_ix (e_var rfl (fun h => nomatch h) (e_int ⟨0, _, rfl, rfl, rfl⟩))
      · refine ⟨?_, fun r' h' => ?_⟩
        · rw [DL.take_next hn, List.map_append, List.map_append, List.map_cons, List.map_nil, List.map_cons, List.map_nil, el]
          unfold lstS
          simp only [List.map_map]
          rfl
        · rw [DL.take_next hn] at h'
          rcases List.mem_append.mp h' with z | z
          · exact ok r' z
          · rw [List.mem_singleton.mp z]
            exact r0
  · rintro ρ' ⟨x3, x4, rfl, ok⟩
    rw [List.take_length] at ok
    rw [List.take_length]
    rw [wish_split l1 l6 ok] at hR
    obtain ⟨zss, hz⟩ : ∃ zss, zss = rows.map lettersR := ⟨_, rfl⟩
    rw [← hz] at hR ⊢
    have lz : ∀ zs ∈ zss, (∀ z ∈ zs, isLetD (.str z) = true) ∧ zs.length ≤ 6 := fun zs h => by
      rw [hz] at h
      obtain ⟨r, hr', rfl⟩ := List.mem_map.mp h
      obtain ⟨rs, _, _, l6', el, al⟩ := row0_of (ok r hr')
      rw [el]
      exact ⟨al, by rw [List.length_map]; exact l6'⟩
    have zl : zss.length = rows.length := by rw [hz, List.length_map]
    have h0 : zss[0]? = some (zss.headD []) := by
      cases zss with
      | nil => rw [List.length_nil] at zl; omega
      | cons _ _ => rfl
    have at0 : ixD (.own p (zss.map lstS)) ((0 : Nat) : Int) = some (lstS (zss.headD [])) := atI_of (by rw [List.getElem?_map, h0]; rfl)
    have lz0 := lz _ (List.mem_of_getElem? h0)
    have ht : ascBelowD (.tuple es) (rows.length : Nat) = ((es.all fun x => withinD x 0 ((rows.length : Nat) - 1)) && ascB ltI (intsD es)) := rfl
    refine s_seq (s_if (t_test (e_op (op2_or op2_neSt op2_neD) (e_lcF (c_seq (e_var rfl (fun h => nomatch h) ⟨zss.map lstS, rfl, by rw [List.length_map]; exact hv_line (show zss.length ≤ HV from by rw [zl]; exact hr.1), badF (zss.headD []), fun d hd => ?_, e_lst (a_nil ⟨[], rfl, Nat.zero_le _, .inr ⟨_, _, rfl, rfl, ?_, rfl, _, rfl, ?_⟩⟩)⟩))))))
    · obtain ⟨zs, hzs, rfl⟩ := List.mem_map.mp hd
      have l1' := lz zs hzs
      refine ⟨[(3, lstS zs)], rfl, tg_name, ?_⟩
      dsimp only [setsD, DL.clr, List.set]
      refine t_or (t_test (e_op (op2_or op2_neSt op2_neD) (e_var rfl (fun h => nomatch h) (e_op op2_ix (e_var rfl (fun h => nomatch h) (e_int ⟨0, _, rfl, at0, .inr ⟨_, _, rfl, rfl, shaped_lets l1'.1, shaped_lets lz0.1, _, rfl, ?_⟩⟩))))))
      rw [show PyData.eqv (lstS zs) (lstS (zss.headD [])) = decide (zs = zss.headD []) from eqv_lstr _ _]
      by_cases e0 : zs = zss.headD []
      · rw [decide_eq_true e0]
        refine iteF (t_test (e_op (op2_or op2_neSt op2_neD) (e_var rfl (fun h => nomatch h) (e_sortSetA (e_var rfl (fun h => nomatch h) (.inr ⟨zs, rfl, by have := l1'.2; omega, fun ys s1 nd m => .inr ⟨_, _, rfl, rfl, shaped_lets l1'.1, shaped_lets fun z hz => l1'.1 z ((m z).mp hz), _, rfl, ?_⟩⟩))))))
        rw [show PyData.eqv (lstS zs) (.list (ys.map .str)) = decide (zs = ys) from eqv_lstr _ _, asc_sortS s1 nd m]
        have bf : badF (zss.headD []) (lstS zs) = if ascB ltS zs = true then none else some (lstS zs) := by
          unfold badF
          rw [strsD_lst, decide_eq_true e0, Bool.true_and]
        rw [bf]
        cases q : ascB ltS zs with
        | true => exact iteF rfl
        | false => exact iteT (e_var rfl (fun h => nomatch h) ⟨_, rfl, rfl⟩)
      · rw [decide_eq_false e0]
        have bf : badF (zss.headD []) (lstS zs) = some (lstS zs) := by
          unfold badF
          rw [strsD_lst, decide_eq_false e0, Bool.false_and]
          rfl
        rw [bf]
        exact iteT (iteT (e_var rfl (fun h => nomatch h) ⟨_, rfl, rfl⟩))
    · obtain ⟨yss, e, m⟩ := bad_sub (zss.headD []) zss
      rw [e]
      exact shaped_lst fun zs h => (lz zs (m zs h)).1
    rw [eqv_nil, bad_none]
    cases qL : letsOk zss with
    | false =>
      rw [qL, Bool.false_and] at hR
      exact iteT (s_ret (e_bl ⟨_, rfl, hR⟩))
    | true =>
    rw [qL, Bool.true_and, ht] at hR
    refine iteF (s_next ?_)
    dsimp only
    obtain ⟨fn, ns1, fe⟩ := far_none ((rows.length : Nat) - 1) es
    refine s_seq (s_if (t_test (e_op (op2_or op2_neSt op2_neD) (e_lcF (ic_of (i_seq (e_op op2_ix (e_var rfl (fun h => nomatch h) (e_int ⟨1, _, rfl, rfl, _, es, rfl, rfl, hv_line he.1, farF ((rows.length : Nat) - 1), fun d hd => ?_, e_lst (a_nil ⟨[], rfl, Nat.zero_le _, .inr ⟨_, _, rfl, rfl, by rw [fe]; exact shaped_ints _, rfl, _, rfl, ?_⟩⟩)⟩)))))))))
    · refine ⟨[(4, d)], rfl, tg_name, ?_⟩
      dsimp only [setsD, DL.clr, List.set]
      refine t_not (t_B (e_call ⟨rfl, rfl⟩ (a_cons (e_var rfl (fun h => nomatch h) (a_cons (e_int (a_cons (e_op op2_I0 (e_var rfl (fun h => nomatch h) (e_int ⟨_, _, rfl, rfl, a_nil ⟨rfl, rfl, d, 0, (rows.length : Nat) - 1, rfl, _, rfl, ?_⟩⟩))))))))))
      have bf : farF ((rows.length : Nat) - 1) d = if withinD d 0 ((rows.length : Nat) - 1) = true then none else some (.int 1) := rfl
      rw [bf]
      cases q : withinD d 0 ((rows.length : Nat) - 1) with
      | true => exact iteF rfl
      | false => exact iteT (e_int ⟨_, rfl, rfl⟩)
    rw [eqv_nil, fn]
    cases qe : es.all fun x => withinD x 0 ((rows.length : Nat) - 1) with
    | false =>
      rw [qe, Bool.false_and] at hR
      exact iteT (s_ret (e_bl ⟨_, rfl, hR⟩))
    | true =>
    rw [qe, Bool.true_and] at hR
    refine iteF (s_next ?_)
    dsimp only
    obtain ⟨ei, mi⟩ := ints_all qe
    have le : (intsD es).length ≤ HV := by
      have := congrArg List.length ei
      rw [List.length_map] at this
      have := he.1
      omega
    have few : (intsD es).length + 1 < scanBound := Nat.lt_of_le_of_lt (Nat.succ_le_succ le) (by decide)
    refine s_ret (e_op (op2_or op2_eqSt op2_eqD) (e_cb cl_list (a_cons (e_op op2_ix (e_var rfl (fun h => nomatch h) (e_int ⟨1, _, rfl, rfl, a_nil ⟨_, es, rfl, rfl, e_sortSetA (e_op op2_ix (e_var rfl (fun h => nomatch h) (e_int ⟨1, _, rfl, rfl, .inl ⟨intsD es, idT rows.length, by rw [← ei]; rfl, few, by unfold idT; rw [List.length_map, List.length_range]; omega, fun x hx => idT_mem.mpr (by have := mi x hx; omega), fun ys h m => .inr ⟨_, _, rfl, rfl, by rw [ei]; exact shaped_ints _, shaped_ints _, _, rfl, ?_⟩⟩⟩)))⟩⟩))))))
    have ee : PyData.eqv (.list es) (.list (ys.map .int)) = decide (intsD es = ys) := by
      have h1 := eqv_ints (intsD es) ys
      rw [← ei] at h1
      exact h1
    rw [ee, asc_sortI h m]
    exact hR
end
section
variable {P : Program} {w : World} {K : PySem.W.Frag} {mg : Str → Option Value} {bs : Heap}
theorem ok_law (T : Txt K mg) (nd : bs.NoDigits) (tabs : Tabled bs T) : FnG P w K mg bs 9 T.a_law T.d_law ["script"] (spLaw K T.cs) := by
  have C__law_alike := ok__law_alike (P := P) (w := w) (bs := bs) T nd tabs
  have C__law_bag := ok__law_bag (P := P) (w := w) (bs := bs) T nd tabs
  have C__law_bent := ok__law_bent (P := P) (w := w) (bs := bs) T nd tabs
  have C__law_is_wish := ok__law_is_wish (P := P) (w := w) (bs := bs) T nd tabs
  have C__law_mixed := ok__law_mixed (P := P) (w := w) (bs := bs) T nd tabs
  have C__law_odd := ok__law_odd (P := P) (w := w) (bs := bs) T nd tabs
  have C__law_some := ok__law_some (P := P) (w := w) (bs := bs) T nd tabs
  have C__law_takes := ok__law_takes (P := P) (w := w) (bs := bs) T nd tabs
  have C__law_wish := ok__law_wish (P := P) (w := w) (bs := bs) T nd tabs
  have C__law_word := ok__law_word (P := P) (w := w) (bs := bs) T nd tabs
  have C_is_wish := ok_is_wish (P := P) (w := w) (bs := bs) T nd tabs
  have C_not_taken := ok_not_taken (P := P) (w := w) (bs := bs) T nd tabs
  have C_takes := ok_takes (P := P) (w := w) (bs := bs) T nd tabs
  refine fnG T.F_law sc_law (fun vs H Q E h => ?_) (fun cd A out s H vs Q E hcd hg hr h => ?_)
  · obtain ⟨a, ns, rfl, _⟩ := h
    rfl
  obtain ⟨a, ns, rfl, hS, hlen, htb, k⟩ := h
  refine ⟨_, (pss_cons (ps_set (i := 1) sc_law.nd rfl (.inr rfl) (pe_callG C__law_bag hg (hr.mono (by decide)) (by rfl) T.g__law_bag T.F__law_bag.kp T.b__law_bag (pa_cons (pv 0) pa_nil)))
  (pss_cons (ps_for PassesOwn.never rfl (pi_range1 (by rfl) T.z_range (pa_cons pe_int pa_nil)) (pg_name (i := 2) sc_law.nd rfl (.inl rfl))
  (pss_cons (ps_set (i := 3) sc_law.nd rfl (.inr rfl) (pe_callB (call_sortedSK (K := K) rfl) (by rfl) T.z_sorted (by decide +kernel) (pa_cons (pe_slice (sl_seqK (K := K) rfl) (pe_callG C__law_mixed hg (hr.mono (by decide)) (by rfl) T.g__law_mixed T.F__law_mixed.kp T.b__law_mixed (pa_cons (pv 1) (pa_cons (pe_lst (pa_cons pe_str (pa_cons pe_str (pa_cons pe_str (pa_cons pe_str pa_nil))))) pa_nil))) po_none (po_some (pe_callG C__law_some hg (hr.mono (by decide)) (by rfl) T.g__law_some T.F__law_some.kp T.b__law_some (pa_cons (pv 1) (pa_cons (pe_lst (pa_cons pe_int (pa_cons pe_int (pa_cons pe_int (pa_cons pe_int pa_nil))))) pa_nil))))) pa_nil)))
  (pss_cons (ps_set (i := 4) sc_law.nd rfl (.inr rfl) (pe_callG C__law_wish hg (hr.mono (by decide)) (by rfl) T.g__law_wish T.F__law_wish.kp T.b__law_wish (pa_cons (pv 1) (pa_cons (pv 3) (pa_cons pe_int pa_nil)))))
  (pss_cons (ps_for PassesOwn.never rfl (pi_seqK (K := K) rfl (pe_op op_catL (pe_lc (own := [("k", 12)]) (g := (gName 12)) (tt := tYes) (by rfl) sc_law.nd (pi_range1 (by rfl) T.z_range (pa_cons pe_int pa_nil)) (blkOk_by (own := [("k", 12)]) (N := ["script", "bag", "turn", "letters", "wish", "word", "is_taken", "wide", "twice", "long", "thing", "shown", "k"]) (sc := defScope s_law) (by decide +kernel)) (fun _ _ _ _ _ => (pg_name (i := 12) sc_law.nd rfl (Or.inl rfl))) (fun _ _ _ _ _ => pts_nil) (fun _ _ _ _ _ => (pe_callG C__law_word hg (hr.mono (by decide)) (by rfl) T.g__law_word T.F__law_word.kp T.b__law_word (pa_cons (pv 1) (pa_cons (pv 3) (pa_cons pe_int pa_nil)))))) (pe_lst (pa_cons pe_str pa_nil)))) (pg_name (i := 5) sc_law.nd rfl (.inl rfl))
  (pss_cons (ps_set (i := 6) sc_law.nd rfl (.inl rfl) (pe_callG C__law_takes hg (hr.mono (by decide)) (by rfl) T.g__law_takes T.F__law_takes.kp T.b__law_takes (pa_cons (pv 4) (pa_cons (pv 5) pa_nil))))
  (pss_one (ps_if (pt_not (pt_val (pe_callG C__law_alike hg (hr.mono (by decide)) (by rfl) T.g__law_alike T.F__law_alike.kp T.b__law_alike (pa_cons (pe_lst (pa_cons (pe_callG C_takes hg (hr.mono (by decide)) (by rfl) T.g_takes T.F_takes.kp T.b_takes (pa_cons (pv 4) (pa_cons (pv 5) pa_nil))) (pa_cons (pe_callG C_takes hg (hr.mono (by decide)) (by rfl) T.g_takes T.F_takes.kp T.b_takes (pa_cons (pe_callG C_not_taken hg (hr.mono (by decide)) (by rfl) T.g_not_taken T.F_not_taken.kp T.b_not_taken (pa_cons (pv 4) pa_nil)) (pa_cons (pv 5) pa_nil))) pa_nil))) (pa_cons (pe_lst (pa_cons (pv 6) (pa_cons (pe_not (pv 6)) pa_nil))) pa_nil)))))
  (pss_one (ps_ret pe_bl))
  pss_nil))))
  (pss_cons (ps_if (pt_not (pt_val (pe_callG C__law_alike hg (hr.mono (by decide)) (by rfl) T.g__law_alike T.F__law_alike.kp T.b__law_alike (pa_cons (pe_lst (pa_cons (pe_callG C_is_wish hg (hr.mono (by decide)) (by rfl) T.g_is_wish T.F_is_wish.kp T.b_is_wish (pa_cons (pv 4) pa_nil)) (pa_cons (pe_callG C_is_wish hg (hr.mono (by decide)) (by rfl) T.g_is_wish T.F_is_wish.kp T.b_is_wish (pa_cons (pe_callG C_not_taken hg (hr.mono (by decide)) (by rfl) T.g_not_taken T.F_not_taken.kp T.b_not_taken (pa_cons (pv 4) pa_nil)) pa_nil)) pa_nil))) (pa_cons (pe_lst (pa_cons pe_bl (pa_cons pe_bl pa_nil))) pa_nil)))))
  (pss_one (ps_ret pe_bl))
  pss_nil)
  (pss_cons (ps_set (i := 7) sc_law.nd rfl (.inl rfl) (pe_callG C__law_wish hg (hr.mono (by decide)) (by rfl) T.g__law_wish T.F__law_wish.kp T.b__law_wish (pa_cons (pv 1) (pa_cons (pe_callTy (call_listT (by rfl)) (by rfl) T.z_list (by decide +kernel) (pa_cons (pe_slice sl_str pe_str po_none (po_some (pe_callG C__law_some hg (hr.mono (by decide)) (by rfl) T.g__law_some T.F__law_some.kp T.b__law_some (pa_cons (pv 1) (pa_cons (pe_lst (pa_cons pe_int (pa_cons pe_int pa_nil))) pa_nil))))) pa_nil)) (pa_cons pe_int pa_nil)))))
  (pss_cons (ps_set (i := 8) sc_law.nd rfl (.inl rfl) (pe_tupP (pa_cons (pe_callTy (call_tupleK (K := K) rfl) (by rfl) T.z_tuple (by decide +kernel) (pa_cons (pe_op op_rep (pe_lst (pa_cons (pe_tupP (pa_cons (pe_tupP (pa_cons (pe_ix (ix_seqK (K := K) rfl) (pv 3) pe_int (fun _ _ => rfl)) (pa_cons pe_int pa_nil))) (pa_cons (pe_tupP (pa_cons (pe_ix (ix_seqK (K := K) rfl) (pv 3) pe_int (fun _ _ => rfl)) (pa_cons pe_int pa_nil))) pa_nil))) pa_nil)) pe_int) pa_nil)) (pa_cons (pe_callG C__law_some hg (hr.mono (by decide)) (by rfl) T.g__law_some T.F__law_some.kp T.b__law_some (pa_cons (pv 1) (pa_cons (pe_lst (pa_cons (pe_tupP pa_nil) (pa_cons (pe_tupP (pa_cons pe_int pa_nil)) (pa_cons (pe_tupP (pa_cons pe_int (pa_cons pe_int pa_nil))) pa_nil)))) pa_nil))) pa_nil))))
  (pss_cons (ps_set (i := 9) sc_law.nd rfl (.inl rfl) (pe_op op_mulG (pe_callG C__law_word hg (hr.mono (by decide)) (by rfl) T.g__law_word T.F__law_word.kp T.b__law_word (pa_cons (pv 1) (pa_cons (pv 3) (pa_cons pe_int pa_nil)))) pe_int))
  (pss_cons (ps_if (pt_not (pt_val (pe_callG C__law_alike hg (hr.mono (by decide)) (by rfl) T.g__law_alike T.F__law_alike.kp T.b__law_alike (pa_cons (pe_callG C_takes hg (hr.mono (by decide)) (by rfl) T.g_takes T.F_takes.kp T.b_takes (pa_cons (pv 4) (pa_cons (pv 9) pa_nil))) (pa_cons (pe_callG C__law_takes hg (hr.mono (by decide)) (by rfl) T.g__law_takes T.F__law_takes.kp T.b__law_takes (pa_cons (pv 4) (pa_cons (pv 9) pa_nil))) pa_nil)))))
  (pss_one (ps_ret pe_bl))
  pss_nil)
  (pss_one (ps_for PassesOwn.never rfl (pi_seqK (K := K) rfl (pe_op op_catL (pe_lst (pa_cons (pv 4) (pa_cons (pv 7) (pa_cons (pv 8) (pa_cons (pe_callG C_not_taken hg (hr.mono (by decide)) (by rfl) T.g_not_taken T.F_not_taken.kp T.b_not_taken (pa_cons (pv 4) pa_nil)) (pa_cons (pe_callG C__law_odd hg (hr.mono (by decide)) (by rfl) T.g__law_odd T.F__law_odd.kp T.b__law_odd (pa_cons (pv 1) pa_nil)) pa_nil)))))) (pe_lc (own := [("k", 12)]) (g := (gName 12)) (tt := tYes) (by rfl) sc_law.nd (pi_range1 (by rfl) T.z_range (pa_cons pe_int pa_nil)) (blkOk_by (own := [("k", 12)]) (N := ["script", "bag", "turn", "letters", "wish", "word", "is_taken", "wide", "twice", "long", "thing", "shown", "k"]) (sc := defScope s_law) (by decide +kernel)) (fun _ _ _ _ _ => (pg_name (i := 12) sc_law.nd rfl (Or.inl rfl))) (fun _ _ _ _ _ => pts_nil) (fun _ _ _ _ _ => (pe_callG C__law_bent hg (hr.mono (by decide)) (by rfl) T.g__law_bent T.F__law_bent.kp T.b__law_bent (pa_cons (pv 1) (pa_cons (pv 4) (pa_cons pe_int pa_nil)))))))) (pg_name (i := 10) sc_law.nd rfl (.inl rfl))
  (pss_cons (ps_set (i := 11) sc_law.nd rfl (.inl rfl) (pe_callB (call_repr hg nd hr.units) (by rfl) T.z_repr (by decide +kernel) (pa_cons (pv 10) pa_nil)))
  (pss_one (ps_if (PW.pt (pw_or (pt_not (pt_val (pe_callG C__law_alike hg (hr.mono (by decide)) (by rfl) T.g__law_alike T.F__law_alike.kp T.b__law_alike (pa_cons (pe_callG C_is_wish hg (hr.mono (by decide)) (by rfl) T.g_is_wish T.F_is_wish.kp T.b_is_wish (pa_cons (pv 10) pa_nil)) (pa_cons (pe_callG C__law_is_wish hg (hr.mono (by decide)) (by rfl) T.g__law_is_wish T.F__law_is_wish.kp T.b__law_is_wish (pa_cons (pv 10) pa_nil)) pa_nil))))) (pw_or1 (pt_cmpR (op_neK (K := K) rfl (by exact hr.units)) (pe_callB (call_repr hg nd hr.units) (by rfl) T.z_repr (by decide +kernel) (pa_cons (pv 10) pa_nil)) (pv 11) (nomark _)))))
  (pss_one (ps_ret pe_bl))
  pss_nil))))))))))))))
  (pss_one (ps_ret pe_bl)))), ?_⟩
  refine ⟨.ref a, rfl, ?_⟩
  refine ⟨a, ns, rfl, hS, ?_⟩
  intro H1 p l ms sm np e1 e2 e3
  dsimp only [gName]
  refine law_rest (m := 11) e1 e2 e3 (fun q hq => sm _ _ (T.tbl_all htb q hq)) rfl ?_ k
  try dsimp only [cxOf]
  have big : 10000 < sizeLine := Nat.le_of_ble_eq_true rfl
  refine s_seq (s_forG (i_rng1 (a_cons (e_int (a_nil ⟨4, rfl, by decide, by decide, fun i ρ => ρ.length = 13 ∧ ρ[1]? = some .bag, ⟨rfl, rfl⟩, ?_, ?_⟩)))))
  · rintro i0 d0 ρ hd0 hb
    obtain ⟨x0, x2, x3, x4, x5, x6, x7, x8, x9, x10, x11, x12, rfl⟩ := bg13 hb
    clear hb
    refine ⟨[(2, d0)], tg_name, fun H0 => ?_⟩
    dsimp only [setsD, List.set]
    refine s_seq ?_
    repeat walk_at "ds"
    refine ⟨rfl, _, rfl, (show 4 ≤ 64 by decide), fun es hp => ?_⟩
    obtain ⟨ws, rfl, hw⟩ := perm_strs (zs := abcx) hp
    have lw : ws.length = 4 := hw.length_eq
    repeat walk_at "dl"
    refine ⟨rfl, _, rfl, by decide, by decide, fun d hd => ?_⟩
    obtain ⟨n, rfl, n1, n4⟩ : ∃ n : Nat, d = .int (n : Int) ∧ 1 ≤ n ∧ n ≤ 4 := by
      simp only [List.mem_cons, List.not_mem_nil, or_false] at hd
      rcases hd with rfl | rfl | rfl | rfl
      · exact ⟨2, rfl, by decide, by decide⟩
      · exact ⟨1, rfl, by decide, by decide⟩
      · exact ⟨3, rfl, by decide, by decide⟩
      · exact ⟨4, rfl, by decide, by decide⟩
    refine ⟨_, rfl, ?_⟩
    refine ⟨_, rfl, ?_⟩
    have ct : DL.cutD (ws.map PyData.str) none (some (n : Int)) = (ws.take n).map PyData.str := by
      rw [cut_to _ (by rw [List.length_map]; omega), List.map_take]
    refine a_nil ⟨_, ws.take n, rfl, ?_, by rw [List.length_take]; omega, fun zs hy srt => ⟨trivial, ?_⟩⟩
    · show some (DL.cutD _ _ _) = _
      rw [ct]
    dsimp only [List.set]
    have nw : ws.Nodup := hw.nodup_iff.mpr (by decide)
    have nz : zs.Nodup := hy.nodup_iff.mpr (nw.sublist (List.take_sublist n ws))
    have z1 : 1 ≤ zs.length := by rw [hy.length_eq, List.length_take]; omega
    have z4 : zs.length ≤ 4 := by rw [hy.length_eq, List.length_take]; omega
    have zo : ∀ z ∈ zs, z ∈ abcx := fun z hz => hw.mem_iff.mp (List.mem_of_mem_take (hy.mem_iff.mp hz))
    have zl : ∀ z ∈ zs, isLetD (.str z) = true := fun z hz => abcx_let (zo z hz)
    have za : ascB ltS zs = true := (ascB_iff ltS_tr zs).mpr (sorted_pw srt nz)
    have zc : ∀ z ∈ zs, ∃ c, z = chS c := fun z hz => abcx_ch (zo z hz)
    clear hy srt nw ct hp lw hw
    refine s_seq (s_set (e_call ⟨rfl, rfl⟩ (a_cons (e_var rfl (fun h => nomatch h) (a_cons (e_var rfl (fun h => nomatch h) (a_cons (e_int (a_nil ⟨rfl, rfl, zs, rfl, by omega, fun s rows ends W => ⟨trivial, ?_⟩⟩)))))))))
    dsimp only [List.set]
    have wk := wk_of W nz z1 z4 zo
    have wkn := wk_of W.notT nz z1 z4 zo
    have sl := W.len
    have s6 := W.few
    have s1 := W.pos
    have wgt := wish_wt W (by omega) zl
    have wgn := wish_wt W.notT (by omega) zl
    have tru := wish_true W za z1 (by omega) zl
    have trn := wish_true W.notT za z1 (by omega) zl
    have go : ∀ z : Str, (∀ c ∈ z.cps.toList, chS c ∈ zs) → decide (runW rows z.cps.toList 0 ∈ notE s ends) = !decide (runW rows z.cps.toList 0 ∈ ends) := fun z hz => by
      have v := wk.run hz (Int.le_refl 0) (by omega)
      exact not_mem v.1 v.2
    refine s_seq (s_forG (i_seq (e_op op2_catL (e_lcG (ic_of (i_rng1 (a_cons (e_int (a_nil ⟨5, rfl, by decide, by decide, ?_⟩)))))))))
    refine ⟨by rw [rngD_len]; exact Nat.le_trans (by decide : Int.toNat 5 ≤ 10000) (Nat.le_of_lt big), fun i acc => ∃ ys : List Str, acc = ys.map .str ∧ ys.length = i ∧ ∀ z ∈ ys, ∀ c ∈ z.cps.toList, chS c ∈ zs, ⟨[], rfl, rfl, fun z h => by simp at h⟩, ?_, ?_⟩
    · rintro i d acc hd ⟨ys, rfl, hl, hy⟩
      refine ⟨[(12, d)], rfl, tg_name, ?_⟩
      dsimp only [setsD, DL.clr, List.set]
      unfold Lc
      refine t_yes (iteT (e_call ⟨rfl, rfl⟩ (a_cons (e_var rfl (fun h => nomatch h) (a_cons (e_var rfl (fun h => nomatch h) (a_cons (e_int (a_nil ⟨rfl, rfl, zs, 12, rfl, z1, by omega, by decide, zc, fun cs hcs lcs => ⟨_, rfl, ys ++ [⟨cs.toArray⟩], by rw [List.map_append]; rfl, by rw [List.length_append, hl]; rfl, fun z hz => ?_⟩⟩)))))))))
      rcases List.mem_append.mp hz with y | y
      · exact hy z y
      · rw [List.mem_singleton.mp y]
        intro c hc
        exact hcs c (by simpa using hc)
    rintro acc ⟨ys, rfl, hl, hy⟩ _
    rw [rngD_len] at hl
    have l5 : ys.length = 5 := hl
    refine e_lst (a_cons (e_str (a_nil ⟨_, rfl, (show 1 ≤ sizeLine by omega), _, _, rfl, rfl, by rw [List.length_map, l5]; show 5 + 1 ≤ sizeLine; omega, ?_⟩)))
    refine ⟨_, _, rfl, rfl, fun i ρ => ∃ y5 y6 : Sl, ρ = [x0, .bag, .dat d0, .dat (.list (zs.map .str)), .dat (wishD rows ends), y5, y6, x7, x8, x9, x10, x11, x12], ⟨_, _, rfl⟩, ?_, ?_⟩
    · rintro i d ρ' hd ⟨y5, y6, rfl⟩
      obtain ⟨z, rfl, hz⟩ : ∃ z, d = .str z ∧ ∀ c ∈ z.cps.toList, chS c ∈ zs := by
        rcases List.mem_append.mp (List.mem_of_getElem? hd) with y | y
        · obtain ⟨z, hz, rfl⟩ := List.mem_map.mp y
          exact ⟨z, rfl, hy z hz⟩
        · rw [List.mem_singleton.mp y]
          exact ⟨"", rfl, fun c hc => by
            have e4 : (Str.ofString "").cps.toList = [] := rfl
            rw [e4] at hc
            simp at hc⟩
      refine ⟨[(5, .str z)], tg_name, fun H1 => ?_⟩
      dsimp only [setsD, List.set]
      refine s_seq (s_set (e_call ⟨rfl, rfl⟩ (a_cons (e_var rfl (fun h => nomatch h) (a_cons (e_var rfl (fun h => nomatch h) (a_nil ⟨rfl, rfl, rows, ends, s, zs, z, rfl, wk, hz, trivial, ?_⟩)))))))
      dsimp only [List.set]
      refine s_if (t_not (t_B (e_call ⟨rfl, rfl⟩ (a_cons (e_lst (a_cons (e_call ⟨rfl, rfl⟩ (a_cons (e_var rfl (fun h => nomatch h) (a_cons (e_var rfl (fun h => nomatch h) (a_nil ⟨rfl, rfl, rows, ends, s, zs, z, rfl, wk, hz, ?_⟩))))))))))))
      refine a_cons (e_call ⟨rfl, rfl⟩ (a_cons (e_call ⟨rfl, rfl⟩ (a_cons (e_var rfl (fun h => nomatch h) (a_nil ⟨rfl, rfl, rows, ends, rfl, by omega, a_cons (e_var rfl (fun h => nomatch h) (a_nil ⟨rfl, rfl, rows, notE s ends, s, zs, z, by rw [sl], wkn, hz, ?_⟩))⟩))))))
      rw [go z hz]
      refine a_nil ⟨_, rfl, (show 2 ≤ sizeLine by omega), ?_⟩
      refine a_cons (e_lst (a_cons (e_var rfl (fun h => nomatch h) ?_)))
      refine a_cons (e_notV (e_var rfl (fun h => nomatch h) ⟨_, rfl, ?_⟩))
      refine a_nil ⟨_, rfl, (show 2 ≤ sizeLine by omega), a_nil ⟨rfl, rfl, _, 100, 1, rfl, fine_two _ _, by decide, by decide, _, rfl, ?_⟩⟩
      exact iteF (s_next ⟨_, _, rfl⟩)
    · rintro ρ' ⟨y5, y6, rfl⟩
      refine s_seq (s_if (t_not (t_B (e_call ⟨rfl, rfl⟩ (a_cons (e_lst (a_cons (e_call ⟨rfl, rfl⟩ (a_cons (e_var rfl (fun h => nomatch h) ?_))))))))))
      refine a_nil ⟨rfl, rfl, _, rfl, Nat.le_trans wgt.1 (by decide), ?_⟩
      rw [tru]
      refine a_cons (e_call ⟨rfl, rfl⟩ (a_cons (e_call ⟨rfl, rfl⟩ (a_cons (e_var rfl (fun h => nomatch h) ?_)))))
      refine a_nil ⟨rfl, rfl, rows, ends, rfl, by omega, ?_⟩
      rw [sl]
      refine a_nil ⟨rfl, rfl, _, rfl, Nat.le_trans wgn.1 (by decide), ?_⟩
      rw [trn]
      refine a_nil ⟨_, rfl, (show 2 ≤ sizeLine by omega), ?_⟩
      refine a_cons (e_lst (a_cons (e_bl (a_cons (e_bl ?_)))))
      refine a_nil ⟨_, rfl, (show 2 ≤ sizeLine by omega), a_nil ⟨rfl, rfl, _, 100, 1, rfl, fine_two _ _, by decide, by decide, _, rfl, ?_⟩⟩
      refine iteF (s_next ?_)
      dsimp only
      refine s_seq (s_set (e_call ⟨rfl, rfl⟩ (a_cons (e_var rfl (fun h => nomatch h) (a_cons (e_cb cl_listT (a_cons (e_slS (e_str ⟨_, rfl, Nat.le_trans (show ("abcdefg" : Str).length ≤ 7 by decide +kernel) (by omega), o_none (o_some (e_call ⟨rfl, rfl⟩ (a_cons (e_var rfl (fun h => nomatch h) ?_))))⟩)))))))))
      refine a_cons (e_lst (a_cons (e_int (a_cons (e_int (a_nil ⟨_, rfl, (show 2 ≤ sizeLine by omega), ?_⟩))))))
      refine a_nil ⟨rfl, rfl, _, rfl, (by show 0 < 2; decide), (by show 2 < 1073741824; decide), fun d hd => ?_⟩
      obtain ⟨n7, rfl, hn7⟩ : ∃ n : Nat, d = .int (n : Int) ∧ (n = 6 ∨ n = 7) := by
        simp only [List.mem_cons, List.not_mem_nil, or_false] at hd
        rcases hd with rfl | rfl
        · exact ⟨6, rfl, .inl rfl⟩
        · exact ⟨7, rfl, .inr rfl⟩
      refine ⟨_, rfl, ?_⟩
      obtain ⟨w7, wl7⟩ := wide_ok n7 hn7
      have c7 := chS1_len (cutS "abcdefg" none (some (n7 : Int)))
      refine a_nil ⟨_, rfl, by omega, ?_⟩
      refine a_cons (e_int ?_)
      refine a_nil ⟨rfl, rfl, _, rfl, w7, fun s2 rows2 ends2 W2 => ⟨trivial, ?_⟩⟩
      dsimp only [List.set]
      have wg2 := wish_wt W2 w7 wl7
      obtain ⟨z0, h0⟩ : ∃ z0, zs[0]? = some z0 := ⟨zs[0], List.getElem?_eq_getElem (by omega)⟩
      have at0 : ixD (.dat (.list (zs.map .str))) ((0 : Nat) : Int) = some (.str z0) := atI_of (by rw [List.getElem?_map, h0]; rfl)
      refine s_seq (s_set (e_tup (a_cons (e_cb cl_tuple (a_cons (e_repN (a_cons (e_tup (a_cons (e_tup (a_cons (e_op op2_ix (e_var rfl (fun h => nomatch h) (e_int ⟨0, _, rfl, at0, ?_⟩))))))))))))))
      refine a_cons (e_int (a_nil ⟨_, rfl, (show 2 ≤ sizeLine by omega), ?_⟩))
      refine a_cons (e_tup (a_cons (e_op op2_ix (e_var rfl (fun h => nomatch h) (e_int ⟨0, _, rfl, at0, ?_⟩)))))
      refine a_cons (e_int (a_nil ⟨_, rfl, (show 2 ≤ sizeLine by omega), ?_⟩))
      refine a_nil ⟨_, rfl, (show 2 ≤ sizeLine by omega), ?_⟩
      refine a_nil ⟨_, rfl, (show 1 ≤ sizeLine by omega), ?_⟩
      refine e_int ⟨2, rfl, by decide, by decide, (show 1 * 2 ≤ sizeLine by omega), ?_⟩
      refine a_nil ⟨_, _, rfl, rfl, ?_⟩
      refine a_cons (e_call ⟨rfl, rfl⟩ (a_cons (e_var rfl (fun h => nomatch h) (a_cons (e_lst (a_cons (e_tup (a_nil ⟨[], rfl, Nat.zero_le _, ?_⟩))))))))
      refine a_cons (e_tup (a_cons (e_int (a_nil ⟨_, rfl, (show 1 ≤ sizeLine by omega), ?_⟩))))
      refine a_cons (e_tup (a_cons (e_int (a_cons (e_int (a_nil ⟨_, rfl, (show 2 ≤ sizeLine by omega), ?_⟩))))))
      refine a_nil ⟨_, rfl, (show 3 ≤ sizeLine by omega), a_nil ⟨rfl, rfl, _, rfl, (by show 0 < 3; decide), (by show 3 < 1073741824; decide), fun d hd => ?_⟩⟩
      obtain ⟨e3, rfl, p3, r3⟩ : ∃ es : List Int, d = .tuple (es.map .int) ∧ es.Pairwise (· < ·) ∧ ∀ x ∈ es, 0 ≤ x ∧ x < 2 := by
        simp only [List.mem_cons, List.not_mem_nil, or_false] at hd
        rcases hd with rfl | rfl | rfl
        · exact ⟨[], rfl, .nil, fun x hx => by simp at hx⟩
        · exact ⟨[0], rfl, by decide, by decide⟩
        · exact ⟨[0, 1], rfl, by decide, by decide⟩
      refine a_nil ⟨_, rfl, (show 2 ≤ sizeLine by omega), trivial, ?_⟩
      have lz0 := zl z0 (List.mem_of_getElem? h0)
      have hz3 : ∀ z ∈ [z0, z0], isLetD (.str z) = true := fun z hz => by
        simp only [List.mem_cons, List.not_mem_nil, or_false, or_self] at hz
        rw [hz]
        exact lz0
      have wg3 := wish_wt (twice_ok (z0 := z0) p3 r3) (show 2 ≤ 7 by decide) hz3
      dsimp only [List.set]
      have e5 : PyData.tuple [.tuple (List.replicate (Int.toNat 2) [PyData.tuple [.tuple [.str z0, .int 0], .tuple [.str z0, .int 1]]]).flatten, .tuple (e3.map .int)] = wishD [[(z0, 0), (z0, 1)], [(z0, 0), (z0, 1)]] e3 := rfl
      rw [e5]
      generalize wishD [[(z0, 0), (z0, 1)], [(z0, 0), (z0, 1)]] e3 = tw at wg3 ⊢
      clear e5
      refine s_seq (s_set (e_op (op2_or op2_I op2_mulS) (e_call ⟨rfl, rfl⟩ (a_cons (e_var rfl (fun h => nomatch h) (a_cons (e_var rfl (fun h => nomatch h) (a_cons (e_int (a_nil ⟨rfl, rfl, zs, 15, rfl, z1, by omega, by decide, zc, fun cs hcs lcs => e_int (.inr ⟨_, _, rfl, rfl, mulOk15 (by show cs.toArray.size ≤ 15; simpa using lcs), trivial, ?_⟩)⟩))))))))))
      dsimp only [List.set]
      have mc := mul_cps (cs := cs) (n := 200) (by decide)
      have hlong : ∀ c ∈ (Txt.mul ⟨cs.toArray⟩ (200 : Int)).cps.toList, chS c ∈ zs := fun c hc => by
        have mc : (Txt.mul ⟨cs.toArray⟩ (200 : Int)).cps.toList = (List.replicate 200 cs).flatten := mc
        rw [mc] at hc
        obtain ⟨l, hl2, hc2⟩ := List.mem_flatten.mp hc
        rw [(List.mem_replicate.mp hl2).2] at hc2
        exact hcs c hc2
      generalize Txt.mul ⟨cs.toArray⟩ (200 : Int) = zlong at hlong ⊢
      clear mc
      refine s_seq (s_if (t_not (t_B (e_call ⟨rfl, rfl⟩ (a_cons (e_call ⟨rfl, rfl⟩ (a_cons (e_var rfl (fun h => nomatch h) (a_cons (e_var rfl (fun h => nomatch h) (a_nil ⟨rfl, rfl, rows, ends, s, zs, zlong, rfl, wk, hlong, ?_⟩)))))))))))
      refine a_cons (e_call ⟨rfl, rfl⟩ (a_cons (e_var rfl (fun h => nomatch h) (a_cons (e_var rfl (fun h => nomatch h) (a_nil ⟨rfl, rfl, rows, ends, s, zs, zlong, rfl, wk, hlong, ?_⟩))))))
      refine a_nil ⟨rfl, rfl, _, 5, 0, rfl, fine_bool _, by decide, by decide, _, rfl, ?_⟩
      refine iteF (s_next ?_)
      dsimp only
      have g1 : Gd 3000 20 (wishD rows ends) := (gd_pl wgt).mono (by decide) (by decide)
      have g2 : Gd 3000 20 (wishD rows2 ends2) := (gd_pl wg2).mono (by decide) (by decide)
      have g3 : Gd 3000 20 tw := (gd_pl wg3).mono (by decide) (by decide)
      have g4 : Gd 3000 20 (wishD rows (notE s ends)) := (gd_pl wgn).mono (by decide) (by decide)
      refine s_forG (i_seq (e_op op2_catL (e_lst (a_cons (e_var rfl (fun h => nomatch h) (a_cons (e_var rfl (fun h => nomatch h) (a_cons (e_var rfl (fun h => nomatch h) ?_)))))))))
      refine a_cons (e_call ⟨rfl, rfl⟩ (a_cons (e_var rfl (fun h => nomatch h) (a_nil ⟨rfl, rfl, rows, ends, rfl, by omega, ?_⟩))))
      rw [sl]
      refine a_cons (e_call ⟨rfl, rfl⟩ (a_cons (e_var rfl (fun h => nomatch h) (a_nil ⟨rfl, rfl, rfl, fun od hod => ?_⟩))))
      have g5 : Gd 3000 20 od := gd_ok hod (by decide) (by decide)
      refine a_nil ⟨_, rfl, (show 5 ≤ sizeLine by omega), ?_⟩
      refine e_lcG (ic_of (i_rng1 (a_cons (e_int (a_nil ⟨6, rfl, by decide, by decide, ?_⟩)))))
      refine ⟨by rw [rngD_len]; exact Nat.le_trans (by decide : Int.toNat 6 ≤ 10000) (Nat.le_of_lt big), fun i acc => acc.length = i ∧ ∀ e ∈ acc, Gd 3000 20 e, ⟨rfl, fun e h => by simp at h⟩, ?_, ?_⟩
      · rintro i d acc hd ⟨hl2, hg2⟩
        refine ⟨[(12, d)], rfl, tg_name, ?_⟩
        dsimp only [setsD, DL.clr, List.set]
        unfold Lc
        refine t_yes (iteT (e_call ⟨rfl, rfl⟩ (a_cons (e_var rfl (fun h => nomatch h) (a_cons (e_var rfl (fun h => nomatch h) (a_cons (e_int (a_nil ⟨rfl, rfl, wishD rows ends, rfl, wgt.2.1, wgt.1, wgt.2.2, fun e he => ⟨_, rfl, by rw [List.length_append, hl2]; rfl, fun e2 h2 => ?_⟩⟩)))))))))
        rcases List.mem_append.mp h2 with y | y
        · exact hg2 e2 y
        · rw [List.mem_singleton.mp y]
          have := wgt.1
          have := wgt.2.2
          exact he.mono (by omega) (by omega)
      rintro acc ⟨hl2, hg2⟩ _
      rw [rngD_len] at hl2
      have l6 : acc.length = 6 := hl2
      refine ⟨_, _, rfl, rfl, by rw [l6]; show 5 + 6 ≤ sizeLine; omega, ?_⟩
      refine ⟨_, _, rfl, rfl, fun i ρ => ∃ y10 y11 : Sl, ρ = [x0, .bag, .dat d0, .dat (.list (zs.map .str)), .dat (wishD rows ends), y5, y6, .dat (wishD rows2 ends2), .dat tw, .dat (.str zlong), y10, y11, x12], ⟨_, _, rfl⟩, ?_, ?_⟩
      · rintro i d ρ' hd ⟨y10, y11, rfl⟩
        have g : Gd 3000 20 d := by
          rcases List.mem_append.mp (List.mem_of_getElem? hd) with y | y
          · simp only [List.mem_cons, List.not_mem_nil, or_false] at y
            rcases y with rfl | rfl | rfl | rfl | rfl
            · exact g1
            · exact g2
            · exact g3
            · exact g4
            · exact g5
          · exact hg2 d y
        have hv : wt d ≤ HV := g.wt
        have hsh : d.shown.length ≤ sizeLine := Nat.le_trans (wt_shown d) (hv_line hv)
        have hdp : d.depth ≤ 60 := Nat.le_trans g.deep (by decide)
        refine ⟨[(10, d)], tg_name, fun H1 => ?_⟩
        dsimp only [setsD, List.set]
        refine s_seq (s_set (e_cb cl_repr (a_cons (e_var rfl (fun h => nomatch h) (a_nil ⟨d, rfl, g.num, hsh, hdp, trivial, ?_⟩)))))
        dsimp only [List.set]
        refine s_if (t_or (t_not (t_B (e_call ⟨rfl, rfl⟩ (a_cons (e_call ⟨rfl, rfl⟩ (a_cons (e_var rfl (fun h => nomatch h) (a_nil ⟨rfl, rfl, d, rfl, hv, ?_⟩)))))))))
        refine a_cons (e_call ⟨rfl, rfl⟩ (a_cons (e_var rfl (fun h => nomatch h) (a_nil ⟨rfl, rfl, d, rfl, hv, ?_⟩))))
        refine a_nil ⟨rfl, rfl, _, 5, 0, rfl, fine_bool _, by decide, by decide, _, rfl, ?_⟩
        refine iteF (t_test (e_op (op2_or op2_neSt op2_neD) (e_cb cl_repr (a_cons (e_var rfl (fun h => nomatch h) (a_nil ⟨d, rfl, g.num, hsh, hdp, (e_var rfl (fun h => nomatch h) (.inl ⟨_, _, rfl, rfl, _, rfl, ?_⟩))⟩))))))
        rw [decide_eq_true rfl]
        exact iteF (s_next ⟨_, _, rfl⟩)
      · rintro ρ' ⟨y10, y11, rfl⟩
        exact ⟨rfl, rfl⟩
  · rintro ρ' hb
    repeat walk_at "dl"
end
section
variable {P : Program} {w : World} {K : PySem.W.Frag} {mg : Str → Option Value} {bs : Heap}
theorem all_mk {l : PySem.W.OpenLaw} {w : World} {K : PySem.W.Frag} {h : Heap} {mg : Str → Option Value} {fa : Addr} {PR : Program} (X : K.In h) (Gn : h.Ns mainGlobals mg) (hfa : mg "law" = some (.ref fa))
    {f0 : Addr} {od0 an0 : Option Addr} {sl0 : Array (Option Value)} {oc0 kV0 dc0 pm0 ct0 : Value} {cd0 : Value}
    {f1 : Addr} {od1 an1 : Option Addr} {sl1 : Array (Option Value)} {oc1 kV1 dc1 pm1 ct1 : Value} {cd1 : Value}
    {f2 : Addr} {od2 an2 : Option Addr} {sl2 : Array (Option Value)} {oc2 kV2 dc2 pm2 ct2 : Value} {cd2 : Value}
    {f3 : Addr} {od3 an3 : Option Addr} {sl3 : Array (Option Value)} {oc3 kV3 dc3 pm3 ct3 : Value} {cd3 : Value}
    {f4 : Addr} {od4 an4 : Option Addr} {sl4 : Array (Option Value)} {oc4 kV4 dc4 pm4 ct4 : Value} {cd4 : Value}
    {f5 : Addr} {od5 an5 : Option Addr} {sl5 : Array (Option Value)} {oc5 kV5 dc5 pm5 ct5 : Value} {cd5 : Value}
    {f6 : Addr} {od6 an6 : Option Addr} {sl6 : Array (Option Value)} {oc6 kV6 dc6 pm6 ct6 : Value} {cd6 : Value}
    {f7 : Addr} {od7 an7 : Option Addr} {sl7 : Array (Option Value)} {oc7 kV7 dc7 pm7 ct7 : Value} {cd7 : Value}
    {f8 : Addr} {od8 an8 : Option Addr} {sl8 : Array (Option Value)} {oc8 kV8 dc8 pm8 ct8 : Value} {cd8 : Value}
    {f9 : Addr} {od9 an9 : Option Addr} {sl9 : Array (Option Value)} {oc9 kV9 dc9 pm9 ct9 : Value} {cd9 : Value}
    {f10 : Addr} {od10 an10 : Option Addr} {sl10 : Array (Option Value)} {oc10 kV10 dc10 pm10 ct10 : Value} {cd10 : Value}
    {f11 : Addr} {od11 an11 : Option Addr} {sl11 : Array (Option Value)} {oc11 kV11 dc11 pm11 ct11 : Value} {cd11 : Value}
    {f12 : Addr} {od12 an12 : Option Addr} {sl12 : Array (Option Value)} {oc12 kV12 dc12 pm12 ct12 : Value} {cd12 : Value}
    {f13 : Addr} {od13 an13 : Option Addr} {sl13 : Array (Option Value)} {oc13 kV13 dc13 pm13 ct13 : Value} {cd13 : Value}
    {f14 : Addr} {od14 an14 : Option Addr} {sl14 : Array (Option Value)} {oc14 kV14 dc14 pm14 ct14 : Value} {cd14 : Value}
    {f15 : Addr} {od15 an15 : Option Addr} {sl15 : Array (Option Value)} {oc15 kV15 dc15 pm15 ct15 : Value} {cd15 : Value}
    {f16 : Addr} {od16 an16 : Option Addr} {sl16 : Array (Option Value)} {oc16 kV16 dc16 pm16 ct16 : Value} {cd16 : Value}
    {f17 : Addr} {od17 an17 : Option Addr} {sl17 : Array (Option Value)} {oc17 kV17 dc17 pm17 ct17 : Value} {cd17 : Value}
    {f18 : Addr} {od18 an18 : Option Addr} {sl18 : Array (Option Value)} {oc18 kV18 dc18 pm18 ct18 : Value} {cd18 : Value}
    {f19 : Addr} {od19 an19 : Option Addr} {sl19 : Array (Option Value)} {oc19 kV19 dc19 pm19 ct19 : Value} {cd19 : Value}
    {f20 : Addr} {od20 an20 : Option Addr} {sl20 : Array (Option Value)} {oc20 kV20 dc20 pm20 ct20 : Value} {cd20 : Value}
    {f21 : Addr} {od21 an21 : Option Addr} {sl21 : Array (Option Value)} {oc21 kV21 dc21 pm21 ct21 : Value} {cd21 : Value}
    {f22 : Addr} {od22 an22 : Option Addr} {sl22 : Array (Option Value)} {oc22 kV22 dc22 pm22 ct22 : Value} {cd22 : Value}
    {f23 : Addr} {od23 an23 : Option Addr} {sl23 : Array (Option Value)} {oc23 kV23 dc23 pm23 ct23 : Value} {cd23 : Value}
    {f24 : Addr} {od24 an24 : Option Addr} {sl24 : Array (Option Value)} {oc24 kV24 dc24 pm24 ct24 : Value} {cd24 : Value}
    {f25 : Addr} {od25 an25 : Option Addr} {sl25 : Array (Option Value)} {oc25 kV25 dc25 pm25 ct25 : Value} {cd25 : Value}
    {f26 : Addr} {od26 an26 : Option Addr} {sl26 : Array (Option Value)} {oc26 kV26 dc26 pm26 ct26 : Value} {cd26 : Value}
    {f27 : Addr} {od27 an27 : Option Addr} {sl27 : Array (Option Value)} {oc27 kV27 dc27 pm27 ct27 : Value} {cd27 : Value}
    (a0 : PySem.W.nsIn K mainGlobals "is_integer" = some (some (.ref f0)))
    (l0 : K.lookup f0 = some ⟨oc0, od0, .func (PySem.W.fnOf "is_integer" "is_integer" (defArgs s_is_integer) (defBody s_is_integer) (defScope s_is_integer) .none kV0 dc0 pm0 an0 cd0 ct0), sl0⟩)
    (c0 : PySem.W.codeIn K cd0 "is_integer" = true) (k0 : PySem.W.keepIn K (.ref f0) = true)
    (a1 : PySem.W.nsIn K mainGlobals "is_within" = some (some (.ref f1)))
    (l1 : K.lookup f1 = some ⟨oc1, od1, .func (PySem.W.fnOf "is_within" "is_within" (defArgs s_is_within) (defBody s_is_within) (defScope s_is_within) .none kV1 dc1 pm1 an1 cd1 ct1), sl1⟩)
    (c1 : PySem.W.codeIn K cd1 "is_within" = true) (k1 : PySem.W.keepIn K (.ref f1) = true)
    (a2 : PySem.W.nsIn K mainGlobals "is_tuple" = some (some (.ref f2)))
    (l2 : K.lookup f2 = some ⟨oc2, od2, .func (PySem.W.fnOf "is_tuple" "is_tuple" (defArgs s_is_tuple) (defBody s_is_tuple) (defScope s_is_tuple) .none kV2 dc2 pm2 an2 cd2 ct2), sl2⟩)
    (c2 : PySem.W.codeIn K cd2 "is_tuple" = true) (k2 : PySem.W.keepIn K (.ref f2) = true)
    (a3 : PySem.W.nsIn K mainGlobals "is_ascending" = some (some (.ref f3)))
    (l3 : K.lookup f3 = some ⟨oc3, od3, .func (PySem.W.fnOf "is_ascending" "is_ascending" (defArgs s_is_ascending) (defBody s_is_ascending) (defScope s_is_ascending) .none kV3 dc3 pm3 an3 cd3 ct3), sl3⟩)
    (c3 : PySem.W.codeIn K cd3 "is_ascending" = true) (k3 : PySem.W.keepIn K (.ref f3) = true)
    (a4 : PySem.W.nsIn K mainGlobals "are_ascending_below" = some (some (.ref f4)))
    (l4 : K.lookup f4 = some ⟨oc4, od4, .func (PySem.W.fnOf "are_ascending_below" "are_ascending_below" (defArgs s_are_ascending_below) (defBody s_are_ascending_below) (defScope s_are_ascending_below) .none kV4 dc4 pm4 an4 cd4 ct4), sl4⟩)
    (c4 : PySem.W.codeIn K cd4 "are_ascending_below" = true) (k4 : PySem.W.keepIn K (.ref f4) = true)
    (a5 : PySem.W.nsIn K mainGlobals "is_letter" = some (some (.ref f5)))
    (l5 : K.lookup f5 = some ⟨oc5, od5, .func (PySem.W.fnOf "is_letter" "is_letter" (defArgs s_is_letter) (defBody s_is_letter) (defScope s_is_letter) .none kV5 dc5 pm5 an5 cd5 ct5), sl5⟩)
    (c5 : PySem.W.codeIn K cd5 "is_letter" = true) (k5 : PySem.W.keepIn K (.ref f5) = true)
    (a6 : PySem.W.nsIn K mainGlobals "_is_step" = some (some (.ref f6)))
    (l6 : K.lookup f6 = some ⟨oc6, od6, .func (PySem.W.fnOf "_is_step" "_is_step" (defArgs s__is_step) (defBody s__is_step) (defScope s__is_step) .none kV6 dc6 pm6 an6 cd6 ct6), sl6⟩)
    (c6 : PySem.W.codeIn K cd6 "_is_step" = true) (k6 : PySem.W.keepIn K (.ref f6) = true)
    (a7 : PySem.W.nsIn K mainGlobals "_letters_in" = some (some (.ref f7)))
    (l7 : K.lookup f7 = some ⟨oc7, od7, .func (PySem.W.fnOf "_letters_in" "_letters_in" (defArgs s__letters_in) (defBody s__letters_in) (defScope s__letters_in) .none kV7 dc7 pm7 an7 cd7 ct7), sl7⟩)
    (c7 : PySem.W.codeIn K cd7 "_letters_in" = true) (k7 : PySem.W.keepIn K (.ref f7) = true)
    (a8 : PySem.W.nsIn K mainGlobals "_is_row" = some (some (.ref f8)))
    (l8 : K.lookup f8 = some ⟨oc8, od8, .func (PySem.W.fnOf "_is_row" "_is_row" (defArgs s__is_row) (defBody s__is_row) (defScope s__is_row) .none kV8 dc8 pm8 an8 cd8 ct8), sl8⟩)
    (c8 : PySem.W.codeIn K cd8 "_is_row" = true) (k8 : PySem.W.keepIn K (.ref f8) = true)
    (a9 : PySem.W.nsIn K mainGlobals "is_wish" = some (some (.ref f9)))
    (l9 : K.lookup f9 = some ⟨oc9, od9, .func (PySem.W.fnOf "is_wish" "is_wish" (defArgs s_is_wish) (defBody s_is_wish) (defScope s_is_wish) .none kV9 dc9 pm9 an9 cd9 ct9), sl9⟩)
    (c9 : PySem.W.codeIn K cd9 "is_wish" = true) (k9 : PySem.W.keepIn K (.ref f9) = true)
    (a10 : PySem.W.nsIn K mainGlobals "takes" = some (some (.ref f10)))
    (l10 : K.lookup f10 = some ⟨oc10, od10, .func (PySem.W.fnOf "takes" "takes" (defArgs s_takes) (defBody s_takes) (defScope s_takes) .none kV10 dc10 pm10 an10 cd10 ct10), sl10⟩)
    (c10 : PySem.W.codeIn K cd10 "takes" = true) (k10 : PySem.W.keepIn K (.ref f10) = true)
    (a11 : PySem.W.nsIn K mainGlobals "not_taken" = some (some (.ref f11)))
    (l11 : K.lookup f11 = some ⟨oc11, od11, .func (PySem.W.fnOf "not_taken" "not_taken" (defArgs s_not_taken) (defBody s_not_taken) (defScope s_not_taken) .none kV11 dc11 pm11 an11 cd11 ct11), sl11⟩)
    (c11 : PySem.W.codeIn K cd11 "not_taken" = true) (k11 : PySem.W.keepIn K (.ref f11) = true)
    (a12 : PySem.W.nsIn K mainGlobals "_law_bag" = some (some (.ref f12)))
    (l12 : K.lookup f12 = some ⟨oc12, od12, .func (PySem.W.fnOf "_law_bag" "_law_bag" (defArgs s__law_bag) (defBody s__law_bag) (defScope s__law_bag) .none kV12 dc12 pm12 an12 cd12 ct12), sl12⟩)
    (c12 : PySem.W.codeIn K cd12 "_law_bag" = true) (k12 : PySem.W.keepIn K (.ref f12) = true)
    (a13 : PySem.W.nsIn K mainGlobals "_law_take" = some (some (.ref f13)))
    (l13 : K.lookup f13 = some ⟨oc13, od13, .func (PySem.W.fnOf "_law_take" "_law_take" (defArgs s__law_take) (defBody s__law_take) (defScope s__law_take) .none kV13 dc13 pm13 an13 cd13 ct13), sl13⟩)
    (c13 : PySem.W.codeIn K cd13 "_law_take" = true) (k13 : PySem.W.keepIn K (.ref f13) = true)
    (a14 : PySem.W.nsIn K mainGlobals "_law_some" = some (some (.ref f14)))
    (l14 : K.lookup f14 = some ⟨oc14, od14, .func (PySem.W.fnOf "_law_some" "_law_some" (defArgs s__law_some) (defBody s__law_some) (defScope s__law_some) .none kV14 dc14 pm14 an14 cd14 ct14), sl14⟩)
    (c14 : PySem.W.codeIn K cd14 "_law_some" = true) (k14 : PySem.W.keepIn K (.ref f14) = true)
    (a15 : PySem.W.nsIn K mainGlobals "_law_mixed" = some (some (.ref f15)))
    (l15 : K.lookup f15 = some ⟨oc15, od15, .func (PySem.W.fnOf "_law_mixed" "_law_mixed" (defArgs s__law_mixed) (defBody s__law_mixed) (defScope s__law_mixed) .none kV15 dc15 pm15 an15 cd15 ct15), sl15⟩)
    (c15 : PySem.W.codeIn K cd15 "_law_mixed" = true) (k15 : PySem.W.keepIn K (.ref f15) = true)
    (a16 : PySem.W.nsIn K mainGlobals "_law_alike" = some (some (.ref f16)))
    (l16 : K.lookup f16 = some ⟨oc16, od16, .func (PySem.W.fnOf "_law_alike" "_law_alike" (defArgs s__law_alike) (defBody s__law_alike) (defScope s__law_alike) .none kV16 dc16 pm16 an16 cd16 ct16), sl16⟩)
    (c16 : PySem.W.codeIn K cd16 "_law_alike" = true) (k16 : PySem.W.keepIn K (.ref f16) = true)
    (a17 : PySem.W.nsIn K mainGlobals "_law_is_int" = some (some (.ref f17)))
    (l17 : K.lookup f17 = some ⟨oc17, od17, .func (PySem.W.fnOf "_law_is_int" "_law_is_int" (defArgs s__law_is_int) (defBody s__law_is_int) (defScope s__law_is_int) .none kV17 dc17 pm17 an17 cd17 ct17), sl17⟩)
    (c17 : PySem.W.codeIn K cd17 "_law_is_int" = true) (k17 : PySem.W.keepIn K (.ref f17) = true)
    (a18 : PySem.W.nsIn K mainGlobals "_law_odd" = some (some (.ref f18)))
    (l18 : K.lookup f18 = some ⟨oc18, od18, .func (PySem.W.fnOf "_law_odd" "_law_odd" (defArgs s__law_odd) (defBody s__law_odd) (defScope s__law_odd) .none kV18 dc18 pm18 an18 cd18 ct18), sl18⟩)
    (c18 : PySem.W.codeIn K cd18 "_law_odd" = true) (k18 : PySem.W.keepIn K (.ref f18) = true)
    (a19 : PySem.W.nsIn K mainGlobals "_law_bent" = some (some (.ref f19)))
    (l19 : K.lookup f19 = some ⟨oc19, od19, .func (PySem.W.fnOf "_law_bent" "_law_bent" (defArgs s__law_bent) (defBody s__law_bent) (defScope s__law_bent) .none kV19 dc19 pm19 an19 cd19 ct19), sl19⟩)
    (c19 : PySem.W.codeIn K cd19 "_law_bent" = true) (k19 : PySem.W.keepIn K (.ref f19) = true)
    (a20 : PySem.W.nsIn K mainGlobals "_law_letters" = some (some (.ref f20)))
    (l20 : K.lookup f20 = some ⟨oc20, od20, .func (PySem.W.fnOf "_law_letters" "_law_letters" (defArgs s__law_letters) (defBody s__law_letters) (defScope s__law_letters) .none kV20 dc20 pm20 an20 cd20 ct20), sl20⟩)
    (c20 : PySem.W.codeIn K cd20 "_law_letters" = true) (k20 : PySem.W.keepIn K (.ref f20) = true)
    (a21 : PySem.W.nsIn K mainGlobals "_law_is_letter" = some (some (.ref f21)))
    (l21 : K.lookup f21 = some ⟨oc21, od21, .func (PySem.W.fnOf "_law_is_letter" "_law_is_letter" (defArgs s__law_is_letter) (defBody s__law_is_letter) (defScope s__law_is_letter) .none kV21 dc21 pm21 an21 cd21 ct21), sl21⟩)
    (c21 : PySem.W.codeIn K cd21 "_law_is_letter" = true) (k21 : PySem.W.keepIn K (.ref f21) = true)
    (a22 : PySem.W.nsIn K mainGlobals "_law_is_from" = some (some (.ref f22)))
    (l22 : K.lookup f22 = some ⟨oc22, od22, .func (PySem.W.fnOf "_law_is_from" "_law_is_from" (defArgs s__law_is_from) (defBody s__law_is_from) (defScope s__law_is_from) .none kV22 dc22 pm22 an22 cd22 ct22), sl22⟩)
    (c22 : PySem.W.codeIn K cd22 "_law_is_from" = true) (k22 : PySem.W.keepIn K (.ref f22) = true)
    (a23 : PySem.W.nsIn K mainGlobals "_law_word" = some (some (.ref f23)))
    (l23 : K.lookup f23 = some ⟨oc23, od23, .func (PySem.W.fnOf "_law_word" "_law_word" (defArgs s__law_word) (defBody s__law_word) (defScope s__law_word) .none kV23 dc23 pm23 an23 cd23 ct23), sl23⟩)
    (c23 : PySem.W.codeIn K cd23 "_law_word" = true) (k23 : PySem.W.keepIn K (.ref f23) = true)
    (a24 : PySem.W.nsIn K mainGlobals "_law_wish" = some (some (.ref f24)))
    (l24 : K.lookup f24 = some ⟨oc24, od24, .func (PySem.W.fnOf "_law_wish" "_law_wish" (defArgs s__law_wish) (defBody s__law_wish) (defScope s__law_wish) .none kV24 dc24 pm24 an24 cd24 ct24), sl24⟩)
    (c24 : PySem.W.codeIn K cd24 "_law_wish" = true) (k24 : PySem.W.keepIn K (.ref f24) = true)
    (a25 : PySem.W.nsIn K mainGlobals "_law_takes" = some (some (.ref f25)))
    (l25 : K.lookup f25 = some ⟨oc25, od25, .func (PySem.W.fnOf "_law_takes" "_law_takes" (defArgs s__law_takes) (defBody s__law_takes) (defScope s__law_takes) .none kV25 dc25 pm25 an25 cd25 ct25), sl25⟩)
    (c25 : PySem.W.codeIn K cd25 "_law_takes" = true) (k25 : PySem.W.keepIn K (.ref f25) = true)
    (a26 : PySem.W.nsIn K mainGlobals "_law_is_wish" = some (some (.ref f26)))
    (l26 : K.lookup f26 = some ⟨oc26, od26, .func (PySem.W.fnOf "_law_is_wish" "_law_is_wish" (defArgs s__law_is_wish) (defBody s__law_is_wish) (defScope s__law_is_wish) .none kV26 dc26 pm26 an26 cd26 ct26), sl26⟩)
    (c26 : PySem.W.codeIn K cd26 "_law_is_wish" = true) (k26 : PySem.W.keepIn K (.ref f26) = true)
    (a27 : PySem.W.nsIn K mainGlobals "law" = some (some (.ref f27)))
    (l27 : K.lookup f27 = some ⟨oc27, od27, .func (PySem.W.fnOf "law" "law" (defArgs s_law) (defBody s_law) (defScope s_law) .none kV27 dc27 pm27 an27 cd27 ct27), sl27⟩)
    (c27 : PySem.W.codeIn K cd27 "law" = true) (k27 : PySem.W.keepIn K (.ref f27) = true)
    (z_abs : PySem.W.nsIn K mainGlobals "abs" = some none)
    (z_all : PySem.W.nsIn K mainGlobals "all" = some none)
    (z_bool : PySem.W.nsIn K mainGlobals "bool" = some none)
    (z_dict : PySem.W.nsIn K mainGlobals "dict" = some none)
    (z_int : PySem.W.nsIn K mainGlobals "int" = some none)
    (z_isinstance : PySem.W.nsIn K mainGlobals "isinstance" = some none)
    (z_len : PySem.W.nsIn K mainGlobals "len" = some none)
    (z_list : PySem.W.nsIn K mainGlobals "list" = some none)
    (z_range : PySem.W.nsIn K mainGlobals "range" = some none)
    (z_repr : PySem.W.nsIn K mainGlobals "repr" = some none)
    (z_set : PySem.W.nsIn K mainGlobals "set" = some none)
    (z_sorted : PySem.W.nsIn K mainGlobals "sorted" = some none)
    (z_str : PySem.W.nsIn K mainGlobals "str" = some none)
    (z_tuple : PySem.W.nsIn K mainGlobals "tuple" = some none)
    (z_zip : PySem.W.nsIn K mainGlobals "zip" = some none)
    {tk_MOST_LETTERS : Tok} (c_MOST_LETTERS : PySem.W.nsIn K mainGlobals "MOST_LETTERS" = some (some (.int 6 tk_MOST_LETTERS)))
    {tk_MOST_SPOTS : Tok} (c_MOST_SPOTS : PySem.W.nsIn K mainGlobals "MOST_SPOTS" = some (some (.int 6 tk_MOST_SPOTS))) :
    ∃ (fd : FuncData) (cs : List (Addr × Addr)), (∀ p ∈ cs, K.lookup p.2 = none) ∧ (∀ p ∈ cs, ∃ (x : Str) (dr : DefRec), (recsOf PR).find? (fun e => e.name == x) = some dr ∧ PySem.W.tabIn K x = some p) ∧
      (∀ (s : Shared) (v : Value), BindsTo s fd ⟨[v], []⟩ [("script", v)]) ∧
      ∀ bs : Heap, K.In bs → bs.Ns mainGlobals mg → bs.NoDigits → (∀ p ∈ cs, LamX.TabB bs mg p.1 p.2) → FnG l.prog w K mg bs 9 fa fd ["script"] (spLaw K cs) := by
  have e := hfa.symm.trans (PySem.W.mg_of X Gn a27)
  cases e
  have F0 := fun_mk (st := s_is_integer) l0 c0 k0
  have b0 := F0.binds (ps := ["thing"]) fun _ _ _ _ _ _ us hl => match us, hl with | [_], _ => rfl
  have F1 := fun_mk (st := s_is_within) l1 c1 k1
  have b1 := F1.binds (ps := ["thing", "low", "high"]) fun _ _ _ _ _ _ us hl => match us, hl with | [_, _, _], _ => rfl
  have F2 := fun_mk (st := s_is_tuple) l2 c2 k2
  have b2 := F2.binds (ps := ["thing", "least", "most"]) fun _ _ _ _ _ _ us hl => match us, hl with | [_, _, _], _ => rfl
  have F3 := fun_mk (st := s_is_ascending) l3 c3 k3
  have b3 := F3.binds (ps := ["items"]) fun _ _ _ _ _ _ us hl => match us, hl with | [_], _ => rfl
  have F4 := fun_mk (st := s_are_ascending_below) l4 c4 k4
  have b4 := F4.binds (ps := ["thing", "bound"]) fun _ _ _ _ _ _ us hl => match us, hl with | [_, _], _ => rfl
  have F5 := fun_mk (st := s_is_letter) l5 c5 k5
  have b5 := F5.binds (ps := ["thing"]) fun _ _ _ _ _ _ us hl => match us, hl with | [_], _ => rfl
  have F6 := fun_mk (st := s__is_step) l6 c6 k6
  have b6 := F6.binds (ps := ["thing", "spots"]) fun _ _ _ _ _ _ us hl => match us, hl with | [_, _], _ => rfl
  have F7 := fun_mk (st := s__letters_in) l7 c7 k7
  have b7 := F7.binds (ps := ["row"]) fun _ _ _ _ _ _ us hl => match us, hl with | [_], _ => rfl
  have F8 := fun_mk (st := s__is_row) l8 c8 k8
  have b8 := F8.binds (ps := ["thing", "spots"]) fun _ _ _ _ _ _ us hl => match us, hl with | [_, _], _ => rfl
  have F9 := fun_mk (st := s_is_wish) l9 c9 k9
  have b9 := F9.binds (ps := ["thing"]) fun _ _ _ _ _ _ us hl => match us, hl with | [_], _ => rfl
  have F10 := fun_mk (st := s_takes) l10 c10 k10
  have b10 := F10.binds (ps := ["wish", "word"]) fun _ _ _ _ _ _ us hl => match us, hl with | [_, _], _ => rfl
  have F11 := fun_mk (st := s_not_taken) l11 c11 k11
  have b11 := F11.binds (ps := ["wish"]) fun _ _ _ _ _ _ us hl => match us, hl with | [_], _ => rfl
  have F12 := fun_mk (st := s__law_bag) l12 c12 k12
  have b12 := F12.binds (ps := ["script"]) fun _ _ _ _ _ _ us hl => match us, hl with | [_], _ => rfl
  have F13 := fun_mk (st := s__law_take) l13 c13 k13
  have b13 := F13.binds (ps := ["bag", "many"]) fun _ _ _ _ _ _ us hl => match us, hl with | [_, _], _ => rfl
  have F14 := fun_mk (st := s__law_some) l14 c14 k14
  have b14 := F14.binds (ps := ["bag", "things"]) fun _ _ _ _ _ _ us hl => match us, hl with | [_, _], _ => rfl
  have F15 := fun_mk (st := s__law_mixed) l15 c15 k15
  have b15 := F15.binds (ps := ["bag", "things"]) fun _ _ _ _ _ _ us hl => match us, hl with | [_, _], _ => rfl
  have F16 := fun_mk (st := s__law_alike) l16 c16 k16
  have b16 := F16.binds (ps := ["found", "due"]) fun _ _ _ _ _ _ us hl => match us, hl with | [_, _], _ => rfl
  have F17 := fun_mk (st := s__law_is_int) l17 c17 k17
  have b17 := F17.binds (ps := ["thing"]) fun _ _ _ _ _ _ us hl => match us, hl with | [_], _ => rfl
  have F18 := fun_mk (st := s__law_odd) l18 c18 k18
  have b18 := F18.binds (ps := ["bag"]) fun _ _ _ _ _ _ us hl => match us, hl with | [_], _ => rfl
  have F19 := fun_mk (st := s__law_bent) l19 c19 k19
  have b19 := F19.binds (ps := ["bag", "thing", "deep"]) fun _ _ _ _ _ _ us hl => match us, hl with | [_, _, _], _ => rfl
  have F20 := fun_mk (st := s__law_letters) l20 c20 k20
  have b20 := F20.binds (ps := []) fun _ _ _ _ _ _ us hl => match us, hl with | [], _ => rfl
  have F21 := fun_mk (st := s__law_is_letter) l21 c21 k21
  have b21 := F21.binds (ps := ["thing"]) fun _ _ _ _ _ _ us hl => match us, hl with | [_], _ => rfl
  have F22 := fun_mk (st := s__law_is_from) l22 c22 k22
  have b22 := F22.binds (ps := ["thing", "least", "most"]) fun _ _ _ _ _ _ us hl => match us, hl with | [_, _, _], _ => rfl
  have F23 := fun_mk (st := s__law_word) l23 c23 k23
  have b23 := F23.binds (ps := ["bag", "letters", "most"]) fun _ _ _ _ _ _ us hl => match us, hl with | [_, _, _], _ => rfl
  have F24 := fun_mk (st := s__law_wish) l24 c24 k24
  have b24 := F24.binds (ps := ["bag", "letters", "most"]) fun _ _ _ _ _ _ us hl => match us, hl with | [_, _, _], _ => rfl
  have F25 := fun_mk (st := s__law_takes) l25 c25 k25
  have b25 := F25.binds (ps := ["wish", "word"]) fun _ _ _ _ _ _ us hl => match us, hl with | [_, _], _ => rfl
  have F26 := fun_mk (st := s__law_is_wish) l26 c26 k26
  have b26 := F26.binds (ps := ["thing"]) fun _ _ _ _ _ _ us hl => match us, hl with | [_], _ => rfl
  have F27 := fun_mk (st := s_law) l27 c27 k27
  have b27 := F27.binds (ps := ["script"]) fun _ _ _ _ _ _ us hl => match us, hl with | [_], _ => rfl
  have noK : ∀ p ∈ ([] : List (Addr × Addr)), K.lookup p.2 = none := fun _ h => nomatch h
  have recs : ∀ p ∈ ([] : List (Addr × Addr)), ∃ (x : Str) (dr : DefRec), (recsOf PR).find? (fun e => e.name == x) = some dr ∧ PySem.W.tabIn K x = some p := fun _ h => nomatch h
  refine ⟨PySem.W.fnOf "law" "law" (defArgs s_law) (defBody s_law) (defScope s_law) .none kV27 dc27 pm27 an27 cd27 ct27, [], noK, recs, fun s v => .of_eq rfl, fun bs _ _ nd tabs => ok_law (T := (⟨_, _, F0, PySem.W.mg_of X Gn a0, b0,
    _, _, F1, PySem.W.mg_of X Gn a1, b1,
    _, _, F2, PySem.W.mg_of X Gn a2, b2,
    _, _, F3, PySem.W.mg_of X Gn a3, b3,
    _, _, F4, PySem.W.mg_of X Gn a4, b4,
    _, _, F5, PySem.W.mg_of X Gn a5, b5,
    _, _, F6, PySem.W.mg_of X Gn a6, b6,
    _, _, F7, PySem.W.mg_of X Gn a7, b7,
    _, _, F8, PySem.W.mg_of X Gn a8, b8,
    _, _, F9, PySem.W.mg_of X Gn a9, b9,
    _, _, F10, PySem.W.mg_of X Gn a10, b10,
    _, _, F11, PySem.W.mg_of X Gn a11, b11,
    _, _, F12, PySem.W.mg_of X Gn a12, b12,
    _, _, F13, PySem.W.mg_of X Gn a13, b13,
    _, _, F14, PySem.W.mg_of X Gn a14, b14,
    _, _, F15, PySem.W.mg_of X Gn a15, b15,
    _, _, F16, PySem.W.mg_of X Gn a16, b16,
    _, _, F17, PySem.W.mg_of X Gn a17, b17,
    _, _, F18, PySem.W.mg_of X Gn a18, b18,
    _, _, F19, PySem.W.mg_of X Gn a19, b19,
    _, _, F20, PySem.W.mg_of X Gn a20, b20,
    _, _, F21, PySem.W.mg_of X Gn a21, b21,
    _, _, F22, PySem.W.mg_of X Gn a22, b22,
    _, _, F23, PySem.W.mg_of X Gn a23, b23,
    _, _, F24, PySem.W.mg_of X Gn a24, b24,
    _, _, F25, PySem.W.mg_of X Gn a25, b25,
    _, _, F26, PySem.W.mg_of X Gn a26, b26,
    _, _, F27, PySem.W.mg_of X Gn a27, b27,
    PySem.W.mg_none_of X Gn z_abs,
    PySem.W.mg_none_of X Gn z_all,
    PySem.W.mg_none_of X Gn z_bool,
    PySem.W.mg_none_of X Gn z_dict,
    PySem.W.mg_none_of X Gn z_int,
    PySem.W.mg_none_of X Gn z_isinstance,
    PySem.W.mg_none_of X Gn z_len,
    PySem.W.mg_none_of X Gn z_list,
    PySem.W.mg_none_of X Gn z_range,
    PySem.W.mg_none_of X Gn z_repr,
    PySem.W.mg_none_of X Gn z_set,
    PySem.W.mg_none_of X Gn z_sorted,
    PySem.W.mg_none_of X Gn z_str,
    PySem.W.mg_none_of X Gn z_tuple,
    PySem.W.mg_none_of X Gn z_zip,
    _, PySem.W.mg_of X Gn c_MOST_LETTERS,
    _, PySem.W.mg_of X Gn c_MOST_SPOTS⟩ : Txt K mg)) nd tabs⟩
end
end K7

open PySem PySem.W PyProof.Rows
set_option maxRecDepth 100000 in
set_option maxHeartbeats 0 in
theorem PySem.Challenge.cw_unwrittenrow_k07_wishes_of_any_value_holds : PySem.Challenge.rw_unwrittenrow_k07_wishes_of_any_value.Holds := by
  w_on; o_law; k_head; (case hw => w_witness2)
  k_fill
  refine DL.walkGT (l := PySem.Challenge.rw_unwrittenrow_k07_wishes_of_any_value) (m := 63) (n := 9) (x := "script") (sp := K7.spLaw) rfl (by decide) rfl ⟨rfl, by decide, by decide⟩ (fun w h Y => by first | exact PySem.W.kIn_of Y | exact PySem.W.km_in_of Y) ?F (fun K cs H a ns hl hT hS => ⟨a, ns, rfl, hS, hl, hT, fun _ => rfl⟩)
  case F =>
    intro w mg fa h KX G hmg
    refine' K7.all_mk KX G hmg ?a0 ?l0 ?c0 ?k0 ?a1 ?l1 ?c1 ?k1 ?a2 ?l2 ?c2 ?k2 ?a3 ?l3 ?c3 ?k3 ?a4 ?l4 ?c4 ?k4 ?a5 ?l5 ?c5 ?k5 ?a6 ?l6 ?c6 ?k6 ?a7 ?l7 ?c7 ?k7 ?a8 ?l8 ?c8 ?k8 ?a9 ?l9 ?c9 ?k9 ?a10 ?l10 ?c10 ?k10 ?a11 ?l11 ?c11 ?k11 ?a12 ?l12 ?c12 ?k12 ?a13 ?l13 ?c13 ?k13 ?a14 ?l14 ?c14 ?k14 ?a15 ?l15 ?c15 ?k15 ?a16 ?l16 ?c16 ?k16 ?a17 ?l17 ?c17 ?k17 ?a18 ?l18 ?c18 ?k18 ?a19 ?l19 ?c19 ?k19 ?a20 ?l20 ?c20 ?k20 ?a21 ?l21 ?c21 ?k21 ?a22 ?l22 ?c22 ?k22 ?a23 ?l23 ?c23 ?k23 ?a24 ?l24 ?c24 ?k24 ?a25 ?l25 ?c25 ?k25 ?a26 ?l26 ?c26 ?k26 ?a27 ?l27 ?c27 ?k27 ?z_abs ?z_all ?z_bool ?z_dict ?z_int ?z_isinstance ?z_len ?z_list ?z_range ?z_repr ?z_set ?z_sorted ?z_str ?z_tuple ?z_zip ?c_MOST_LETTERS ?c_MOST_SPOTS
    (case a0 => k_is)
    (case l0 => k_is)
    (case c0 => k_is)
    (case k0 => k_is)
    (case a1 => k_is)
    (case l1 => k_is)
    (case c1 => k_is)
    (case k1 => k_is)
    (case a2 => k_is)
    (case l2 => k_is)
    (case c2 => k_is)
    (case k2 => k_is)
    (case a3 => k_is)
    (case l3 => k_is)
    (case c3 => k_is)
    (case k3 => k_is)
    (case a4 => k_is)
    (case l4 => k_is)
    (case c4 => k_is)
    (case k4 => k_is)
    (case a5 => k_is)
    (case l5 => k_is)
    (case c5 => k_is)
    (case k5 => k_is)
    (case a6 => k_is)
    (case l6 => k_is)
    (case c6 => k_is)
    (case k6 => k_is)
    (case a7 => k_is)
    (case l7 => k_is)
    (case c7 => k_is)
    (case k7 => k_is)
    (case a8 => k_is)
    (case l8 => k_is)
    (case c8 => k_is)
    (case k8 => k_is)
    (case a9 => k_is)
    (case l9 => k_is)
    (case c9 => k_is)
    (case k9 => k_is)
    (case a10 => k_is)
    (case l10 => k_is)
    (case c10 => k_is)
    (case k10 => k_is)
    (case a11 => k_is)
    (case l11 => k_is)
    (case c11 => k_is)
    (case k11 => k_is)
    (case a12 => k_is)
    (case l12 => k_is)
    (case c12 => k_is)
    (case k12 => k_is)
    (case a13 => k_is)
    (case l13 => k_is)
    (case c13 => k_is)
    (case k13 => k_is)
    (case a14 => k_is)
    (case l14 => k_is)
    (case c14 => k_is)
    (case k14 => k_is)
    (case a15 => k_is)
    (case l15 => k_is)
    (case c15 => k_is)
    (case k15 => k_is)
    (case a16 => k_is)
    (case l16 => k_is)
    (case c16 => k_is)
    (case k16 => k_is)
    (case a17 => k_is)
    (case l17 => k_is)
    (case c17 => k_is)
    (case k17 => k_is)
    (case a18 => k_is)
    (case l18 => k_is)
    (case c18 => k_is)
    (case k18 => k_is)
    (case a19 => k_is)
    (case l19 => k_is)
    (case c19 => k_is)
    (case k19 => k_is)
    (case a20 => k_is)
    (case l20 => k_is)
    (case c20 => k_is)
    (case k20 => k_is)
    (case a21 => k_is)
    (case l21 => k_is)
    (case c21 => k_is)
    (case k21 => k_is)
    (case a22 => k_is)
    (case l22 => k_is)
    (case c22 => k_is)
    (case k22 => k_is)
    (case a23 => k_is)
    (case l23 => k_is)
    (case c23 => k_is)
    (case k23 => k_is)
    (case a24 => k_is)
    (case l24 => k_is)
    (case c24 => k_is)
    (case k24 => k_is)
    (case a25 => k_is)
    (case l25 => k_is)
    (case c25 => k_is)
    (case k25 => k_is)
    (case a26 => k_is)
    (case l26 => k_is)
    (case c26 => k_is)
    (case k26 => k_is)
    (case a27 => k_is)
    (case l27 => k_is)
    (case c27 => k_is)
    (case k27 => k_is)
    (case z_abs => k_is)
    (case z_all => k_is)
    (case z_bool => k_is)
    (case z_dict => k_is)
    (case z_int => k_is)
    (case z_isinstance => k_is)
    (case z_len => k_is)
    (case z_list => k_is)
    (case z_range => k_is)
    (case z_repr => k_is)
    (case z_set => k_is)
    (case z_sorted => k_is)
    (case z_str => k_is)
    (case z_tuple => k_is)
    (case z_zip => k_is)
    (case c_MOST_LETTERS => k_is)
    (case c_MOST_SPOTS => k_is)
