import PyProof.Rows.All
import Wide.All
import OpenK.AllK
import Wide.FinOn
import PyProof.EqAt
import PyProof.EqKinds
import PyProof.TupleCall
import PyProof.ReprRoads
import HandS.ForMost
import HandS.IsInst
import HandS.DictComp
import HandS.Walk
import HandS.Codes
import KE.KMinKey
import HandS.SortKw
import HandS.Strs
import PyProof.Draws
import PyProof.EnumMake
import KE.GoesMore
import HandS.TupAny
import HandS.CallRecv
import HandS.Head0
import HandS.Head1
import HandS.Head2
import HandS.HeadEnd
import HandS.HeadHook1
import HandS.HeadHook2
import HandS.HeadHook3
import HandS.HeadHook4
import HandS.Text
import PySem.Challenge.RW_movedchecks_k11_kinds
set_option Elab.async false
set_option linter.all false
set_option maxRecDepth 100000
set_option maxHeartbeats 4000000
/-! A def's promise where it is known that no repr is under way (Free), and repr of data by it. -/
namespace My
open PySem PySem.Spec PyProof.Rows L2
/-- nothing is being shown around here -/
abbrev Free (A : Around) : Prop := A.guards = some []
section
variable (P : Program) (w : World) (K : PySem.W.Frag) (mg : Str → Option Value) (base : Heap)
/-- FnOk, only where nothing is being shown -/
structure FnG (k : Nat) (f : Addr) (fd : FuncData) (ps : List Str) (sp : Sp) : Prop where
  len : ∀ vs H Q E, sp vs H Q E → vs.length = ps.length
  run : ∀ (A : Around) (outer : List Env) (s : Shared) (H : Hp) (args : Args)
      (us : List Value) (vs : List V) (Q : VK) (E : XK), Free A → Room k A →
    Env0 P w K mg base A outer s H → BindsTo s fd args (ps.zip us) → Vals vs us →
    sp vs H Q E →
    codeAny (model P w) A (.call (.ref f) args) (CR CX0 outer P w H s Q E) s
end
section
variable {P : Program} {w : World} {K : PySem.W.Frag} {mg : Str → Option Value} {base : Heap}
theorem FnG.mono {j k : Nat} {f : Addr} {fd : FuncData} {ps : List Str} {sp : Sp}
    (F : FnG P w K mg base j f fd ps sp) (h : j ≤ k) : FnG P w K mg base k f fd ps sp :=
  ⟨F.len, fun A outer s H args us vs Q E hf hr => F.run A outer s H args us vs Q E hf (hr.mono h)⟩
/-- the rule for such a def's body -/
theorem funG_ok {x qual : Str} {st : Stmt} {f : Addr} {fd : FuncData} {N ps : List Str}
    {k : Nat} {sp : Sp} (F : Fun K x qual st f fd) (S : FnScope N ps (defScope st))
    (len : ∀ vs H Q E, sp vs H Q E → vs.length = ps.length)
    (hbody : ∀ (cdv : Value) (A : Around) (outer : List Env) (s : Shared) (H : Hp)
        (vs : List V) (Q : VK) (E : XK),
      Free (A.deeper (envOfC qual (defScope st) s.heap.objs.size f cdv)) →
      Room k (A.deeper (envOfC qual (defScope st) s.heap.objs.size f cdv)) →
      sp vs H Q E →
      ∃ t, PSs (cxOf CX0 P w K mg base N qual (defScope st) f cdv A outer s H E).nox
          (defBody st) t ∧
        t { nx := fun _ H' => Q .non H', rt := Q } (start N vs) H) :
    FnG P w K mg base (k + 1) f fd ps sp := by
  obtain ⟨oc, od, kV, doc, pm, an, cdv, ct, osl, rfl, lk, hcd⟩ := F.ex
  refine ⟨len, ?_⟩
  intro A outer s H args us vs Q E hf hr e0 hb r hsp
  have hlen := len _ _ _ _ hsp
  have keep := fun b o e => (e0.bs b o e).1
  have KX : K.In s.heap := e0.mod.kin.keeps keep
  have lim : s.heap.NoLimit := e0.mod.nolimit.keeps keep
  refine codeAny_call_function hr.depth (KX _ _ lk) rfl S.co S.gen rfl
    (PySem.W.codeRec_of KX hcd) (hb _ _ _ _ ?_)
  refine wpAny_newFunctionEnv_cells S.kind ?_ ?_
  · rintro ⟨n, v⟩ hy
    rcases S.par n (List.of_mem_zip hy).1 with q | q
    · exact Or.inl q
    · exact Or.inr ⟨q, PySem.W.cellsFrom_some _ _ _ (Or.inl q)⟩
  · intro env he s1 xx
    subst he
    refine ⟨lim.keeps xx.toInCall.keep, codeAny_func ?_⟩
    obtain ⟨t, ht0, hq⟩ := hbody cdv A outer s H vs Q E hf (hr.deeper _) hsp
    have ht := ht0.nox
    have I := inv_start (CX := CX0) (E := E) S hr.hd e0 hlen r xx
    refine wpAny_mono (ht.run [] s1 (start N vs) H _ I hq) ?_ (fun e s' hs => hs)
    intro fl s' hs
    cases fl with
    | ret u =>
      obtain ⟨v, sg, H', J, rv, q⟩ := hs
      exact ⟨v, H', J.os, J.bare, J.base, J.hok, rv, q⟩
    | next =>
      obtain ⟨sg, H', J, q⟩ := hs
      exact ⟨V.non, H', J.os, J.bare, J.base, J.hok, rfl, q⟩
    | brk =>
      obtain ⟨_, _, _, q⟩ := hs
      exact q.elim
    | cont =>
      obtain ⟨_, _, _, q⟩ := hs
      exact q.elim
end
section
variable {X : Cx} {k : Nat} {f : Addr} {fd : FuncData} {ps : List Str} {sp : Sp}
  {x : Str} {p pos : Pos} {e : Expr} {es : List Expr} {t : TA}
/-- f(e, ..), f such a def -/
theorem pe_callG (F : FnG X.prog X.w X.K X.mg X.base k f fd ps sp) (hf : Free X.A)
    (hr : Room k X.A) (hg : Gl X x) (hm : X.mg x = some (.ref f))
    (hk : PySem.W.keepIn X.K (.ref f) = true) (hb : Binds X.K fd ps [])
    (ha : PA X (e :: es) t) (hdb : (x == ("__debug__" : Str)) = false := by decide)
    (he : starEach (e :: es) X.env = (false, eval e X.env) :: starEach es X.env := by rfl)
    (hpl : (backTo pos (starEach es X.env)).any (·.1) = false := by rfl) :
    PE X (.Call (.Name x p) (e :: es) [] pos) (tCall sp [] E0 t) := by
  refine ⟨fun pins s σ H Q I h => ?_⟩
  refine wpAny_Call_Name_kw (ld_glob I hg hm ?_ hdb)
  refine PySem.W.callWith_K (h₀ := X.base) I.ok.mod.kin hk
    (thn (ha.run pos pins s σ H _ I h) ?_) he hpl
  rintro us s1 ⟨vs, H1, I1, r, q⟩
  refine ⟨I1.kIn, ?_⟩
  have q2 : sp vs H1 Q E0 := by
    have q3 : sp (vs ++ []) H1 Q E0 := q
    rwa [List.append_nil] at q3
  have hl : (us ++ []).length = ps.length := by
    rw [List.append_nil, ← r.length]
    exact F.len _ _ _ _ q2
  have hb1 := hb s1 us I1.kIn hl
  rw [List.append_nil] at hb1
  refine wpAny_call (codeAny_mono
    (F.run X.A X.stack s1 H1 ⟨us, []⟩ us vs Q E0 hf hr I1.env0 hb1 r q2) ?_)
  intro rr s' hq
  cases rr with
  | error er => exact hq.elim
  | ok fl =>
    cases fl with
    | ret u => exact I1.after hq
    | next => exact False.elim hq
    | brk => exact False.elim hq
    | cont => exact False.elim hq
end

/-! ### the law's end, from such a promise -/
section
variable {P : Program} {w : World} {K : PySem.W.Frag} {mg mb : Str → Option Value}
  {k : Nat} {fa a : Addr} {fd : FuncData} {x : Str} {sp : Sp} {s1 : Shared}
  {vs : List Value} {ns : List Int}
/-- what the top wants behind the law's call -/
abbrev Done (s1 : Shared) : Result → Shared → Prop := fun r s' =>
  r = .ok (.ret (.bool true)) ∧ OldK s1.heap s'.heap ∧ s'.os = s1.os ∧ AllBare s'.gens
theorem law_core (KX : K.In s1.heap) (hns : s1.heap.Ns mainGlobals mg)
    (hb : s1.heap.Ns builtinsNs mb) (hbb : ∀ x : Str, x ≠ "__name__" → mb x = bootBuiltins x)
    (hlim : s1.heap.NoLimit) (hgens : s1.gens = #[])
    (ha : s1.heap.get? a = some { cls := .type "list", data := .seq vs.toArray })
    (hr : Room k callerA)
    (F : ∀ base : Heap, K.In base → base.Ns mainGlobals mg → FnG P w K mg base k fa fd [x] sp)
    (hbind : ∀ (s : Shared) (u : Value), BindsTo s fd ⟨[u], []⟩ [(x, u)])
    {H : Hp} (hO : Only H) (hok : HOk P w H s1.heap) (hA : ∀ b, H b ≠ none → b = a)
    (hK : H a ≠ none → K.lookup a = none)
    (hsp : sp [.ref a] H (fun v _ => v = .bl true) fun _ _ _ => False) :
    codeAny (model P w) callerA (.call (.ref fa) ⟨[.ref a], []⟩) (Done s1) s1 := by
  have some_ne : ∀ {b : Addr} {u : HO}, H b = some u → b = a := fun {b u} q => hA b (by
    rw [q]
    exact fun z => nomatch z)
  have free_of : ∀ {b : Addr} {o : Obj}, s1.heap.get? b = some o →
      (∀ vs' n, o.data ≠ .seq vs' n) → H b = none := by
    intro b o e d
    cases q : H b with
    | none => rfl
    | some u =>
      have e' := some_ne q
      subst e'
      rw [ha] at e
      cases e
      exact absurd rfl (d _ _)
  have nsK : ∀ {b : Addr} {m : Str → Option Value}, s1.heap.Ns b m →
      (hidT s1.heap H).Ns b m := by
    rintro b m ⟨o, es, ep, e, d, r⟩
    refine ⟨o, es, ep, hidT_get e (free_of e fun vs' n z => ?_), d, r⟩
    rw [d] at z
    cases z
  have hKb : K.In (hidT s1.heap H) := by
    intro b o e
    refine hidT_get (KX b o e) ?_
    cases q : H b with
    | none => rfl
    | some u =>
      have e' := some_ne q
      subst e'
      have n := hK (by rw [q]; exact fun z => nomatch z)
      rw [n] at e
      cases e
  have hM : Mod K mg (hidT s1.heap H) := by
    obtain ⟨mc, h1, h2⟩ := hlim
    exact ⟨hKb, nsK hns, ⟨mb, nsK hb, hbb⟩, ⟨mc, nsK h1, h2⟩⟩
  have e0 : Env0 P w K mg (hidT s1.heap H) callerA [] s1 H := {
    frames := rfl
    mod := hM
    bs := fun b o e => of_hidT e
    bsz := Nat.le_of_eq (hidT_size _ _)
    funs := trivial
    frf := fun b hb => absurd (show b ∈ ([] : List Addr) from hb) (by simp)
    hok := hok
    bare := .of_eq hgens }
  have run := (F _ hKb (nsK hns)).run callerA [] s1 H ⟨[.ref a], []⟩ [.ref a] [.ref a]
    _ _ rfl hr e0 (hbind s1 (.ref a)) (.cons rfl .nil) hsp
  refine codeAny_mono run ?_
  intro r s' h
  cases r with
  | error e => exact False.elim h
  | ok fl =>
    cases fl with
    | next => exact False.elim h
    | brk => exact False.elim h
    | cont => exact False.elim h
    | ret u =>
      obtain ⟨v, H', os, bare, un, hok', r', q⟩ := h
      have q' : v = .bl true := q
      subst q'
      obtain rfl : u = Value.bool true := r'
      refine ⟨rfl, OldK.of_keep ?_, os, bare⟩
      intro b o e
      cases q : H b with
      | none =>
        exact un.keep b o e q (fun z => absurd (show b ∈ ([] : List Addr) from z) (by simp)) (by simp)
      | some u =>
        rcases hO b with z | ⟨ob, xs, z⟩
        · rw [q] at z
          cases z
        · have z2 := un.frzs b ob _ z
          have e1 := (hok b _ z).1
          have e2 := (hok' b _ z2).1
          rw [e] at e1
          cases e1
          exact e2
theorem law_callG (KX : K.In s1.heap) (hns : s1.heap.Ns mainGlobals mg)
    (hb : s1.heap.Ns builtinsNs mb) (hbb : ∀ x : Str, x ≠ "__name__" → mb x = bootBuiltins x)
    (hlim : s1.heap.NoLimit) (hgens : s1.gens = #[])
    (ha : s1.heap.get? a = some { cls := .type "list", data := .seq vs.toArray })
    (hi : IntsAre vs ns) (hl : ns.length ≤ sizeLine) (hr : Room k callerA)
    (F : ∀ base : Heap, K.In base → base.Ns mainGlobals mg → FnG P w K mg base k fa fd [x] sp)
    (hbind : ∀ (s : Shared) (u : Value), BindsTo s fd ⟨[u], []⟩ [(x, u)])
    (hsp : ∀ H : Hp, Only H → SqL K H a (ns.map V.int) →
      sp [.ref a] H (fun v _ => v = .bl true) fun _ _ _ => False) :
    codeAny (model P w) callerA (.call (.ref fa) ⟨[.ref a], []⟩) (Done s1) s1 := by
  have rv := vals_ints hi
  have lenV := hi.length
  cases hk : K.lookup a with
  | some o =>
    have e := KX a o hk
    rw [ha] at e
    cases e
    have hO : Only (fun _ => (none : Option HO)) := fun _ => Or.inl rfl
    refine law_core (H := fun _ => none) KX hns hb hbb hlim hgens ha hr F hbind hO
      (fun b u z => nomatch (show (none : Option HO) = some u from z))
      (fun b z => absurd rfl z) (fun z => absurd rfl z) (hsp _ hO (Or.inr ?_))
    exact ⟨_, vs.toArray, _, hk, rfl, rfl, rfl,
      by rw [List.size_toArray, lenV]; exact hl, by simpa using rv⟩
  | none =>
    let o : Obj := { cls := .type "list", data := .seq vs.toArray }
    let H : Hp := fun b => if b = a then some (.frz o (.lst (ns.map V.int))) else none
    have at_a : H a = some (.frz o (.lst (ns.map V.int))) := if_pos rfl
    have off : ∀ {b}, b ≠ a → H b = none := fun h => if_neg h
    have hO : Only H := by
      intro b
      by_cases h : b = a
      · exact Or.inr ⟨o, ns.map V.int, by rw [h]; exact at_a⟩
      · exact Or.inl (off h)
    refine law_core (H := H) KX hns hb hbb hlim hgens ha hr F hbind hO ?_ ?_ (fun _ => hk)
      (hsp _ hO (Or.inl (Or.inr ⟨o, at_a⟩)))
    · intro b u z
      by_cases h : b = a
      · subst h
        rw [at_a] at z
        cases z
        exact ⟨ha, by rw [List.length_map]; exact hl, vs, _, rv, ha⟩
      · rw [off h] at z
        cases z
    · intro b z
      by_cases h : b = a
      · exact h
      · exact absurd (off h) z
end
theorem walkG {l : PySem.W.OpenLaw} {n k : Nat} {q : Program} {loose : List Str}
    {XP : (Str → Option Value) → Heap → Prop} {YP : World → Heap → Prop} {d : DefRec}
    {K : Params → PySem.W.Frag} {sp : PySem.W.Frag → World → Sp} {x : Str}
    (hn : l.most = some n) (hn2 : n ≤ sizeLine) (hdf : d.params.defaults = [])
    (hr : Room k callerA) (hY : ∀ (w : World) (h : Heap), YP w h → (K w.params).In h)
    (F : ∀ (w : World) (mg : Str → Option Value) (fa : Addr) (h : Heap),
      (K w.params).In h → h.Ns mainGlobals mg → mg d.name = some (.ref fa) →
      ∃ fd : FuncData, (∀ (s : Shared) (u : Value), BindsTo s fd ⟨[u], []⟩ [(x, u)]) ∧
        ∀ base : Heap, (K w.params).In base → base.Ns mainGlobals mg →
          FnG l.prog w (K w.params) mg base k fa fd [x] (sp (K w.params) w))
    (hsp : ∀ (w : World) (H : Hp) (a : Addr) (ns : List Int), ns.length ≤ n → Only H →
      SqL (K w.params) H a (ns.map V.int) →
      sp (K w.params) w [.ref a] H (fun v _ => v = .bl true) fun _ _ _ => False) :
    PySem.W.WalkO q loose XP YP l.row.toRowW d [] (fun f vs => PySem.call f vs) := by
  refine Att.attach_call hn hdf ?_
  intro w s0 s1 mg mb fa o pm cd doc a vs ns G Y ho hd hcd hmg hobj hints hlen hg
  have KX := hY w _ Y
  obtain ⟨fd, hb, hF⟩ := F w mg fa _ KX G.T.g hmg
  exact law_callG KX G.T.g G.T.b G.T.builtins G.T.nolimit hg hobj hints
    (Nat.le_trans hlen hn2) hr hF hb (fun H hO hS => hsp w H a ns hlen hO hS)
end My

set_option Elab.async false
set_option linter.all false
set_option maxRecDepth 100000
set_option maxHeartbeats 4000000
/-! Rules by values for several kinds at once; the reading of a list's place in an augmented store; repr of data. -/
namespace My
open PySem PySem.Spec PyProof.Rows L2
section
variable {X : Cx}
/-- l[i] ahead of l[i] op= e -/
theorem pget_list : PGet X (fun o i H Q => ∃ p xs k v, o = .ref p ∧ i = .int k ∧ 0 ≤ k ∧ k < 2 ^ 63 ∧
    SqL X.K H p xs ∧ xs[k.toNat]? = some v ∧ Q v H) := by
  intro pins s σ H o i ov iv Q I ro ri h
  obtain ⟨p, xs, k, v, rfl, rfl, h0, h1, hq, he, q⟩ := h
  cases ro
  obtain ⟨t, rfl⟩ := ri
  obtain ⟨its, r, pl, hz⟩ := I.list hq
  obtain ⟨w, ew, rw'⟩ := r.get he
  refine wpAny_getItem_list pl.isList h0 h1 (x := w) (by simpa using ew) ?_
  exact ⟨v, H, I, rw', q⟩
/-- what repr asks of a value -/
def rRepr (K : PySem.W.Frag) : List V → Hp → VK → Prop := fun xs H Q => ∃ x d, xs = [x] ∧ Dp K H x d ∧
  d.showable = true ∧ d.hasDict = false ∧ d.depth ≤ 60 ∧ d.shown.length ≤ sizeLine ∧ Q (.str d.shown) H
theorem call_repr (hf : Free X.A) (hu : X.A.units + 64 < cLine) : CallR X (.builtin "repr") (rRepr X.K) := by
  intro pins s σ H xs us Q I r h
  obtain ⟨x, d, rfl, hd, hs, hn, hdp, hz, q⟩ := h
  obtain ⟨u, rfl, rx⟩ := vals1 r
  obtain ⟨as, rd⟩ := Dp.reads I d x u hd rx
  cases rd with
  | none =>
    refine PySem.P.repr_of_none ⟨.str _, H, I.tok _, ⟨_, rfl⟩, ?_⟩
    simpa only [PyData.shown] using q
  | bool b =>
    refine PySem.P.repr_of_bool ⟨.str _, H, I.tok _, ⟨_, rfl⟩, ?_⟩
    simpa only [PyData.shown] using q
  | int i t =>
    refine PySem.P.repr_of_int (by simpa [PyData.showable] using hs) ⟨.str _, H, I.tok _, ⟨_, rfl⟩, ?_⟩
    simpa only [PyData.shown] using q
  | str x t =>
    refine PySem.P.repr_of_str ⟨.str _, H, I.tok _, ⟨_, rfl⟩, ?_⟩ (by simpa only [PyData.shown] using hz)
    simpa only [PyData.shown] using q
  | list h1 h2 h3 h4 =>
    refine repr_of_reads' (.list h1 h2 h3 h4) hs (PyData.noDict_hsm hn) hf (by omega) (fun _ _ e => e) (fun h' u tk hk => ?_) hz
    exact ⟨.str _, H, I.kept hk, ⟨_, rfl⟩, q⟩
  | tuple h1 h2 h3 h4 =>
    refine repr_of_reads' (.tuple h1 h2 h3 h4) hs (PyData.noDict_hsm hn) hf (by omega) (fun _ _ e => e) (fun h' u tk hk => ?_) hz
    exact ⟨.str _, H, I.kept hk, ⟨_, rfl⟩, q⟩
  | dict _ _ _ _ _ => simp [PyData.hasDict] at hn
end
end My

set_option Elab.async false
set_option linter.all false
set_option maxRecDepth 100000
set_option maxHeartbeats 4000000
/-! A thing that is judged: data, a flat dict, or an instance of one class; isinstance of it. -/
namespace My
open PySem PySem.Spec PyProof.Rows L2
inductive Th (K : PySem.W.Frag) (H : Hp) (C : Addr) : V → Option PyData → Prop
  | dat {x : V} {d : PyData} : Dp K H x d → Th K H C x (some d)
  | dic {a : Addr} (kvs : List (Str × Int)) : H a = some (.dK (kvs.map fun p => (Sum.inr p.1, V.int p.2))) →
      Th K H C (.ref a) (some (.dict (kvs.map fun p => (.str p.1, .int p.2))))
  | ins {a dx : Addr} {fs : List (Str × V)} : H a = some (.ins C dx fs) → Th K H C (.ref a) none
def tyD : PyData → String
  | .none => "NoneType"
  | .bool _ => "bool"
  | .int _ => "int"
  | .str _ => "str"
  | .list _ => "list"
  | .tuple _ => "tuple"
  | .dict _ => "dict"
/-- is it an instance of the built-in class T -/
def isT : Option PyData → String → Bool
  | some d, T => T == tyD d || (T == "int" && tyD d == "bool")
  | none, _ => false
def five : List String := ["int", "bool", "str", "tuple", "list"]
def seven : List String := ["NoneType", "bool", "int", "str", "list", "tuple", "dict"]
/-- what isinstance asks of the class at C -/
structure PrC (K : PySem.W.Frag) (C : Addr) : Prop where
  ins : C8.InsC K C
  ty : ∀ T ∈ five, PySem.W.kitOne K (.ref C) (.type T) = some false
  no : ∀ T ∈ seven, PySem.W.kitOne K (.type T) (.ref C) = some false
def tyO (C : Addr) : Option PyData → Value
  | some d => .type (tyD d)
  | none => .ref C
theorem seqL_ty {K : PySem.W.Frag} {H : Hp} {a : Addr} {xs : List V} (h : SqL K H a xs) : TyX K H (.ref a) (.type "list") := by
  rcases h with (h | ⟨o, h⟩) | h
  · exact .base (.lst h)
  · exact .base (.frz h)
  · obtain ⟨o, its, n, hk, hc, _⟩ := h
    exact .kList hk hc
theorem seqT_ty {K : PySem.W.Frag} {H : Hp} {a : Addr} {xs : List V} (h : SqT K H a xs) : TyX K H (.ref a) (.type "tuple") := by
  rcases h with (h | ⟨o, h⟩) | h
  · exact .base (.tup h)
  · exact .fTuple h
  · obtain ⟨o, its, n, hk, hc, _⟩ := h
    exact .kTuple hk hc
theorem dp_ty {K : PySem.W.Frag} {H : Hp} {x : V} {d : PyData} (h : Dp K H x d) : TyX K H x (.type (tyD d)) := by
  cases h with
  | non => exact .base .non
  | bl b => exact .base (.bl b)
  | int i => exact .base (.int i)
  | str z => exact .base (.str z)
  | lst hs _ => exact seqL_ty hs
  | tup hs _ => exact seqT_ty hs
theorem th_ty {K : PySem.W.Frag} {H : Hp} {C : Addr} {x : V} {o : Option PyData} (c : PrC K C) (h : Th K H C x o) : TyX K H x (tyO C o) := by
  cases h with
  | dat h => exact dp_ty h
  | dic kvs h => exact .base (.dK h)
  | ins h => exact .base (.ins h c.ins.cl c.ins.ha c.ins.hn c.ins.htk c.ins.hm)
theorem tyD_seven (d : PyData) : tyD d ∈ seven := by cases d <;> (unfold tyD seven; simp)
theorem kit_all : (seven.all fun A => five.all fun T => decide (kitB A T = some (T == A || (T == "int" && A == "bool")))) = true := by decide +kernel
theorem th_kit {K : PySem.W.Frag} {C : Addr} (c : PrC K C) (o : Option PyData) {T : String} (hT : T ∈ five) : PySem.W.kitOne K (tyO C o) (.type T) = some (isT o T) := by
  cases o with
  | none => exact c.ty T hT
  | some d =>
    have h1 := List.all_eq_true.mp (List.all_eq_true.mp kit_all (tyD d) (tyD_seven d)) T hT
    exact kit_ty (of_decide_eq_true h1)
section
variable {X : Cx} {C : Addr}
/-- isinstance(x, T), T one of the five -/
def rIsTh (K : PySem.W.Frag) (C : Addr) : List V → Hp → VK → Prop := fun xs H Q => ∃ x o T, xs = [x, .ty T] ∧ Th K H C x o ∧ T ∈ five ∧ Q (.bl (isT o T)) H
theorem call_isTh (c : PrC X.K C) : CallR X (.builtin "isinstance") (rIsTh X.K C) := by
  intro pins s σ H xs us Q I r h
  obtain ⟨x, o, T, rfl, ht, hT, q⟩ := h
  exact call_isi pins s σ H _ us Q I r ⟨x, _, _, _, _, rfl, .ty T, th_ty c ht, th_kit c o hT, q⟩
/-- isinstance(x, (list, tuple)) -/
def rIsLT (K : PySem.W.Frag) (C : Addr) : List V → Hp → VK → Prop := fun xs H Q => ∃ x o tp, xs = [x, .ref tp] ∧ H tp = some (.tup [.ty "list", .ty "tuple"]) ∧ Th K H C x o ∧ Q (.bl (isT o "list" || isT o "tuple")) H
theorem call_isLT (c : PrC X.K C) : CallR X (.builtin "isinstance") (rIsLT X.K C) := by
  intro pins s σ H xs us Q I r h
  obtain ⟨x, o, tp, rfl, htp, ht, q⟩ := h
  refine call_isiT pins s σ H _ us Q I r ⟨x, tp, _, _, [.type "list", .type "tuple"], _, rfl, htp, .cons (.ty _) (.cons (.ty _) .nil), th_ty c ht, ?_, q⟩
  refine kitAny_cons (th_kit c o (by decide)) (fun e => ?_) (fun e => by rw [e]; rfl)
  rw [e, Bool.false_or]
  exact kitAny_cons (th_kit c o (by decide)) (fun e => by rw [e]; exact kitAny_nil) (fun e => e)
/-- isinstance(x, the class at C) -/
def rIsC (K : PySem.W.Frag) (C : Addr) : List V → Hp → VK → Prop := fun xs H Q => ∃ x o, xs = [x, .ref C] ∧ Th K H C x o ∧ Q (.bl o.isNone) H
theorem call_isCl (c : PrC X.K C) : CallR X (.builtin "isinstance") (rIsC X.K C) := by
  intro pins s σ H xs us Q I r h
  obtain ⟨x, o, rfl, ht, q⟩ := h
  refine call_isi pins s σ H _ us Q I r ⟨x, _, _, _, _, rfl, .own C, th_ty c ht, ?_, q⟩
  cases o with
  | none => exact c.ins.me
  | some d => exact c.no _ (tyD_seven d)
end
/-- data stay data where all that they stand on stays -/
theorem sqL_mono {K : PySem.W.Frag} {H H' : Hp} {a : Addr} {xs : List V} (h : SqL K H a xs) (k : ∀ o, H a = some o → H' a = some o) : SqL K H' a xs := by
  rcases h with (h | ⟨o, h⟩) | h
  · exact .inl (.inl (k _ h))
  · exact .inl (.inr ⟨o, k _ h⟩)
  · exact .inr h
theorem sqT_mono {K : PySem.W.Frag} {H H' : Hp} {a : Addr} {xs : List V} (h : SqT K H a xs) (k : ∀ o, H a = some o → H' a = some o) : SqT K H' a xs := by
  rcases h with (h | ⟨o, h⟩) | h
  · exact .inl (.inl (k _ h))
  · exact .inl (.inr ⟨o, k _ h⟩)
  · exact .inr h
mutual
theorem dp_mono {K : PySem.W.Frag} {H H' : Hp} (k : ∀ b o, H b = some o → H' b = some o) : ∀ {x : V} {d : PyData}, Dp K H x d → Dp K H' x d
  | _, _, .non => .non
  | _, _, .bl b => .bl b
  | _, _, .int i => .int i
  | _, _, .str z => .str z
  | _, _, .lst hs ha => .lst (sqL_mono hs (k _)) (dpAll_mono k ha)
  | _, _, .tup hs ha => .tup (sqT_mono hs (k _)) (dpAll_mono k ha)
theorem dpAll_mono {K : PySem.W.Frag} {H H' : Hp} (k : ∀ b o, H b = some o → H' b = some o) : ∀ {xs : List V} {ds : List PyData}, DpAll K H xs ds → DpAll K H' xs ds
  | _, _, .nil => .nil
  | _, _, .cons h t => .cons (dp_mono k h) (dpAll_mono k t)
end
theorem th_mono {K : PySem.W.Frag} {H H' : Hp} {C : Addr} {x : V} {o : Option PyData} (k : ∀ b o, H b = some o → H' b = some o) (h : Th K H C x o) : Th K H' C x o := by
  cases h with
  | dat h => exact .dat (dp_mono k h)
  | dic kvs h => exact .dic kvs (k _ _ h)
  | ins h => exact .ins (k _ _ h)
theorem dpAll_at {K : PySem.W.Frag} {H : Hp} : ∀ {xs : List V} {ds : List PyData} {i : Nat} {x : V}, DpAll K H xs ds → xs[i]? = some x → ∃ d, ds[i]? = some d ∧ Dp K H x d
  | _, _, _, _, .nil, e => by simp at e
  | _, _, 0, _, .cons h t, e => by
    obtain rfl := Option.some.inj e
    exact ⟨_, rfl, h⟩
  | _, _, i + 1, _, .cons h t, e => dpAll_at (i := i) t (by simpa using e)
theorem dpAll_len {K : PySem.W.Frag} {H : Hp} : ∀ {xs : List V} {ds : List PyData}, DpAll K H xs ds → xs.length = ds.length
  | _, _, .nil => rfl
  | _, _, .cons _ t => congrArg Nat.succ (dpAll_len t)
/-- the list at D has i + 1 items, of which Pv holds -/
def LcN (D : Addr) (Pv : Nat → List V → Hp → Prop) (i : Nat) (H : Hp) : Prop := ∃ zs : List V, zs.length = i + 1 ∧ H D = some (.lst zs) ∧ Pv (i + 1) zs H
/-- what a turn's element leads to -/
def LcE (D : Addr) (Pv : Nat → List V → Hp → Prop) (i : Nat) (y : V) (H : Hp) : Prop := ∃ acc, H D = some (.lst acc) ∧ acc.length < sizeLine ∧ LcN D Pv i (upd H D (.lst (acc ++ [y])))
theorem lc_next {D : Addr} {Pv : Nat → List V → Hp → Prop} {i n : Nat} {y : V} {H : Hp} {ys : List V} (hD : H D = some (.lst ys)) (hl : ys.length = i) (hi : i < n) (hn : n < 1000000)
    (p : Pv (i + 1) (ys ++ [y]) (upd H D (.lst (ys ++ [y])))) : LcE D Pv i y H :=
  ⟨ys, hD, by rw [sizeLine_eq]; omega, ys ++ [y], by rw [List.length_append, hl]; rfl, upd_same, p⟩
/-- a comprehension of one name, without a test, over a walk: Pv of the turn, the list so far and the heap -/
theorem lcY {J : It} {n : Nat} {G : Hp → Prop} {Y : Nat → Hp → V → Hp → Prop} (w : Walk J n G Y) {j : Nat} {te : TE} {vs : List Nat} {σ : L2.St} {H1 : Hp} {D : Addr} {Qd : Hp → Prop}
    (Pv : Nat → List V → Hp → Prop) (hw : ∀ x, wipe ((wipe σ vs).set j (some x)) vs = wipe σ vs) (h0 : Pv 0 [] (upd H1 D (.lst [])))
    (hG : ∀ i ys H, i ≤ n → Pv i ys H → G H)
    (hs : ∀ i x ys H H', i < n → ys.length = i → H D = some (.lst ys) → Pv i ys H → Y i H x H' →
      te ((wipe σ vs).set j (some x)) H' fun y H4 => LcE D Pv i y H4)
    (hd : ∀ ys H, ys.length = n → H D = some (.lst ys) → Pv n ys H → Qd H) :
    ∃ W : Nat → Nat → Hp → Prop, (∃ m, W 0 m (upd H1 D (.lst []))) ∧ ∀ i m H, W i m H →
      (J.stop i H ∧ Qd H) ∨ (J.go i H ∧ ∃ Nx : Hp → Prop, (∀ H', Nx H' → ∃ m', m' < m ∧ W (i + 1) m' H') ∧
        ∀ x H', J.yld i H x H' → gName j x (wipe σ vs) H' fun σ2 H2 => wipe σ2 vs = wipe σ vs ∧ tYes σ2 H2 fun b H3 =>
        if b = true then te σ2 H3 fun y H4 => ∃ acc, H4 D = some (.lst acc) ∧ acc.length < sizeLine ∧ Nx (upd H4 D (.lst (acc ++ [y]))) else Nx H3) := by
  refine ⟨fun i m H => m = n - i ∧ i ≤ n ∧ ∃ ys : List V, ys.length = i ∧ H D = some (.lst ys) ∧ Pv i ys H, ⟨n, by simp, Nat.zero_le _, [], rfl, upd_same, h0⟩, ?_⟩
  rintro i m H ⟨rfl, hi, ys, hl, hD, p⟩
  by_cases hlt : i < n
  · refine .inr ⟨w.goes i H hlt (hG i ys H hi p), LcN D Pv i, fun H' q => ⟨n - (i + 1), by omega, rfl, hlt, q⟩, fun x H' y => ?_⟩
    refine ⟨hw x, ?_⟩
    have z := hs i x ys H H' hlt hl hD p (w.yields i H x H' hlt (hG i ys H hi p) y)
    simp only [tYes, ↓reduceIte]
    exact z
  · have e : i = n := by omega
    subst e
    exact .inl ⟨w.stops H (hG i ys H hi p), hd ys H hl hD p⟩
/-- the same with a test, that may be any; the list so far is told by Pv alone -/
theorem lcT {J : It} {n : Nat} {G : Hp → Prop} {Y : Nat → Hp → V → Hp → Prop} (w : Walk J n G Y) {j : Nat} {tt : TT} {te : TE} {vs : List Nat} {σ : L2.St} {H1 : Hp} {D : Addr} {Qd : Hp → Prop}
    (Pv : Nat → Hp → Prop) (hw : ∀ x, wipe ((wipe σ vs).set j (some x)) vs = wipe σ vs) (h0 : Pv 0 (upd H1 D (.lst [])))
    (hG : ∀ i H, i ≤ n → Pv i H → G H)
    (hs : ∀ i x H H', i < n → Pv i H → Y i H x H' →
      tt ((wipe σ vs).set j (some x)) H' fun b H3 => if b = true then te ((wipe σ vs).set j (some x)) H3 fun y H4 => ∃ acc, H4 D = some (.lst acc) ∧ acc.length < sizeLine ∧ Pv (i + 1) (upd H4 D (.lst (acc ++ [y]))) else Pv (i + 1) H3)
    (hd : ∀ H, Pv n H → Qd H) :
    ∃ W : Nat → Nat → Hp → Prop, (∃ m, W 0 m (upd H1 D (.lst []))) ∧ ∀ i m H, W i m H →
      (J.stop i H ∧ Qd H) ∨ (J.go i H ∧ ∃ Nx : Hp → Prop, (∀ H', Nx H' → ∃ m', m' < m ∧ W (i + 1) m' H') ∧
        ∀ x H', J.yld i H x H' → gName j x (wipe σ vs) H' fun σ2 H2 => wipe σ2 vs = wipe σ vs ∧ tt σ2 H2 fun b H3 =>
        if b = true then te σ2 H3 fun y H4 => ∃ acc, H4 D = some (.lst acc) ∧ acc.length < sizeLine ∧ Nx (upd H4 D (.lst (acc ++ [y]))) else Nx H3) :=
  lc_it w Pv h0 hG (fun i x H H' hi p y => ⟨hw x, hs i x H H' hi p y⟩) hd
section
variable {X : Cx}
theorem PI_or {tg iter : Expr} {w1 w2 : TI} (h1 : PI X tg iter w1) (h2 : PI X tg iter w2) : PI X tg iter (fun σ H R => w1 σ H R ∨ w2 σ H R) := by
  refine ⟨fun pins s σ H R I h => ?_⟩
  rcases h with h | h
  · exact h1.run pins s σ H R I h
  · exact h2.run pins s σ H R I h
theorem PE_or {e : Expr} {t1 t2 : TE} (h1 : PE X e t1) (h2 : PE X e t2) : PE X e (fun σ H Q => t1 σ H Q ∨ t2 σ H Q) := by
  refine ⟨fun pins s σ H Q I h => ?_⟩
  rcases h with h | h
  · exact h1.run pins s σ H Q I h
  · exact h2.run pins s σ H Q I h
end
/-- a list or a tuple at a -/
def Seq2 (K : PySem.W.Frag) (H : Hp) (a : Addr) (xs : List V) : Prop := SqL K H a xs ∨ SqT K H a xs
theorem seq2_mono {K : PySem.W.Frag} {H H' : Hp} {a : Addr} {xs : List V} (k : Same H H') (h : Seq2 K H a xs) : Seq2 K H' a xs := by
  rcases h with h | h
  · exact .inl (sqL_mono h (k a))
  · exact .inr (sqT_mono h (k a))
/-- for x in l, l a name that holds a list or a tuple -/
abbrev iSeq (K : PySem.W.Frag) (i : Nat) : TI := fun σ H R => iList K (tVar i) σ H R ∨ iTup K (tVar i) σ H R
/-- a comprehension over a list or a tuple, by lcY -/
theorem rd_seq {K : PySem.W.Frag} {H : Hp} {σ : L2.St} {i j : Nat} {te : TE} {Q : VK} {a : Addr} {xs : List V} (hi : σ[i]? = some (some (.ref a))) (hS : Seq2 K H a xs)
    (hw : ∀ x, wipe ((wipe σ [j]).set j (some x)) [j] = wipe σ [j]) (Pv : Nat → List V → Hp → Prop)
    (h0 : ∀ D, H D = none → Pv 0 [] (upd H D (.lst []))) (hG : ∀ i ys H', Pv i ys H' → Same H H')
    (hs : ∀ D i x ys H1, H D = none → xs[i]? = some x → ys.length = i → H1 D = some (.lst ys) → Pv i ys H1 →
      te ((wipe σ [j]).set j (some x)) H1 fun y H4 => LcE D Pv i y H4)
    (hd : ∀ D ys H1, H D = none → ys.length = xs.length → H1 D = some (.lst ys) → Pv xs.length ys H1 → Q (.ref D) H1) :
    tLc (iSeq K i) (gName j) tYes te [j] σ H Q := by
  rcases hS with h | h
  · refine Or.inl ⟨_, hi, a, rfl, ⟨xs, h⟩, fun D hD => lcY walk_list Pv hw (h0 D hD) (fun i ys H1 _ p => sqL_mono h (hG i ys H1 p a)) ?_ (fun ys H1 l e p => hd D ys H1 hD l e p)⟩
    rintro k x ys H1 H2 hk hl e p ⟨rfl, ex⟩
    exact hs D k x ys _ hD ex hl e p
  · refine Or.inr ⟨_, hi, a, rfl, ⟨xs, h⟩, fun D hD => lcY walk_tup Pv hw (h0 D hD) (fun i ys H1 _ p => sqT_mono h (hG i ys H1 p a)) ?_ (fun ys H1 l e p => hd D ys H1 hD l e p)⟩
    rintro k x ys H1 H2 hk hl e p ⟨rfl, ex⟩
    exact hs D k x ys _ hD ex hl e p
theorem same_upd {H : Hp} {D : Addr} {o : HO} (h : H D = none) : Same H (upd H D o) := fun b u e => by
  rw [upd_ne (ne_of_none e h)]
  exact e
theorem same_upd2 {H H1 : Hp} {D : Addr} {o : HO} (s : Same H H1) (h : H D = none) : Same H (upd H1 D o) := fun b u e => by
  rw [upd_ne (ne_of_none e h)]
  exact s b u e
/-- [g(x) for x in l] of truths -/
theorem rd_seqB {K : PySem.W.Frag} {H : Hp} {σ : L2.St} {i j : Nat} {te : TE} {Q : VK} {a : Addr} {xs : List V} {ds : List PyData} (f : PyData → Bool) (hi : σ[i]? = some (some (.ref a))) (hS : Seq2 K H a xs)
    (hda : DpAll K H xs ds) (hlen : xs.length < 1000000) (hw : ∀ x, wipe ((wipe σ [j]).set j (some x)) [j] = wipe σ [j])
    (hs : ∀ x d H1 Q1, d ∈ ds → Dp K H1 x d → Same H H1 → (∀ H2, Same H1 H2 → Q1 (.bl (f d)) H2) → te ((wipe σ [j]).set j (some x)) H1 Q1)
    (hd : ∀ D H1, Same H H1 → H1 D = some (.lst ((ds.map f).map V.bl)) → Q (.ref D) H1) :
    tLc (iSeq K i) (gName j) tYes te [j] σ H Q := by
  have hl2 := dpAll_len hda
  refine rd_seq hi hS hw (fun k ys H1 => Same H H1 ∧ ys = ((ds.take k).map f).map V.bl) (fun D hD => ⟨same_upd hD, rfl⟩) (fun _ _ _ p => p.1) ?_ ?_
  · rintro D k x ys H1 hD ex hl e ⟨s1, rfl⟩
    obtain ⟨d, ed, hdp⟩ := dpAll_at hda ex
    have hk : k < xs.length := (List.getElem?_eq_some_iff.mp ex).1
    refine hs x d H1 _ (List.mem_of_getElem? ed) (dp_mono s1 hdp) s1 fun H2 s2 => ?_
    refine lc_next (s2 _ _ e) hl hk hlen ⟨same_upd2 (s1.trans s2) hD, ?_⟩
    rw [List.take_add_one, ed]
    simp
  · rintro D ys H1 hD hl e ⟨s1, rfl⟩
    rw [hl2, List.take_length] at e
    exact hd D H1 s1 e
/-- all([g(x) for x in l]) -/
theorem rd_all {K : PySem.W.Frag} {H : Hp} {σ : L2.St} {i j : Nat} {te : TE} {Q : VK} {a : Addr} {xs : List V} {ds : List PyData} (f : PyData → Bool) (hi : σ[i]? = some (some (.ref a))) (hS : Seq2 K H a xs)
    (hda : DpAll K H xs ds) (hlen : xs.length < 1000000) (hw : ∀ x, wipe ((wipe σ [j]).set j (some x)) [j] = wipe σ [j])
    (hs : ∀ x d H1 Q1, d ∈ ds → Dp K H1 x d → Same H H1 → (∀ H2, Same H1 H2 → Q1 (.bl (f d)) H2) → te ((wipe σ [j]).set j (some x)) H1 Q1)
    (hd : ∀ H1, Same H H1 → Q (.bl (ds.all f)) H1) :
    tCB (rAll K) (tCons (tLc (iSeq K i) (gName j) tYes te [j]) tNil) σ H Q := by
  show tLc (iSeq K i) (gName j) tYes te [j] σ H fun x H1 => rAll K [x] H1 Q
  refine rd_seqB f hi hS hda hlen hw hs fun D H1 s1 e => ⟨D, ds.map f, rfl, SqL.of e, ?_⟩
  have e2 : (ds.map f).all id = ds.all f := by rw [List.all_map]; rfl
  rw [e2]
  exact hd H1 s1
/-- data that == and repr can take -/
structure ElOk (d : PyData) : Prop where
  lay : d.canLay0 = true
  dp : d.depth ≤ 20
  show_ : d.showable = true
  size : d.shown.length ≤ 800
theorem depthAll_le {n : Nat} : ∀ {ds : List PyData}, (∀ d ∈ ds, d.depth ≤ n) → PyData.depthAll ds ≤ n
  | [], _ => by simp [PyData.depthAll]
  | d :: ds, h => by
    rw [PyData.depthAll]
    exact Nat.max_le.mpr ⟨h d (List.mem_cons_self ..), depthAll_le fun e he => h e (List.mem_cons_of_mem _ he)⟩
theorem canLayAll : ∀ {ds : List PyData}, (∀ d ∈ ds, d.canLay0 = true) → PyData.canLayAll0 ds = true
  | [], _ => by simp [PyData.canLayAll0]
  | d :: ds, h => by
    rw [PyData.canLayAll0, h d (List.mem_cons_self ..), canLayAll fun e he => h e (List.mem_cons_of_mem _ he)]
    rfl
theorem shaped_list {ds : List PyData} (h : ∀ d ∈ ds, d.canLay0 = true ∧ d.depth ≤ 20) : SeqAt.shaped (.list ds) = true := by
  have h1 : PyData.canLayAll0 ds = true := canLayAll fun d hd => (h d hd).1
  have h2 := depthAll_le (n := 20) fun d hd => (h d hd).2
  unfold SeqAt.shaped
  rw [Bool.and_eq_true]
  refine ⟨by simpa [PyData.canLay0] using h1, decide_eq_true ?_⟩
  rw [PyData.depth]
  omega
theorem eqvAll_nil (ds : List PyData) : PyData.eqv (.list ds) (.list []) = ds.isEmpty := by
  cases ds <;> simp [PyData.eqv, PyData.eqvAll]
theorem dpAll_snoc {K : PySem.W.Frag} {H : Hp} {y : V} {e : PyData} : ∀ {xs : List V} {ds : List PyData}, DpAll K H xs ds → Dp K H y e → DpAll K H (xs ++ [y]) (ds ++ [e])
  | _, _, .nil, h => .cons h .nil
  | _, _, .cons h t, k => .cons h (dpAll_snoc t k)
theorem filter_snoc {ds : List PyData} {g : PyData → Bool} {k : Nat} {d : PyData} (e : ds[k]? = some d) : (ds.take (k + 1)).filter g = (ds.take k).filter g ++ (if g d = true then [d] else []) := by
  rw [List.take_add_one, e, List.filter_append]
  cases h : g d <;> simp [h]
theorem all_of_filter (ds : List PyData) (g : PyData → Bool) : (ds.filter g).isEmpty = ds.all fun d => !g d := by
  induction ds with
  | nil => rfl
  | cons d r ih =>
    cases h : g d
    · simp [List.filter_cons, h, ih]
    · simp [List.filter_cons, h]
/-- [x for x in l if t] == [] -/
theorem rd_none {K : PySem.W.Frag} {H : Hp} {σ : L2.St} {i j : Nat} {tt : TT} {Q : VK} {a : Addr} {xs : List V} {ds : List PyData} (g : PyData → Bool) (hi : σ[i]? = some (some (.ref a))) (hS : Seq2 K H a xs)
    (hda : DpAll K H xs ds) (hlen : xs.length < 1000000) (hel : ∀ d ∈ ds, d.canLay0 = true ∧ d.depth ≤ 20) (hw : ∀ x, wipe ((wipe σ [j]).set j (some x)) [j] = wipe σ [j])
    (hj : ∀ x, ((wipe σ [j]).set j (some x))[j]? = some (some x))
    (hs : ∀ x d H1 (Q1 : Bool → Hp → Prop), d ∈ ds → Dp K H1 x d → Same H H1 → (∀ H2, Same H1 H2 → Q1 (g d) H2) → tt ((wipe σ [j]).set j (some x)) H1 Q1)
    (hd : ∀ H1, Same H H1 → Q (.bl (ds.all fun d => !g d)) H1) :
    tOp (rEqD K) (tLc (iSeq K i) (gName j) tt (tVar j) [j]) (tLst tNil) σ H Q := by
  have hl2 := dpAll_len hda
  let Pv : Addr → Nat → Hp → Prop := fun D k H1 => Same H H1 ∧ ∃ ys : List V, H1 D = some (.lst ys) ∧ ys.length ≤ k ∧ DpAll K H ys ((ds.take k).filter g)
  have fin : ∀ D H1, H D = none → Pv D xs.length H1 → (tLst tNil) σ H1 fun y H2 => rEqD K (.ref D) y H2 Q := by
    rintro D H1 hD ⟨s1, ys, e, _, h⟩
    rw [hl2, List.take_length] at h
    refine ⟨by decide, fun p hp => ?_⟩
    have s2 := same_upd (o := .lst []) hp
    refine ⟨.list (ds.filter g), .list [], .lst (SqL.of (s2 _ _ e)) (dpAll_mono (s1.trans s2) h), .lst (SqL.of upd_same) .nil, shaped_list (fun d hd => hel d (List.mem_filter.mp hd).1), shaped_list (by simp), ?_⟩
    rw [eqvAll_nil, all_of_filter]
    exact hd _ (s1.trans s2)
  have turn : ∀ D k x H1, H D = none → xs[k]? = some x → Pv D k H1 → tt ((wipe σ [j]).set j (some x)) H1 fun b H3 => if b = true then tVar j ((wipe σ [j]).set j (some x)) H3 fun y H4 => ∃ acc, H4 D = some (.lst acc) ∧ acc.length < sizeLine ∧ Pv D (k + 1) (upd H4 D (.lst (acc ++ [y]))) else Pv D (k + 1) H3 := by
    rintro D k x H1 hD ex ⟨s1, ys, e, hy, h⟩
    obtain ⟨d, ed, hdp⟩ := dpAll_at hda ex
    have hk : k < xs.length := (List.getElem?_eq_some_iff.mp ex).1
    refine hs x d H1 _ (List.mem_of_getElem? ed) (dp_mono s1 hdp) s1 fun H2 s2 => ?_
    have hf := filter_snoc (g := g) ed
    cases hg : g d with
    | false =>
      refine iteF ⟨s1.trans s2, ys, s2 _ _ e, Nat.le_succ_of_le hy, ?_⟩
      rw [hf, hg, if_neg Bool.false_ne_true, List.append_nil]
      exact h
    | true =>
      rw [hg, if_pos rfl] at hf
      have s3 : Same H (upd H2 D (.lst (ys ++ [x]))) := same_upd2 (s1.trans s2) hD
      refine iteT ⟨x, hj x, ys, s2 _ _ e, by rw [sizeLine_eq]; omega, s3, ys ++ [x], upd_same, by rw [List.length_append]; simp; omega, ?_⟩
      rw [hf]
      exact dpAll_snoc h hdp
  rcases hS with h | h
  · refine Or.inl ⟨_, hi, a, rfl, ⟨xs, h⟩, fun D hD => lcT walk_list (Pv D) hw ⟨same_upd hD, [], upd_same, Nat.le_refl _, by simp; exact .nil⟩ (fun k H1 _ p => sqL_mono h (p.1 a)) ?_ (fun H1 p => fin D H1 hD p)⟩
    rintro k x H1 H2 hk p ⟨rfl, ex⟩
    exact turn D k x _ hD ex p
  · refine Or.inr ⟨_, hi, a, rfl, ⟨xs, h⟩, fun D hD => lcT walk_tup (Pv D) hw ⟨same_upd hD, [], upd_same, Nat.le_refl _, by simp; exact .nil⟩ (fun k H1 _ p => sqT_mono h (p.1 a)) ?_ (fun H1 p => fin D H1 hD p)⟩
    rintro k x H1 H2 hk p ⟨rfl, ex⟩
    exact turn D k x _ hD ex p
/-- a def of the module by its name, with all that a caller asks -/
def Cal (P : Program) (w : World) (K : PySem.W.Frag) (mg : Str → Option Value) (base : Heap) (x : Str) (k : Nat) (ps : List Str) (sp : Sp) : Prop :=
  ∃ f fd, FnOk P w K mg base CX0 k f fd ps sp ∧ mg x = some (.ref f) ∧ PySem.W.keepIn K (.ref f) = true ∧ L2.Binds K fd ps []
theorem pe_cal {X : Cx} {P : Program} {w : World} {K : PySem.W.Frag} {mg : Str → Option Value} {base : Heap} {x : Str} {k : Nat} {ps : List Str} {sp : Sp} {p pos : Pos} {e : Expr} {es : List Expr} {t : TA}
    (c : Cal P w K mg base x k ps sp) (hr : Room k X.A) (hg : Gl X x) (ha : PA X (e :: es) t)
    (h1 : X.prog = P := by rfl) (h2 : X.w = w := by rfl) (h3 : X.K = K := by rfl) (h4 : X.mg = mg := by rfl) (h5 : X.base = base := by rfl)
    (hdb : (x == ("__debug__" : Str)) = false := by decide) (he : starEach (e :: es) X.env = (false, eval e X.env) :: starEach es X.env := by rfl)
    (hpl : (backTo pos (starEach es X.env)).any (·.1) = false := by rfl) :
    PE X (.Call (.Name x p) (e :: es) [] pos) (tCall sp [] E0 t) := by
  obtain ⟨f, fd, F, gm, gk, gb⟩ := c
  subst h1 h2 h3 h4 h5
  exact pe_call F hr hg gm gk gb .nil pass0 ha hdb he hpl
end My

set_option Elab.async false
set_option linter.all false
set_option maxRecDepth 100000
set_option maxHeartbeats 4000000
/-! max of an empty list with a default; what never runs. -/
namespace My
open PySem PySem.Spec PyProof.Rows L2
theorem args_maxD (a v : Value) : argsOk "max" ⟨[a], [(Str.ofString "default", v)]⟩ := by unfold argsOk; kernel_rfl
section
variable {X : Cx}
theorem call_maxD0 (hc : X.calm = true) : CallRK X (.builtin "max") ["default"] (fun xs zs H Q => ∃ a d, xs = [.ref a] ∧ zs = [d] ∧ SqL X.K H a [] ∧ Q d H) := by
  intro pins s σ H xs zs us ws Q I rx rz h
  obtain ⟨a, d, rfl, rfl, hs, q⟩ := h
  obtain ⟨u, rfl, ru⟩ := vals1 rx
  obtain ⟨v, rfl, rv⟩ := vals1 rz
  cases (show u = Value.ref a from ru)
  obtain ⟨its, rits, pl, _⟩ := I.list hs
  cases rits
  have hls := pl.isList
  have hh : X.A.in1.handled = none := I.ok.hd hc
  refine kmk_tree PySem.F.kind_max PySem.F.plain_max PySem.F.entry_max (args_maxD _ _) ?_
  show wpAny _ X.A.in1 (Builtin.Builtins.bindParams "max" ["key", "default"] 0 ⟨[], [(Str.ofString "default", v)]⟩ >>= _) _ _ s
  refine wpAny_bind (wpAny_of_eq (show Builtin.Builtins.bindParams "max" ["key", "default"] 0 ⟨[], [(Str.ofString "default", v)]⟩ = pure [none, some v] from rfl) ?_)
  refine wpAny_bind (wpAny_pure ?_)
  refine wpAny_bind (wpAny_pyIter_list hls ?_)
  refine wpAny_bind (wpAny_newList ?_ (Nat.zero_le _))
  have hname : (toString "max" ++ toString ".loop" : String) = "max.loop" := by decide
  rw [hname]
  refine wpAny_pure ⟨plainId_quiet PySem.F.plain_max_loop _, ?_⟩
  obtain ⟨oa, hoa, _⟩ := id hls
  have hlI : a ≠ s.heap.objs.size := Nat.ne_of_lt (Heap.lt_size hoa)
  have gI : ((s.heap.push { cls := .type "list_iterator", data := .fields #[.ref a, .int 0 0] }).push (seqObj "list" #[] 0)).get? s.heap.objs.size = some { cls := .type "list_iterator", data := .fields #[.ref a, .int 0 0] } :=
    Heap.get?_push_of_some _ (Heap.get?_push_size _ rfl)
  have gS : ((s.heap.push { cls := .type "list_iterator", data := .fields #[.ref a, .int 0 0] }).push (seqObj "list" #[] 0)).get? (s.heap.push { cls := .type "list_iterator", data := .fields #[.ref a, .int 0 0] }).objs.size = some (seqObj "list" #[] 0) := Heap.get?_push_size _ rfl
  have keep : ∀ b o, s.heap.get? b = some o → ((s.heap.push { cls := .type "list_iterator", data := .fields #[.ref a, .int 0 0] }).push (seqObj "list" #[] 0)).get? b = some o := fun b o e => Heap.get?_push_of_some _ (Heap.get?_push_of_some _ e)
  have W := Walks.list (prog := X.prog) (w := X.w) (A := X.A.in1) hh s.heap.objs.size a hlI #[]
  refine codeAny_builtin PySem.F.entry_max_loop ?_
  rw [Around.under_plainId PySem.F.plain_max_loop _]
  show wpAny _ X.A.in1 (seqItems? (.ref _) >>= _) _ _ _
  refine wpAny_bind (wpAny_seqItems gS rfl ?_)
  show wpAny _ X.A.in1 (tryCatch (pyNext (.ref s.heap.objs.size)) _ >>= _) _ _ _
  refine wpAny_bind (wpAny_tryCatch (W.done _ _ _ ⟨⟨_, gI, rfl, rfl⟩, ?_⟩ fun h' tk hk => ?_))
  · obtain ⟨o, ho, h1⟩ := hls
    exact ⟨o, keep _ _ ho, h1⟩
  · show wpAny _ X.A.in1 (rule (toString "max" ++ toString ".default") >>= fun _ => ret v) _ _ _
    refine wpAny_bind (wpAny_rule ?_)
    refine wpAny_pure ?_
    refine ⟨d, H, I.kept fun b o e => ?_, rv, q⟩
    refine hk b o (fun hb => ?_) (keep b o e)
    have hb' : b = s.heap.objs.size := by simpa using hb
    exact absurd (Heap.lt_size e) (by rw [hb']; exact Nat.lt_irrefl _)
end
end My

set_option Elab.async false
set_option linter.all false
set_option maxRecDepth 100000
set_option maxHeartbeats 4000000
/-! enumerate of a tuple. -/
namespace My
open PySem PySem.Spec PyProof.Rows L2
set_option maxHeartbeats 1000000 in
theorem meets_enum_tup (l : Addr) (items : Array Value) (n : Nat) (dct : Option Addr) (sl : Array (Option Value)) :
    Meets (Builtin.«enumerate.__new__» ⟨[.type "enumerate", .ref l], []⟩) (fun _ R s => s.heap.get? l = some { cls := .type "tuple", dict := dct, data := .seq items n, slots := sl } ∧
      R (.ok (.ret (.ref (s.heap.objs.size + 1))))
        { s with heap := (s.heap.push { cls := .type "tuple_iterator", data := .fields #[.ref l, .int 0 0] }).push { cls := .type "enumerate", data := .fields #[.none, .bool false, .ref s.heap.objs.size, rawInt 0, .none, .none] } }) :=
  .of_wp fun prog w A R s h => by
    obtain ⟨hp, g, d, tk, os⟩ := s
    obtain ⟨hl, h⟩ := h
    have hsub := sub_enumerate
    have hL : Heap.IsTuple (Shared.heap ⟨hp, g, d, tk, os⟩) l items := ⟨_, hl, rfl, n, rfl⟩
    have hz : (hp.push { cls := .type "tuple_iterator", data := .fields #[.ref l, .int 0 0] }).objs.size = hp.objs.size + 1 := Heap.size_push ..
    rw [← hz] at h
    wp_walk using AutoSeq1.wpAny_loadPart' hl
    refine wpAny_stack_any fun st => wpAny_pure ?_
    split
    · rename_i c _ _ _ _ _
      cases (c == Value.type "enumerate")
      · wp_walk using AutoSeq1.wpAny_loadPart' hl, wpAny_pyIter_tuple hL
        exact ⟨_, rfl, h⟩
      · wp_walk using AutoSeq1.wpAny_loadPart' hl, wpAny_pyIter_tuple hL
        exact ⟨_, rfl, h⟩
    · wp_walk using AutoSeq1.wpAny_loadPart' hl, wpAny_pyIter_tuple hL
      exact ⟨_, rfl, h⟩
section
variable {prog : Program} {w : World} {A : Around} {E : Value → Shared → Prop} {s : Shared}
theorem call_enumerate_tup {l : Addr} {items : Array Value} {Q : Value → Shared → Prop} (hL : s.heap.IsTuple l items)
    (h : ∀ h', IsEnum h' (s.heap.objs.size + 1) s.heap.objs.size 0 .none → h'.IsTupleIter s.heap.objs.size l 0 →
      (∀ b o, s.heap.get? b = some o → h'.get? b = some o) → Q (.ref (s.heap.objs.size + 1)) { s with heap := h' }) :
    wpAny (model prog w) A (call (.type "enumerate") [.ref l]) Q E s := by
  obtain ⟨⟨c, dct, dt, sl⟩, hl, hc, n, hd⟩ := hL
  replace hc : c = .type "tuple" := hc
  replace hd : dt = .seq items n := hd
  subst hc hd
  refine callType_new F.called_enumerate (by decide) (F.typeCall_enumerate_1 _) (F.newCall_enumerate_1 _)
    (fun obj => F.args_object_init_2 obj _) F.entry_enumerate_new (meets_enum_tup l items n dct sl) ⟨hl, ?_⟩
  have hz : (s.heap.push { cls := .type "tuple_iterator", data := .fields #[.ref l, .int 0 0] }).objs.size = s.heap.objs.size + 1 := Heap.size_push ..
  have he : IsEnum ((s.heap.push { cls := .type "tuple_iterator", data := .fields #[.ref l, .int 0 0] }).push
      { cls := .type "enumerate", data := .fields #[.none, .bool false, .ref s.heap.objs.size, rawInt 0, .none, .none] })
      (s.heap.objs.size + 1) s.heap.objs.size 0 .none := by
    have q := Heap.get?_push_size (s.heap.push { cls := .type "tuple_iterator", data := .fields #[.ref l, .int 0 0] })
      (o := { cls := .type "enumerate", data := .fields #[.none, .bool false, .ref s.heap.objs.size, rawInt 0, .none, .none] }) rfl
    rw [hz] at q
    exact q
  refine ⟨⟨_, he, rfl⟩, h _ he ⟨_, Heap.get?_push_of_some _ (Heap.get?_push_size _ rfl), rfl, rfl⟩ ?_⟩
  exact fun b o x => Heap.get?_push_of_some _ (Heap.get?_push_of_some _ x)
end
theorem enum_end_tup {prog : Program} {w : World} {A : Around} {E : Value → Shared → Prop} {s : Shared} {e it l : Addr} {i : Nat} {items : Array Value} {old : Value} {Q : Option Value → Shared → Prop}
    (hh : A.handled = none) (he : IsEnum s.heap e it i old) (hit : s.heap.IsTupleIter it l i) (hl : s.heap.IsTuple l items) (hx : items[i]? = none)
    (hQ : ∀ h', Heap.ExtBut it s.heap h' → Q none { s with heap := h' }) : wpAny (model prog w) A (pyNext (.ref e)) Q E s := by
  have hT : s.TypeIs (.ref e) "enumerate" := ⟨_, he, rfl⟩
  unfold pyNext
  refine wpAny_bind (wpAny_attempt (wpAny_callSpecial?_slot (name := Str.ofString "__next__") hT F.slot_enumerate_next ?_))
  refine wpAny_call_entry F.slot_enumerate_next hT F.entry_enumerate_next ?_ (F.args_enumerate_next_1 _)
  show wpAny _ _ (field (.ref e) 2 >>= _) _ _ _
  refine wpAny_bind (wpAny_field he rfl (x := .ref it) rfl ?_)
  refine wpAny_bind (wpAny_nextOf_tuple_end hh hit hl hx ?_)
  rintro h' x he' ⟨o, ho, hc⟩
  refine wpAny_bind (wpAny_isInstance (T := "StopIteration") (b := true) ⟨o, ho, hc⟩ isSubtype_stop ?_)
  exact wpAny_pure (hQ _ he')
/-- the tuple at a, each item in a new pair -/
def IteT (K : PySem.W.Frag) (a : Addr) : It :=
  ⟨fun i H => ∃ (xs : List V) (x : V), SqT K H a xs ∧ xs[i]? = some x,
   fun i H v H' => ∃ T x, v = .ref T ∧ H T = none ∧ H' = upd H T (.tup [.int (i : Nat), x]) ∧ ∀ xs, SqT K H a xs → xs[i]? = some x,
   fun i H => ∃ xs : List V, SqT K H a xs ∧ xs.length ≤ i⟩
theorem turn_enumT {P : Program} {w : World} {K : PySem.W.Frag} {elts : List Expr} {kk : Nat} {tpos : Pos} (a e it : Addr) :
    Turn P w K (.Tuple elts kk tpos) (IteT K a) [e, it] e (fun i h => (∃ old, IsEnum h e it ((i : Nat) : Int) old) ∧ h.IsTupleIter it a i ∧ e ≠ it ∧ a ≠ it ∧ a ≠ e) where
  mem := by simp
  obj := fun i h st b hb => by
    obtain ⟨⟨old, he⟩, ⟨o, ho, hc, hd⟩, _⟩ := st
    have e' : b = e ∨ b = it := by simpa using hb
    rcases e' with z | z
    · rw [z]; exact ⟨_, he, fun v q => nomatch q⟩
    · rw [z]; exact ⟨o, ho, fun v q => by rw [hd] at q; cases q⟩
  keep := fun i h h' st k => let ⟨⟨old, he⟩, hi, hne⟩ := st; ⟨⟨old, k e (by simp) _ he⟩, hi.at fun o q => k it (by simp) o q, hne⟩
  item := by
    intro X hP hw hK hc i pins s σ H E I hf st hg
    subst hP hw hK
    obtain ⟨⟨old, he⟩, hit, hne, hai, hae⟩ := st
    obtain ⟨xs, x, hq, hx⟩ := hg
    obtain ⟨its, rv, p, hz⟩ := I.tuple hq
    obtain ⟨u, hu, ru⟩ := rv.get hx
    have hel : e < s.heap.objs.size := Heap.lt_size he
    have hil : it < s.heap.objs.size := by obtain ⟨_, q, _⟩ := hit; exact Heap.lt_size q
    have D := Draws.tuple (prog := X.prog) (w := X.w) (A := X.A.in1) (I.ok.hd hc) it a hai its.toArray
    have hi : i < its.toArray.size := by
      rw [List.size_toArray, ← rv.length]
      exact (List.getElem?_eq_some_iff.mp hx).1
    refine wpAny_pyNext_enum_itemD D he ⟨hit, (show s.heap.IsTuple a its.toArray from p)⟩ hi hne (by simp [hne, Ne.symm hae]) ?_
    intro y h' tk hy ho hst hT hsz hk
    have ey : y = u := by
      have q : its[i]? = some y := by simpa using hy
      rw [hu] at q
      exact (Option.some.inj q).symm
    subst ey
    refine ⟨_, rfl, wpAny_letOwnedTupleGo_enum (s := { s with heap := h', toks := tk + 1 }) ho fun h'' he' sb => ?_⟩
    have hT2 : h''.get? s.heap.objs.size = some { cls := .type "tuple", data := .seq #[.int i tk, y] } := (sb.2 _ (Nat.ne_of_gt hel)).trans hT
    have new : ObjOk X.prog X.w (upd H s.heap.objs.size (.tup [.int (i : Nat), x])) h'' s.heap.objs.size (.tup [.int (i : Nat), x]) :=
      ⟨by show 2 ≤ sizeLine; decide, [.int i tk, y], .cons ⟨_, rfl⟩ (.cons ru .nil), ⟨_, hT2, rfl, _, rfl⟩⟩
    have I1 : Inv X pins σ (upd H s.heap.objs.size (.tup [.int (i : Nat), x])) { s with heap := h'', toks := tk + 1 } :=
      I.turnedNew (ch := [e, it]) (fun b ob hb q => (sb.2 b (fun z => hb (by simp [z]))).trans (hk b ob (fun z => hb (by simp [z])) (fun z => hb (by simp [z])) q)) hf (Nat.le_refl _) new
    refine ⟨.ref s.heap.objs.size, _, I1, rfl, ⟨_, x, rfl, I.hok.fresh (Nat.le_refl _), rfl, fun ys hy => by rw [I.tuple_inj hy hq]; exact hx⟩, ⟨⟨y, ?_⟩, hst.1.at fun o q => (sb.2 it (Ne.symm hne)).trans q, hne, hai, hae⟩, fun b hb => ?_⟩
    · have e1 : ((i + 1 : Nat) : Int) = (i : Int) + 1 := by omega
      rw [e1]
      exact he'
    · have hb' : b < s.heap.objs.size := by
        have e' : b = e ∨ b = it := by simpa using hb
        rcases e' with z | z
        · rw [z]; exact hel
        · rw [z]; exact hil
      rw [upd_ne (Nat.ne_of_lt hb')]
      exact (hf b hb).1
  done := by
    intro X hP hw hK hc i pins s σ H E I hf st hg
    subst hP hw hK
    obtain ⟨⟨old, he⟩, hit, hne, hai, hae⟩ := st
    obtain ⟨xs, hq, hx⟩ := hg
    obtain ⟨its, rv, p, hz⟩ := I.tuple hq
    obtain ⟨f0, f1, f2, f3, f4, f5⟩ := hf it (by simp)
    have hl := rv.length
    refine enum_end_tup (I.ok.hd hc) he hit (show s.heap.IsTuple a its.toArray from p) (by simp; omega) fun h' eb => ?_
    exact ⟨rfl, I.turned (t' := s.toks) (fun b o hb q => eb b o hb q) f0 f1 f3 f4 f5⟩
  self := fun A i s Q E st h => let ⟨⟨_, he⟩, _⟩ := st; wpAny_pyIter_enum he h
def iEnumT (K : PySem.W.Frag) (ta : TA) : TI := fun σ H R => ta σ H fun vs H1 => ∃ a xs, vs = [.ref a] ∧ SqT K H1 a xs ∧ R (IteT K a) H1
theorem pi_enumT {X : Cx} {e : Expr} {ta : TA} {p pos tpos : Pos} {elts : List Expr} {kk : Nat} (hg : Gl X "enumerate") (hm : X.mg "enumerate" = none) (ha : PA X [e] ta) (hs : starEach [e] X.env = [(false, eval e X.env)] := by rfl) :
    PI X (.Tuple elts kk tpos) (.Call (.Name "enumerate" p) [e] [] pos) (iEnumT X.K ta) := by
  refine ⟨fun pins s σ H R I h => ?_⟩
  refine Call_ (ld_blt I hg hm boot_enumerate (PyProof.Rows.callWith_type1 (thn (ha.run pos pins s σ H _ I h) ?_) hs rfl))
  rintro us s1 ⟨vs, H1, I1, r1, a, xs, ex, hq, q⟩
  subst ex
  cases r1 with
  | cons r rr =>
    cases rr
    cases r
    obtain ⟨its, rv, p', hz⟩ := I1.tuple hq
    have p2 : s1.heap.IsTuple a its.toArray := p'
    obtain ⟨oa, hoa, _⟩ := id p2
    have hlt := Heap.lt_size hoa
    refine call_enumerate_tup p2 fun h' he hit hk => wpAny_pyIter_enum he ?_
    have I2 : Inv X pins σ H1 { s1 with heap := h' } := I1.kept (t' := s1.toks) hk
    refine ⟨s1.heap.objs.size + 1, [s1.heap.objs.size + 1, s1.heap.objs.size], _, _, H1, rfl, I2, turn_enumT a (s1.heap.objs.size + 1) s1.heap.objs.size,
      ⟨⟨.none, he⟩, hit, Nat.succ_ne_self _, Nat.ne_of_lt hlt, Nat.ne_of_lt (Nat.lt_succ_of_lt hlt)⟩, fun b hb => ?_, q⟩
    have e' : b = s1.heap.objs.size + 1 ∨ b = s1.heap.objs.size := by simpa using hb
    have hle : s1.heap.objs.size ≤ b := by
      rcases e' with z | z
      · rw [z]; exact Nat.le_add_right _ _
      · rw [z]; exact Nat.le_refl _
    exact I1.fpOk hle (I1.hok.fresh hle)
theorem walk_enumT {K : PySem.W.Frag} {a : Addr} {xs : List V} : Walk (IteT K a) xs.length (fun H => SqT K H a xs) (YPair (fun i => some (.int (i : Nat))) (fun i => xs[i]?)) := by
  refine ⟨fun i _ hi q => ⟨xs, xs[i], q, by simp [hi]⟩, fun _ q => ⟨xs, q, Nat.le_refl _⟩, fun i H v H' _ q y => ?_⟩
  obtain ⟨T, x, h1, h2, h3, h4⟩ := y
  exact ⟨T, .int (i : Nat), x, h1, h2, h3, rfl, h4 xs q⟩
end My

set_option Elab.async false
set_option linter.all false
set_option maxRecDepth 100000
set_option maxHeartbeats 4000000
namespace My
open PySem PySem.Spec PyProof.Rows L2
def topS (i : Nat) : Stmt := PySem.Challenge.pw_movedchecks_k11_kinds.main.body.getD i (.Pass ⟨0, 0, 0, 0⟩)
abbrev sBag : Stmt := topS 60
abbrev sTake : Stmt := topS 61
/-- the built-in names that the texts use are the built-in ones -/
structure Bare (mg : Str → Option Value) : Prop where
  int : mg "int" = none
  abs : mg "abs" = none
  len : mg "len" = none
  repr : mg "repr" = none
/-- the bag at p -/
structure Bag (H : Hp) (p q : Addr) : Prop where
  ex : ∃ (c m i : Int) (ns : List Int), H p = some (.lst [.int c, .int m, .int i, .ref q]) ∧
    H q = some (.lst (ns.map V.int)) ∧ p ≠ q ∧ ns.length ≤ 63
/-- all but p stands -/
def Keep (p : Addr) (H H' : Hp) : Prop := ∀ b o, b ≠ p → H b = some o → H' b = some o
theorem Keep.refl {p : Addr} {H : Hp} : Keep p H H := fun _ _ _ e => e
theorem Keep.trans {p : Addr} {H H1 H2 : Hp} (a : Keep p H H1) (b : Keep p H1 H2) : Keep p H H2 :=
  fun c o n e => b c o n (a c o n e)
def spTake : Sp := fun vs H Q _ => ∃ (p q : Addr) (n : Int), vs = [.ref p, .int n] ∧ Bag H p q ∧ 0 < n ∧ n < 1000000 ∧
  ∀ (r : Int) (H' : Hp), 0 ≤ r → r < n → Bag H' p q → Keep p H H' → Q (.int r) H'
theorem scTake : FnScope ["_law_bag_here", "_law_many", "_law_cell", "_law_mixed", "_law_drawn", "_law_early", "_law_second"] ["_law_bag_here", "_law_many"] (defScope sTake) :=
  ⟨rfl, rfl, rfl, by decide +kernel, rfl, by decide +kernel, by decide +kernel⟩
section
variable {P : Program} {w : World} {K : PySem.W.Frag} {mg : Str → Option Value} {base : Heap}
theorem ok_take {f : Addr} {fd : FuncData} (F : Fun K "_law_take" "_law_take" sTake f fd) (N : Bare mg) :
    FnOk P w K mg base CX0 1 f fd ["_law_bag_here", "_law_many"] spTake := by
  refine F.ok scTake (fun vs H Q E h => ?_) (fun cdv A outer s H vs Q E hr h => ?_)
  · obtain ⟨p, q, n, rfl, _⟩ := h
    rfl
  · obtain ⟨p, q, n, rfl, ⟨c, m, i, ns, hp, hq, hne, hl⟩, hn0, hn1, k⟩ := h
    refine ⟨_, C8.pss_cut (ps_if (pt_cmpR op_eq (pe_ix ix_list (pv 0) pe_int (fun _ _ => rfl)) pe_int (nomark _))
        (pss_cons (ps_set (i := 2) scTake.nd rfl (Or.inl rfl) (pe_ix ix_list (pe_op op_cat (pe_slice sl_list (pe_ix ix_list (pv 0) pe_int (fun _ _ => rfl)) (po_some (pe_ix ix_list (pv 0) pe_int (fun _ _ => rfl))) po_none) (pe_lst (pa_cons pe_int pa_nil))) pe_int (fun _ _ => rfl)))
        (pss_cons (ps_augS (pv 0) pe_int pget_list pe_int ip_add set_list)
        (pss_cons (ps_asg (pe_op op_mul (pv 2) (pe_callTy call_int1 rfl N.int (by decide +kernel) (pa_cons (pe_cmpR op_ge (pv 2) (pe_op op_pow pe_int pe_int) (nomark _)) pa_nil))) (pg_sub (pv 0) pe_int set_list))
        (pss_cons (ps_set (i := 3) scTake.nd rfl (Or.inl rfl) (pe_op op_add (pe_op op_add (pe_op op_mul (pe_ix ix_list (pv 0) pe_int (fun _ _ => rfl)) pe_int) (pe_op op_mod (pe_callTy call_int1 rfl N.int (by decide +kernel) (pa_cons (pv 2) pa_nil)) pe_int)) (pe_op op_mul pe_int (pe_ix ix_list (pv 0) pe_int (fun _ _ => rfl)))))
        (pss_one (ps_asg (pe_op op_mod (pe_callTy call_int1 rfl N.int (by decide +kernel) (pa_cons (pv 3) pa_nil)) pe_int) (pg_sub (pv 0) pe_int set_list)))))))
        pss_nil)
      (pss_cons (ps_if (pt_cmpR op_gt (pe_ix ix_list (pv 0) pe_int (fun _ _ => rfl)) pe_int (nomark _))
        (pss_cons (ps_asg (pe_tup (pa_cons (pe_op op_mod (pe_callTy call_int1 rfl N.int (by decide +kernel) (pa_cons (pe_ix ix_list (pv 0) pe_int (fun _ _ => rfl)) pa_nil)) (pv 1)) (pa_cons (pe_op op_fdiv (pe_callTy call_int1 rfl N.int (by decide +kernel) (pa_cons (pe_ix ix_list (pv 0) pe_int (fun _ _ => rfl)) pa_nil)) (pv 1)) pa_nil)))
          (pg_tup rfl (pgs_cons (pg_name (i := 4) scTake.nd rfl (Or.inl rfl)) (pgs_cons (pg_sub (pv 0) pe_int set_list) pgs_nil))))
        (pss_one (ps_ret (pv 4))))
        pss_nil)
      (pss_cons (ps_set (i := 5) scTake.nd rfl (Or.inl rfl) (pe_op op_mod (pe_callTy call_int1 rfl N.int (by decide +kernel) (pa_cons (pe_op op_mul (pe_op op_add (pe_ix ix_list (pv 0) pe_int (fun _ _ => rfl)) pe_int) pe_int) pa_nil)) pe_int))
      (pss_cons (ps_set (i := 6) scTake.nd rfl (Or.inl rfl) (pe_op op_mod (pe_callTy call_int1 rfl N.int (by decide +kernel) (pa_cons (pe_op op_mul (pe_op op_mod (pe_callTy call_int1 rfl N.int (by decide +kernel) (pa_cons (pe_op op_mul (pv 5) (pv 5)) pa_nil)) pe_int) pe_int) pa_nil)) pe_int))
      (pss_one (ps_ret (pe_op op_mod (pe_callTy call_int1 rfl N.int (by decide +kernel) (pa_cons (pe_op op_fdiv (pv 6) pe_int) pa_nil)) (pv 1))))))), ?_⟩
    refine ⟨fun σ H' => ∃ a b, σ = [some (.ref p), some (.int n), a, b, none, none, none] ∧ Bag H' p q ∧ Keep p H H', ?_, ?_⟩
    · refine ⟨_, rfl, p, _, 0, _, rfl, rfl, SqL.of hp, atI_nat (j := 0) rfl, rfl, _, rfl, ?_⟩
      refine ite2 (fun _ => ?_) (fun _ => ⟨_, _, rfl, ⟨c, m, i, ns, hp, hq, hne, hl⟩, Keep.refl⟩)
      -- the cell
      refine ⟨_, rfl, p, _, 3, _, rfl, rfl, SqL.of hp, atI_nat (j := 3) rfl, _, rfl, p, _, 2, _, rfl, rfl, SqL.of hp, atI_nat (j := 2) rfl, i, rfl, q, _, rfl, SqL.of hq, fun a1 h1 => ?_⟩
      have ne1 : ∀ {b o}, H b = some o → b ≠ a1 := fun e => ne_of_none e h1
      refine ⟨(by show 1 ≤ sizeLine; decide), fun a2 h2 => ?_⟩
      have n21 : a1 ≠ a2 := fun z => by rw [← z, upd_same] at h2; cases h2
      have h20 : H a2 = none := by rw [upd_ne (Ne.symm n21)] at h2; exact h2
      have ne2 : ∀ {b o}, H b = some o → b ≠ a2 := fun e => ne_of_none e h20
      refine ⟨a1, a2, _, _, rfl, rfl, by rw [upd_ne n21, upd_same], upd_same, ?_, fun a3 h3 => ?_⟩
      · have := cutV_length (ns.map V.int) (some i) none
        rw [List.length_map] at this
        show _ + 1 ≤ _
        rw [sizeLine_eq]
        omega
      have h30 : H a3 = none := by
        by_cases e2 : a3 = a2
        · rw [e2, upd_same] at h3; cases h3
        rw [upd_ne e2] at h3
        by_cases e1 : a3 = a1
        · rw [e1, upd_same] at h3; cases h3
        rw [upd_ne e1] at h3; exact h3
      have ne3 : ∀ {b o}, H b = some o → b ≠ a3 := fun e => ne_of_none e h30
      obtain ⟨cell, hc⟩ : ∃ cell : Int, atI (cutV (ns.map V.int) (some i) none ++ [V.int 0]) 0 = some (.int cell) := by
        have e : ∃ ms : List Int, cutV (ns.map V.int) (some i) none = ms.map V.int := ⟨_, by unfold cutV; rw [← List.map_drop, ← List.map_take]⟩
        obtain ⟨ms, e⟩ := e
        rw [e]
        cases ms with
        | nil => exact ⟨0, atI_nat (j := 0) rfl⟩
        | cons x r => exact ⟨x, atI_nat (j := 0) rfl⟩
      refine ⟨a3, _, 0, _, rfl, rfl, SqL.of upd_same, hc, ?_⟩
      -- bag[2] += 1
      have at3 : ∀ {b o}, H b = some o → (upd (upd (upd H a1 (.lst (cutV (ns.map V.int) (some i) none))) a2 (.lst [V.int 0])) a3 (.lst (cutV (ns.map V.int) (some i) none ++ [V.int 0]))) b = some o :=
        fun e => by rw [upd_ne (ne3 e), upd_ne (ne2 e), upd_ne (ne1 e)]; exact e
      refine ⟨_, rfl, p, _, 2, _, rfl, rfl, by decide, by decide, SqL.of (at3 hp), rfl, _, _, rfl, rfl, p, _, 2, 2, rfl, rfl, at3 hp, rfl, ?_⟩
      -- bag[0] = cell * int(cell >= 10 ** 18)
      refine ⟨_, rfl, _, rfl, _, _, rfl, rfl, ⟨by decide, by decide, by decide⟩, _, _, rfl, rfl, ?_⟩
      refine Or.inr ⟨_, rfl, _, _, rfl, rfl, Or.inr ⟨by split <;> decide, by split <;> decide⟩, _, rfl, p, _, 0, 0, rfl, rfl, upd_same, rfl, ?_⟩
      -- the mix
      refine ⟨_, rfl, p, _, 1, _, rfl, rfl, SqL.of upd_same, atI_nat (j := 1) rfl, _, _, rfl, rfl, Or.inr ⟨by decide, by decide⟩, ?_⟩
      refine ⟨_, rfl, Or.inl ⟨_, rfl, _, _, rfl, rfl, (by show (0 : Int) < 2147483647; decide), _, _, rfl, rfl, ?_⟩⟩
      refine ⟨_, rfl, p, _, 2, _, rfl, rfl, SqL.of upd_same, atI_nat (j := 2) rfl, _, _, rfl, rfl, Or.inl ⟨by decide, by decide⟩, _, _, rfl, rfl, ?_⟩
      refine ⟨_, rfl, Or.inl ⟨_, rfl, _, _, rfl, rfl, (by show (0 : Int) < 2147483647; decide), _, rfl, p, _, 1, 1, rfl, rfl, upd_same, rfl, ?_⟩⟩
      refine ⟨_, _, rfl, ⟨_, _, _, ns, upd_same, ?_, hne, hl⟩, ?_⟩
      · rw [upd_ne hne.symm, upd_ne hne.symm, upd_ne hne.symm]
        exact at3 hq
      · intro b o nb e
        rw [upd_ne nb, upd_ne nb, upd_ne nb]
        exact at3 e
    · rintro σ H1 ⟨a, b, rfl, ⟨c, m, i, ns, hp, hq, hne, hl⟩, kp⟩
      refine ⟨_, rfl, p, _, 0, _, rfl, rfl, SqL.of hp, atI_nat (j := 0) rfl, _, _, rfl, rfl, _, rfl, ?_⟩
      refine ite2 (fun hc => ?_) (fun _ => ?_)
      · -- the great cell's digit
        refine ⟨_, rfl, p, _, 0, _, rfl, rfl, SqL.of hp, atI_nat (j := 0) rfl, Or.inl ⟨_, rfl, _, rfl, _, _, rfl, rfl, hn0, ?_⟩⟩
        refine ⟨_, rfl, p, _, 0, _, rfl, rfl, SqL.of hp, atI_nat (j := 0) rfl, Or.inl ⟨_, rfl, _, rfl, _, _, rfl, rfl, ⟨hn0, by omega⟩, ?_⟩⟩
        refine ⟨(by show 2 ≤ sizeLine; decide), fun t ht => ?_⟩
        have net : ∀ {b o}, H1 b = some o → b ≠ t := fun e => ne_of_none e ht
        refine ⟨t, _, rfl, SqT.of upd_same, rfl, _, _, rfl, _, _, rfl, _, rfl, p, _, 0, 0, rfl, rfl, by rw [upd_ne (net hp)]; exact hp, rfl, rfl, ?_⟩
        refine ⟨_, rfl, k _ _ (Int.emod_nonneg _ (by omega)) (Int.emod_lt_of_pos _ hn0) ⟨_, m, i, ns, upd_same, ?_, hne, hl⟩ fun b o nb e => ?_⟩
        · rw [upd_ne hne.symm, upd_ne (net hq)]
          exact hq
        · rw [upd_ne nb, upd_ne (net (kp b o nb e))]
          exact kp b o nb e
      · refine ⟨_, rfl, p, _, 1, _, rfl, rfl, SqL.of hp, atI_nat (j := 1) rfl, _, _, rfl, rfl, _, _, rfl, rfl, Or.inr ⟨by decide, by decide⟩, Or.inl ⟨_, rfl, _, _, rfl, rfl, (by show (0 : Int) < 1000000007; decide), ?_⟩⟩
        have e0 : 0 ≤ (m + 1) * 39373 % 1000000007 := Int.emod_nonneg _ (by decide)
        have e1 : (m + 1) * 39373 % 1000000007 < 1000000007 := Int.emod_lt_of_pos _ (by decide)
        refine ⟨_, rfl, _, rfl, _, _, rfl, rfl, Or.inl ⟨by omega, by omega⟩, Or.inl ⟨_, rfl, _, _, rfl, rfl, (by show (0 : Int) < 998244353; decide), _, _, rfl, rfl, Or.inr ⟨by decide, by decide⟩, Or.inl ⟨_, rfl, _, _, rfl, rfl, (by show (0 : Int) < 998244353; decide), ?_⟩⟩⟩
        refine ⟨_, rfl, _, _, rfl, rfl, ⟨by decide, by decide⟩, Or.inl ⟨_, rfl, _, rfl, _, _, rfl, rfl, hn0, ?_⟩⟩
        exact k _ _ (Int.emod_nonneg _ (by omega)) (Int.emod_lt_of_pos _ hn0) ⟨c, m, i, ns, hp, hq, hne, hl⟩ kp
end
end My

set_option Elab.async false
set_option linter.all false
set_option maxRecDepth 100000
set_option maxHeartbeats 4000000
namespace My
open PySem PySem.Spec PyProof.Rows L2
abbrev sIsInt : Stmt := topS 5
abbrev sIsName : Stmt := topS 6
/-- isinstance(e, T), T a built-in class by its name -/
structure Isi (mg : Str → Option Value) : Prop where
  isi : mg "isinstance" = none
  int : mg "int" = none
  bool : mg "bool" = none
  str : mg "str" = none
  tuple : mg "tuple" = none
  list : mg "list" = none
  len : mg "len" = none
  all : mg "all" = none
def intO : Option PyData → Bool
  | some (.int _) => true
  | _ => false
theorem intO_eq (o : Option PyData) : (isT o "int" && !isT o "bool") = intO o := by
  cases o with
  | none => rfl
  | some d => cases d <;> rfl
def letters : List Nat := (("abcdefghijklmnopqrstuvwxyz" : Str)).cps.toList
/-- the constants of the module kinds -/
structure Kon (K : PySem.W.Frag) (mg : Str → Option Value) : Prop where
  longest : ∃ t, mg "LONGEST" = some (.int 8 t)
  letters : ∃ t, mg "LETTERS" = some (.str "abcdefghijklmnopqrstuvwxyz" t)
  words : ∃ a, mg "WORDS" = some (.ref a) ∧ ∀ H, SqT K H a [.str "yes", .str "no", .str "round", .str "out"]
def okSigns (l : List Nat) : Bool := l.all fun c => decide (c ∈ letters)
def nameS (z : Str) : Bool := decide (1 ≤ z.length) && (decide (z.length ≤ 8) && okSigns z.cps.toList)
def nameD : PyData → Bool
  | .str z => nameS z
  | _ => false
def nameO : Option PyData → Bool
  | some d => nameD d
  | none => false
/-- a text is not too long to be asked -/
def strO (o : Option PyData) : Prop := ∀ z, o = some (.str z) → z.length ≤ 1000 ∧ PyData.strOk z = true
theorem isT_str {o : Option PyData} (h : isT o "str" = true) : ∃ z, o = some (.str z) := by
  cases o with
  | none => cases h
  | some d => cases d <;> first | exact ⟨_, rfl⟩ | (simp [isT, tyD] at h)
theorem nameO_no {o : Option PyData} (h : ¬ isT o "str" = true) : nameO o = false := by
  cases o with
  | none => rfl
  | some d => cases d <;> first | rfl | exact absurd (by rfl) h
theorem th_str {K : PySem.W.Frag} {H : Hp} {C : Addr} {x : V} {z : Str} (h : Th K H C x (some (.str z))) : x = .str z := by
  cases h with
  | dat h => cases h; rfl
def spIsInt (K : PySem.W.Frag) (C : Addr) : Sp := fun vs H Q _ => ∃ x o, vs = [x] ∧ Th K H C x o ∧ Q (.bl (intO o)) H
theorem scIsInt : FnScope ["thing"] ["thing"] (defScope sIsInt) := ⟨rfl, rfl, rfl, by decide +kernel, rfl, by decide +kernel, by decide +kernel⟩
section
variable {X : Cx} {C : Addr} {e : Expr} {te : TE} {pos p p2 : Pos}
/-- isinstance(e, x), x the name of the built-in class T -/
theorem pe_isTh {K : PySem.W.Frag} (c : PrC K C) (N : Isi X.mg) {x : Str} {T : String} (he : PE X e te) (hg : Gl X "isinstance") (hgx : Gl X x) (hm : X.mg x = none) (hv : bootBuiltins x = some (.type T))
    (hn : x ≠ "__name__" := by decide) (hdb : (x == ("__debug__" : Str)) = false := by decide)
    (hs : starEach [e, .Name x p2] X.env = (false, eval e X.env) :: starEach [.Name x p2] X.env := by rfl)
    (hK : X.K = K := by rfl) : PE X (.Call (.Name "isinstance" p) [e, .Name x p2] [] pos) (tCB (rIsTh K C) (tCons te (tCons (tC (.ty T)) tNil))) := by
  subst hK
  exact pe_callB (call_isTh c) hg N.isi (by decide +kernel) (pa_cons he (pa_cons (pe_bltn hgx hm hv rfl hn hdb) pa_nil) hs) (he := hs)
end
section
variable {P : Program} {w : World} {K : PySem.W.Frag} {mg : Str → Option Value} {base : Heap} {C : Addr}
theorem ok_isInt {f : Addr} {fd : FuncData} (F : Fun K "is_integer" "is_integer" sIsInt f fd) (N : Isi mg) (c : PrC K C) :
    FnOk P w K mg base CX0 1 f fd ["thing"] (spIsInt K C) := by
  refine F.ok scIsInt (fun vs H Q E h => ?_) (fun cdv A outer s H vs Q E hr h => ?_)
  · obtain ⟨x, o, rfl, _⟩ := h
    rfl
  · obtain ⟨x, o, rfl, ht, k⟩ := h
    refine ⟨_, pss_one (ps_ret (pe_and (pe_isTh (T := "int") c N (pv 0) rfl rfl N.int (by decide +kernel)) (pe_one (pe_not (pe_isTh (T := "bool") c N (pv 0) rfl rfl N.bool (by decide +kernel)))))), ?_⟩
    rw [← intO_eq] at k
    refine ⟨_, rfl, _, o, _, rfl, ht, by decide, _, rfl, ?_⟩
    refine ite2 (fun e => ?_) (fun e => ?_)
    · rw [e, Bool.true_and] at k
      exact ⟨_, rfl, _, o, _, rfl, ht, by decide, _, rfl, k⟩
    · rw [Bool.eq_false_iff.mpr e, Bool.false_and] at k
      exact k
def spIsName (K : PySem.W.Frag) (C : Addr) : Sp := fun vs H Q _ => ∃ x o, vs = [x] ∧ Th K H C x o ∧ strO o ∧ ∀ H', Same H H' → Q (.bl (nameO o)) H'
theorem scIsName : FnScope ["thing", "sign"] ["thing"] (defScope sIsName) := ⟨rfl, rfl, rfl, by decide +kernel, rfl, by decide +kernel, by decide +kernel⟩
theorem ok_isName {f : Addr} {fd : FuncData} (F : Fun K "is_name" "is_name" sIsName f fd) (N : Isi mg) (M : Kon K mg) (c : PrC K C) :
    FnOk P w K mg base CX0 1 f fd ["thing"] (spIsName K C) := by
  obtain ⟨tl, hlo⟩ := M.longest
  obtain ⟨ts, hle⟩ := M.letters
  refine F.ok scIsName (fun vs H Q E h => ?_) (fun cdv A outer s H vs Q E hr h => ?_)
  · obtain ⟨x, o, rfl, _⟩ := h
    rfl
  · obtain ⟨x, o, rfl, ht, hf, k⟩ := h
    refine ⟨_, pss_one (ps_ret (pe_and (pe_isTh (T := "str") c N (pv 0) rfl rfl N.str (by decide +kernel))
      (pe_and (pe_chain op_le op_le pe_int (pe_callB call_len rfl N.len PySem.boot_len (pa_cons (pv 0) pa_nil)) (pe_glob (v := .int 8) rfl hlo ⟨_, rfl⟩))
      (pe_one (pe_callB (cr_all rfl) rfl N.all (by decide +kernel) (pa_cons (pe_lc (own := [("sign", 1)]) (g := gName 1) (tt := tYes) rfl scIsName.nd (pi_str (pv 0))
        (blkOk_by (N := ["thing", "sign"]) (sc := defScope sIsName) (by decide +kernel)) (fun _ _ _ _ _ => pg_name (i := 1) scIsName.nd rfl (Or.inl rfl)) (fun _ _ _ _ _ => pts_nil)
        (fun _ _ _ _ _ => pe_cmpR op_in_sign (pv 1) (pe_glob (v := .str "abcdefghijklmnopqrstuvwxyz") rfl hle ⟨_, rfl⟩) (by rfl))) pa_nil)))))), ?_⟩
    refine ⟨_, rfl, _, o, _, rfl, ht, by decide, _, rfl, ?_⟩
    refine ite2 (fun e => ?_) (fun e => by rw [nameO_no e] at k; exact k H (Same.refl H))
    obtain ⟨z, rfl⟩ := isT_str e
    obtain rfl := th_str ht
    have hz : z.length ≤ sizeLine := Nat.le_trans (hf z rfl).1 (by decide)
    have kk : ∀ H', Same H H' → Q (.bl (decide ((1 : Int) ≤ (z.length : Nat)) && (decide (((z.length : Nat) : Int) ≤ 8) && okSigns z.cps.toList))) H' := fun H' s => by
      have e1 : decide ((1 : Int) ≤ (z.length : Nat)) = decide (1 ≤ z.length) := decide_eq_decide.mpr (by omega)
      have e2 : decide (((z.length : Nat) : Int) ≤ 8) = decide (z.length ≤ 8) := decide_eq_decide.mpr (by omega)
      rw [e1, e2]
      exact k H' s
    refine ⟨_, rfl, _, _, rfl, ⟨hz, rfl⟩, _, _, rfl, rfl, _, rfl, ?_⟩
    refine ite2 (fun e1 => ?_) (fun e1 => ?_)
    · rw [e1] at kk
      refine ⟨_, _, rfl, rfl, _, rfl, ?_⟩
      refine ite2 (fun e2 => ?_) (fun e2 => ?_)
      · rw [e2] at kk
        have hs : z.cps.toList.length = z.cps.size := by simp
        refine ⟨_, rfl, z, rfl, fun D hD => lcY walk_str (fun i ys H1 => Same H H1 ∧ ys = (z.cps.toList.take i).map fun c => V.bl (decide (c ∈ letters)))
          (fun _ => rfl) ⟨fun b o e => by rw [upd_ne (ne_of_none e hD)]; exact e, rfl⟩ (fun _ _ _ _ _ => trivial) ?_ ?_⟩
        · rintro i v ys H1 H2 hi hl hd ⟨s1, rfl⟩ ⟨rfl, ch, hch, rfl⟩
          refine ⟨_, rfl, ch, _, rfl, rfl, lc_next hd hl hi ?_ ⟨fun b o e => ?_, ?_⟩⟩
          · have := (hf z rfl).1
            have e9 : z.length = z.cps.size := rfl
            omega
          · rw [upd_ne (ne_of_none e hD)]
            exact s1 b o e
          · have e3 : z.cps.toList[i]? = some ch := by simpa using hch
            rw [List.take_add_one, e3]
            simp [letters]
        · rintro ys H1 hl hd ⟨s1, rfl⟩
          rw [← hs, List.take_length] at hd
          refine ⟨D, z.cps.toList.map fun c => decide (c ∈ letters), rfl, SqL.of (by rw [hd, List.map_map]; rfl), ?_⟩
          have e4 : ((z.cps.toList.map fun c => decide (c ∈ letters)).all id) = okSigns z.cps.toList := by
            rw [List.all_map]; rfl
          rw [e4]
          simpa using kk H1 s1
      · rw [Bool.eq_false_iff.mpr e2] at kk
        simpa using kk H (Same.refl H)
    · rw [Bool.eq_false_iff.mpr e1] at kk
      simpa using kk H (Same.refl H)
end
theorem isT_tup {o : Option PyData} (h : isT o "tuple" = true) : ∃ ds, o = some (.tuple ds) := by
  cases o with
  | none => cases h
  | some d => cases d <;> first | exact ⟨_, rfl⟩ | (simp [isT, tyD] at h)
theorem th_tup {K : PySem.W.Frag} {H : Hp} {C : Addr} {x : V} {ds : List PyData} (h : Th K H C x (some (.tuple ds))) : ∃ a xs, x = .ref a ∧ SqT K H a xs ∧ DpAll K H xs ds := by
  cases h with
  | dat h => cases h with | tup h1 h2 => exact ⟨_, _, rfl, h1, h2⟩
/-- the items of a list or a tuple -/
def itemsO : Option PyData → List PyData
  | some (.list ds) => ds
  | some (.tuple ds) => ds
  | _ => []
def seqO (o : Option PyData) : Bool := isT o "list" || isT o "tuple"
theorem th_seq {K : PySem.W.Frag} {H : Hp} {C : Addr} {x : V} {o : Option PyData} (h : Th K H C x o) (e : seqO o = true) : ∃ a xs, x = .ref a ∧ Seq2 K H a xs ∧ DpAll K H xs (itemsO o) := by
  cases h with
  | dat h =>
    cases h with
    | lst h1 h2 => exact ⟨_, _, rfl, .inl h1, h2⟩
    | tup h1 h2 => exact ⟨_, _, rfl, .inr h1, h2⟩
    | _ => simp [seqO, isT, tyD] at e
  | dic kvs h => simp [seqO, isT, tyD] at e
  | ins h => simp [seqO, isT] at e
def natI : PyData → Bool
  | .int i => decide (0 ≤ i)
  | _ => false
def addrO : Option PyData → Bool
  | some (.tuple ds) => decide (ds.length % 2 = 1) && ds.all natI
  | _ => false
def namesO (o : Option PyData) (most : Int) : Bool := seqO o && (decide (((itemsO o).length : Int) ≤ most) && (itemsO o).all nameD)
def wordD : PyData → Bool
  | .str z => decide (z ∈ ([("yes" : Str), "no", "round", "out"] : List Str))
  | _ => false
def choicesO (o : Option PyData) : Bool := seqO o && (itemsO o).all wordD
/-- no list is too long, no text in it -/
def FitO (o : Option PyData) : Prop := strO o ∧ (itemsO o).length ≤ 20000 ∧ ∀ d ∈ itemsO o, strO (some d) ∧ d.canLay0 = true ∧ d.depth ≤ 20
theorem addrO_no {o : Option PyData} (h : ¬ isT o "tuple" = true) : addrO o = false := by
  cases o with
  | none => rfl
  | some d => cases d <;> first | rfl | exact absurd (by rfl) h
abbrev sIsAddr : Stmt := topS 7
def spIsAddr (K : PySem.W.Frag) (C : Addr) : Sp := fun vs H Q _ => ∃ x o, vs = [x] ∧ Th K H C x o ∧ FitO o ∧ ∀ H', Same H H' → Q (.bl (addrO o)) H'
theorem scIsAddr : FnScope ["thing", "part"] ["thing"] (defScope sIsAddr) := ⟨rfl, rfl, rfl, by decide +kernel, rfl, by decide +kernel, by decide +kernel⟩
section
variable {P : Program} {w : World} {K : PySem.W.Frag} {mg : Str → Option Value} {base : Heap} {C : Addr}
theorem ok_isAddr {f fI : Addr} {fd fdI : FuncData} (F : Fun K "is_address" "is_address" sIsAddr f fd) (N : Isi mg) (c : PrC K C)
    (G : FnOk P w K mg base CX0 1 fI fdI ["thing"] (spIsInt K C)) (gm : mg "is_integer" = some (.ref fI)) (gk : PySem.W.keepIn K (.ref fI) = true) (gb : Binds K fdI ["thing"] []) :
    FnOk P w K mg base CX0 2 f fd ["thing"] (spIsAddr K C) := by
  refine F.ok scIsAddr (fun vs H Q E h => ?_) (fun cdv A outer s H vs Q E hr h => ?_)
  · obtain ⟨x, o, rfl, _⟩ := h
    rfl
  · obtain ⟨x, o, rfl, ht, hf, k⟩ := h
    refine ⟨_, pss_cons (ps_if (PW.pt (pw_or (pt_not (pt_val (pe_isTh (T := "tuple") c N (pv 0) rfl rfl N.tuple (by decide +kernel))))
        (pw_or1 (pt_cmpR op_eq (pe_op op_mod (pe_callB call_len rfl N.len PySem.boot_len (pa_cons (pv 0) pa_nil)) pe_int) pe_int (nomark _))))) (pss_one (ps_ret pe_bl)) pss_nil)
      (pss_one (ps_ret (pe_callB (cr_all rfl) rfl N.all (by decide +kernel) (pa_cons (pe_lc (own := [("part", 1)]) (g := gName 1) (tt := tYes) rfl scIsAddr.nd (PI_or (pi_list (pv 0)) (pi_tup (pv 0)))
        (blkOk_by (N := ["thing", "part"]) (sc := defScope sIsAddr) (by decide +kernel)) (fun _ _ _ _ _ => pg_name (i := 1) scIsAddr.nd rfl (Or.inl rfl)) (fun _ _ _ _ _ => pts_nil)
        (fun _ _ _ _ _ => pe_and (pe_call G hr rfl gm gk gb .nil pass0 (pa_cons (pv 1) pa_nil)) (pe_one (pe_cmpR op_ge (pv 1) pe_int (nomark _))))) pa_nil)))), ?_⟩
    refine ⟨_, rfl, _, o, _, rfl, ht, by decide, _, rfl, ?_⟩
    cases e : isT o "tuple" with
    | false =>
      have e2 : addrO o = false := addrO_no (by rw [e]; decide)
      rw [e2] at k
      exact iteT (iteT (k H (Same.refl H)))
    | true =>
      refine iteF ?_
      obtain ⟨ds, rfl⟩ := isT_tup e
      obtain ⟨a, xs, rfl, hT, hda⟩ := th_tup ht
      have hl := dpAll_len hda
      have hf2 : ds.length ≤ 20000 := hf.2.1
      refine ⟨_, rfl, _, _, rfl, Or.inr ⟨_, hT, rfl⟩, _, _, rfl, rfl, (by show (0 : Int) < 2; decide), rfl, _, rfl, ?_⟩
      have e3 : decide (V.int ((xs.length : Int) % 2) = V.int 0) = !decide (ds.length % 2 = 1) := by
        rw [dec_int]
        cases h : decide (ds.length % 2 = 1) with
        | true => 
          have := of_decide_eq_true h
          simp; omega
        | false =>
          have := of_decide_eq_false h
          simp; omega
      rw [e3]
      cases e4 : decide (ds.length % 2 = 1) with
      | false =>
        refine iteT ?_
        have t : Q (.bl false) H := by simpa [addrO, e4] using k H (Same.refl H)
        exact t
      | true =>
        refine iteF ?_
        refine rd_all (i := 0) (j := 1) natI rfl (.inr hT) hda (by omega) (fun _ => rfl) ?_ ?_
        · intro y d H1 Q1 hd hdp s1 q1
          refine ⟨_, rfl, y, some d, rfl, .dat hdp, ?_⟩
          refine ⟨_, rfl, ?_⟩
          cases d with
          | int i =>
            cases hdp
            exact iteT ⟨_, rfl, _, _, rfl, rfl, q1 H1 (Same.refl H1)⟩
          | none => exact iteF (q1 H1 (Same.refl H1))
          | bool _ => exact iteF (q1 H1 (Same.refl H1))
          | str _ => exact iteF (q1 H1 (Same.refl H1))
          | list _ => exact iteF (q1 H1 (Same.refl H1))
          | tuple _ => exact iteF (q1 H1 (Same.refl H1))
          | dict _ => exact iteF (q1 H1 (Same.refl H1))
        · intro H1 s1
          have := k H1 s1
          simpa [addrO, e4] using this
end
abbrev sAreNames : Stmt := topS 8
def spAreNames (K : PySem.W.Frag) (C : Addr) : Sp := fun vs H Q _ => ∃ x o m, vs = [x, .int m] ∧ Th K H C x o ∧ FitO o ∧ ∀ H', Same H H' → Q (.bl (namesO o m)) H'
theorem scAreNames : FnScope ["thing", "most", "name"] ["thing", "most"] (defScope sAreNames) := ⟨rfl, rfl, rfl, by decide +kernel, rfl, by decide +kernel, by decide +kernel⟩
section
variable {X : Cx} {C : Addr} {e : Expr} {te : TE} {pos p p1 p2 p3 : Pos} {k : Nat}
/-- isinstance(e, (list, tuple)) -/
theorem pe_isLT {K : PySem.W.Frag} (c : PrC K C) (N : Isi X.mg) (he : PE X e te) (hg : Gl X "isinstance") (hgl : Gl X "list") (hgt : Gl X "tuple")
    (hs : starEach [e, .Tuple [.Name "list" p1, .Name "tuple" p2] k p3] X.env = (false, eval e X.env) :: starEach [.Tuple [.Name "list" p1, .Name "tuple" p2] k p3] X.env := by rfl) (hK : X.K = K := by rfl) :
    PE X (.Call (.Name "isinstance" p) [e, .Tuple [.Name "list" p1, .Name "tuple" p2] k p3] [] pos) (tCB (rIsLT K C) (tCons te (tCons (tTup (tCons (tC (.ty "list")) (tCons (tC (.ty "tuple")) tNil))) tNil))) := by
  subst hK
  exact pe_callB (call_isLT c) hg N.isi (by decide +kernel) (pa_cons he (pa_cons (pe_tup (pa_cons (pe_bltn hgl N.list (by decide +kernel) rfl) (pa_cons (pe_bltn hgt N.tuple (by decide +kernel) rfl) pa_nil))) pa_nil) hs) (he := hs)
end
section
variable {P : Program} {w : World} {K : PySem.W.Frag} {mg : Str → Option Value} {base : Heap} {C : Addr}
theorem ok_areNames {f fI : Addr} {fd fdI : FuncData} (F : Fun K "are_names" "are_names" sAreNames f fd) (N : Isi mg) (c : PrC K C)
    (G : FnOk P w K mg base CX0 1 fI fdI ["thing"] (spIsName K C)) (gm : mg "is_name" = some (.ref fI)) (gk : PySem.W.keepIn K (.ref fI) = true) (gb : Binds K fdI ["thing"] []) :
    FnOk P w K mg base CX0 2 f fd ["thing", "most"] (spAreNames K C) := by
  refine F.ok scAreNames (fun vs H Q E h => ?_) (fun cdv A outer s H vs Q E hr h => ?_)
  · obtain ⟨x, o, m, rfl, _⟩ := h
    rfl
  · obtain ⟨x, o, m, rfl, ht, hf, k⟩ := h
    refine ⟨_, pss_one (ps_ret (pe_and (pe_isLT c N (pv 0) rfl rfl rfl) (pe_and (pe_cmpR op_le (pe_callB call_len rfl N.len PySem.boot_len (pa_cons (pv 0) pa_nil)) (pv 1) (nomark _))
      (pe_one (pe_callB (cr_all rfl) rfl N.all (by decide +kernel) (pa_cons (pe_lc (own := [("name", 2)]) (g := gName 2) (tt := tYes) rfl scAreNames.nd (PI_or (pi_list (pv 0)) (pi_tup (pv 0)))
        (blkOk_by (N := ["thing", "most", "name"]) (sc := defScope sAreNames) (by decide +kernel)) (fun _ _ _ _ _ => pg_name (i := 2) scAreNames.nd rfl (Or.inl rfl)) (fun _ _ _ _ _ => pts_nil)
        (fun _ _ _ _ _ => pe_call G hr rfl gm gk gb .nil pass0 (pa_cons (pv 2) pa_nil))) pa_nil)))))), ?_⟩
    refine ⟨_, rfl, (by show 2 ≤ sizeLine; decide), fun tp htp => ⟨_, o, tp, rfl, upd_same, th_mono (same_upd htp) ht, _, rfl, ?_⟩⟩
    have s0 := same_upd (o := .tup [.ty "list", .ty "tuple"]) htp
    cases e : seqO o with
    | false =>
      have e' : (isT o "list" || isT o "tuple") = false := e
      rw [e']
      have t : Q (.bl false) (upd H tp (.tup [.ty "list", .ty "tuple"])) := by simpa [namesO, e] using k _ s0
      exact iteF t
    | true =>
      have e' : (isT o "list" || isT o "tuple") = true := e
      rw [e']
      refine iteT ?_
      obtain ⟨a, xs, rfl, hS, hda⟩ := th_seq ht e
      have hl := dpAll_len hda
      have hf2 := hf.2.1
      refine ⟨_, rfl, _, xs.length, rfl, ?_, _, rfl, _, _, rfl, rfl, _, rfl, ?_⟩
      · rcases hS with h | h
        · exact Or.inl ⟨xs, sqL_mono h (s0 a), rfl⟩
        · exact Or.inr ⟨xs, sqT_mono h (s0 a), rfl⟩
      rw [hl]
      cases e4 : decide (((itemsO o).length : Int) ≤ m) with
      | false =>
        have t : Q (.bl false) (upd H tp (.tup [.ty "list", .ty "tuple"])) := by simpa [namesO, e, e4] using k _ s0
        exact iteF t
      | true =>
        refine iteT ?_
        refine rd_all (i := 0) (j := 2) nameD rfl (seq2_mono s0 hS) (dpAll_mono s0 hda) (by omega) (fun _ => rfl) ?_ ?_
        · intro y d H1 Q1 hd hdp s1 q1
          exact ⟨_, rfl, y, some d, rfl, .dat hdp, (hf.2.2 d hd).1, q1⟩
        · intro H1 s1
          have := k H1 (s0.trans s1)
          simpa [namesO, e, e4] using this
end
theorem wordD_in (z : Str) : inV (.str z) [.str "yes", .str "no", .str "round", .str "out"] = wordD (.str z) := by
  unfold inV wordD
  simp only [List.any_cons, List.any_nil, Bool.or_false, eqV]
  rw [Bool.eq_iff_iff]
  simp only [Bool.or_eq_true, decide_eq_true_eq, beq_iff_eq, List.mem_cons, List.not_mem_nil, or_false]
  constructor
  · rintro (h | h | h | h) <;> simp [h.symm]
  · rintro (h | h | h | h) <;> simp [h]
abbrev sAreChoices : Stmt := topS 9
def spAreChoices (K : PySem.W.Frag) (C : Addr) : Sp := fun vs H Q _ => ∃ x o, vs = [x] ∧ Th K H C x o ∧ FitO o ∧ ∀ H', Same H H' → Q (.bl (choicesO o)) H'
theorem scAreChoices : FnScope ["thing", "word"] ["thing"] (defScope sAreChoices) := ⟨rfl, rfl, rfl, by decide +kernel, rfl, by decide +kernel, by decide +kernel⟩
section
variable {P : Program} {w : World} {K : PySem.W.Frag} {mg : Str → Option Value} {base : Heap} {C : Addr}
theorem ok_areChoices {f : Addr} {fd : FuncData} (F : Fun K "are_choices" "are_choices" sAreChoices f fd) (N : Isi mg) (M : Kon K mg) (c : PrC K C) :
    FnOk P w K mg base CX0 1 f fd ["thing"] (spAreChoices K C) := by
  obtain ⟨wa, hwa, hws⟩ := M.words
  refine F.ok scAreChoices (fun vs H Q E h => ?_) (fun cdv A outer s H vs Q E hr h => ?_)
  · obtain ⟨x, o, rfl, _⟩ := h
    rfl
  · obtain ⟨x, o, rfl, ht, hf, k⟩ := h
    refine ⟨_, pss_one (ps_ret (pe_and (pe_isLT c N (pv 0) rfl rfl rfl)
      (pe_one (pe_callB (cr_all rfl) rfl N.all (by decide +kernel) (pa_cons (pe_lc (own := [("word", 1)]) (g := gName 1) (tt := tYes) rfl scAreChoices.nd (PI_or (pi_list (pv 0)) (pi_tup (pv 0)))
        (blkOk_by (N := ["thing", "word"]) (sc := defScope sAreChoices) (by decide +kernel)) (fun _ _ _ _ _ => pg_name (i := 1) scAreChoices.nd rfl (Or.inl rfl)) (fun _ _ _ _ _ => pts_nil)
        (fun _ _ _ _ _ => pe_and (pe_isTh (T := "str") c N (pv 1) rfl rfl N.str (by decide +kernel)) (pe_one (pe_cmpR (r := rIn K false) op_in_seq (pv 1) (pe_glob (v := .ref wa) rfl hwa rfl) (by rfl))))) pa_nil))))), ?_⟩
    refine ⟨_, rfl, (by show 2 ≤ sizeLine; decide), fun tp htp => ⟨_, o, tp, rfl, upd_same, th_mono (same_upd htp) ht, _, rfl, ?_⟩⟩
    have s0 := same_upd (o := .tup [.ty "list", .ty "tuple"]) htp
    cases e : seqO o with
    | false =>
      have e' : (isT o "list" || isT o "tuple") = false := e
      rw [e']
      have t : Q (.bl false) (upd H tp (.tup [.ty "list", .ty "tuple"])) := by simpa [choicesO, e] using k _ s0
      exact iteF t
    | true =>
      have e' : (isT o "list" || isT o "tuple") = true := e
      rw [e']
      refine iteT ?_
      obtain ⟨a, xs, rfl, hS, hda⟩ := th_seq ht e
      have hl := dpAll_len hda
      have hf2 := hf.2.1
      refine rd_all (i := 0) (j := 1) wordD rfl (seq2_mono s0 hS) (dpAll_mono s0 hda) (by omega) (fun _ => rfl) ?_ ?_
      · intro y d H1 Q1 hd hdp s1 q1
        refine ⟨_, rfl, y, some d, _, rfl, .dat hdp, by decide, _, rfl, ?_⟩
        cases d with
        | str z =>
          cases hdp
          refine iteT ⟨_, rfl, wa, _, rfl, Or.inr (hws _), rfl, rfl, ?_⟩
          show Q1 (.bl (inV (.str z) [.str "yes", .str "no", .str "round", .str "out"])) H1
          rw [wordD_in]
          exact q1 H1 (Same.refl H1)
        | none => exact iteF (q1 H1 (Same.refl H1))
        | bool _ => exact iteF (q1 H1 (Same.refl H1))
        | int _ => exact iteF (q1 H1 (Same.refl H1))
        | list _ => exact iteF (q1 H1 (Same.refl H1))
        | tuple _ => exact iteF (q1 H1 (Same.refl H1))
        | dict _ => exact iteF (q1 H1 (Same.refl H1))
      · intro H1 s1
        have := k H1 (s0.trans s1)
        simpa [choicesO, e] using this
end
end My

set_option Elab.async false
set_option linter.all false
set_option maxRecDepth 100000
set_option maxHeartbeats 4000000
namespace My
open PySem PySem.Spec PyProof.Rows L2
abbrev sLInt : Stmt := topS 64
abbrev sLName : Stmt := topS 65
abbrev sLNames : Stmt := topS 66
abbrev sLAddr : Stmt := topS 67
abbrev sLChoices : Stmt := topS 71
theorem scLInt : FnScope ["_law_thing"] ["_law_thing"] (defScope sLInt) := ⟨rfl, rfl, rfl, by decide +kernel, rfl, by decide +kernel, by decide +kernel⟩
theorem scLName : FnScope ["_law_thing", "_law_letter"] ["_law_thing"] (defScope sLName) := ⟨rfl, rfl, rfl, by decide +kernel, rfl, by decide +kernel, by decide +kernel⟩
theorem scLNames : FnScope ["_law_thing", "_law_upto", "_law_one"] ["_law_thing", "_law_upto"] (defScope sLNames) := ⟨rfl, rfl, rfl, by decide +kernel, rfl, by decide +kernel, by decide +kernel⟩
theorem scLAddr : FnScope ["_law_thing", "_law_part"] ["_law_thing"] (defScope sLAddr) := ⟨rfl, rfl, rfl, by decide +kernel, rfl, by decide +kernel, by decide +kernel⟩
theorem scLChoices : FnScope ["_law_thing", "_law_word"] ["_law_thing"] (defScope sLChoices) := ⟨rfl, rfl, rfl, by decide +kernel, rfl, by decide +kernel, by decide +kernel⟩
/-- [c for c in z if c not in the letters] == [] -/
theorem rd_signs {K : PySem.W.Frag} {H : Hp} {σ : L2.St} {i j : Nat} {Q : VK} {z : Str} {r : R2} (hi : σ[i]? = some (some (.str z))) (hz : z.length ≤ 1000) (hok : PyData.strOk z = true)
    (hw : ∀ x, wipe ((wipe σ [j]).set j (some x)) [j] = wipe σ [j]) (hj : ∀ x, ((wipe σ [j]).set j (some x))[j]? = some (some x))
    (hr : ∀ (c : Nat) H1 (Q1 : VK), Q1 (.bl (!decide (c ∈ letters))) H1 → r (.str ⟨#[c]⟩) (.str "abcdefghijklmnopqrstuvwxyz") H1 Q1)
    (hd : ∀ H1, Same H H1 → Q (.bl (okSigns z.cps.toList)) H1) :
    tOp (rEqD K) (tLc (iStr (tVar i)) (gName j) (tTest (tOp r (tVar j) (tC (.str "abcdefghijklmnopqrstuvwxyz")))) (tVar j) [j]) (tLst tNil) σ H Q := by
  have hs : z.cps.toList.length = z.cps.size := by simp
  have hzl : z.length = z.cps.size := rfl
  let g : Nat → Bool := fun c => !decide (c ∈ letters)
  let mk : Nat → V := fun c => .str ⟨#[c]⟩
  let mkD : Nat → PyData := fun c => .str ⟨#[c]⟩
  have hall : ∀ H1 (l : List Nat), DpAll K H1 (l.map mk) (l.map mkD) := fun H1 l => by
    induction l with
    | nil => exact .nil
    | cons c l ih => exact .cons (.str _) ih
  refine ⟨_, hi, z, rfl, fun D hD => lcT walk_str (fun k H1 => Same H H1 ∧ H1 D = some (.lst (((z.cps.toList.take k).filter g).map mk))) hw ⟨same_upd hD, upd_same⟩ (fun _ _ _ _ => trivial) ?_ ?_⟩
  · rintro k x H1 H2 hk ⟨s1, e⟩ ⟨rfl, c, hc, rfl⟩
    have e3 : z.cps.toList[k]? = some c := by simpa using hc
    refine ⟨_, hj _, hr c _ _ ⟨_, rfl, ?_⟩⟩
    cases hg : g c with
    | false =>
      have hg' : (!decide (c ∈ letters)) = false := hg
      rw [hg']
      refine iteF ⟨s1, ?_⟩
      rw [List.take_add_one, e3, List.filter_append]
      simp [hg, e]
    | true =>
      have hg' : (!decide (c ∈ letters)) = true := hg
      rw [hg']
      refine iteT ⟨_, hj _, _, e, ?_, same_upd2 s1 hD, ?_⟩
      · rw [List.length_map, sizeLine_eq]
        have h1 := List.length_filter_le g (z.cps.toList.take k)
        rw [List.length_take] at h1
        omega
      · rw [upd_same, List.take_add_one, e3, List.filter_append]
        simp [hg, mk]
  · rintro H1 ⟨s1, e⟩
    rw [← hs, List.take_length] at e
    refine ⟨by decide, fun p hp => ?_⟩
    have s2 := same_upd (o := .lst []) hp
    refine ⟨.list ((z.cps.toList.filter g).map mkD), .list [], .lst (SqL.of (s2 _ _ e)) (hall _ _), .lst (SqL.of upd_same) .nil, shaped_list (fun d hd => ?_), shaped_list (by simp), ?_⟩
    · obtain ⟨c, hc, rfl⟩ := List.mem_map.mp hd
      have h1 : c ∈ z.cps.toList := (List.mem_filter.mp hc).1
      have h2 : PyData.strOk ⟨#[c]⟩ = true := by
        unfold PyData.strOk at hok ⊢
        rw [Array.all_eq_true_iff_forall_mem] at hok ⊢
        intro x hx
        have e5 : x = c := by simpa using hx
        rw [e5]
        exact hok c (by simpa using h1)
      exact ⟨by simpa [mkD, PyData.canLay0] using h2, by simp [mkD, PyData.depth]⟩
    · rw [eqvAll_nil]
      have e6 : ((z.cps.toList.filter g).map mkD).isEmpty = okSigns z.cps.toList := by
        unfold okSigns
        induction z.cps.toList with
        | nil => rfl
        | cons c r ih =>
          cases h : decide (c ∈ letters)
          · simp [List.filter_cons, g, h]
          · simpa [List.filter_cons, g, h] using ih
      rw [e6]
      exact hd _ (s1.trans s2)
section
variable {P : Program} {w : World} {K : PySem.W.Frag} {mg : Str → Option Value} {base : Heap} {C : Addr}
theorem ok_lInt {f : Addr} {fd : FuncData} (F : Fun K "_law_is_integer" "_law_is_integer" sLInt f fd) (N : Isi mg) (c : PrC K C) :
    FnOk P w K mg base CX0 1 f fd ["_law_thing"] (spIsInt K C) := by
  refine F.ok scLInt (fun vs H Q E h => ?_) (fun cdv A outer s H vs Q E hr h => ?_)
  · obtain ⟨x, o, rfl, _⟩ := h
    rfl
  · obtain ⟨x, o, rfl, ht, k⟩ := h
    refine ⟨_, pss_one (ps_ret (pe_and (pe_isTh (T := "int") c N (pv 0) rfl rfl N.int (by decide +kernel)) (pe_one (pe_not (pe_isTh (T := "bool") c N (pv 0) rfl rfl N.bool (by decide +kernel)))))), ?_⟩
    rw [← intO_eq] at k
    refine ⟨_, rfl, _, o, _, rfl, ht, by decide, _, rfl, ?_⟩
    refine ite2 (fun e => ?_) (fun e => ?_)
    · rw [e, Bool.true_and] at k
      exact ⟨_, rfl, _, o, _, rfl, ht, by decide, _, rfl, k⟩
    · rw [Bool.eq_false_iff.mpr e, Bool.false_and] at k
      exact k
theorem ok_lName {f : Addr} {fd : FuncData} (F : Fun K "_law_is_name" "_law_is_name" sLName f fd) (N : Isi mg) (c : PrC K C) :
    FnOk P w K mg base CX0 1 f fd ["_law_thing"] (spIsName K C) := by
  refine F.ok scLName (fun vs H Q E h => ?_) (fun cdv A outer s H vs Q E hr h => ?_)
  · obtain ⟨x, o, rfl, _⟩ := h
    rfl
  · obtain ⟨x, o, rfl, ht, hf, k⟩ := h
    refine ⟨_, pss_cons (ps_if (PW.pt (pw_or (pt_not (pt_val (pe_isTh (T := "str") c N (pv 0) rfl rfl N.str (by decide +kernel))))
        (pw_or1 (pt_not (pt_chain op_le op_le pe_int (pe_callB call_len rfl N.len PySem.boot_len (pa_cons (pv 0) pa_nil)) pe_int))))) (pss_one (ps_ret pe_bl)) pss_nil)
      (pss_one (ps_ret (pe_cmpR (op_eqD hr.units) (pe_lc (own := [("_law_letter", 1)]) (g := gName 1) rfl scLName.nd (pi_str (pv 0))
        (blkOk_by (N := ["_law_thing", "_law_letter"]) (sc := defScope sLName) (by decide +kernel)) (fun _ _ _ _ _ => pg_name (i := 1) scLName.nd rfl (Or.inl rfl))
        (fun _ _ _ _ _ => pts_one (pt_cmpR op_notIn_sign (pv 1) pe_str (by rfl)))
        (fun _ _ _ _ _ => pv 1)) (pe_lst pa_nil) (nomark _)))), ?_⟩
    refine ⟨_, rfl, _, o, _, rfl, ht, by decide, _, rfl, ?_⟩
    cases e : isT o "str" with
    | false =>
      have e2 : nameO o = false := nameO_no (by rw [e]; decide)
      rw [e2] at k
      exact iteT (iteT (k H (Same.refl H)))
    | true =>
      refine iteF ?_
      obtain ⟨z, rfl⟩ := isT_str e
      obtain rfl := th_str ht
      have hz1 := (hf z rfl).1
      have hz : z.length ≤ sizeLine := Nat.le_trans hz1 (by decide)
      have kk : ∀ H', Same H H' → Q (.bl (decide ((1 : Int) ≤ (z.length : Nat)) && (decide (((z.length : Nat) : Int) ≤ 8) && okSigns z.cps.toList))) H' := fun H' s => by
        have e1 : decide ((1 : Int) ≤ (z.length : Nat)) = decide (1 ≤ z.length) := decide_eq_decide.mpr (by omega)
        have e2 : decide (((z.length : Nat) : Int) ≤ 8) = decide (z.length ≤ 8) := decide_eq_decide.mpr (by omega)
        rw [e1, e2]
        exact k H' s
      refine ⟨_, rfl, _, _, rfl, ⟨hz, rfl⟩, _, _, rfl, rfl, _, rfl, ?_⟩
      cases e1 : decide ((1 : Int) ≤ (z.length : Nat)) with
      | false =>
        rw [e1] at kk
        have t : Q (.bl false) H := by simpa using kk H (Same.refl H)
        exact iteF ⟨_, rfl, iteT t⟩
      | true =>
        rw [e1] at kk
        refine iteT ⟨_, _, rfl, rfl, _, rfl, ?_⟩
        cases e2 : decide (((z.length : Nat) : Int) ≤ 8) with
        | false =>
          rw [e2] at kk
          have t : Q (.bl false) H := by simpa using kk H (Same.refl H)
          exact iteT t
        | true =>
          rw [e2] at kk
          refine iteF ?_
          refine rd_signs (i := 0) (j := 1) rfl hz1 (hf z rfl).2 (fun _ => rfl) (fun _ => rfl) (fun ch H1 Q1 q => ⟨ch, _, rfl, rfl, q⟩) ?_
          intro H1 s1
          simpa using kk H1 s1
theorem ok_lNames {f fI : Addr} {fd fdI : FuncData} (F : Fun K "_law_are_names" "_law_are_names" sLNames f fd) (N : Isi mg) (c : PrC K C)
    (G : FnOk P w K mg base CX0 1 fI fdI ["_law_thing"] (spIsName K C)) (gm : mg "_law_is_name" = some (.ref fI)) (gk : PySem.W.keepIn K (.ref fI) = true) (gb : Binds K fdI ["_law_thing"] []) :
    FnOk P w K mg base CX0 2 f fd ["_law_thing", "_law_upto"] (spAreNames K C) := by
  refine F.ok scLNames (fun vs H Q E h => ?_) (fun cdv A outer s H vs Q E hr h => ?_)
  · obtain ⟨x, o, m, rfl, _⟩ := h
    rfl
  · obtain ⟨x, o, m, rfl, ht, hf, k⟩ := h
    refine ⟨_, pss_cons (ps_if (PW.pt (pw_or (pt_not (pt_val (pe_isLT c N (pv 0) rfl rfl rfl)))
        (pw_or1 (pt_cmpR op_gt (pe_callB call_len rfl N.len PySem.boot_len (pa_cons (pv 0) pa_nil)) (pv 1) (nomark _))))) (pss_one (ps_ret pe_bl)) pss_nil)
      (pss_one (ps_ret (pe_cmpR (op_eqD hr.units) (pe_lc (own := [("_law_one", 2)]) (g := gName 2) rfl scLNames.nd (PI_or (pi_list (pv 0)) (pi_tup (pv 0)))
        (blkOk_by (N := ["_law_thing", "_law_upto", "_law_one"]) (sc := defScope sLNames) (by decide +kernel)) (fun _ _ _ _ _ => pg_name (i := 2) scLNames.nd rfl (Or.inl rfl))
        (fun _ _ _ _ _ => pts_one (pt_not (pt_val (pe_call G hr rfl gm gk gb .nil pass0 (pa_cons (pv 2) pa_nil)))))
        (fun _ _ _ _ _ => pv 2)) (pe_lst pa_nil) (nomark _)))), ?_⟩
    refine ⟨_, rfl, (by show 2 ≤ sizeLine; decide), fun tp htp => ⟨_, o, tp, rfl, upd_same, th_mono (same_upd htp) ht, _, rfl, ?_⟩⟩
    have s0 := same_upd (o := .tup [.ty "list", .ty "tuple"]) htp
    cases e : seqO o with
    | false =>
      have e' : (isT o "list" || isT o "tuple") = false := e
      rw [e']
      have t : Q (.bl false) (upd H tp (.tup [.ty "list", .ty "tuple"])) := by simpa [namesO, e] using k _ s0
      exact iteT (iteT t)
    | true =>
      have e' : (isT o "list" || isT o "tuple") = true := e
      rw [e']
      refine iteF ?_
      obtain ⟨a, xs, rfl, hS, hda⟩ := th_seq ht e
      have hl := dpAll_len hda
      have hf2 := hf.2.1
      refine ⟨_, rfl, _, xs.length, rfl, ?_, _, rfl, _, _, rfl, rfl, _, rfl, ?_⟩
      · rcases hS with h | h
        · exact Or.inl ⟨xs, sqL_mono h (s0 a), rfl⟩
        · exact Or.inr ⟨xs, sqT_mono h (s0 a), rfl⟩
      rw [hl]
      have e5 : decide (m < ((itemsO o).length : Int)) = !decide (((itemsO o).length : Int) ≤ m) := by
        by_cases q : ((itemsO o).length : Int) ≤ m
        · rw [decide_eq_true q, decide_eq_false (by omega)]; rfl
        · rw [decide_eq_false q, decide_eq_true (by omega)]; rfl
      rw [e5]
      cases e4 : decide (((itemsO o).length : Int) ≤ m) with
      | false =>
        have t : Q (.bl false) (upd H tp (.tup [.ty "list", .ty "tuple"])) := by simpa [namesO, e, e4] using k _ s0
        exact iteT t
      | true =>
        refine iteF ?_
        refine rd_none (i := 0) (j := 2) (fun d => !nameD d) rfl (seq2_mono s0 hS) (dpAll_mono s0 hda) (by omega) (fun d hd => (hf.2.2 d hd).2) (fun _ => rfl) (fun _ => rfl) ?_ ?_
        · intro y d H1 Q1 hd hdp s1 q1
          exact ⟨_, rfl, y, some d, rfl, .dat hdp, (hf.2.2 d hd).1, fun H2 s2 => ⟨_, rfl, q1 H2 s2⟩⟩
        · intro H1 s1
          have := k H1 (s0.trans s1)
          simpa [namesO, e, e4] using this
def spLAddr (K : PySem.W.Frag) (C : Addr) : Sp := fun vs H Q _ => ∃ x o, vs = [x] ∧ Th K H C x o ∧ FitO o ∧ (isT o "tuple" = true → (itemsO o).length ≤ 15) ∧ ∀ H', Same H H' → Q (.bl (addrO o)) H'
theorem ok_lAddr {f fI : Addr} {fd fdI : FuncData} (F : Fun K "_law_is_address" "_law_is_address" sLAddr f fd) (N : Isi mg) (c : PrC K C)
    (G : FnOk P w K mg base CX0 1 fI fdI ["_law_thing"] (spIsInt K C)) (gm : mg "_law_is_integer" = some (.ref fI)) (gk : PySem.W.keepIn K (.ref fI) = true) (gb : Binds K fdI ["_law_thing"] []) :
    FnOk P w K mg base CX0 2 f fd ["_law_thing"] (spLAddr K C) := by
  refine F.ok scLAddr (fun vs H Q E h => ?_) (fun cdv A outer s H vs Q E hr h => ?_)
  · obtain ⟨x, o, rfl, _⟩ := h
    rfl
  · obtain ⟨x, o, rfl, ht, hf, h15, k⟩ := h
    refine ⟨_, pss_cons (ps_if (PW.pt (pw_or (pt_not (pt_val (pe_isTh (T := "tuple") c N (pv 0) rfl rfl N.tuple (by decide +kernel))))
        (pw_or1 (pt_cmpR op_notIn_seq (pe_callB call_len rfl N.len PySem.boot_len (pa_cons (pv 0) pa_nil)) (pe_tup (pa_cons pe_int (pa_cons pe_int (pa_cons pe_int (pa_cons pe_int (pa_cons pe_int (pa_cons pe_int (pa_cons pe_int (pa_cons pe_int pa_nil))))))))) (by rfl))))) (pss_one (ps_ret pe_bl)) pss_nil)
      (pss_one (ps_ret (pe_cmpR (op_eqD hr.units) (pe_lc (own := [("_law_part", 1)]) (g := gName 1) rfl scLAddr.nd (PI_or (pi_list (pv 0)) (pi_tup (pv 0)))
        (blkOk_by (N := ["_law_thing", "_law_part"]) (sc := defScope sLAddr) (by decide +kernel)) (fun _ _ _ _ _ => pg_name (i := 1) scLAddr.nd rfl (Or.inl rfl))
        (fun _ _ _ _ _ => pts_one (PW.pt (pw_or (pt_not (pt_val (pe_call G hr rfl gm gk gb .nil pass0 (pa_cons (pv 1) pa_nil)))) (pw_or1 (pt_cmpR op_lt (pv 1) pe_int (nomark _))))))
        (fun _ _ _ _ _ => pv 1)) (pe_lst pa_nil) (nomark _)))), ?_⟩
    refine ⟨_, rfl, _, o, _, rfl, ht, by decide, _, rfl, ?_⟩
    cases e : isT o "tuple" with
    | false =>
      have e2 : addrO o = false := addrO_no (by rw [e]; decide)
      rw [e2] at k
      exact iteT (iteT (k H (Same.refl H)))
    | true =>
      refine iteF ?_
      have h15' := h15 e
      obtain ⟨ds, rfl⟩ := isT_tup e
      obtain ⟨a, xs, rfl, hT, hda⟩ := th_tup ht
      have hl := dpAll_len hda
      have hf2 : ds.length ≤ 20000 := hf.2.1
      have h16 : ds.length ≤ 15 := h15'
      refine ⟨_, rfl, _, _, rfl, Or.inr ⟨_, hT, rfl⟩, (by show 8 ≤ sizeLine; decide), fun p hp => ?_⟩
      have s0 := same_upd (o := .tup [.int 1, .int 3, .int 5, .int 7, .int 9, .int 11, .int 13, .int 15]) hp
      refine ⟨p, _, rfl, Or.inr (SqT.of upd_same), rfl, rfl, _, rfl, ?_⟩
      have e3 : inV (.int (xs.length : Nat)) [.int 1, .int 3, .int 5, .int 7, .int 9, .int 11, .int 13, .int 15] = decide (ds.length % 2 = 1) := by
        rw [hl]
        have h17 : ∀ n : Nat, n ≤ 15 → inV (.int (n : Nat)) [.int 1, .int 3, .int 5, .int 7, .int 9, .int 11, .int 13, .int 15] = decide (n % 2 = 1) := by decide
        exact h17 _ h16
      show (if (!inV (.int (xs.length : Nat)) [.int 1, .int 3, .int 5, .int 7, .int 9, .int 11, .int 13, .int 15]) = true then _ else _)
      rw [e3]
      cases e4 : decide (ds.length % 2 = 1) with
      | false =>
        have t : Q (.bl false) (upd H p (.tup [.int 1, .int 3, .int 5, .int 7, .int 9, .int 11, .int 13, .int 15])) := by simpa [addrO, e4] using k _ s0
        exact iteT t
      | true =>
        refine iteF ?_
        refine rd_none (i := 0) (j := 1) (fun d => !natI d) rfl (seq2_mono s0 (.inr hT)) (dpAll_mono s0 hda) (by omega) (fun d hd => (hf.2.2 d hd).2) (fun _ => rfl) (fun _ => rfl) ?_ ?_
        · intro y d H1 Q1 hd hdp s1 q1
          refine ⟨_, rfl, y, some d, rfl, .dat hdp, ⟨_, rfl, ?_⟩⟩
          cases d with
          | int i =>
            cases hdp
            refine iteF ⟨_, rfl, _, _, rfl, rfl, _, rfl, ?_⟩
            have e9 : decide (i < 0) = !natI (.int i) := by
              have en : natI (.int i) = decide (0 ≤ i) := rfl
              rw [en]
              by_cases q : 0 ≤ i
              · rw [decide_eq_true q, decide_eq_false (by omega)]; rfl
              · rw [decide_eq_false q, decide_eq_true (by omega)]; rfl
            rw [e9]
            exact q1 H1 (Same.refl H1)
          | none => exact iteT (q1 H1 (Same.refl H1))
          | bool _ => exact iteT (q1 H1 (Same.refl H1))
          | str _ => exact iteT (q1 H1 (Same.refl H1))
          | list _ => exact iteT (q1 H1 (Same.refl H1))
          | tuple _ => exact iteT (q1 H1 (Same.refl H1))
          | dict _ => exact iteT (q1 H1 (Same.refl H1))
        · intro H1 s1
          have := k H1 (s0.trans s1)
          simpa [addrO, e4] using this
theorem ok_lChoices {f : Addr} {fd : FuncData} (F : Fun K "_law_are_choices" "_law_are_choices" sLChoices f fd) (N : Isi mg) (c : PrC K C) :
    FnOk P w K mg base CX0 1 f fd ["_law_thing"] (spAreChoices K C) := by
  refine F.ok scLChoices (fun vs H Q E h => ?_) (fun cdv A outer s H vs Q E hr h => ?_)
  · obtain ⟨x, o, rfl, _⟩ := h
    rfl
  · obtain ⟨x, o, rfl, ht, hf, k⟩ := h
    refine ⟨_, pss_cons (ps_if (pt_not (pt_val (pe_isLT c N (pv 0) rfl rfl rfl))) (pss_one (ps_ret pe_bl)) pss_nil)
      (pss_one (ps_ret (pe_cmpR (op_eqD hr.units) (pe_lc (own := [("_law_word", 1)]) (g := gName 1) rfl scLChoices.nd (PI_or (pi_list (pv 0)) (pi_tup (pv 0)))
        (blkOk_by (N := ["_law_thing", "_law_word"]) (sc := defScope sLChoices) (by decide +kernel)) (fun _ _ _ _ _ => pg_name (i := 1) scLChoices.nd rfl (Or.inl rfl))
        (fun _ _ _ _ _ => pts_one (PW.pt (pw_or (pt_not (pt_val (pe_isTh (T := "str") c N (pv 1) rfl rfl N.str (by decide +kernel)))) (pw_or1 (pt_cmpR (r := rIn K true) op_notIn_seq (pv 1) (pe_tup (pa_cons pe_str (pa_cons pe_str (pa_cons pe_str (pa_cons pe_str pa_nil))))) (by rfl))))))
        (fun _ _ _ _ _ => pv 1)) (pe_lst pa_nil) (nomark _)))), ?_⟩
    refine ⟨_, rfl, (by show 2 ≤ sizeLine; decide), fun tp htp => ⟨_, o, tp, rfl, upd_same, th_mono (same_upd htp) ht, _, rfl, ?_⟩⟩
    have s0 := same_upd (o := .tup [.ty "list", .ty "tuple"]) htp
    cases e : seqO o with
    | false =>
      have e' : (isT o "list" || isT o "tuple") = false := e
      rw [e']
      have t : Q (.bl false) (upd H tp (.tup [.ty "list", .ty "tuple"])) := by simpa [choicesO, e] using k _ s0
      exact iteT t
    | true =>
      have e' : (isT o "list" || isT o "tuple") = true := e
      rw [e']
      refine iteF ?_
      obtain ⟨a, xs, rfl, hS, hda⟩ := th_seq ht e
      have hl := dpAll_len hda
      have hf2 := hf.2.1
      refine rd_none (i := 0) (j := 1) (fun d => !wordD d) rfl (seq2_mono s0 hS) (dpAll_mono s0 hda) (by omega) (fun d hd => (hf.2.2 d hd).2) (fun _ => rfl) (fun _ => rfl) ?_ ?_
      · intro y d H1 Q1 hd hdp s1 q1
        refine ⟨_, rfl, y, some d, _, rfl, .dat hdp, by decide, _, rfl, ?_⟩
        cases d with
        | str z =>
          cases hdp
          refine iteF ⟨_, rfl, (by show 4 ≤ sizeLine; decide), fun p hp => ⟨p, _, rfl, Or.inr (SqT.of upd_same), rfl, rfl, _, rfl, ?_⟩⟩
          show Q1 (!inV (.str z) [.str "yes", .str "no", .str "round", .str "out"]) _
          rw [wordD_in]
          exact q1 _ (same_upd hp)
        | none => exact iteT (q1 H1 (Same.refl H1))
        | bool _ => exact iteT (q1 H1 (Same.refl H1))
        | int _ => exact iteT (q1 H1 (Same.refl H1))
        | list _ => exact iteT (q1 H1 (Same.refl H1))
        | tuple _ => exact iteT (q1 H1 (Same.refl H1))
        | dict _ => exact iteT (q1 H1 (Same.refl H1))
      · intro H1 s1
        have := k H1 (s0.trans s1)
        simpa [choicesO, e] using this
end
end My

set_option Elab.async false
set_option linter.all false
set_option maxRecDepth 100000
set_option maxHeartbeats 4000000
namespace My
open PySem PySem.Spec PyProof.Rows L2
section
variable {X : Cx}
theorem pe_never {e : Expr} : PE X e (fun _ _ _ => False) := ⟨fun _ _ _ _ _ _ h => h.elim⟩
theorem pi_never {tg e : Expr} : PI X tg e (fun _ _ _ => False) := ⟨fun _ _ _ _ _ _ h => h.elim⟩
theorem pg_never {tg : Expr} : PG X tg (fun _ _ _ _ => False) := ⟨fun _ _ _ _ _ _ _ _ _ h => h.elim⟩
theorem pts_never {es : List Expr} : PTs X es (fun _ _ _ => False) := ⟨fun _ _ _ _ _ _ h => h.elim⟩
end
abbrev nvE : TE := fun _ _ _ => False
/-- the built-ins that the program's own texts call -/
structure Nat2 (mg : Str → Option Value) : Prop where
  set : mg "set" = none
  sum : mg "sum" = none
  max : mg "max" = none
  sorted : mg "sorted" = none
  enumerate : mg "enumerate" = none
abbrev sAreRows : Stmt := topS 27
abbrev sCount : Stmt := topS 34
abbrev sDepth : Stmt := topS 35
abbrev sListsAt : Stmt := topS 48
theorem scAreRows : FnScope ["thing", "row"] ["thing"] (defScope sAreRows) := ⟨rfl, rfl, rfl, by decide +kernel, rfl, by decide +kernel, by decide +kernel⟩
theorem scCount : FnScope ["rows", "inner", "row", "part"] ["rows"] (defScope sCount) := ⟨rfl, rfl, rfl, by decide +kernel, rfl, by decide +kernel, by decide +kernel⟩
theorem scDepth : FnScope ["rows", "row", "part"] ["rows"] (defScope sDepth) := ⟨rfl, rfl, rfl, by decide +kernel, rfl, by decide +kernel, by decide +kernel⟩
theorem scListsAt : FnScope ["rows", "road", "found", "index", "row", "number", "part"] ["rows", "road"] (defScope sListsAt) := ⟨rfl, rfl, rfl, by decide +kernel, rfl, by decide +kernel, by decide +kernel⟩
/-- asked of an empty list -/
def spNilL (K : PySem.W.Frag) (v : V) : Sp := fun vs H Q _ => ∃ a, vs = [.ref a] ∧ H a = some (.lst []) ∧ ∀ H', Same H H' → Q v H'
section
variable {P : Program} {w : World} {K : PySem.W.Frag} {mg : Str → Option Value} {base : Heap} {C : Addr}
theorem ok_areRows {f : Addr} {fd : FuncData} (F : Fun K "are_rows" "are_rows" sAreRows f fd) (N : Isi mg) (c : PrC K C) :
    FnOk P w K mg base CX0 1 f fd ["thing"] (spNilL K (.bl true)) := by
  refine F.ok scAreRows (fun vs H Q E h => ?_) (fun cdv A outer s H vs Q E hr h => ?_)
  · obtain ⟨a, rfl, _⟩ := h
    rfl
  · obtain ⟨a, rfl, ha, k⟩ := h
    refine ⟨_, pss_one (ps_ret (pe_and (pe_isLT c N (pv 0) rfl rfl rfl)
      (pe_one (pe_callB (cr_all rfl) rfl N.all (by decide +kernel) (pa_cons (pe_lc (own := [("row", 1)]) (g := gName 1) (tt := tYes) rfl scAreRows.nd (PI_or (pi_list (pv 0)) (pi_tup (pv 0)))
        (blkOk_by (N := ["thing", "row"]) (sc := defScope sAreRows) (by decide +kernel)) (fun _ _ _ _ _ => pg_name (i := 1) scAreRows.nd rfl (Or.inl rfl)) (fun _ _ _ _ _ => pts_nil)
        (fun _ _ _ _ _ => pe_never)) pa_nil))))), ?_⟩
    have ht : Th K H C (.ref a) (some (.list [])) := .dat (.lst (SqL.of ha) .nil)
    refine ⟨_, rfl, (by show 2 ≤ sizeLine; decide), fun tp htp => ⟨_, _, tp, rfl, upd_same, th_mono (same_upd htp) ht, _, rfl, ?_⟩⟩
    have s0 := same_upd (o := .tup [.ty "list", .ty "tuple"]) htp
    refine iteT ?_
    refine rd_all (i := 0) (j := 1) (a := a) (xs := []) (ds := []) (fun _ => true) rfl (.inl (SqL.of (s0 _ _ ha))) .nil (by decide) (fun _ => rfl) ?_ ?_
    · intro y d H1 Q1 hd
      cases hd
    · intro H1 s1
      exact k H1 (s0.trans s1)
theorem ok_count {f : Addr} {fd : FuncData} (F : Fun K "count" "count" sCount f fd) (N : Isi mg) (M : Nat2 mg) :
    FnOk P w K mg base CX0 1 f fd ["rows"] (spNilL K (.int 0)) := by
  refine F.ok scCount (fun vs H Q E h => ?_) (fun cdv A outer s H vs Q E hr h => ?_)
  · obtain ⟨a, rfl, _⟩ := h
    rfl
  · obtain ⟨a, rfl, ha, k⟩ := h
    refine ⟨_, pss_cons (ps_setLc2 (i := 1) (own := [("row", 2), ("part", 3)]) (vs1 := [3]) (g := gName 2) (tt := tYes) rfl scCount.nd rfl rfl (sw_true rfl rfl rfl (by decide +kernel)) (pi_list (pv 0))
        (blkOk_by (N := ["rows", "inner", "row", "part"]) (sc := defScope sCount) (by decide +kernel)) (by decide) (fun _ _ _ _ _ => pg_name (i := 2) scCount.nd rfl (Or.inl rfl)) (fun _ _ _ _ _ => pts_nil)
        (fun _ _ _ _ _ => pi_never) (fun _ _ _ _ _ => pg_never) (fun _ _ _ _ _ => pts_never) (fun _ _ _ _ _ => pe_never))
      (pss_one (ps_ret (pe_op op_add (pe_callB call_len rfl N.len PySem.boot_len (pa_cons (pv 0) pa_nil)) (pe_callB (cr_sum rfl) rfl M.sum (by decide +kernel) (pa_cons (pv 1) pa_nil))))), ?_⟩
    refine ⟨_, rfl, a, rfl, ⟨[], SqL.of ha⟩, fun D hD => ⟨fun i m H' => i = 0 ∧ H' = upd H D (.lst []), ⟨0, rfl, rfl⟩, ?_⟩⟩
    rintro i m H' ⟨rfl, rfl⟩
    have s1 := same_upd (o := .lst []) hD
    refine .inl ⟨⟨[], SqL.of (s1 _ _ ha), Nat.le_refl _⟩, ?_⟩
    refine ⟨_, rfl, _, 0, rfl, Or.inl ⟨[], SqL.of (s1 _ _ ha), rfl⟩, _, rfl, D, [], rfl, SqL.of upd_same, _, _, rfl, rfl, ?_⟩
    exact k _ s1
theorem ok_depth {f : Addr} {fd : FuncData} (F : Fun K "depth" "depth" sDepth f fd) (M : Nat2 mg) :
    FnOk P w K mg base CX0 1 f fd ["rows"] (spNilL K (.int 1)) := by
  refine F.ok scDepth (fun vs H Q E h => ?_) (fun cdv A outer s H vs Q E hr h => ?_)
  · obtain ⟨a, rfl, _⟩ := h
    rfl
  · obtain ⟨a, rfl, ha, k⟩ := h
    refine ⟨_, pss_one (ps_ret (pe_op op_add pe_int (pe_callBK (call_maxD0 rfl) rfl M.max (by decide +kernel) (pa_cons (pe_lc2 (own := [("row", 1), ("part", 2)]) (vs1 := [2]) (g := gName 1) (tt := tYes) rfl scDepth.nd (pi_list (pv 0))
        (blkOk_by (N := ["rows", "row", "part"]) (sc := defScope sDepth) (by decide +kernel)) (by decide) (fun _ _ _ _ _ => pg_name (i := 1) scDepth.nd rfl (Or.inl rfl)) (fun _ _ _ _ _ => pts_nil)
        (fun _ _ _ _ _ => pi_never) (fun _ _ _ _ _ => pg_never) (fun _ _ _ _ _ => pts_never) (fun _ _ _ _ _ => pe_never)) pa_nil) (pk_cons pe_int pk_nil)))), ?_⟩
    refine ⟨_, rfl, a, rfl, ⟨[], SqL.of ha⟩, fun D hD => ⟨fun i m H' => i = 0 ∧ H' = upd H D (.lst []), ⟨0, rfl, rfl⟩, ?_⟩⟩
    rintro i m H' ⟨rfl, rfl⟩
    have s1 := same_upd (o := .lst []) hD
    refine .inl ⟨⟨[], SqL.of (s1 _ _ ha), Nat.le_refl _⟩, ?_⟩
    exact ⟨D, _, rfl, rfl, SqL.of upd_same, _, _, rfl, rfl, k _ s1⟩
end
/-- a tuple of nothing at a, tracked -/
abbrev sTable : Stmt := topS 49
abbrev sNote : Stmt := topS 50
abbrev sLeaves : Stmt := topS 51
abbrev sMakers : Stmt := topS 52
abbrev sAsKeys : Stmt := topS 53
abbrev sSights : Stmt := topS 55
def spListsAt (K : PySem.W.Frag) : Sp := fun vs H Q _ => ∃ t r, vs = [.ref t, .ref r] ∧ H t = some (.tup []) ∧ H r = some (.tup []) ∧
  ∀ L p H', Same H H' → H L = none → H' L = some (.lst [.ref p]) → H' p = some (.tup [.ref r, .ref t]) → Q (.ref L) H'
theorem scTable : FnScope ["rows", "table", "road", "part", "index", "row", "address"] ["rows"] (defScope sTable) := ⟨rfl, rfl, rfl, by decide +kernel, rfl, by decide +kernel, by decide +kernel⟩
theorem scNote : FnScope ["rows", "road", "seen", "sights", "index", "row", "here", "inner", "number", "part", "end"] ["rows", "road", "seen", "sights"] (defScope sNote) := ⟨rfl, rfl, rfl, by decide +kernel, rfl, by decide +kernel, by decide +kernel⟩
theorem scLeaves : FnScope ["rows", "wrong", "road", "part", "index", "row"] ["rows"] (defScope sLeaves) := ⟨rfl, rfl, rfl, by decide +kernel, rfl, by decide +kernel, by decide +kernel⟩
theorem scMakers : FnScope ["inputs", "table", "known", "twice", "row", "name"] ["inputs", "table"] (defScope sMakers) := ⟨rfl, rfl, rfl, by decide +kernel, rfl, by decide +kernel, by decide +kernel⟩
theorem scAsKeys : FnScope ["names", "name"] ["names"] (defScope sAsKeys) := ⟨rfl, rfl, rfl, by decide +kernel, rfl, by decide +kernel, by decide +kernel⟩
theorem scSights : FnScope ["table", "sights", "address", "name"] ["table", "sights"] (defScope sSights) := ⟨rfl, rfl, rfl, by decide +kernel, rfl, by decide +kernel, by decide +kernel⟩
/-- what asks nothing of its arguments' insides but one empty dict -/
def spNilT (K : PySem.W.Frag) : Sp := fun vs H Q _ => ∃ t, vs = [.ref t] ∧ H t = some (.tup []) ∧ ∀ H', Same H H' → Q .non H'
section
variable {P : Program} {w : World} {K : PySem.W.Frag} {mg : Str → Option Value} {base : Heap} {C : Addr}
theorem ok_listsAt {f : Addr} {fd : FuncData} (F : Fun K "_lists_at" "_lists_at" sListsAt f fd) (M : Nat2 mg) :
    FnOk P w K mg base CX0 1 f fd ["rows", "road"] (spListsAt K) := by
  refine F.ok scListsAt (fun vs H Q E h => ?_) (fun cdv A outer s H vs Q E hr h => ?_)
  · obtain ⟨t, r, rfl, _⟩ := h
    rfl
  · obtain ⟨t, r, rfl, ht, hr', k⟩ := h
    refine ⟨_, pss_cons (ps_set (i := 2) scListsAt.nd rfl (Or.inl rfl) (pe_lst (pa_cons (pe_tup (pa_cons (pv 1) (pa_cons (pv 0) pa_nil))) pa_nil)))
      (pss_cons (ps_for PassesOwn.never rfl (pi_enumT rfl M.enumerate (pa_cons (pv 0) pa_nil)) pg_never pss_never)
      (pss_one (ps_ret (pv 2)))), ?_⟩
    refine ⟨_, rfl, _, rfl, (by show 2 ≤ sizeLine; decide), fun p hp => ⟨(by show 1 ≤ sizeLine; decide), fun L hL => ?_⟩⟩
    have nLp : p ≠ L := fun z => by rw [← z, upd_same] at hL; cases hL
    have hL0 : H L = none := by rw [upd_ne (Ne.symm nLp)] at hL; exact hL
    have s1 := same_upd (o := .tup [.ref r, .ref t]) hp
    have s2 : Same H (upd (upd H p (.tup [.ref r, .ref t])) L (.lst [.ref p])) := same_upd2 s1 hL0
    refine ⟨_, rfl, t, [], rfl, SqT.of (s2 _ _ ht), ⟨fun i m σ' H' => i = 0 ∧ σ' = [some (.ref t), some (.ref r), some (.ref L), none, none, none, none] ∧ H' = upd (upd H p (.tup [.ref r, .ref t])) L (.lst [.ref p]), ⟨0, rfl, rfl, rfl⟩, ?_⟩⟩
    rintro i m σ' H' ⟨rfl, rfl, rfl⟩
    refine .inl ⟨⟨[], SqT.of (s2 _ _ ht), Nat.le_refl _⟩, _, rfl, ?_⟩
    exact k L p _ s2 hL0 upd_same (by rw [upd_ne nLp, upd_same])
theorem ok_asKeys {f : Addr} {fd : FuncData} (F : Fun K "_as_keys" "_as_keys" sAsKeys f fd) :
    FnOk P w K mg base CX0 1 f fd ["names"] (fun vs H Q _ => ∃ t, vs = [.ref t] ∧ H t = some (.tup []) ∧ ∀ D H', Same H H' → H D = none → H' D = some (.dK []) → Q (.ref D) H') := by
  refine F.ok scAsKeys (fun vs H Q E h => ?_) (fun cdv A outer s H vs Q E hr h => ?_)
  · obtain ⟨t, rfl, _⟩ := h
    rfl
  · obtain ⟨t, rfl, ht, k⟩ := h
    refine ⟨_, pss_one (ps_ret (pe_dc (own := [("name", 1)]) (g := gName 1) (tt := tYes) rfl scAsKeys.nd (pi_tup (pv 0))
        (blkOk_by (N := ["names", "name"]) (sc := defScope sAsKeys) (by decide +kernel)) (fun _ _ _ _ _ => pg_name (i := 1) scAsKeys.nd rfl (Or.inl rfl)) (fun _ _ _ _ _ => pts_nil)
        (fun _ _ _ _ _ => pv 1) (fun _ _ _ _ _ => pe_bl))), ?_⟩
    refine ⟨_, rfl, t, rfl, ⟨[], SqT.of ht⟩, fun D hD => ⟨fun i m H' => i = 0 ∧ H' = upd H D (.dK []), ⟨0, rfl, rfl⟩, ?_⟩⟩
    rintro i m H' ⟨rfl, rfl⟩
    have s1 := same_upd (o := .dK []) hD
    exact .inl ⟨⟨[], SqT.of (s1 _ _ ht), Nat.le_refl _⟩, k D _ s1 hD upd_same⟩
theorem ok_table {f fL : Addr} {fd fdL : FuncData} (F : Fun K "_table_of" "_table_of" sTable f fd) (M : Nat2 mg)
    (G : FnOk P w K mg base CX0 1 fL fdL ["rows", "road"] (spListsAt K)) (gm : mg "_lists_at" = some (.ref fL)) (gk : PySem.W.keepIn K (.ref fL) = true) (gb : Binds K fdL ["rows", "road"] []) :
    FnOk P w K mg base CX0 2 f fd ["rows"] (fun vs H Q _ => ∃ t, vs = [.ref t] ∧ H t = some (.tup []) ∧ ∀ D H', Same H H' → H D = none → H' D = some (.dK []) → Q (.ref D) H') := by
  refine F.ok scTable (fun vs H Q E h => ?_) (fun cdv A outer s H vs Q E hr h => ?_)
  · obtain ⟨t, rfl, _⟩ := h
    rfl
  · obtain ⟨t, rfl, ht, k⟩ := h
    refine ⟨_, pss_cons (ps_set (i := 1) scTable.nd rfl (Or.inr rfl) pe_dnewK)
      (pss_cons (ps_for PassesOwn.never rfl (pi_list (pe_call G hr rfl gm gk gb .nil pass0 (pa_cons (pv 0) (pa_cons (pe_tup pa_nil) pa_nil))))
          (pg_tup rfl (pgs_cons (pg_name (i := 2) scTable.nd rfl (Or.inl rfl)) (pgs_cons (pg_name (i := 3) scTable.nd rfl (Or.inl rfl)) pgs_nil)))
        (pss_one (ps_for PassesOwn.never rfl (pi_enumT rfl M.enumerate (pa_cons (pv 3) pa_nil)) pg_never pss_never)))
      (pss_one (ps_ret (pe_dc (own := [("address", 6)]) (g := gName 6) (tt := tYes) rfl scTable.nd (pi_list (pe_callB (call_sortedD rfl) rfl M.sorted (by decide +kernel) (pa_cons (pv 1) pa_nil)))
        (blkOk_by (N := ["rows", "table", "road", "part", "index", "row", "address"]) (sc := defScope sTable) (by decide +kernel)) (fun _ _ _ _ _ => pg_name (i := 6) scTable.nd rfl (Or.inl rfl)) (fun _ _ _ _ _ => pts_nil)
        (fun _ _ _ _ _ => pe_never) (fun _ _ _ _ _ => pe_never))))), ?_⟩
    intro T hT
    have s1 := same_upd (o := .dK []) hT
    refine ⟨_, rfl, (by show 0 ≤ sizeLine; decide), fun r hr1 => ⟨t, r, rfl, ?_, upd_same, fun L p H2 s2 hL e2 e3 => ?_⟩⟩
    · exact same_upd hr1 _ _ (s1 _ _ ht)
    have s12 : Same H H2 := fun b o e => s2 b o (same_upd hr1 _ _ (s1 b o e))
    have eT : H2 T = some (.dK []) := s2 T _ (same_upd hr1 _ _ upd_same)
    have et : H2 t = some (.tup []) := s12 _ _ ht
    refine ⟨L, rfl, ⟨_, SqL.of e2⟩, for_list (K := K) (a := L) (xs := [.ref p]) (fun i σ H' => ∃ a b, σ = [some (.ref t), some (.ref T), a, b, none, none, none] ∧ H2 = H') ⟨none, none, rfl, rfl⟩ (fun i σ H' _ ⟨_, _, _, z⟩ => by rw [← z]; exact SqL.of e2) ?_ ?_⟩
    · rintro i x σ H' hx ⟨a, b, rfl, rfl⟩
      have hi : i = 0 := by
        have := (List.getElem?_eq_some_iff.mp hx).1
        simpa using this
      subst hi
      obtain rfl := Option.some.inj hx
      refine ⟨p, [.ref r, .ref t], rfl, SqT.of e3, rfl, .ref r, _, rfl, .ref t, _, rfl, rfl, ?_⟩
      refine ⟨_, rfl, t, [], rfl, SqT.of et, ⟨fun j m σ' H' => j = 0 ∧ σ' = [some (.ref t), some (.ref T), some (.ref r), some (.ref t), none, none, none] ∧ H2 = H', ⟨0, rfl, rfl, rfl⟩, ?_⟩⟩
      rintro j m σ' H'' ⟨rfl, rfl, rfl⟩
      exact .inl ⟨⟨[], SqT.of et, Nat.le_refl _⟩, _, _, rfl, rfl⟩
    · rintro σ H' ⟨a, b, rfl, rfl⟩
      refine ⟨_, rfl, T, [], [], rfl, Or.inl eT, rfl, by decide, fun ys q hy _ hq => ?_⟩
      have hy0 : ys = [] := List.length_eq_zero_iff.mp hy.length_eq
      subst hy0
      refine ⟨q, rfl, ⟨[], SqL.of upd_same⟩, fun D hD => ⟨fun i m H3 => i = 0 ∧ H3 = upd (upd H2 q (.lst [])) D (.dK []), ⟨0, rfl, rfl⟩, ?_⟩⟩
      rintro i m H3 ⟨rfl, rfl⟩
      have sq : Same H (upd H2 q (.lst (List.map V.str []))) := fun b o e => same_upd hq _ _ (s12 b o e)
      have nqD : q ≠ D := fun z => by rw [← z, upd_same] at hD; cases hD
      exact .inl ⟨⟨[], SqL.of (by rw [upd_ne nqD, upd_same]), Nat.le_refl _⟩, k D _ (same_upd2 sq (sq.free hD)) (sq.free hD) upd_same⟩
theorem ok_leaves {f fL : Addr} {fd fdL : FuncData} (F : Fun K "_check_leaves" "_check_leaves" sLeaves f fd) (N : Isi mg) (M : Nat2 mg)
    (G : FnOk P w K mg base CX0 1 fL fdL ["rows", "road"] (spListsAt K)) (gm : mg "_lists_at" = some (.ref fL)) (gk : PySem.W.keepIn K (.ref fL) = true) (gb : Binds K fdL ["rows", "road"] []) :
    FnOk P w K mg base CX0 2 f fd ["rows"] (spNilT K) := by
  refine F.ok scLeaves (fun vs H Q E h => ?_) (fun cdv A outer s H vs Q E hr h => ?_)
  · obtain ⟨t, rfl, _⟩ := h
    rfl
  · obtain ⟨t, rfl, ht, k⟩ := h
    refine ⟨_, pss_cons (ps_setLc2 (i := 1) (own := [("road", 2), ("part", 3), ("index", 4), ("row", 5)]) (vs1 := [4, 5]) (g := gTup K 2 (gCons (gName 2) (gCons (gName 3) gNil))) (tt := tYes)
        (wi1 := iEnumT K (tCons (tSl (rSlA K) (tVar 3) tNoPart (tPart (tUn (rU fun i => .int (-i)) (tC (.int 1))))) tNil)) rfl scLeaves.nd rfl rfl (sw_true rfl rfl rfl (by decide +kernel))
        (pi_list (pe_call G hr rfl gm gk gb .nil pass0 (pa_cons (pv 0) (pa_cons (pe_tup pa_nil) pa_nil))))
        (blkOk_by (N := ["rows", "wrong", "road", "part", "index", "row"]) (sc := defScope sLeaves) (by decide +kernel)) (by decide)
        (fun _ _ _ _ _ => pg_tup rfl (pgs_cons (pg_name (i := 2) scLeaves.nd rfl (Or.inl rfl)) (pgs_cons (pg_name (i := 3) scLeaves.nd rfl (Or.inl rfl)) pgs_nil))) (fun _ _ _ _ _ => pts_nil)
        (fun _ _ _ _ _ => pi_enumT rfl M.enumerate (pa_cons (pe_slice sl_tupA (pv 3) po_none (po_some (pe_un un_neg pe_int))) pa_nil))
        (fun _ _ _ _ _ => pg_never) (fun _ _ _ _ _ => pts_never) (fun _ _ _ _ _ => pe_never))
      (pss_one (ps_if (pt_cmpR op_gt (pe_callB call_len rfl N.len PySem.boot_len (pa_cons (pv 1) pa_nil)) pe_int (nomark _)) (pss_one ps_never) pss_nil)), ?_⟩
    refine ⟨_, rfl, (by show 0 ≤ sizeLine; decide), fun r hr1 => ⟨t, r, rfl, same_upd hr1 _ _ ht, upd_same, fun L p H2 s2 hL e2 e3 => ?_⟩⟩
    have s12 : Same H H2 := fun b o e => s2 b o (same_upd hr1 _ _ e)
    refine ⟨L, rfl, ⟨_, SqL.of e2⟩, fun D hD => ?_⟩
    have sD := same_upd (o := .lst []) hD
    have s1D : Same H (upd H2 D (.lst [])) := s12.trans sD
    refine ⟨fun i m H' => i + m = 1 ∧ upd H2 D (.lst []) = H', ⟨1, rfl, rfl⟩, ?_⟩
    rintro i m H' ⟨him, rfl⟩
    by_cases hi : i = 0
    · subst hi
      refine .inr ⟨⟨_, _, SqL.of (sD _ _ e2), rfl⟩, fun H' => upd H2 D (.lst []) = H', fun H' e => ⟨0, by omega, rfl, e⟩, ?_⟩
      rintro x H' ⟨rfl, hx⟩
      have ex := hx _ (SqL.of (sD _ _ e2))
      obtain rfl : V.ref p = x := Option.some.inj ex
      refine ⟨p, [.ref r, .ref t], rfl, SqT.of (sD _ _ e3), rfl, .ref r, _, rfl, .ref t, _, rfl, rfl, rfl, ?_⟩
      simp only [tYes, ↓reduceIte]
      have et := s1D _ _ ht
      refine ⟨_, rfl, _, rfl, -1, rfl, t, [], rfl, SqT.of et, fun _ => ?_, fun z => absurd ⟨rfl, rfl⟩ z⟩
      refine ⟨t, [], rfl, SqT.of et, fun j k H' => j = 0 ∧ upd H2 D (.lst []) = H', ⟨0, rfl, rfl⟩, ?_⟩
      rintro j k2 H' ⟨rfl, rfl⟩
      exact .inl ⟨⟨[], SqT.of et, Nat.le_refl _⟩, rfl⟩
    · have hi1 : i = 1 := by omega
      subst hi1
      refine .inl ⟨⟨_, SqL.of (sD _ _ e2), Nat.le_refl _⟩, ?_⟩
      refine ⟨_, rfl, _, 0, rfl, Or.inl ⟨[], SqL.of upd_same, rfl⟩, _, _, rfl, rfl, _, rfl, ?_⟩
      refine iteF ?_
      exact k _ s1D
theorem ok_makers {f fA : Addr} {fd fdA : FuncData} (F : Fun K "_check_makers" "_check_makers" sMakers f fd) (N : Isi mg)
    (G : FnOk P w K mg base CX0 1 fA fdA ["names"] (fun vs H Q _ => ∃ t, vs = [.ref t] ∧ H t = some (.tup []) ∧ ∀ D H', Same H H' → H D = none → H' D = some (.dK []) → Q (.ref D) H'))
    (gm : mg "_as_keys" = some (.ref fA)) (gk : PySem.W.keepIn K (.ref fA) = true) (gb : Binds K fdA ["names"] []) :
    FnOk P w K mg base CX0 2 f fd ["inputs", "table"] (fun vs H Q _ => ∃ t d, vs = [.ref t, .ref d] ∧ H t = some (.tup []) ∧ H d = some (.dK []) ∧ ∀ H', Same H H' → Q .non H') := by
  refine F.ok scMakers (fun vs H Q E h => ?_) (fun cdv A outer s H vs Q E hr h => ?_)
  · obtain ⟨t, d, rfl, _⟩ := h
    rfl
  · obtain ⟨t, d, rfl, ht, hd, k⟩ := h
    refine ⟨_, pss_cons (ps_set (i := 2) scMakers.nd rfl (Or.inl rfl) (pe_call G hr rfl gm gk gb .nil pass0 (pa_cons (pv 0) pa_nil)))
      (pss_cons (ps_set (i := 3) scMakers.nd rfl (Or.inl rfl) (pe_lst pa_nil))
      (pss_cons (ps_lock (ps_for PassesOwn.never rfl (pi_values (pv 1)) pg_never pss_never))
      (pss_one (ps_if (pt_cmpR op_gt (pe_callB call_len rfl N.len PySem.boot_len (pa_cons (pv 3) pa_nil)) pe_int (nomark _)) (pss_one ps_never) pss_nil)))), ?_⟩
    refine ⟨_, rfl, t, rfl, ht, fun D H2 s2 hD eD => ⟨(by show 0 ≤ sizeLine; decide), fun L hL => ?_⟩⟩
    have sL := same_upd (o := .lst []) hL
    have s3 : Same H (upd H2 L (.lst [])) := s2.trans sL
    have ed := s3 _ _ hd
    have nLd : L ≠ d := fun z => by rw [z, s2 _ _ hd] at hL; cases hL
    refine ⟨d, .dK [], ed, trivial, fun od => ?_⟩
    refine ⟨_, rfl, d, od, [], rfl, upd_same, ⟨fun i m σ' H' => i = 0 ∧ σ' = [some (.ref t), some (.ref d), some (.ref D), some (.ref L), none, none] ∧ H' = upd (upd H2 L (.lst [])) d (.frz od (.dK [])), ⟨0, rfl, rfl, rfl⟩, ?_⟩⟩
    rintro i m σ' H' ⟨rfl, rfl, rfl⟩
    refine .inl ⟨⟨upd_same, Nat.le_refl _⟩, upd_same, ?_⟩
    have eu : upd (upd (upd H2 L (.lst [])) d (.frz od (.dK []))) d (.dK []) = upd H2 L (.lst []) := by
      rw [upd_upd]
      funext b
      by_cases hb : b = d
      · rw [hb, upd_same, ed]
      · rw [upd_ne hb]
    rw [eu]
    refine ⟨_, rfl, _, 0, rfl, Or.inl ⟨[], SqL.of upd_same, rfl⟩, _, _, rfl, rfl, _, rfl, ?_⟩
    refine iteF ?_
    exact k _ s3
theorem ok_sights {f : Addr} {fd : FuncData} (F : Fun K "_check_sights" "_check_sights" sSights f fd) :
    FnOk P w K mg base CX0 1 f fd ["table", "sights"] (fun vs H Q _ => ∃ d x, vs = [.ref d, x] ∧ H d = some (.dK []) ∧ ∀ H', Same H H' → Q .non H') := by
  refine F.ok scSights (fun vs H Q E h => ?_) (fun cdv A outer s H vs Q E hr h => ?_)
  · obtain ⟨t, d, rfl, _⟩ := h
    rfl
  · obtain ⟨d, x, rfl, hd, k⟩ := h
    refine ⟨_, pss_one (ps_lock (ps_for PassesOwn.never rfl (pi_keys (pv 0)) pg_never pss_never)), ?_⟩
    refine ⟨d, .dK [], hd, trivial, fun od => ?_⟩
    refine ⟨_, rfl, d, od, rfl, .inl ⟨[], upd_same, ⟨fun i m σ' H' => i = 0 ∧ σ' = [some (.ref d), some x, none, none] ∧ H' = upd H d (.frz od (.dK [])), ⟨0, rfl, rfl, rfl⟩, ?_⟩⟩⟩
    rintro i m σ' H' ⟨rfl, rfl, rfl⟩
    refine .inl ⟨⟨upd_same, Nat.le_refl _⟩, upd_same, ?_⟩
    have eu : upd (upd H d (.frz od (.dK []))) d (.dK []) = H := by
      rw [upd_upd]
      funext b
      by_cases hb : b = d
      · rw [hb, upd_same, hd]
      · rw [upd_ne hb]
    rw [eu]
    exact k _ (Same.refl H)
theorem ok_note {f : Addr} {fd : FuncData} (F : Fun K "_note_sights" "_note_sights" sNote f fd) (N : Isi mg) (M : Nat2 mg) :
    FnOk P w K mg base CX0 1 f fd ["rows", "road", "seen", "sights"] (fun vs H Q _ => ∃ t r i d, vs = [.ref t, .ref r, .ref i, .ref d] ∧ H t = some (.tup []) ∧ H r = some (.tup []) ∧ H d = some (.dT []) ∧
      ∀ v H', Keep d H H' → Q v H') := by
  refine F.ok scNote (fun vs H Q E h => ?_) (fun cdv A outer s H vs Q E hr h => ?_)
  · obtain ⟨t, r, i, d, rfl, _⟩ := h
    rfl
  · obtain ⟨t, r, i, d, rfl, ht, hr', hd, k⟩ := h
    have hu := hu_of hr
    refine ⟨_, pss_cons (ps_for PassesOwn.never rfl (pi_enumT rfl M.enumerate (pa_cons (pv 0) pa_nil)) pg_never pss_never)
      (pss_cons (ps_dput hu (pv 3) (pe_op op_catA (pv 1) (pe_tup (pa_cons (pe_callB call_len rfl N.len PySem.boot_len (pa_cons (pv 0) pa_nil)) pa_nil))) (pv 2) rfl)
      (pss_one (ps_ret (pv 2)))), ?_⟩
    refine ⟨_, rfl, t, [], rfl, SqT.of ht, ⟨fun j m σ' H' => j = 0 ∧ σ' = [some (.ref t), some (.ref r), some (.ref i), some (.ref d), none, none, none, none, none, none, none] ∧ H' = H, ⟨0, rfl, rfl, rfl⟩, ?_⟩⟩
    rintro j m σ' H' ⟨rfl, rfl, rfl⟩
    refine .inl ⟨⟨[], SqT.of ht, Nat.le_refl _⟩, ?_⟩
    refine ⟨_, rfl, _, rfl, _, rfl, _, rfl, _, 0, rfl, Or.inr ⟨[], SqT.of ht, rfl⟩, (by show 1 ≤ sizeLine; decide), fun p hp => ?_⟩
    have sp := same_upd (o := .tup [.int 0]) hp
    refine ⟨r, p, [], [.int 0], rfl, rfl, SqT.of (sp _ _ hr'), SqT.of upd_same, (by show 1 ≤ sizeLine; decide), fun _ => ?_, fun z => absurd rfl z, fun z => absurd rfl z⟩
    have npd : p ≠ d := fun z => by rw [z, hd] at hp; cases hp
    refine ⟨d, _, rfl, DPut.t (k := [Sum.inl 0]) (sp _ _ hd) upd_same (by decide), _, rfl, ?_⟩
    exact k _ _ fun b o nb e => by
      rw [upd_ne nb]
      exact sp _ _ e
end
end My

set_option Elab.async false
set_option linter.all false
set_option maxRecDepth 100000
set_option maxHeartbeats 4000000
namespace My
open PySem PySem.Spec PyProof.Rows L2
abbrev sVInit : Stmt := inClass (topS 42) 0
abbrev sVWide : Stmt := inClass (topS 42) 1
abbrev sVGo : Stmt := inClass (topS 42) 3
abbrev sAreInputs : Stmt := topS 47
abbrev sTrees : Stmt := topS 56
abbrev sPInit : Stmt := inClass (topS 58) 0
theorem scVInit : FnScope ["self", "inputs", "rows", "name"] ["self", "inputs", "rows"] (defScope sVInit) := ⟨rfl, rfl, rfl, by decide +kernel, rfl, by decide +kernel, by decide +kernel⟩
theorem scVWide : FnScope ["self"] ["self"] (defScope sVWide) := ⟨rfl, rfl, rfl, by decide +kernel, rfl, by decide +kernel, by decide +kernel⟩
theorem scVGo : FnScope ["self", "rows", "row"] ["self", "rows"] (defScope sVGo) := ⟨rfl, rfl, rfl, by decide +kernel, rfl, by decide +kernel, by decide +kernel⟩
theorem scAreInputs : FnScope ["thing"] ["thing"] (defScope sAreInputs) := ⟨rfl, rfl, rfl, by decide +kernel, rfl, by decide +kernel, by decide +kernel⟩
theorem scTrees : FnScope ["inputs", "rows", "wide"] ["inputs", "rows"] (defScope sTrees) := ⟨rfl, rfl, rfl, by decide +kernel, rfl, by decide +kernel, by decide +kernel⟩
local macro_rules | `(tactic| walk_at "lk") => `(tactic| (repeat (first | rw [lookup_putF, if_pos rfl] | rw [lookup_putF, if_neg (by decide +kernel)]); try rfl))
theorem lnp {f : Str} {v : V} {fs : List (Str × V)} {k : Nat} (h : fs.length ≤ k) : (putF f v fs).length ≤ k + 1 := Nat.le_trans (length_putF f v fs) (Nat.succ_le_succ h)
local macro_rules | `(tactic| walk_at "ln") => `(tactic| first | decide | exact Nat.lt_of_le_of_lt (lnp ((Nat.le_refl 0))) (by decide) | exact Nat.lt_of_le_of_lt (lnp (lnp ((Nat.le_refl 0)))) (by decide) | exact Nat.lt_of_le_of_lt (lnp (lnp (lnp ((Nat.le_refl 0))))) (by decide) | exact Nat.lt_of_le_of_lt (lnp (lnp (lnp (lnp ((Nat.le_refl 0)))))) (by decide) | exact Nat.lt_of_le_of_lt (lnp (lnp (lnp (lnp (lnp ((Nat.le_refl 0))))))) (by decide) | exact Nat.lt_of_le_of_lt (lnp (lnp (lnp (lnp (lnp (lnp ((Nat.le_refl 0)))))))) (by decide))
/-- the class Variants -/
structure VarC (K : PySem.W.Frag) (mg : Str → Option Value) (D fI fG fW : Addr) : Prop where
  cl : Cls K D
  mke : Mk K D fI
  mG : Meth K D "_go_through" fG
  mW : Meth K D "wide" fW
  n1 : NoAttr K D "_numbers"
  n2 : NoAttr K D "_nodes"
  n3 : NoAttr K D "_known"
  n4 : NoAttr K D "_wide"
  n5 : NoAttr K D "_ifs"
  gl : mg "Variants" = some (.ref D)
section
variable {P : Program} {w : World} {K : PySem.W.Frag} {mg : Str → Option Value} {base : Heap} {C D fI fG fW : Addr}
theorem ok_vGo {f : Addr} {fd : FuncData} (F : Fun K "_go_through" "Variants._go_through" sVGo f fd) :
    FnOk P w K mg base CX0 1 f fd ["self", "rows"] (fun vs H Q _ => ∃ x t, vs = [x, .ref t] ∧ H t = some (.tup []) ∧ Q .non H) := by
  refine F.ok scVGo (fun vs H Q E h => ?_) (fun cdv A outer s H vs Q E hr h => ?_)
  · obtain ⟨x, t, rfl, _⟩ := h
    rfl
  · obtain ⟨x, t, rfl, ht, k⟩ := h
    refine ⟨_, pss_one (ps_for PassesOwn.never rfl (pi_tup (pv 1)) pg_never pss_never), ?_⟩
    refine ⟨_, rfl, t, rfl, ⟨[], SqT.of ht⟩, ⟨fun j m σ' H' => j = 0 ∧ H' = H, ⟨0, rfl, rfl⟩, ?_⟩⟩
    rintro j m σ' H' ⟨rfl, rfl⟩
    exact .inl ⟨⟨[], SqT.of ht, Nat.le_refl _⟩, k⟩
theorem ok_vWide {f : Addr} {fd : FuncData} (F : Fun K "wide" "Variants.wide" sVWide f fd) (T : VarC K mg D fI fG fW) (M : Nat2 mg) :
    FnOk P w K mg base CX0 1 f fd ["self"] (fun vs H Q _ => ∃ p dx fs W, vs = [.ref p] ∧ H p = some (.ins D dx fs) ∧ fs.lookup ("_wide" : Str) = some (.ref W) ∧ H W = some (.lst []) ∧
      ∀ q H', Same H H' → H' q = some (.lst []) → Q (.ref q) H') := by
  refine F.ok scVWide (fun vs H Q E h => ?_) (fun cdv A outer s H vs Q E hr h => ?_)
  · obtain ⟨p, dx, fs, W, rfl, _⟩ := h
    rfl
  · obtain ⟨p, dx, fs, W, rfl, hp, hw, hW, k⟩ := h
    refine ⟨_, pss_one (ps_ret (pe_callB cr_sortedS rfl M.sorted (by decide +kernel) (pa_cons (pe_fld (pv 0) rfl) pa_nil))), ?_⟩
    refine ⟨_, rfl, p, D, dx, fs, _, rfl, hp, T.cl, T.n4, hw, W, [], rfl, SqL.of hW, by decide, fun ys q hy _ hq => ?_⟩
    have hy0 : ys = [] := List.length_eq_zero_iff.mp hy.length_eq
    subst hy0
    exact k q _ (same_upd hq) upd_same
theorem ok_vInit {f : Addr} {fd fdG : FuncData} (F : Fun K "__init__" "Variants.__init__" sVInit f fd) (T : VarC K mg D fI fG fW)
    (GG : FnOk P w K mg base CX0 1 fG fdG ["self", "rows"] (fun vs H Q _ => ∃ x t, vs = [x, .ref t] ∧ H t = some (.tup []) ∧ Q .non H)) (gb : Binds K fdG ["self", "rows"] []) :
    FnOk P w K mg base CX0 2 f fd ["self", "inputs", "rows"] (fun vs H Q _ => ∃ p dx i t, vs = [.ref p, .ref i, .ref t] ∧ H p = some (.ins D dx []) ∧ H i = some (.tup []) ∧ H t = some (.tup []) ∧
      ∀ fs W H', Keep p H H' → H' p = some (.ins D dx fs) → fs.lookup ("_wide" : Str) = some (.ref W) → fs.lookup ("wide" : Str) = none → H' W = some (.lst []) → Q .non H') := by
  refine F.ok scVInit (fun vs H Q E h => ?_) (fun cdv A outer s H vs Q E hr h => ?_)
  · obtain ⟨p, dx, i, t, rfl, _⟩ := h
    rfl
  · obtain ⟨p, dx, i, t, rfl, hp, hi, ht, k⟩ := h
    refine ⟨_, pss_cons (ps_fld (pv 0) pe_dnewK rfl) (pss_cons (ps_fld (pv 0) (pe_lst pa_nil) rfl) (pss_cons (ps_fld (pv 0) pe_dnewK rfl) (pss_cons (ps_fld (pv 0) (pe_lst pa_nil) rfl)
      (pss_cons (ps_fld (pv 0) pe_int rfl) (pss_cons (ps_for PassesOwn.never rfl (pi_tup (pv 1)) pg_never pss_never)
      (pss_one (ps_expr (pe_meth (pv 0) T.cl T.mG GG hr gb .nil pass0 (pa_cons (pv 2) pa_nil))))))))), ?_⟩
    intro a1 h1
    have np1 : p ≠ a1 := ne_of_none hp h1
    refine ⟨_, rfl, p, D, dx, _, rfl, by rw [upd_ne np1]; exact hp, T.cl, T.n1, by walk_at "ln", ?_⟩
    refine ⟨by decide, fun a2 h2 => ?_⟩
    have np2 : p ≠ a2 := fun z => by rw [← z, upd_same] at h2; cases h2
    refine ⟨_, rfl, p, D, dx, _, rfl, by rw [upd_ne np2, upd_same], T.cl, T.n2, by walk_at "ln", ?_⟩
    intro a3 h3
    have np3 : p ≠ a3 := fun z => by rw [← z, upd_same] at h3; cases h3
    refine ⟨_, rfl, p, D, dx, _, rfl, by rw [upd_ne np3, upd_same], T.cl, T.n3, by walk_at "ln", ?_⟩
    refine ⟨by decide, fun a4 h4 => ?_⟩
    have np4 : p ≠ a4 := fun z => by rw [← z, upd_same] at h4; cases h4
    refine ⟨_, rfl, p, D, dx, _, rfl, by rw [upd_ne np4, upd_same], T.cl, T.n4, by walk_at "ln", ?_⟩
    refine ⟨_, rfl, p, D, dx, _, rfl, upd_same, T.cl, T.n5, by walk_at "ln", ?_⟩
    -- what stood stands
    have nb1 : ∀ {b o}, H b = some o → b ≠ a1 := fun e => ne_of_none e h1
    have kp : ∀ b o, b ≠ p → H b = some o → (upd (upd (upd (upd (upd (upd (upd (upd (upd H a1 (.dK [])) p (.ins D dx (putF "_numbers" (.ref a1) []))) a2 (.lst [])) p (.ins D dx (putF "_nodes" (.ref a2) (putF "_numbers" (.ref a1) [])))) a3 (.dK [])) p (.ins D dx (putF "_known" (.ref a3) (putF "_nodes" (.ref a2) (putF "_numbers" (.ref a1) []))))) a4 (.lst [])) p (.ins D dx (putF "_wide" (.ref a4) (putF "_known" (.ref a3) (putF "_nodes" (.ref a2) (putF "_numbers" (.ref a1) [])))))) p (.ins D dx (putF "_ifs" (.int 0) (putF "_wide" (.ref a4) (putF "_known" (.ref a3) (putF "_nodes" (.ref a2) (putF "_numbers" (.ref a1) []))))))) b = some o := by
      intro b o nb e
      have e1 : upd H a1 (.dK []) b = some o := by rw [upd_ne (nb1 e)]; exact e
      have e2 : b ≠ a2 := fun z => by rw [← z, upd_ne nb, e1] at h2; cases h2
      have e3 : b ≠ a3 := fun z => by rw [← z, upd_ne nb, upd_ne e2, upd_ne nb, e1] at h3; cases h3
      have e4 : b ≠ a4 := fun z => by rw [← z, upd_ne nb, upd_ne e3, upd_ne nb, upd_ne e2, upd_ne nb, e1] at h4; cases h4
      rw [upd_ne nb, upd_ne nb, upd_ne e4, upd_ne nb, upd_ne e3, upd_ne nb, upd_ne e2, upd_ne nb]
      exact e1
    have nip : i ≠ p := fun z => by rw [z, hp] at hi; cases hi
    have ntp : t ≠ p := fun z => by rw [z, hp] at ht; cases ht
    have hi' := kp i _ nip hi
    have ht' := kp t _ ntp ht
    refine ⟨_, rfl, i, rfl, ⟨[], SqT.of hi'⟩, ⟨fun j m σ' H' => j = 0 ∧ σ' = [some (.ref p), some (.ref i), some (.ref t), none] ∧ H' = _, ⟨0, rfl, rfl, rfl⟩, ?_⟩⟩
    rintro j m σ' H' ⟨rfl, rfl, rfl⟩
    refine .inl ⟨⟨[], SqT.of hi', Nat.le_refl _⟩, ?_⟩
    refine ⟨_, rfl, p, dx, _, rfl, upd_same, by walk_at "lk", _, rfl, .ref p, t, rfl, ht', ?_⟩
    exact k _ a4 _ kp upd_same (by walk_at "lk") (by walk_at "lk") (by rw [upd_ne (Ne.symm np4), upd_ne (Ne.symm np4), upd_same])
theorem ok_areInputs {f : Addr} {fd : FuncData} (F : Fun K "_are_inputs" "_are_inputs" sAreInputs f fd) (N : Isi mg) (M : Nat2 mg)
    (G : Cal P w K mg base "are_names" 2 ["thing", "most"] (spAreNames K C)) (hM : ∃ t, mg "MOST_INPUTS" = some (.int 4 t)) :
    FnOk P w K mg base CX0 3 f fd ["thing"] (spNilL K (.bl true)) := by
  obtain ⟨tm, hm⟩ := hM
  refine F.ok scAreInputs (fun vs H Q E h => ?_) (fun cdv A outer s H vs Q E hr h => ?_)
  · obtain ⟨a, rfl, _⟩ := h
    rfl
  · obtain ⟨a, rfl, ha, k⟩ := h
    refine ⟨_, pss_one (ps_ret (pe_and (pe_cal G hr rfl (pa_cons (pv 0) (pa_cons (pe_glob (v := .int 4) rfl hm ⟨_, rfl⟩) pa_nil)))
      (pe_one (pe_cmpR op_eq (pe_lenSet rfl rfl N.len rfl M.set (pv 0)) (pe_callB call_len rfl N.len PySem.boot_len (pa_cons (pv 0) pa_nil)) (nomark _))))), ?_⟩
    have ht : Th K H C (.ref a) (some (.list [])) := .dat (.lst (SqL.of ha) .nil)
    refine ⟨_, rfl, .ref a, some (.list []), 4, rfl, ht, ⟨(fun z hz => nomatch hz), (by show 0 ≤ 20000; decide), (fun d hd => nomatch (show d ∈ ([] : List PyData) from hd))⟩, fun H1 s1 => ⟨_, rfl, ?_⟩⟩
    refine iteT ?_
    have ha1 := s1 _ _ ha
    refine ⟨_, rfl, a, [], rfl, .inl (SqL.of ha1), by decide, _, rfl, _, 0, rfl, Or.inl ⟨[], SqL.of ha1, rfl⟩, rfl, ?_⟩
    exact k H1 s1
theorem ok_trees {f : Addr} {fd fdI fdW : FuncData} (F : Fun K "_check_trees" "_check_trees" sTrees f fd) (N : Isi mg) (T : VarC K mg D fI fG fW)
    (GI : FnOk P w K mg base CX0 2 fI fdI ["self", "inputs", "rows"] (fun vs H Q _ => ∃ p dx i t, vs = [.ref p, .ref i, .ref t] ∧ H p = some (.ins D dx []) ∧ H i = some (.tup []) ∧ H t = some (.tup []) ∧
      ∀ fs W H', Keep p H H' → H' p = some (.ins D dx fs) → fs.lookup ("_wide" : Str) = some (.ref W) → fs.lookup ("wide" : Str) = none → H' W = some (.lst []) → Q .non H')) (bI : Binds K fdI ["self", "inputs", "rows"] [])
    (GW : FnOk P w K mg base CX0 1 fW fdW ["self"] (fun vs H Q _ => ∃ p dx fs W, vs = [.ref p] ∧ H p = some (.ins D dx fs) ∧ fs.lookup ("_wide" : Str) = some (.ref W) ∧ H W = some (.lst []) ∧
      ∀ q H', Same H H' → H' q = some (.lst []) → Q (.ref q) H')) (bW : Binds K fdW ["self"] []) :
    FnOk P w K mg base CX0 4 f fd ["inputs", "rows"] (fun vs H Q _ => ∃ i t, vs = [.ref i, .ref t] ∧ H i = some (.tup []) ∧ H t = some (.tup []) ∧ ∀ H', Same H H' → Q .non H') := by
  refine F.ok scTrees (fun vs H Q E h => ?_) (fun cdv A outer s H vs Q E hr h => ?_)
  · obtain ⟨i, t, rfl, _⟩ := h
    rfl
  · obtain ⟨i, t, rfl, hi, ht, k⟩ := h
    refine ⟨_, pss_cons (ps_set (i := 2) scTrees.nd rfl (Or.inl rfl) (pe_meth0 (pe_make T.mke GI hr rfl T.gl bI .nil pass0 (pa_cons (pv 0) (pa_cons (pv 1) pa_nil))) T.cl T.mW GW (hr.mono (by decide)) bW .nil pass0))
      (pss_one (ps_if (pt_cmpR op_gt (pe_callB call_len rfl N.len PySem.boot_len (pa_cons (pv 2) pa_nil)) pe_int (nomark _)) (pss_one ps_never) pss_nil)), ?_⟩
    refine ⟨_, rfl, _, rfl, fun x dx hx hdx nex => ⟨x, dx, i, t, rfl, upd_same, ?_, ?_, fun fs W H1 kp e1 e2 e3 e4 => ⟨rfl, x, dx, fs, rfl, e1, e3, x, dx, fs, W, rfl, e1, e2, e4, fun q H2 s2 e5 => ?_⟩⟩⟩
    · rw [upd_ne (ne_of_none hi hx), upd_ne (ne_of_none hi hdx)]
      exact hi
    · rw [upd_ne (ne_of_none ht hx), upd_ne (ne_of_none ht hdx)]
      exact ht
    · refine ⟨_, rfl, _, 0, rfl, Or.inl ⟨[], SqL.of e5, rfl⟩, _, _, rfl, rfl, _, rfl, ?_⟩
      refine iteF (k H2 fun b o e => s2 b o (kp b o (ne_of_none e hx) ?_))
      rw [upd_ne (ne_of_none e hx), upd_ne (ne_of_none e hdx)]
      exact e
end
/-- the class Program as __init__ needs it -/
structure PrgC (K : PySem.W.Frag) (mg : Str → Option Value) (C fI : Addr) : Prop where
  cl : Cls K C
  mke : Mk K C fI
  n1 : NoAttr K C "_inputs"
  n2 : NoAttr K C "_rows"
  n3 : NoAttr K C "_table"
  n4 : NoAttr K C "_sights"
  n5 : NoAttr K C "_makers"
  gl : mg "Program" = some (.ref C)
  tuple : mg "tuple" = none
  rows : ∃ t, mg "MOST_ROWS" = some (.int 24 t)
  deep : ∃ t, mg "MOST_DEPTH" = some (.int 4 t)
abbrev spKeysE : Sp := fun vs H Q _ => ∃ t, vs = [.ref t] ∧ H t = some (.tup []) ∧ ∀ D H', Same H H' → H D = none → H' D = some (.dK []) → Q (.ref D) H'
abbrev spMakersE : Sp := fun vs H Q _ => ∃ t d, vs = [.ref t, .ref d] ∧ H t = some (.tup []) ∧ H d = some (.dK []) ∧ ∀ H', Same H H' → Q .non H'
abbrev spNoteE : Sp := fun vs H Q _ => ∃ t r i d, vs = [.ref t, .ref r, .ref i, .ref d] ∧ H t = some (.tup []) ∧ H r = some (.tup []) ∧ H d = some (.dT []) ∧ ∀ v H', Keep d H H' → Q v H'
abbrev spSightsE : Sp := fun vs H Q _ => ∃ d x, vs = [.ref d, x] ∧ H d = some (.dK []) ∧ ∀ H', Same H H' → Q .non H'
abbrev spTreesE : Sp := fun vs H Q _ => ∃ i t, vs = [.ref i, .ref t] ∧ H i = some (.tup []) ∧ H t = some (.tup []) ∧ ∀ H', Same H H' → Q .non H'
def spProgE (C : Addr) : Sp := fun vs H Q _ => ∃ p dx a b, vs = [.ref p, .ref a, .ref b] ∧ H p = some (.ins C dx []) ∧ H a = some (.lst []) ∧ H b = some (.lst []) ∧
  ∀ fs H', Keep p H H' → H' p = some (.ins C dx fs) → Q .non H'
theorem scPInit : FnScope ["self", "inputs", "rows", "name", "address", "row"] ["self", "inputs", "rows"] (defScope sPInit) := ⟨rfl, rfl, rfl, by decide +kernel, rfl, by decide +kernel, by decide +kernel⟩
section
variable {P : Program} {w : World} {K : PySem.W.Frag} {mg : Str → Option Value} {base : Heap} {C fI : Addr}
theorem ok_pInit {f : Addr} {fd : FuncData} (F : Fun K "__init__" "Program.__init__" sPInit f fd) (T : PrgC K mg C fI) (M : Nat2 mg)
    (c1 : Cal P w K mg base "_are_inputs" 3 ["thing"] (spNilL K (.bl true))) (c2 : Cal P w K mg base "are_rows" 1 ["thing"] (spNilL K (.bl true)))
    (c3 : Cal P w K mg base "count" 1 ["rows"] (spNilL K (.int 0))) (c4 : Cal P w K mg base "depth" 1 ["rows"] (spNilL K (.int 1)))
    (c5 : Cal P w K mg base "_table_of" 2 ["rows"] spKeysE) (c6 : Cal P w K mg base "_check_leaves" 2 ["rows"] (spNilT K)) (c7 : Cal P w K mg base "_check_makers" 2 ["inputs", "table"] spMakersE)
    (c8 : Cal P w K mg base "_note_sights" 1 ["rows", "road", "seen", "sights"] spNoteE) (c9 : Cal P w K mg base "_check_sights" 1 ["table", "sights"] spSightsE) (c10 : Cal P w K mg base "_check_trees" 4 ["inputs", "rows"] spTreesE) :
    FnOk P w K mg base CX0 5 f fd ["self", "inputs", "rows"] (spProgE C) := by
  obtain ⟨t1, hr1⟩ := T.rows
  obtain ⟨t2, hr2⟩ := T.deep
  refine F.ok scPInit (fun vs H Q E h => ?_) (fun cdv A outer s H vs Q E hr h => ?_)
  · obtain ⟨p, dx, a, b, rfl, _⟩ := h
    rfl
  · obtain ⟨p, dx, a, b, rfl, hp, ha, hb, k⟩ := h
    refine ⟨_, pss_cons (ps_if (pt_not (pt_val (pe_cal c1 (hr.mono (by decide)) rfl (pa_cons (pv 1) pa_nil)))) (pss_one ps_never) pss_nil)
      (pss_cons (ps_if (pt_not (pt_val (pe_cal c2 (hr.mono (by decide)) rfl (pa_cons (pv 2) pa_nil)))) (pss_one ps_never) pss_nil)
      (pss_cons (ps_if (pt_cmpR op_gt (pe_cal c3 (hr.mono (by decide)) rfl (pa_cons (pv 2) pa_nil)) (pe_glob (v := .int 24) rfl hr1 ⟨_, rfl⟩) (nomark _)) (pss_one ps_never) pss_nil)
      (pss_cons (ps_if (pt_cmpR op_gt (pe_cal c4 (hr.mono (by decide)) rfl (pa_cons (pv 2) pa_nil)) (pe_glob (v := .int 4) rfl hr2 ⟨_, rfl⟩) (nomark _)) (pss_one ps_never) pss_nil)
      (C8.pss_cut (ps_fld (pv 0) (pe_callTy call_tuple_of rfl T.tuple (by decide +kernel) (pa_cons (pe_callB cr_sortedS rfl M.sorted (by decide +kernel) (pa_cons (pv 1) pa_nil)) pa_nil)) rfl)
      (C8.pss_cut (ps_fld (pv 0) (pe_callTy call_tuple_of rfl T.tuple (by decide +kernel) (pa_cons (pe_lc (own := [("row", 5)]) (g := gName 5) (tt := tYes) rfl scPInit.nd (pi_list (pv 2))
        (blkOk_by (N := ["self", "inputs", "rows", "name", "address", "row"]) (sc := defScope sPInit) (by decide +kernel)) (fun _ _ _ _ _ => pg_name (i := 5) scPInit.nd rfl (Or.inl rfl)) (fun _ _ _ _ _ => pts_nil) (fun _ _ _ _ _ => pe_never)) pa_nil)) rfl)
      (C8.pss_cut (ps_fld (pv 0) (pe_cal c5 (hr.mono (by decide)) rfl (pa_cons (pe_fld (pv 0) rfl) pa_nil)) rfl)
      (C8.pss_cut (ps_fld (pv 0) pe_dnewT rfl)
      (pss_cons (ps_expr (pe_cal c6 (hr.mono (by decide)) rfl (pa_cons (pe_fld (pv 0) rfl) pa_nil)))
      (pss_cons (ps_expr (pe_cal c7 (hr.mono (by decide)) rfl (pa_cons (pe_fld (pv 0) rfl) (pa_cons (pe_fld (pv 0) rfl) pa_nil))))
      (pss_cons (ps_expr (pe_cal c8 (hr.mono (by decide)) rfl (pa_cons (pe_fld (pv 0) rfl) (pa_cons (pe_tup pa_nil) (pa_cons (pe_fld (pv 0) rfl) (pa_cons (pe_fld (pv 0) rfl) pa_nil))))))
      (pss_cons (ps_expr (pe_cal c9 (hr.mono (by decide)) rfl (pa_cons (pe_fld (pv 0) rfl) (pa_cons (pe_fld (pv 0) rfl) pa_nil))))
      (pss_cons (ps_expr (pe_cal c10 (hr.mono (by decide)) rfl (pa_cons (pe_fld (pv 0) rfl) (pa_cons (pe_fld (pv 0) rfl) pa_nil))))
      (pss_cons (ps_fld (pv 0) (pe_dc (own := [("name", 3)]) (g := gName 3) (tt := tYes) rfl scPInit.nd (pi_tup (pe_fld (pv 0) rfl))
        (blkOk_by (N := ["self", "inputs", "rows", "name", "address", "row"]) (sc := defScope sPInit) (by decide +kernel)) (fun _ _ _ _ _ => pg_name (i := 3) scPInit.nd rfl (Or.inl rfl)) (fun _ _ _ _ _ => pts_nil)
        (fun _ _ _ _ _ => pv 3) (fun _ _ _ _ _ => pe_non)) rfl)
      (pss_one (ps_lock (ps_for PassesOwn.never rfl (pi_keys (pe_fld (pv 0) rfl)) pg_never pss_never)))))))))))))))), ?_⟩
    have sigma : L2.start ["self", "inputs", "rows", "name", "address", "row"] [.ref p, .ref a, .ref b] = [some (.ref p), some (.ref a), some (.ref b), none, none, none] := rfl
    rw [sigma]
    clear sigma
    -- the looks
    refine ⟨_, rfl, a, rfl, ha, fun H1 s1 => ⟨_, rfl, ?_⟩⟩
    refine iteF ⟨_, rfl, b, rfl, s1 _ _ hb, fun H2 s2 => ⟨_, rfl, ?_⟩⟩
    have hb2 := s2 _ _ (s1 _ _ hb)
    refine iteF ⟨_, rfl, b, rfl, hb2, fun H3 s3 => ⟨_, _, rfl, rfl, _, rfl, ?_⟩⟩
    refine iteF ⟨_, rfl, b, rfl, s3 _ _ hb2, fun H4 s4 => ⟨_, _, rfl, rfl, _, rfl, ?_⟩⟩
    refine iteF ?_
    have s14 : Same H H4 := ((s1.trans s2).trans s3).trans s4
    have hp4 := s14 _ _ hp
    have ha4 := s14 _ _ ha
    have hb4 := s14 _ _ hb
    clear s1 s2 s3 s4 hb2
    -- self._inputs
    let sg : L2.St := [some (.ref p), some (.ref a), some (.ref b), none, none, none]
    refine ⟨fun σ H' => σ = sg ∧ Keep p H H' ∧ ∃ i, H' p = some (.ins C dx (putF "_inputs" (.ref i) [])) ∧ H' i = some (.tup []), ?_, ?_⟩
    · refine ⟨_, rfl, a, [], rfl, SqL.of ha4, by decide, fun ys q hy _ hq => ?_⟩
      have hy0 : ys = [] := List.length_eq_zero_iff.mp hy.length_eq
      subst hy0
      refine ⟨q, _, rfl, .inl ⟨SqL.of upd_same, fun l hl => ?_⟩⟩
      have nqp : p ≠ q := ne_of_none hp4 hq
      have hl0 : H4 l = none := (same_upd hq).free hl
      have nlp : p ≠ l := ne_of_none hp4 hl0
      refine ⟨_, rfl, p, C, dx, [], rfl, by rw [upd_ne nlp, upd_ne nqp]; exact hp4, T.cl, T.n1, by decide, rfl, ?_, l, upd_same, ?_⟩
      · intro x o nx e
        have e4 := s14 _ _ e
        rw [upd_ne nx, upd_ne (ne_of_none e4 hl0), upd_ne (ne_of_none e4 hq)]
        exact e4
      · rw [upd_ne nlp.symm, upd_same]; rfl
    rintro σ H5 ⟨rfl, kp5, i, hp5, hi5⟩
    have npa : a ≠ p := fun z => by rw [z, hp] at ha; cases ha
    have npb : b ≠ p := fun z => by rw [z, hp] at hb; cases hb
    have ha5 := kp5 _ _ npa ha
    have hb5 := kp5 _ _ npb hb
    -- self._rows
    refine ⟨fun σ H' => σ = sg ∧ Keep p H H' ∧ ∃ i t, H' p = some (.ins C dx (putF "_rows" (.ref t) (putF "_inputs" (.ref i) []))) ∧ H' i = some (.tup []) ∧ H' t = some (.tup []), ?_, ?_⟩
    · refine ⟨_, rfl, b, rfl, ⟨[], SqL.of hb5⟩, fun D hD => ⟨fun j m H' => j = 0 ∧ H' = upd H5 D (.lst []), ⟨0, rfl, rfl⟩, ?_⟩⟩
      rintro j m H' ⟨rfl, rfl⟩
      have sD := same_upd (o := .lst []) hD
      refine .inl ⟨⟨[], SqL.of (sD _ _ hb5), Nat.le_refl _⟩, D, _, rfl, .inl ⟨SqL.of upd_same, fun l hl => ?_⟩⟩
      have hl0 : H5 l = none := sD.free hl
      have nlp : p ≠ l := ne_of_none hp5 hl0
      refine ⟨_, rfl, p, C, dx, _, rfl, by rw [upd_ne nlp]; exact sD _ _ hp5, T.cl, T.n2, by walk_at "ln", rfl, ?_, i, l, upd_same, ?_, ?_⟩
      · intro x o nx e
        have e5 := kp5 _ _ nx e
        rw [upd_ne nx, upd_ne (ne_of_none e5 hl0)]
        exact sD _ _ e5
      · have nip : i ≠ p := fun z => by rw [z, hp5] at hi5; cases hi5
        rw [upd_ne nip, upd_ne (ne_of_none hi5 hl0)]
        exact sD _ _ hi5
      · rw [upd_ne nlp.symm, upd_same]
    rintro σ H6 ⟨rfl, kp6, i, t, hp6, hi6, ht6⟩
    have nip : i ≠ p := fun z => by rw [z, hp6] at hi6; cases hi6
    have ntp : t ≠ p := fun z => by rw [z, hp6] at ht6; cases ht6
    -- self._table
    refine ⟨fun σ H' => σ = sg ∧ Keep p H H' ∧ ∃ d, H' p = some (.ins C dx (putF "_table" (.ref d) (putF "_rows" (.ref t) (putF "_inputs" (.ref i) [])))) ∧ H' i = some (.tup []) ∧ H' t = some (.tup []) ∧ H' d = some (.dK []), ?_, ?_⟩
    · refine ⟨_, rfl, p, C, dx, _, _, rfl, hp6, T.cl, T.n2, by walk_at "lk", t, rfl, ht6, fun D H7 s7 hD eD => ?_⟩
      have nDp : D ≠ p := fun z => by rw [z, s7 _ _ hp6] at eD; cases eD
      refine ⟨_, rfl, p, C, dx, _, rfl, s7 _ _ hp6, T.cl, T.n3, by walk_at "ln", rfl, ?_, D, upd_same, ?_, ?_, ?_⟩
      · intro x o nx e
        rw [upd_ne nx]
        exact s7 _ _ (kp6 _ _ nx e)
      · rw [upd_ne nip]; exact s7 _ _ hi6
      · rw [upd_ne ntp]; exact s7 _ _ ht6
      · rw [upd_ne nDp]; exact eD
    rintro σ H7 ⟨rfl, kp7, d, hp7, hi7, ht7, hd7⟩
    have ndp : d ≠ p := fun z => by rw [z, hp7] at hd7; cases hd7
    -- self._sights
    refine ⟨fun σ H' => σ = sg ∧ Keep p H H' ∧ ∃ s, H' p = some (.ins C dx (putF "_sights" (.ref s) (putF "_table" (.ref d) (putF "_rows" (.ref t) (putF "_inputs" (.ref i) []))))) ∧ H' i = some (.tup []) ∧ H' t = some (.tup []) ∧ H' d = some (.dK []) ∧ H' s = some (.dT []) ∧ H s = none, ?_, ?_⟩
    · intro S hS
      have sS := same_upd (o := .dT []) hS
      have npS : p ≠ S := ne_of_none hp7 hS
      refine ⟨_, rfl, p, C, dx, _, rfl, sS _ _ hp7, T.cl, T.n4, by walk_at "ln", rfl, ?_, S, upd_same, ?_, ?_, ?_, ?_, ?_⟩
      · intro x o nx e
        rw [upd_ne nx]
        exact sS _ _ (kp7 _ _ nx e)
      · rw [upd_ne nip]; exact sS _ _ hi7
      · rw [upd_ne ntp]; exact sS _ _ ht7
      · rw [upd_ne ndp]; exact sS _ _ hd7
      · rw [upd_ne npS.symm, upd_same]
      · cases e : H S with
        | none => rfl
        | some o =>
          have := kp7 _ _ npS.symm e
          rw [hS] at this
          cases this
    rintro σ H8 ⟨rfl, kp8, S, hp8, hi8, ht8, hd8, hS8, hS0⟩
    have nSp : S ≠ p := fun z => by rw [z, hp8] at hS8; cases hS8
    have niS : i ≠ S := fun z => by rw [z, hS8] at hi8; cases hi8
    have ntS : t ≠ S := fun z => by rw [z, hS8] at ht8; cases ht8
    have ndS : d ≠ S := fun z => by rw [z, hS8] at hd8; cases hd8
    -- the checks
    refine ⟨_, rfl, p, C, dx, _, _, rfl, hp8, T.cl, T.n2, by walk_at "lk", t, rfl, ht8, fun H9 s9 => ?_⟩
    refine ⟨_, rfl, p, C, dx, _, _, rfl, s9 _ _ hp8, T.cl, T.n1, by walk_at "lk", _, rfl, p, C, dx, _, _, rfl, s9 _ _ hp8, T.cl, T.n3, by walk_at "lk", i, d, rfl, s9 _ _ hi8, s9 _ _ hd8, fun H10 s10 => ?_⟩
    have s810 := s9.trans s10
    refine ⟨_, rfl, p, C, dx, _, _, rfl, s810 _ _ hp8, T.cl, T.n2, by walk_at "lk", (by show 0 ≤ sizeLine; decide), fun r hr0 => ?_⟩
    have sr := s810.trans (same_upd (o := .tup []) hr0)
    refine ⟨_, rfl, p, C, dx, _, _, rfl, sr _ _ hp8, T.cl, T.n1, by walk_at "lk", _, rfl, p, C, dx, _, _, rfl, sr _ _ hp8, T.cl, T.n4, by walk_at "lk", t, r, i, S, rfl, sr _ _ ht8, upd_same, sr _ _ hS8, fun v H11 k11 => ?_⟩
    have g11 : ∀ x o, x ≠ S → H8 x = some o → H11 x = some o := fun x o nx e => k11 _ _ nx (sr _ _ e)
    have hp11 := g11 _ _ nSp.symm hp8
    refine ⟨_, rfl, p, C, dx, _, _, rfl, hp11, T.cl, T.n3, by walk_at "lk", _, rfl, p, C, dx, _, _, rfl, hp11, T.cl, T.n4, by walk_at "lk", d, _, rfl, g11 _ _ ndS hd8, fun H12 s12 => ?_⟩
    have g12 : ∀ x o, x ≠ S → H8 x = some o → H12 x = some o := fun x o nx e => s12 _ _ (g11 x o nx e)
    have hp12 := g12 _ _ nSp.symm hp8
    refine ⟨_, rfl, p, C, dx, _, _, rfl, hp12, T.cl, T.n1, by walk_at "lk", _, rfl, p, C, dx, _, _, rfl, hp12, T.cl, T.n2, by walk_at "lk", i, t, rfl, g12 _ _ niS hi8, g12 _ _ ntS ht8, fun H13 s13 => ?_⟩
    have g13 : ∀ x o, x ≠ S → H8 x = some o → H13 x = some o := fun x o nx e => s13 _ _ (g12 x o nx e)
    have hp13 := g13 _ _ nSp.symm hp8
    have hi13 := g13 _ _ niS hi8
    have hd13 := g13 _ _ ndS hd8
    -- self._makers
    refine ⟨_, rfl, p, C, dx, _, _, rfl, hp13, T.cl, T.n1, by walk_at "lk", i, rfl, ⟨[], SqT.of hi13⟩, fun D hD => ⟨fun j m H' => j = 0 ∧ H' = upd H13 D (.dK []), ⟨0, rfl, rfl⟩, ?_⟩⟩
    rintro j m H' ⟨rfl, rfl⟩
    have sD := same_upd (o := .dK []) hD
    refine .inl ⟨⟨[], SqT.of (sD _ _ hi13), Nat.le_refl _⟩, _, rfl, p, C, dx, _, rfl, sD _ _ hp13, T.cl, T.n5, by walk_at "ln", ?_⟩
    -- the last loop
    refine ⟨d, .dK [], by rw [upd_ne ndp]; exact sD _ _ hd13, trivial, fun od => ?_⟩
    refine ⟨_, rfl, p, C, dx, _, _, rfl, by rw [upd_ne ndp.symm, upd_same], T.cl, T.n3, by walk_at "lk", d, od, rfl, .inl ⟨[], upd_same, ⟨fun j m σ' H' => j = 0 ∧ H' = _, ⟨0, rfl, rfl⟩, ?_⟩⟩⟩
    rintro j m σ' H' ⟨rfl, rfl⟩
    refine .inl ⟨⟨upd_same, Nat.le_refl _⟩, upd_same, ?_⟩
    refine k _ _ ?_ (by rw [upd_ne ndp.symm, upd_ne ndp.symm, upd_same])
    intro x o nx e
    by_cases hxd : x = d
    · subst hxd
      have e8 := kp8 _ _ nx e
      rw [hd8] at e8
      rw [upd_same]
      exact e8
    · rw [upd_ne hxd, upd_ne hxd, upd_ne nx]
      refine sD _ _ (g13 _ _ (fun z => ?_) (kp8 _ _ nx e))
      rw [z, hS0] at e
      cases e
end
end My

set_option Elab.async false
set_option linter.all false
set_option maxRecDepth 100000
set_option maxHeartbeats 0
namespace My
open PySem PySem.Spec PyProof.Rows L2
abbrev R11 : PySem.W.OpenRow := PySem.W.OpenLaw.row PySem.Challenge.rw_movedchecks_k11_kinds
abbrev sAlike : Stmt := topS 62
abbrev sOdd : Stmt := topS 63
abbrev sNearName : Stmt := topS 68
abbrev sNearAddr : Stmt := topS 69
abbrev sSome : Stmt := topS 70
abbrev sLaw : Stmt := topS 72
def dD (x : Str) (st : Stmt) : He.DefD := ⟨(x, none), x, x, defArgs st, defBody st, defScope st, [], []⟩
def dM (C m q : Str) (st : Stmt) : He.DefD := ⟨(C, some m), m, q, defArgs st, defBody st, defScope st, [], []⟩
def fn11 : List He.DefD := [dD "is_integer" sIsInt, dD "is_name" sIsName, dD "is_address" sIsAddr, dD "are_names" sAreNames, dD "are_choices" sAreChoices,
  dD "_law_bag" sBag, dD "_law_take" sTake, dD "_law_alike" sAlike, dD "_law_odd" sOdd, dD "_law_is_integer" sLInt, dD "_law_is_name" sLName, dD "_law_are_names" sLNames, dD "_law_is_address" sLAddr,
  dD "_law_near_name" sNearName, dD "_law_near_address" sNearAddr, dD "_law_some" sSome, dD "_law_are_choices" sLChoices, dD "law" sLaw,
  dD "are_rows" sAreRows, dD "count" sCount, dD "depth" sDepth, dD "_are_inputs" sAreInputs, dD "_lists_at" sListsAt, dD "_table_of" sTable, dD "_note_sights" sNote, dD "_check_leaves" sLeaves, dD "_check_makers" sMakers,
  dD "_as_keys" sAsKeys, dD "_check_sights" sSights, dD "_check_trees" sTrees,
  dM "Program" "__init__" "Program.__init__" sPInit, dM "Variants" "__init__" "Variants.__init__" sVInit, dM "Variants" "wide" "Variants.wide" sVWide, dM "Variants" "_go_through" "Variants._go_through" sVGo]
def gl11 : List Str := ["is_integer", "is_name", "is_address", "are_names", "are_choices", "_law_bag", "_law_take", "_law_alike", "_law_odd", "_law_is_integer", "_law_is_name", "_law_are_names", "_law_is_address", "_law_near_name", "_law_near_address"]
def gl11b : List Str := ["_law_some", "_law_are_choices", "law", "are_rows", "count", "depth", "_are_inputs", "_lists_at", "_table_of", "_note_sights", "_check_leaves", "_check_makers", "_as_keys", "_check_sights", "_check_trees", "Program", "Variants", "WORDS"]
def fr11 : List Str := ["isinstance", "int", "bool", "str", "tuple", "list", "len", "all", "abs", "repr", "set", "sum", "max", "sorted", "enumerate", "range"]
def at11 : List He.Fa := [.cls "Program", .mkr "Program", .noat "Program" "_inputs", .noat "Program" "_rows", .noat "Program" "_table", .noat "Program" "_sights", .noat "Program" "_makers",
  .cls "Variants", .mkr "Variants", .meth "Variants" "wide", .meth "Variants" "_go_through", .noat "Variants" "_numbers", .noat "Variants" "_nodes", .noat "Variants" "_known", .noat "Variants" "_wide", .noat "Variants" "_ifs",
  .int "LONGEST" 8, .str "LETTERS" "abcdefghijklmnopqrstuvwxyz", .int "MOST_INPUTS" 4, .int "MOST_ROWS" 24, .int "MOST_DEPTH" 4]
def fa11 : List He.Fa := gl11.map .glo ++ (gl11b.map .glo ++ (fr11.map .free ++ at11))
def ex11 (K : PySem.W.Frag) : Bool := He.tupB K "WORDS" [.str "yes", .str "no", .str "round", .str "out"] &&
  (five.all (fun T => decide (PySem.W.kitOne K (.ref (He.ga K "Program")) (.type T) = some false)) &&
  (seven.all (fun T => decide (PySem.W.kitOne K (.type T) (.ref (He.ga K "Program")) = some false)) &&
  (He.eqO (PySem.W.findIn K (.ref (He.ga K "Program")) (Str.ofString "__class__")) (some (some (.builtin "object.__class__"))) &&
  (He.eqO (PySem.W.specialIn K (.builtin "object.__class__") (Str.ofString "__get__")) (some (some (.builtin "getset_descriptor.__get__"))) &&
  (decide (PySem.W.takesIn K (.builtin "object.__class__") = some true) &&
  (decide (PySem.W.mroIn K (He.ga K "Program") (.type "object") = some true) &&
  decide (PySem.W.kitOne K (.ref (He.ga K "Program")) (.ref (He.ga K "Program")) = some true)))))))
theorem toFun {K : PySem.W.Frag} {x q : Str} {st : Stmt} {kws : List (Str × V)} {f : Addr} {fd : FuncData} (F : FunD K x q (defArgs st) (defBody st) (defScope st) [] kws f fd) : Fun K x q st f fd := by
  obtain ⟨⟨oc, od, dV, kV, doc, pm, an, cdv, ct, osl, e, lk, hc, hd, _⟩, kp⟩ := F
  rcases hd with ⟨_, rfl⟩ | ⟨n, _⟩
  · exact ⟨⟨oc, od, kV, doc, pm, an, cdv, ct, osl, e, lk, hc⟩, kp⟩
  · exact absurd rfl n
abbrev n11 : Nat := 5
abbrev hk11 : PySem.W.Hook := He.hookX n11 fa11 fn11 [] [] ex11
def ob11 (s : PySem.W.SharedT) : He.AlX := He.obsX n11 fa11 fn11 [] [] ex11 (HandSHeadRun.getT s)
def nm0 : List PySem.Str := ["_wall", "LETTERS", "LONGEST", "WORDS", "is_integer", "is_name", "is_address", "are_names", "are_choices", "MoveError", "Wrong", "Full", "Deep", "NotLast", "Twice", "Unseen", "Wide", "NoRow", "NoGap", "MOST_ARGS", "_is_join", "_are_joins", "_has_form", "is_row", "are_rows", "_all_frozen", "frozen", "lists_of", "with_lists", "makes"]
def nm1 : List PySem.Str := ["uses", "count", "depth", "MOST_TREES", "MOST_PARTS", "MOST_READINGS", "size_of", "is_large", "Variants", "MOST_INPUTS", "MOST_ROWS", "MOST_DEPTH", "_are_inputs", "_lists_at", "_table_of", "_note_sights", "_check_leaves", "_check_makers", "_as_keys", "_first_unseen", "_check_sights", "_check_trees", "_spliced", "Program", "_law_bag", "_law_take", "_law_alike", "_law_odd", "_law_is_integer", "_law_is_name"]
def nm2 : List PySem.Str := ["_law_are_names", "_law_is_address", "_law_near_name", "_law_near_address", "_law_some", "_law_are_choices"]
def nm11 : List PySem.Str := nm0 ++ nm1 ++ nm2
end My

set_option Elab.async false
set_option linter.all false
set_option maxRecDepth 100000
set_option maxHeartbeats 4000000
namespace My
open PySem PySem.Spec PyProof.Rows L2
def spBag (K : PySem.W.Frag) : Sp := fun vs H Q _ => ∃ a ns, vs = [.ref a] ∧ SqL K H a (List.map V.int ns) ∧ ns.length ≤ 63 ∧ (∀ p q H', Same H H' → Bag H' p q → H p = none → Q (.ref p) H')
theorem scBag : FnScope ["_law_script", "_law_cell"] ["_law_script"] (defScope sBag) := ⟨rfl, rfl, rfl, by decide +kernel, rfl, by decide +kernel, by decide +kernel⟩
section
variable {P : Program} {w : World} {K : PySem.W.Frag} {mg : Str → Option Value} {base : Heap} {C : Addr}
theorem ok_bag {f : Addr} {fd : FuncData} (F : Fun K "_law_bag" "_law_bag" sBag f fd) (N : Bare mg) :
    FnOk P w K mg base CX0 1 f fd ["_law_script"] (spBag K) := by
  refine F.ok scBag (fun vs H Q E h => ?_) (fun cdv A outer s H vs Q E hr h => ?_)
  · obtain ⟨x, o, rfl, _⟩ := h
    rfl
  · obtain ⟨a, ns, rfl, hS, hl, k⟩ := h
    refine ⟨_, pss_one (ps_ret (pe_lst (pa_cons pe_int (pa_cons pe_int (pa_cons pe_int (pa_cons
      (pe_lc (own := [("_law_cell", 1)]) (g := gName 1) (tt := tYes) rfl scBag.nd (pi_list (pe_slice sl_list (pv 0) po_none (po_some pe_int)))
        (blkOk_by (N := ["_law_script", "_law_cell"]) (sc := defScope sBag) (by decide +kernel)) (fun _ _ _ _ _ => pg_name (i := 1) scBag.nd rfl (Or.inl rfl)) (fun _ _ _ _ _ => pts_nil)
        (fun _ _ _ _ _ => pe_callB call_abs rfl N.abs (by decide +kernel) (pa_cons (pv 1) pa_nil))) pa_nil)))))), ?_⟩
    obtain ⟨ms, hms⟩ : ∃ ms : List Int, cutV (ns.map V.int) none (some 63) = ms.map V.int := ⟨_, by unfold cutV; rw [← List.map_drop, ← List.map_take]⟩
    have hml : ms.length ≤ 63 := by
      have h1 := cutV_length (ns.map V.int) none (some 63)
      rw [hms, List.length_map, List.length_map] at h1
      omega
    refine ⟨_, rfl, _, rfl, a, _, rfl, hS, fun a1 h1 => ?_⟩
    rw [hms]
    have s1 := same_upd (o := .lst (ms.map V.int)) h1
    refine ⟨a1, rfl, ⟨_, SqL.of upd_same⟩, fun D hD => lcY walk_list (fun i ys H2 => Same (upd H a1 (.lst (ms.map V.int))) H2 ∧ ∃ ks : List Int, ys = ks.map V.int) (fun _ => rfl) ⟨same_upd hD, [], rfl⟩ (fun i ys H2 _ p => SqL.of (p.1 _ _ upd_same)) ?_ ?_⟩
    · rintro i x ys H2 H3 hi hl2 e ⟨s2, ks, rfl⟩ ⟨rfl, ex⟩
      rw [List.getElem?_map] at ex
      obtain ⟨c, _, rfl⟩ := Option.map_eq_some_iff.mp ex
      rw [List.length_map] at hi
      refine ⟨_, rfl, c, rfl, lc_next e hl2 hi (by omega) ⟨same_upd2 s2 hD, ks ++ [_], by rw [List.map_append]; rfl⟩⟩
    · rintro ys H2 hl2 e ⟨s2, ks, rfl⟩
      rw [List.length_map, List.length_map] at hl2
      have hDH : H D = none := s1.free hD
      refine ⟨(by show 4 ≤ sizeLine; decide), fun p hp => k p D _ ((s1.trans s2).trans (same_upd hp)) ⟨_, _, _, ks, upd_same, ?_, ?_, by omega⟩ ((s1.trans s2).free hp)⟩
      · rw [upd_ne (ne_of_none e hp)]; exact e
      · exact (ne_of_none e hp).symm
end
end My

set_option Elab.async false
set_option linter.all false
set_option maxRecDepth 100000
set_option maxHeartbeats 4000000
namespace My
open PySem PySem.Spec PyProof.Rows L2
def l5 (b1 b2 b3 b4 b5 : Bool) : PyData := .list [.bool b1, .bool b2, .bool b3, .bool b4, .bool b5]
theorem l5_eqv : ∀ b1 b2 b3 b4 b5 : Bool, PyData.eqv (l5 b1 b2 b3 b4 b5) (l5 b1 b2 b3 b4 b5) = true := by decide +kernel
theorem l5_shaped : ∀ b1 b2 b3 b4 b5 : Bool, SeqAt.shaped (l5 b1 b2 b3 b4 b5) = true := by decide +kernel
theorem l5_show : ∀ b1 b2 b3 b4 b5 : Bool, (l5 b1 b2 b3 b4 b5).showable = true := by decide +kernel
theorem l5_dict : ∀ b1 b2 b3 b4 b5 : Bool, (l5 b1 b2 b3 b4 b5).hasDict = false := by decide +kernel
theorem l5_depth : ∀ b1 b2 b3 b4 b5 : Bool, (l5 b1 b2 b3 b4 b5).depth ≤ 60 := by decide +kernel
theorem l5_len : ∀ b1 b2 b3 b4 b5 : Bool, (l5 b1 b2 b3 b4 b5).shown.length ≤ 1000 := by decide +kernel
def spAlike (K : PySem.W.Frag) : Sp := fun vs H Q _ => ∃ x y b1 b2 b3 b4 b5, vs = [x, y] ∧ Dp K H x (l5 b1 b2 b3 b4 b5) ∧ Dp K H y (l5 b1 b2 b3 b4 b5) ∧ Q (.bl true) H
theorem scAlike : FnScope ["_law_found", "_law_due"] ["_law_found", "_law_due"] (defScope sAlike) := ⟨rfl, rfl, rfl, by decide +kernel, rfl, by decide +kernel, by decide +kernel⟩
section
variable {P : Program} {w : World} {K : PySem.W.Frag} {mg : Str → Option Value} {base : Heap} {C : Addr}
theorem ok_alike {f : Addr} {fd : FuncData} (F : Fun K "_law_alike" "_law_alike" sAlike f fd) (N : Bare mg) :
    FnG P w K mg base 1 f fd ["_law_found", "_law_due"] (spAlike K) := by
  refine funG_ok F scAlike (fun vs H Q E h => ?_) (fun cdv A outer s H vs Q E hf hr h => ?_)
  · obtain ⟨x, y, b1, b2, b3, b4, b5, rfl, _⟩ := h
    rfl
  · obtain ⟨x, y, b1, b2, b3, b4, b5, rfl, dx, dy, k⟩ := h
    refine ⟨_, pss_one (ps_ret (pe_and (pe_cmpR (op_eqD hr.units) (pv 0) (pv 1) (nomark _))
      (pe_one (pe_cmpR op_eq (pe_callB (call_repr hf hr.units) rfl N.repr (by decide +kernel) (pa_cons (pv 0) pa_nil)) (pe_callB (call_repr hf hr.units) rfl N.repr (by decide +kernel) (pa_cons (pv 1) pa_nil)) (nomark _))))), ?_⟩
    have hz : (l5 b1 b2 b3 b4 b5).shown.length ≤ sizeLine := Nat.le_trans (l5_len _ _ _ _ _) (by decide)
    refine ⟨_, rfl, _, rfl, _, _, dx, dy, l5_shaped _ _ _ _ _, l5_shaped _ _ _ _ _, _, rfl, ?_⟩
    rw [l5_eqv]
    refine iteT ⟨_, rfl, _, _, rfl, dx, l5_show _ _ _ _ _, l5_dict _ _ _ _ _, l5_depth _ _ _ _ _, hz, _, rfl, _, _, rfl, dy, l5_show _ _ _ _ _, l5_dict _ _ _ _ _, l5_depth _ _ _ _ _, hz, ?_⟩
    refine ⟨rfl, ?_⟩
    rw [decide_eq_true rfl]
    exact k
end
end My

set_option Elab.async false
set_option linter.all false
set_option maxRecDepth 100000
set_option maxHeartbeats 4000000
namespace My
open PySem PySem.Spec PyProof.Rows L2
/-- the heap but for some places -/
noncomputable def Off (S : Addr → Prop) (H : Hp) : Hp := fun b => open Classical in if S b then none else H b
/-- p, and what stood already -/
abbrev Nw (p : Addr) (H : Hp) : Addr → Prop := fun b => b = p ∨ H b ≠ none
theorem off_le {S : Addr → Prop} {H : Hp} : ∀ b o, Off S H b = some o → H b = some o := fun b o e => by
  unfold Off at e
  by_cases h : S b
  · rw [if_pos h] at e; cases e
  · rw [if_neg h] at e; exact e
theorem off_not {S : Addr → Prop} {H : Hp} {b : Addr} {o : HO} (e : Off S H b = some o) : ¬ S b := fun h => by
  unfold Off at e
  rw [if_pos h] at e
  cases e
theorem off_of {S : Addr → Prop} {b : Addr} {H : Hp} {o : HO} (h : ¬ S b) (e : H b = some o) : Off S H b = some o := by
  unfold Off
  rw [if_neg h]
  exact e
theorem off_keep {S : Addr → Prop} {p : Addr} {H H' : Hp} (k : Keep p H H') (hp : S p) : ∀ b o, Off S H b = some o → Off S H' b = some o := fun b o e =>
  off_of (off_not e) (k b o (fun z => off_not e (by rw [z]; exact hp)) (off_le b o e))
theorem off_sub {S S1 : Addr → Prop} {H : Hp} (h : ∀ b, S b → S1 b) : ∀ b o, Off S1 H b = some o → Off S H b = some o := fun b o e =>
  off_of (fun z => off_not e (h b z)) (off_le b o e)
theorem nw {p b : Addr} {H H' : Hp} (k : Keep p H H') (n : b ≠ p) (e : H' b = none) : ¬ Nw p H b := fun z => by
  rcases z with z | z
  · exact n z
  · cases h : H b with
    | none => exact z h
    | some o =>
      rw [k b o n h] at e
      cases e
theorem nw_mono {p : Addr} {H H' : Hp} (k : Keep p H H') : ∀ b, Nw p H b → Nw p H' b := fun b z => by
  by_cases e : b = p
  · exact .inl e
  · refine .inr ?_
    rcases z with z | z
    · exact absurd z e
    · cases h : H b with
      | none => exact absurd h z
      | some o =>
        rw [k b o e h]
        simp
theorem keep_same {p : Addr} {H H' : Hp} (s : Same H H') : Keep p H H' := fun b o _ e => s b o e
/-- a part of a thing -/
def strB : PyData → Bool
  | .str z => decide (z.length ≤ 1000) && PyData.strOk z
  | _ => true
def Ok1 (d : PyData) : Bool := d.canLay0 && (decide (d.depth ≤ 5) && (d.showable && (decide (d.shown.length ≤ 800) && strB d)))
structure Is1 (d : PyData) : Prop where
  lay : d.canLay0 = true
  dep : d.depth ≤ 5
  shw : d.showable = true
  len : d.shown.length ≤ 800
  str : strO (some d)
theorem is1 {d : PyData} (h : Ok1 d = true) : Is1 d := by
  unfold Ok1 at h
  simp only [Bool.and_eq_true, decide_eq_true_eq] at h
  obtain ⟨h1, h2, h3, h4, h5⟩ := h
  refine ⟨h1, h2, h3, h4, ?_⟩
  rintro z hz
  obtain rfl := Option.some.inj hz
  unfold strB at h5
  simp only [Bool.and_eq_true, decide_eq_true_eq] at h5
  exact h5
structure GoodD (d : PyData) : Prop where
  fit : FitO (some d)
  tup : isT (some d) "tuple" = true → (itemsO (some d)).length ≤ 15
  shw : d.showable = true
  nd : d.hasDict = false
  dep : d.depth ≤ 60
  len : d.shown.length ≤ sizeLine
theorem good_of2 {d : PyData} (h : (Ok1 d && ((itemsO (some d)).all Ok1 && decide ((itemsO (some d)).length ≤ 15))) = true) : GoodD d := by
  simp only [Bool.and_eq_true, decide_eq_true_eq, List.all_eq_true] at h
  obtain ⟨h1, h2, h3⟩ := h
  have a := is1 h1
  refine ⟨⟨a.str, by omega, fun e he => ⟨(is1 (h2 e he)).str, (is1 (h2 e he)).lay, Nat.le_trans (is1 (h2 e he)).dep (by decide)⟩⟩, fun _ => h3, a.shw, PyData.hasDict_of_canLay d a.lay, Nat.le_trans a.dep (by decide), Nat.le_trans a.len (by decide)⟩
theorem showAll1 : ∀ {ds : List PyData}, (∀ e ∈ ds, Ok1 e = true) → PyData.showableAll ds = true ∧ PyData.hasDictAll ds = false ∧ PyData.depthAll ds ≤ 5 ∧ (PyData.shownAll ds).length = ds.length ∧ ((PyData.shownAll ds).map (·.length)).sum ≤ 800 * ds.length
  | [], _ => ⟨by simp [PyData.showableAll], by simp [PyData.hasDictAll], by simp [PyData.depthAll], by simp [PyData.shownAll], by simp [PyData.shownAll]⟩
  | d :: r, h => by
    have a := is1 (h d List.mem_cons_self)
    obtain ⟨h1, h2, h3, h4, h5⟩ := showAll1 (ds := r) fun e he => h e (List.mem_cons_of_mem _ he)
    refine ⟨by simp [PyData.showableAll, a.shw, h1], by simp [PyData.hasDictAll, PyData.hasDict_of_canLay d a.lay, h2], ?_, by simp [PyData.shownAll, h4], ?_⟩
    · have := a.dep
      simp only [PyData.depthAll]
      omega
    · have := a.len
      simp only [PyData.shownAll, List.map_cons, List.sum_cons, List.length_cons]
      omega
theorem good_list {ds : List PyData} (h : ∀ e ∈ ds, Ok1 e = true) (hl : ds.length ≤ 20000) : GoodD (.list ds) := by
  obtain ⟨h1, h2, h3, h4, h5⟩ := showAll1 h
  refine ⟨⟨(fun z hz => by cases hz), hl, fun e he => ⟨(is1 (h e he)).str, (is1 (h e he)).lay, Nat.le_trans (is1 (h e he)).dep (by decide)⟩⟩, fun z => (by simp [isT, tyD] at z), by simp [PyData.showable, h1], by simp [PyData.hasDict, h2], by simp only [PyData.depth]; omega, ?_⟩
  have := listText_len_le (PyData.shownAll ds)
  rw [sizeLine_eq]
  simp only [PyData.shown]
  omega
theorem good_tup {ds : List PyData} (h : ∀ e ∈ ds, Ok1 e = true) (hl : ds.length ≤ 15) : GoodD (.tuple ds) := by
  obtain ⟨h1, h2, h3, h4, h5⟩ := showAll1 h
  refine ⟨⟨(fun z hz => by cases hz), (by show ds.length ≤ 20000; omega), fun e he => ⟨(is1 (h e he)).str, (is1 (h e he)).lay, Nat.le_trans (is1 (h e he)).dep (by decide)⟩⟩, fun z => hl, by simp [PyData.showable, h1], by simp [PyData.hasDict, h2], by simp only [PyData.depth]; omega, ?_⟩
  have := tupleText_len_le (PyData.shownAll ds)
  rw [sizeLine_eq]
  simp only [PyData.shown]
  omega
/-- a thing that may be drawn -/
def dicD (kvs : List (Str × Int)) : PyData := .dict (kvs.map fun p => (.str p.1, .int p.2))
def Good (d : PyData) : Prop := GoodD d ∨ d = dicD [] ∨ d = dicD [("ab", 0)]
theorem Good.fit {d : PyData} (h : Good d) : FitO (some d) := by
  rcases h with h | rfl | rfl
  · exact h.fit
  · exact ⟨(fun z hz => by cases hz), by decide, fun e he => by cases he⟩
  · exact ⟨(fun z hz => by cases hz), by decide, fun e he => by cases he⟩
theorem Good.tup {d : PyData} (h : Good d) : isT (some d) "tuple" = true → (itemsO (some d)).length ≤ 15 := by
  rcases h with h | rfl | rfl
  · exact h.tup
  · intro _; decide
  · intro _; decide
/-- a text of plain signs -/
def asc (z : Str) : Bool := z.cps.all (· < 128)
theorem ok1_str {z : Str} (h1 : z.length ≤ 70) (h2 : asc z = true) : Ok1 (.str z) = true := by
  unfold asc at h2
  rw [Array.all_eq_true_iff_forall_mem] at h2
  have hs : PyData.strOk z = true := by
    unfold PyData.strOk
    rw [Array.all_eq_true_iff_forall_mem]
    intro c hc
    have := h2 c hc
    simp only [decide_eq_true_eq] at this ⊢
    omega
  have hl := StrLaws.reprText_len z fun c hc => by
    have := h2 c (by simpa using hc)
    simp only [decide_eq_true_eq] at this
    have e : (16 : Nat) ^ 8 = 4294967296 := by decide
    omega
  unfold Ok1 strB
  simp only [Bool.and_eq_true, decide_eq_true_eq]
  refine ⟨by simp [PyData.canLay0, hs], by simp [PyData.depth], by simp [PyData.showable], ?_, by omega, hs⟩
  simp only [PyData.shown]
  omega
theorem good_str {z : Str} (h1 : z.length ≤ 70) (h2 : asc z = true) : Good (.str z) := by
  refine .inl (good_of2 ?_)
  rw [ok1_str h1 h2]
  rfl
section
variable {X : Cx} {C : Addr}
/-- repr(x), x such a thing -/
def rReprTh (K : PySem.W.Frag) (C : Addr) : List V → Hp → VK → Prop := fun xs H Q => ∃ x d, xs = [x] ∧ Th K H C x (some d) ∧ Good d ∧ Q (.str d.shown) H
theorem call_reprTh (hf : Free X.A) (hu : X.A.units + 64 < cLine) : CallR X (.builtin "repr") (rReprTh X.K C) := by
  intro pins s σ H xs us Q I r h
  obtain ⟨x, d, rfl, ht, hg, q⟩ := h
  cases ht with
  | dat hd =>
    rcases hg with g | e | e
    · exact call_repr hf hu pins s σ H _ us Q I r ⟨x, d, rfl, hd, g.shw, g.nd, g.dep, g.len, q⟩
    · subst e; cases hd
    · subst e; cases hd
  | @dic a kvs hd =>
    obtain ⟨u, rfl, rx⟩ := vals1 r
    cases rx
    obtain ⟨hz, hsm, vs, hkv, o, es, ep, ho, hex, hdt, hks, hps, hnd⟩ := I.hok _ _ hd
    have hk : kvs = [] ∨ kvs = [(("ab" : Str), (0 : Int))] := by
      rcases hg with g | e | e
      · have := g.nd
        simp [PyData.hasDict] at this
      · refine .inl ?_
        cases kvs with
        | nil => rfl
        | cons p r => simp [dicD] at e
      · refine .inr ?_
        cases kvs with
        | nil => simp [dicD] at e
        | cons p r =>
          cases r with
          | nil =>
            simp [dicD] at e
            rw [show p = (p.1, p.2) from rfl, e.1, e.2]
          | cons p2 r => simp [dicD] at e
    have rd : Reads s.heap (.ref a) (dicD kvs) (a :: [] ++ []) := by
      rcases hk with rfl | rfl
      · cases hkv
        have e0 : es.toList = [] := by
          cases h0 : es.toList with
          | nil => rfl
          | cons e r =>
            rw [h0] at hps
            cases hps
        refine Reads.dict ho hex.1 hdt ?_ ?_
        · rw [e0]; exact .nil
        · rw [e0]; exact .nil
      · cases hkv with
        | cons r1 r2 =>
          cases r2
          obtain ⟨r1a, r1b⟩ := r1
          rename_i q1
          obtain ⟨qk, qv⟩ := q1
          cases r1a
          obtain ⟨tk, rfl⟩ := r1b
          cases h0 : es.toList with
          | nil => rw [h0] at hps; cases hps
          | cons e r =>
            rw [h0] at hps
            cases hps with
            | cons h1 h2 h3 =>
              cases h3
              obtain ⟨t2, ek⟩ : ∃ t2, e.key = .str "ab" t2 := by
                rcases keyIs_shape (k := Sum.inr "ab") h1 with ⟨i, t, e1, e2⟩ | ⟨x, t, e1, e2⟩
                · cases e1
                · cases e1
                  exact ⟨t, e2⟩
              refine Reads.dict (as := []) (bs := []) ho hex.1 hdt ?_ ?_
              · rw [h0]
                show ReadsAll s.heap [e.key] [.str "ab"] []
                rw [ek]
                exact ReadsAll.cons (as := []) (bs := []) (.str _ _) .nil
              · rw [h0]
                show ReadsAll s.heap [e.val] [.int 0] []
                rw [h2]
                exact ReadsAll.cons (as := []) (bs := []) (.int _ _) .nil
    have facts : (dicD kvs).showable = true ∧ (dicD kvs).depth ≤ 60 ∧ (dicD kvs).shown.length ≤ sizeLine := by
      rcases hk with rfl | rfl
      · exact ⟨by decide +kernel, by decide +kernel, by decide +kernel⟩
      · exact ⟨by decide +kernel, by decide +kernel, by decide +kernel⟩
    refine repr_of_reads' rd facts.1 (fun _ hm => ?_) hf (by have := facts.2.1; omega) (fun _ _ e => e) (fun h' u tk hk => ?_) facts.2.2
    · have : _ := beq_eq_false_iff_ne.mp hsm
      simp at hm
      exact this hm.symm
    · exact ⟨.str _, H, I.kept hk, ⟨_, rfl⟩, q⟩
end
end My

set_option Elab.async false
set_option linter.all false
set_option maxRecDepth 100000
set_option maxHeartbeats 4000000
namespace My
open PySem PySem.Spec PyProof.Rows L2
theorem atI_in {α : Type} {xs : List α} {r : Int} (h0 : 0 ≤ r) (h1 : r < (xs.length : Int)) : ∃ c, atI xs r = some c ∧ c ∈ xs := by
  have h2 : r.toNat < xs.length := by omega
  have e : ((r.toNat : Nat) : Int) = r := by omega
  have h3 : atI xs ((r.toNat : Nat) : Int) = some xs[r.toNat] := atI_nat (by rw [List.getElem?_eq_getElem h2])
  rw [e] at h3
  exact ⟨_, h3, List.getElem_mem h2⟩
theorem bag_upd {H : Hp} {p q D : Addr} {o : HO} (b : Bag H p q) (h1 : D ≠ p) (h2 : D ≠ q) : Bag (upd H D o) p q := by
  obtain ⟨c, m, i, ns, hp, hq, hne, hl⟩ := b
  exact ⟨c, m, i, ns, by rw [upd_ne h1.symm]; exact hp, by rw [upd_ne h2.symm]; exact hq, hne, hl⟩
theorem bag_same {H H' : Hp} {p q : Addr} (b : Bag H p q) (s : Same H H') : Bag H' p q := by
  obtain ⟨c, m, i, ns, hp, hq, hne, hl⟩ := b
  exact ⟨c, m, i, ns, s _ _ hp, s _ _ hq, hne, hl⟩
theorem bag_p {H : Hp} {p q D : Addr} (b : Bag H p q) (h : H D = none) : D ≠ p ∧ D ≠ q := by
  obtain ⟨c, m, i, ns, hp, hq, hne, hl⟩ := b
  exact ⟨(ne_of_none hp h).symm, (ne_of_none hq h).symm⟩
def signs : Str := "abcdefghijklmnopqrstuvwxyz ABCXYZ0123456789_-+.,:;#()[]{}<>=/\\|!?*&$@^~`\"'\n\t"
theorem asc_of {z : Str} (h : ∀ c ∈ z.cps.toList, c < 128) : asc z = true := by
  unfold asc
  rw [Array.all_eq_true_iff_forall_mem]
  intro c hc
  simp only [decide_eq_true_eq]
  exact h c (by simpa using hc)
theorem of_asc {z : Str} (h : asc z = true) : ∀ c ∈ z.cps.toList, c < 128 := by
  unfold asc at h
  rw [Array.all_eq_true_iff_forall_mem] at h
  intro c hc
  have := h c (by simpa using hc)
  simpa using this
theorem signs_asc : ∀ c ∈ signs.cps.toList, c < 128 := of_asc (by decide +kernel)
theorem asc_cut {z : Str} (lo hi : Option Int) (h : asc z = true) : asc (cutS z lo hi) = true := asc_of fun c hc => by
  unfold cutS at hc
  exact of_asc h c (List.mem_of_mem_drop (List.mem_of_mem_take (by simpa using hc)))
theorem len_cut {z : Str} (lo hi : Option Int) : (cutS z lo hi).length ≤ z.length := by
  show (cutS z lo hi).cps.size ≤ z.cps.size
  unfold cutS
  simp only [List.size_toArray, List.length_take, List.length_drop, Array.length_toList]
  omega
theorem asc_app {a b : Str} (h1 : asc a = true) (h2 : asc b = true) : asc (a ++ b) = true := asc_of fun c hc => by
  have e : (a ++ b).cps = a.cps ++ b.cps := rfl
  rw [e, Array.toList_append, List.mem_append] at hc
  rcases hc with hc | hc
  · exact of_asc h1 c hc
  · exact of_asc h2 c hc
theorem len_app (a b : Str) : (a ++ b).length = a.length + b.length := by
  show (a.cps ++ b.cps).size = _
  rw [Array.size_append]; rfl
def oneS (c : Nat) : Str := ⟨#[c]⟩
theorem asc_one {c : Nat} (h : c < 128) : asc (oneS c) = true := asc_of fun x hx => by
  have e : x = c := by simpa [oneS] using hx
  rw [e]; exact h
theorem joinL_ones : ∀ cs : List Nat, TL.joinL [] ((cs.map oneS).map TL.tl) = cs
  | [] => rfl
  | [c] => rfl
  | c :: d :: r => by
    have ih := joinL_ones (d :: r)
    show TL.tl (oneS c) ++ ([] ++ TL.joinL [] (((d :: r).map oneS).map TL.tl)) = _
    rw [ih]
    rfl
theorem join_ones (cs : List Nat) : Txt.join "" (cs.map oneS) = ⟨cs.toArray⟩ := by
  refine TL.ext_tl ?_
  rw [TL.join_eq, TL.tl_join]
  show TL.joinL [] ((cs.map oneS).map TL.tl) = _
  rw [joinL_ones]
theorem scNearName : FnScope ["_law_bag_here", "_law_signs", "_law_name", "_law_at", "_law_style", "_law_k"] ["_law_bag_here"] (defScope sNearName) := ⟨rfl, rfl, rfl, by decide +kernel, rfl, by decide +kernel, by decide +kernel⟩
def spNear : Sp := fun vs H Q _ => ∃ p q, vs = [.ref p] ∧ Bag H p q ∧ ∀ z H', Bag H' p q → Keep p H H' → z.length ≤ 20 → asc z = true → Q (.str z) H'
section
variable {P : Program} {w : World} {K : PySem.W.Frag} {mg : Str → Option Value} {base : Heap} {C : Addr}
abbrev CalTake (P : Program) (w : World) (K : PySem.W.Frag) (mg : Str → Option Value) (base : Heap) : Prop := Cal P w K mg base "_law_take" 1 ["_law_bag_here", "_law_many"] spTake
theorem ok_nearName {f : Addr} {fd : FuncData} (F : Fun K "_law_near_name" "_law_near_name" sNearName f fd) (N : Bare mg) (hR : mg "range" = none) (T : CalTake P w K mg base) :
    FnOk P w K mg base CX0 2 f fd ["_law_bag_here"] spNear := by
  refine F.ok scNearName (fun vs H Q E h => ?_) (fun cdv A outer s H vs Q E hr h => ?_)
  · obtain ⟨p, q, rfl, _⟩ := h
    rfl
  · obtain ⟨p, q, rfl, B, k⟩ := h
    refine ⟨_, pss_cons (ps_set (i := 1) scNearName.nd rfl (Or.inr rfl) pe_str)
      (C8.pss_cut (ps_set (i := 2) scNearName.nd rfl (Or.inl rfl) (pe_join pe_str
        (pe_lc (own := [("_law_k", 5)]) (g := gName 5) (tt := tYes) rfl scNearName.nd (pi_range1 rfl hR (pa_cons (pe_op op_add pe_int (pe_cal T hr rfl (pa_cons (pv 0) (pa_cons pe_int pa_nil)))) pa_nil))
        (blkOk_by (N := ["_law_bag_here", "_law_signs", "_law_name", "_law_at", "_law_style", "_law_k"]) (sc := defScope sNearName) (by decide +kernel)) (fun _ _ _ _ _ => pg_name (i := 5) scNearName.nd rfl (Or.inl rfl)) (fun _ _ _ _ _ => pts_nil)
        (fun _ _ _ _ _ => pe_ix ix_str (pv 1) (pe_cal T hr rfl (pa_cons (pv 0) (pa_cons pe_int pa_nil))) (fun _ _ => rfl)))))
      (pss_cons (ps_set (i := 3) scNearName.nd rfl (Or.inl rfl) (pe_cal T hr rfl (pa_cons (pv 0) (pa_cons (pe_callB call_len rfl N.len PySem.boot_len (pa_cons (pv 2) pa_nil)) pa_nil))))
      (pss_cons (ps_set (i := 4) scNearName.nd rfl (Or.inl rfl) (pe_cal T hr rfl (pa_cons (pv 0) (pa_cons pe_int pa_nil))))
      (pss_cons (ps_if (pt_cmpR op_eq (pv 4) pe_int (nomark _)) (pss_one (ps_ret (pe_op op_add_str (pe_op op_add_str (pe_slice sl_str (pv 2) po_none (po_some (pv 3))) (pe_ix ix_str (pv 1) (pe_cal T hr rfl (pa_cons (pv 0) (pa_cons (pe_callB call_len rfl N.len PySem.boot_len (pa_cons (pv 1) pa_nil)) pa_nil))) (fun _ _ => rfl))) (pe_slice sl_str (pv 2) (po_some (pe_op op_add (pv 3) pe_int)) po_none)))) pss_nil)
      (pss_cons (ps_if (pt_cmpR op_eq (pv 4) pe_int (nomark _)) (pss_one (ps_ret (pe_op op_add_str (pe_op op_add_str (pe_slice sl_str (pv 2) po_none (po_some (pv 3))) (pe_ix ix_str (pv 1) (pe_cal T hr rfl (pa_cons (pv 0) (pa_cons (pe_callB call_len rfl N.len PySem.boot_len (pa_cons (pv 1) pa_nil)) pa_nil))) (fun _ _ => rfl))) (pe_slice sl_str (pv 2) (po_some (pv 3)) po_none)))) pss_nil)
      (pss_one (ps_ret (pv 2)))))))), ?_⟩
    refine ⟨fun σ H' => ∃ z, σ = [some (.ref p), some (.str signs), some (.str z), none, none, none] ∧ Bag H' p q ∧ Keep p H H' ∧ 1 ≤ z.length ∧ z.length ≤ 9 ∧ asc z = true, ?_, ?_⟩
    · have e62 : (2 : Int) ^ 62 = 4611686018427387904 := by decide
      refine ⟨⟨_, rfl⟩, ?_⟩
      refine ⟨_, rfl, p, q, 9, rfl, B, by decide, by decide, fun r H2 h0 h9 B2 K2 => ⟨_, _, rfl, rfl, _, rfl, (by omega), (by omega), fun D hD =>
        lcY walk_range (fun i ys H1 => Bag H1 p q ∧ Keep p H2 H1 ∧ ∃ cs : List Nat, ys = cs.map (fun c => V.str (oneS c)) ∧ ∀ c ∈ cs, c < 128) (fun _ => rfl) ?_ (fun _ _ _ _ _ => trivial) ?_ ?_⟩⟩
      · exact ⟨bag_upd B2 (bag_p B2 hD).1 (bag_p B2 hD).2, keep_same (same_upd hD), [], rfl, fun c hc => nomatch hc⟩
      · rintro i x ys H3 H4 hi hl e ⟨B3, k3, cs, rfl, hc⟩ ⟨rfl, rfl⟩
        refine ⟨_, rfl, _, rfl, p, q, 26, rfl, B3, by decide, by decide, fun r2 H5 g0 g26 B5 k5 => ?_⟩
        have hsl : signs.cps.toList.length = 76 := by decide +kernel
        obtain ⟨c, hc1, hc2⟩ := atI_in (xs := signs.cps.toList) g0 (by rw [hsl]; omega)
        have nD := bag_p B2 hD
        refine ⟨signs, r2, c, rfl, rfl, (by decide +kernel), hc1, lc_next (k5 D _ nD.1 e) hl hi (by omega) ⟨bag_upd B5 nD.1 nD.2, fun b o nb e2 => ?_, cs ++ [c], by rw [List.map_append]; rfl, fun x hx => ?_⟩⟩
        · rw [upd_ne (ne_of_none e2 hD)]
          exact k5 b o nb (k3 b o nb e2)
        · rcases List.mem_append.mp hx with hx | hx
          · exact hc x hx
          · rw [List.mem_singleton.mp hx]
            exact signs_asc c hc2
      · rintro ys H3 hl e ⟨B3, k3, cs, rfl, hc⟩
        rw [List.length_map] at hl
        have hsum : (((cs.map oneS).map (·.length)).sum) = cs.length := by
          clear hl e hc
          induction cs with
          | nil => rfl
          | cons c r ih =>
            simp only [List.map_cons, List.sum_cons, List.length_cons, ih]
            show 1 + r.length = _
            omega
        refine ⟨"", D, cs.map oneS, rfl, rfl, .inl (SqL.of (by rw [List.map_map]; exact e)), ?_, ?_⟩
        · rw [hsum]
          show cs.length + _ * 0 ≤ _
          omega
        · rw [join_ones]
          refine ⟨_, rfl, B3, K2.trans k3, ?_, ?_, asc_of fun c hc2 => hc c (by simpa using hc2)⟩
          · show 1 ≤ cs.toArray.size
            rw [List.size_toArray]; omega
          · show cs.toArray.size ≤ 9
            rw [List.size_toArray]; omega
    · rintro σ H1 ⟨z, rfl, B1, k1, h1, h9, ha⟩
      have hsl : signs.cps.toList.length = 76 := by decide +kernel
      have hsz : signs.length = 76 := by decide +kernel
      have hzl : z.length ≤ sizeLine := by rw [sizeLine_eq]; omega
      refine ⟨_, rfl, _, rfl, _, _, rfl, ⟨hzl, rfl⟩, p, q, _, rfl, B1, by omega, by omega, fun at_ H2 a0 a1 B2 k2 => ?_⟩
      refine ⟨_, rfl, p, q, 5, rfl, B2, by decide, by decide, fun st H3 s0 s1 B3 k3 => ?_⟩
      have kp3 : Keep p H H3 := (k1.trans k2).trans k3
      have fin : ∀ (a b : Str) (c : Nat) H4, Bag H4 p q → Keep p H3 H4 → c < 128 → asc a = true → asc b = true → a.length + b.length ≤ 18 → Q (.str (a ++ oneS c ++ b)) H4 := fun a b c H4 b4 k4 hc ha hb hl => by
        refine k _ H4 b4 (kp3.trans k4) ?_ (asc_app (asc_app ha (asc_one hc)) hb)
        rw [len_app, len_app]
        show a.length + 1 + b.length ≤ 20
        omega
      have l1 := fun lo hi => len_cut (z := z) lo hi
      have c1 := fun lo hi => asc_cut (z := z) lo hi ha
      have draw : ∀ H4 (Q1 : VK), Bag H4 p q → (∀ c H5, Bag H5 p q → Keep p H4 H5 → c < 128 → Q1 (.str (oneS c)) H5) →
          spTake [.ref p, .int ((signs.length : Nat) : Int)] H4 (fun r H5 => rIxS (.str signs) r H5 Q1) E0 := fun H4 Q1 b4 hQ =>
        ⟨p, q, _, rfl, b4, by rw [hsz]; decide, by rw [hsz]; decide, fun r H5 g0 g1 b5 k5 => by
          obtain ⟨c, hc1, hc2⟩ := atI_in (xs := signs.cps.toList) g0 (by rw [hsl]; rw [hsz] at g1; exact g1)
          exact ⟨signs, r, c, rfl, rfl, (by decide +kernel), hc1, hQ c H5 b5 k5 (signs_asc c hc2)⟩⟩
      have b20 : ∀ a b : Str, a.length ≤ 20 → b.length ≤ 20 → a.length + b.length ≤ sizeLine := fun a b h1 h2 => by rw [sizeLine_eq]; omega
      have b9 : ∀ lo hi, (cutS z lo hi).length ≤ 9 := fun lo hi => Nat.le_trans (l1 lo hi) h9
      have o1 : ∀ c, (oneS c).length = 1 := fun c => rfl
      refine ⟨_, rfl, rfl, _, rfl, ?_⟩
      refine ite2 (fun e => ?_) (fun e => ?_)
      · refine ⟨_, rfl, _, rfl, _, rfl, z, rfl, hzl, _, rfl, _, rfl, _, rfl, _, _, rfl, ⟨by decide +kernel, rfl⟩, draw H3 _ B3 fun c H4 B4 k4 hc => ?_⟩
        refine ⟨_, _, rfl, rfl, b20 _ _ (Nat.le_trans (b9 _ _) (by decide)) (by rw [o1]; decide), _, rfl, _, rfl, _, _, rfl, rfl, _, rfl, z, rfl, hzl, _, _, rfl, rfl, b20 _ _ ?_ (Nat.le_trans (b9 _ _) (by decide)), ?_⟩
        · rw [len_app, o1]
          have := b9 none (some at_)
          omega
        · exact fin _ _ c _ B4 k4 hc (c1 _ _) (c1 _ _) (by have := b9 none (some at_); have := b9 (some (at_ + 1)) none; omega)
      refine ⟨_, rfl, rfl, _, rfl, ?_⟩
      refine ite2 (fun e => ?_) (fun e => ?_)
      · refine ⟨_, rfl, _, rfl, _, rfl, z, rfl, hzl, _, rfl, _, rfl, _, rfl, _, _, rfl, ⟨by decide +kernel, rfl⟩, draw H3 _ B3 fun c H4 B4 k4 hc => ?_⟩
        refine ⟨_, _, rfl, rfl, b20 _ _ (Nat.le_trans (b9 _ _) (by decide)) (by rw [o1]; decide), _, rfl, _, rfl, _, rfl, z, rfl, hzl, _, _, rfl, rfl, b20 _ _ ?_ (Nat.le_trans (b9 _ _) (by decide)), ?_⟩
        · rw [len_app, o1]
          have := b9 none (some at_)
          omega
        · exact fin _ _ c _ B4 k4 hc (c1 _ _) (c1 _ _) (by have := b9 none (some at_); have := b9 (some at_) none; omega)
      · exact ⟨_, rfl, k z H3 B3 kp3 (by omega) ha⟩
end
end My

set_option Elab.async false
set_option linter.all false
set_option maxRecDepth 100000
set_option maxHeartbeats 4000000
namespace My
open PySem PySem.Spec PyProof.Rows L2
theorem atI_at {α : Type} {xs : List α} {r : Int} (h0 : 0 ≤ r) (h1 : r < (xs.length : Int)) : ∃ c, ixN xs.length r = some r.toNat ∧ xs[r.toNat]? = some c ∧ atI xs r = some c := by
  have h2 : r.toNat < xs.length := by omega
  have e : ixN xs.length r = some r.toNat := by
    unfold ixN
    rw [if_pos h0, if_pos h1]
  refine ⟨xs[r.toNat], e, List.getElem?_eq_getElem h2, ?_⟩
  unfold atI
  rw [e]
  exact List.getElem?_eq_getElem h2
theorem pick {K : PySem.W.Frag} {H : Hp} {xs : List V} {ds : List PyData} {r : Int} (h : DpAll K H xs ds) (h0 : 0 ≤ r) (h1 : r < (xs.length : Int)) : ∃ v d, atI xs r = some v ∧ Dp K H v d ∧ d ∈ ds := by
  obtain ⟨c, _, h3, h4⟩ := atI_at h0 h1
  obtain ⟨d, hd, hp⟩ := dpAll_at h h3
  exact ⟨c, d, h4, hp, List.mem_of_getElem? hd⟩
theorem dpAll_set {K : PySem.W.Frag} {H : Hp} {v : V} {d : PyData} (hv : Dp K H v d) : ∀ {xs : List V} {ds : List PyData} (j : Nat), DpAll K H xs ds → DpAll K H (xs.set j v) (ds.set j d)
  | _, _, _, .nil => by simp; exact .nil
  | _, _, 0, .cons _ t => .cons hv t
  | _, _, j + 1, .cons h t => .cons h (dpAll_set hv j t)
theorem dp_ints {K : PySem.W.Frag} {H : Hp} : ∀ ks : List Int, DpAll K H (ks.map V.int) (ks.map PyData.int)
  | [] => .nil
  | k :: r => .cons (.int k) (dp_ints r)
/-- what a drawing def leads to -/
def spDraw (K : PySem.W.Frag) (C : Addr) : Sp := fun vs H Q _ => ∃ p q, vs = [.ref p] ∧ Bag H p q ∧ ∀ x d H', Bag H' p q → Keep p H H' → Th K (Off (Nw p H) H') C x (some d) → Good d → Q x H'
theorem scNearAddr : FnScope ["_law_bag_here", "_law_found", "_law_k"] ["_law_bag_here"] (defScope sNearAddr) := ⟨rfl, rfl, rfl, by decide +kernel, rfl, by decide +kernel, by decide +kernel⟩
section
variable {P : Program} {w : World} {K : PySem.W.Frag} {mg : Str → Option Value} {base : Heap} {C : Addr}
theorem ok_nearAddr {f : Addr} {fd : FuncData} (F : Fun K "_law_near_address" "_law_near_address" sNearAddr f fd) (N : Bare mg) (hR : mg "range" = none) (hT : mg "tuple" = none) (T : CalTake P w K mg base) :
    FnOk P w K mg base CX0 2 f fd ["_law_bag_here"] (spDraw K C) := by
  refine F.ok scNearAddr (fun vs H Q E h => ?_) (fun cdv A outer s H vs Q E hr h => ?_)
  · obtain ⟨p, q, rfl, _⟩ := h
    rfl
  · obtain ⟨p, q, rfl, B, k⟩ := h
    refine ⟨_, C8.pss_cut (ps_setLc (i := 1) (own := [("_law_k", 2)]) (g := gName 2) (tt := tYes) rfl scNearAddr.nd rfl rfl (sw_true rfl rfl rfl (by decide +kernel)) (pi_range1 rfl hR (pa_cons (pe_cal T hr rfl (pa_cons (pv 0) (pa_cons pe_int pa_nil))) pa_nil))
        (blkOk_by (N := ["_law_bag_here", "_law_found", "_law_k"]) (sc := defScope sNearAddr) (by decide +kernel)) (fun _ _ _ _ _ => pg_name (i := 2) scNearAddr.nd rfl (Or.inl rfl)) (fun _ _ _ _ _ => pts_nil)
        (fun _ _ _ _ _ => pe_ix (r := rIxL K) ix_list (pe_lst (pa_cons pe_int (pa_cons pe_int (pa_cons pe_int (pa_cons pe_int pa_nil))))) (pe_cal T hr rfl (pa_cons (pv 0) (pa_cons pe_int pa_nil))) (fun _ _ => rfl)))
      (C8.pss_cut (ps_if (PW.pt (pw_and (pt_cmpR (op_neD hr.units) (pv 1) (pe_lst pa_nil) (nomark _)) (pw_and1 (pt_cmpR op_eq (pe_cal T hr rfl (pa_cons (pv 0) (pa_cons pe_int pa_nil))) pe_int (nomark _)))))
        (pss_one (ps_asg (pe_ix ix_list (pe_lst (pa_cons (pe_un un_neg pe_int) (pa_cons pe_bl (pa_cons pe_bl (pa_cons pe_non (pa_cons pe_str (pa_cons (pe_op op_pow pe_int pe_int) (pa_cons (pe_tup (pa_cons pe_int pa_nil)) (pa_cons (pe_lst pa_nil) pa_nil))))))))) (pe_cal T hr rfl (pa_cons (pv 0) (pa_cons pe_int pa_nil))) (fun _ _ => rfl))
          (pg_sub (pv 1) (pe_cal T hr rfl (pa_cons (pv 0) (pa_cons (pe_callB call_len rfl N.len PySem.boot_len (pa_cons (pv 1) pa_nil)) pa_nil))) set_list))) pss_nil)
      (pss_one (ps_ret (pe_ifExp (pt_cmpR op_gt (pe_cal T hr rfl (pa_cons (pv 0) (pa_cons pe_int pa_nil))) pe_int (nomark _)) (pe_callTy call_tuple_of rfl hT (by decide +kernel) (pa_cons (pv 1) pa_nil)) (pv 1))))), ?_⟩
    refine ⟨fun σ H' => ∃ D ks, σ = [some (.ref p), some (.ref D), none] ∧ Bag H' p q ∧ Keep p H H' ∧ H D = none ∧ H' D = some (.lst (List.map V.int ks)) ∧ ks.length ≤ 11 ∧ ∀ k ∈ ks, Ok1 (.int k) = true, ?_, ?_⟩
    · have e62 : (2 : Int) ^ 62 = 4611686018427387904 := by decide
      refine ⟨_, rfl, p, q, 12, rfl, B, by decide, by decide, fun r H2 h0 h9 B2 K2 => ⟨_, rfl, (by omega), (by omega), fun D hD =>
        lcY walk_range (fun i ys H1 => Bag H1 p q ∧ Keep p H2 H1 ∧ ∃ ks : List Int, ys = ks.map V.int ∧ ∀ k ∈ ks, Ok1 (.int k) = true) (fun _ => rfl) ?_ (fun _ _ _ _ _ => trivial) ?_ ?_⟩⟩
      · exact ⟨bag_upd B2 (bag_p B2 hD).1 (bag_p B2 hD).2, keep_same (same_upd hD), [], rfl, fun c hc => nomatch hc⟩
      · rintro i x ys H3 H4 hi hl e ⟨B3, k3, ks, rfl, hc⟩ ⟨rfl, rfl⟩
        have nD := bag_p B2 hD
        refine ⟨(by show 4 ≤ sizeLine; decide), fun L hL => ?_⟩
        have nL := bag_p B3 hL
        refine ⟨_, rfl, p, q, 4, rfl, bag_upd B3 nL.1 nL.2, by decide, by decide, fun r2 H5 g0 g26 B5 k5 => ?_⟩
        obtain ⟨c, hc1, hc2⟩ := atI_in (xs := [V.int 0, V.int 1, V.int 2, V.int 30]) g0 (by show r2 < 4; omega)
        obtain ⟨k, rfl, hk⟩ : ∃ k, c = .int k ∧ Ok1 (.int k) = true := by
          simp only [List.mem_cons, List.not_mem_nil, or_false] at hc2
          rcases hc2 with rfl | rfl | rfl | rfl
          · exact ⟨0, rfl, by decide +kernel⟩
          · exact ⟨1, rfl, by decide +kernel⟩
          · exact ⟨2, rfl, by decide +kernel⟩
          · exact ⟨30, rfl, by decide +kernel⟩
        have nLD : L ≠ D := fun z => by rw [z, e] at hL; cases hL
        refine ⟨L, _, r2, _, rfl, rfl, SqL.of (k5 L _ nL.1 upd_same), hc1, lc_next (k5 D _ nD.1 (by rw [upd_ne nLD.symm]; exact e)) hl hi (by omega) ⟨bag_upd B5 nD.1 nD.2, fun b o nb e2 => ?_, ks ++ [k], by rw [List.map_append]; rfl, fun x hx => ?_⟩⟩
        · rw [upd_ne (ne_of_none e2 hD)]
          have e3 := k3 b o nb e2
          exact k5 b o nb (by rw [upd_ne (ne_of_none e3 hL)]; exact e3)
        · rcases List.mem_append.mp hx with hx | hx
          · exact hc x hx
          · rw [List.mem_singleton.mp hx]
            exact hk
      · rintro ys H3 hl e ⟨B3, k3, ks, rfl, hc⟩
        rw [List.length_map] at hl
        have nD := bag_p B2 hD
        refine ⟨D, ks, rfl, B3, K2.trans k3, ?_, e, by omega, hc⟩
        cases e0 : H D with
        | none => rfl
        | some o =>
          have := K2 D o nD.1 e0
          rw [hD] at this
          cases this
    rintro σ H1 ⟨D, ks, rfl, B1, k1, hD, eD, hl, hk⟩
    have nDp : D ≠ p ∧ D ≠ q := ⟨(bag_p B hD).1, (bag_p B hD).2⟩
    have nwD : ¬ Nw p H D := nw (fun _ _ _ e => e) nDp.1 hD
    refine ⟨fun σ H' => ∃ xs ds, σ = [some (.ref p), some (.ref D), none] ∧ Bag H' p q ∧ Keep p H H' ∧ H' D = some (.lst xs) ∧ DpAll K (Off (Nw p H) H') xs ds ∧ ds.length ≤ 11 ∧ ∀ d ∈ ds, Ok1 d = true, ?_, ?_⟩
    · refine ⟨_, rfl, by decide, fun L hL => ?_⟩
      have sL := same_upd (o := .lst []) hL
      have nL := bag_p B1 hL
      have keepN : ∀ H', Bag H' p q → Keep p H1 H' → ∃ xs ds, ([some (.ref p), some (.ref D), none] : L2.St) = [some (.ref p), some (.ref D), none] ∧ Bag H' p q ∧ Keep p H H' ∧ H' D = some (.lst xs) ∧ DpAll K (Off (Nw p H) H') xs ds ∧ ds.length ≤ 11 ∧ ∀ d ∈ ds, Ok1 d = true := fun H' b' k' =>
        ⟨_, _, rfl, b', k1.trans k', k' D _ nDp.1 eD, dp_ints ks, by rw [List.length_map]; exact hl, fun d hd => by obtain ⟨i, hi, rfl⟩ := List.mem_map.mp hd; exact hk i hi⟩
      refine ⟨.list (ks.map .int), .list [], .lst (SqL.of (sL _ _ eD)) (dp_ints ks), .lst (SqL.of upd_same) .nil, shaped_list (fun d hd => by obtain ⟨i, hi, rfl⟩ := List.mem_map.mp hd; exact ⟨(is1 (hk i hi)).lay, Nat.le_trans (is1 (hk i hi)).dep (by decide)⟩), shaped_list (by simp), _, rfl, ?_⟩
      rw [eqvAll_nil]
      refine ite2 (fun c1 => ?_) (fun c1 => iteF (keepN _ (bag_upd B1 nL.1 nL.2) (keep_same sL)))
      have hpos : 0 < ks.length := by
        cases ks with
        | nil => simp at c1
        | cons _ _ => simp
      refine ⟨_, rfl, p, q, 3, rfl, bag_upd B1 nL.1 nL.2, by decide, by decide, fun r3 H3 _ _ B3 k3 => ⟨rfl, _, rfl, ite2 (fun _ => ?_) (fun _ => keepN _ B3 ((keep_same sL).trans k3))⟩⟩
      have kp3 : Keep p H1 H3 := (keep_same sL).trans k3
      refine ⟨_, rfl, _, _, rfl, rfl, ⟨by decide, by decide, by decide⟩, (by show 1 ≤ sizeLine; decide), fun T1 hT => ⟨(by show 0 ≤ sizeLine; decide), fun L2 hL2 => ⟨(by show 8 ≤ sizeLine; decide), fun L3 hL3 => ?_⟩⟩⟩
      have sT := same_upd (o := .tup [.int 0]) hT
      have s2 := same_upd (o := .lst []) hL2
      have s3 := same_upd (o := .lst [.int (-1), .bl true, .bl false, .non, .str "0", .int (10 ^ Int.toNat 39), .ref T1, .ref L2]) hL3
      have s13 := (sT.trans s2).trans s3
      have BT := bag_p B3 hT
      have BL2 := bag_p (bag_upd (o := .tup [.int 0]) B3 BT.1 BT.2) hL2
      have BL3 := bag_p (bag_upd (o := .lst []) (bag_upd (o := .tup [.int 0]) B3 BT.1 BT.2) BL2.1 BL2.2) hL3
      refine ⟨_, rfl, p, q, 8, rfl, bag_same B3 s13, by decide, by decide, fun r5 H5 g0 g8 B5 k5 => ?_⟩
      have eD3 := kp3 D _ nDp.1 eD
      have nTD : T1 ≠ D := (ne_of_none eD3 hT).symm
      have nL2D : L2 ≠ D := (ne_of_none (sT _ _ eD3) hL2).symm
      have dall : DpAll K (Off (fun b => b = D) (Off (Nw p H) H5)) [.int (-1), .bl true, .bl false, .non, .str "0", .int (10 ^ Int.toNat 39), .ref T1, .ref L2] [.int (-1), .bool true, .bool false, .none, .str "0", .int (10 ^ Int.toNat 39), .tuple [.int 0], .list []] :=
        .cons (.int _) (.cons (.bl _) (.cons (.bl _) (.cons .non (.cons (.str _) (.cons (.int _) (.cons (.tup (SqT.of (off_of nTD (off_of (nw (k1.trans kp3) BT.1 hT) (k5 _ _ BT.1 (s3 _ _ (s2 _ _ upd_same)))))) (.cons (.int 0) .nil)) (.cons (.lst (SqL.of (off_of nL2D (off_of (nw ((k1.trans kp3).trans (keep_same sT)) BL2.1 hL2) (k5 _ _ BL2.1 (s3 _ _ upd_same))))) .nil) .nil)))))))
      obtain ⟨v, dv, hv1, hv2, hv3⟩ := pick dall g0 (by show r5 < 8; omega)
      have hok : Ok1 dv = true := by
        have hz : ([.int (-1), .bool true, .bool false, .none, .str "0", .int (10 ^ Int.toNat 39), .tuple [.int 0], .list []] : List PyData).all Ok1 = true := by decide +kernel
        exact List.all_eq_true.mp hz dv hv3
      have kp5 : Keep p H1 H5 := (kp3.trans (keep_same s13)).trans k5
      refine ⟨L3, _, r5, v, rfl, rfl, SqL.of (k5 _ _ BL3.1 upd_same), hv1, ?_⟩
      have eD5 := kp5 D _ nDp.1 eD
      refine ⟨_, rfl, _, rfl, _, rfl, _, _, rfl, Or.inl ⟨_, SqL.of eD5, rfl⟩, p, q, _, rfl, B5, by rw [List.length_map]; omega, by rw [List.length_map]; omega, fun r6 H6 j0 j1 B6 k6 => ?_⟩
      have eD6 := k6 D _ nDp.1 eD5
      obtain ⟨_, hj, _, _⟩ := atI_at j0 j1
      refine ⟨D, _, r6, _, rfl, rfl, eD6, hj, (List.map V.int ks).set r6.toNat v, (List.map PyData.int ks).set r6.toNat dv, rfl, bag_upd B6 nDp.1 nDp.2, ?_, upd_same, ?_, ?_, ?_⟩
      · intro b o nb e
        rw [upd_ne (ne_of_none e hD)]
        exact k6 b o nb (kp5 b o nb (k1 b o nb e))
      · refine dpAll_set (dp_mono (fun b o e => ?_) hv2) _ (dp_ints ks)
        have e1 := off_le b o e
        have nbD : b ≠ D := off_not (S := fun b => b = D) e
        have nb := off_not e1
        refine off_of nb ?_
        rw [upd_ne nbD]
        exact k6 b o (fun z => nb (.inl z)) (off_le b o e1)
      · rw [List.length_set, List.length_map]; exact hl
      · intro d hd
        rcases List.mem_or_eq_of_mem_set hd with hd | rfl
        · obtain ⟨i, hi, rfl⟩ := List.mem_map.mp hd
          exact hk i hi
        · exact hok
    rintro σ H2 ⟨xs, ds, rfl, B2, k2, eD2, hda, hl2, hd2⟩
    refine ⟨_, rfl, p, q, 8, rfl, B2, by decide, by decide, fun r H3 r0 r1 B3 k3 => ⟨_, _, rfl, rfl, _, rfl, ?_⟩⟩
    have e3 := k3 D _ nDp.1 eD2
    have hda3 := dpAll_mono (off_keep k3 (.inl rfl)) hda
    refine ite2 (fun _ => ?_) (fun _ => ?_)
    · refine ⟨_, rfl, D, xs, rfl, .inl ⟨SqL.of e3, fun l hl => ?_⟩⟩
      have nl := bag_p B3 hl
      have ks3 := keep_same (p := p) (same_upd (o := .tup xs) hl)
      exact k _ (.tuple ds) _ (bag_upd B3 nl.1 nl.2) ((k2.trans k3).trans ks3) (.dat (.tup (SqT.of (off_of (nw (k2.trans k3) nl.1 hl) upd_same)) (dpAll_mono (off_keep ks3 (.inl rfl)) hda3))) (.inl (good_tup hd2 (by omega)))
    · exact ⟨_, rfl, k _ (.list ds) _ B3 (k2.trans k3) (.dat (.lst (SqL.of (off_of nwD e3)) hda3)) (.inl (good_list hd2 (by omega)))⟩
end
end My

set_option Elab.async false
set_option linter.all false
set_option maxRecDepth 100000
set_option maxHeartbeats 4000000
namespace My
open PySem PySem.Spec PyProof.Rows L2
inductive ThAll (K : PySem.W.Frag) (H : Hp) (C : Addr) : List V → Prop
  | nil : ThAll K H C []
  | cons {x : V} {d : PyData} {xs : List V} : Th K H C x (some d) → Good d → ThAll K H C xs → ThAll K H C (x :: xs)
theorem thAll_at {K : PySem.W.Frag} {H : Hp} {C : Addr} : ∀ {xs : List V} {i : Nat} {x : V}, ThAll K H C xs → xs[i]? = some x → ∃ d, Th K H C x (some d) ∧ Good d
  | _, _, _, .nil, e => by simp at e
  | _, 0, _, .cons h g _, e => by
    obtain rfl := Option.some.inj e
    exact ⟨_, h, g⟩
  | _, i + 1, _, .cons _ _ t, e => thAll_at (i := i) t (by simpa using e)
theorem thAll_pick {K : PySem.W.Frag} {H : Hp} {C : Addr} {xs : List V} {r : Int} (h : ThAll K H C xs) (h0 : 0 ≤ r) (h1 : r < (xs.length : Int)) : ∃ v d, atI xs r = some v ∧ Th K H C v (some d) ∧ Good d := by
  obtain ⟨c, _, h3, h4⟩ := atI_at h0 h1
  obtain ⟨d, hd, hp⟩ := thAll_at h h3
  exact ⟨c, d, h4, hd, hp⟩
theorem thc {K : PySem.W.Frag} {H : Hp} {C : Addr} {x : V} {d : PyData} {xs : List V} (h : Dp K H x d) (t : ThAll K H C xs) (g : (Ok1 d && ((itemsO (some d)).all Ok1 && decide ((itemsO (some d)).length ≤ 15))) = true := by decide +kernel) : ThAll K H C (x :: xs) :=
  .cons (.dat h) (.inl (good_of2 g)) t
def spOdd (K : PySem.W.Frag) (C : Addr) : Sp := fun vs H Q _ => ∃ p q, vs = [.ref p, .str "ab"] ∧ Bag H p q ∧ ∀ x d H', Bag H' p q → Keep p H H' → Th K (Off (Nw p H) H') C x (some d) → Good d → Q x H'
theorem scOdd : FnScope ["_law_bag_here", "_law_name", "_law_odd_here"] ["_law_bag_here", "_law_name"] (defScope sOdd) := ⟨rfl, rfl, rfl, by decide +kernel, rfl, by decide +kernel, by decide +kernel⟩
section
variable {P : Program} {w : World} {K : PySem.W.Frag} {mg : Str → Option Value} {base : Heap} {C : Addr}
theorem ok_odd {f : Addr} {fd : FuncData} (F : Fun K "_law_odd" "_law_odd" sOdd f fd) (N : Bare mg) (T : CalTake P w K mg base) :
    FnOk P w K mg base CX0 2 f fd ["_law_bag_here", "_law_name"] (spOdd K C) := by
  refine F.ok scOdd (fun vs H Q E h => ?_) (fun cdv A outer s H vs Q E hr h => ?_)
  · obtain ⟨p, q, rfl, _⟩ := h
    rfl
  · obtain ⟨p, q, rfl, B, k⟩ := h
    refine ⟨_, pss_cons (ps_set (i := 2) scOdd.nd rfl (Or.inl rfl) (pe_lst (pa_cons pe_non (pa_cons pe_bl (pa_cons pe_bl (pa_cons pe_int (pa_cons pe_int (pa_cons (pe_un un_neg pe_int) (pa_cons (pe_op op_pow pe_int pe_int) (pa_cons pe_str (pa_cons (pv 1)
        (pa_cons (pe_upper (pv 1)) (pa_cons (pe_op op_add_str (pv 1) pe_str) (pa_cons pe_str (pa_cons pe_str (pa_cons pe_str pa_nil))))))))))))))))
      (pss_cons (ps_set (i := 2) scOdd.nd rfl (Or.inl rfl) (pe_op op_cat (pv 2) (pe_lst (pa_cons (pe_tup pa_nil) (pa_cons (pe_lst pa_nil) (pa_cons pe_dnewK (pa_cons (pe_tup (pa_cons (pv 1) pa_nil)) (pa_cons (pe_lst (pa_cons (pv 1) pa_nil))
        (pa_cons (pe_disp (pps_cons (pv 1) pe_int pps_nil) rfl rfl (by decide) (by decide)) (pa_cons (pe_tup (pa_cons pe_int pa_nil)) (pa_cons (pe_lst (pa_cons pe_int pa_nil)) (pa_cons (pe_tup (pa_cons pe_bl pa_nil)) (pa_cons (pe_tup (pa_cons (pe_un un_neg pe_int) pa_nil))
        (pa_cons (pe_tup (pa_cons pe_int (pa_cons pe_int pa_nil))) (pa_cons pe_str (pa_cons (pe_tup (pa_cons pe_str pa_nil)) pa_nil))))))))))))))))
      (pss_one (ps_ret (pe_ix ix_list (pv 2) (pe_cal T hr rfl (pa_cons (pv 0) (pa_cons (pe_callB call_len rfl N.len PySem.boot_len (pa_cons (pv 2) pa_nil)) pa_nil))) (fun _ _ => rfl))))), ?_⟩
    refine ⟨_, rfl, _, _, rfl, rfl, ⟨by decide, by decide, by decide⟩, _, rfl, _, rfl, ⟨_, rfl⟩, _, rfl, rfl, (by decide), _, rfl, _, _, rfl, rfl, (by decide), (by show 14 ≤ sizeLine; decide), fun A1 hA1 => ?_⟩
    refine ⟨_, rfl, (by show 0 ≤ sizeLine; decide), fun T0 hT0 => ⟨(by show 0 ≤ sizeLine; decide), fun L0 hL0 => fun D0 hD0 => ⟨_, rfl, (by show 1 ≤ sizeLine; decide), fun T1 hT1 => ⟨_, rfl, (by show 1 ≤ sizeLine; decide), fun L1 hL1 => fun D1 hD1 => ?_⟩⟩⟩⟩
    refine ⟨_, rfl, upd_same, [(Sum.inr "ab", .int 0)], rfl, by decide, (by show 1 ≤ sizeLine; decide), fun T2 hT2 => ⟨(by show 1 ≤ sizeLine; decide), fun L2 hL2 => ⟨(by show 1 ≤ sizeLine; decide), fun T3 hT3 => ⟨_, rfl, (by show 1 ≤ sizeLine; decide), fun T4 hT4 => ⟨(by show 2 ≤ sizeLine; decide), fun T5 hT5 => ⟨(by show 1 ≤ sizeLine; decide), fun T6 hT6 => ⟨(by show 13 ≤ sizeLine; decide), fun A2 hA2 => ?_⟩⟩⟩⟩⟩⟩⟩
    have sA1 := same_upd (o := .lst [.non, .bl true, .bl false, .int 0, .int 1, .int (-1), .int (10 ^ Int.toNat 40), .str "", .str "ab", .str (Txt.upper "ab"), .str (("ab" : Str) ++ "_"), .str "abcdefghi", .str "a b", .str "a1"]) hA1
    have sT0 := same_upd (o := .tup []) hT0
    have sL0 := same_upd (o := .lst []) hL0
    have sD0 := same_upd (o := .dK []) hD0
    have sT1 := same_upd (o := .tup [.str "ab"]) hT1
    have sL1 := same_upd (o := .lst [.str "ab"]) hL1
    have sD1 := same_upd2 (o := .dK (mergeK [] [(Sum.inr "ab", .int 0)])) (same_upd (o := .dK []) hD1) hD1
    have sT2 := same_upd (o := .tup [.int 0]) hT2
    have sL2 := same_upd (o := .lst [.int 0]) hL2
    have sT3 := same_upd (o := .tup [.bl true]) hT3
    have sT4 := same_upd (o := .tup [.int (-1)]) hT4
    have sT5 := same_upd (o := .tup [.int 0, .int 1]) hT5
    have sT6 := same_upd (o := .tup [.str "yes"]) hT6
    have sA2 := same_upd (o := .lst [.ref T0, .ref L0, .ref D0, .ref T1, .ref L1, .ref D1, .ref T2, .ref L2, .ref T3, .ref T4, .ref T5, .str "yes", .ref T6]) hA2
    have cA1 := sA1
    have cT0 := cA1.trans sT0
    have cL0 := cT0.trans sL0
    have cD0 := cL0.trans sD0
    have cT1 := cD0.trans sT1
    have cL1 := cT1.trans sL1
    have cD1 := cL1.trans sD1
    have cT2 := cD1.trans sT2
    have cL2 := cT2.trans sL2
    have cT3 := cL2.trans sT3
    have cT4 := cT3.trans sT4
    have cT5 := cT4.trans sT5
    have cT6 := cT5.trans sT6
    have cA2 := cT6.trans sA2
    have tT6 := sA2
    have tT5 := sT6.trans tT6
    have tT4 := sT5.trans tT5
    have tT3 := sT4.trans tT4
    have tL2 := sT3.trans tT3
    have tT2 := sL2.trans tL2
    have tD1 := sT2.trans tT2
    have tL1 := sD1.trans tD1
    have tT1 := sL1.trans tL1
    have tD0 := sT1.trans tT1
    have tL0 := sD0.trans tD0
    have tT0 := sL0.trans tL0
    have tA1 := sT0.trans tT0
    have nA1 := bag_p B hA1
    have nT0 := bag_p (bag_same B cA1) hT0
    have nL0 := bag_p (bag_same B cT0) hL0
    have nD0 := bag_p (bag_same B cL0) hD0
    have nT1 := bag_p (bag_same B cD0) hT1
    have nL1 := bag_p (bag_same B cT1) hL1
    have nD1 := bag_p (bag_same B cL1) hD1
    have nT2 := bag_p (bag_same B cD1) hT2
    have nL2 := bag_p (bag_same B cT2) hL2
    have nT3 := bag_p (bag_same B cL2) hT3
    have nT4 := bag_p (bag_same B cT3) hT4
    have nT5 := bag_p (bag_same B cT4) hT5
    have nT6 := bag_p (bag_same B cT5) hT6
    have nA2 := bag_p (bag_same B cT6) hA2
    refine ⟨A1, A2, _, _, rfl, rfl, tA1 _ _ upd_same, upd_same, (by show 14 + 13 ≤ sizeLine; decide), fun A3 hA3 => ?_⟩
    have sA3 := same_upd (o := .lst ([.non, .bl true, .bl false, .int 0, .int 1, .int (-1), .int (10 ^ Int.toNat 40), .str "", .str "ab", .str (Txt.upper "ab"), .str (("ab" : Str) ++ "_"), .str "abcdefghi", .str "a b", .str "a1"] ++ [.ref T0, .ref L0, .ref D0, .ref T1, .ref L1, .ref D1, .ref T2, .ref L2, .ref T3, .ref T4, .ref T5, .str "yes", .ref T6])) hA3
    have nA3 := bag_p (bag_same B cA2) hA3
    refine ⟨_, rfl, _, rfl, _, rfl, _, _, rfl, Or.inl ⟨_, SqL.of upd_same, rfl⟩, p, q, _, rfl, bag_same B (cA2.trans sA3), (by show (0 : Int) < 27; decide), (by show (27 : Int) < 1000000; decide), fun r H' r0 r1 B' k' => ?_⟩
    have all : ThAll K (Off (Nw p H) H') C ([.non, .bl true, .bl false, .int 0, .int 1, .int (-1), .int (10 ^ Int.toNat 40), .str "", .str "ab", .str (Txt.upper "ab"), .str (("ab" : Str) ++ "_"), .str "abcdefghi", .str "a b", .str "a1"] ++ [.ref T0, .ref L0, .ref D0, .ref T1, .ref L1, .ref D1, .ref T2, .ref L2, .ref T3, .ref T4, .ref T5, .str "yes", .ref T6]) :=
      thc .non (thc (.bl _) (thc (.bl _) (thc (.int _) (thc (.int _) (thc (.int _) (thc (.int _) (thc (.str _) (thc (.str _) (thc (.str _) (thc (.str _) (thc (.str _) (thc (.str _) (thc (.str _)
      (thc (.tup (SqT.of (off_of (nw (keep_same cA1) nT0.1 hT0) (k' _ _ nT0.1 (sA3 _ _ (tT0 _ _ upd_same))))) .nil) (thc (.lst (SqL.of (off_of (nw (keep_same cT0) nL0.1 hL0) (k' _ _ nL0.1 (sA3 _ _ (tL0 _ _ upd_same))))) .nil) (.cons (.dic [] (off_of (nw (keep_same cL0) nD0.1 hD0) (k' _ _ nD0.1 (sA3 _ _ (tD0 _ _ upd_same))))) (.inr (.inl rfl)) (thc (.tup (SqT.of (off_of (nw (keep_same cD0) nT1.1 hT1) (k' _ _ nT1.1 (sA3 _ _ (tT1 _ _ upd_same))))) (.cons (.str _) .nil)) (thc (.lst (SqL.of (off_of (nw (keep_same cT1) nL1.1 hL1) (k' _ _ nL1.1 (sA3 _ _ (tL1 _ _ upd_same))))) (.cons (.str _) .nil))
      (.cons (.dic [("ab", 0)] (off_of (nw (keep_same cL1) nD1.1 hD1) (k' _ _ nD1.1 (sA3 _ _ (tD1 _ _ upd_same))))) (.inr (.inr rfl)) (thc (.tup (SqT.of (off_of (nw (keep_same cD1) nT2.1 hT2) (k' _ _ nT2.1 (sA3 _ _ (tT2 _ _ upd_same))))) (.cons (.int _) .nil)) (thc (.lst (SqL.of (off_of (nw (keep_same cT2) nL2.1 hL2) (k' _ _ nL2.1 (sA3 _ _ (tL2 _ _ upd_same))))) (.cons (.int _) .nil)) (thc (.tup (SqT.of (off_of (nw (keep_same cL2) nT3.1 hT3) (k' _ _ nT3.1 (sA3 _ _ (tT3 _ _ upd_same))))) (.cons (.bl _) .nil)) (thc (.tup (SqT.of (off_of (nw (keep_same cT3) nT4.1 hT4) (k' _ _ nT4.1 (sA3 _ _ (tT4 _ _ upd_same))))) (.cons (.int _) .nil))
      (thc (.tup (SqT.of (off_of (nw (keep_same cT4) nT5.1 hT5) (k' _ _ nT5.1 (sA3 _ _ (tT5 _ _ upd_same))))) (.cons (.int _) (.cons (.int _) .nil))) (thc (.str _) (thc (.tup (SqT.of (off_of (nw (keep_same cT5) nT6.1 hT6) (k' _ _ nT6.1 (sA3 _ _ (tT6 _ _ upd_same))))) (.cons (.str _) .nil)) .nil))))))))))))))))))))))))))
    obtain ⟨v, d, hv1, hv2, hv3⟩ := thAll_pick all r0 r1
    exact ⟨A3, _, r, v, rfl, rfl, SqL.of (k' _ _ nA3.1 upd_same), hv1, k v d H' B' ((keep_same (cA2.trans sA3)).trans k') hv2 hv3⟩
end
end My

set_option Elab.async false
set_option linter.all false
set_option maxRecDepth 100000
set_option maxHeartbeats 4000000
namespace My
open PySem PySem.Spec PyProof.Rows L2
theorem dpAll_app {K : PySem.W.Frag} {H : Hp} {v : V} {d : PyData} (hv : Dp K H v d) : ∀ {xs : List V} {ds : List PyData}, DpAll K H xs ds → DpAll K H (xs ++ [v]) (ds ++ [d])
  | _, _, .nil => .cons hv .nil
  | _, _, .cons h t => .cons h (dpAll_app hv t)
theorem dp_strs {K : PySem.W.Frag} {H : Hp} : ∀ zs : List Str, DpAll K H (zs.map V.str) (zs.map PyData.str)
  | [] => .nil
  | z :: r => .cons (.str z) (dp_strs r)
theorem scSome : FnScope ["_law_bag_here", "_law_style", "_law_some_here", "_law_words", "_law_k"] ["_law_bag_here"] (defScope sSome) := ⟨rfl, rfl, rfl, by decide +kernel, rfl, by decide +kernel, by decide +kernel⟩
section
variable {P : Program} {w : World} {K : PySem.W.Frag} {mg : Str → Option Value} {base : Heap} {C : Addr}
theorem ok_some {f : Addr} {fd : FuncData} (F : Fun K "_law_some" "_law_some" sSome f fd) (N : Bare mg) (hR : mg "range" = none) (hT : mg "tuple" = none) (T : CalTake P w K mg base)
    (cO : Cal P w K mg base "_law_odd" 2 ["_law_bag_here", "_law_name"] (spOdd K C)) (cN : Cal P w K mg base "_law_near_name" 2 ["_law_bag_here"] spNear) (cA : Cal P w K mg base "_law_near_address" 2 ["_law_bag_here"] (spDraw K C)) :
    FnOk P w K mg base CX0 3 f fd ["_law_bag_here"] (spDraw K C) := by
  refine F.ok scSome (fun vs H Q E h => ?_) (fun cdv A outer s H vs Q E hr h => ?_)
  · obtain ⟨p, q, rfl, _⟩ := h
    rfl
  · obtain ⟨p, q, rfl, B, k⟩ := h
    have h1 : Room 1 (A.deeper (envOfC "_law_some" (defScope sSome) s.heap.objs.size f cdv)) := hr.mono (by decide)
    refine ⟨_, pss_cons (ps_set (i := 1) scSome.nd rfl (Or.inr rfl) (pe_cal T h1 rfl (pa_cons (pv 0) (pa_cons pe_int pa_nil))))
      (pss_cons (ps_if (pt_cmpR op_eq (pv 1) pe_int (nomark _)) (pss_one (ps_ret (pe_cal cO hr rfl (pa_cons (pv 0) (pa_cons pe_str pa_nil))))) pss_nil)
      (pss_cons (ps_if (pt_cmpR op_eq (pv 1) pe_int (nomark _)) (pss_one (ps_ret (pe_cal cN hr rfl (pa_cons (pv 0) pa_nil)))) pss_nil)
      (pss_cons (ps_if (pt_cmpR op_eq (pv 1) pe_int (nomark _)) (pss_one (ps_ret (pe_cal cA hr rfl (pa_cons (pv 0) pa_nil)))) pss_nil)
      (pss_cons (ps_if (pt_cmpR op_eq (pv 1) pe_int (nomark _))
        (C8.pss_cut (ps_setLc (i := 2) (own := [("_law_k", 4)]) (g := gName 4) (tt := tYes) rfl scSome.nd rfl rfl (sw_true rfl rfl rfl (by decide +kernel)) (pi_range1 rfl hR (pa_cons (pe_cal T h1 rfl (pa_cons (pv 0) (pa_cons pe_int pa_nil))) pa_nil))
            (blkOk_by (N := ["_law_bag_here", "_law_style", "_law_some_here", "_law_words", "_law_k"]) (sc := defScope sSome) (by decide +kernel)) (fun _ _ _ _ _ => pg_name (i := 4) scSome.nd rfl (Or.inl rfl)) (fun _ _ _ _ _ => pts_nil)
            (fun _ _ _ _ _ => pe_cal cN hr rfl (pa_cons (pv 0) pa_nil)))
          (pss_one (ps_ret (pe_ifExp (pt_cmpR op_eq (pe_cal T h1 rfl (pa_cons (pv 0) (pa_cons pe_int pa_nil))) pe_int (nomark _)) (pv 2) (pe_callTy call_tuple_of rfl hT (by decide +kernel) (pa_cons (pv 2) pa_nil)))))) pss_nil)
      (C8.pss_cut (ps_set (i := 3) scSome.nd rfl (Or.inr rfl) (pe_lst (pa_cons pe_str (pa_cons pe_str (pa_cons pe_str (pa_cons pe_str (pa_cons pe_str (pa_cons pe_str (pa_cons pe_str (pa_cons pe_non (pa_cons pe_bl (pa_cons (pe_tup (pa_cons pe_str pa_nil)) (pa_cons (pe_lst (pa_cons pe_str pa_nil)) pa_nil)))))))))))))
      (C8.pss_cut (ps_setLc (i := 2) (own := [("_law_k", 4)]) (g := gName 4) (tt := tYes) rfl scSome.nd rfl rfl (sw_true rfl rfl rfl (by decide +kernel)) (pi_range1 rfl hR (pa_cons (pe_cal T h1 rfl (pa_cons (pv 0) (pa_cons pe_int pa_nil))) pa_nil))
            (blkOk_by (N := ["_law_bag_here", "_law_style", "_law_some_here", "_law_words", "_law_k"]) (sc := defScope sSome) (by decide +kernel)) (fun _ _ _ _ _ => pg_name (i := 4) scSome.nd rfl (Or.inl rfl)) (fun _ _ _ _ _ => pts_nil)
            (fun _ _ _ _ _ => pe_ix (r := rIxL K) ix_list (pv 3) (pe_cal T h1 rfl (pa_cons (pv 0) (pa_cons (pe_ifExp (pt_cmpR op_eq (pv 1) pe_int (nomark _)) pe_int pe_int) pa_nil))) (fun _ _ => rfl)))
          (pss_one (ps_ret (pe_ifExp (pt_cmpR op_eq (pe_cal T h1 rfl (pa_cons (pv 0) (pa_cons pe_int pa_nil))) pe_int (nomark _)) (pv 2) (pe_callTy call_tuple_of rfl hT (by decide +kernel) (pa_cons (pv 2) pa_nil))))))))))), ?_⟩
    have e62 : (2 : Int) ^ 62 = 4611686018427387904 := by decide
    refine ⟨_, rfl, p, q, 6, rfl, B, by decide, by decide, fun st H1 s0 s1 B1 k1 => ?_⟩
    refine ⟨_, rfl, rfl, _, rfl, ite2 (fun _ => ⟨_, rfl, p, q, rfl, B1, fun x d H' b k' th g => k x d H' b (k1.trans k') (th_mono (off_sub (nw_mono k1)) th) g⟩) (fun _ => ?_)⟩
    refine ⟨_, rfl, rfl, _, rfl, ite2 (fun _ => ⟨_, rfl, p, q, rfl, B1, fun z H' b k' hz ha => k _ _ H' b (k1.trans k') (.dat (.str z)) (good_str (by omega) ha)⟩) (fun _ => ?_)⟩
    refine ⟨_, rfl, rfl, _, rfl, ite2 (fun _ => ⟨_, rfl, p, q, rfl, B1, fun x d H' b k' th g => k x d H' b (k1.trans k') (th_mono (off_sub (nw_mono k1)) th) g⟩) (fun _ => ?_)⟩
    refine ⟨_, rfl, rfl, _, rfl, ite2 (fun _ => ?_) (fun _ => ?_)⟩
    · refine ⟨fun σ H' => ∃ D xs ds, σ = [some (.ref p), some (.int st), some (.ref D), none, none] ∧ Bag H' p q ∧ Keep p H H' ∧ (D ≠ p ∧ ¬ Nw p H D) ∧ H' D = some (.lst xs) ∧ DpAll K (Off (Nw p H) H') xs ds ∧ ds.length ≤ 10 ∧ ∀ d ∈ ds, Ok1 d = true, ?_, ?_⟩
      · refine ⟨_, rfl, p, q, 10, rfl, B1, by decide, by decide, fun r H2 h0 h9 B2 K2 => ⟨_, rfl, (by omega), (by omega), fun D hD =>
          lcY walk_range (fun i ys H1 => Bag H1 p q ∧ Keep p H2 H1 ∧ ∃ zs : List Str, ys = zs.map V.str ∧ ∀ z ∈ zs, z.length ≤ 20 ∧ asc z = true) (fun _ => rfl) ?_ (fun _ _ _ _ _ => trivial) ?_ ?_⟩⟩
        · exact ⟨bag_upd B2 (bag_p B2 hD).1 (bag_p B2 hD).2, keep_same (same_upd hD), [], rfl, fun c hc => nomatch hc⟩
        · rintro i x ys H3 H4 hi hl e ⟨B3, k3, zs, rfl, hc⟩ ⟨rfl, rfl⟩
          have nD := bag_p B2 hD
          refine ⟨_, rfl, p, q, rfl, B3, fun z H5 b5 k5 hz ha => lc_next (k5 D _ nD.1 e) hl hi (by omega) ⟨bag_upd b5 nD.1 nD.2, fun b o nb e2 => ?_, zs ++ [z], by rw [List.map_append]; rfl, fun x hx => ?_⟩⟩
          · rw [upd_ne (ne_of_none e2 hD)]
            exact k5 b o nb (k3 b o nb e2)
          · rcases List.mem_append.mp hx with hx | hx
            · exact hc x hx
            · rw [List.mem_singleton.mp hx]
              exact ⟨hz, ha⟩
        · rintro ys H3 hl e ⟨B3, k3, zs, rfl, hc⟩
          rw [List.length_map] at hl
          refine ⟨D, _, _, rfl, B3, (k1.trans K2).trans k3, ⟨(bag_p B2 hD).1, nw (k1.trans K2) (bag_p B2 hD).1 hD⟩, e, dp_strs zs, by rw [List.length_map]; omega, fun d hd => ?_⟩
          obtain ⟨z, hz, rfl⟩ := List.mem_map.mp hd
          exact ok1_str (by have := (hc z hz).1; omega) (hc z hz).2
      · rintro σ H2 ⟨D, xs, ds, rfl, B2, k2, ⟨nD, nwD⟩, eD2, hda, hl2, hd2⟩
        refine ⟨_, rfl, p, q, 2, rfl, B2, by decide, by decide, fun r H3 r0 r1 B3 k3 => ⟨rfl, _, rfl, ?_⟩⟩
        have e3 := k3 D _ nD eD2
        have hda3 := dpAll_mono (off_keep k3 (.inl rfl)) hda
        refine ite2 (fun _ => ?_) (fun _ => ?_)
        · exact ⟨_, rfl, k _ (.list ds) _ B3 (k2.trans k3) (.dat (.lst (SqL.of (off_of nwD e3)) hda3)) (.inl (good_list hd2 (by omega)))⟩
        · refine ⟨_, rfl, D, xs, rfl, .inl ⟨SqL.of e3, fun l hl => ?_⟩⟩
          have nl := bag_p B3 hl
          have ks3 := keep_same (p := p) (same_upd (o := .tup xs) hl)
          exact k _ (.tuple ds) _ (bag_upd B3 nl.1 nl.2) ((k2.trans k3).trans ks3) (.dat (.tup (SqT.of (off_of (nw (k2.trans k3) nl.1 hl) upd_same)) (dpAll_mono (off_keep ks3 (.inl rfl)) hda3))) (.inl (good_tup hd2 (by omega)))
    -- the words
    refine ⟨fun σ H' => ∃ W xs ds, σ = [some (.ref p), some (.int st), none, some (.ref W), none] ∧ Bag H' p q ∧ Keep p H H' ∧ W ≠ p ∧ H' W = some (.lst xs) ∧ DpAll K (Off (Nw p H) H') xs ds ∧ xs.length = 11 ∧ ∀ d ∈ ds, Ok1 d = true, ?_, ?_⟩
    · refine ⟨(by show 1 ≤ sizeLine; decide), fun T1 hT1 => ⟨(by show 1 ≤ sizeLine; decide), fun L1 hL1 => ⟨(by show 11 ≤ sizeLine; decide), fun W hW => ?_⟩⟩⟩
      have sT := same_upd (o := .tup [.str "out"]) hT1
      have sL := same_upd (o := .lst [.str "no"]) hL1
      have sW := same_upd (o := .lst [.str "yes", .str "no", .str "round", .str "out", .str "Yes", .str "", .str "rounds", .non, .bl true, .ref T1, .ref L1]) hW
      have nT := bag_p B1 hT1
      have nL := bag_p (bag_same B1 sT) hL1
      have nW := bag_p (bag_same B1 (sT.trans sL)) hW
      refine ⟨W, _, [.str "yes", .str "no", .str "round", .str "out", .str "Yes", .str "", .str "rounds", .none, .bool true, .tuple [.str "out"], .list [.str "no"]], rfl, bag_same B1 ((sT.trans sL).trans sW), k1.trans (keep_same ((sT.trans sL).trans sW)), nW.1, upd_same, ?_, rfl, ?_⟩
      · exact .cons (.str _) (.cons (.str _) (.cons (.str _) (.cons (.str _) (.cons (.str _) (.cons (.str _) (.cons (.str _) (.cons .non (.cons (.bl _) (.cons (.tup (SqT.of (off_of (nw k1 nT.1 hT1) (sW _ _ (sL _ _ upd_same)))) (.cons (.str _) .nil)) (.cons (.lst (SqL.of (off_of (nw (k1.trans (keep_same sT)) nL.1 hL1) (sW _ _ upd_same))) (.cons (.str _) .nil)) .nil))))))))))
      · have hz : ([.str "yes", .str "no", .str "round", .str "out", .str "Yes", .str "", .str "rounds", .none, .bool true, .tuple [.str "out"], .list [.str "no"]] : List PyData).all Ok1 = true := by decide +kernel
        exact fun d hd => List.all_eq_true.mp hz d hd
    rintro σ Hw ⟨W, ws, dw, rfl, Bw, kw, nW, eW, haw, hlw, hdw⟩
    refine ⟨fun σ H' => ∃ D xs ds, σ = [some (.ref p), some (.int st), some (.ref D), some (.ref W), none] ∧ Bag H' p q ∧ Keep p H H' ∧ (D ≠ p ∧ ¬ Nw p H D) ∧ H' D = some (.lst xs) ∧ DpAll K (Off (Nw p H) H') xs ds ∧ ds.length ≤ 10 ∧ ∀ d ∈ ds, Ok1 d = true, ?_, ?_⟩
    · refine ⟨_, rfl, p, q, 7, rfl, Bw, by decide, by decide, fun r H2 h0 h9 B2 K2 => ⟨_, rfl, (by omega), (by omega), fun D hD =>
          lcY walk_range (fun i ys H1 => Bag H1 p q ∧ Keep p H2 H1 ∧ ∃ ds, DpAll K (Off (Nw p H) H2) ys ds ∧ ∀ d ∈ ds, Ok1 d = true) (fun _ => rfl) ?_ (fun _ _ _ _ _ => trivial) ?_ ?_⟩⟩
      · exact ⟨bag_upd B2 (bag_p B2 hD).1 (bag_p B2 hD).2, keep_same (same_upd hD), [], .nil, fun c hc => nomatch hc⟩
      · rintro i x ys H3 H4 hi hl e ⟨B3, k3, ds, hds, hc⟩ ⟨rfl, rfl⟩
        have nD := bag_p B2 hD
        have turn : ∀ n : Int, 0 < n → n ≤ 11 → spTake [.ref p, .int n] H4 (fun y H5 => rIxL K (.ref W) y H5 fun y H6 => LcE D (fun i ys H1 => Bag H1 p q ∧ Keep p H2 H1 ∧ ∃ ds, DpAll K (Off (Nw p H) H2) ys ds ∧ ∀ d ∈ ds, Ok1 d = true) i y H6) E0 := fun n n0 n1 =>
          ⟨p, q, n, rfl, B3, n0, by omega, fun r5 H5 g0 g1 B5 k5 => by
            have haw2 := dpAll_mono (off_keep K2 (.inl rfl)) haw
            obtain ⟨v, dv, hv1, hv2, hv3⟩ := pick haw2 g0 (by rw [hlw]; omega)
            refine ⟨W, _, r5, v, rfl, rfl, SqL.of (k5 _ _ nW (k3 _ _ nW (K2 _ _ nW eW))), hv1, lc_next (k5 D _ nD.1 e) hl hi (by omega) ⟨bag_upd B5 nD.1 nD.2, fun b o nb e2 => ?_, ds ++ [dv], dpAll_app hv2 hds, fun d hd => ?_⟩⟩
            · rw [upd_ne (ne_of_none e2 hD)]
              exact k5 b o nb (k3 b o nb e2)
            · rcases List.mem_append.mp hd with hd | hd
              · exact hc d hd
              · rw [List.mem_singleton.mp hd]
                exact hdw dv hv3⟩
        refine ⟨_, rfl, _, rfl, _, rfl, rfl, _, rfl, ite2 (fun _ => turn 4 (by decide) (by decide)) (fun _ => turn 11 (by decide) (by decide))⟩
      · rintro ys H3 hl e ⟨B3, k3, ds, hds, hc⟩
        have := dpAll_len hds
        exact ⟨D, ys, ds, rfl, B3, (kw.trans K2).trans k3, ⟨(bag_p B2 hD).1, nw (kw.trans K2) (bag_p B2 hD).1 hD⟩, e, dpAll_mono (off_keep k3 (.inl rfl)) hds, by omega, hc⟩
    · rintro σ H2 ⟨D, xs, ds, rfl, B2, k2, ⟨nD, nwD⟩, eD2, hda, hl2, hd2⟩
      refine ⟨_, rfl, p, q, 2, rfl, B2, by decide, by decide, fun r H3 r0 r1 B3 k3 => ⟨rfl, _, rfl, ?_⟩⟩
      have e3 := k3 D _ nD eD2
      have hda3 := dpAll_mono (off_keep k3 (.inl rfl)) hda
      refine ite2 (fun _ => ?_) (fun _ => ?_)
      · exact ⟨_, rfl, k _ (.list ds) _ B3 (k2.trans k3) (.dat (.lst (SqL.of (off_of nwD e3)) hda3)) (.inl (good_list hd2 (by omega)))⟩
      · refine ⟨_, rfl, D, xs, rfl, .inl ⟨SqL.of e3, fun l hl => ?_⟩⟩
        have nl := bag_p B3 hl
        have ks3 := keep_same (p := p) (same_upd (o := .tup xs) hl)
        exact k _ (.tuple ds) _ (bag_upd B3 nl.1 nl.2) ((k2.trans k3).trans ks3) (.dat (.tup (SqT.of (off_of (nw (k2.trans k3) nl.1 hl) upd_same)) (dpAll_mono (off_keep ks3 (.inl rfl)) hda3))) (.inl (good_tup hd2 (by omega)))
end
end My

set_option Elab.async false
set_option linter.all false
set_option maxRecDepth 100000
set_option maxHeartbeats 4000000
namespace My
open PySem PySem.Spec PyProof.Rows L2
def CalG (P : Program) (w : World) (K : PySem.W.Frag) (mg : Str → Option Value) (base : Heap) (x : Str) (k : Nat) (ps : List Str) (sp : Sp) : Prop :=
  ∃ f fd, FnG P w K mg base k f fd ps sp ∧ mg x = some (.ref f) ∧ PySem.W.keepIn K (.ref f) = true ∧ L2.Binds K fd ps []
theorem pe_calG {X : Cx} {P : Program} {w : World} {K : PySem.W.Frag} {mg : Str → Option Value} {base : Heap} {x : Str} {k : Nat} {ps : List Str} {sp : Sp} {p pos : Pos} {e : Expr} {es : List Expr} {t : TA}
    (c : CalG P w K mg base x k ps sp) (hf : Free X.A) (hr : Room k X.A) (hg : Gl X x) (ha : PA X (e :: es) t)
    (h1 : X.prog = P := by rfl) (h2 : X.w = w := by rfl) (h3 : X.K = K := by rfl) (h4 : X.mg = mg := by rfl) (h5 : X.base = base := by rfl)
    (hdb : (x == ("__debug__" : Str)) = false := by decide) (he : starEach (e :: es) X.env = (false, eval e X.env) :: starEach es X.env := by rfl)
    (hpl : (backTo pos (starEach es X.env)).any (·.1) = false := by rfl) :
    PE X (.Call (.Name x p) (e :: es) [] pos) (tCall sp [] E0 t) := by
  obtain ⟨f, fd, F, gm, gk, gb⟩ := c
  subst h1 h2 h3 h4 h5
  exact pe_callG F hf hr hg gm gk gb ha hdb he hpl
/-- what the law leans on -/
structure LawC (P : Program) (w : World) (K : PySem.W.Frag) (mg : Str → Option Value) (base : Heap) (C fI : Addr) (fdI : FuncData) : Prop where
  isi : Isi mg
  bare : Bare mg
  rng : mg "range" = none
  pc : PrC K C
  bag : Cal P w K mg base "_law_bag" 1 ["_law_script"] (spBag K)
  take : CalTake P w K mg base
  some_ : Cal P w K mg base "_law_some" 3 ["_law_bag_here"] (spDraw K C)
  l1 : Cal P w K mg base "_law_is_integer" 1 ["_law_thing"] (spIsInt K C)
  l2 : Cal P w K mg base "_law_is_name" 1 ["_law_thing"] (spIsName K C)
  l3 : Cal P w K mg base "_law_is_address" 2 ["_law_thing"] (spLAddr K C)
  l4 : Cal P w K mg base "_law_are_names" 2 ["_law_thing", "_law_upto"] (spAreNames K C)
  l5 : Cal P w K mg base "_law_are_choices" 1 ["_law_thing"] (spAreChoices K C)
  p1 : Cal P w K mg base "is_integer" 1 ["thing"] (spIsInt K C)
  p2 : Cal P w K mg base "is_name" 1 ["thing"] (spIsName K C)
  p3 : Cal P w K mg base "is_address" 2 ["thing"] (spIsAddr K C)
  p4 : Cal P w K mg base "are_names" 2 ["thing", "most"] (spAreNames K C)
  p5 : Cal P w K mg base "are_choices" 1 ["thing"] (spAreChoices K C)
  alike : CalG P w K mg base "_law_alike" 1 ["_law_found", "_law_due"] (spAlike K)
  mke : Mk K C fI
  init : FnOk P w K mg base CX0 5 fI fdI ["self", "inputs", "rows"] (spProgE C)
  gl : mg "Program" = some (.ref C)
  bnd : Binds K fdI ["self", "inputs", "rows"] []
/-- a thing that the law asks of -/
def GoodO (o : Option PyData) : Prop := o = none ∨ ∃ d, o = some d ∧ Good d
theorem GoodO.fit {o : Option PyData} (h : GoodO o) : FitO o := by
  rcases h with rfl | ⟨d, rfl, g⟩
  · exact ⟨(fun z hz => by cases hz), by decide, fun e he => by cases he⟩
  · exact g.fit
theorem GoodO.tup {o : Option PyData} (h : GoodO o) : isT o "tuple" = true → (itemsO o).length ≤ 15 := by
  rcases h with rfl | ⟨d, rfl, g⟩
  · intro z; cases z
  · exact g.tup
def shO : Option PyData → Str
  | some d => d.shown
  | none => ""
theorem reps_list (n : Nat) (v : V) (d : PyData) (K : PySem.W.Frag) (H : Hp) (h : Dp K H v d) : DpAll K H (List.replicate n [v]).flatten (List.replicate n d) := by
  induction n with
  | zero => exact .nil
  | succ n ih => exact .cons h ih
def spLaw (K : PySem.W.Frag) : Sp := fun vs H Q _ => ∃ a ns, vs = [.ref a] ∧ SqL K H a (List.map V.int ns) ∧ ns.length ≤ 63 ∧ ∀ H', Q (.bl true) H'
theorem scLaw : FnScope ["_law_script", "_law_bag_here", "_law_some_here", "_law_thing", "_law_most", "_law_due", "_law_shown", "_law_again", "_law_found", "_law_k"] ["_law_script"] (defScope sLaw) := ⟨rfl, rfl, rfl, by decide +kernel, rfl, by decide +kernel, by decide +kernel⟩
section
variable {P : Program} {w : World} {K : PySem.W.Frag} {mg : Str → Option Value} {base : Heap} {C fI : Addr} {fdI : FuncData}
theorem ok_law {f : Addr} {fd : FuncData} (F : Fun K "law" "law" sLaw f fd) (c : LawC P w K mg base C fI fdI) :
    FnG P w K mg base 7 f fd ["_law_script"] (spLaw K) := by
  refine funG_ok F scLaw (fun vs H Q E h => ?_) (fun cdv A outer s H vs Q E hf hr h => ?_)
  · obtain ⟨a, ns, rfl, _⟩ := h
    rfl
  · obtain ⟨a, ns, rfl, hS, hl, k⟩ := h
    have h1 : Room 1 (A.deeper (envOfC "law" (defScope sLaw) s.heap.objs.size f cdv)) := hr.mono (by decide)
    have h2 : Room 2 (A.deeper (envOfC "law" (defScope sLaw) s.heap.objs.size f cdv)) := hr.mono (by decide)
    have h3 : Room 3 (A.deeper (envOfC "law" (defScope sLaw) s.heap.objs.size f cdv)) := hr.mono (by decide)
    refine ⟨_, pss_cons (ps_set (i := 1) scLaw.nd rfl (Or.inr rfl) (pe_cal c.bag h1 rfl (pa_cons (pv 0) pa_nil)))
      (C8.pss_cut (ps_set (i := 2) scLaw.nd rfl (Or.inl rfl) (pe_op op_cat
          (pe_lc (own := [("_law_k", 9)]) (g := gName 9) (tt := tYes) rfl scLaw.nd (pi_range1 rfl c.rng (pa_cons pe_int pa_nil))
            (blkOk_by (N := ["_law_script", "_law_bag_here", "_law_some_here", "_law_thing", "_law_most", "_law_due", "_law_shown", "_law_again", "_law_found", "_law_k"]) (sc := defScope sLaw) (by decide +kernel)) (fun _ _ _ _ _ => pg_name (i := 9) scLaw.nd rfl (Or.inl rfl)) (fun _ _ _ _ _ => pts_nil)
            (fun _ _ _ _ _ => pe_cal c.some_ h3 rfl (pa_cons (pv 1) pa_nil)))
          (pe_lst (pa_cons (pe_op op_rep (pe_lst (pa_cons pe_non pa_nil)) pe_int) (pa_cons (pe_op op_rep (pe_lst (pa_cons pe_str pa_nil)) pe_int)
            (pa_cons (pe_make c.mke c.init hr rfl c.gl c.bnd .nil pass0 (pa_cons (pe_lst pa_nil) (pa_cons (pe_lst pa_nil) pa_nil))) pa_nil))))))
      (pss_cons (ps_for PassesOwn.never rfl (pi_list (pv 2)) (pg_name (i := 3) scLaw.nd rfl (Or.inl rfl))
        (pss_cons (ps_set (i := 4) scLaw.nd rfl (Or.inl rfl) (pe_cal c.take h1 rfl (pa_cons (pv 1) (pa_cons pe_int pa_nil))))
        (pss_cons (ps_set (i := 5) scLaw.nd rfl (Or.inl rfl) (pe_lst (pa_cons (pe_cal c.l1 h1 rfl (pa_cons (pv 3) pa_nil)) (pa_cons (pe_cal c.l2 h1 rfl (pa_cons (pv 3) pa_nil)) (pa_cons (pe_cal c.l3 h2 rfl (pa_cons (pv 3) pa_nil)) pa_nil)))))
        (pss_cons (ps_set (i := 5) scLaw.nd rfl (Or.inl rfl) (pe_op op_cat (pv 5) (pe_lst (pa_cons (pe_cal c.l4 h2 rfl (pa_cons (pv 3) (pa_cons (pv 4) pa_nil))) (pa_cons (pe_cal c.l5 h1 rfl (pa_cons (pv 3) pa_nil)) pa_nil)))))
        (C8.pss_cut (ps_set (i := 6) scLaw.nd rfl (Or.inl rfl) (pe_ifExp (pt_not (pt_val (pe_callB (call_isCl c.pc) rfl c.isi.isi (by decide +kernel) (pa_cons (pv 3) (pa_cons (pe_glob (v := .ref C) rfl c.gl rfl) pa_nil)))))
            (pe_callB (call_reprTh (C := C) hf hr.units) rfl c.bare.repr (by decide +kernel) (pa_cons (pv 3) pa_nil)) pe_str))
        (pss_one (ps_for PassesOwn.never rfl (pi_range1 rfl c.rng (pa_cons pe_int pa_nil)) (pg_name (i := 7) scLaw.nd rfl (Or.inl rfl))
          (pss_cons (ps_set (i := 8) scLaw.nd rfl (Or.inl rfl) (pe_lst (pa_cons (pe_cal c.p1 h1 rfl (pa_cons (pv 3) pa_nil)) (pa_cons (pe_cal c.p2 h1 rfl (pa_cons (pv 3) pa_nil)) (pa_cons (pe_cal c.p3 h2 rfl (pa_cons (pv 3) pa_nil))
            (pa_cons (pe_cal c.p4 h2 rfl (pa_cons (pv 3) (pa_cons (pv 4) pa_nil))) (pa_cons (pe_cal c.p5 h1 rfl (pa_cons (pv 3) pa_nil)) pa_nil)))))))
          (pss_cons (ps_if (pt_not (pt_val (pe_calG c.alike hf h1 rfl (pa_cons (pv 8) (pa_cons (pv 5) pa_nil))))) (pss_one (ps_ret pe_bl)) pss_nil)
          (pss_one (ps_if (PW.pt (pw_and (pt_not (pt_val (pe_callB (call_isCl c.pc) rfl c.isi.isi (by decide +kernel) (pa_cons (pv 3) (pa_cons (pe_glob (v := .ref C) rfl c.gl rfl) pa_nil)))))
              (pw_and1 (pt_cmpR op_ne (pe_callB (call_reprTh (C := C) hf hr.units) rfl c.bare.repr (by decide +kernel) (pa_cons (pv 3) pa_nil)) (pv 6) (nomark _))))) (pss_one (ps_ret pe_bl)) pss_nil)))))))))))
      (pss_one (ps_ret pe_bl)))), ?_⟩
    refine ⟨_, rfl, a, ns, rfl, hS, hl, fun p q H1 s1 B1 hp => ?_⟩
    refine ⟨fun σ H' => ∃ (Ls : Addr) (xs : List V), σ = [some (.ref a), some (.ref p), some (.ref Ls), none, none, none, none, none, none, none] ∧ Bag H' p q ∧ Ls ≠ p ∧ H' Ls = some (.lst xs) ∧ ∀ (i : Nat) (x : V), xs[i]? = some x → ∃ o, Th K (Off (fun b => b = p) H') C x o ∧ GoodO o, ?_, ?_⟩
    · refine ⟨_, rfl, by decide, by decide, fun D hD => lcY walk_range (fun i ys H' => Bag H' p q ∧ Keep p H1 H' ∧ ∀ (j : Nat) (y : V), ys[j]? = some y → ∃ o, Th K (Off (fun b => b = p ∨ b = D) H') C y o ∧ GoodO o) (fun _ => rfl) ?_ (fun _ _ _ _ _ => trivial) ?_ ?_⟩
      · exact ⟨bag_upd B1 (bag_p B1 hD).1 (bag_p B1 hD).2, keep_same (same_upd hD), fun j y e => by simp at e⟩
      · rintro i x ys H3 H4 hi hl2 e ⟨B3, k3, hys⟩ ⟨rfl, rfl⟩
        have nD := bag_p B1 hD
        refine ⟨_, rfl, p, q, rfl, B3, fun z d H5 B5 k5 th g => lc_next (k5 D _ nD.1 e) hl2 hi (by decide) ⟨bag_upd B5 nD.1 nD.2, fun b o nb e2 => ?_, fun j y ey => ?_⟩⟩
        · rw [upd_ne (ne_of_none e2 hD)]
          exact k5 b o nb (k3 b o nb e2)
        · by_cases hj : j < List.length ys
          · rw [List.getElem?_append_left hj] at ey
            obtain ⟨o, t1, g1⟩ := hys j y ey
            refine ⟨o, th_mono (fun b u eb => off_of (off_not eb) ?_) t1, g1⟩
            rw [upd_ne (fun z => off_not eb (.inr z))]
            exact k5 b u (fun z => off_not eb (.inl z)) (off_le b u eb)
          · rw [List.getElem?_append_right (by omega)] at ey
            have ez : z = y := by
              cases q0 : j - List.length ys with
              | zero =>
                rw [q0] at ey
                exact Option.some.inj ey
              | succ n =>
                rw [q0] at ey
                simp at ey
            subst ez
            refine ⟨some d, th_mono (fun b u eb => ?_) th, .inr ⟨d, rfl, g⟩⟩
            have n1 := off_not eb
            have nbD : b ≠ D := fun z => n1 (.inr (by rw [z, e]; simp))
            refine off_of (fun z => z.elim (fun z => n1 (.inl z)) nbD) ?_
            rw [upd_ne nbD]
            exact off_le b u eb
      · rintro ys G0 hl2 e ⟨B3, k3, hys⟩
        have nD := bag_p B1 hD
        refine ⟨(by show 1 ≤ sizeLine; decide), fun N1 hN1 => ⟨N1, _, _, rfl, rfl, upd_same, by decide, by decide, (by show 1 * 19000 ≤ sizeLine; decide), fun N2 hN2 => ?_⟩⟩
        refine ⟨(by show 1 ≤ sizeLine; decide), fun Y1 hY1 => ⟨Y1, _, _, rfl, rfl, upd_same, by decide, by decide, (by show 1 * 200 ≤ sizeLine; decide), fun Y2 hY2 => ?_⟩⟩
        refine ⟨(by show 0 ≤ sizeLine; decide), fun E1 hE1 => ⟨(by show 0 ≤ sizeLine; decide), fun E2 hE2 => fun x dx hx hdx nex => ⟨x, dx, E1, E2, rfl, upd_same, ?_, ?_, fun fs H6 kp6 e6 => ⟨rfl, ?_⟩⟩⟩⟩
        · exact (same_upd (o := .lst []) hE2).trans ((same_upd (o := .own x) hdx).trans (fun b u eb => by rw [upd_ne (fun z => by rw [z, upd_ne nex.symm] at eb; rw [hx] at eb; cases eb)]; exact eb)) _ _ upd_same
        · exact ((same_upd (o := .own x) hdx).trans (fun b u eb => by rw [upd_ne (fun z => by rw [z, upd_ne nex.symm] at eb; rw [hx] at eb; cases eb)]; exact eb)) _ _ upd_same
        have g1 := same_upd (o := .lst [.non]) hN1
        have g2 := same_upd (o := .lst (List.replicate (Int.toNat 19000) [V.non]).flatten) hN2
        have g3 := same_upd (o := .lst [.str "yes"]) hY1
        have g4 := same_upd (o := .lst (List.replicate (Int.toNat 200) [V.str "yes"]).flatten) hY2
        have g5 := same_upd (o := .lst []) hE1
        have g6 := same_upd (o := .lst []) hE2
        have c2 := g1.trans g2
        have c3 := c2.trans g3
        have c4 := c3.trans g4
        have c6 := (c4.trans g5).trans g6
        have nN2 := bag_p (bag_same B3 g1) hN2
        have nY2 := bag_p (bag_same B3 c3) hY2
        have nx := bag_p (bag_same B3 c6) hx
        have gX : Same _ H6 := fun b u eb => kp6 b u (ne_of_none eb hx) (by
          rw [upd_ne (ne_of_none eb hx), upd_ne (ne_of_none eb hdx)]
          exact eb)
        have c7 := c6.trans gX
        refine ⟨(by show 3 ≤ sizeLine; decide), fun L3 hL3 => ?_⟩
        have g8 := same_upd (o := .lst [.ref N2, .ref Y2, .ref x]) hL3
        refine ⟨D, L3, _, _, rfl, rfl, (c7.trans g8) _ _ e, upd_same, (by show List.length ys + 3 ≤ sizeLine; rw [hl2]; decide), fun Ls hLs => ?_⟩
        have g9 := same_upd (o := .lst (ys ++ [.ref N2, .ref Y2, .ref x])) hLs
        have c9 := (c7.trans g8).trans g9
        have g89 := g8.trans g9
        refine ⟨Ls, _, rfl, bag_same B3 c9, (bag_p (bag_same B3 (c7.trans g8)) hLs).1, upd_same, fun j y ey => ?_⟩
        by_cases hj : j < List.length ys
        · rw [List.getElem?_append_left hj] at ey
          obtain ⟨o, t1, go⟩ := hys j y ey
          exact ⟨o, th_mono (fun b u eb => off_of (fun z => off_not eb (.inl z)) (c9 _ _ (off_le b u eb))) t1, go⟩
        · rw [List.getElem?_append_right (by omega)] at ey
          cases q0 : j - List.length ys with
          | zero =>
            rw [q0] at ey
            obtain rfl : V.ref N2 = y := Option.some.inj ey
            refine ⟨some (.list (List.replicate (Int.toNat 19000) .none)), .dat (.lst (SqL.of (off_of (fun z => nN2.1 z) ((((((g3.trans g4).trans g5).trans g6).trans gX).trans g89) _ _ upd_same))) (reps_list _ _ _ _ _ .non)), .inr ⟨_, rfl, .inl (good_list (fun d hd => ?_) ?_)⟩⟩
            · rw [List.eq_of_mem_replicate hd]
              decide +kernel
            · rw [List.length_replicate]
              decide
          | succ n =>
            rw [q0] at ey
            cases n with
            | zero =>
              obtain rfl : V.ref Y2 = y := Option.some.inj ey
              refine ⟨some (.list (List.replicate (Int.toNat 200) (.str "yes"))), .dat (.lst (SqL.of (off_of (fun z => nY2.1 z) ((((g5.trans g6).trans gX).trans g89) _ _ upd_same))) (reps_list _ _ _ _ _ (.str _))), .inr ⟨_, rfl, .inl (good_list (fun d hd => ?_) ?_)⟩⟩
              · rw [List.eq_of_mem_replicate hd]
                decide +kernel
              · rw [List.length_replicate]
                decide
            | succ n =>
              cases n with
              | zero =>
                obtain rfl : V.ref x = y := Option.some.inj ey
                exact ⟨none, .ins (off_of (fun z => nx.1 z) (g89 _ _ e6)), .inl rfl⟩
              | succ n => simp at ey
    · rintro σ HL ⟨Ls, xs, rfl, BL, nLs, eLs, hxs⟩
      refine ⟨_, rfl, Ls, rfl, ⟨xs, SqL.of eLs⟩, for_list (xs := xs) (fun i σ H' => ∃ b3 b4 b5 b6 b7 b8 b9 : Option V, σ = [some (.ref a), some (.ref p), some (.ref Ls), b3, b4, b5, b6, b7, b8, b9] ∧ Bag H' p q ∧ Keep p HL H')
        ⟨_, _, _, _, _, _, _, rfl, BL, Keep.refl⟩ (fun i σ H' _ h => by obtain ⟨_, _, _, _, _, _, _, _, _, kp⟩ := h; exact SqL.of (kp Ls _ nLs eLs)) ?_ ?_⟩
      · rintro i x σ H2 ex ⟨b3, b4, b5, b6, b7, b8, b9, rfl, B2, k2⟩
        obtain ⟨o, th, go⟩ := hxs i x ex
        have thAt : ∀ H', Keep p HL H' → Th K H' C x o := fun H' kp => th_mono off_le (th_mono (off_keep (S := fun b => b = p) kp rfl) th)
        refine ⟨_, rfl, p, q, 10, rfl, B2, by decide, by decide, fun m H3 m0 m10 B3 k3 => ?_⟩
        have kp3 := k2.trans k3
        refine ⟨_, rfl, x, o, rfl, thAt _ kp3, _, rfl, x, o, rfl, thAt _ kp3, go.fit.1, fun H4 s4 => ⟨_, rfl, x, o, rfl, thAt _ (kp3.trans (keep_same s4)), go.fit, go.tup, fun H5 s5 => ⟨(by show 3 ≤ sizeLine; decide), fun D1 hD1 => ?_⟩⟩⟩
        have u1 := same_upd (o := .lst [.bl (intO o), .bl (nameO o), .bl (addrO o)]) hD1
        have kp5 := (kp3.trans (keep_same s4)).trans ((keep_same s5).trans (keep_same u1))
        refine ⟨_, rfl, _, rfl, _, rfl, x, o, m, rfl, thAt _ kp5, go.fit, fun H6 s6 => ⟨_, rfl, x, o, rfl, thAt _ (kp5.trans (keep_same s6)), go.fit, fun H7 s7 => ⟨(by show 2 ≤ sizeLine; decide), fun D2 hD2 => ?_⟩⟩⟩
        have u2 := same_upd (o := .lst [.bl (namesO o m), .bl (choicesO o)]) hD2
        refine ⟨D1, D2, _, _, rfl, rfl, ((s6.trans s7).trans u2) _ _ upd_same, upd_same, (by show 3 + 2 ≤ sizeLine; decide), fun D3 hD3 => ?_⟩
        have u3 := same_upd (o := .lst ([.bl (intO o), .bl (nameO o), .bl (addrO o)] ++ [.bl (namesO o m), .bl (choicesO o)])) hD3
        have w67 := (s6.trans s7).trans u2
        have w45 := (s4.trans s5).trans u1
        have B7 := bag_same B3 (w45.trans w67)
        have nD3 := bag_p B7 hD3
        have kp7 := kp5.trans (keep_same (w67.trans u3))
        refine ⟨fun σ H' => ∃ b7 b8 b9 : Option V, σ = [some (.ref a), some (.ref p), some (.ref Ls), some x, some (.int m), some (.ref D3), some (.str (shO o)), b7, b8, b9] ∧ Bag H' p q ∧ Keep p HL H' ∧
          H' D3 = some (.lst [.bl (intO o), .bl (nameO o), .bl (addrO o), .bl (namesO o m), .bl (choicesO o)]), ?_, ?_⟩
        · refine ⟨_, rfl, x, o, rfl, thAt _ kp7, _, rfl, ?_⟩
          rcases go with rfl | ⟨d, rfl, g⟩
          · exact iteF ⟨_, _, _, rfl, bag_same B7 u3, kp7, upd_same⟩
          · exact iteT ⟨_, rfl, x, d, rfl, thAt _ kp7, g, _, _, _, rfl, bag_same B7 u3, kp7, upd_same⟩
        rintro σ H8 ⟨b7, b8, b9, rfl, B8, k8, e8⟩
        refine ⟨2, rfl, by decide, by decide, for_range (n := 2) (fun j σ H' => ∃ b7 b8 b9 : Option V, σ = [some (.ref a), some (.ref p), some (.ref Ls), some x, some (.int m), some (.ref D3), some (.str (shO o)), b7, b8, b9] ∧ Bag H' p q ∧ Keep p HL H' ∧
          H' D3 = some (.lst [.bl (intO o), .bl (nameO o), .bl (addrO o), .bl (namesO o m), .bl (choicesO o)])) ⟨_, _, _, rfl, B8, k8, e8⟩ ?_ ?_⟩
        · rintro j σ G hj ⟨b7, b8, b9, rfl, BG, kG, eG⟩
          refine ⟨_, rfl, x, o, rfl, thAt _ kG, _, rfl, x, o, rfl, thAt _ kG, go.fit.1, fun G1 t1 => ⟨_, rfl, x, o, rfl, thAt _ (kG.trans (keep_same t1)), go.fit, fun G2 t2 =>
            ⟨_, rfl, _, rfl, x, o, m, rfl, thAt _ (kG.trans (keep_same (t1.trans t2))), go.fit, fun G3 t3 => ⟨_, rfl, x, o, rfl, thAt _ (kG.trans (keep_same ((t1.trans t2).trans t3))), go.fit, fun G4 t4 => ⟨(by show 5 ≤ sizeLine; decide), fun F1 hF1 => ?_⟩⟩⟩⟩⟩
          have v1 := same_upd (o := .lst [.bl (intO o), .bl (nameO o), .bl (addrO o), .bl (namesO o m), .bl (choicesO o)]) hF1
          have tt := (((t1.trans t2).trans t3).trans t4).trans v1
          have kF := kG.trans (keep_same tt)
          have dl : ∀ (Hx : Hp) (D : Addr), Hx D = some (.lst [.bl (intO o), .bl (nameO o), .bl (addrO o), .bl (namesO o m), .bl (choicesO o)]) → Dp K Hx (.ref D) (l5 (intO o) (nameO o) (addrO o) (namesO o m) (choicesO o)) := fun Hx D e =>
            .lst (SqL.of e) (.cons (.bl _) (.cons (.bl _) (.cons (.bl _) (.cons (.bl _) (.cons (.bl _) .nil)))))
          refine ⟨_, rfl, _, rfl, .ref F1, .ref D3, _, _, _, _, _, rfl, dl _ _ upd_same, dl _ _ (tt _ _ eG), _, rfl, iteF ?_⟩
          refine ⟨_, rfl, x, o, rfl, thAt _ kF, _, rfl, ?_⟩
          rcases go with rfl | ⟨d, rfl, g⟩
          · exact iteF (iteF ⟨_, _, _, rfl, bag_same BG tt, kF, tt _ _ eG⟩)
          · refine iteT ⟨_, rfl, x, d, rfl, thAt _ kF, g, _, rfl, rfl, _, rfl, ?_⟩
            have e0 : (!decide (V.str d.shown = V.str (shO (some d)))) = false := by
              show (!decide (V.str d.shown = V.str d.shown)) = false
              rw [decide_eq_true rfl]; rfl
            rw [e0]
            exact iteF ⟨_, _, _, rfl, bag_same BG tt, kF, tt _ _ eG⟩
        · rintro σ G ⟨b7, b8, b9, rfl, BG, kG, eG⟩
          exact ⟨_, _, _, _, _, _, _, rfl, BG, kG⟩
      · rintro σ H2 ⟨b3, b4, b5, b6, b7, b8, b9, rfl, B2, k2⟩
        exact k H2
end
end My

set_option Elab.async false
set_option linter.all false
set_option maxRecDepth 100000
set_option maxHeartbeats 0
namespace My
open PySem PySem.Spec PyProof.Rows L2
theorem obX_eq (s : PySem.W.SharedT) : ob11 s = hk11.obs s.abs := He.obsX_eq (HandSHeadRun.getT_eq s)
theorem run11 (w : World) : HandSHeadRun.RunEq R11 (PySem.W.view R11.prog [72]) hk11 ob11 6000 nm11 w := by
  intro os
  kernel_rfl
end My

set_option Elab.async false
set_option linter.all false
set_option maxRecDepth 100000
set_option maxHeartbeats 4000000
namespace My
open PySem PySem.Spec PyProof.Rows L2
theorem def11 {K : PySem.W.Frag} (c : He.SaysD fa11 fn11 K) (i : Nat) {x : Str} {st : Stmt} (h : fn11[i]? = some (dD x st)) : ∃ fd, Fun K x x st (He.ga K x) fd := by
  obtain ⟨fd, F⟩ := c.def_ i h
  exact ⟨fd, toFun F⟩
theorem met11 {K : PySem.W.Frag} (c : He.SaysD fa11 fn11 K) (i : Nat) {C m q : Str} {st : Stmt} (h : fn11[i]? = some (dM C m q st)) : ∃ fd, Fun K m q st (He.ma K (He.ga K C) m) fd := by
  obtain ⟨fd, F⟩ := c.def_ i h
  exact ⟨fd, toFun F⟩
theorem walkE {l : PySem.W.OpenLaw} {n k : Nat} {q : Program} {loose : List Str} {XP : (Str → Option Value) → Heap → Prop} {YP : World → Heap → Prop} {d : DefRec} {x : Str}
    (hn : l.most = some n) (hn2 : n ≤ sizeLine) (hdf : d.params.defaults = []) (hr : Room k callerA)
    (F : ∀ (w : World) (mg : Str → Option Value) (fa : Addr) (h : Heap), YP w h → h.Ns mainGlobals mg → mg d.name = some (.ref fa) →
      ∃ (K : PySem.W.Frag) (fd : FuncData) (sp : Sp), K.In h ∧ (∀ (s : Shared) (u : Value), BindsTo s fd ⟨[u], []⟩ [(x, u)]) ∧
        (∀ (H : Hp) (a : Addr) (ns : List Int), ns.length ≤ n → Only H → SqL K H a (ns.map V.int) → sp [.ref a] H (fun v _ => v = .bl true) fun _ _ _ => False) ∧
        ∀ base : Heap, K.In base → base.Ns mainGlobals mg → FnG l.prog w K mg base k fa fd [x] sp) :
    PySem.W.WalkO q loose XP YP l.row.toRowW d [] (fun f vs => PySem.call f vs) := by
  refine Att.attach_call hn hdf ?_
  intro w s0 s1 mg mb fa o pm cd doc a vs ns G Y ho hd hcd hmg hobj hints hlen hg
  obtain ⟨K, fd, sp, KX, hb, hsp, hF⟩ := F w mg fa _ Y G.T.g hmg
  exact law_callG KX G.T.g G.T.b G.T.builtins G.T.nolimit hg hobj hints (Nat.le_trans hlen hn2) hr hF hb (fun H hO hS => hsp H a ns hlen hO hS)
section
variable {P : Program} {w : World} {K : PySem.W.Frag} {h : Heap} {mg : Str → Option Value}
theorem facts11 {f : Addr} (X : K.In h) (G : h.Ns mainGlobals mg) (hfa : mg ("law" : Str) = some (.ref f)) (c : He.SaysX fa11 fn11 [] [] ex11 w h K) :
    ∃ fd : FuncData, (∀ (s : Shared) (v : Value), BindsTo s fd ⟨[v], []⟩ [("_law_script", v)]) ∧ ∀ base : Heap, K.In base → base.Ns mainGlobals mg → FnG P w K mg base 7 f fd ["_law_script"] (spLaw K) := by
  obtain ⟨fd1, F1⟩ := def11 (x := "is_integer") (st := sIsInt) c.t.d 0 rfl
  obtain ⟨fd2, F2⟩ := def11 (x := "is_name") (st := sIsName) c.t.d 1 rfl
  obtain ⟨fd3, F3⟩ := def11 (x := "is_address") (st := sIsAddr) c.t.d 2 rfl
  obtain ⟨fd4, F4⟩ := def11 (x := "are_names") (st := sAreNames) c.t.d 3 rfl
  obtain ⟨fd5, F5⟩ := def11 (x := "are_choices") (st := sAreChoices) c.t.d 4 rfl
  obtain ⟨fd6, F6⟩ := def11 (x := "_law_bag") (st := sBag) c.t.d 5 rfl
  obtain ⟨fd7, F7⟩ := def11 (x := "_law_take") (st := sTake) c.t.d 6 rfl
  obtain ⟨fd8, F8⟩ := def11 (x := "_law_alike") (st := sAlike) c.t.d 7 rfl
  obtain ⟨fd9, F9⟩ := def11 (x := "_law_odd") (st := sOdd) c.t.d 8 rfl
  obtain ⟨fd10, F10⟩ := def11 (x := "_law_is_integer") (st := sLInt) c.t.d 9 rfl
  obtain ⟨fd11, F11⟩ := def11 (x := "_law_is_name") (st := sLName) c.t.d 10 rfl
  obtain ⟨fd12, F12⟩ := def11 (x := "_law_are_names") (st := sLNames) c.t.d 11 rfl
  obtain ⟨fd13, F13⟩ := def11 (x := "_law_is_address") (st := sLAddr) c.t.d 12 rfl
  obtain ⟨fd14, F14⟩ := def11 (x := "_law_near_name") (st := sNearName) c.t.d 13 rfl
  obtain ⟨fd15, F15⟩ := def11 (x := "_law_near_address") (st := sNearAddr) c.t.d 14 rfl
  obtain ⟨fd16, F16⟩ := def11 (x := "_law_some") (st := sSome) c.t.d 15 rfl
  obtain ⟨fd17, F17⟩ := def11 (x := "_law_are_choices") (st := sLChoices) c.t.d 16 rfl
  obtain ⟨fd18, FL⟩ := c.t.d.def_ 17 (d := dD "law" sLaw) rfl
  have F18 : Fun K "law" "law" sLaw (He.ga K "law") fd18 := toFun FL
  obtain ⟨fd19, F19⟩ := def11 (x := "are_rows") (st := sAreRows) c.t.d 18 rfl
  obtain ⟨fd20, F20⟩ := def11 (x := "count") (st := sCount) c.t.d 19 rfl
  obtain ⟨fd21, F21⟩ := def11 (x := "depth") (st := sDepth) c.t.d 20 rfl
  obtain ⟨fd22, F22⟩ := def11 (x := "_are_inputs") (st := sAreInputs) c.t.d 21 rfl
  obtain ⟨fd23, F23⟩ := def11 (x := "_lists_at") (st := sListsAt) c.t.d 22 rfl
  obtain ⟨fd24, F24⟩ := def11 (x := "_table_of") (st := sTable) c.t.d 23 rfl
  obtain ⟨fd25, F25⟩ := def11 (x := "_note_sights") (st := sNote) c.t.d 24 rfl
  obtain ⟨fd26, F26⟩ := def11 (x := "_check_leaves") (st := sLeaves) c.t.d 25 rfl
  obtain ⟨fd27, F27⟩ := def11 (x := "_check_makers") (st := sMakers) c.t.d 26 rfl
  obtain ⟨fd28, F28⟩ := def11 (x := "_as_keys") (st := sAsKeys) c.t.d 27 rfl
  obtain ⟨fd29, F29⟩ := def11 (x := "_check_sights") (st := sSights) c.t.d 28 rfl
  obtain ⟨fd30, F30⟩ := def11 (x := "_check_trees") (st := sTrees) c.t.d 29 rfl
  obtain ⟨fd31, F31⟩ := met11 (C := "Program") (m := "__init__") (q := "Program.__init__") (st := sPInit) c.t.d 30 rfl
  obtain ⟨fd32, F32⟩ := met11 (C := "Variants") (m := "__init__") (q := "Variants.__init__") (st := sVInit) c.t.d 31 rfl
  obtain ⟨fd33, F33⟩ := met11 (C := "Variants") (m := "wide") (q := "Variants.wide") (st := sVWide) c.t.d 32 rfl
  obtain ⟨fd34, F34⟩ := met11 (C := "Variants") (m := "_go_through") (q := "Variants._go_through") (st := sVGo) c.t.d 33 rfl
  have b1 : Binds K fd1 ["thing"] [] := F1.binds fun _ _ _ _ _ _ us hl => match us, hl with | [_], _ => rfl
  have g1 := (show mg ("is_integer" : Str) = some (.ref (He.ga K "is_integer")) from (He.glo_ok X G (c.t.d.fact 0 (f := .glo "is_integer") rfl)))
  have b2 : Binds K fd2 ["thing"] [] := F2.binds fun _ _ _ _ _ _ us hl => match us, hl with | [_], _ => rfl
  have g2 := (show mg ("is_name" : Str) = some (.ref (He.ga K "is_name")) from (He.glo_ok X G (c.t.d.fact 1 (f := .glo "is_name") rfl)))
  have b3 : Binds K fd3 ["thing"] [] := F3.binds fun _ _ _ _ _ _ us hl => match us, hl with | [_], _ => rfl
  have g3 := (show mg ("is_address" : Str) = some (.ref (He.ga K "is_address")) from (He.glo_ok X G (c.t.d.fact 2 (f := .glo "is_address") rfl)))
  have b4 : Binds K fd4 ["thing", "most"] [] := F4.binds fun _ _ _ _ _ _ us hl => match us, hl with | [_, _], _ => rfl
  have g4 := (show mg ("are_names" : Str) = some (.ref (He.ga K "are_names")) from (He.glo_ok X G (c.t.d.fact 3 (f := .glo "are_names") rfl)))
  have b5 : Binds K fd5 ["thing"] [] := F5.binds fun _ _ _ _ _ _ us hl => match us, hl with | [_], _ => rfl
  have g5 := (show mg ("are_choices" : Str) = some (.ref (He.ga K "are_choices")) from (He.glo_ok X G (c.t.d.fact 4 (f := .glo "are_choices") rfl)))
  have b6 : Binds K fd6 ["_law_script"] [] := F6.binds fun _ _ _ _ _ _ us hl => match us, hl with | [_], _ => rfl
  have g6 := (show mg ("_law_bag" : Str) = some (.ref (He.ga K "_law_bag")) from (He.glo_ok X G (c.t.d.fact 5 (f := .glo "_law_bag") rfl)))
  have b7 : Binds K fd7 ["_law_bag_here", "_law_many"] [] := F7.binds fun _ _ _ _ _ _ us hl => match us, hl with | [_, _], _ => rfl
  have g7 := (show mg ("_law_take" : Str) = some (.ref (He.ga K "_law_take")) from (He.glo_ok X G (c.t.d.fact 6 (f := .glo "_law_take") rfl)))
  have b8 : Binds K fd8 ["_law_found", "_law_due"] [] := F8.binds fun _ _ _ _ _ _ us hl => match us, hl with | [_, _], _ => rfl
  have g8 := (show mg ("_law_alike" : Str) = some (.ref (He.ga K "_law_alike")) from (He.glo_ok X G (c.t.d.fact 7 (f := .glo "_law_alike") rfl)))
  have b9 : Binds K fd9 ["_law_bag_here", "_law_name"] [] := F9.binds fun _ _ _ _ _ _ us hl => match us, hl with | [_, _], _ => rfl
  have g9 := (show mg ("_law_odd" : Str) = some (.ref (He.ga K "_law_odd")) from (He.glo_ok X G (c.t.d.fact 8 (f := .glo "_law_odd") rfl)))
  have b10 : Binds K fd10 ["_law_thing"] [] := F10.binds fun _ _ _ _ _ _ us hl => match us, hl with | [_], _ => rfl
  have g10 := (show mg ("_law_is_integer" : Str) = some (.ref (He.ga K "_law_is_integer")) from (He.glo_ok X G (c.t.d.fact 9 (f := .glo "_law_is_integer") rfl)))
  have b11 : Binds K fd11 ["_law_thing"] [] := F11.binds fun _ _ _ _ _ _ us hl => match us, hl with | [_], _ => rfl
  have g11 := (show mg ("_law_is_name" : Str) = some (.ref (He.ga K "_law_is_name")) from (He.glo_ok X G (c.t.d.fact 10 (f := .glo "_law_is_name") rfl)))
  have b12 : Binds K fd12 ["_law_thing", "_law_upto"] [] := F12.binds fun _ _ _ _ _ _ us hl => match us, hl with | [_, _], _ => rfl
  have g12 := (show mg ("_law_are_names" : Str) = some (.ref (He.ga K "_law_are_names")) from (He.glo_ok X G (c.t.d.fact 11 (f := .glo "_law_are_names") rfl)))
  have b13 : Binds K fd13 ["_law_thing"] [] := F13.binds fun _ _ _ _ _ _ us hl => match us, hl with | [_], _ => rfl
  have g13 := (show mg ("_law_is_address" : Str) = some (.ref (He.ga K "_law_is_address")) from (He.glo_ok X G (c.t.d.fact 12 (f := .glo "_law_is_address") rfl)))
  have b14 : Binds K fd14 ["_law_bag_here"] [] := F14.binds fun _ _ _ _ _ _ us hl => match us, hl with | [_], _ => rfl
  have g14 := (show mg ("_law_near_name" : Str) = some (.ref (He.ga K "_law_near_name")) from (He.glo_ok X G (c.t.d.fact 13 (f := .glo "_law_near_name") rfl)))
  have b15 : Binds K fd15 ["_law_bag_here"] [] := F15.binds fun _ _ _ _ _ _ us hl => match us, hl with | [_], _ => rfl
  have g15 := (show mg ("_law_near_address" : Str) = some (.ref (He.ga K "_law_near_address")) from (He.glo_ok X G (c.t.d.fact 14 (f := .glo "_law_near_address") rfl)))
  have b16 : Binds K fd16 ["_law_bag_here"] [] := F16.binds fun _ _ _ _ _ _ us hl => match us, hl with | [_], _ => rfl
  have g16 := (show mg ("_law_some" : Str) = some (.ref (He.ga K "_law_some")) from (He.glo_ok X G (c.t.d.fact 15 (f := .glo "_law_some") rfl)))
  have b17 : Binds K fd17 ["_law_thing"] [] := F17.binds fun _ _ _ _ _ _ us hl => match us, hl with | [_], _ => rfl
  have g17 := (show mg ("_law_are_choices" : Str) = some (.ref (He.ga K "_law_are_choices")) from (He.glo_ok X G (c.t.d.fact 16 (f := .glo "_law_are_choices") rfl)))
  have b18 : Binds K fd18 ["_law_script"] [] := F18.binds fun _ _ _ _ _ _ us hl => match us, hl with | [_], _ => rfl
  have g18 := (show mg ("law" : Str) = some (.ref (He.ga K "law")) from (He.glo_ok X G (c.t.d.fact 17 (f := .glo "law") rfl)))
  have b19 : Binds K fd19 ["thing"] [] := F19.binds fun _ _ _ _ _ _ us hl => match us, hl with | [_], _ => rfl
  have g19 := (show mg ("are_rows" : Str) = some (.ref (He.ga K "are_rows")) from (He.glo_ok X G (c.t.d.fact 18 (f := .glo "are_rows") rfl)))
  have b20 : Binds K fd20 ["rows"] [] := F20.binds fun _ _ _ _ _ _ us hl => match us, hl with | [_], _ => rfl
  have g20 := (show mg ("count" : Str) = some (.ref (He.ga K "count")) from (He.glo_ok X G (c.t.d.fact 19 (f := .glo "count") rfl)))
  have b21 : Binds K fd21 ["rows"] [] := F21.binds fun _ _ _ _ _ _ us hl => match us, hl with | [_], _ => rfl
  have g21 := (show mg ("depth" : Str) = some (.ref (He.ga K "depth")) from (He.glo_ok X G (c.t.d.fact 20 (f := .glo "depth") rfl)))
  have b22 : Binds K fd22 ["thing"] [] := F22.binds fun _ _ _ _ _ _ us hl => match us, hl with | [_], _ => rfl
  have g22 := (show mg ("_are_inputs" : Str) = some (.ref (He.ga K "_are_inputs")) from (He.glo_ok X G (c.t.d.fact 21 (f := .glo "_are_inputs") rfl)))
  have b23 : Binds K fd23 ["rows", "road"] [] := F23.binds fun _ _ _ _ _ _ us hl => match us, hl with | [_, _], _ => rfl
  have g23 := (show mg ("_lists_at" : Str) = some (.ref (He.ga K "_lists_at")) from (He.glo_ok X G (c.t.d.fact 22 (f := .glo "_lists_at") rfl)))
  have b24 : Binds K fd24 ["rows"] [] := F24.binds fun _ _ _ _ _ _ us hl => match us, hl with | [_], _ => rfl
  have g24 := (show mg ("_table_of" : Str) = some (.ref (He.ga K "_table_of")) from (He.glo_ok X G (c.t.d.fact 23 (f := .glo "_table_of") rfl)))
  have b25 : Binds K fd25 ["rows", "road", "seen", "sights"] [] := F25.binds fun _ _ _ _ _ _ us hl => match us, hl with | [_, _, _, _], _ => rfl
  have g25 := (show mg ("_note_sights" : Str) = some (.ref (He.ga K "_note_sights")) from (He.glo_ok X G (c.t.d.fact 24 (f := .glo "_note_sights") rfl)))
  have b26 : Binds K fd26 ["rows"] [] := F26.binds fun _ _ _ _ _ _ us hl => match us, hl with | [_], _ => rfl
  have g26 := (show mg ("_check_leaves" : Str) = some (.ref (He.ga K "_check_leaves")) from (He.glo_ok X G (c.t.d.fact 25 (f := .glo "_check_leaves") rfl)))
  have b27 : Binds K fd27 ["inputs", "table"] [] := F27.binds fun _ _ _ _ _ _ us hl => match us, hl with | [_, _], _ => rfl
  have g27 := (show mg ("_check_makers" : Str) = some (.ref (He.ga K "_check_makers")) from (He.glo_ok X G (c.t.d.fact 26 (f := .glo "_check_makers") rfl)))
  have b28 : Binds K fd28 ["names"] [] := F28.binds fun _ _ _ _ _ _ us hl => match us, hl with | [_], _ => rfl
  have g28 := (show mg ("_as_keys" : Str) = some (.ref (He.ga K "_as_keys")) from (He.glo_ok X G (c.t.d.fact 27 (f := .glo "_as_keys") rfl)))
  have b29 : Binds K fd29 ["table", "sights"] [] := F29.binds fun _ _ _ _ _ _ us hl => match us, hl with | [_, _], _ => rfl
  have g29 := (show mg ("_check_sights" : Str) = some (.ref (He.ga K "_check_sights")) from (He.glo_ok X G (c.t.d.fact 28 (f := .glo "_check_sights") rfl)))
  have b30 : Binds K fd30 ["inputs", "rows"] [] := F30.binds fun _ _ _ _ _ _ us hl => match us, hl with | [_, _], _ => rfl
  have g30 := (show mg ("_check_trees" : Str) = some (.ref (He.ga K "_check_trees")) from (He.glo_ok X G (c.t.d.fact 29 (f := .glo "_check_trees") rfl)))
  have b31 : Binds K fd31 ["self", "inputs", "rows"] [] := F31.binds fun _ _ _ _ _ _ us hl => match us, hl with | [_, _, _], _ => rfl
  have b32 : Binds K fd32 ["self", "inputs", "rows"] [] := F32.binds fun _ _ _ _ _ _ us hl => match us, hl with | [_, _, _], _ => rfl
  have b33 : Binds K fd33 ["self"] [] := F33.binds fun _ _ _ _ _ _ us hl => match us, hl with | [_], _ => rfl
  have b34 : Binds K fd34 ["self", "rows"] [] := F34.binds fun _ _ _ _ _ _ us hl => match us, hl with | [_, _], _ => rfl
  have gP := (show mg ("Program" : Str) = some (.ref (He.ga K "Program")) from (He.glo_ok X G (c.t.d.fact 30 (f := .glo "Program") rfl)))
  have gV := (show mg ("Variants" : Str) = some (.ref (He.ga K "Variants")) from (He.glo_ok X G (c.t.d.fact 31 (f := .glo "Variants") rfl)))
  have N : Isi mg := ⟨(He.free_ok X G (c.t.d.fact 33 (f := .free "isinstance") rfl)), (He.free_ok X G (c.t.d.fact 34 (f := .free "int") rfl)), (He.free_ok X G (c.t.d.fact 35 (f := .free "bool") rfl)), (He.free_ok X G (c.t.d.fact 36 (f := .free "str") rfl)), (He.free_ok X G (c.t.d.fact 37 (f := .free "tuple") rfl)), (He.free_ok X G (c.t.d.fact 38 (f := .free "list") rfl)), (He.free_ok X G (c.t.d.fact 39 (f := .free "len") rfl)), (He.free_ok X G (c.t.d.fact 40 (f := .free "all") rfl))⟩
  have NB : Bare mg := ⟨(He.free_ok X G (c.t.d.fact 34 (f := .free "int") rfl)), (He.free_ok X G (c.t.d.fact 41 (f := .free "abs") rfl)), (He.free_ok X G (c.t.d.fact 39 (f := .free "len") rfl)), (He.free_ok X G (c.t.d.fact 42 (f := .free "repr") rfl))⟩
  have M : Nat2 mg := ⟨(He.free_ok X G (c.t.d.fact 43 (f := .free "set") rfl)), (He.free_ok X G (c.t.d.fact 44 (f := .free "sum") rfl)), (He.free_ok X G (c.t.d.fact 45 (f := .free "max") rfl)), (He.free_ok X G (c.t.d.fact 46 (f := .free "sorted") rfl)), (He.free_ok X G (c.t.d.fact 47 (f := .free "enumerate") rfl))⟩
  have hR : mg ("range" : Str) = none := (He.free_ok X G (c.t.d.fact 48 (f := .free "range") rfl))
  obtain ⟨x1, y1⟩ := He.ba c.more
  obtain ⟨x2, y2⟩ := He.ba y1
  obtain ⟨x3, y3⟩ := He.ba y2
  obtain ⟨x4, y4⟩ := He.ba y3
  obtain ⟨x5, y5⟩ := He.ba y4
  obtain ⟨x6, y6⟩ := He.ba y5
  obtain ⟨x7, x8⟩ := He.ba y6
  have clP := He.cls_ok (x := "Program") (c.t.d.fact 49 (f := .cls "Program") rfl)
  have pc : PrC K (He.ga K "Program") := ⟨⟨clP, He.eqO_ok x4, He.eqO_ok x5, of_decide_eq_true x6, of_decide_eq_true x7, of_decide_eq_true x8⟩, fun T hT => of_decide_eq_true (List.all_eq_true.mp x2 T hT), fun T hT => of_decide_eq_true (List.all_eq_true.mp x3 T hT)⟩
  have kon : Kon K mg := ⟨He.int_ok X G (c.t.d.fact 65 (f := .int "LONGEST" 8) rfl), He.str_ok X G (c.t.d.fact 66 (f := .str "LETTERS" "abcdefghijklmnopqrstuvwxyz") rfl), _, (He.glo_ok X G (c.t.d.fact 32 (f := .glo "WORDS") rfl)), fun H => He.tupB_ok x1 H⟩
  have pr : PrgC K mg (He.ga K "Program") (He.ma K (He.ga K "Program") "__init__") := ⟨clP, He.mkr_ok (c.t.d.fact 50 (f := .mkr "Program") rfl), (He.noat_ok (c.t.d.fact 51 (f := .noat "Program" "_inputs") rfl)), (He.noat_ok (c.t.d.fact 52 (f := .noat "Program" "_rows") rfl)), (He.noat_ok (c.t.d.fact 53 (f := .noat "Program" "_table") rfl)), (He.noat_ok (c.t.d.fact 54 (f := .noat "Program" "_sights") rfl)), (He.noat_ok (c.t.d.fact 55 (f := .noat "Program" "_makers") rfl)), gP, (He.free_ok X G (c.t.d.fact 37 (f := .free "tuple") rfl)), He.int_ok X G (c.t.d.fact 68 (f := .int "MOST_ROWS" 24) rfl), He.int_ok X G (c.t.d.fact 69 (f := .int "MOST_DEPTH" 4) rfl)⟩
  have vc : VarC K mg (He.ga K "Variants") (He.ma K (He.ga K "Variants") "__init__") (He.ma K (He.ga K "Variants") "_go_through") (He.ma K (He.ga K "Variants") "wide") := ⟨He.cls_ok (c.t.d.fact 56 (f := .cls "Variants") rfl), He.mkr_ok (c.t.d.fact 57 (f := .mkr "Variants") rfl), He.meth_ok (c.t.d.fact 59 (f := .meth "Variants" "_go_through") rfl), He.meth_ok (c.t.d.fact 58 (f := .meth "Variants" "wide") rfl), (He.noat_ok (c.t.d.fact 60 (f := .noat "Variants" "_numbers") rfl)), (He.noat_ok (c.t.d.fact 61 (f := .noat "Variants" "_nodes") rfl)), (He.noat_ok (c.t.d.fact 62 (f := .noat "Variants" "_known") rfl)), (He.noat_ok (c.t.d.fact 63 (f := .noat "Variants" "_wide") rfl)), (He.noat_ok (c.t.d.fact 64 (f := .noat "Variants" "_ifs") rfl)), gV⟩
  have hMI : ∃ t, mg ("MOST_INPUTS" : Str) = some (.int 4 t) := He.int_ok X G (c.t.d.fact 67 (f := .int "MOST_INPUTS" 4) rfl)
  have e := hfa.symm.trans g18
  cases e
  have bL := FunD.bindsA (ps := ["_law_script"]) FL fun _ _ _ _ _ _ us hl => match us, hl with | [_], _ => rfl
  refine ⟨fd18, fun s v => bL s [v] rfl, fun base KB GB => ?_⟩
  have o1 := ok_isInt (P := P) (w := w) (K := K) (mg := mg) (base := base) (C := He.ga K "Program") F1 N pc
  have o2 := ok_isName (P := P) (w := w) (K := K) (mg := mg) (base := base) (C := He.ga K "Program") F2 N kon pc
  have o3 := ok_isAddr (P := P) (w := w) (K := K) (mg := mg) (base := base) (C := He.ga K "Program") F3 N pc o1 g1 F1.kp b1
  have o4 := ok_areNames (P := P) (w := w) (K := K) (mg := mg) (base := base) (C := He.ga K "Program") F4 N pc o2 g2 F2.kp b2
  have o5 := ok_areChoices (P := P) (w := w) (K := K) (mg := mg) (base := base) (C := He.ga K "Program") F5 N kon pc
  have o10 := ok_lInt (P := P) (w := w) (K := K) (mg := mg) (base := base) (C := He.ga K "Program") F10 N pc
  have o11 := ok_lName (P := P) (w := w) (K := K) (mg := mg) (base := base) (C := He.ga K "Program") F11 N pc
  have o13 := ok_lAddr (P := P) (w := w) (K := K) (mg := mg) (base := base) (C := He.ga K "Program") F13 N pc o10 g10 F10.kp b10
  have o12 := ok_lNames (P := P) (w := w) (K := K) (mg := mg) (base := base) (C := He.ga K "Program") F12 N pc o11 g11 F11.kp b11
  have o17 := ok_lChoices (P := P) (w := w) (K := K) (mg := mg) (base := base) (C := He.ga K "Program") F17 N pc
  have o6 := ok_bag (P := P) (w := w) (K := K) (mg := mg) (base := base) F6 NB
  have o7 := ok_take (P := P) (w := w) (K := K) (mg := mg) (base := base) F7 NB
  have o8 := ok_alike (P := P) (w := w) (K := K) (mg := mg) (base := base) F8 NB
  have cT : CalTake P w K mg base := ⟨_, _, o7, g7, F7.kp, b7⟩
  have o9 := ok_odd (P := P) (w := w) (K := K) (mg := mg) (base := base) (C := He.ga K "Program") F9 NB cT
  have o14 := ok_nearName (P := P) (w := w) (K := K) (mg := mg) (base := base) F14 NB hR cT
  have o15 := ok_nearAddr (P := P) (w := w) (K := K) (mg := mg) (base := base) (C := He.ga K "Program") F15 NB hR N.tuple cT
  have o16 := ok_some (P := P) (w := w) (K := K) (mg := mg) (base := base) (C := He.ga K "Program") F16 NB hR N.tuple cT ⟨_, _, o9, g9, F9.kp, b9⟩ ⟨_, _, o14, g14, F14.kp, b14⟩ ⟨_, _, o15, g15, F15.kp, b15⟩
  have o19 := ok_areRows (P := P) (w := w) (K := K) (mg := mg) (base := base) (C := He.ga K "Program") F19 N pc
  have o20 := ok_count (P := P) (w := w) (K := K) (mg := mg) (base := base) F20 N M
  have o21 := ok_depth (P := P) (w := w) (K := K) (mg := mg) (base := base) F21 M
  have o22 := ok_areInputs (P := P) (w := w) (K := K) (mg := mg) (base := base) (C := He.ga K "Program") F22 N M ⟨_, _, o4, g4, F4.kp, b4⟩ hMI
  have o23 := ok_listsAt (P := P) (w := w) (K := K) (mg := mg) (base := base) F23 M
  have o24 := ok_table (P := P) (w := w) (K := K) (mg := mg) (base := base) F24 M o23 g23 F23.kp b23
  have o25 := ok_note (P := P) (w := w) (K := K) (mg := mg) (base := base) F25 N M
  have o26 := ok_leaves (P := P) (w := w) (K := K) (mg := mg) (base := base) F26 N M o23 g23 F23.kp b23
  have o28 := ok_asKeys (P := P) (w := w) (K := K) (mg := mg) (base := base) F28
  have o27 := ok_makers (P := P) (w := w) (K := K) (mg := mg) (base := base) F27 N o28 g28 F28.kp b28
  have o29 := ok_sights (P := P) (w := w) (K := K) (mg := mg) (base := base) F29
  have o34 := ok_vGo (P := P) (w := w) (K := K) (mg := mg) (base := base) F34
  have o33 := ok_vWide (P := P) (w := w) (K := K) (mg := mg) (base := base) F33 vc M
  have o32 := ok_vInit (P := P) (w := w) (K := K) (mg := mg) (base := base) F32 vc o34 b34
  have o30 := ok_trees (P := P) (w := w) (K := K) (mg := mg) (base := base) F30 N vc o32 b32 o33 b33
  have o31 := ok_pInit (P := P) (w := w) (K := K) (mg := mg) (base := base) F31 pr M ⟨_, _, o22, g22, F22.kp, b22⟩ ⟨_, _, o19, g19, F19.kp, b19⟩ ⟨_, _, o20, g20, F20.kp, b20⟩ ⟨_, _, o21, g21, F21.kp, b21⟩ ⟨_, _, o24, g24, F24.kp, b24⟩ ⟨_, _, o26, g26, F26.kp, b26⟩ ⟨_, _, o27, g27, F27.kp, b27⟩ ⟨_, _, o25, g25, F25.kp, b25⟩ ⟨_, _, o29, g29, F29.kp, b29⟩ ⟨_, _, o30, g30, F30.kp, b30⟩
  refine ok_law F18 (C := He.ga K "Program") (fI := He.ma K (He.ga K "Program") "__init__") (fdI := fd31) ⟨N, NB, hR, pc, ⟨_, _, o6, g6, F6.kp, b6⟩, cT, ⟨_, _, o16, g16, F16.kp, b16⟩, ⟨_, _, o10, g10, F10.kp, b10⟩, ⟨_, _, o11, g11, F11.kp, b11⟩, ⟨_, _, o13, g13, F13.kp, b13⟩, ⟨_, _, o12, g12, F12.kp, b12⟩, ⟨_, _, o17, g17, F17.kp, b17⟩, ⟨_, _, o1, g1, F1.kp, b1⟩, ⟨_, _, o2, g2, F2.kp, b2⟩, ⟨_, _, o3, g3, F3.kp, b3⟩, ⟨_, _, o4, g4, F4.kp, b4⟩, ⟨_, _, o5, g5, F5.kp, b5⟩, ⟨_, _, o8, g8, F8.kp, b8⟩, pr.mke, o31, gP, b31⟩
end
end My

set_option Elab.async false
set_option linter.all false
set_option maxRecDepth 100000
set_option maxHeartbeats 0
open PySem PySem.W PySem.Calls PyProof.Rows
theorem PySem.Challenge.cw_movedchecks_k11_kinds_holds : PySem.Challenge.rw_movedchecks_k11_kinds.Holds := by
  w_on; o_law
  refine HandSHeadRun.head_any (r := OpenLaw.row PySem.Challenge.rw_movedchecks_k11_kinds) (q := view (OpenLaw.row PySem.Challenge.rw_movedchecks_k11_kinds).prog [72]) (H := My.hk11) (ob := My.ob11) (M := 6000) (loose := My.nm11) (d := HandSHeadRun.topDef (OpenLaw.row PySem.Challenge.rw_movedchecks_k11_kinds).prog 72) (kwd := []) My.obX_eq
    (by kernel_rfl) (fun s => by kernel_rfl) My.run11 (by kernel_rfl) (by kernel_rfl) (by kernel_rfl) (by rfl) (by first | assumption | decide +kernel) (by decide +kernel) ⟨rfl, rfl, rfl, rfl, rfl, by decide +kernel⟩ ?hw ?hc
  case hw => w_witness2
  case hc =>
    refine My.walkE (l := PySem.Challenge.rw_movedchecks_k11_kinds) (n := 63) (k := 7) (x := "_law_script") rfl (by decide) (by kernel_rfl) ⟨rfl, by decide, by decide⟩ ?F
    intro w mg fa h Y G hmg0
    obtain ⟨K, KX, c⟩ := Y
    have hmg : mg ("law" : PySem.Str) = some (.ref fa) := by
      have e : (HandSHeadRun.topDef (OpenLaw.row PySem.Challenge.rw_movedchecks_k11_kinds).prog 72).name = ("law" : PySem.Str) := by kernel_rfl
      rw [← e]
      exact hmg0
    obtain ⟨fd, hb, hF⟩ := My.facts11 (P := (PySem.Challenge.rw_movedchecks_k11_kinds).prog) (w := w) KX G hmg c
    exact ⟨K, fd, My.spLaw K, KX, hb, fun H a ns hl _ hS => ⟨a, ns, rfl, hS, hl, fun _ => rfl⟩, hF⟩

