import PyProof.Rows.All
import Wide.All
import OpenK.AllK
import Wide.FinOn
import KE.KNest
import KE.KNestM
import HandS.Base
import HandS.Call
import HandS.List
import HandS.Dict
import HandS.More
import HandS.Exc
import HandS.ExcInit
import HandS.ExcField
import HandS.Defaults
import HandS.Lambda
import HandS.EndTab
import HandS.HeadHook1
import HandS.HeadHook2
import HandS.HeadHook3
import HandS.HeadHook4
import HandS.HeadNt
import HandS.HeadWalk
import HandS.Star
import KE.KSuper
import KE.KIsAll
import KE.KTryMore
import HandS.ExcIs
import HandS.ExcValue
import PyProof.EqAt
import PyProof.EqKinds
import PyProof.NeKinds
import PyProof.InstEq
import PyProof.TupleCall
import HandS.Strs
import KE.GoesMore
import KE.GoesEnum
import HandS.Comp
import HandS.Iter
import HandS.Style
import HandS.Walk
import KE.KStar
import KE.KCallOwn
import HandS.Slots
import HandS.Words
import PyProof.DictValues
import KE.KDictList
import HandS.ListItems
import HandS.ForMost
import HandS.Evl
import HandS.TryOnly
import HandS.WordsExc
import HandS.IsInst
import HandS.ClsMeth
import HandS.DictComp
import HandS.TupAny
import HandS.Flow
import PySem.Challenge.RW_recordcraft_k17_whole_cooperation
import KE.KStateDown
import Lean
import HandS.Head0
import HandS.Head1
import HandS.Head2
import HandS.Text
import HandS.SetKeys
import HandS.Nested
import HandS.ExcOwn
import HandS.Zip
section
set_option Elab.async false
set_option linter.all false
set_option maxRecDepth 100000
set_option maxHeartbeats 2000000
/-! a Hook that tells: facts, defs at any address, further Bools, empty tables of code objects that are left out -/
namespace HkQ
open PySem PySem.Spec PyProof.Rows L2 He
abbrev Frag := PySem.W.Frag
/-- the table of a code object at an address -/
abbrev TabF := Frag → Addr
def cOf (K : Frag) (a : Addr) : Addr := match K.lookup a with
  | some ⟨_, _, .func fd, _⟩ => (match fd.code with
    | .ref c => c
    | _ => 0)
  | _ => 0
theorem cOf_eq {K : Frag} {a : Addr} {oc : Value} {od : Option Addr} {osl : Array (Option Value)} {fd : FuncData} {c : Addr} (lk : K.lookup a = some ⟨oc, od, .func fd, osl⟩) (e : fd.code = .ref c) : cOf K a = c := by
  unfold cOf
  rw [lk]
  show (match fd.code with | .ref c => c | _ => 0) = c
  rw [e]
/-- the code object of the def at a, its table -/
def cP (K : Frag) (t : TabF) : Addr × Addr := (cOf K (t K), tabOf K (cOf K (t K)))
structure SaysQ (fa : List Fa) (fn : List He5.DefA) (tf : List TabF) (exs : List (Frag → Bool)) (h : Heap) (K : Frag) : Prop where
  a : He5.SaysA fa fn K
  more : (exs.all fun f => f K) = true
  hd : ∀ t ∈ tf, PySem.W.codeHdIn K (cP K t).1 (cP K t).2 = true
  out : ∀ t ∈ tf, K.lookup (cP K t).2 = none
  empty : ∀ t ∈ tf, h.get? (cP K t).2 = some { cls := .none, data := .fields #[] }
def tabsQ (g : Addr → Option Obj) (tf : List TabF) (K : Frag) : Bool := tf.all fun t => PySem.W.codeHdIn K (cP K t).1 (cP K t).2 && (match g (cP K t).2 with
  | some o => emptyTab o
  | none => false)
abbrev AlQ : Type := AlD × Bool
def obsQ (al : List Addr) (fa : List Fa) (fn : List He5.DefA) (tf : List TabF) (exs : List (Frag → Bool)) (g : Addr → Option Obj) : AlQ :=
  (He5.obsA fa fn (frT g al), (exs.all fun f => f (frT g al)) && tabsQ g tf (frT g al))
def valQ (fn : List He5.DefA) : AlQ := (He5.valA fn, true)
theorem saysQ_of {al : List Addr} {fa : List Fa} {fn : List He5.DefA} {tf : List TabF} {exs : List (Frag → Bool)} {h : Heap} (e : obsQ al fa fn tf exs h.get? = valQ fn) : SaysQ fa fn tf exs h (frT h.get? al) := by
  have e1 : He5.obsA fa fn (frT h.get? al) = He5.valA fn := congrArg (fun z : AlQ => z.1) e
  have e2 : ((exs.all fun f => f (frT h.get? al)) && tabsQ h.get? tf (frT h.get? al)) = true := congrArg (fun z : AlQ => z.2) e
  obtain ⟨h1, h2⟩ := He.ba e2
  have key : ∀ t ∈ tf, PySem.W.codeHdIn (frT h.get? al) (cP (frT h.get? al) t).1 (cP (frT h.get? al) t).2 = true ∧ ∃ o, h.get? (cP (frT h.get? al) t).2 = some o ∧ emptyTab o = true := fun t ht => by
    obtain ⟨h3, h4⟩ := He.ba (List.all_eq_true.mp h2 t ht)
    refine ⟨h3, ?_⟩
    cases q : h.get? (cP (frT h.get? al) t).2 with
    | none =>
      rw [q] at h4
      cases h4
    | some o =>
      rw [q] at h4
      exact ⟨o, rfl, h4⟩
  refine ⟨e1, h1, fun t ht => (key t ht).1, fun t ht => ?_, fun t ht => ?_⟩
  · obtain ⟨_, o, q, z⟩ := key t ht
    exact frT_none q z
  · obtain ⟨_, o, q, z⟩ := key t ht
    rw [q, emptyTab_eq z]
def hookQ (al : List Addr) (fa : List Fa) (fn : List He5.DefA) (tf : List TabF) (exs : List (Frag → Bool)) : PySem.W.Hook where
  α := AlQ
  obs := fun s => obsQ al fa fn tf exs s.heap.get?
  val := fun _ => valQ fn
  says := fun _ h => ∃ K : Frag, K.In h ∧ SaysQ fa fn tf exs h K
  of := fun _ _ e => ⟨_, frT_in, saysQ_of e⟩
  keeps := fun _ _ _ ⟨K, hK, c⟩ k => ⟨K, PySem.W.Frag.In.keeps hK k, ⟨c.a, c.more, c.hd, c.out, fun t ht => k _ _ (c.empty t ht)⟩⟩
theorem obsQ_eq {al : List Addr} {fa : List Fa} {fn : List He5.DefA} {tf : List TabF} {exs : List (Frag → Bool)} {g : Addr → Option Obj} {s : Shared} (h : ∀ a, g a = s.heap.get? a) : obsQ al fa fn tf exs g = (hookQ al fa fn tf exs).obs s := by
  have e : g = s.heap.get? := funext h
  rw [e] <;> rfl
theorem SaysQ.ex {fa : List Fa} {fn : List He5.DefA} {tf : List TabF} {exs : List (Frag → Bool)} {h : Heap} {K : Frag} (c : SaysQ fa fn tf exs h K) (i : Nat) {f : Frag → Bool} (e : exs[i]? = some f := by rfl) : f K = true :=
  List.all_eq_true.mp c.more f (List.mem_of_getElem? e)
/-! ### further Bools -/
/-- an own exception class over ValueError, with an __init__ of its own -/
def oexB (K : Frag) (C : Addr) : Bool := (match K.lookup C with
  | some ⟨.type "type", _, .cls cd, sl⟩ => (match cd.mro, sl.toList with
    | .ref C' :: bm, [_, _, _, _, some (.builtin n), _] => C' == C && (n == "ValueError.__new__" && (!cd.hasDel && (cd.hasDict && PySem.HandSPX.refsVE bm)))
    | _, _ => false)
  | _ => false) && (eqO (PySem.W.findIn K (.ref C) "__setattr__") (some (some (.builtin "object.__setattr__"))) && (decide (PySem.W.subIn K (.ref C) (.type "BaseException") = some true) && (decide (PySem.W.typeIn K (.ref C) = some (.type "type")) && PySem.W.keepIn K (.ref C))))
theorem oexB_ok {K : Frag} {C : Addr} (h : oexB K C = true) : OexC K C := by
  obtain ⟨q, h⟩ := He.ba h
  obtain ⟨h2, h⟩ := He.ba h
  obtain ⟨h3, h⟩ := He.ba h
  obtain ⟨h4, h5⟩ := He.ba h
  refine ⟨?_, eqO_ok h2, of_decide_eq_true h3, of_decide_eq_true h4, h5⟩
  split at q
  · rename_i dd cd sl ho
    split at q
    · rename_i C' bm k0 k1 k2 k3 n k5 hm hs
      obtain ⟨g1, q⟩ := He.ba q
      obtain ⟨g2, q⟩ := He.ba q
      obtain ⟨g3, q⟩ := He.ba q
      obtain ⟨g4, g5⟩ := He.ba q
      obtain rfl := eq_of_beq g1
      obtain rfl := eq_of_beq g2
      obtain ⟨nm, bs, mro, ns, qn, hd, sn, sub, ab, col, del⟩ := cd
      dsimp only at hm g3 g4
      have g3' : del = false := by simpa using g3
      subst hm g3' g4
      have hsl : sl = #[k0, k1, k2, k3, some (.builtin "ValueError.__new__"), k5] := by
        obtain ⟨l⟩ := sl
        simp only at hs
        rw [hs]
      subst hsl
      exact ⟨nm, qn, ns, bs, bm, sn, sub, ab, col, dd, k0, k1, k2, k3, k5, ho, g5⟩
    · cases q
  · cases q
end HkQ
end

section
set_option Elab.async false
set_option linter.all false
set_option maxRecDepth 100000
set_option maxHeartbeats 2000000
/-! x in o, o[x], len(o), o + x by the class's own __contains__, __getitem__, __len__, __add__ -/
namespace OwD
open PySem PySem.Spec PyProof.Rows L2
section
variable {X : Cx} {pins : List (Addr × Obj)} {σ : L2.St} {H : Hp} {s : Shared} {CX : CXT} {k : Nat} {C f : Addr} {sp : Sp} {E : XK} {Q : VK} {us : List Value} {vs : List V}
/-- the class has the name as a def of its own at f -/
structure DunC (K : PySem.W.Frag) (C : Addr) (n : Str) (f : Addr) : Prop where
  at_ : PySem.W.findIn K (.ref C) n = some (some (.ref f))
  fn : PySem.W.isFn K (.ref f) = true
def dunB (K : PySem.W.Frag) (C : Addr) (n : Str) (f : Addr) : Bool := decide (PySem.W.findIn K (.ref C) n = some (some (.ref f))) && PySem.W.isFn K (.ref f)
theorem dunB_ok {K : PySem.W.Frag} {C : Addr} {n : Str} {f : Addr} (h : dunB K C n f = true) : DunC K C n f := by
  obtain ⟨h1, h2⟩ := Bool.and_eq_true_iff.mp h
  exact ⟨of_decide_eq_true h1, h2⟩
theorem inst_of (I : Inv X pins σ H s) {a dx : Addr} {fs : List (Str × V)} (ha : H a = some (.ins C dx fs)) : ∃ ox od, PySem.W.InstAt s.heap a ox C od := by
  obtain ⟨mA, J, _⟩ := ins_get I.hok ha
  obtain ⟨od, J, _⟩ := J.look
  exact ⟨_, _, J⟩
theorem run_dun (F : FnR X.prog X.w X.K X.mg X.base CX k f sp) (hr : Room k X.A) (hx : Passes CX X E) (I : Inv X pins σ H s) (r : Vals vs us) (h : sp vs H Q E) :
    wpAny (model X.prog X.w) X.A (call (.ref f) us) (EP X pins σ Q) X.xe s := by
  refine wpAny_call (codeAny_mono (F X.A X.stack s H us vs Q E hr I.env0 r h) fun r s' hq => ?_)
  cases r with
  | error e => exact hx pins σ H s e s' I hq
  | ok fl =>
    cases fl with
    | ret u => exact I.after hq
    | next => exact False.elim hq
    | brk => exact False.elim hq
    | cont => exact False.elim hq
/-- x in o -/
def rInO (C : Addr) (sp : Sp) (E : XK) (neg : Bool) : R2 := fun x y H Q => ∃ a dx fs, y = .ref a ∧ H a = some (.ins C dx fs) ∧ sp [.ref a, x] H (fun v H' => ∃ b, v = .bl b ∧ Q (.bl (if neg then !b else b)) H') E
theorem op_inOwn (d : DunC X.K C "__contains__" f) (F : FnR X.prog X.w X.K X.mg X.base CX k f sp) (hr : Room k X.A) (hx : Passes CX X E) : OpR X (compareOp .In) (rInO C sp E false) := by
  intro pins s σ H x y v u Q I rx ry h
  obtain ⟨a, dx, fs, rfl, ha, q⟩ := h
  obtain rfl : u = Value.ref a := ry
  obtain ⟨ox, od, J⟩ := inst_of I ha
  obtain ⟨m, hF⟩ := I.fr
  refine PySem.W.in_K hF I.ok.mod.kin J d.at_ d.fn (thn (run_dun F hr hx I (.cons (show RelV (.ref a) (.ref a) from rfl) (.cons rx .nil)) q) fun r s1 ⟨w, H1, I1, rw1, b, eb, q1⟩ => ?_)
  subst eb
  obtain rfl : r = Value.bool b := rw1
  exact wpAny_truthy_bool ⟨.bl b, H1, I1, rfl, q1⟩
theorem op_notInOwn (d : DunC X.K C "__contains__" f) (F : FnR X.prog X.w X.K X.mg X.base CX k f sp) (hr : Room k X.A) (hx : Passes CX X E) : OpR X (compareOp .NotIn) (rInO C sp E true) := by
  intro pins s σ H x y v u Q I rx ry h
  obtain ⟨a, dx, fs, rfl, ha, q⟩ := h
  obtain rfl : u = Value.ref a := ry
  obtain ⟨ox, od, J⟩ := inst_of I ha
  obtain ⟨m, hF⟩ := I.fr
  refine PySem.W.notIn_K hF I.ok.mod.kin J d.at_ d.fn (thn (run_dun F hr hx I (.cons (show RelV (.ref a) (.ref a) from rfl) (.cons rx .nil)) q) fun r s1 ⟨w, H1, I1, rw1, b, eb, q1⟩ => ?_)
  subst eb
  obtain rfl : r = Value.bool b := rw1
  exact wpAny_truthy_bool ⟨.bl (!b), H1, I1, rfl, q1⟩
/-- len(o) -/
def rLenO (C : Addr) (sp : Sp) (E : XK) : List V → Hp → VK → Prop := fun xs H Q => ∃ a dx fs, xs = [.ref a] ∧ H a = some (.ins C dx fs) ∧ sp [.ref a] H (fun v H' => ∃ i : Int, v = .int i ∧ 0 ≤ i ∧ i < 2 ^ 63 ∧ Q (.int i) H') E
theorem call_lenOwn (d : DunC X.K C "__len__" f) (F : FnR X.prog X.w X.K X.mg X.base CX k f sp) (hr : Room (k + 1) X.A) (hx : Passes CX X E) : CallR X (.builtin "len") (rLenO C sp E) := by
  intro pins s σ H xs us Q I r h
  obtain ⟨a, dx, fs, rfl, ha, q⟩ := h
  obtain ⟨u, rfl, ru⟩ := vals1 r
  obtain rfl : u = Value.ref a := ru
  obtain ⟨ox, od, J⟩ := inst_of I ha
  obtain ⟨m, hF⟩ := I.fr
  refine PySem.W.len_K hF I.ok.mod.kin J d.at_ d.fn ?_
  have e0 : Env0 X.prog X.w X.K X.mg X.base X.A.in1 X.stack s H := I.env0.in1
  refine wpAny_call (codeAny_mono (F X.A.in1 X.stack s H [.ref a] [.ref a] _ E hr.in1 e0 (.cons (show RelV (.ref a) (.ref a) from rfl) .nil) q) fun r s' hq => ?_)
  cases r with
  | error e => exact hx pins σ H s e s' I hq
  | ok fl =>
    cases fl with
    | ret u =>
      obtain ⟨w, H1, I1, rw1, i, eb, i0, i1, q1⟩ := I.after hq
      subst eb
      obtain ⟨t, rfl⟩ := rw1
      exact ⟨⟨i0, i1⟩, .int i, H1, I1.tok _, ⟨_, rfl⟩, q1⟩
    | next => exact False.elim hq
    | brk => exact False.elim hq
    | cont => exact False.elim hq
/-- o[x] -/
def rSubO (C : Addr) (sp : Sp) (E : XK) : R2 := fun x y H Q => ∃ a dx fs, x = .ref a ∧ H a = some (.ins C dx fs) ∧ sp [.ref a, y] H Q E
theorem ix_own (d : DunC X.K C "__getitem__" f) (hfn : PySem.W.fnIn X.K f = true) (F : FnR X.prog X.w X.K X.mg X.base CX k f sp) (hr : Room (k + 1) X.A) (hx : Passes CX X E) {value slice : Expr}
    (hsl : ∀ v u, subscripted slice true v u = runValue (.builtin "lifetime.subscript" ⟨[v, u], []⟩)) {ta tb : TE} {pos : Pos} (ha : PE X value ta) (hb : PE X slice tb) :
    PE X (.Subscript value slice pos) (tOp (rSubO C sp E) ta tb) := by
  refine ⟨fun pins s σ H Q I h => ?_⟩
  refine Subscript_ (binT ha hb I h fun v u s2 x y H2 I2 rx ry q => ?_)
  obtain ⟨a, dx, fs, rfl, hA, q⟩ := q
  obtain rfl : v = Value.ref a := rx
  obtain ⟨ox, od, J⟩ := inst_of I2 hA
  obtain ⟨m, hF⟩ := I2.fr
  refine PySem.W.sub_K hF I2.ok.mod.kin J d.at_ hfn d.fn ?_ (hsl _ _)
  have e0 : Env0 X.prog X.w X.K X.mg X.base X.A.in1 X.stack s2 H2 := I2.env0.in1
  refine wpAny_call (codeAny_mono (F X.A.in1 X.stack s2 H2 [.ref a, u] [.ref a, y] _ E hr.in1 e0 (.cons (show RelV (.ref a) (.ref a) from rfl) (.cons ry .nil)) q) fun r s' hq => ?_)
  cases r with
  | error e => exact hx pins σ H2 s2 e s' I2 hq
  | ok fl =>
    cases fl with
    | ret u => exact I2.after hq
    | next => exact False.elim hq
    | brk => exact False.elim hq
    | cont => exact False.elim hq
/-- o + x, both of the class -/
def rAddO (C : Addr) (sp : Sp) (E : XK) : R2 := fun x y H Q => ∃ a dx fs b dy gs, x = .ref a ∧ y = .ref b ∧ H a = some (.ins C dx fs) ∧ H b = some (.ins C dy gs) ∧ sp [.ref a, .ref b] H (fun v H' => (∃ r, v = .ref r) ∧ Q v H') E
theorem op_addOwn (d : DunC X.K C "__add__" f) (hc : PySem.W.selfFirst X.K C = true) (F : FnR X.prog X.w X.K X.mg X.base CX k f sp) (hr : Room k X.A) (hx : Passes CX X E) : OpR X (binaryOp .Add) (rAddO C sp E) := by
  intro pins s σ H x y v u Q I rx ry h
  obtain ⟨a, dx, fs, b, dy, gs, rfl, rfl, ha, hb, q⟩ := h
  obtain rfl : v = Value.ref a := rx
  obtain rfl : u = Value.ref b := ry
  obtain ⟨ox, od, J⟩ := inst_of I ha
  obtain ⟨oy, od', J'⟩ := inst_of I hb
  obtain ⟨m, hF⟩ := I.fr
  refine PySem.W.binop_K hF I.ok.mod.kin J J'.type hc d.at_ d.fn (thn (run_dun F hr hx I (.cons (show RelV (.ref a) (.ref a) from rfl) (.cons (show RelV (.ref b) (.ref b) from rfl) .nil)) q) fun r s1 ⟨w, H1, I1, rw1, ⟨p, ep⟩, q1⟩ => ?_)
  subst ep
  obtain rfl : r = Value.ref p := rw1
  exact ⟨.ref p, H1, I1, rfl, q1⟩
end
end OwD
end

section
set_option Elab.async false
set_option linter.all false
set_option maxRecDepth 100000
set_option maxHeartbeats 2000000
/-! a method whose first statement is super().__init__(e, ..): the base's own def is called with the receiver -/
namespace SuC
open PySem PySem.Spec PyProof.Rows L2 StX
/-- a scope that has the class's cell as its one free name, and no cells -/
structure FnScopeS (N P : List Str) (sc : Scope) : Prop where
  kind : sc.kind = .function
  co : sc.isCoroutine = false
  gen : sc.isGenerator = false
  nd : N.Nodup
  pre : N.take P.length = P
  par : ∀ x ∈ P, sc.names.lookup x = some .local
  nocell : ∀ y ∈ sc.names, y.2 ≠ .cell
  free : ∀ y ∈ sc.names, y.2 = .free → y.1 = "__class__"
def cxS (CX : CXT) (P : Program) (w : World) (K : PySem.W.Frag) (mg : Str → Option Value) (base : Heap) (N : List Str) (qual : Str) (scope : Scope) (f : Addr) (cd : Value) (cc : Addr) (A : Around) (outer : List Env) (s : Shared) (H : Hp) (E : XK) : Cx where
  prog := P
  w := w
  K := K
  mg := mg
  base := base
  A := A.deeper (PySem.W.ksEnv qual scope s.heap.objs.size f cd cc)
  N := N
  s_0 := s
  H_0 := H
  env := PySem.W.ksEnv qual scope s.heap.objs.size f cd cc
  outer := outer
  stack := PySem.W.ksEnv qual scope s.heap.objs.size f cd cc :: outer
  ex := []
  calm := true
  fn := fun _ => false
  pn := []
  xe := fun e s' => wpAny (model P w) (A.deeper (PySem.W.ksEnv qual scope s.heap.objs.size f cd cc)) (leaving (PySem.W.ksEnv qual scope s.heap.objs.size f cd cc) e) (fun _ s'' => CX outer H s E e s'') (fun e' s'' => CX outer H s E e' s'') s'
theorem lookup_rev_zip {x : Str} {u : Value} : ∀ {P : List Str} {us : List Value} {i : Nat}, P.Nodup → P[i]? = some x → us[i]? = some u → (P.zip us).reverse.lookup x = some u
  | [], _, _, _, h, _ => by simp at h
  | _ :: _, [], _, _, _, h => by simp at h
  | p :: P, w :: us, 0, nd, h1, h2 => by
    simp at h1 h2
    subst h1 h2
    rw [List.zip_cons_cons, List.reverse_cons, List.lookup_append]
    have hn : (P.zip us).reverse.lookup p = none := by
      rw [List.lookup_eq_none_iff]
      intro q hq
      have hm := List.mem_reverse.mp hq
      have h3 : q.1 ∈ P := (List.of_mem_zip (a := q.1) (b := q.2) hm).1
      have : p ≠ q.1 := fun e => (List.nodup_cons.mp nd).1 (by rw [e]; exact h3)
      simpa using this
    rw [hn]
    simp
  | p :: P, w :: us, i + 1, nd, h1, h2 => by
    rw [List.zip_cons_cons, List.reverse_cons, List.lookup_append, lookup_rev_zip (i := i) (List.nodup_cons.mp nd).2 (by simpa using h1) (by simpa using h2)]
    rfl
section
variable {CX : CXT} {P : Program} {w : World} {K : PySem.W.Frag} {mg : Str → Option Value} {base : Heap} {k : Nat} {f cc Dc : Addr} {name qual : Str} {params : Arguments} {body : List Stmt} {scope : Scope} {dV kV doc pm cdv ct oc cl : Value} {an od cld : Option Addr}
  {osl csl : Array (Option Value)} {N ps : List Str} {sp : Sp}
theorem cell_one {x : Str} {c : Addr} (h : ([(("__class__" : Str), cc)] : List (Str × Addr)).lookup x = some c) : x = "__class__" ∧ c = cc := by
  by_cases e : x = "__class__"
  · subst e
    exact ⟨rfl, by simpa using h.symm⟩
  · have : (x == ("__class__" : Str)) = false := by simpa using e
    simp [List.lookup, this] at h
theorem inv_startS {A : Around} {outer : List Env} {s : Shared} {H : Hp} {E : XK} {us : List Value} {vs : List V} {h1 : Heap} {tk : Nat}
    (S : FnScopeS N ps scope) (hcc : K.lookup cc = some ⟨cl, cld, .cell (some (.ref Dc)), csl⟩) (hd : A.handled = none) (e0 : Env0 P w K mg base A outer s H) (hl : vs.length = ps.length) (r : Vals vs us)
    (hns : h1.Ns s.heap.objs.size (fun x => (ps.zip us).reverse.lookup x)) (hk : ∀ b o, s.heap.get? b = some o → h1.get? b = some o) :
    Inv (cxS CX P w K mg base N qual scope f cdv cc A outer s H E) [] (L2.start N vs) H { s with heap := h1, toks := tk } := by
  have hpl : ps.length ≤ N.length := by have := congrArg List.length S.pre; rw [List.length_take] at this; omega
  have noA : ∀ b : Addr, b ∉ (cxS CX P w K mg base N qual scope f cdv cc A outer s H E).ex := fun b z => absurd (show b ∈ ([] : List Addr) from z) (by simp)
  have kccB := e0.mod.kin _ _ hcc
  have kcc : h1.get? cc = some ⟨cl, cld, .cell (some (.ref Dc)), csl⟩ := hk _ _ (e0.bs _ _ kccB).1
  refine ⟨⟨e0.mod, S.kind, rfl, rfl, Nat.le_refl _, fun y z c h1 h2 => ?_, fun y hy => ?_, fun y c h _ => absurd h Bool.false_ne_true, fun _ => hd, Around.frames_deeper e0.frames, .inr ⟨rfl, rfl⟩, fun b z => absurd z (noA b), e0.bs, e0.bsz, fun b _ _ => noA b, fun b z => absurd z (noA b), e0.funs, e0.frf⟩,
    rfl, e0.bare, Un.kept hk, ⟨_, hns, fun i y v h1 h2 h3 => ?_⟩, fun y c h => ?_, e0.hok.fresh (Nat.le_refl _), fun y c h => ?_, fun p hp => absurd (show p ∈ ([] : List (Addr × Obj)) from hp) (by simp), e0.hok.kept hk, ?_⟩
  · exact (cell_one h1).1.trans (cell_one h2).1.symm
  · have hy : scope.names.lookup y = some .cell ∨ scope.names.lookup y = some .free := hy
    rcases hy with hy | hy
    · exact absurd rfl (S.nocell _ (PySem.mem_of_lookup hy))
    · have e := S.free _ (PySem.mem_of_lookup hy) rfl
      have e : y = "__class__" := e
      subst e
      exact ⟨cc, rfl⟩
  · have hi : i < vs.length := by
      unfold L2.start at h2
      by_cases hi : i < vs.length
      · exact hi
      · rw [List.getElem?_append_right (by simpa using hi)] at h2
        rw [List.getElem?_replicate] at h2
        split at h2 <;> cases h2
    have ha : vs[i]? = some v := by
      unfold L2.start at h2
      rw [List.getElem?_append_left (by simpa using hi), List.getElem?_map] at h2
      cases e : vs[i]? with
      | none => rw [e] at h2; cases h2
      | some a => rw [e] at h2; cases h2; rfl
    obtain ⟨u, hu, rv⟩ := r.get ha
    have hp : ps[i]? = some y := by
      rw [← S.pre, List.getElem?_take_of_lt (by omega)]; exact h1
    have ndP : ps.Nodup := by rw [← S.pre]; exact S.nd.sublist (List.take_sublist _ _)
    exact ⟨u, rv, .inl ⟨S.par y (List.mem_of_getElem? hp), lookup_rev_zip ndP hp hu⟩⟩
  · obtain ⟨_, rfl⟩ := cell_one h
    exact ⟨some (.ref Dc), _, kcc, rfl⟩
  · obtain ⟨_, rfl⟩ := cell_one h
    exact (e0.bs _ _ kccB).2
  · unfold L2.start
    show _ = N.length
    rw [List.length_append, List.length_map, List.length_replicate]
    omega
theorem run_bndS {A : Around} {outer : List Env} {s : Shared} {H : Hp} {args : Args} {Q : VK} {E : XK} {G : List V → Hp → Prop} (lk : K.lookup f = some ⟨oc, od, .func (PySem.W.ksFn name qual params body scope dV kV doc pm an cdv ct cc), osl⟩) (hcd : PySem.W.codeIn K cdv qual = true)
    (S : FnScopeS N ps scope) (hcc : K.lookup cc = some ⟨cl, cld, .cell (some (.ref Dc)), csl⟩) (hr : Room (k + 1) A) (e0 : Env0 P w K mg base A outer s H) (hb : Bnd CX P w K mg base (PySem.W.ksFn name qual params body scope dV kV doc pm an cdv ct cc) args ps A outer s H E G)
    (hbody : ∀ (s2 : Shared) (H2 : Hp) (vs : List V), G vs H2 → Room k (A.deeper (PySem.W.ksEnv qual scope s2.heap.objs.size f cdv cc)) → ∀ s1, Inv (cxS CX P w K mg base N qual scope f cdv cc A outer s2 H2 E) [] (L2.start N vs) H2 s1 →
      _root_.PySem.wpAt (model P w) (A.deeper (PySem.W.ksEnv qual scope s2.heap.objs.size f cdv cc)) (.func body (PySem.W.ksEnv qual scope s2.heap.objs.size f cdv cc)) (execs body (PySem.W.ksEnv qual scope s2.heap.objs.size f cdv cc))
        (SP (cxS CX P w K mg base N qual scope f cdv cc A outer s2 H2 E) [] { nx := fun _ H' => Q .non H', rt := Q }) (cxS CX P w K mg base N qual scope f cdv cc A outer s2 H2 E).xe s1) : codeAny (model P w) A (.call (.ref f) args) (CR CX outer P w H s Q E) s := by
  have KX : K.In s.heap := e0.mod.kin.keeps fun b o e => (e0.bs b o e).1
  refine codeAny_call_function hr.depth (KX _ _ lk) rfl S.co S.gen rfl (PySem.W.codeRec_of KX hcd) ?_
  refine hb _ _ _ fun s2 H2 vs us e2 un ho hx r hl g => ?_
  have lim : s2.heap.NoLimit := e0.mod.nolimit.keeps fun b o e => (e2.bs b o e).1
  refine wpAny_newFunctionEnv (s := s2) S.nocell (fun y hy => S.par y.1 (List.of_mem_zip (a := y.1) (b := y.2) hy).1) (fun h₀ hns hsb => ⟨lim.fresh _ hsb, PySem.ks_codeAny_funcAt ?_⟩) S.kind
  have hk : ∀ b o, s2.heap.get? b = some o → h₀.get? b = some o := fun b o e => hsb.extBut b o (Nat.ne_of_lt (Heap.lt_size e)) (Heap.get?_push_of_some _ e)
  have I : Inv (cxS CX P w K mg base N qual scope f cdv cc A outer s2 H2 E) [] (L2.start N vs) H2 { s2 with heap := h₀, toks := s2.toks + (ps.zip us).length } := inv_startS S hcc hr.hd e2 hl r hns hk
  refine PySem.ks_wpAt_mono (hbody s2 H2 vs g (hr.deeper _) _ I) (fun fl s' hs => ?_) fun e s' hs => ?_
  · have fin : ∀ {σ' : L2.St} {H' : Hp} {v' : V} {u' : Value}, Inv (cxS CX P w K mg base N qual scope f cdv cc A outer s2 H2 E) [] σ' H' s' → RelV v' u' → Q v' H' → CE outer P w H s Q u' s' :=
      fun {σ' H' v' u'} J rv' q => ⟨v', H', J.os.trans ho, J.bare, un.trans J.base, J.hok, rv', q⟩
    cases fl with
    | ret u' =>
      obtain ⟨v', σ', H', J, rv', q⟩ := hs
      exact fin J rv' q
    | next =>
      obtain ⟨σ', H', J, q⟩ := hs
      exact fin (v' := V.non) (u' := Value.none) J rfl q
    | brk =>
      obtain ⟨_, _, _, q⟩ := hs
      exact False.elim q
    | cont =>
      obtain ⟨_, _, _, q⟩ := hs
      exact False.elim q
  · exact wpAny_mono hs (fun _ s'' z => hx e s'' z) fun e' s'' z => hx e' s'' z
/-- what is asked of the text's own part: the def's code, the cell, the class -/
structure SupK (K : PySem.W.Frag) (prog : Program) (cdv : Value) (cc Dc fM : Addr) : Prop where
  code : ∃ (cda : Addr) (ccl : Value) (cdd : Option Addr) (vs : Array Value) (ccs : Array (Option Value)) (file : Str) (tf : Tok), cdv = .ref cda ∧ K.lookup cda = some ⟨ccl, cdd, .fields vs, ccs⟩ ∧ vs[2]? = some (.str file tf) ∧ ((prog.main.file : Str) == file) = true
  cell : ∃ (cl : Value) (cld : Option Addr) (csl : Array (Option Value)), K.lookup cc = some ⟨cl, cld, .cell (some (.ref Dc)), csl⟩
  cls : ∃ cd, PySem.W.clsIn K Dc = some cd
  opq : PySem.W.nsIn K cStatics "thirdparty.any" = some none
  fn : PySem.W.typeIn K (.ref fM) = some (.type "function")
  fnI : PySem.W.fnIn K fM = true
theorem boot_super : bootBuiltins "super" = some (.type "super") := by kernel_rfl
theorem sup_init {A : Around} {outer : List Env} {s : Shared} {H H1 : Hp} {E EM : XK} {s1 : Shared} {sM : Sp} {fM C a dx : Addr} {kM : Nat} {fs : List (Str × V)} {p0 p1 p2 p3 p4 : Pos} {e : Expr} {es : List Expr} {ta : TA} {rest : List Stmt} {tr : TS} {D' : Ends} {σ : L2.St} {ar : Arg} {pl : Sem Bool}
    (lk : K.lookup f = some ⟨oc, od, .func (PySem.W.ksFn name qual params (.Expr (.Call (.Attribute (.Call (.Name "super" p0) [] [] p1) "__init__" p2) (e :: es) [] p3) p4 :: rest) scope dV kV doc pm an cdv ct cc), osl⟩)
    (S : FnScopeS N ps scope) (SK : SupK K P cdv cc Dc fM) (hmg : mg "super" = none)
    (hks : scope.names.lookup ("super" : Str) = some .globalImplicit) (hkc : scope.names.lookup ("__class__" : Str) = some .free) (hp : (params.posonlyargs ++ params.args).head? = some ar) (hN : N[0]? = some ar.arg) (hka : scope.names.lookup ar.arg = some .local)
    (htop : (P.main.scope.names.lookup ("super" : Str)).isSome = false)
    (F : FnR P w K mg base CX kM fM sM) (hr : Room kM (A.deeper (PySem.W.ksEnv qual scope s.heap.objs.size f cdv cc))) (hx : Passes CX (cxS CX P w K mg base N qual scope f cdv cc A outer s H E) EM)
    (ha : PA (cxS CX P w K mg base N qual scope f cdv cc A outer s H E) (e :: es) ta) (hrest : PSs (cxS CX P w K mg base N qual scope f cdv cc A outer s H E) rest tr)
    (hsub : PySem.W.mroIn K C (.ref Dc) = some true) (hm : PySem.W.ks_superIn K C Dc "__init__" = some (some (.ref fM)))
    (I : Inv (cxS CX P w K mg base N qual scope f cdv cc A outer s H E) [] σ H1 s1) (h0 : σ[0]? = some (some (.ref a))) (hins : H1 a = some (.ins C dx fs))
    (h : ∀ q, H1 q = none → ta σ (upd H1 q (.met fM a)) fun vs H2 => H2 q = some (.met fM a) ∧ sM (.ref a :: vs) H2 (fun _ H3 => tr D' σ H3) EM)
    (hst : starEach (e :: es) (PySem.W.ksEnv qual scope s.heap.objs.size f cdv cc) = (false, eval e (PySem.W.ksEnv qual scope s.heap.objs.size f cdv cc)) :: starEach es (PySem.W.ksEnv qual scope s.heap.objs.size f cdv cc) := by rfl)
    (hpl : (backTo p3 (starEach es (PySem.W.ksEnv qual scope s.heap.objs.size f cdv cc))).any (·.1) = false := by rfl)
    (hev : eval (.Call (.Attribute (.Call (.Name "super" p0) [] [] p1) "__init__" p2) (e :: es) [] p3) (PySem.W.ksEnv qual scope s.heap.objs.size f cdv cc) = (do
      let ov ← attributeBase (.Call (.Name "super" p0) [] [] p1) "__init__" (PySem.W.ksEnv qual scope s.heap.objs.size f cdv cc) (eval (.Call (.Name "super" p0) [] [] p1) (PySem.W.ksEnv qual scope s.heap.objs.size f cdv cc))
      standAt p2.atName
      let (f7, first) ← holding [ov] (getMethod ov "__init__" pl)
      callWith p3 f7 first (backTo p3 (starEach (e :: es) (PySem.W.ksEnv qual scope s.heap.objs.size f cdv cc))) []) := by rfl) {body' : List Stmt} :
    _root_.PySem.wpAt (model P w) (A.deeper (PySem.W.ksEnv qual scope s.heap.objs.size f cdv cc)) (.func body' (PySem.W.ksEnv qual scope s.heap.objs.size f cdv cc)) (execs (.Expr (.Call (.Attribute (.Call (.Name "super" p0) [] [] p1) "__init__" p2) (e :: es) [] p3) p4 :: rest) (PySem.W.ksEnv qual scope s.heap.objs.size f cdv cc))
      (SP (cxS CX P w K mg base N qual scope f cdv cc A outer s H E) [] D') (cxS CX P w K mg base N qual scope f cdv cc A outer s H E).xe s1 := by
  have KI : K.In s1.heap := I.kIn
  obtain ⟨cda, ccl, cdd, vs0, ccs, file, tf, rfl, hcode, hvs, hfile⟩ := SK.code
  obtain ⟨cl, cld, csl, hcc⟩ := SK.cell
  obtain ⟨cdD, hD⟩ := SK.cls
  obtain ⟨oD, hD1, hD2⟩ : ∃ oD, s1.heap.get? Dc = some oD ∧ oD.data = .cls cdD := by
    unfold PySem.W.clsIn at hD
    split at hD
    · rename_i c d cd' sl ho
      cases hD
      exact ⟨_, KI _ _ ho, rfl⟩
    · cases hD
  obtain ⟨ox, odx, J⟩ := OwD.inst_of I hins
  obtain ⟨m, hns, hlook⟩ := I.loc
  obtain ⟨u0, ru0, lk0⟩ := hlook 0 ar.arg (.ref a) hN h0 (.inl hka)
  obtain rfl : u0 = Value.ref a := ru0
  have hv0 : m ar.arg = some (Value.ref a) := by
    rcases lk0 with ⟨_, q⟩ | ⟨q, _⟩
    · exact q
    · have hka' : (cxS CX P w K mg base N qual scope f (.ref cda) cc A outer s H E).env.kindOf ar.arg = some .local := hka
      rw [hka'] at q
      rcases q with q | q <;> cases q
  obtain ⟨mb, hb1, hb2⟩ := I.mod.blt
  refine PySem.ks_wpAt_execs_cons (PySem.ks_wpAt_Expr_any (PySem.ks_wpAt_MethodCall (pl := pl) ?_ hev) ?_)
  · refine PySem.ks_wpAt_super_base (f := f) (cc := cda) hks hkc (by decide +kernel) rfl (KI _ _ lk) rfl hp rfl (KI _ _ hcode) rfl hvs hfile htop ?_
    refine PySem.W.ks_loadName_global S.kind hks (PySem.Calls.loadGlobal_builtin (I.mod.glob.keeps I.bk) hmg (hb1.keeps I.bk) ((hb2 _ (by decide +kernel)).trans boot_super) ⟨rfl, ?_⟩)
    refine wpAny_loadName_free S.kind hkc rfl ⟨_, KI _ _ hcc, rfl⟩ ?_
    refine wpAny_loadName_local S.kind hka hns hv0 ?_
    refine PySem.ks_wpAny_isType_cls hD1 hD2 ⟨rfl, ?_⟩
    refine PySem.ks_wpAny_call_super hD1 hD2 J.at_ J.cls (fun c e => ?_) (PySem.W.looks_mroIn KI hsub) (fun h' e2 k2 => ?_)
    · have := J.no
      unfold PySem.W.notCls at this
      rw [e] at this
      exact Bool.noConfusion this
    · have I2 : Inv (cxS CX P w K mg base N qual scope f (.ref cda) cc A outer s H E) [] σ H1 { s1 with heap := h' } := I.kept (t' := s1.toks) k2
      have KI2 : K.In h' := I2.kIn
      cases hc : PySem.W.clsIn K C with
      | none => unfold PySem.W.ks_superIn at hm; rw [hc] at hm; cases hm
      | some cd =>
        unfold PySem.W.ks_superIn at hm
        rw [hc] at hm
        obtain ⟨of, hof, hofc⟩ : ∃ of, h'.get? fM = some of ∧ of.cls = .type "function" := by
          have ht' : (K.lookup fM).map (·.cls) = some (.type "function") := SK.fn
          cases z : K.lookup fM with
          | none => rw [z] at ht'; cases ht'
          | some of => rw [z] at ht'; exact ⟨of, KI2 _ _ z, Option.some.inj ht'⟩
        refine PySem.ks_wpAny_getMethod_super e2 (PySem.W.looks_opaque KI2 SK.opq) (l₀ := cd.mro) ?_ rfl KI2 hm hof hofc (PySem.W.ks_ne KI J hc) (by decide +kernel) ?_
        · exact fun A Q E s k q => wpAny_bind ((PySem.W.looks_clsIn KI2 hc) A _ E s k (wpAny_pure q))
        · have hq := I2.hok.fresh (Nat.le_refl _)
          have I3 := I2.laid (t' := s1.toks + 1) (a := h'.objs.size) (o := .met fM a) (fun b u z => Heap.get?_push_of_some _ z) (Nat.le_refl _)
            (show (h'.push (PySem.W.methodObj (.ref fM) (.ref a))).get? h'.objs.size = some (PySem.W.methodObj (.ref fM) (.ref a)) from Heap.get?_push_size h' rfl)
          dsimp only
          rw [hst]
          refine callwith_met (X := cxS CX P w K mg base N qual scope f (.ref cda) cc A outer s H E) (a := a) (g := fM) ?_ SK.fnI (PySem.Calls.evalArgs_plain ?_)
          · show ((false || (backTo p3 (starEach es (PySem.W.ksEnv qual scope s.heap.objs.size f (.ref cda) cc))).any (·.1)) || false) = false
            rw [hpl]
            rfl
          · have hz := ha.run p3 [] _ σ _ _ I3 (h h'.objs.size hq)
            have he : (cxS CX P w K mg base N qual scope f (.ref cda) cc A outer s H E).env = PySem.W.ksEnv qual scope s.heap.objs.size f (.ref cda) cc := rfl
            rw [he, hst] at hz
            refine thn hz fun us s4 ⟨vs, H2, I4, r, hmet, q2⟩ => ⟨met_P I4 hmet, ?_⟩
            refine thn (wpAny_call (call_met I4 hmet (run_fnR (us := Value.ref a :: us) (vs := V.ref a :: vs) F hr hx I4 (.cons rfl r) q2))) fun v s5 ⟨v', H3, I5, rv, q3⟩ => ?_
            exact wpAt_of_wpAny (hrest.run [] s5 σ H3 D' I5 q3)
  · simp [interactive, S.kind]
end
end SuC
end

section
set_option Elab.async false
set_option linter.all false
set_option maxRecDepth 100000
set_option maxHeartbeats 2000000
/-! HookQ's Hook, and defs that close over their class's cell -/
namespace HkS
open PySem PySem.Spec PyProof.Rows L2 He HkQ
abbrev FnC : Type := Option (Str × Str × Arguments × FuncBody × Scope × Addr × List Str × Addr)
def fnC (K : PySem.W.Frag) (a : Addr) : FnC := match K.lookup a with
  | some ⟨_, _, .func fd, _⟩ => some (fd.name, fd.qualname, fd.params, fd.body, fd.scope, fd.globals, fd.closure.map (·.1), fd.builtins)
  | _ => none
def valC (d : He5.DefA) : FnC := some (d.name, d.qual, d.params, .stmts d.body, d.scope, mainGlobals, [("__class__" : Str)], builtinsNs)
structure SaysS (fa : List Fa) (fn fs : List He5.DefA) (tf : List TabF) (exs : List (PySem.W.Frag → Bool)) (h : Heap) (K : PySem.W.Frag) : Prop where
  q : SaysQ fa fn tf exs h K
  s : (fs.map fun d => fnC K (d.at_ K)) = fs.map valC
abbrev AlS : Type := AlQ × List FnC
def obsS (al : List Addr) (fa : List Fa) (fn fs : List He5.DefA) (tf : List TabF) (exs : List (PySem.W.Frag → Bool)) (g : Addr → Option Obj) : AlS := (obsQ al fa fn tf exs g, fs.map fun d => fnC (frT g al) (d.at_ (frT g al)))
def valS (fn fs : List He5.DefA) : AlS := (valQ fn, fs.map valC)
def hookS (al : List Addr) (fa : List Fa) (fn fs : List He5.DefA) (tf : List TabF) (exs : List (PySem.W.Frag → Bool)) : PySem.W.Hook where
  α := AlS
  obs := fun s => obsS al fa fn fs tf exs s.heap.get?
  val := fun _ => valS fn fs
  says := fun _ h => ∃ K : PySem.W.Frag, K.In h ∧ SaysS fa fn fs tf exs h K
  of := fun _ _ e => ⟨_, frT_in, saysQ_of (congrArg (fun z : AlS => z.1) e), congrArg (fun z : AlS => z.2) e⟩
  keeps := fun _ _ _ ⟨K, hK, c⟩ k => ⟨K, PySem.W.Frag.In.keeps hK k, ⟨⟨c.q.a, c.q.more, c.q.hd, c.q.out, fun t ht => k _ _ (c.q.empty t ht)⟩, c.s⟩⟩
theorem obsS_eq {al : List Addr} {fa : List Fa} {fn fs : List He5.DefA} {tf : List TabF} {exs : List (PySem.W.Frag → Bool)} {g : Addr → Option Obj} {s : Shared} (h : ∀ a, g a = s.heap.get? a) : obsS al fa fn fs tf exs g = (hookS al fa fn fs tf exs).obs s := by
  have e : g = s.heap.get? := funext h
  rw [e] <;> rfl
/-- what is asked of such a def beside its text: its class at C, the def above it at M -/
def supB (file : Str) (at_ : PySem.W.Frag → Addr) (C : PySem.W.Frag → Addr) (M : PySem.W.Frag → Addr) (K : PySem.W.Frag) : Bool := (match K.lookup (at_ K) with
  | some ⟨_, _, .func fd, _⟩ => (match fd.closure with
    | [(_, cc)] => (match K.lookup cc with
      | some ⟨_, _, .cell (some (.ref D)), _⟩ => decide (D = C K)
      | _ => false)
    | _ => false) && (match fd.code with
    | .ref cda => (match K.lookup cda with
      | some ⟨_, _, .fields vs, _⟩ => (match (vs[2]? : Option Value) with
        | some (.str f _) => decide (f = file)
        | _ => false)
      | _ => false)
    | _ => false)
  | _ => false) && ((PySem.W.clsIn K (C K)).isSome && (eqO (PySem.W.nsIn K cStatics "thirdparty.any") (some none) && (decide (PySem.W.typeIn K (.ref (M K)) = some (.type "function")) && (PySem.W.fnIn K (M K) &&
    (decide (PySem.W.mroIn K (C K) (.ref (C K)) = some true) && eqO (PySem.W.ks_superIn K (C K) (C K) "__init__") (some (some (.ref (M K)))))))))
/-- a def of the class at C that closes over its cell, the def above it at M -/
structure SupD (K : PySem.W.Frag) (P : Program) (d : He5.DefA) (C M : Addr) : Prop where
  ex : ∃ (oc : Value) (od : Option Addr) (dV kV doc pm : Value) (an : Option Addr) (cdv ct : Value) (osl : Array (Option Value)) (cc : Addr), K.lookup (d.at_ K) = some ⟨oc, od, .func (PySem.W.ksFn d.name d.qual d.params d.body d.scope dV kV doc pm an cdv ct cc), osl⟩ ∧
    PySem.W.codeIn K cdv d.qual = true ∧ DflV K dV (d.dvs K) ∧ KwdV K kV (d.kws K) ∧ SuC.SupK K P cdv cc C M
  kp : PySem.W.keepIn K (.ref (d.at_ K)) = true
  mro : PySem.W.mroIn K C (.ref C) = some true
  sup : PySem.W.ks_superIn K C C "__init__" = some (some (.ref M))
theorem supD_of {K : PySem.W.Frag} {P : Program} {d : He5.DefA} {C M : PySem.W.Frag → Addr} {file : Str} (hf : ((P.main.file : Str) == file) = true) (e : fnC K (d.at_ K) = valC d) (c : d.ok K = true) (b : supB file d.at_ C M K = true) : SupD K P d (C K) (M K) := by
  obtain ⟨kp, c2⟩ := He.ba c
  obtain ⟨b1, b⟩ := He.ba b
  obtain ⟨b2, b⟩ := He.ba b
  obtain ⟨b3, b⟩ := He.ba b
  obtain ⟨b4, b⟩ := He.ba b
  obtain ⟨b5, b⟩ := He.ba b
  obtain ⟨b6, b7⟩ := He.ba b
  unfold fnC valC at e
  cases q : K.lookup (d.at_ K) with
  | none =>
    rw [q] at c2
    cases c2
  | some o =>
    obtain ⟨oc, od, dt, osl⟩ := o
    rw [q] at c2 e b1
    cases dt with
    | func fd =>
      obtain ⟨n1, n2, n3, n4, n5, n6, n7, n8, n9, n10, n11, n12, n13, n14, n15⟩ := fd
      have e2 : (some (n1, n2, n3, n4, n5, n6, n7.map (·.1), n15) : FnC) = some (d.name, d.qual, d.params, .stmts d.body, d.scope, mainGlobals, [("__class__" : Str)], builtinsNs) := e
      simp only [Option.some.injEq, Prod.mk.injEq] at e2
      obtain ⟨h1, h2, h3, h4, h5, h6, h7, h8⟩ := e2
      subst h1 h2 h3 h4 h5 h6 h8
      obtain ⟨cc, rfl⟩ : ∃ cc, n7 = [(("__class__" : Str), cc)] := by
        cases n7 with
        | nil => cases h7
        | cons a r =>
          cases r with
          | nil =>
            obtain ⟨x, y⟩ := a
            simp at h7
            exact ⟨y, by rw [h7]⟩
          | cons b r => simp at h7
      have c3 : (PySem.W.codeIn K n13 d.qual && (He.dflB K n8 (d.dvs K) && He.kwdB K n9 (d.kws K))) = true := c2
      obtain ⟨k1, k2⟩ := He.ba c3
      obtain ⟨k3, k4⟩ := He.ba k2
      obtain ⟨m1, m2⟩ := He.ba b1
      have M1 : ∃ (cl : Value) (cld : Option Addr) (csl : Array (Option Value)), K.lookup cc = some ⟨cl, cld, .cell (some (.ref (C K))), csl⟩ := by
        dsimp only at m1
        split at m1
        · rename_i hl
          exact ⟨_, _, _, by rw [hl, of_decide_eq_true m1]⟩
        · cases m1
      have M2 : ∃ (cda : Addr) (ccl : Value) (cdd : Option Addr) (vs : Array Value) (ccs : Array (Option Value)) (file : Str) (tf : Tok), n13 = .ref cda ∧ K.lookup cda = some ⟨ccl, cdd, .fields vs, ccs⟩ ∧ vs[2]? = some (.str file tf) ∧ ((P.main.file : Str) == file) = true := by
        dsimp only at m2
        split at m2
        · split at m2
          · rename_i hl
            split at m2
            · rename_i hv
              exact ⟨_, _, _, _, _, _, _, rfl, hl, hv, by rw [of_decide_eq_true m2]; exact hf⟩
            · cases m2
          · cases m2
        · cases m2
      obtain ⟨cd, hcd⟩ := Option.isSome_iff_exists.mp b2
      exact ⟨⟨oc, od, n8, n9, n10, n11, n12, n13, n14, osl, cc, q, k1, He.dflB_ok k3, He.kwdB_ok k4, ⟨M2, M1, ⟨cd, hcd⟩, eqO_ok b3, of_decide_eq_true b4, b5⟩⟩, kp, of_decide_eq_true b6, eqO_ok b7⟩
    | _ => cases c2
theorem SaysS.at_ {fa : List Fa} {fn fs : List He5.DefA} {tf : List TabF} {exs : List (PySem.W.Frag → Bool)} {h : Heap} {K : PySem.W.Frag} (c : SaysS fa fn fs tf exs h K) (i : Nat) {d : He5.DefA} (e : fs[i]? = some d := by rfl) : fnC K (d.at_ K) = valC d := by
  have e2 : (fs.map fun d => fnC K (d.at_ K))[i]? = (fs.map valC)[i]? := by rw [c.s]
  rw [List.getElem?_map, List.getElem?_map, e] at e2
  exact Option.some.inj e2
end HkS
end

section
set_option Elab.async false
set_option linter.all false
set_option maxRecDepth 100000
set_option maxHeartbeats 4000000
/-! a caught exception that is kept, and from then on known by what is true of its object: handed to defs, asked for its class, its fields read -/
namespace PySem.W
open PySem PySem.Spec PySem.Calls PyProof.Rows
section
variable {prog : Program} {w : World} {A : Around} {E : Value → Shared → Prop} {s : Shared} {K : Frag} {x D : Addr} {ox od : Obj}
theorem kin_classE2 {Q : Option Value → Shared → Prop} (hga : findIn K (.ref D) "__getattribute__" = some (some (.builtin "BaseException.__getattribute__"))) (hgt : findIn K (.ref D) "__getattr__" = some none) (hsub : subIn K (.ref D) (.type "BaseException") = some true)
    (hdct : hasDictIn K D = true) (ha : findIn K (.ref D) "__class__" = some (some (.builtin "object.__class__")))
    (hn : specialIn K (.builtin "object.__class__") "__get__" = some (some (.builtin "getset_descriptor.__get__"))) (htk : takesIn K (.builtin "object.__class__") = some true) (hm : mroIn K D (.type "object") = some true)
    (X : K.In s.heap) (I : InstAt s.heap x ox D (some od)) (h : Q (some (.ref D)) { s with toks := s.toks + 1 }) : wpAny (model prog w) A (getAttr? (.ref x) "__class__") Q E s := by
  have hf : findObj K D (some od) "__class__" = some (.bind (.builtin "getset_descriptor.__get__") (.builtin "object.__class__")) := findObj_data (by obtain ⟨cd, hc, _⟩ := any_some hdct; rw [hc]; rfl) ha hn htk
  obtain ⟨hp, g, d, t, os⟩ := s
  have L0 := I.type (M := model prog w)
  have L1 := looks_findIn (M := model prog w) X hga
  have L2 := looks_findIn (M := model prog w) X hgt
  have L3 := looks_find (M := model prog w) X I hf
  have sub : Looks (model prog w) hp (isInstance (.ref x) (.type "BaseException")) true := L0.andThen (looks_subIn X hsub)
  have hx0 : (false && onTheHeap (Value.builtin "BaseException.__getattribute__")) = false := rfl
  have hx2 : (Value.builtin "BaseException.__getattribute__" == Value.builtin "object.__getattribute__") = false := by decide +kernel
  have hx1 : (onTheHeap (Value.ref D) && Value.builtin "BaseException.__getattribute__" == Value.builtin "object.__getattribute__") = false := by rw [hx2]; rfl
  unfold getAttr? getAttrBy? getAttrBy
  refine wpAny_bind (wpAny_mkText (wpAny_bind (wpAny_attempt (wpAny_holding (wpAny_bind (L0.at (wpAny_bind (L1.at ?_))))))))
  show wpAny _ _ (if (onTheHeap (Value.ref D) && Value.builtin "BaseException.__getattribute__" == Value.builtin "object.__getattribute__") = true then _ else _) _ _ _
  rw [hx1, if_neg Bool.false_ne_true]
  unfold getAttrByItsOwn hookBefore
  refine wpAny_bind ?_
  rw [if_pos (show onTheHeap (Value.ref D) = true from rfl)]
  refine L2.at ?_
  refine wpAny_bind (wpAny_attempt (wpAny_holding ?_))
  unfold callGetattribute
  rw [hx0, if_neg Bool.false_ne_true]
  unfold boundAndCalled
  rw [PySem.F.excAttr_ValueError.ga.bind (.ref x)]
  refine wpAny_bind (wpAny_pure ?_)
  show wpAny _ _ (call (.builtin "BaseException.__getattribute__") [.ref x, .str "__class__" t]) _ _ _
  refine wpAny_call (codeAny_call_builtin PySem.F.excAttr_ValueError.ga.plain PySem.F.entry_bexc_ga ?_)
  refine @check_slot (model prog w) _ _ ⟨hp, g, d, t + 1, os⟩ "BaseException.__getattribute__" "BaseException" "__getattribute__" (.ref x) [.str "__class__" t] [] _ (by decide +kernel) (by decide +kernel) sub (PySem.F.args_bexc_ga (.ref x) (.str "__class__" t)) ?_
  unfold Builtin.«object.__getattribute__»
  refine wpAny_bind (wpAny_of_eq (a := ((Value.ref x : Value), [Value.str "__class__" t])) (by first | rfl | (simp only [slotArgs]; rfl)) ?_)
  refine wpAny_bind (wpAny_pure (wpAny_bind (L0.at (wpAny_bind (L3.at ?_)))))
  show wpAny _ _ (holding [Value.builtin "object.__class__"] (call (.builtin "getset_descriptor.__get__") [.builtin "object.__class__", .ref x, .ref D]) >>= ret) _ _ _
  refine wpAny_bind (wpAny_holding (wpAny_call (class_get (s := ⟨hp, g, d, t + 1, os⟩) (ox := ox) (od := some od) X I hm ?_)))
  refine wpAny_pure ?_
  show wpAny _ _ (handedOut (.ref D)) _ _ _
  rw [handedOut_of (v := .ref D) rfl]
  first
    | exact wpAny_pure (wpAny_pure h)
    | exact wpAny_pure h
    | exact wpAny_pure (wpAny_bind (wpAny_pure (wpAny_pure h)))
theorem kitx_exc2 (hga : findIn K (.ref D) "__getattribute__" = some (some (.builtin "BaseException.__getattribute__"))) (hgt : findIn K (.ref D) "__getattr__" = some none) (hsub : subIn K (.ref D) (.type "BaseException") = some true) (hdct : hasDictIn K D = true) (ha : findIn K (.ref D) "__class__" = some (some (.builtin "object.__class__")))
    (hn : specialIn K (.builtin "object.__class__") "__get__" = some (some (.builtin "getset_descriptor.__get__"))) (htk : takesIn K (.builtin "object.__class__") = some true) (hm : mroIn K D (.type "object") = some true) :
    KitX K (.ref x) (.ref D) (fun h => InstAt h x ox D (some od)) where
  ty := fun _ _ _ I => I.type
  it := fun _ _ X _ => by
    obtain ⟨cdD, hcD, _⟩ := any_some hdct
    unfold clsIn at hcD
    split at hcD
    · rename_i c' d' cd' sl' ho
      intro A' Q' E' s' k q
      unfold isType loadHead
      exact wpAny_bind (wpAny_loadPart (k _ _ (X _ _ ho)) (wpAny_pure q))
    · cases hcD
  ne := fun h tp dd its n sl X htp => by
    obtain ⟨cdD, hcD, _⟩ := any_some hdct
    refine Bool.eq_false_iff.mpr fun q => ?_
    have e : D = tp := Value.ref.inj (beq_iff_eq.mp q)
    subst e
    unfold clsIn at hcD
    split at hcD
    · rename_i c' d' cd' sl' ho
      have z := (X _ _ ho).symm.trans htp
      cases z
    · cases hcD
  ca := fun X I k => kin_classE2 hga hgt hsub hdct ha hn htk hm X I k
end
end PySem.W
namespace L2
open PySem PySem.Spec PyProof.Rows
/-- a caught exception of the class cls with the dict d, at a -/
def CxO (cls : Value) (d : Option Addr) (a : Addr) : HO := .ext fun h => ∃ (oe : Obj) (vs : Array Value), h.get? a = some oe ∧ Zc cls d oe ∧ oe.data = .fields vs
theorem cxO_ok {P : Program} {w : World} {H : Hp} {h : Heap} {a : Addr} {cls : Value} {d : Option Addr} {oe : Obj} {vs : Array Value} (e : h.get? a = some oe) (z : Zc cls d oe) (hd : oe.data = .fields vs) : ObjOk P w H h a (CxO cls d a) :=
  ⟨⟨oe, vs, e, z, hd⟩, ⟨oe, e⟩, fun _ _ ⟨o, v, q, r⟩ k => ⟨o, v, k o q, r⟩⟩
section
variable {X : Cx} {pins : List (Addr × Obj)} {σ : List (Option V)} {H : Hp} {s : Shared}
/-- an object that is new beyond the entry is known from now on -/
theorem Inv.track {a : Addr} {o : HO} (I : Inv X pins σ H s) (na : H a = none) (h0 : X.s_0.heap.get? a = none) (nL : a ≠ X.env.locals) (nc : ∀ x c, X.env.cells.lookup x = some c → c ≠ a) (np : ∀ p, p ∈ X.pn ++ pins → p.1 ≠ a)
    (new : ObjOk X.prog X.w (upd H a o) s.heap a o) : Inv X pins σ (upd H a o) s := by
  refine ⟨I.ok, I.os, I.bare, ⟨I.base.keep, I.base.slot, fun b u q n hx => ?_, I.base.there, fun b xs q => ?_, fun b u xs q => ?_, fun b ps q => ?_⟩, I.loc, I.cell, ?_, fun x c hc => ?_, fun p hp => ?_, I.hok.laidN (fun _ _ z => z) na new, I.len⟩
  · rw [upd_ne (fun z => by rw [z, h0] at q; cases q)]
    exact I.base.free b u q n hx
  · have := I.base.tups b xs q
    rw [upd_ne (ne_of_none this na)]
    exact this
  · have := I.base.frzs b u xs q
    rw [upd_ne (ne_of_none this na)]
    exact this
  · obtain ⟨more, h⟩ := I.base.tbls b ps q
    exact ⟨more, by rw [upd_ne (ne_of_none h na)]; exact h⟩
  · rw [upd_ne nL.symm]
    exact I.free
  · rw [upd_ne (nc x c hc)]
    exact I.freeC x c hc
  · obtain ⟨p1, p2, p3, p4, p5⟩ := I.pin p hp
    exact ⟨p1, by rw [upd_ne (np p hp)]; exact p2, p3, p4, p5⟩
end
/-- ts: the suite, tn: what stands behind, the exception known there -/
def wTrk (K : PySem.W.Frag) (c : Value) (i : Nat) (ts : Addr → Value → Option Addr → TS) (tn : TS) (Wout : WX) (D : Ends) : WX := fun cls d σ H =>
  ∃ b, PySem.W.exmOne K cls c = some b ∧ (b = true → ∀ a, H a = none → ts a cls d { nx := fun σ' H' => H' a = none → tn D (σ'.set i none) (upd H' a (CxO cls d a)), rt := fun _ _ => False } (σ.set i (some (.ref a))) H) ∧
    (b = false → Wout cls d σ H)
/-- what the try hands on to what stands behind -/
def KQ2 (X : Cx) (pins : List (Addr × Obj)) (D : Ends) (rest : List Stmt) (f : Flow) (s' : Shared) : Prop := match f with
  | .next => wpAny (model X.prog X.w) X.A (execs rest X.env) (SP X pins D) X.xe s'
  | .brk => SP X pins D .brk s'
  | .cont => SP X pins D .cont s'
  | .ret u => SP X pins D (.ret u) s'
section
variable {X : Cx} {x n : Str} {c : Value} {i : Nat} {body suite rest : List Stmt} {b₀ : Stmt} {np pos pos' : Pos} {tb : WX → TS} {tn : TS} {ts : Addr → Value → Option Addr → TS} {Wout : WX}
theorem pss_try_track (hs : X.stack = X.env :: X.outer) (hf : X.env.frame = some X.env.locals) (hN : X.N.Nodup) (hi : X.N[i]? = some n) (hln : X.env.kindOf n = some .local) (hc : Names X x c) (tk : Takes X Wout)
    (hb : ∀ (W : WX) (pn : List (Addr × Obj)) (xe : Value → Shared → Prop), Takes (X.tr pn xe) W → PassesOwn (model X.prog X.w) X.A X.env xe → PSs (X.tr pn xe) body (tb W))
    (hsu : ∀ (a : Addr) (oe : Obj) (cls : Value) (d : Option Addr) (pn : List (Addr × Obj)), Zc cls d oe → (∃ vs, oe.data = .fields vs) → PSs (X.suite a ((a, oe) :: pn)) (b₀ :: suite) (ts a cls d))
    (hn : PSs X rest tn) (hex : X.ex = []) :
    PSs X (.Try body [.ExceptHandler (some (.Name x np)) (some n) (b₀ :: suite) pos'] [] [] pos :: rest) (fun D σ H => tb (wTrk X.K c i ts tn Wout D) { D with nx := tn D } σ H) := by
  refine ⟨fun pins s σ H D I h => ?_⟩
  have ok := I.ok
  have hfr : X.A.frames = some (X.env :: X.outer) := by rw [ok.frames, hs]
  have hloc : Loc X.env.scope n := .inl hln
  refine wpAny_execs_cons (thn (Q := KQ2 X pins D rest) ?_ fun f s' h => by cases f <;> exact h)
  generalize hQ : KQ2 X pins D rest = Q
  have q_next : ∀ s', wpAny (model X.prog X.w) X.A (execs rest X.env) (SP X pins D) X.xe s' → Q .next s' := fun s' h => by rw [← hQ]; exact h
  have q_brk : ∀ s', SP X pins D .brk s' → Q .brk s' := fun s' h => by rw [← hQ]; exact h
  have q_cont : ∀ s', SP X pins D .cont s' → Q .cont s' := fun s' h => by rw [← hQ]; exact h
  have q_ret : ∀ u s', SP X pins D (.ret u) s' → Q (.ret u) s' := fun u s' h => by rw [← hQ]; exact h
  clear hQ
  refine wpAny_Try_except ?_
  refine wpAny_mono ((hb (wTrk X.K c i ts tn Wout D) (X.pn ++ pins) (fun e s₁ => wpAny (model X.prog X.w) X.A (noteFrame e X.env) (fun _ s₂ => wpAny (model X.prog X.w) X.A (setFlight e none) (fun _ s₃ =>
    wpAny (model X.prog X.w) X.A (handleBy e X.env [.ExceptHandler (some (.Name x np)) (some n) (b₀ :: suite) pos']) Q X.xe s₃) X.xe s₂) X.xe s₁) (fun u s' xx => ?_) PassesOwn.looking).run [] s σ H { D with nx := tn D } (I.toTry _) h) (fun f s1 hsp => ?_) (fun e s1 he => he)
  · -- the catch
    obtain ⟨a, B, sI, pins', σ', H', cls, d, rfl, J', nb, up, sky, na, os, ag, b, hb1, hyes, hno⟩ := xx
    have J : Inv X pins σ' H' sI := J'.ofTry ok
    have sky' : Sky B (X.env :: X.outer) a (Zc cls d) X.env.locals s'.heap := by rw [← hs]; exact sky
    show wpAny (model X.prog X.w) X.A (noteFrame (.ref a) X.env) _ _ _
    refine Sky.land Zc.steady hfr hf sky' fun h3 fl3 up3 => ?_
    have J3 : Inv X pins σ' H' { s' with heap := h3 } := J.landed nb fl3.1 (up.trans up3) os ag
    obtain ⟨oe3, vs3, he3, hz3, hd3⟩ := fl3.there
    have notFr : ∀ {h : Heap} {o : Obj} {vs : Array Value}, h.FunFrames B (X.env :: X.outer) → h.get? a = some o → o.data = .fields vs → a ∉ frs (X.env :: X.outer) := fun {h o vs} ff e dd hm => by
      obtain ⟨_, o', e', hnf⟩ := ff.mem hm
      rw [e] at e'; cases e'
      exact hnf _ dd
    have nfr := notFr fl3.2.2.1 he3 hd3
    have nL : a ≠ X.env.locals := fun z => nfr (List.mem_filterMap.mpr ⟨X.env, List.mem_cons_self, by rw [hf, z]⟩)
    have nF : a ∉ X.fs := fun hm => by
      obtain ⟨e, he, q⟩ := List.mem_filterMap.mp hm
      exact nfr (List.mem_filterMap.mpr ⟨e, List.mem_cons_of_mem _ he, q⟩)
    have S3 := J3.suite he3 hd3 na nL nF
    refine wpAny_handleBy_cons (codeAny_handlers_test ?_) (by intro q; cases q)
    have LT : PySem.W.Looks (model X.prog X.w) h3 (typeOf (.ref a)) cls := fun A Q E s k q => wpAny_typeOf_ref (k _ _ he3) (by rw [hz3.1]; exact q)
    have LM := PySem.W.exm_one (M := model X.prog X.w) (J3.kIn) LT hb1
    have test : ∀ {Q : Value → Shared → Prop} {E : Value → Shared → Prop}, Q c { s' with heap := h3 } → wpAny (model X.prog X.w) (X.A.mark (some (.ref a))) (eval (.Name x np) X.env) Q E { s' with heap := h3 } := fun {Q E} q => by
      obtain ⟨hg, hdbg, hm | ⟨hm, hv, hnn⟩⟩ := hc
      · exact ld_glob (X := X.suite a ((a, oe3) :: (X.pn ++ pins))) S3 hg hm q hdbg
      · exact ld_blt (X := X.suite a ((a, oe3) :: (X.pn ++ pins))) S3 hg hm hv q hnn hdbg
    refine test (LM.here ?_)
    cases b with
    | true =>
      refine codeAny_handlers_suite_as ?_
      refine HandSPX.lands_againZ fl3 fun h4 fl4 up4 => ?_
      have J4 : Inv X pins σ' H' { s' with heap := h4 } := J.landed nb fl4.1 ((up.trans up3).trans up4) os ag
      obtain ⟨oe4, vs4, he4, hz4, hd4⟩ := fl4.there
      have S4 := J4.suite he4 hd4 na nL nF
      refine store_ok (X := X.suite a ((a, oe4) :: (X.pn ++ pins))) (v := .ref a) S4 hN hi hloc rfl (fun s5 S5 => ?_) (.inr hln)
      refine wpAny_mono ((hsu a oe4 cls d (X.pn ++ pins) hz4 ⟨_, hd4⟩).run [] s5 _ H' _ S5 (hyes rfl a na)) (fun f s6 hsp => ?_) (fun _ _ z => False.elim z)
      cases f with
      | next =>
        obtain ⟨σ6, H6, S6, q6⟩ := hsp
        have T6 : Inv (X.tr ((a, oe4) :: (X.pn ++ pins)) X.xe) [] σ6 H6 s6 := ⟨ok.toTry _ _, S6.os, S6.bare, S6.base, S6.loc, S6.cell, S6.free, S6.freeC, S6.pin, S6.hok, S6.len⟩
        refine gone_ok (X := X.tr ((a, oe4) :: (X.pn ++ pins)) X.xe) T6 hN hi hln fun s7 J7 => q_next s7 ?_
        have I7 : Inv X pins (σ6.set i none) H6 s7 := ⟨ok, J7.os, J7.bare, J7.base, J7.loc, J7.cell, J7.free, J7.freeC, fun p hp => J7.pin p (List.mem_append_left _ (List.mem_cons_of_mem _ hp)), J7.hok, J7.len⟩
        obtain ⟨g1, g2, g3, g4, g5⟩ := J7.pin (a, oe4) (List.mem_append_left _ List.mem_cons_self)
        have hB : B.get? a = none := by
          rcases sky with ⟨_, z, _⟩ | fl | hh
          · exact z
          · exact fl.2.1
          · exact hh.2.1
        have nS : a ∉ frs X.stack := by rw [hs]; exact nfr
        have inI : ∀ o, sI.heap.get? a ≠ some o := fun o z => by
          have := nb a o z nS
          rw [hB] at this
          cases this
        have h0 : X.s_0.heap.get? a = none := by
          cases z : X.s_0.heap.get? a with
          | none => rfl
          | some u =>
            obtain ⟨o', z'⟩ := J.base.there a u z (by rw [hex]; simp)
            exact absurd z' (inI o')
        have np : ∀ p, p ∈ X.pn ++ pins → p.1 ≠ a := fun p hp z => by
          obtain ⟨k1, _⟩ := J.pin p hp
          rw [z] at k1
          exact inI _ k1
        have I8 := I7.track (o := CxO cls d a) g2 h0 (fun z => g3 z) (fun x c hc z => by
          obtain ⟨v, hv⟩ := I7.cell x c hc
          rw [z] at hv
          obtain ⟨o, k1, k2⟩ := hv
          rw [g1] at k1
          cases k1
          exact g5 _ k2) np (cxO_ok g1 hz4 hd4)
        exact hn.run pins s7 _ _ D I8 (q6 g2)
      | brk =>
        obtain ⟨σ6, H6, S6, q6⟩ := hsp
        exact False.elim q6
      | cont =>
        obtain ⟨σ6, H6, S6, q6⟩ := hsp
        exact False.elim q6
      | ret u =>
        obtain ⟨v6, σ6, H6, S6, r6, q6⟩ := hsp
        exact False.elim q6
    | false =>
      show wpAny _ X.A (handleBy (.ref a) X.env []) _ _ _
      refine wpAny_handleBy_nil ?_
      obtain ⟨k1, k2, k3, oe, vs, T, oT, ts', he, hz, hd, h1, hr⟩ := id fl3
      unfold PySem.passOn
      refine wpAny_bind (wpAny_field he hd h1 ?_)
      rw [if_neg (show ¬ ((Value.ref T == Value.none) = true) from by simp)]
      have fin : wpAny (model X.prog X.w) X.A (setFlight (.ref a) X.env.frame) (fun _ s4 => wpAny (model X.prog X.w) X.A (throw (.ref a) : Sem Flow) Q X.xe s4) X.xe { s' with heap := h3 } := by
        rw [hf]
        refine HandSPX.setFlight_upZ fl3 fun h4 hh4 up4 => wpAny_throw (tk _ _ ?_)
        exact ⟨a, B, sI, pins, σ', H', cls, d, rfl, J, nb, (up.trans up3).trans up4, .inr (.inr (by rw [hs]; exact hh4)), na, os, ag, hno rfl⟩
      first
        | exact wpAny_bind (wpAny_pure (wpAny_bind fin))
        | exact wpAny_bind fin
  · cases f with
    | next =>
      obtain ⟨σ', H', J', q⟩ := hsp
      exact wpAny_execs_nil (q_next s1 (hn.run pins s1 σ' H' D (J'.ofTry ok) q))
    | brk =>
      obtain ⟨σ', H', J', q⟩ := hsp
      exact q_brk _ ⟨σ', H', J'.ofTry ok, q⟩
    | cont =>
      obtain ⟨σ', H', J', q⟩ := hsp
      exact q_cont _ ⟨σ', H', J'.ofTry ok, q⟩
    | ret u =>
      obtain ⟨v, σ', H', J', r, q⟩ := hsp
      exact q_ret _ _ ⟨v, σ', H', J'.ofTry ok, r, q⟩
/-- e.f of a known exception -/
def tXfT (C : Addr) (f : Str) (te : TE) : TE := fun σ H Q => te σ H fun x H1 => ∃ (a dd : Addr) (fs : List (Str × V)) (v : V), x = .ref a ∧ H1 a = some (CxO (.ref C) (some dd) a) ∧ H1 dd = some (.xd fs) ∧ fs.lookup f = some v ∧ Q v H1
theorem pe_xfT {C : Addr} {e : Expr} {te : TE} {pos : Pos} {n : Str} (T : XfC X.K C) (hno : PySem.W.findIn X.K (.ref C) n = some none) (he : PE X e te) (hb : attributeBase e n X.env (eval e X.env) = eval e X.env := by rfl) :
    PE X (.Attribute e n pos) (tXfT C n te) := by
  refine ⟨fun pins s σ H Q I h => ?_⟩
  refine attr_of hb (thn (he.run pins s σ H _ I h) fun u s1 hh => ?_)
  obtain ⟨x, H1, I1, rx, a, dd, fs, v, ex, ha, ea, l, q⟩ := hh
  subst ex
  obtain rfl : u = Value.ref a := rx
  obtain ⟨⟨oe, vs, g1, hz, hd⟩, _⟩ := (show ObjOk X.prog X.w H1 s1.heap a (CxO (.ref C) (some dd) a) from I1.hok a _ ha)
  have hx : ObjOk X.prog X.w H1 s1.heap dd (.xd fs) := I1.hok dd _ ea
  obtain ⟨mA, hns, hr⟩ := hx
  obtain ⟨od, ho, hl⟩ := lookIn_ns hns
  obtain ⟨u, hu, ru⟩ := RelO.some_of (v := v) (o := mA n) (by rw [← l]; exact hr n)
  have J : PySem.W.InstAt s1.heap a oe C (some od) := ⟨g1, hz.1, by unfold PySem.W.notCls; rw [hd] <;> rfl, by rw [hz.2]; exact ho⟩
  exact HandSPX.exc_get I1.kIn J T.ga T.gg T.exC (PySem.W.findObj_own T.hdC hno rfl (by rw [hl, hu])) (handed_of ru) ⟨v, H1, I1.tok _, ru, q⟩
/-- isinstance(e, c) of a known exception -/
def rIsT (K : PySem.W.Frag) : List V → Hp → VK → Prop := fun xs H Q => ∃ (a D dd : Addr) (fs : List (Str × V)) (c : V) (cv : Value) (b : Bool), xs = [.ref a, c] ∧ ExcC K D ∧ H a = some (CxO (.ref D) (some dd) a) ∧ H dd = some (.xd fs) ∧ (∀ u, RelV c u → u = cv) ∧ PySem.W.kitOne K (.ref D) cv = some b ∧ Q (.bl b) H
theorem call_isT : CallR X (.builtin "isinstance") (rIsT X.K) := by
  intro pins s σ H xs us Q I r h
  obtain ⟨a, D, dd, fs, c, cv, b, rfl, C, ha, ea, hcv, e, q⟩ := h
  cases r with
  | cons rx rr =>
    cases rr with
    | cons rt rr =>
      cases rr
      cases rx
      have ec := hcv _ rt
      subst ec
      obtain ⟨⟨oe, vs, g1, hz, hd⟩, _⟩ := (show ObjOk X.prog X.w H s.heap a (CxO (.ref D) (some dd) a) from I.hok a _ ha)
      have hx : ObjOk X.prog X.w H s.heap dd (.xd fs) := I.hok dd _ ea
      obtain ⟨mA, hns, hr⟩ := hx
      obtain ⟨od, ho, hl⟩ := lookIn_ns hns
      have J : PySem.W.InstAt s.heap a oe D (some od) := ⟨g1, hz.1, by unfold PySem.W.notCls; rw [hd] <;> rfl, by rw [hz.2]; exact ho⟩
      exact PySem.W.kia_one (PySem.W.kitx_exc2 C.hg C.hk C.hs C.hd C.ha C.hn C.ht C.hm) I.kIn J e (fun z => nomatch z) fun tk => ⟨.bl b, H, I.kept (t' := tk) fun _ _ z => z, rfl, q⟩
end
end L2
end

section
set_option Elab.async false
set_option linter.all false
set_option maxRecDepth 100000
set_option maxHeartbeats 2000000
/-! Instances of a class without an own __eq__: ==, !=, in, index, by identity. -/
namespace IdQ
open PySem PySem.Spec PyProof.Rows PySem.SeqAt
section
variable {M : Model} {prog : Program} {w : World} {A : Around} {E : Value → Shared → Prop} {s : Shared} {K : PySem.W.Frag} {x y C : Addr} {ox oy : Obj} {od oe : Option Obj}
/-- the class has object's own == and != -/
structure IdC (K : PySem.W.Frag) (C : Addr) : Prop where
  ob : PySem.W.mroIn K C (.type "object") = some true
  eq : PySem.W.findIn K (.ref C) "__eq__" = some (some (.builtin "object.__eq__"))
  ne : PySem.W.findIn K (.ref C) "__ne__" = some (some (.builtin "object.__ne__"))
  nn : PySem.W.mroIn K C (.type "NoneType") = some false
def neV : Value → Value
  | .bool b => .bool (!b)
  | v => v
theorem entry_eq_other {Q : Fin → Shared → Prop} (hxy : x ≠ y) (hx : s.heap.get? x = some ox) (hy : s.heap.get? y = some oy) (hnt : ox.cls ≠ .type "tuple")
    (hq : Q (.done (.ret .notImplemented)) s) : wpAny M A (Builtin.«object.__eq__» ⟨[.ref x, .ref y], []⟩) Q E s := objEq_entry_other hxy hx hy hnt hq
theorem call_eq_other {Q : Value → Shared → Prop} (X : K.In s.heap) (I : PySem.W.InstAt s.heap x ox C od) (c : IdC K C) (hxy : x ≠ y) (hy : s.heap.get? y = some oy) (hq : Q .notImplemented s) :
    wpAny (model prog w) A (call (.builtin "object.__eq__") [.ref x, .ref y]) Q E s :=
  wpAny_call (codeAny_call_builtin F.cmp_object.eq.plain F.cmpEntry_eq (PySem.W.check_slot F.cmpKind_eq F.cmpSplit_eq (I.type.andThen (PySem.W.looks_mroIn X c.ob)) (F.cmpArgs_eq _ _)
    (entry_eq_other hxy I.at_ hy (by rw [I.cls]; intro z; cases z) hq)))
theorem call_eq_same {Q : Value → Shared → Prop} (X : K.In s.heap) (I : PySem.W.InstAt s.heap x ox C od) (c : IdC K C) (hq : Q (.bool true) s) :
    wpAny (model prog w) A (call (.builtin "object.__eq__") [.ref x, .ref x]) Q E s :=
  wpAny_call (codeAny_call_builtin F.cmp_object.eq.plain F.cmpEntry_eq (PySem.W.check_slot F.cmpKind_eq F.cmpSplit_eq (I.type.andThen (PySem.W.looks_mroIn X c.ob)) (F.cmpArgs_eq _ _) (objEq_entry_same hq)))
theorem sp_eq_other {Q : Option Value → Shared → Prop} (X : K.In s.heap) (I : PySem.W.InstAt s.heap x ox C od) (c : IdC K C) (hxy : x ≠ y) (hy : s.heap.get? y = some oy) (hq : Q (some .notImplemented) s) :
    wpAny (model prog w) A (callSpecialIfBound? (.ref x) "__eq__" [.ref y]) Q E s := HN.ifBound_objEq X I c.eq (call_eq_other X I c hxy hy hq)
theorem sp_eq_same {Q : Option Value → Shared → Prop} (X : K.In s.heap) (I : PySem.W.InstAt s.heap x ox C od) (c : IdC K C) (hq : Q (some (.bool true)) s) :
    wpAny (model prog w) A (callSpecialIfBound? (.ref x) "__eq__" [.ref x]) Q E s := HN.ifBound_objEq X I c.eq (call_eq_same X I c hq)
theorem sp_eq_none {Q : Option Value → Shared → Prop} (X : K.In s.heap) (I : PySem.W.InstAt s.heap x ox C od) (c : IdC K C) (hq : Q (some .notImplemented) s) :
    wpAny (model prog w) A (callSpecialIfBound? (.ref x) "__eq__" [.none]) Q E s := HN.ifBound_objEq X I c.eq (HN.call_objEq X I c.ob hq)
/-- the same for != -/
theorem ifBound_objNe {args : List Value} {Q : Option Value → Shared → Prop} (X : K.In s.heap) (I : PySem.W.InstAt s.heap x ox C od) (hs : PySem.W.findIn K (.ref C) "__ne__" = some (some (.builtin "object.__ne__")))
    (h : wpAny M A (call (.builtin "object.__ne__") (.ref x :: args)) (fun v => Q (some v)) E s) : wpAny M A (callSpecialIfBound? (.ref x) "__ne__" args) Q E s := by
  simp only [callSpecialIfBound?, bindSpecialIfBound?]
  refine wpAny_holding (wpAny_bind (wpAny_bind (wpAny_bind (I.type.here ((PySem.W.looks_findIn X hs).here ?_)))))
  refine wpAny_bind (wpAny_askSetting (wpAny_ite ?_))
  have fin : wpAny M A (call (.builtin "object.__ne__") ([.ref x] ++ args) >>= fun v => pure (some v)) Q E s := wpAny_bind (wpAny_mono h (fun v s' h' => wpAny_pure h') fun _ _ h' => h')
  split
  · exact wpAny_bind (wpAny_of_eq (F.cmp_object.ne.bind _) (wpAny_pure (by exact fin)))
  · exact wpAny_tryCatch (wpAny_bind (wpAny_of_eq (F.cmp_object.ne.bind _) (wpAny_pure (by exact fin))))
theorem entry_ne {z : Value} {r : Value} {Q : Fin → Shared → Prop} (hu : A.units < cLine)
    (h : ∀ Q' : Option Value → Shared → Prop, Q' (some r) s → wpAny M A (callSpecialIfBound? (.ref x) "__eq__" [z]) Q' E s)
    (hq : Q (.done (.ret (neV r))) s) (hr : r = .notImplemented ∨ ∃ b, r = .bool b) : wpAny M A (Builtin.«object.__ne__» ⟨[.ref x, z], []⟩) Q E s := by
  rcases hr with rfl | ⟨b, rfl⟩
  · unfold Builtin.«object.__ne__»
    repeat (first | with_reducible refine wpAny_cRoomFor hu ?_ | with_reducible refine h _ ?_ | wp_step)
    exact hq
  · unfold Builtin.«object.__ne__»
    repeat (first | with_reducible refine wpAny_cRoomFor hu ?_ | with_reducible refine h _ ?_ | wp_step)
    exact hq
theorem call_ne {z : Value} {r : Value} {Q : Value → Shared → Prop} (X : K.In s.heap) (I : PySem.W.InstAt s.heap x ox C od) (c : IdC K C) (hu : A.units + 1 < cLine)
    (h : ∀ Q' : Option Value → Shared → Prop, Q' (some r) s → wpAny (model prog w) A.in1 (callSpecialIfBound? (.ref x) "__eq__" [z]) Q' (fun e s' => E e s') s) (hr : r = .notImplemented ∨ ∃ b, r = .bool b)
    (hq : Q (neV r) s) : wpAny (model prog w) A (call (.builtin "object.__ne__") [.ref x, z]) Q E s :=
  wpAny_call (codeAny_call_builtin F.cmp_object.ne.plain F.cmpEntry_ne (PySem.W.check_slot F.cmpKind_ne F.cmpSplit_ne (I.type.andThen (PySem.W.looks_mroIn X c.ob)) (F.cmpArgs_ne _ _)
    (entry_ne (A := A.in1) (r := r) hu h hq hr)))
theorem tail_ne {Q : Value → Shared → Prop} {b : Bool} {m : Sem Bool} (h : Q (.bool (!b)) s) (hm : wpAny (model prog w) A m (fun r s' => r = b ∧ s' = s) E s) :
    wpAny (model prog w) A (do rule "compare.ne-identity"; return Value.bool (!(← m))) Q E s :=
  wpAny_bind (wpAny_rule (wpAny_bind (wpAny_mono hm (fun r s' z => by obtain ⟨z1, z2⟩ := z; subst z1; subst z2; exact wpAny_pure h) fun _ _ z => z)))
/-- x == y, both of C, two objects -/
theorem rc_other (hu : A.units < cLine) (X : K.In s.heap) (I : PySem.W.InstAt s.heap x ox C od) (J : PySem.W.InstAt s.heap y oy C oe) (c : IdC K C) (hxy : x ≠ y) : RcAt A s (.ref x) (.ref y) false := fun prog w E Q h => by
  have one : wpAny (model prog w) A (tryCompare (.ref x) "__eq__" (.ref y)) (fun r s' => r = none ∧ s' = s) E s := by
    unfold tryCompare
    exact wpAny_bind (sp_eq_other X I c hxy J.at_ (wpAny_pure ⟨rfl, rfl⟩))
  have two : wpAny (model prog w) A (tryCompare (.ref y) "__eq__" (.ref x)) (fun r s' => r = none ∧ s' = s) E s := by
    unfold tryCompare
    exact wpAny_bind (sp_eq_other X J c (fun e => hxy e.symm) I.at_ (wpAny_pure ⟨rfl, rfl⟩))
  simp only [richCompare, cmpInfo_Eq, oneThing_ref]
  refine wpAny_holding (wpAny_bind (wpAny_cRoomFor hu ?_))
  refine wpAny_bind (I.type.here ?_)
  refine wpAny_bind (J.type.here ?_)
  split
  · rename_i q
    exact absurd q (by simp)
  · refine wpAny_bind (wpAny_pure ?_)
    simp only [Bool.false_eq_true, if_false, Bool.not_false, if_true]
    refine wpAny_bind (m := tryCompare (.ref x) _ (.ref y)) (wpAny_mono one (fun r s1 z => ?_) fun _ _ e => e)
    obtain ⟨z1, z2⟩ := z
    subst z1
    subst z2
    refine wpAny_bind (m := tryCompare (.ref y) _ (.ref x)) (wpAny_mono two (fun r s2 z => ?_) fun _ _ e => e)
    obtain ⟨z1, z2⟩ := z
    subst z1
    subst z2
    exact wpAny_bind (wpAny_rule (wpAny_bind (wpAny_isSame_ref_other hxy I.at_ J.at_ (by rw [I.cls]; intro z; cases z) (wpAny_pure h))))
theorem none_ref_eq (hu : A.units < cLine) (X : K.In s.heap) (I : PySem.W.InstAt s.heap x ox C od) (c : IdC K C) : RcAt A s .none (.ref x) false := fun prog w E Q h => by
  have one : wpAny (model prog w) A (tryCompare (.ref x) "__eq__" .none) (fun r s' => r = none ∧ s' = s) E s := by
    unfold tryCompare
    exact wpAny_bind (sp_eq_none X I c (wpAny_pure ⟨rfl, rfl⟩))
  have two : wpAny (model prog w) A (tryCompare .none "__eq__" (.ref x)) (fun r s' => r = none ∧ s' = s) E s :=
    wpAny_tryCompare_declines (show s.TypeIs .none "NoneType" from rfl) F.slot_NoneType_eq_refl (call_gives F.slot_NoneType_eq_refl rfl F.entry_NoneType_eq (F.args_NoneType_eq_2 _ _) (NoneType___eq___none_ref_0 x) ⟨rfl, rfl, rfl⟩)
  have e0 : oneThing? .Eq .none (.ref x) = none := rfl
  simp only [richCompare, cmpInfo_Eq, e0]
  refine wpAny_holding (wpAny_bind (wpAny_cRoomFor hu ?_))
  refine wpAny_bind (wpAny_typeOf (show s.TypeIs .none "NoneType" from rfl) ?_)
  refine wpAny_bind (I.type.here ?_)
  have sb : PySem.W.Looks (model prog w) s.heap (isSubtype (.ref C) (.type "NoneType")) false := PySem.W.looks_mroIn X c.nn
  split
  · refine wpAny_bind (sb.here ?_)
    simp only [Bool.false_eq_true, if_false, Bool.not_false, if_true]
    refine wpAny_bind (m := tryCompare .none _ (.ref x)) (wpAny_mono two (fun r s1 z => ?_) fun _ _ e => e)
    obtain ⟨z1, z2⟩ := z
    subst z1
    subst z2
    refine wpAny_bind (m := tryCompare (.ref x) _ .none) (wpAny_mono one (fun r s2 z => ?_) fun _ _ e => e)
    obtain ⟨z1, z2⟩ := z
    subst z1
    subst z2
    exact wpAny_bind (wpAny_rule (wpAny_bind (wpAny_of_eq (rfl : isSame .none (.ref x) = pure false) (wpAny_pure h))))
  · rename_i q
    exact absurd (by simp) q
/-- x != z, x of C, z of C too or None; r: what x's == says of it -/
theorem rc_ne {z : Value} {r : Value} {b : Bool} (hu : A.units + 1 < cLine) (X : K.In s.heap) (I : PySem.W.InstAt s.heap x ox C od) (c : IdC K C) (hz : z = .none ∨ ∃ y oy oe, z = .ref y ∧ PySem.W.InstAt s.heap y oy C oe)
    (e : z = .ref x → b = false) (n : z ≠ .ref x → b = true) : ∀ (prog : Program) (w : World) (E : Value → Shared → Prop) (Q : Value → Shared → Prop), Q (.bool b) s → wpAny (model prog w) A (richCompare .NotEq (.ref x) z) Q E s := fun prog w E Q h => by
  have hu0 : A.units < cLine := Nat.lt_of_succ_lt hu
  have key : ∀ (z : Value) (r : Value) (a : Option Value) (y : Addr) (oy : Obj) (oe : Option Obj), PySem.W.InstAt s.heap y oy C oe → (∀ (A : Around) (E : Value → Shared → Prop) (Q' : Option Value → Shared → Prop), Q' (some r) s → wpAny (model prog w) A (callSpecialIfBound? (.ref y) "__eq__" [z]) Q' E s) →
      ((r = .notImplemented ∧ a = none) ∨ ∃ b, r = .bool b ∧ a = some (.bool (!b))) →
      wpAny (model prog w) A (tryCompare (.ref y) "__ne__" z) (fun r s' => r = a ∧ s' = s) E s := fun z r a y oy oe J hh hr => by
    unfold tryCompare
    rcases hr with ⟨rfl, rfl⟩ | ⟨b, rfl, rfl⟩
    · exact wpAny_bind (ifBound_objNe X J c.ne (call_ne (r := .notImplemented) X J c hu (fun Q' q => hh _ _ Q' q) (.inl rfl) (wpAny_pure ⟨rfl, rfl⟩)))
    · exact wpAny_bind (ifBound_objNe X J c.ne (call_ne (r := .bool b) X J c hu (fun Q' q => hh _ _ Q' q) (.inr ⟨b, rfl⟩) (wpAny_pure ⟨rfl, rfl⟩)))
  simp only [richCompare, cmpInfo_NotEq, oneThing_ref]
  refine wpAny_holding (wpAny_bind (wpAny_cRoomFor hu0 ?_))
  refine wpAny_bind (I.type.here ?_)
  rcases hz with rfl | ⟨y, oy, oe, rfl, J⟩
  · obtain rfl : b = true := n (fun q => nomatch q)
    have one := key .none .notImplemented none x ox od I (fun A E Q' q => sp_eq_none X I c q) (.inl ⟨rfl, rfl⟩)
    have two : wpAny (model prog w) A (tryCompare .none "__ne__" (.ref x)) (fun r s' => r = none ∧ s' = s) E s :=
      wpAny_tryCompare_declines (show s.TypeIs .none "NoneType" from rfl) F.slot_NoneType_ne_refl (call_gives F.slot_NoneType_ne_refl rfl F.entry_NoneType_ne (F.args_NoneType_ne_2 _ _) (NoneType___ne___none_ref_0 x) ⟨rfl, rfl, rfl⟩)
    refine wpAny_bind (wpAny_typeOf (show s.TypeIs .none "NoneType" from rfl) ?_)
    split
    · refine wpAny_bind ((PySem.W.looks_subIn X HN.sub_none).here ?_)
      simp only [Bool.false_eq_true, if_false, Bool.not_false, if_true]
      refine wpAny_bind (m := tryCompare (.ref x) _ .none) (wpAny_mono one (fun r s1 z => ?_) fun _ _ e => e)
      obtain ⟨z1, z2⟩ := z
      subst z1
      subst z2
      refine wpAny_bind (m := tryCompare .none _ (.ref x)) (wpAny_mono two (fun r s2 z => ?_) fun _ _ e => e)
      obtain ⟨z1, z2⟩ := z
      subst z1
      subst z2
      exact wpAny_bind (wpAny_rule (wpAny_bind (wpAny_of_eq (rfl : isSame (.ref x) .none = pure false) (wpAny_pure h))))
    · rename_i q
      exact absurd (by simp) q
  · refine wpAny_bind (J.type.here ?_)
    split
    · rename_i q
      exact absurd q (by simp)
    · refine wpAny_bind (wpAny_pure ?_)
      simp only [Bool.false_eq_true, if_false, Bool.not_false, if_true]
      by_cases hxy : x = y
      · subst hxy
        obtain rfl : b = false := e rfl
        have one := key (.ref x) (.bool true) (some (.bool false)) x ox od I (fun A E Q' q => sp_eq_same X I c q) (.inr ⟨true, rfl, rfl⟩)
        refine wpAny_bind (m := tryCompare (.ref x) _ (.ref x)) (wpAny_mono one (fun r s1 z => ?_) fun _ _ e => e)
        obtain ⟨z1, z2⟩ := z
        subst z1
        subst z2
        exact wpAny_pure h
      · obtain rfl : b = true := n (fun q => hxy (by injection q with q; exact q.symm))
        have one := key (.ref y) .notImplemented none x ox od I (fun A E Q' q => sp_eq_other X I c hxy J.at_ q) (.inl ⟨rfl, rfl⟩)
        have two := key (.ref x) .notImplemented none y oy oe J (fun A E Q' q => sp_eq_other X J c (fun e => hxy e.symm) I.at_ q) (.inl ⟨rfl, rfl⟩)
        refine wpAny_bind (m := tryCompare (.ref x) _ (.ref y)) (wpAny_mono one (fun r s1 z => ?_) fun _ _ e => e)
        obtain ⟨z1, z2⟩ := z
        subst z1
        subst z2
        refine wpAny_bind (m := tryCompare (.ref y) _ (.ref x)) (wpAny_mono two (fun r s2 z => ?_) fun _ _ e => e)
        obtain ⟨z1, z2⟩ := z
        subst z1
        subst z2
        exact wpAny_bind (wpAny_rule (wpAny_bind (wpAny_isSame_ref_other hxy I.at_ J.at_ (by rw [I.cls]; intro z; cases z) (wpAny_pure h))))
theorem eqAt_rn (hu : A.units < cLine) (X : K.In s.heap) (I : PySem.W.InstAt s.heap x ox C od) (c : IdC K C) : EqAt A s (.ref x) .none false := HN.eqAt_none hu X I c.ob c.eq
theorem eqAt_nr (hu : A.units < cLine) (X : K.In s.heap) (I : PySem.W.InstAt s.heap x ox C od) (c : IdC K C) : EqAt A s .none (.ref x) false := fun prog w E Q h => by
  unfold eqBool
  refine wpAny_holding ?_
  refine wpAny_ite_split (fun hab => absurd (eq_of_beq hab) nofun) (fun _ => ?_)
  exact wpAny_bind (none_ref_eq hu X I c prog w E _ (wpAny_truthy_bool h))
end
end IdQ

namespace L2
open PySem PySem.Spec PyProof.Rows IdQ
/-- None, or an instance of C -/
def IdV (C : Addr) (H : Hp) (z : V) : Prop := z = .non ∨ ∃ a dx fs, z = .ref a ∧ H a = some (.ins C dx fs)
/-- == of two such values, read off the values -/
def sameU (x : V) (u : Value) : Bool := match u with
  | .none => decide (V.non = x)
  | .ref a => decide (V.ref a = x)
  | _ => false
section
variable {X : Cx} {C : Addr} {pins : List (Addr × Obj)} {σ : St} {H : Hp} {s : Shared} {A : Around}
theorem idv_at {a dx : Addr} {fs : List (Str × V)} (I : Inv X pins σ H s) (h : H a = some (.ins C dx fs)) : ∃ ox od, PySem.W.InstAt s.heap a ox C od := by
  obtain ⟨mA, O, _⟩ := ins_get I.hok h
  obtain ⟨od, J, _⟩ := O.look
  exact ⟨_, _, J⟩
theorem sameU_of {C : Addr} {H : Hp} {x y : V} {u : Value} (r : RelV y u) (f : IdV C H y) : sameU x u = decide (y = x) := by
  rcases f with rfl | ⟨a, dx, fs, rfl, _⟩
  · cases r; rfl
  · cases r; rfl
theorem eqAt_id (I : Inv X pins σ H s) (c : IdC X.K C) (hu : A.units < cLine) {x y : V} {u v : Value} (ry : RelV y u) (rx : RelV x v) (fy : IdV C H y) (fx : IdV C H x) : SeqAt.EqAt A s u v (decide (y = x)) := by
  rcases fy with rfl | ⟨a, dx, fs, rfl, ha⟩
  · cases ry
    rcases fx with rfl | ⟨b, dy, gs, rfl, hb⟩
    · cases rx
      exact SeqAt.EqAt.same _
    · cases rx
      obtain ⟨ox, od, J⟩ := idv_at I hb
      exact eqAt_nr hu I.kIn J c
  · cases ry
    obtain ⟨ox, od, J⟩ := idv_at I ha
    rcases fx with rfl | ⟨b, dy, gs, rfl, hb⟩
    · cases rx
      exact eqAt_rn hu I.kIn J c
    · cases rx
      obtain ⟨oy, oe, J'⟩ := idv_at I hb
      by_cases e : a = b
      · subst e
        rw [decide_eq_true rfl]
        exact SeqAt.EqAt.same _
      · rw [decide_eq_false (fun q => e (V.ref.inj q))]
        exact SeqAt.EqAt.of_refs e (rc_other hu I.kIn J J' c e)
theorem any_id {x : V} : ∀ {xs : List V} {us : List Value}, Vals xs us → (∀ z ∈ xs, IdV C H z) → us.any (sameU x) = decide (x ∈ xs)
  | _, _, .nil, _ => by simp
  | y :: xs, u :: us, .cons r t, f => by
    rw [List.any_cons, sameU_of r (f y (List.mem_cons_self ..)), any_id t fun z hz => f z (List.mem_cons_of_mem _ hz)]
    by_cases e : y = x
    · subst e
      simp
    · have e' : ¬ x = y := fun q => e q.symm
      simp [e, e']
theorem mem_id (I : Inv X pins σ H s) (c : IdC X.K C) (hu : A.units < cLine) {x : V} {v : Value} (rx : RelV x v) (fx : IdV C H x) : ∀ {xs : List V} {us : List Value}, Vals xs us → (∀ z ∈ xs, IdV C H z) → ∀ u ∈ us, SeqAt.EqAt A s u v (sameU x u)
  | _, _, .nil, _ => fun u hu => by cases hu
  | y :: xs, u :: us, .cons r t, f => fun u' hu' => by
    rcases List.mem_cons.mp hu' with rfl | hu'
    · rw [sameU_of r (f y (List.mem_cons_self ..))]
      exact eqAt_id I c hu r rx (f y (List.mem_cons_self ..)) fx
    · exact mem_id I c hu rx fx t (fun z hz => f z (List.mem_cons_of_mem _ hz)) u' hu'
end
/-- x in a list or tuple of such -/
def rInI (K : PySem.W.Frag) (C : Addr) (neg : Bool) : R2 := fun x y H Q => ∃ p xs, y = .ref p ∧ (SqL K H p xs ∨ SqT K H p xs) ∧ IdV C H x ∧ (∀ z ∈ xs, IdV C H z) ∧ Q (.bl (if neg then !decide (x ∈ xs) else decide (x ∈ xs))) H
section
variable {X : Cx} {C : Addr}
theorem in1_lt {k : Nat} (hr : Room k X.A) : X.A.in1.units < cLine := by
  have := hr.units
  show X.A.units + 1 < cLine
  omega
theorem op_in_id {k : Nat} (hr : Room k X.A) (c : IdC X.K C) : OpR X (compareOp .In) (rInI X.K C false) := by
  intro pins s σ H x y v u Q I rx ry h
  obtain ⟨p, xs, rfl, hq, fx, fs, q⟩ := h
  cases ry
  rcases hq with hq | hq
  · obtain ⟨its, r, pl, hz⟩ := I.list hq
    refine SeqAt.in_listAt (sameU x) pl.isList (fun w hw => mem_id I c (in1_lt hr) rx fx r fs w (by simpa using hw)) ⟨.bl _, H, I, rfl, ?_⟩
    rw [show its.toArray.any (sameU x) = its.any (sameU x) by simp, any_id r fs]
    exact q
  · obtain ⟨its, r, pl, hz⟩ := I.tuple hq
    refine SeqAt.in_tupleAt (sameU x) pl (fun w hw => mem_id I c (in1_lt hr) rx fx r fs w (by simpa using hw)) ⟨.bl _, H, I, rfl, ?_⟩
    rw [show its.toArray.any (sameU x) = its.any (sameU x) by simp, any_id r fs]
    exact q
theorem op_notIn_id {k : Nat} (hr : Room k X.A) (c : IdC X.K C) : OpR X (compareOp .NotIn) (rInI X.K C true) := by
  intro pins s σ H x y v u Q I rx ry h
  obtain ⟨p, xs, rfl, hq, fx, fs, q⟩ := h
  cases ry
  rcases hq with hq | hq
  · obtain ⟨its, r, pl, hz⟩ := I.list hq
    refine SeqAt.notIn_listAt (sameU x) pl.isList (fun w hw => mem_id I c (in1_lt hr) rx fx r fs w (by simpa using hw)) ⟨.bl _, H, I, rfl, ?_⟩
    rw [show its.toArray.any (sameU x) = its.any (sameU x) by simp, any_id r fs]
    exact q
  · obtain ⟨its, r, pl, hz⟩ := I.tuple hq
    refine SeqAt.notIn_tupleAt (sameU x) pl (fun w hw => mem_id I c (in1_lt hr) rx fx r fs w (by simpa using hw)) ⟨.bl _, H, I, rfl, ?_⟩
    rw [show its.toArray.any (sameU x) = its.any (sameU x) by simp, any_id r fs]
    exact q
/-- x != y, x an instance of C, y such or None -/
def rNeI (C : Addr) : R2 := fun x y H Q => (∃ a dx fs, x = .ref a ∧ H a = some (.ins C dx fs)) ∧ IdV C H y ∧ Q (.bl (!decide (x = y))) H
theorem op_ne_id {k : Nat} (hr : Room k X.A) (c : IdC X.K C) : OpR X (compareOp .NotEq) (rNeI C) := by
  intro pins s σ H x y v u Q I rx ry h
  obtain ⟨⟨a, dx, fs, rfl, ha⟩, fy, q⟩ := h
  cases rx
  obtain ⟨ox, od, J⟩ := idv_at I ha
  have hu : X.A.units + 1 < cLine := by
    have := hr.units
    omega
  rcases fy with rfl | ⟨b, dy, gs, rfl, hb⟩
  · cases ry
    refine rc_ne (r := .none) (b := true) hu I.kIn J c (.inl rfl) (fun q => nomatch q) (fun _ => rfl) _ _ _ _ ⟨.bl _, H, I, rfl, ?_⟩
    exact q
  · cases ry
    obtain ⟨oy, oe, J'⟩ := idv_at I hb
    by_cases e : a = b
    · subst e
      rw [decide_eq_true rfl] at q
      exact rc_ne (r := .none) (b := false) hu I.kIn J c (.inr ⟨_, _, _, rfl, J'⟩) (fun _ => rfl) (fun q => absurd rfl q) _ _ _ _ ⟨.bl _, H, I, rfl, q⟩
    · rw [decide_eq_false (fun q => e (V.ref.inj q))] at q
      exact rc_ne (r := .none) (b := true) hu I.kIn J c (.inr ⟨_, _, _, rfl, J'⟩) (fun q => absurd (by injection q with q; exact q.symm) e) (fun _ => rfl) _ _ _ _ ⟨.bl _, H, I, rfl, q⟩
/-- l.index(x), t.index(x): x is there -/
def rIndexI (C : Addr) (S : Hp → Addr → List V → Prop) : V → List V → Hp → VK → Prop := fun x xs H Q => ∃ (a : Addr) (y : V) (ys : List V), x = V.ref a ∧ xs = [y] ∧ S H a ys ∧ IdV C H y ∧ (∀ z ∈ ys, IdV C H z) ∧ y ∈ ys ∧ Q (.int (ys.idxOf y : Nat)) H
theorem ix_hit {ys : List V} {y : V} (hm : y ∈ ys) : ys[ys.idxOf y]? = some y := by
  have hl : ys.idxOf y < ys.length := List.idxOf_lt_length_of_mem hm
  rw [List.getElem?_eq_getElem hl, List.getElem_idxOf hl]
theorem ix_miss {ys : List V} {y z : V} {m : Nat} (hm : m < ys.idxOf y) (h : ys[m]? = some z) : z ≠ y := by
  intro e
  subst e
  have h1 : m < ys.length := (List.getElem?_eq_some_iff.mp h).1
  have h2 : ys[m] = z := (List.getElem?_eq_some_iff.mp h).2
  have h3 := List.not_of_lt_findIdx (p := (· == z)) (xs := ys) (i := m) hm
  rw [h2] at h3
  simp at h3
theorem mt_index_id {k : Nat} (hr : Room k X.A) (c : IdC X.K C) : MtR X "list.index" (rIndexI C (SqL X.K)) := by
  intro pins s σ H x xs v us Q I rx rs h
  obtain ⟨p, y, ys, rfl, rfl, hq, fy, fs, hm, q⟩ := h
  cases rx
  obtain ⟨u, rfl, ry⟩ := vals1 rs
  obtain ⟨its, r, pl, hz⟩ := I.list hq
  obtain ⟨⟨cls, dd, dt, sl⟩, ho, hc, n, hd⟩ := pl.isList
  simp only at hc hd
  subst hc
  subst hd
  have hsl := sizeLine_eq
  have hl : its.toArray.size = ys.length := by rw [List.size_toArray, ← r.length]
  have hjl : ys.idxOf y < ys.length := List.idxOf_lt_length_of_mem hm
  have hj : ys.idxOf y < its.toArray.size := by rw [hl]; exact hjl
  have at' : ∀ (m : Nat) (hm : m < its.toArray.size), ∃ z, ys[m]? = some z ∧ RelV z its.toArray[m] := fun m hm => by
    have hm' : m < ys.length := by rw [← hl]; exact hm
    obtain ⟨w, hw, hr⟩ := r.get (i := m) (x := ys[m]) (by simp [hm'])
    refine ⟨ys[m], List.getElem?_eq_getElem hm', ?_⟩
    have e := (List.getElem?_eq_some_iff.mp hw).2
    have e2 : its.toArray[m] = w := by simpa using e
    rw [e2]
    exact hr
  refine call_meets PySem.F.slot_list_index ⟨_, ho, rfl⟩ PySem.F.entry_list_index (PySem.F.args_list_index_2 _ _) (SeqAt.list_indexAt p its.toArray n dd sl u (sameU y) (ys.idxOf y) hj (by omega) ?_ ?_)
    ⟨ho, fun w hw => mem_id I c (in1_lt hr) ry fy r fs w (by simpa using hw), ⟨.int (ys.idxOf y : Nat), H, I.tok _, ⟨_, rfl⟩, q⟩⟩
  · obtain ⟨z, h1, h2⟩ := at' _ hj
    rw [ix_hit hm] at h1
    cases h1
    rw [sameU_of h2 fy]
    exact decide_eq_true rfl
  · intro m hm' hmj
    obtain ⟨z, h1, h2⟩ := at' m hm'
    rw [sameU_of h2 (fs z (List.mem_of_getElem? h1))]
    exact decide_eq_false (ix_miss hmj h1)
theorem mt_tindex_id {k : Nat} (hr : Room k X.A) (c : IdC X.K C) : MtR X "tuple.index" (rIndexI C (SqT X.K)) := by
  intro pins s σ H x xs v us Q I rx rs h
  obtain ⟨p, y, ys, rfl, rfl, hq, fy, fs, hm, q⟩ := h
  cases rx
  obtain ⟨u, rfl, ry⟩ := vals1 rs
  obtain ⟨its, r, pl, hz⟩ := I.tuple hq
  obtain ⟨⟨cls, dd, dt, sl⟩, ho, hc, n, hd⟩ := pl
  simp only at hc hd
  subst hc
  subst hd
  have hl : its.toArray.size = ys.length := by rw [List.size_toArray, ← r.length]
  have hjl : ys.idxOf y < ys.length := List.idxOf_lt_length_of_mem hm
  have hj : ys.idxOf y < its.toArray.size := by rw [hl]; exact hjl
  have at' : ∀ (m : Nat) (hm : m < its.toArray.size), ∃ z, ys[m]? = some z ∧ RelV z its.toArray[m] := fun m hm => by
    have hm' : m < ys.length := by rw [← hl]; exact hm
    obtain ⟨w, hw, hr⟩ := r.get (i := m) (x := ys[m]) (by simp [hm'])
    refine ⟨ys[m], List.getElem?_eq_getElem hm', ?_⟩
    have e := (List.getElem?_eq_some_iff.mp hw).2
    have e2 : its.toArray[m] = w := by simpa using e
    rw [e2]
    exact hr
  refine call_meets PySem.F.slot_tuple_index ⟨_, ho, rfl⟩ PySem.F.entry_tuple_index (PySem.F.args_tuple_index_2 _ _) (TI.tuple_indexAt p its.toArray n dd sl u (sameU y) (ys.idxOf y) hj ?_ ?_)
    ⟨ho, fun w hw => mem_id I c (in1_lt hr) ry fy r fs w (by simpa using hw), ⟨.int (ys.idxOf y : Nat), H, I.tok _, ⟨_, rfl⟩, q⟩⟩
  · obtain ⟨z, h1, h2⟩ := at' _ hj
    rw [ix_hit hm] at h1
    cases h1
    rw [sameU_of h2 fy]
    exact decide_eq_true rfl
  · intro m hm' hmj
    obtain ⟨z, h1, h2⟩ := at' m hm'
    rw [sameU_of h2 (fs z (List.mem_of_getElem? h1))]
    exact decide_eq_false (ix_miss hmj h1)
/-- == of two lists of such -/
def rEqLI (K : PySem.W.Frag) (C : Addr) : R2 := fun x y H Q => ∃ p q xs ys, x = .ref p ∧ y = .ref q ∧ p ≠ q ∧ SqL K H p xs ∧ SqL K H q ys ∧ (∀ z ∈ xs, IdV C H z) ∧ (∀ z ∈ ys, IdV C H z) ∧ Q (.bl (decide (xs = ys))) H
theorem all_range_eq {xs ys : List V} (hl : xs.length = ys.length) : (List.range xs.length).all (fun j => decide (xs[j]? = ys[j]?)) = decide (xs = ys) := by
  by_cases e : xs = ys
  · subst e
    simp
  · rw [decide_eq_false e]
    cases h : (List.range xs.length).all (fun j => decide (xs[j]? = ys[j]?)) with
    | false => rfl
    | true =>
      exfalso
      apply e
      apply List.ext_getElem? fun i => ?_
      by_cases hi : i < xs.length
      · have := List.all_eq_true.mp h i (List.mem_range.mpr hi)
        exact of_decide_eq_true this
      · rw [List.getElem?_eq_none (by omega), List.getElem?_eq_none (by omega)]
theorem op_eq_lid {k : Nat} (hr : Room k X.A) (c : IdC X.K C) : OpR X (compareOp .Eq) (rEqLI X.K C) := by
  intro pins s σ H x y v u Q I rx ry h
  obtain ⟨p, q, xs, ys, rfl, rfl, hne, hx, hy, fx, fy, qq⟩ := h
  cases rx
  cases ry
  obtain ⟨its, r, pl, hz⟩ := I.list hx
  obtain ⟨its2, r2, pl2, hz2⟩ := I.list hy
  have hu : X.A.units < cLine := hr.units0
  by_cases hl : xs.length = ys.length
  · have hsz : its.toArray.size = its2.toArray.size := by rw [List.size_toArray, List.size_toArray, ← r.length, ← r2.length, hl]
    refine SeqAt.RcAt.lists (e := fun j => decide (xs[j]? = ys[j]?)) pl.isList pl2.isList hsz hu (fun j h1 h2 => ?_) _ _ _ _ ⟨.bl _, H, I, rfl, ?_⟩
    · have g1 : j < xs.length := by rw [r.length]; simpa using h1
      have g2 : j < ys.length := by rw [r2.length]; simpa using h2
      obtain ⟨w1, hw1, rr1⟩ := r.get (i := j) (x := xs[j]) (by simp [g1])
      obtain ⟨w2, hw2, rr2⟩ := r2.get (i := j) (x := ys[j]) (by simp [g2])
      have e1 : its.toArray[j] = w1 := by simpa using (List.getElem?_eq_some_iff.mp hw1).2
      have e2 : its2.toArray[j] = w2 := by simpa using (List.getElem?_eq_some_iff.mp hw2).2
      have ed : decide (xs[j]? = ys[j]?) = decide (xs[j] = ys[j]) := by simp [g1, g2]
      rw [e1, e2, ed]
      exact eqAt_id I c (in1_lt hr) rr1 rr2 (fx _ (List.getElem_mem g1)) (fy _ (List.getElem_mem g2))
    · have es : its.toArray.size = xs.length := by rw [List.size_toArray, ← r.length]
      rw [es, all_range_eq hl]
      exact qq
  · have hsz : (its.toArray.size != its2.toArray.size) = true := by
      rw [List.size_toArray, List.size_toArray, ← r.length, ← r2.length]
      simpa using hl
    refine SeqAt.RcAt.lists_lengths pl.isList pl2.isList hsz hu _ _ _ _ ⟨.bl _, H, I, rfl, ?_⟩
    rw [decide_eq_false (fun e => hl (by rw [e]))] at qq
    exact qq
end
end L2
end

section
set_option Elab.async false
set_option linter.all false
set_option maxRecDepth 100000
set_option maxHeartbeats 2000000
/-! what is never reached; t[::-1] of a tuple; enumerate(t) of a tuple -/
namespace HT
open PySem PySem.Spec PyProof.Rows
section
variable {prog : Program} {w : World} {A : Around} {E : Value → Shared → Prop} {s : Shared}
theorem adjust_rev (n : Nat) : Builtin.Slice.sliceAdjust none none (-1) (n : Int) = ((n : Int) - 1, -1) := by
  unfold Builtin.Slice.sliceAdjust
  rfl
theorem places_rev (n : Nat) : Builtin.Slice.slicePlaces ((n : Int) - 1) (-1) (-1) = n := by
  unfold Builtin.Slice.slicePlaces
  have h1 : ¬ (-1 : Int) > 0 := by omega
  simp only [h1, if_false, Int.neg_neg, Int.ediv_one]
  split <;> omega
theorem sliceApplied_rev {sl : Addr} {vs : Value} {n : Nat} {Q : Int × Int × Nat → Shared → Prop} (hs : s.heap.IsSliceOf sl .none .none vs) (ps : IsPart vs (some (-1)))
    (h : Q ((n : Int) - 1, -1, n) s) : wpAny (model prog w) A (Builtin.Slice.sliceApplied (.ref sl) (pure (n : Int))) Q E s := by
  obtain ⟨os, hos, hcs, hds⟩ := id hs
  unfold Builtin.Slice.sliceApplied Builtin.Slice.sliceFields
  refine wpAny_bind (wpAny_bind (wpAny_field hos hds (x := .none) rfl (wpAny_bind (wpAny_field hos hds (x := .none) rfl (wpAny_bind (wpAny_field hos hds (x := vs) rfl (wpAny_pure ?_)))))))
  refine wpAny_bind (slicePart_ ps ?_)
  show wpAny _ _ (if ((-1 : Int) == 0) = true then _ else _) _ _ s
  rw [if_neg (by decide)]
  refine wpAny_bind (slicePart_none (wpAny_bind (slicePart_none (wpAny_bind (wpAny_pure ?_)))))
  show wpAny _ _ (match Builtin.Slice.sliceAdjust none none (-1) (n : Int) with | (lo, hi) => pure (lo, (-1 : Int), Builtin.Slice.slicePlaces lo hi (-1))) _ _ s
  rw [adjust_rev n]
  show wpAny _ _ (pure ((n : Int) - 1, (-1 : Int), Builtin.Slice.slicePlaces ((n : Int) - 1) (-1) (-1))) _ _ s
  rw [places_rev]
  exact wpAny_pure h
theorem pick_rev (xs : Array Value) : ((List.range xs.size).filterMap fun (m : Nat) => xs[(((xs.size : Int) - 1) + (m : Int) * (-1)).toNat]?).toArray = xs.toList.reverse.toArray := by
  congr 1
  have e : (fun (m : Nat) => xs[(((xs.size : Int) - 1) + (m : Int) * (-1)).toNat]?) = fun m => if m < xs.size then xs[xs.size - 1 - m]? else xs[0]? := by
    funext m
    by_cases hm : m < xs.size
    · rw [if_pos hm]
      have : (((xs.size : Int) - 1) + (m : Int) * (-1)).toNat = xs.size - 1 - m := by omega
      rw [this]
    · rw [if_neg hm]
      have : (((xs.size : Int) - 1) + (m : Int) * (-1)).toNat = 0 := by omega
      rw [this]
  rw [e]
  have e2 : (List.range xs.size).filterMap (fun m => if m < xs.size then xs[xs.size - 1 - m]? else xs[0]?) = (List.range xs.size).filterMap (fun m => xs[xs.size - 1 - m]?) := by
    have key : ∀ l : List Nat, (∀ m ∈ l, m < xs.size) → l.filterMap (fun m => if m < xs.size then xs[xs.size - 1 - m]? else xs[0]?) = l.filterMap (fun m => xs[xs.size - 1 - m]?) := by
      intro l
      induction l with
      | nil => intro _; rfl
      | cons m l ih =>
        intro h
        rw [List.filterMap_cons, List.filterMap_cons, if_pos (h m List.mem_cons_self), ih fun k hk => h k (List.mem_cons_of_mem _ hk)]
    exact key _ fun m hm => List.mem_range.mp hm
  have e3 := PySem.W.krv_range xs.size
  have e4 : (List.range xs.size).filterMap (fun m => xs[xs.size - 1 - m]?) = ((List.range xs.size).map (fun k => xs.size - 1 - k)).filterMap (xs[·]?) := by
    rw [List.filterMap_map]
    rfl
  rw [e2, e4, e3, List.filterMap_reverse, PySem.W.krv_all]
theorem getItem_tuple_rev {t sl : Addr} {items : Array Value} {vs : Value} {Q : Value → Shared → Prop} (ht : IsTup s.heap t items) (hs : s.heap.IsSliceOf sl .none .none vs) (ps : IsPart vs (some (-1)))
    (h : Q (.ref s.heap.objs.size) { s with heap := s.heap.push { cls := .type "tuple", data := .seq items.toList.reverse.toArray } })
    (hsz : items.size ≤ sizeLine) : wpAny (model prog w) A (getItem (.ref t) (.ref sl)) Q E s := by
  have htake : sizeOk (.seq items.toList.reverse.toArray) := by
    show items.toList.reverse.toArray.size ≤ sizeLine
    rw [List.size_toArray, List.length_reverse, Array.length_toList]
    omega
  obtain ⟨os, hos, hcs, hds⟩ := id hs
  have hTs : s.TypeIs (.ref sl) "slice" := ⟨os, hos, hcs⟩
  unfold getItem
  try with_reducible refine wpAny_holding ?_
  first | refine wpAny_bind (wpAny_pure ?_) | skip
  refine wpAny_bind (wpAny_sequenceKey ht.typeIs (by decide) ?_)
  refine wpAny_bind (wpAny_callSpecial?_slot (name := Str.ofString "__getitem__") ht.typeIs PyProof.Rows.slot_tuple_getitem
    (wpAny_call_entry PyProof.Rows.slot_tuple_getitem ht.typeIs entry_tuple_getitem ?_ (args_tuple_getitem _ _)))
  show wpAny _ _ (Builtin.Tuple.tupleItemsOf (.ref t) >>= _) _ _ s
  refine wpAny_bind (tupleItemsOf_ ht ?_)
  refine wpAny_bind (wpAny_typeOf hTs ?_)
  rw [if_pos (by decide)]
  refine wpAny_bind (sliceApplied_rev hs ps ?_)
  have hno : ¬ ((((items.size : Int) - 1) == 0 && (-1 : Int) == 1 && items.size == items.size) = true) := by
    intro q
    rw [Bool.and_eq_true, Bool.and_eq_true] at q
    exact absurd (eq_of_beq q.1.2) (by decide)
  show wpAny _ _ (if (((items.size : Int) - 1) == 0 && (-1 : Int) == 1 && items.size == items.size) = true then _ else _) _ _ s
  rw [if_neg hno, pick_rev]
  first
    | exact wpAny_bind (m := Builtin.Tuple.tupleExact _) (wpAny_newObj_type (wpAny_pure ⟨_, rfl, wpAny_pure h⟩) htake)
    | exact wpAny_bind (m := Builtin.Tuple.tupleExact _) (wpAny_newObj_type (wpAny_bind (wpAny_pure (wpAny_pure ⟨_, rfl, wpAny_pure h⟩))) htake)
    | exact wpAny_bind (wpAny_bind (m := Builtin.Tuple.tupleExact _) (wpAny_newObj_type (wpAny_pure (wpAny_pure ⟨_, rfl, wpAny_pure h⟩)) htake))
    | exact wpAny_bind (wpAny_bind (m := Builtin.Tuple.tupleExact _) (wpAny_newObj_type (wpAny_pure ⟨_, rfl, wpAny_pure h⟩) htake))
end
end HT
namespace L2
open PySem PySem.Spec PyProof.Rows
section
variable {X : Cx} {e : Expr} {es : List Expr} {st : Stmt} {ss : List Stmt}
/-- what is never reached -/
def tNoE : TE := fun _ _ _ => False
theorem pe_never : PE X e tNoE := ⟨fun _ _ _ _ _ _ h => h.elim⟩
theorem pt_never : PT X e (fun _ _ _ => False) := ⟨fun _ _ _ _ _ _ h => h.elim⟩
theorem pa_never : PA X es (fun _ _ _ => False) := ⟨fun _ _ _ _ _ _ _ h => h.elim⟩
theorem pg_never : PG X e (fun _ _ _ _ => False) := ⟨fun _ _ _ _ _ _ _ _ _ h => h.elim⟩
def tRevT (K : PySem.W.Frag) (te : TE) : TE := fun σ H Q => te σ H fun x H1 => ∃ a xs, x = .ref a ∧ SqT K H1 a xs ∧ ∀ p, H1 p = none → Q (.ref p) (upd H1 p (.tup xs.reverse))
theorem pe_revT {te : TE} {k : Nat} {p1 p2 p3 pos : Pos} (he : PE X e te) : PE X (.Subscript e (.Slice none none (some (.UnaryOp .USub (.Constant (.int 1) k p1) p2)) p3) pos) (tRevT X.K te) := by
  refine ⟨fun pins s σ H Q I h => ?_⟩
  refine Subscript_ (thn (he.run pins s σ H _ I h) fun v s1 ⟨x, H1, I1, r1, q1⟩ => ?_)
  obtain ⟨a, xs, ex, hx, q⟩ := q1
  subst ex
  cases r1
  have hst : PO X (some (.UnaryOp .USub (.Constant (.int 1) k p1) p2)) (tPart (tUn (rU fun i => .int (-i)) (tC (.int 1)))) := po_some (pe_un un_neg pe_int)
  refine wpAny_Slice (thn (po_none.run pins s1 σ H1 (fun o H2 => o = none ∧ H2 = H1) I1 ⟨rfl, rfl⟩) fun vl s2 ⟨l, H2, I2, pl, el, e2⟩ => ?_)
  subst el e2
  refine thn (po_none.run pins s2 σ H2 (fun o H3 => o = none ∧ H3 = H2) I2 ⟨rfl, rfl⟩) fun vu s3 ⟨u, H3, I3, pu, eu, e3⟩ => ?_
  subst eu e3
  refine thn (hst.run pins s3 σ H3 (fun o H4 => o = some (-1) ∧ H4 = H3) I3 ⟨1, rfl, -1, rfl, rfl, rfl⟩) fun vs s4 ⟨o, H4, I4, ps, eo, e4⟩ => ?_
  subst eo e4
  have I5 : Inv X pins σ H4 { s4 with heap := s4.heap.push { cls := .type "slice", data := .fields #[vl, vu, vs] } } := I4.kept (t' := s4.toks) fun b ob q => Heap.get?_push_of_some _ q
  obtain ⟨its, r, ht, hz⟩ := I5.tuple hx
  have hlen := r.length
  cases pl
  cases pu
  show wpAny (model X.prog X.w) X.A (subscriptTail e (.Slice none none (some (.UnaryOp .USub (.Constant (.int 1) k p1) p2)) p3) (.ref a) (.ref s4.heap.objs.size)) (EP X pins σ Q) X.xe { s4 with heap := s4.heap.push { cls := .type "slice", data := .fields #[.none, .none, vs] } }
  refine tail_any (ops := [.ref a, .ref s4.heap.objs.size]) ht.typeIs (PyProof.Rows.slot_tuple_getitem.lookup) ?_ (by with_unfolding_all rfl)
  refine HT.getItem_tuple_rev ht (Heap.IsSliceOf.new _ .none .none vs) ps ?_ (by rw [List.size_toArray]; omega)
  refine ⟨.ref _, _, I5.laid (t' := s4.toks) (o := .tup xs.reverse) (fun b ob q => Heap.get?_push_of_some _ q) (Nat.le_refl _) ?_, rfl, q _ (I5.hok.fresh (Nat.le_refl _))⟩
  refine ⟨by rw [List.length_reverse]; exact hz, _, r.reverse, ?_⟩
  have e1 : its.toArray.toList.reverse.toArray = its.reverse.toArray := by simp
  rw [e1]
  exact PyProof.Rows.IsTup.new _ _

/-! ### enumerate(tuple) -/
def IteT (K : PySem.W.Frag) (a : Addr) : It :=
  ⟨fun i H => ∃ (xs : List V) (x : V), SqT K H a xs ∧ xs[i]? = some x, fun i H v H' => ∃ T x, v = .ref T ∧ H T = none ∧ H' = upd H T (.tup [.int (i : Nat), x]) ∧ ∀ xs, SqT K H a xs → xs[i]? = some x, fun i H => ∃ xs : List V, SqT K H a xs ∧ xs.length ≤ i⟩
theorem turn_enumT {P : Program} {w : World} {K : PySem.W.Frag} {elts : List Expr} {kk : Nat} {tpos : Pos} (a e it : Addr) :
    Turn P w K (.Tuple elts kk tpos) (IteT K a) [e, it] e (fun i h => (∃ old, IsEnum h e it ((i : Nat) : Int) old) ∧ h.IsTupleIter it a i ∧ e ≠ it) where
  mem := by simp
  obj := fun i h st b hb => by
    obtain ⟨⟨old, he⟩, ⟨o, ho, hc, hd⟩, _⟩ := st
    have e' : b = e ∨ b = it := by simpa using hb
    rcases e' with z | z
    · rw [z]; exact ⟨_, he, fun v q => nomatch q⟩
    · rw [z]; exact ⟨o, ho, fun v q => by rw [hd] at q; cases q⟩
  keep := fun i h h' st k => let ⟨⟨old, he⟩, hi, hne⟩ := st; ⟨⟨old, k e (by simp) _ he⟩, hi.at fun o q => k it (by simp) o q, hne⟩
  item := by
    intro X hP hw hK hc i pins s σ H E I hf st hg
    subst hP hw hK
    obtain ⟨⟨old, he⟩, hit, hne⟩ := st
    obtain ⟨xs, x, hq, hx⟩ := hg
    obtain ⟨its, rv, p, hz⟩ := I.tuple hq
    obtain ⟨u, hu, ru⟩ := rv.get hx
    have hel : e < s.heap.objs.size := Heap.lt_size he
    have hil : it < s.heap.objs.size := by obtain ⟨_, q, _⟩ := hit; exact Heap.lt_size q
    have hai : a ≠ it := fun z => by
      obtain ⟨o1, q1, c1, _⟩ := hit
      obtain ⟨o2, q2, c2, _⟩ := p
      rw [z] at q2
      rw [Option.some.inj (q2.symm.trans q1), c1] at c2
      exact absurd c2 (by simp)
    have hae : e ∉ [it, a] := fun z => by
      have z' : e = it ∨ e = a := by simpa using z
      rcases z' with z | z
      · exact hne z
      · obtain ⟨o2, q2, c2, _⟩ := p
        rw [← z] at q2
        have q1 : s.heap.get? e = some _ := he
        rw [← Option.some.inj (q1.symm.trans q2)] at c2
        exact absurd c2 (by simp)
    have hlt : i < its.toArray.size := by
      have := (List.getElem?_eq_some_iff.mp hu).1
      simpa using this
    have hux : its.toArray[i]? = some u := by simpa using hu
    refine wpAny_pyNext_enum_itemD (Draws.tuple (A := X.A.in1) (by exact I.ok.hd hc) it a hai its.toArray) he ⟨hit, p⟩ hlt hne hae fun x' h' tk hP ho hst hT hsz hk => ?_
    have ex : x' = u := Option.some.inj (hP.symm.trans hux)
    subst ex
    refine ⟨_, rfl, wpAny_letOwnedTupleGo_enum (s := { s with heap := h', toks := tk + 1 }) ho fun h'' he' sb => ?_⟩
    have hT2 : h''.get? s.heap.objs.size = some { cls := .type "tuple", data := .seq #[.int i tk, x'] } := (sb.2 _ (Nat.ne_of_gt hel)).trans hT
    have new : ObjOk X.prog X.w (upd H s.heap.objs.size (.tup [.int (i : Nat), x])) h'' s.heap.objs.size (.tup [.int (i : Nat), x]) :=
      ⟨by show 2 ≤ sizeLine; decide, [.int i tk, x'], .cons ⟨_, rfl⟩ (.cons ru .nil), ⟨_, hT2, rfl, _, rfl⟩⟩
    have I1 : Inv X pins σ (upd H s.heap.objs.size (.tup [.int (i : Nat), x])) { s with heap := h'', toks := tk + 1 } :=
      I.turnedNew (ch := [e, it]) (fun b ob hb q => (sb.2 b (fun z => hb (by simp [z]))).trans (hk b ob (fun z => hb (by simp [z])) (fun z => hb (by simp [z])) q)) hf (Nat.le_refl _) new
    refine ⟨.ref s.heap.objs.size, _, I1, rfl, ⟨_, x, rfl, I.hok.fresh (Nat.le_refl _), rfl, fun ys hy => by rw [I.tuple_inj hy hq]; exact hx⟩, ⟨⟨x', ?_⟩, hst.1.at fun o q => (sb.2 it (Ne.symm hne)).trans q, hne⟩, fun b hb => ?_⟩
    · have e1 : ((i + 1 : Nat) : Int) = (i : Int) + 1 := by omega
      rw [e1]; exact he'
    · have hb' : b < s.heap.objs.size := by
        have e' : b = e ∨ b = it := by simpa using hb
        rcases e' with z | z
        · rw [z]; exact hel
        · rw [z]; exact hil
      rw [upd_ne (Nat.ne_of_lt hb')]
      exact (hf b hb).1
  done := by
    intro X hP hw hK hc i pins s σ H E I hf st hg
    subst hP hw hK
    obtain ⟨⟨old, he⟩, hit, hne⟩ := st
    obtain ⟨xs, hq, hx⟩ := hg
    obtain ⟨its, rv, p, hz⟩ := I.tuple hq
    obtain ⟨f0, f1, f2, f3, f4, f5⟩ := hf it (by simp)
    have hl := rv.length
    have hh : X.A.handled = none := I.ok.hd hc
    have hT : s.TypeIs (.ref e) "enumerate" := ⟨_, he, rfl⟩
    have hend : its.toArray[i]? = none := by simp; omega
    unfold pyNext
    refine wpAny_bind (wpAny_attempt (wpAny_callSpecial?_slot (name := Str.ofString "__next__") hT F.slot_enumerate_next
      (wpAny_call_entry F.slot_enumerate_next hT F.entry_enumerate_next ?_ (F.args_enumerate_next_1 _))))
    show wpAny _ _ (field (.ref e) 2 >>= _) _ _ _
    refine wpAny_bind (wpAny_field he rfl (x := .ref it) rfl ?_)
    refine wpAny_bind (wpAny_nextOf_tuple_end (A := X.A.in1) hh hit p hend fun h' x he' hx' => ?_)
    obtain ⟨o, ho, hc⟩ := hx'
    refine wpAny_bind (wpAny_isInstance (T := "StopIteration") (b := true) ⟨o, ho, hc⟩ isSubtype_stop ?_)
    exact wpAny_pure ⟨rfl, I.turned (t' := s.toks) (fun b o hb q => he' b o hb q) f0 f1 f3 f4 f5⟩
  self := fun A i s Q E st h => let ⟨⟨_, he⟩, _⟩ := st; wpAny_pyIter_enum he h
theorem meets_enumerate_newT (l : Addr) (items : Array Value) (o : Obj) :
    Meets (Builtin.«enumerate.__new__» ⟨[.type "enumerate", .ref l], []⟩) (fun _ R s => s.heap.IsTuple l items ∧
      R (.ok (.ret (.ref (s.heap.push { cls := .type "tuple_iterator", data := .fields #[.ref l, .int 0 0] }).objs.size)))
        { s with heap := (s.heap.push { cls := .type "tuple_iterator", data := .fields #[.ref l, .int 0 0] }).push { cls := .type "enumerate", data := .fields #[.none, .bool false, .ref s.heap.objs.size, rawInt 0, .none, .none] } }) :=
  .of_wp fun prog w A R s h => by
    obtain ⟨hp, g, d, tk, os⟩ := s; obtain ⟨hl, h⟩ := h
    have hsub := sub_enumerate
    have q1 : ∀ {A' : Around} {E : Value → Shared → Prop} {Q : Value → Shared → Prop}, Q (.ref hp.objs.size) ⟨hp.push { cls := .type "tuple_iterator", data := .fields #[.ref l, .int 0 0] }, g, d, tk, os⟩ → wpAny (model prog w) A' (pyIter (.ref l)) Q E ⟨hp, g, d, tk, os⟩ :=
      fun q => wpAny_pyIter_tuple hl q
    wp_walk using q1
    refine wpAny_stack_any fun st => wpAny_pure ?_
    split
    · rename_i c _ _ _ _ _
      cases (c == Value.type "enumerate")
      · wp_walk using q1
        exact ⟨_, rfl, h⟩
      · wp_walk using q1
        exact ⟨_, rfl, h⟩
    · wp_walk using q1
      exact ⟨_, rfl, h⟩
theorem call_enumerate_tuple {prog : Program} {w : World} {A : Around} {E : Value → Shared → Prop} {s : Shared} {l : Addr} {items : Array Value} {Q : Value → Shared → Prop} (hL : s.heap.IsTuple l items)
    (h : ∀ h', IsEnum h' (s.heap.objs.size + 1) s.heap.objs.size 0 .none → h'.IsTupleIter s.heap.objs.size l 0 → h'.objs.size = s.heap.objs.size + 2 →
      (∀ b o, s.heap.get? b = some o → h'.get? b = some o) → Q (.ref (s.heap.objs.size + 1)) { s with heap := h' }) :
    wpAny (model prog w) A (call (.type "enumerate") [.ref l]) Q E s := by
  refine callType_new F.called_enumerate (by decide) (F.typeCall_enumerate_1 _) (F.newCall_enumerate_1 _) (fun obj => F.args_object_init_2 obj _) F.entry_enumerate_new
    (meets_enumerate_newT l items default) ⟨hL, ?_⟩
  have hz : (s.heap.push { cls := .type "tuple_iterator", data := .fields #[.ref l, .int 0 0] }).objs.size = s.heap.objs.size + 1 := Heap.size_push ..
  show _ ∧ _
  rw [hz]
  have he : IsEnum ((s.heap.push { cls := .type "tuple_iterator", data := .fields #[.ref l, .int 0 0] }).push
      { cls := .type "enumerate", data := .fields #[.none, .bool false, .ref s.heap.objs.size, rawInt 0, .none, .none] }) (s.heap.objs.size + 1) s.heap.objs.size 0 .none := by
    have := Heap.get?_push_size (s.heap.push { cls := .type "tuple_iterator", data := .fields #[.ref l, .int 0 0] }) (o := { cls := .type "enumerate", data := .fields #[.none, .bool false, .ref s.heap.objs.size, rawInt 0, .none, .none] }) rfl
    rw [hz] at this; exact this
  refine ⟨⟨_, he, rfl⟩, h _ he ⟨_, Heap.get?_push_of_some _ (Heap.get?_push_size _ rfl), rfl, rfl⟩ (by rw [Heap.size_push, hz]) fun b o x => Heap.get?_push_of_some _ (Heap.get?_push_of_some _ x)⟩
def iEnumT (K : PySem.W.Frag) (ta : TA) : TI := fun σ H R => ta σ H fun vs H1 => ∃ a xs, vs = [.ref a] ∧ SqT K H1 a xs ∧ R (IteT K a) H1
theorem pi_enumT {X : Cx} {e : Expr} {ta : TA} {p pos tpos : Pos} {elts : List Expr} {kk : Nat} (hg : Gl X "enumerate") (hm : X.mg "enumerate" = none) (ha : PA X [e] ta) (hs : starEach [e] X.env = [(false, eval e X.env)] := by rfl) :
    PI X (.Tuple elts kk tpos) (.Call (.Name "enumerate" p) [e] [] pos) (iEnumT X.K ta) := by
  refine ⟨fun pins s σ H R I h => ?_⟩
  refine Call_ (ld_blt I hg hm boot_enumerate (PyProof.Rows.callWith_type1 (thn (ha.run pos pins s σ H _ I h) fun us s1 ⟨vs, H1, I1, r1, q1⟩ => ?_) hs rfl))
  obtain ⟨a, xs, ex, hq, q⟩ := q1
  subst ex
  cases r1 with
  | cons r rr =>
    cases rr
    cases r
    obtain ⟨its, rv, p', hz⟩ := I1.tuple hq
    refine call_enumerate_tuple p' fun h' he hit hsz hk => wpAny_pyIter_enum he ?_
    have I2 : Inv X pins σ H1 { s1 with heap := h' } := I1.kept (t' := s1.toks) hk
    refine ⟨s1.heap.objs.size + 1, [s1.heap.objs.size + 1, s1.heap.objs.size], _, _, H1, rfl, I2, turn_enumT a (s1.heap.objs.size + 1) s1.heap.objs.size, ⟨⟨.none, he⟩, hit, Nat.succ_ne_self _⟩, fun b hb => ?_, q⟩
    have e' : b = s1.heap.objs.size + 1 ∨ b = s1.heap.objs.size := by simpa using hb
    have hle : s1.heap.objs.size ≤ b := by
      rcases e' with z | z
      · rw [z]; exact Nat.le_add_right _ _
      · rw [z]; exact Nat.le_refl _
    exact I1.fpOk hle (I1.hok.fresh hle)
theorem walk_enumT {K : PySem.W.Frag} {a : Addr} {xs : List V} : Walk (IteT K a) xs.length (fun H => SqT K H a xs) (YPair (fun i => some (.int (i : Nat))) (fun i => xs[i]?)) := by
  refine ⟨fun i _ hi q => ⟨xs, xs[i], q, by simp [hi]⟩, fun _ q => ⟨xs, q, Nat.le_refl _⟩, fun i H v H' _ q y => ?_⟩
  obtain ⟨T, x, h1, h2, h3, h4⟩ := y
  exact ⟨T, .int (i : Nat), x, h1, h2, h3, rfl, h4 xs q⟩
end
end L2
end

section
set_option Elab.async false
set_option linter.all false
set_option maxRecDepth 100000
set_option maxHeartbeats 2000000
/-! a def (a, b, *v, c=.., **d): called with a, b alone, or with a, b and c by name; a class called by a local name -/
namespace InC
open PySem PySem.Spec PyProof.Rows L2 StX
/-- what binding comes to: nothing left over, no further keywords -/
def BndOk (K : PySem.W.Frag) (fd : FuncData) (args : Args) (l : List (Str × Value)) (pv pd : Str) : Prop :=
  ∀ (M : Model) (A : Around) (Q : List (Str × Value) → Shared → Prop) (E : Value → Shared → Prop) (s : Shared), K.In s.heap →
    wpAny M A (newTuple [] >>= fun t => (alloc ({ cls := .type "dict", data := .dict #[] } : Obj) : Sem Addr) >>= fun d => pure (l ++ [(pv, t), (pd, Value.ref d)])) Q E s → wpAny M A (bindArgs fd args) Q E s
section
variable {CX : CXT} {P : Program} {w : World} {K : PySem.W.Frag} {mg : Str → Option Value} {base : Heap} {k : Nat} {f : Addr} {name qual : Str} {params : Arguments} {body : List Stmt} {scope : Scope} {dV kV doc pm cdv ct oc : Value} {an od : Option Addr}
  {osl : Array (Option Value)} {N ps : List Str} {sp : Sp} {pv pd : Str}
theorem run_in {A : Around} {outer : List Env} {s : Shared} {H : Hp} {args : Args} {us : List Value} {vs : List V} {Q : VK} {E : XK} (lk : K.lookup f = some ⟨oc, od, .func (PySem.W.fnOf name qual params body scope dV kV doc pm an cdv ct), osl⟩) (hcd : PySem.W.codeIn K cdv qual = true)
    (S : FnScope N (ps ++ [pv, pd]) scope) (hCX : CXUp CX) (hr : Room (k + 1) A) (e0 : Env0 P w K mg base A outer s H) (hb : BndOk K (PySem.W.fnOf name qual params body scope dV kV doc pm an cdv ct) args (ps.zip us) pv pd) (r : Vals vs us) (hl : vs.length = ps.length)
    (hbody : ∀ (A : Around) (outer : List Env) (s : Shared) (H : Hp) (vs : List V) (Q : VK) (E : XK), Room k (A.deeper (envOfC qual scope s.heap.objs.size f cdv)) → sp vs H Q E →
      ∃ t, PSs (cxOf CX P w K mg base N qual scope f cdv A outer s H E) body t ∧ t { nx := fun _ H' => Q .non H', rt := Q } (start N vs) H)
    (hq : ∀ p d, H p = Option.none → H d = Option.none → d ≠ p → sp (vs ++ [V.ref p, V.ref d]) (upd (upd H p (.tup [])) d (.dK [])) Q E) :
    codeAny (model P w) A (.call (.ref f) args) (CR CX outer P w H s Q E) s := by
  have hn : H s.heap.objs.size = Option.none := e0.hok.fresh (Nat.le_refl _)
  have hl1 : us.length = ps.length := by rw [← r.length]; exact hl
  have KX : K.In s.heap := e0.mod.kin.keeps fun b o e => (e0.bs b o e).1
  refine run_bnd lk hcd S hr e0 (G := fun xs H2 => ∃ p d, H p = Option.none ∧ H d = Option.none ∧ d ≠ p ∧ xs = vs ++ [V.ref p, V.ref d] ∧ H2 = upd (upd H p (.tup [])) d (.dK [])) (fun A' Ex Q' h => ?_) fun s2 H2 xs ⟨p, d, hp, hd, hne, ex, eH⟩ hr' => ?_
  · refine hb _ _ _ _ _ KX ?_
    refine wpAny_bind (wpAny_newTuple (wpAny_bind (wpAny_alloc (wpAny_pure ?_))) (by show 0 ≤ sizeLine; exact Nat.zero_le _))
    have new : ObjOk P w (upd H s.heap.objs.size (.tup [])) (s.heap.push ({ cls := .type "tuple", data := .seq ([] : List Value).toArray } : Obj)) s.heap.objs.size (.tup []) := ⟨Nat.zero_le _, [], .nil, ⟨_, Heap.get?_push_size _ rfl, rfl, _, rfl⟩⟩
    have e1 := env0_laid e0 new
    have un1 := un_laid (fs := frs outer) (s := s) (o := ({ cls := .type "tuple", data := .seq ([] : List Value).toArray } : Obj)) (u := .tup []) hn
    have hn2 := e1.hok.fresh (Nat.le_refl _)
    have e2 := env0_laid (u := .dK []) (o := ({ cls := .type "dict", data := .dict #[] } : Obj)) e1 (dk_empty _ (env0_big e1))
    have un2 := un1.trans (un_laid (fs := frs outer) (s := { s with heap := s.heap.push ({ cls := .type "tuple", data := .seq ([] : List Value).toArray } : Obj) }) (o := ({ cls := .type "dict", data := .dict #[] } : Obj)) (u := .dK []) hn2)
    have sz : (s.heap.push ({ cls := .type "tuple", data := .seq ([] : List Value).toArray } : Obj)).objs.size = s.heap.objs.size + 1 := Heap.size_push _ _
    have ne : (s.heap.push ({ cls := .type "tuple", data := .seq ([] : List Value).toArray } : Obj)).objs.size ≠ s.heap.objs.size := by
      rw [sz]
      exact Nat.succ_ne_self _
    have hd : H (s.heap.push ({ cls := .type "tuple", data := .seq ([] : List Value).toArray } : Obj)).objs.size = Option.none := e0.hok.fresh (by rw [sz]; exact Nat.le_succ _)
    have z := h _ _ (vs ++ [V.ref s.heap.objs.size, V.ref (s.heap.push ({ cls := .type "tuple", data := .seq ([] : List Value).toArray } : Obj)).objs.size]) (us ++ [Value.ref s.heap.objs.size, Value.ref (s.heap.push ({ cls := .type "tuple", data := .seq ([] : List Value).toArray } : Obj)).objs.size]) e2 un2 rfl
      (fun e s' => hCX outer s H _ _ E e s' un2 (fun b o q => Heap.get?_push_of_some _ (Heap.get?_push_of_some _ q)) rfl) (r.append (.cons rfl (.cons rfl .nil))) (by rw [List.length_append, List.length_append, hl] <;> rfl) ⟨_, _, hn, hd, ne, rfl, rfl⟩
    rw [List.zip_append hl1.symm] at z
    exact z
  · subst ex eH
    exact hbody A outer s2 _ _ Q E hr' (hq p d hp hd hne)
end
/-- with one keyword-only default that is looked up (the name c) -/
theorem bnd_dflt {K : PySem.W.Frag} {fd : FuncData} {args : Args} {l : List (Str × Value)} {pv pd c : Str} {D : Addr} {av : Value} (hk : PySem.W.nsIn K D c = some (some av))
    (h : ∃ (β γ : Type) (k1 : Option Value → Sem β) (k2 : β → Sem γ) (k3 : γ → Sem (List (Str × Value))) (a : β), bindArgs fd args = ((nsGet D c >>= k1) >>= k2) >>= k3 ∧ k1 (some av) = pure a ∧
      (k2 a >>= k3) = (newTuple [] >>= fun t => (alloc ({ cls := .type "dict", data := .dict #[] } : Obj) : Sem Addr) >>= fun d => pure (l ++ [(pv, t), (pd, Value.ref d)]))) : BndOk K fd args l pv pd := fun M A Q E s X q => by
  obtain ⟨β, γ, k1, k2, k3, a, e1, e2, e3⟩ := h
  have l1 : PySem.W.Looks M s.heap (nsGet D c >>= k1) a := (PySem.W.looks_nsIn X hk).andThen (PySem.W.Looks.of_pure e2)
  rw [e1, bind_assoc]
  refine wpAny_bind (l1.here ?_)
  rw [e3]
  exact q
theorem bnd_all {K : PySem.W.Frag} {fd : FuncData} {args : Args} {l : List (Str × Value)} {pv pd : Str}
    (h : bindArgs fd args = (newTuple [] >>= fun t => (alloc ({ cls := .type "dict", data := .dict #[] } : Obj) : Sem Addr) >>= fun d => pure (l ++ [(pv, t), (pd, Value.ref d)]))) : BndOk K fd args l pv pd := fun M A Q E s X q => by
  rw [h]
  exact q

/-! ### making an instance by a local name, and by keywords -/
section
variable {X : Cx} {CX : CXT} {k i : Nat} {f C : Addr} {sp : Sp} {E : XK} {x : Str} {e : Expr} {es : List Expr} {t tk : TA} {p pos : Pos} {kws : List Keyword}
/-- c(e, ..), c the def's own name that holds the class at C -/
theorem pe_makeL (M : Mk X.K C f) (F : FnR X.prog X.w X.K X.mg X.base CX k f sp) (hr : Room (k + 1) X.A) (hN : X.N[i]? = some x) (hv : Vis X.env.scope x) (hx : Passes CX X E) (ha : PA X (e :: es) t) (hd : (x == ("__debug__" : Str)) = false := by decide)
    (hcd : (x == ("__classdict__" : Str)) = false := by decide)
    (he : starEach (e :: es) X.env = (false, eval e X.env) :: starEach es X.env := by rfl) (hpl : (backTo pos (starEach es X.env)).any (·.1) = false := by rfl) :
    PE X (.Call (.Name x p) (e :: es) [] pos) (fun σ H Q => σ[i]? = some (some (.ref C)) ∧ tMakeR C sp E t σ H Q) := by
  refine ⟨fun pins s σ H Q I h => ?_⟩
  obtain ⟨hs, h⟩ := h
  refine wpAny_Call_Name_kw (thn ((pe_var (pos := p) (i := i) hN hv hd hcd).run pins s σ H (fun v H1 => v = .ref C ∧ H1 = H) I ⟨.ref C, hs, rfl, rfl⟩) fun u s1 ⟨v, H1, I1, r1, q1⟩ => ?_)
  obtain ⟨ev, eH⟩ := q1
  subst ev
  subst eH
  obtain rfl : u = Value.ref C := r1
  refine PySem.W.callWith_K (h₀ := X.base) I.ok.mod.kin M.kp (thn (ha.run pos pins s1 σ H1 _ I1 h) fun us s1 ⟨vs, H1, I1, r, q⟩ => ⟨I1.kIn, ?_⟩) he hpl
  exact run_makeR M F hr hx I1 r q
/-- a promise of a call with keywords: the positional values, the keywords' values (names ks) -/
def FnKw (P : Program) (w : World) (K : PySem.W.Frag) (mg : Str → Option Value) (base : Heap) (CX : CXT) (k : Nat) (f : Addr) (ks : List Str) (sp : List V → List V → Hp → VK → XK → Prop) : Prop :=
  ∀ (A : Around) (outer : List Env) (s : Shared) (H : Hp) (us ws : List Value) (vs zs : List V) (Q : VK) (E : XK), Room k A → Env0 P w K mg base A outer s H → Vals vs us → Vals zs ws → zs.length = ks.length → sp vs zs H Q E →
    codeAny (model P w) A (.call (.ref f) ⟨us, ks.zip ws⟩) (CR CX outer P w H s Q E) s
def tMakeKw (C : Addr) (m : Nat) (sp : List V → List V → Hp → VK → XK → Prop) (E : XK) (t tk : TA) : TE := fun σ H Q => t σ H fun vs H1 => tk σ H1 fun zs H2 => zs.length = m ∧ ∀ x dx, H2 x = Option.none → H2 dx = Option.none → dx ≠ x →
  sp (V.ref x :: vs) zs (upd (upd H2 dx (.own x)) x (.ins C dx [])) (fun v H3 => v = .non ∧ Q (.ref x) H3) E
/-- C(e, .., k = v, ..) -/
theorem pe_makeKw {ks : List Str} {sp : List V → List V → Hp → VK → XK → Prop} (M : Mk X.K C f) (F : FnKw X.prog X.w X.K X.mg X.base CX k f ks sp) (hr : Room (k + 1) X.A) (hg : Gl X x) (hm : X.mg x = some (.ref C)) (hx : Passes CX X E) (ha : PA X (e :: es) t) (hkw : PK X kws tk)
    (hall : (backToKw pos (keywordEach kws X.env)).all (·.1.isSome) = true := by rfl) (hks : (backToKw pos (keywordEach kws X.env)).filterMap (·.1) = ks := by rfl) (hdb : (x == ("__debug__" : Str)) = false := by decide)
    (he : starEach (e :: es) X.env = (false, eval e X.env) :: starEach es X.env := by rfl) (hpl : ((backTo pos (starEach (e :: es) X.env)).any (·.1) || (backToKw pos (keywordEach kws X.env)).any (·.1.isNone)) = false := by rfl) :
    PE X (.Call (.Name x p) (e :: es) kws pos) (tMakeKw C ks.length sp E t tk) := by
  refine ⟨fun pins s σ H Q I h => ?_⟩
  refine wpAny_Call_Name_kw (ld_glob I hg hm ?_ hdb)
  refine PySem.W.callWith_KW (h₀ := X.base) I.ok.mod.kin M.kp hall (thn (ha.run pos pins s σ H _ I h) fun us s1 ⟨vs, H1, I1, r, q⟩ => ?_) hpl he
  refine thn (hkw.run pos pins s1 σ H1 _ I1 q) fun ws s2 ⟨zs, H2, I2, rz, l3, q2⟩ => ⟨I2.kIn, ?_⟩
  rw [hks]
  have hq := q2 (s2.heap.objs.size + 1) s2.heap.objs.size (I2.hok.fresh (Nat.le_succ _)) (I2.hok.fresh (Nat.le_refl _)) (Nat.ne_of_lt (Nat.lt_succ_self _))
  have I3 := Inv.made (C := C) I2
  have r2 : Vals (V.ref (s2.heap.objs.size + 1) :: vs) (Value.ref (s2.heap.objs.size + 1) :: us) := .cons rfl r
  refine wpAny_call (make_map (f := f) I2.kIn M.makes M.init (beq_iff_eq.mp M.fn) (codeAny_mono (F _ X.stack _ _ (Value.ref (s2.heap.objs.size + 1) :: us) ws _ zs _ E (hr.make C us (ks.zip ws)) (I3.env0.make C us (ks.zip ws)) r2 rz l3 hq) fun r s' hq' => ?_))
  cases r with
  | error e => exact hx pins σ _ _ e s' I3 hq'
  | ok fl =>
    cases fl with
    | ret u =>
      obtain ⟨v, H', I4, rv, ev, q3⟩ := I3.after hq'
      subst ev
      exact ⟨rv, ⟨V.ref (s2.heap.objs.size + 1), H', I4, rfl, q3⟩⟩
    | next => exact False.elim hq'
    | brk => exact False.elim hq'
    | cont => exact False.elim hq'
end
end InC
end

section
set_option Elab.async false
set_option linter.all false
set_option maxRecDepth 100000
set_option maxHeartbeats 2000000
/-! xs == [], xs != []; list(d.values()); a lambda as a value -/
namespace L2
open PySem PySem.Spec PyProof.Rows
section
variable {X : Cx}
/-- == [] and != [], whatever the items are -/
def rEqE (K : PySem.W.Frag) (neg : Bool) : R2 := fun x y H Q => ∃ p q xs, x = .ref p ∧ y = .ref q ∧ SqL K H p xs ∧ SqL K H q [] ∧ Q (.bl (if neg then !xs.isEmpty else xs.isEmpty)) H
theorem op_eq_nil {k : Nat} (hr : Room k X.A) : OpR X (compareOp .Eq) (rEqE X.K false) := by
  intro pins s σ H x y v u Q I rx ry h
  obtain ⟨p, q, xs, rfl, rfl, hx, hy, qq⟩ := h
  cases rx
  cases ry
  obtain ⟨its, r, pl, hz⟩ := I.list hx
  obtain ⟨its2, r2, pl2, hz2⟩ := I.list hy
  have hu : X.A.units < cLine := hr.units0
  have e2 : its2 = [] := by
    cases r2
    rfl
  subst e2
  cases xs with
  | nil =>
    have e1 : its = [] := by
      cases r
      rfl
    subst e1
    refine SeqAt.RcAt.lists (e := fun _ => true) pl.isList pl2.isList rfl hu (fun j h1 h2 => absurd h1 (by simp)) _ _ _ _ ⟨.bl _, H, I, rfl, ?_⟩
    exact qq
  | cons y ys =>
    have hl := r.length
    refine SeqAt.RcAt.lists_lengths pl.isList pl2.isList ?_ hu _ _ _ _ ⟨.bl _, H, I, rfl, qq⟩
    rw [List.size_toArray, List.size_toArray, ← hl]
    simp
theorem op_ne_nil {k : Nat} (hr : Room k X.A) : OpR X (compareOp .NotEq) (rEqE X.K true) := by
  intro pins s σ H x y v u Q I rx ry h
  obtain ⟨p, q, xs, rfl, rfl, hx, hy, qq⟩ := h
  cases rx
  cases ry
  obtain ⟨its, r, pl, hz⟩ := I.list hx
  obtain ⟨its2, r2, pl2, hz2⟩ := I.list hy
  have hu : X.A.units < cLine := hr.units0
  have e2 : its2 = [] := by
    cases r2
    rfl
  subst e2
  cases xs with
  | nil =>
    have e1 : its = [] := by
      cases r
      rfl
    subst e1
    refine SeqAt.RcNeAt.lists (e := fun _ => true) pl.isList pl2.isList rfl hu (fun j h1 h2 => absurd h1 (by simp)) _ _ _ _ ⟨.bl _, H, I, rfl, ?_⟩
    exact qq
  | cons y ys =>
    have hl := r.length
    refine SeqAt.RcNeAt.lists_lengths pl.isList pl2.isList ?_ hu _ _ _ _ ⟨.bl _, H, I, rfl, qq⟩
    rw [List.size_toArray, List.size_toArray, ← hl]
    simp
/-! ### list(d.values()) -/
def tListVals (te : TE) : TE := fun σ H Q => te σ H fun x H1 => ∃ d kvs, x = .ref d ∧ H1 d = some (.dK kvs) ∧ ∀ p, H1 p = none → Q (.ref p) (upd H1 p (.lst (kvs.map (·.2))))
theorem kv_vals {κ : Type} : ∀ {kvs : List (κ × V)} {vs : List (κ × Value)}, KV kvs vs → Vals (kvs.map (·.2)) (vs.map (·.2))
  | _, _, .nil => .nil
  | _, _, .cons h t => .cons h.2 (kv_vals t)
theorem pe_listVals {e : Expr} {te : TE} {p apos cpos pos : Pos} (hc : X.calm = true) (he : PE X e te) (hg : Gl X "list") (hm : X.mg "list" = none) (hv : bootBuiltins "list" = some (.type "list")) (hbase : attributeBase e "values" X.env (eval e X.env) = eval e X.env := by rfl) (hline : (apos.endLine == cpos.line) = true := by rfl)
    (hs : starEach [.Call (.Attribute e "values" apos) [] [] cpos] X.env = (false, eval (.Call (.Attribute e "values" apos) [] [] cpos) X.env) :: starEach [] X.env := by rfl) :
    PE X (.Call (.Name "list" p) [.Call (.Attribute e "values" apos) [] [] cpos] [] pos) (tListVals te) := by
  refine ⟨fun pins s σ H Q I hq => ?_⟩
  refine wpAny_Call_Name_kw (ld_blt I hg hm hv ?_)
  refine PyProof.Rows.callWith_type1 ?_ hs rfl
  rw [hs]
  show wpAny _ _ (spliced ((false, eval (.Call (.Attribute e "values" apos) [] [] cpos) X.env) :: backTo pos (starEach [] X.env))) _ _ s
  refine Calls.spliced_cons ?_
  refine wpAny_Call_method (T := "dict") (id := "dict.values") hbase rfl hline F.plainAttrs_dict F.slot_dict_values F.type_dict_values (thn (he.run pins s σ H _ I hq) fun u s1 ⟨x, H1, I1, rx, d, kvs, ex, hd, q⟩ => ?_)
  subst ex
  obtain rfl : u = Value.ref d := rx
  obtain ⟨hz, hs0, vs, kv, hdo⟩ := I1.hok d _ hd
  obtain ⟨ep, hat⟩ := hdo.dictAt
  have lk : kvs.length = vs.length := Paired.length kv
  have I2 : Inv X pins σ H1 { s1 with heap := s1.heap.push { cls := .type "dict_values", data := .fields #[.ref d] } } := I1.kept (t' := s1.toks) fun b ob q => Heap.get?_push_of_some _ q
  refine ⟨hdo.typeIs, hdo.mapOf.noDict, ?_⟩
  show wpAny _ _ (callWith cpos (.builtin "dict.values") [.ref d] [] []) _ X.xe s1
  refine method_meetsIn F.slot_dict_values F.entry_dict_values rfl (PySem.evalArgs_none ⟨rfl, hdo.typeIs, F.args_dict_values_1 _, _, meets_dict_values (mixKind X.prog X.w) d hs0, ⟨vs, hdo⟩, ?_⟩)
  refine Calls.spliced_nil ?_
  refine PySem.W.kdl_call (PySem.W.kdl_values (knd := mixKind X.prog X.w) (kvs := vs) (ep := ep)) (I1.ok.hd hc) ⟨⟨_, Heap.get?_push_size _ rfl, rfl, rfl⟩, hat.push _⟩ (by omega) fun h' tk acc c hk hS hacc => ?_
  have hS' := hS
  have hle : s1.heap.objs.size ≤ (s1.heap.push { cls := .type "dict_values", data := .fields #[.ref d] }).objs.size := by
    rw [Heap.size_push]
    exact Nat.le_succ _
  have eacc : acc.toList = vs.map (·.2) := PySem.W.kdl_vals_eq acc.toList (by rw [Array.length_toList]; exact hacc.1) fun j v e => hacc.2 j v (by rw [← Array.getElem?_toList]; exact e)
  refine ⟨.ref _, _, I2.laid (t' := tk) (o := .lst (kvs.map (·.2))) hk (Nat.le_refl _) ?_, rfl, q _ (I2.hok.fresh (Nat.le_refl _))⟩
  refine ⟨by rw [List.length_map]; omega, acc.toList, c, by rw [eacc]; exact kv_vals kv, ?_⟩
  rw [Array.toArray_toList]
  exact hS'
end
end L2
namespace LamX
open PySem PySem.Spec PyProof.Rows L2
section
variable {X : Cx}
/-- a lambda as a value: a new function, nothing told of it -/
def tLamV (T : List (Addr × Str)) : TE := fun _ H Q => Tabs T H ∧ ∀ (H1 : Hp) (f : Addr), ExtN H H1 → Tabs T H1 → Q (.ref f) H1
theorem pe_lamV {T : List (Addr × Str)} {c P : Addr} {params : Arguments} {body : Expr} {scope : Scope} {pos : Pos} (TB : TabB X.base X.mg c P) (hcode : X.env.code = .ref c) (hmT : (P, X.env.qual ++ "<lambda>") ∈ T) (hu : ∀ p ∈ T, p.1 = P → p.2 = X.env.qual ++ "<lambda>")
    (L : LamS X.env.scope scope) (hdef : defaultsOf params X.env = ([], [])) : PE X (.Lambda params body scope pos) (tLamV T) := by
  refine ⟨fun pins s σ H Q I h => ?_⟩
  obtain ⟨hT, h⟩ := h
  exact lam_make2 I TB hcode hmT hu hT hdef (L.has I.ok) fun f c' pm ctv H1 s' I1 eN T1 hf hfn hfr hco => ⟨.ref f, H1, I1, rfl, h H1 f eN T1⟩
end
end LamX
end

section
/-! The merge of rows: heads, free heads, what is left; a ring where it stops. Core Lean alone. -/
set_option linter.all false
namespace Mg
variable {α : Type} [DecidableEq α]
def heads (rows : List (List α)) : List α := rows.filterMap List.head?
def isFree (rows : List (List α)) (h : α) : Bool := rows.all fun r => decide (h ∉ r.tail)
def frees (rows : List (List α)) : List α := (heads rows).filter (isFree rows)
def drop (h : α) (rows : List (List α)) : List (List α) := rows.map fun r => r.filter fun x => decide (x ≠ h)
def pop (h : α) (rows : List (List α)) : List (List α) := rows.map fun r => if r.take 1 = [h] then r.tail else r
def full (rows : List (List α)) : List (List α) := rows.filter fun r => !r.isEmpty
/-- the merge with so many turns; none: it stops | the turns do not suffice -/
def merge : Nat → List (List α) → Option (List α)
  | 0, _ => none
  | k + 1, rows => if heads rows = [] then some [] else match frees rows with
    | [] => none
    | h :: _ => (merge k (drop h rows)).map (h :: ·)
/-- every row has no item twice -/
def Nd (rows : List (List α)) : Prop := ∀ r ∈ rows, r.Nodup
theorem heads_nil {rows : List (List α)} : heads rows = [] ↔ full rows = [] := by
  unfold heads full
  rw [List.filterMap_eq_nil_iff, List.filter_eq_nil_iff]
  constructor
  · intro h r hr
    have := h r hr
    cases r with
    | nil => simp
    | cons a t => simp at this
  · intro h r hr
    have := h r hr
    cases r with
    | nil => rfl
    | cons a t => simp at this
theorem heads_full (rows : List (List α)) : heads (full rows) = heads rows := by
  unfold heads full
  induction rows with
  | nil => rfl
  | cons r rows ih =>
    cases r with
    | nil =>
      rw [List.filterMap_cons_none (by rfl), List.filter_cons, if_neg (by simp)]
      exact ih
    | cons a t =>
      rw [List.filterMap_cons_some (b := a) (by rfl), List.filter_cons, if_pos (by simp), List.filterMap_cons_some (b := a) (by rfl), ih]
theorem isFree_full (rows : List (List α)) (h : α) : isFree (full rows) h = isFree rows h := by
  unfold isFree full
  induction rows with
  | nil => rfl
  | cons r rows ih =>
    cases r with
    | nil => simpa using ih
    | cons a t => simp only [List.filter_cons, List.isEmpty_cons, Bool.not_false, if_true, List.all_cons, ih]
theorem frees_full (rows : List (List α)) : frees (full rows) = frees rows := by
  unfold frees
  rw [heads_full]
  congr 1
  funext h
  exact isFree_full rows h
theorem full_drop (h : α) (rows : List (List α)) : full (drop h (full rows)) = full (drop h rows) := by
  unfold full drop
  induction rows with
  | nil => rfl
  | cons r rows ih =>
    cases r with
    | nil => simpa using ih
    | cons a t =>
      have e1 : ((a :: t) :: rows).filter (fun r => !r.isEmpty) = (a :: t) :: rows.filter (fun r => !r.isEmpty) := by rw [List.filter_cons, if_pos (by simp)]
      rw [e1, List.map_cons, List.map_cons]
      generalize (a :: t).filter (fun x => decide (x ≠ h)) = z
      rw [List.filter_cons, List.filter_cons, ih]
theorem nd_drop {rows : List (List α)} (h : Nd rows) (x : α) : Nd (drop x rows) := by
  intro r hr
  obtain ⟨r', hr', rfl⟩ := List.mem_map.mp hr
  exact (h r' hr').filter _
theorem nd_full {rows : List (List α)} (h : Nd rows) : Nd (full rows) := fun r hr => h r (List.mem_filter.mp hr).1
theorem mem_drop {x y : α} {rows : List (List α)} : (∃ r ∈ drop x rows, y ∈ r) ↔ (y ≠ x ∧ ∃ r ∈ rows, y ∈ r) := by
  unfold drop
  constructor
  · rintro ⟨r, hr, hy⟩
    obtain ⟨r', hr', rfl⟩ := List.mem_map.mp hr
    obtain ⟨h1, h2⟩ := List.mem_filter.mp hy
    exact ⟨of_decide_eq_true h2, r', hr', h1⟩
  · rintro ⟨hn, r, hr, hy⟩
    exact ⟨_, List.mem_map.mpr ⟨r, hr, rfl⟩, List.mem_filter.mpr ⟨hy, decide_eq_true hn⟩⟩
/-- a free head stands nowhere but at heads: taking it off the heads is taking it away -/
theorem pop_drop {rows : List (List α)} (nd : Nd rows) {h : α} (hf : isFree rows h = true) : pop h rows = drop h rows := by
  unfold pop drop
  apply List.map_congr_left
  intro r hr
  have h1 : h ∉ r.tail := of_decide_eq_true (List.all_eq_true.mp hf r hr)
  cases r with
  | nil => simp
  | cons a t =>
    have ht : t.filter (fun x => decide (x ≠ h)) = t := List.filter_eq_self.mpr fun x hx => decide_eq_true fun e => h1 (by rw [← e]; exact hx)
    by_cases e : a = h
    · subst e
      rw [if_pos (by simp), List.filter_cons, if_neg (by simp), ht]
      rfl
    · have e2 : ¬ (a :: t).take 1 = [h] := by
        intro q
        have q2 : a = h := by simpa using q
        exact e q2
      rw [if_neg e2, List.filter_cons, if_pos (decide_eq_true e), ht]
theorem mem_frees {rows : List (List α)} {h : α} : h ∈ frees rows ↔ h ∈ heads rows ∧ isFree rows h = true := by
  unfold frees
  exact List.mem_filter
theorem mem_heads {rows : List (List α)} {h : α} : h ∈ heads rows ↔ ∃ t, (h :: t) ∈ rows := by
  unfold heads
  rw [List.mem_filterMap]
  constructor
  · rintro ⟨r, hr, e⟩
    cases r with
    | nil => cases e
    | cons a t =>
      have e2 : a = h := Option.some.inj e
      subst e2
      exact ⟨t, hr⟩
  · rintro ⟨t, ht⟩
    exact ⟨_, ht, rfl⟩
/-! ### the turns suffice -/
/-- how many of the candidates occur -/
def cnt (cs : List α) (rows : List (List α)) : Nat := (cs.filter fun x => rows.any fun r => decide (x ∈ r)).length
def Within (cs : List α) (rows : List (List α)) : Prop := ∀ r ∈ rows, ∀ x ∈ r, x ∈ cs
theorem within_drop {cs : List α} {rows : List (List α)} (h : Within cs rows) (x : α) : Within cs (drop x rows) := by
  intro r hr y hy
  obtain ⟨r', hr', rfl⟩ := List.mem_map.mp hr
  exact h r' hr' y (List.mem_filter.mp hy).1
theorem any_iff {rows : List (List α)} {x : α} : (rows.any fun r => decide (x ∈ r)) = true ↔ ∃ r ∈ rows, x ∈ r := by
  rw [List.any_eq_true]
  constructor
  · rintro ⟨r, hr, h⟩
    exact ⟨r, hr, of_decide_eq_true h⟩
  · rintro ⟨r, hr, h⟩
    exact ⟨r, hr, decide_eq_true h⟩
theorem filter_lt {p q : α → Bool} {l : List α} {x : α} (hx : x ∈ l) (hp : p x = true) (hq : q x = false) (h : ∀ y, q y = true → p y = true) : (l.filter q).length < (l.filter p).length := by
  induction l with
  | nil => cases hx
  | cons a l ih =>
    have le : ∀ l : List α, (l.filter q).length ≤ (l.filter p).length := by
      intro l
      induction l with
      | nil => exact Nat.le_refl _
      | cons b l ih2 =>
        rw [List.filter_cons, List.filter_cons]
        by_cases hb : q b = true
        · rw [if_pos hb, if_pos (h b hb), List.length_cons, List.length_cons]
          omega
        · rw [if_neg hb]
          split
          · rw [List.length_cons]
            omega
          · exact ih2
    rw [List.filter_cons, List.filter_cons]
    by_cases ha : x = a
    · subst ha
      have h1 := le l
      rw [if_pos hp, hq]
      simp only [Bool.false_eq_true, if_false, List.length_cons]
      omega
    · have hx' : x ∈ l := by
        rcases List.mem_cons.mp hx with e | e
        · exact absurd e ha
        · exact e
      have h2 := ih hx'
      by_cases hb : q a = true
      · rw [if_pos hb, if_pos (h a hb), List.length_cons, List.length_cons]
        omega
      · rw [if_neg hb]
        split
        · rw [List.length_cons]
          omega
        · exact h2
theorem cnt_drop {cs : List α} {rows : List (List α)} {h : α} (hw : Within cs rows) (hh : h ∈ heads rows) : cnt cs (drop h rows) < cnt cs rows := by
  obtain ⟨t, ht⟩ := mem_heads.mp hh
  unfold cnt
  refine filter_lt (x := h) (hw _ ht h (List.mem_cons_self ..)) (any_iff.mpr ⟨_, ht, List.mem_cons_self ..⟩) ?_ fun y hy => ?_
  · cases q : (drop h rows).any fun r => decide (h ∈ r) with
    | false => rfl
    | true => exact absurd rfl (mem_drop.mp (any_iff.mp q)).1
  · exact any_iff.mpr (mem_drop.mp (any_iff.mp hy)).2
theorem frees_head {rows : List (List α)} {h : α} {t : List α} (e : frees rows = h :: t) : h ∈ heads rows ∧ isFree rows h = true := mem_frees.mp (by rw [e]; exact List.mem_cons_self ..)
/-- more turns change nothing -/
theorem merge_more {cs : List α} : ∀ (k j : Nat) (rows : List (List α)), Within cs rows → cnt cs rows < k → cnt cs rows < j → merge k rows = merge j rows
  | 0, _, _, _, h, _ => absurd h (Nat.not_lt_zero _)
  | _, 0, _, _, _, h => absurd h (Nat.not_lt_zero _)
  | k + 1, j + 1, rows, hw, h1, h2 => by
    unfold merge
    split
    · rfl
    · cases e : frees rows with
      | nil => rfl
      | cons h t =>
        have hl := cnt_drop hw (frees_head e).1
        simp only
        rw [merge_more k j (drop h rows) (within_drop hw h) (by omega) (by omega)]
theorem cnt_le (cs : List α) (rows : List (List α)) : cnt cs rows ≤ cs.length := List.length_filter_le _ _
/-- what the merge gives: no item twice, just the items of the rows, each one behind those ahead of it in a row -/
theorem merge_nodup : ∀ (k : Nat) (rows : List (List α)) (l : List α), merge k rows = some l → l.Nodup ∧ ∀ x, x ∈ l ↔ ∃ r ∈ rows, x ∈ r
  | 0, _, _, h => by cases h
  | k + 1, rows, l, h => by
    unfold merge at h
    split at h
    · rename_i hn
      cases h
      refine ⟨List.nodup_nil, fun x => ⟨(fun q => by cases q), ?_⟩⟩
      rintro ⟨r, hr, hx⟩
      have hf := heads_nil.mp hn
      have : r ∈ full rows := List.mem_filter.mpr ⟨hr, by cases r with | nil => cases hx | cons a t => rfl⟩
      rw [hf] at this
      cases this
    · cases e : frees rows with
      | nil =>
        rw [e] at h
        cases h
      | cons a t =>
        rw [e] at h
        simp only at h
        cases q : merge k (drop a rows) with
        | none =>
          rw [q] at h
          cases h
        | some l' =>
          rw [q] at h
          have el : a :: l' = l := Option.some.inj h
          subst el
          obtain ⟨n1, n2⟩ := merge_nodup k _ _ q
          obtain ⟨hh, _⟩ := frees_head e
          obtain ⟨t', ht'⟩ := mem_heads.mp hh
          refine ⟨List.nodup_cons.mpr ⟨fun hm => absurd rfl (mem_drop.mp ((n2 a).mp hm)).1, n1⟩, fun x => ?_⟩
          rw [List.mem_cons, n2 x, mem_drop]
          constructor
          · rintro (rfl | ⟨_, hx⟩)
            · exact ⟨_, ht', List.mem_cons_self ..⟩
            · exact hx
          · intro hx
            by_cases hxa : x = a
            · exact .inl hxa
            · exact .inr ⟨hxa, hx⟩
/-! ### names in the place of numbers -/
section
variable {β : Type} [DecidableEq β] {f : α → β}
def mapR (f : α → β) (rows : List (List α)) : List (List β) := rows.map (List.map f)
theorem heads_map (rows : List (List α)) : heads (mapR f rows) = (heads rows).map f := by
  unfold heads mapR
  induction rows with
  | nil => rfl
  | cons r rows ih =>
    cases r with
    | nil =>
      rw [List.map_cons, List.filterMap_cons_none (by rfl), List.filterMap_cons_none (by rfl)]
      exact ih
    | cons a t =>
      rw [List.map_cons, List.filterMap_cons_some (b := f a) (by rfl), List.filterMap_cons_some (b := a) (by rfl), List.map_cons, ih]
theorem mem_inj {cs : List α} (hi : ∀ x ∈ cs, ∀ y ∈ cs, f x = f y → x = y) {x : α} (hx : x ∈ cs) {r : List α} (hr : ∀ y ∈ r, y ∈ cs) : f x ∈ r.map f ↔ x ∈ r := by
  constructor
  · intro h
    obtain ⟨y, hy, e⟩ := List.mem_map.mp h
    rw [hi x hx y (hr y hy) e.symm]
    exact hy
  · exact fun h => List.mem_map.mpr ⟨x, h, rfl⟩
theorem isFree_map {cs : List α} (hi : ∀ x ∈ cs, ∀ y ∈ cs, f x = f y → x = y) {rows : List (List α)} (hw : Within cs rows) {h : α} (hh : h ∈ cs) : isFree (mapR f rows) (f h) = isFree rows h := by
  unfold isFree mapR
  rw [List.all_map]
  have : ∀ r ∈ rows, ((fun r : List β => decide (f h ∉ r.tail)) ∘ List.map f) r = decide (h ∉ r.tail) := by
    intro r hr
    show decide (f h ∉ (r.map f).tail) = _
    rw [← List.map_tail]
    have := mem_inj hi hh (r := r.tail) fun y hy => hw r hr y (List.mem_of_mem_tail hy)
    exact decide_eq_decide.mpr (not_congr this)
  rw [Bool.eq_iff_iff, List.all_eq_true, List.all_eq_true]
  constructor
  · intro h r hr
    rw [← this r hr]
    exact h r hr
  · intro h r hr
    rw [this r hr]
    exact h r hr
theorem frees_map {cs : List α} (hi : ∀ x ∈ cs, ∀ y ∈ cs, f x = f y → x = y) {rows : List (List α)} (hw : Within cs rows) : frees (mapR f rows) = (frees rows).map f := by
  unfold frees
  rw [heads_map, List.filter_map]
  congr 1
  apply List.filter_congr
  intro x hx
  obtain ⟨t, ht⟩ := mem_heads.mp hx
  exact isFree_map hi hw (hw _ ht x (List.mem_cons_self ..))
theorem drop_map {cs : List α} (hi : ∀ x ∈ cs, ∀ y ∈ cs, f x = f y → x = y) {rows : List (List α)} (hw : Within cs rows) {h : α} (hh : h ∈ cs) : drop (f h) (mapR f rows) = mapR f (drop h rows) := by
  unfold drop mapR
  rw [List.map_map, List.map_map]
  apply List.map_congr_left
  intro r hr
  show (r.map f).filter _ = (r.filter _).map f
  rw [List.filter_map]
  congr 1
  apply List.filter_congr
  intro x hx
  show decide (f x ≠ f h) = decide (x ≠ h)
  exact decide_eq_decide.mpr (not_congr ⟨fun e => hi x (hw r hr x hx) h hh e, fun e => by rw [e]⟩)
theorem merge_map {cs : List α} (hi : ∀ x ∈ cs, ∀ y ∈ cs, f x = f y → x = y) : ∀ (k : Nat) {rows : List (List α)}, Within cs rows → merge k (mapR f rows) = (merge k rows).map (List.map f)
  | 0, _, _ => rfl
  | k + 1, rows, hw => by
    unfold merge
    rw [heads_map, frees_map hi hw]
    by_cases e : heads rows = []
    · rw [if_pos e, if_pos (by rw [e]; rfl)]
      rfl
    · rw [if_neg e, if_neg (by simpa using e)]
      cases q : frees rows with
      | nil => rfl
      | cons a t =>
        obtain ⟨hh, _⟩ := frees_head q
        obtain ⟨t', ht'⟩ := mem_heads.mp hh
        have ha : a ∈ cs := hw _ ht' a (List.mem_cons_self ..)
        show (merge k (drop (f a) (mapR f rows))).map (f a :: ·) = ((merge k (drop a rows)).map (a :: ·)).map (List.map f)
        rw [drop_map hi hw ha, merge_map hi k (within_drop hw a)]
        cases merge k (drop a rows) <;> rfl
end
/-! ### one row above: no ring -/
theorem merge_one : ∀ (l : List α) (k : Nat), l.Nodup → l.length < k → merge k [l] = some l
  | [], 0, _, h => absurd h (Nat.not_lt_zero _)
  | [], k + 1, _, _ => by
    unfold merge
    rw [if_pos (show heads [[]] = ([] : List α) from rfl)]
  | a :: l, 0, _, h => absurd h (Nat.not_lt_zero _)
  | a :: l, k + 1, nd, h => by
    obtain ⟨n1, n2⟩ := List.nodup_cons.mp nd
    unfold merge
    have e1 : heads [a :: l] = [a] := rfl
    have e2 : isFree [a :: l] a = true := by
      show (decide (a ∉ l) && true) = true
      rw [decide_eq_true n1]
      rfl
    have e3 : frees [a :: l] = [a] := by
      unfold frees
      rw [e1, List.filter_cons, if_pos e2]
      rfl
    rw [e1, if_neg (by simp), e3]
    have e4 : drop a [a :: l] = [l] := by
      show [(a :: l).filter _] = [l]
      rw [List.filter_cons, if_neg (by simp)]
      congr 1
      exact List.filter_eq_self.mpr fun x hx => decide_eq_true fun e => n1 (by rw [← e]; exact hx)
    show (merge k (drop a [a :: l])).map (a :: ·) = some (a :: l)
    rw [e4, merge_one l k n2 (by rw [List.length_cons] at h; omega)]
    rfl
/-- a line and the one kind that it is of -/
theorem merge_top (a : α) (l : List α) (k : Nat) (nd : (a :: l).Nodup) (h : (a :: l).length < k) : merge k [a :: l, [a]] = some (a :: l) := by
  obtain ⟨n1, n2⟩ := List.nodup_cons.mp nd
  cases k with
  | zero => exact absurd h (Nat.not_lt_zero _)
  | succ k =>
    unfold merge
    have e1 : heads [a :: l, [a]] = [a, a] := rfl
    have e2 : isFree [a :: l, [a]] a = true := by
      show (decide (a ∉ l) && (decide (a ∉ ([] : List α)) && true)) = true
      rw [decide_eq_true n1, decide_eq_true (by simp)]
      rfl
    have e3 : frees [a :: l, [a]] = [a, a] := by
      unfold frees
      rw [e1, List.filter_cons, if_pos e2, List.filter_cons, if_pos e2]
      rfl
    rw [e1, if_neg (by simp), e3]
    have e4 : drop a [a :: l, [a]] = [l, []] := by
      show [(a :: l).filter _, [a].filter _] = [l, []]
      have q1 : (a :: l).filter (fun x => decide (x ≠ a)) = l := by
        rw [List.filter_cons, if_neg (by simp)]
        exact List.filter_eq_self.mpr fun x hx => decide_eq_true fun e => n1 (by rw [← e]; exact hx)
      have q2 : [a].filter (fun x => decide (x ≠ a)) = [] := by
        rw [List.filter_cons, if_neg (by simp)]
        rfl
      rw [q1, q2]
    show (merge k (drop a [a :: l, [a]])).map (a :: ·) = some (a :: l)
    have e5 : ∀ (k : Nat) (l : List α), merge k [l, []] = merge k [l] := by
      intro k
      induction k with
      | zero => intro l; rfl
      | succ k ih =>
        intro l
        unfold merge
        have f1 : full [l, []] = full [l] := by
          unfold full
          cases l <;> rfl
        have h1 : heads [l, []] = heads [l] := by rw [← heads_full [l, []], f1, heads_full]
        have h2 : frees [l, []] = frees [l] := by rw [← frees_full [l, []], f1, frees_full]
        rw [h1, h2]
        have h3 : ∀ x, merge k (drop x [l, []]) = merge k (drop x [l]) := fun x => ih (l.filter _)
        simp only [h3]
    rw [e4, e5, merge_one l k n2 (by rw [List.length_cons] at h; omega)]
    rfl
/-! ### rings -/
/-- x stands before y in some row -/
def Before (rows : List (List α)) (x y : α) : Prop := ∃ r ∈ rows, x ∈ r ∧ y ∈ r ∧ r.idxOf x < r.idxOf y
/-- each one stands before the next one, the last one before the first one -/
structure Ring (rows : List (List α)) (ring : List α) : Prop where
  two : 2 ≤ ring.length
  nxt : ∀ (i : Nat) (x y : α), ring[i]? = some x → ring[i + 1]? = some y → Before rows x y
  lst : ∀ (x y : α), ring[ring.length - 1]? = some x → ring[0]? = some y → Before rows x y
theorem idx_ne {a x : α} (h : ¬ a = x) (l : List α) : (a :: l).idxOf x = l.idxOf x + 1 := by
  rw [List.idxOf_cons]
  have e : (a == x) = false := by simpa using h
  rw [e]
  rfl
theorem before_drop {rows : List (List α)} (nd : Nd rows) {h x y : α} (b : Before (drop h rows) x y) : Before rows x y := by
  obtain ⟨r, hr, hx, hy, hlt⟩ := b
  obtain ⟨r', hr', rfl⟩ := List.mem_map.mp hr
  have hx' := (List.mem_filter.mp hx).1
  have hy' := (List.mem_filter.mp hy).1
  have px := (List.mem_filter.mp hx).2
  have py := (List.mem_filter.mp hy).2
  refine ⟨r', hr', hx', hy', ?_⟩
  have hne : x ≠ y := fun e => by rw [e] at hlt; exact Nat.lt_irrefl _ hlt
  clear hr hr' nd
  induction r' with
  | nil => cases hx'
  | cons a t ih =>
    by_cases hax : a = x
    · subst hax
      rw [List.idxOf_cons_self, idx_ne hne]
      omega
    · by_cases hay : a = y
      · exfalso
        subst hay
        rw [List.filter_cons, if_pos py, List.idxOf_cons_self] at hlt
        exact Nat.not_lt_zero _ hlt
      · have hx2 : x ∈ t := by
          rcases List.mem_cons.mp hx' with e | e
          · exact absurd e.symm hax
          · exact e
        have hy2 : y ∈ t := by
          rcases List.mem_cons.mp hy' with e | e
          · exact absurd e.symm hay
          · exact e
        rw [idx_ne hax, idx_ne hay]
        have : t.idxOf x < t.idxOf y := by
          refine ih (List.mem_filter.mpr ⟨hx2, px⟩) (List.mem_filter.mpr ⟨hy2, py⟩) ?_ hx2 hy2
          rw [List.filter_cons] at hlt
          split at hlt
          · rw [idx_ne hax, idx_ne hay] at hlt
            omega
          · exact hlt
        omega
theorem before_full {rows : List (List α)} {x y : α} (b : Before (full rows) x y) : Before rows x y := by
  obtain ⟨r, hr, h⟩ := b
  exact ⟨r, (List.mem_filter.mp hr).1, h⟩
theorem Ring.imp {rows rows' : List (List α)} {ring : List α} (R : Ring rows ring) (h : ∀ x y, Before rows x y → Before rows' x y) : Ring rows' ring :=
  ⟨R.two, fun i x y a b => h _ _ (R.nxt i x y a b), fun x y a b => h _ _ (R.lst x y a b)⟩
/-- the head of a row stands before what stands behind it -/
theorem before_head {rows : List (List α)} {h x : α} {t : List α} (hr : (h :: t) ∈ rows) (hx : x ∈ h :: t) (hne : x ≠ h) : Before rows h x := by
  refine ⟨_, hr, List.mem_cons_self .., hx, ?_⟩
  rw [List.idxOf_cons_self, idx_ne (fun e => hne e.symm)]
  omega
/-- a path along «the head of the first row in which it stands behind the head»: from where it comes back, it is a ring the other way round -/
theorem ring_of {rows : List (List α)} {path : List α} {i : Nat} {h : α} (chain : ∀ (j : Nat) (x y : α), path[j]? = some x → path[j + 1]? = some y → Before rows y x) (hl : ∀ x, path[path.length - 1]? = some x → Before rows h x)
    (hi : path[i]? = some h) (hne : ∀ x, path[path.length - 1]? = some x → x ≠ h) : Ring rows (path.drop i).reverse := by
  have hlt : i < path.length := (List.getElem?_eq_some_iff.mp hi).1
  have hn : i ≠ path.length - 1 := fun e => by
    rw [e] at hi
    exact hne h hi rfl
  have hlen : (path.drop i).reverse.length = path.length - i := by simp
  have at_ : ∀ j, j < path.length - i → (path.drop i).reverse[j]? = path[path.length - 1 - j]? := fun j hj => by
    rw [List.getElem?_reverse (by simpa using hj), List.getElem?_drop, List.length_drop]
    congr 1
    omega
  refine ⟨by rw [hlen]; omega, fun j x y hx hy => ?_, fun x y hx hy => ?_⟩
  · have hj : j + 1 < path.length - i := by
      have := (List.getElem?_eq_some_iff.mp hy).1
      rw [hlen] at this
      exact this
    rw [at_ j (by omega)] at hx
    rw [at_ (j + 1) hj] at hy
    refine chain (path.length - 1 - (j + 1)) y x hy ?_
    rw [← hx]
    congr 1
    omega
  · rw [hlen, at_ (path.length - i - 1) (by omega)] at hx
    rw [at_ 0 (by omega)] at hy
    have e1 : path.length - 1 - (path.length - i - 1) = i := by omega
    rw [e1, hi] at hx
    cases hx
    exact hl y (by rw [← hy]; congr 1)
/-- where nothing is free, every head stands behind the head of another row -/
theorem stuck {rows : List (List α)} (nd : Nd rows) (h0 : frees rows = []) {h : α} (hh : h ∈ heads rows) : ∃ a t, (a :: t) ∈ rows ∧ h ∈ a :: t ∧ h ≠ a := by
  have hf : isFree rows h = false := by
    cases q : isFree rows h with
    | false => rfl
    | true =>
      have : h ∈ frees rows := mem_frees.mpr ⟨hh, q⟩
      rw [h0] at this
      cases this
  unfold isFree at hf
  rw [List.all_eq_false] at hf
  obtain ⟨r, hr, hd⟩ := hf
  have hm : h ∈ r.tail := by simpa using hd
  cases r with
  | nil => cases hm
  | cons a t =>
    refine ⟨a, t, hr, List.mem_cons_of_mem _ hm, fun e => ?_⟩
    rw [e] at hm
    exact (List.nodup_cons.mp (nd _ hr)).1 hm
end Mg
end

section
set_option Elab.async false
set_option linter.all false
set_option maxRecDepth 100000
set_option maxHeartbeats 4000000
namespace K17
open PySem PySem.Spec PyProof.Rows L2 He
/-! ### the text by places -/
def top (i : Nat) : Stmt := PySem.Challenge.pw_recordcraft_k17_whole_cooperation.main.body.getD i (.Pass ⟨0, 0, 0, 0⟩)
def fileOf : Str := PySem.Challenge.pw_recordcraft_k17_whole_cooperation.main.file
abbrev s_NoMethod_init : Stmt := inClass (top 13) 0
theorem sc_NoMethod_init : FnScope [("self" : Str), ("name" : Str)] [("self" : Str), ("name" : Str)] (defScope s_NoMethod_init) := ⟨rfl, rfl, rfl, by decide +kernel, rfl, by decide +kernel, by decide +kernel⟩
abbrev s_Hook_init : Stmt := inClass (top 67) 0
theorem sc_Hook_init : FnScope [("self" : Str), ("function" : Str)] [("self" : Str), ("function" : Str)] (defScope s_Hook_init) := ⟨rfl, rfl, rfl, by decide +kernel, rfl, by decide +kernel, by decide +kernel⟩
abbrev s_Record_init : Stmt := inClass (top 57) 1
theorem sc_Record_init : FnScope [("self" : Str), ("kind" : Str), ("values" : Str)] [("self" : Str), ("kind" : Str), ("values" : Str)] (defScope s_Record_init) := ⟨rfl, rfl, rfl, by decide +kernel, rfl, by decide +kernel, by decide +kernel⟩
abbrev s_Record_seal : Stmt := inClass (top 57) 3
theorem sc_Record_seal : FnScope [("self" : Str)] [("self" : Str)] (defScope s_Record_seal) := ⟨rfl, rfl, rfl, by decide +kernel, rfl, by decide +kernel, by decide +kernel⟩
abbrev s_Record_call : Stmt := inClass (top 57) 15
theorem sc_Record_call : FnScope [("self" : Str), ("name" : Str), ("values" : Str)] [("self" : Str), ("name" : Str), ("values" : Str)] (defScope s_Record_call) := ⟨rfl, rfl, rfl, by decide +kernel, rfl, by decide +kernel, by decide +kernel⟩
abbrev s_Record_call_above : Stmt := inClass (top 57) 16
theorem sc_Record_call_above : FnScope [("self" : Str), ("kind" : Str), ("name" : Str), ("values" : Str)] [("self" : Str), ("kind" : Str), ("name" : Str), ("values" : Str)] (defScope s_Record_call_above) := ⟨rfl, rfl, rfl, by decide +kernel, rfl, by decide +kernel, by decide +kernel⟩
abbrev s_Record_hook_above : Stmt := inClass (top 57) 17
theorem sc_Record_hook_above : FnScope [("self" : Str), ("kind" : Str), ("values" : Str), ("hook" : Str), ("function" : Str)] [("self" : Str), ("kind" : Str), ("values" : Str)] (defScope s_Record_hook_above) := ⟨rfl, rfl, rfl, by decide +kernel, rfl, by decide +kernel, by decide +kernel⟩
abbrev s_Record__place_behind : Stmt := inClass (top 57) 18
theorem sc_Record__place_behind : FnScope [("self" : Str), ("kind" : Str)] [("self" : Str), ("kind" : Str)] (defScope s_Record__place_behind) := ⟨rfl, rfl, rfl, by decide +kernel, rfl, by decide +kernel, by decide +kernel⟩
abbrev s_Record__call_from : Stmt := inClass (top 57) 19
theorem sc_Record__call_from : FnScope [("self" : Str), ("place" : Str), ("name" : Str), ("values" : Str), ("method" : Str), ("function" : Str)] [("self" : Str), ("place" : Str), ("name" : Str), ("values" : Str)] (defScope s_Record__call_from) := ⟨rfl, rfl, rfl, by decide +kernel, rfl, by decide +kernel, by decide +kernel⟩
abbrev s_line_above : Stmt := top 19
theorem sc_line_above : FnScope [("above" : Str), ("rows" : Str), ("line" : Str), ("head" : Str)] [("above" : Str)] (defScope s_line_above) := ⟨rfl, rfl, rfl, by decide +kernel, rfl, by decide +kernel, by decide +kernel⟩
abbrev s__rows_of : Stmt := top 20
theorem sc__rows_of : FnScope [("above" : Str), ("kind" : Str)] [("above" : Str)] (defScope s__rows_of) := ⟨rfl, rfl, rfl, by decide +kernel, rfl, by decide +kernel, by decide +kernel⟩
abbrev s__free_head : Stmt := top 21
theorem sc__free_head : FnScope [("rows" : Str), ("row" : Str)] [("rows" : Str)] (defScope s__free_head) := ⟨rfl, rfl, rfl, by decide +kernel, rfl, by decide +kernel, by decide +kernel⟩
abbrev s__head_of_row_with : Stmt := top 22
theorem sc__head_of_row_with : FnScope [("kind" : Str), ("rows" : Str), ("row" : Str)] [("kind" : Str), ("rows" : Str)] (defScope s__head_of_row_with) := ⟨rfl, rfl, rfl, by decide +kernel, rfl, by decide +kernel, by decide +kernel⟩
abbrev s__without : Stmt := top 23
theorem sc__without : FnScope [("head" : Str), ("rows" : Str), ("rest" : Str), ("row" : Str), ("kind" : Str)] [("head" : Str), ("rows" : Str)] (defScope s__without) := ⟨rfl, rfl, rfl, by decide +kernel, rfl, by decide +kernel, by decide +kernel⟩
abbrev s_is_name : Stmt := top 30
theorem sc_is_name : FnScope [("value" : Str), ("sign" : Str)] [("value" : Str)] (defScope s_is_name) := ⟨rfl, rfl, rfl, by decide +kernel, rfl, by decide +kernel, by decide +kernel⟩
abbrev s_check_members : Stmt := top 72
theorem sc_check_members : FnScope [("members" : Str), ("names" : Str), ("place" : Str), ("member" : Str), ("name" : Str)] [("members" : Str)] (defScope s_check_members) := ⟨rfl, rfl, rfl, by decide +kernel, rfl, by decide +kernel, by decide +kernel⟩
abbrev s__name_of : Stmt := top 73
theorem sc__name_of : FnScope [("member" : Str), ("place" : Str)] [("member" : Str), ("place" : Str)] (defScope s__name_of) := ⟨rfl, rfl, rfl, by decide +kernel, rfl, by decide +kernel, by decide +kernel⟩
abbrev s_check_options : Stmt := top 74
theorem sc_check_options : FnScope [("options" : Str), ("option" : Str)] [("options" : Str)] (defScope s_check_options) := ⟨rfl, rfl, rfl, by decide +kernel, rfl, by decide +kernel, by decide +kernel⟩
abbrev s_check_above : Stmt := top 75
theorem sc_check_above : FnScope [("above" : Str), ("seen" : Str), ("place" : Str), ("kind" : Str)] [("above" : Str)] (defScope s_check_above) := ⟨rfl, rfl, rfl, by decide +kernel, rfl, by decide +kernel, by decide +kernel⟩
abbrev s_check_mixture : Stmt := top 76
theorem sc_check_mixture : FnScope [("line" : Str), ("sorts" : Str), ("kind" : Str), ("member" : Str)] [("line" : Str)] (defScope s_check_mixture) := ⟨rfl, rfl, rfl, by decide +kernel, rfl, by decide +kernel, by decide +kernel⟩
abbrev s_check_frozen : Stmt := top 77
theorem sc_check_frozen : FnScope [("line" : Str), ("kind" : Str)] [("line" : Str)] (defScope s_check_frozen) := ⟨rfl, rfl, rfl, by decide +kernel, rfl, by decide +kernel, by decide +kernel⟩
abbrev s_check_defaults : Stmt := top 79
theorem sc_check_defaults : FnScope [("members" : Str), ("is_behind" : Str), ("member" : Str)] [("members" : Str)] (defScope s_check_defaults) := ⟨rfl, rfl, rfl, by decide +kernel, rfl, by decide +kernel, by decide +kernel⟩
abbrev s_whole_members : Stmt := top 80
theorem sc_whole_members : FnScope [("line" : Str), ("whole" : Str), ("kind" : Str), ("member" : Str)] [("line" : Str)] (defScope s_whole_members) := ⟨rfl, rfl, rfl, by decide +kernel, rfl, by decide +kernel, by decide +kernel⟩
abbrev s_is_only_named : Stmt := top 81
theorem sc_is_only_named : FnScope [("member" : Str), ("kind" : Str)] [("member" : Str), ("kind" : Str)] (defScope s_is_only_named) := ⟨rfl, rfl, rfl, by decide +kernel, rfl, by decide +kernel, by decide +kernel⟩
abbrev s__check_option : Stmt := top 68
theorem sc__check_option : FnScope [("known" : Str), ("option" : Str), ("value" : Str)] [("known" : Str), ("option" : Str), ("value" : Str)] (defScope s__check_option) := ⟨rfl, rfl, rfl, by decide +kernel, rfl, by decide +kernel, by decide +kernel⟩
abbrev s__is_allowed : Stmt := top 69
theorem sc__is_allowed : FnScope [("option" : Str), ("value" : Str)] [("option" : Str), ("value" : Str)] (defScope s__is_allowed) := ⟨rfl, rfl, rfl, by decide +kernel, rfl, by decide +kernel, by decide +kernel⟩
abbrev s_is_keyable : Stmt := top 58
theorem sc_is_keyable : FnScope [("value" : Str)] [("value" : Str)] (defScope s_is_keyable) := ⟨rfl, rfl, rfl, by decide +kernel, rfl, by decide +kernel, by decide +kernel⟩
abbrev s_check_depth : Stmt := top 39
theorem sc_check_depth : FnScope [("value" : Str), ("parts" : Str), ("part" : Str)] [("value" : Str)] (defScope s_check_depth) := ⟨rfl, rfl, rfl, by decide +kernel, rfl, by decide +kernel, by decide +kernel⟩
abbrev s__parts_of : Stmt := top 42
theorem sc__parts_of : FnScope [("value" : Str)] [("value" : Str)] (defScope s__parts_of) := ⟨rfl, rfl, rfl, by decide +kernel, rfl, by decide +kernel, by decide +kernel⟩
abbrev s_can_be_key : Stmt := top 44
theorem sc_can_be_key : FnScope [("value" : Str), ("sort" : Str)] [("value" : Str)] (defScope s_can_be_key) := ⟨rfl, rfl, rfl, by decide +kernel, rfl, by decide +kernel, by decide +kernel⟩
abbrev s__can_all_be_keys : Stmt := top 45
theorem sc__can_all_be_keys : FnScope [("values" : Str), ("can_all" : Str), ("value" : Str)] [("values" : Str)] (defScope s__can_all_be_keys) := ⟨rfl, rfl, rfl, by decide +kernel, rfl, by decide +kernel, by decide +kernel⟩
abbrev s_sort_of : Stmt := top 37
theorem sc_sort_of : FnScope [("value" : Str)] [("value" : Str)] (defScope s_sort_of) := ⟨rfl, rfl, rfl, by decide +kernel, rfl, by decide +kernel, by decide +kernel⟩
abbrev s_Member_init : Stmt := inClass (top 63) 0
theorem sc_Member_init : FnScope [("self" : Str), ("name" : Str)] [("self" : Str), ("name" : Str)] (defScope s_Member_init) := ⟨rfl, rfl, rfl, by decide +kernel, rfl, by decide +kernel, by decide +kernel⟩
abbrev s_Field_of : Stmt := inClass (top 64) 2
theorem sc_Field_of : FnScope [("cls" : Str), ("name" : Str), ("options" : Str), ("field" : Str)] [("cls" : Str), ("name" : Str), ("options" : Str)] (defScope s_Field_of) := ⟨rfl, rfl, rfl, by decide +kernel, rfl, by decide +kernel, by decide +kernel⟩
abbrev s_Field__set_options : Stmt := inClass (top 64) 3
theorem sc_Field__set_options : FnScope [("self" : Str), ("options" : Str), ("option" : Str)] [("self" : Str), ("options" : Str)] (defScope s_Field__set_options) := ⟨rfl, rfl, rfl, by decide +kernel, rfl, by decide +kernel, by decide +kernel⟩
abbrev s_Field_is_key : Stmt := inClass (top 64) 4
theorem sc_Field_is_key : FnScope [("self" : Str)] [("self" : Str)] (defScope s_Field_is_key) := ⟨rfl, rfl, rfl, by decide +kernel, rfl, by decide +kernel, by decide +kernel⟩
abbrev s_Field_is_parameter : Stmt := inClass (top 64) 5
theorem sc_Field_is_parameter : FnScope [("self" : Str)] [("self" : Str)] (defScope s_Field_is_parameter) := ⟨rfl, rfl, rfl, by decide +kernel, rfl, by decide +kernel, by decide +kernel⟩
abbrev s_InitOnly_of : Stmt := inClass (top 65) 2
theorem sc_InitOnly_of : FnScope [("cls" : Str), ("name" : Str), ("options" : Str), ("member" : Str)] [("cls" : Str), ("name" : Str), ("options" : Str)] (defScope s_InitOnly_of) := ⟨rfl, rfl, rfl, by decide +kernel, rfl, by decide +kernel, by decide +kernel⟩
abbrev s_InitOnly__set_options : Stmt := inClass (top 65) 3
theorem sc_InitOnly__set_options : FnScope [("self" : Str), ("options" : Str), ("option" : Str)] [("self" : Str), ("options" : Str)] (defScope s_InitOnly__set_options) := ⟨rfl, rfl, rfl, by decide +kernel, rfl, by decide +kernel, by decide +kernel⟩
abbrev s_InitOnly_is_parameter : Stmt := inClass (top 65) 4
theorem sc_InitOnly_is_parameter : FnScope [("self" : Str)] [("self" : Str)] (defScope s_InitOnly_is_parameter) := ⟨rfl, rfl, rfl, by decide +kernel, rfl, by decide +kernel, by decide +kernel⟩
abbrev s_Kind_init : Stmt := inClass (top 83) 2
theorem sc_Kind_init : FnScope [("self" : Str), ("name" : Str), ("above" : Str), ("members" : Str), ("options" : Str)] [("self" : Str), ("name" : Str), ("above" : Str), ("members" : Str), ("options" : Str)] (defScope s_Kind_init) := ⟨rfl, rfl, rfl, by decide +kernel, rfl, by decide +kernel, by decide +kernel⟩
abbrev s_Kind_of : Stmt := inClass (top 83) 3
theorem sc_Kind_of : FnScope [("cls" : Str), ("name" : Str), ("members" : Str), ("above" : Str), ("options" : Str), ("kind" : Str)] [("cls" : Str), ("name" : Str), ("members" : Str), ("above" : Str), ("options" : Str)] (defScope s_Kind_of) := ⟨rfl, rfl, rfl, by decide +kernel, rfl, by decide +kernel, by decide +kernel⟩
abbrev s_Kind__declare : Stmt := inClass (top 83) 4
theorem sc_Kind__declare : FnScope [("self" : Str), ("members" : Str), ("above" : Str), ("options" : Str), ("line" : Str)] [("self" : Str), ("members" : Str), ("above" : Str), ("options" : Str)] (defScope s_Kind__declare) := ⟨rfl, rfl, rfl, by decide +kernel, rfl, by decide +kernel, by decide +kernel⟩
abbrev s_Kind__set_own : Stmt := inClass (top 83) 5
theorem sc_Kind__set_own : FnScope [("self" : Str), ("members" : Str), ("hooks" : Str), ("member" : Str)] [("self" : Str), ("members" : Str)] (defScope s_Kind__set_own) := ⟨rfl, rfl, rfl, by decide +kernel, rfl, by decide +kernel, by decide +kernel⟩
abbrev s_Kind__set_options : Stmt := inClass (top 83) 6
theorem sc_Kind__set_options : FnScope [("self" : Str), ("options" : Str)] [("self" : Str), ("options" : Str)] (defScope s_Kind__set_options) := ⟨rfl, rfl, rfl, by decide +kernel, rfl, by decide +kernel, by decide +kernel⟩
abbrev s_Kind__set_whole : Stmt := inClass (top 83) 7
theorem sc_Kind__set_whole : FnScope [("self" : Str), ("whole" : Str), ("data" : Str), ("member" : Str), ("kind" : Str), ("_" : Str), ("named" : Str), ("field" : Str)] [("self" : Str), ("whole" : Str)] (defScope s_Kind__set_whole) := ⟨rfl, rfl, rfl, by decide +kernel, rfl, by decide +kernel, by decide +kernel⟩
abbrev s_Kind_bind : Stmt := inClass (top 83) 14
theorem sc_Kind_bind : FnScope [("self" : Str), ("values" : Str), ("named" : Str), ("given" : Str), ("name" : Str), ("member" : Str), ("value" : Str)] [("self" : Str), ("values" : Str), ("named" : Str)] (defScope s_Kind_bind) := ⟨rfl, rfl, rfl, by decide +kernel, rfl, by decide +kernel, by decide +kernel⟩
abbrev s_Kind__check_missing : Stmt := inClass (top 83) 15
theorem sc_Kind__check_missing : FnScope [("self" : Str), ("given" : Str), ("needed" : Str), ("missing" : Str), ("member" : Str)] [("self" : Str), ("given" : Str)] (defScope s_Kind__check_missing) := ⟨rfl, rfl, rfl, by decide +kernel, rfl, by decide +kernel, by decide +kernel⟩
abbrev s_Kind_build : Stmt := inClass (top 83) 17
theorem sc_Kind_build : FnScope [("self" : Str), ("values" : Str), ("named" : Str), ("given" : Str), ("record" : Str), ("hook" : Str), ("extras" : Str), ("function" : Str), ("member" : Str)] [("self" : Str), ("values" : Str), ("named" : Str)] (defScope s_Kind_build) := ⟨rfl, rfl, rfl, by decide +kernel, rfl, by decide +kernel, by decide +kernel⟩
abbrev s_Kind_make : Stmt := inClass (top 83) 16
theorem sc_Kind_make : FnScope [("self" : Str), ("values" : Str), ("named" : Str)] [("self" : Str), ("values" : Str), ("named" : Str)] (defScope s_Kind_make) := ⟨rfl, rfl, rfl, by decide +kernel, rfl, by decide +kernel, by decide +kernel⟩
abbrev s_Kind_find_hook : Stmt := inClass (top 83) 11
theorem sc_Kind_find_hook : FnScope [("self" : Str), ("place" : Str), ("kind" : Str)] [("self" : Str), ("place" : Str)] (defScope s_Kind_find_hook) := ⟨rfl, rfl, rfl, by decide +kernel, rfl, by decide +kernel, by decide +kernel⟩
abbrev s_Kind_find_method : Stmt := inClass (top 83) 10
theorem sc_Kind_find_method : FnScope [("self" : Str), ("place" : Str), ("name" : Str), ("kind" : Str)] [("self" : Str), ("place" : Str), ("name" : Str)] (defScope s_Kind_find_method) := ⟨rfl, rfl, rfl, by decide +kernel, rfl, by decide +kernel, by decide +kernel⟩
abbrev s_Kind_is_below : Stmt := inClass (top 83) 8
theorem sc_Kind_is_below : FnScope [("self" : Str), ("other" : Str)] [("self" : Str), ("other" : Str)] (defScope s_Kind_is_below) := ⟨rfl, rfl, rfl, by decide +kernel, rfl, by decide +kernel, by decide +kernel⟩
abbrev s_Kind__first_values : Stmt := inClass (top 83) 18
theorem sc_Kind__first_values : FnScope [("self" : Str), ("given" : Str), ("values" : Str), ("field" : Str), ("factory" : Str)] [("self" : Str), ("given" : Str)] (defScope s_Kind__first_values) := ⟨rfl, rfl, rfl, by decide +kernel, rfl, by decide +kernel, by decide +kernel⟩
abbrev s__law_mixed : Stmt := top 85
theorem sc__law_mixed : FnScope [("cell" : Str), ("n" : Str), ("turned" : Str)] [("cell" : Str), ("n" : Str)] (defScope s__law_mixed) := ⟨rfl, rfl, rfl, by decide +kernel, rfl, by decide +kernel, by decide +kernel⟩
abbrev s__law_folded : Stmt := top 86
theorem sc__law_folded : FnScope [("script" : Str), ("n" : Str), ("found" : Str), ("cell" : Str)] [("script" : Str)] (defScope s__law_folded) := ⟨rfl, rfl, rfl, by decide +kernel, rfl, by decide +kernel, by decide +kernel⟩
abbrev s__law_draw : Stmt := top 87
theorem sc__law_draw : FnScope [("m" : Str), ("top" : Str), ("n" : Str), ("at" : Str), ("cell" : Str)] [("m" : Str), ("top" : Str)] (defScope s__law_draw) := ⟨rfl, rfl, rfl, by decide +kernel, rfl, by decide +kernel, by decide +kernel⟩
abbrev s__law_begun : Stmt := top 88
theorem sc__law_begun : FnScope [("script" : Str), ("m" : Str), ("cell" : Str)] [("script" : Str)] (defScope s__law_begun) := ⟨rfl, rfl, rfl, by decide +kernel, rfl, by decide +kernel, by decide +kernel⟩
abbrev s__law_mixed_up : Stmt := top 89
theorem sc__law_mixed_up : FnScope [("m" : Str), ("things" : Str), ("stock" : Str), ("found" : Str), ("n" : Str)] [("m" : Str), ("things" : Str)] (defScope s__law_mixed_up) := ⟨rfl, rfl, rfl, by decide +kernel, rfl, by decide +kernel, by decide +kernel⟩
abbrev s__law_line : Stmt := top 90
theorem sc__law_line : FnScope [("plans" : Str), ("n" : Str), ("rows" : Str), ("at" : Str), ("row" : Str), ("found" : Str), ("turn" : Str), ("heads" : Str), ("free" : Str)] [("plans" : Str), ("n" : Str)] (defScope s__law_line) := ⟨rfl, rfl, rfl, by decide +kernel, rfl, by decide +kernel, by decide +kernel⟩
abbrev s__law_gone : Stmt := top 91
theorem sc__law_gone : FnScope [("made" : Str), ("log" : Str), ("n" : Str), ("record" : Str), ("step" : Str), ("error" : Str), ("e" : Str)] [("made" : Str), ("log" : Str), ("n" : Str), ("record" : Str), ("step" : Str)] (defScope s__law_gone) := ⟨rfl, rfl, rfl, by decide +kernel, rfl, by decide +kernel, by decide +kernel⟩
abbrev s__law_parts_of : Stmt := top 92
theorem sc__law_parts_of : FnScope [("made" : Str), ("log" : Str), ("ways" : Str), ("n" : Str), ("found" : Str)] [("made" : Str), ("log" : Str), ("ways" : Str), ("n" : Str)] (defScope s__law_parts_of) := ⟨rfl, rfl, rfl, by decide +kernel, rfl, by decide +kernel, by decide +kernel⟩
abbrev s__law_hooked : Stmt := top 93
theorem sc__law_hooked : FnScope [("made" : Str), ("log" : Str), ("n" : Str), ("record" : Str)] [("made" : Str), ("log" : Str), ("n" : Str), ("record" : Str)] (defScope s__law_hooked) := ⟨rfl, rfl, rfl, by decide +kernel, rfl, by decide +kernel, by decide +kernel⟩
abbrev s__law_is_lost : Stmt := top 94
theorem sc__law_is_lost : FnScope [("record" : Str), ("error" : Str), ("e" : Str)] [("record" : Str)] (defScope s__law_is_lost) := ⟨rfl, rfl, rfl, by decide +kernel, rfl, by decide +kernel, by decide +kernel⟩
abbrev s__law_right : Stmt := top 95
theorem sc__law_right : FnScope [("plans" : Str), ("made" : Str), ("ways" : Str), ("log" : Str), ("n" : Str), ("line" : Str), ("record" : Str), ("goers" : Str), ("told" : Str), ("at" : Str), ("step" : Str)] [("plans" : Str), ("made" : Str), ("ways" : Str), ("log" : Str), ("n" : Str)] (defScope s__law_right) := ⟨rfl, rfl, rfl, by decide +kernel, rfl, by decide +kernel, by decide +kernel⟩
abbrev s_law : Stmt := top 96
theorem sc_law : FnScope [("script" : Str), ("m" : Str), ("again" : Str), ("plans" : Str), ("made" : Str), ("log" : Str), ("ways" : Str), ("n" : Str), ("tops" : Str), ("at" : Str)] [("script" : Str)] (defScope s_law) := ⟨rfl, rfl, rfl, by decide +kernel, rfl, by decide +kernel, by decide +kernel⟩
abbrev s_Field_init : Stmt := inClass (top 64) 1
theorem sc_Field_init : SuC.FnScopeS [("self" : Str), ("name" : Str), ("options" : Str)] [("self" : Str), ("name" : Str), ("options" : Str)] (defScope s_Field_init) := ⟨rfl, rfl, rfl, by decide +kernel, rfl, by decide +kernel, by decide +kernel, by decide +kernel⟩
abbrev s_InitOnly_init : Stmt := inClass (top 65) 1
theorem sc_InitOnly_init : SuC.FnScopeS [("self" : Str), ("name" : Str), ("options" : Str)] [("self" : Str), ("name" : Str), ("options" : Str)] (defScope s_InitOnly_init) := ⟨rfl, rfl, rfl, by decide +kernel, rfl, by decide +kernel, by decide +kernel, by decide +kernel⟩
abbrev s_Method_init : Stmt := inClass (top 66) 1
theorem sc_Method_init : SuC.FnScopeS [("self" : Str), ("name" : Str), ("function" : Str)] [("self" : Str), ("name" : Str), ("function" : Str)] (defScope s_Method_init) := ⟨rfl, rfl, rfl, by decide +kernel, rfl, by decide +kernel, by decide +kernel, by decide +kernel⟩
/-- the default of Kind.__init__'s above: an empty tuple -/
def kwAbove (K : PySem.W.Frag) : Addr := match K.lookup (ma K (ga K "Kind") "__init__") with
  | some ⟨_, _, .func fd, _⟩ => (match fd.kwdefaults with
    | .ref D => (match PySem.W.nsIn K D "above" with
      | some (some (.ref a)) => a
      | _ => 0)
    | _ => 0)
  | _ => 0
/-- the first default of Kind.of -/
def ofAbove (K : PySem.W.Frag) : Addr := match K.lookup (He5.wf K (ga K "Kind") "classmethod" "of") with
  | some ⟨_, _, .func fd, _⟩ => (match fd.defaults with
    | .ref T => (match K.lookup T with
      | some ⟨_, _, .seq its _, _⟩ => (match its.toList with
        | .ref a :: _ => a
        | _ => 0)
      | _ => 0)
    | _ => 0)
  | _ => 0
def emptyTup (K : PySem.W.Frag) (a : Addr) : Bool := match K.lookup a with
  | some ⟨.type c, _, .seq its _, _⟩ => decide (c = "tuple") && decide (its.toList = [])
  | _ => false
theorem emptyTup_ok {K : PySem.W.Frag} {a : Addr} (h : emptyTup K a = true) (H : Hp) : SqT K H a [] := by
  unfold emptyTup at h
  cases q : K.lookup a with
  | none =>
    rw [q] at h
    cases h
  | some o =>
    obtain ⟨oc, od, dt, osl⟩ := o
    rw [q] at h
    cases oc with
    | type c =>
      cases dt with
      | seq its n =>
        obtain ⟨h1, h2⟩ := He.ba (show (decide (c = "tuple") && decide (its.toList = [])) = true from h)
        have e2 : its.toList = [] := of_decide_eq_true h2
        refine .inr ⟨_, its, n, q, congrArg Value.type (of_decide_eq_true h1), rfl, ?_, by rw [e2]; exact .nil⟩
        rw [← Array.length_toList, e2]
        exact Nat.zero_le _
      | _ => cases h
    | _ => cases dt <;> cases h
def barred : List Str := ["and", "as", "class", "def", "else", "for", "if", "in", "is", "not", "or", "pass", "self"]
def nameSigns : Str := "ABCDEFGHIJKLMNOPQRSTUVWXYZabcdefghijklmnopqrstuvwxyz_0123456789"
def digitSigns : Str := "0123456789"
abbrev kC (K : PySem.W.Frag) : Addr := ga K "Kind"
abbrev kF (K : PySem.W.Frag) : Addr := ga K "Field"
abbrev kI (K : PySem.W.Frag) : Addr := ga K "InitOnly"
abbrev kH (K : PySem.W.Frag) : Addr := ga K "Hook"
abbrev kM (K : PySem.W.Frag) : Addr := ga K "Method"
abbrev kMb (K : PySem.W.Frag) : Addr := ga K "Member"
abbrev kR (K : PySem.W.Frag) : Addr := ga K "Record"
abbrev kN (K : PySem.W.Frag) : Addr := ga K "NoMethod"
/-- a class with slots; a slot -/
def slsB (K : PySem.W.Frag) (C : Addr) : Bool := PySem.W.plainGet K C Str.empty && (PySem.W.isClsIn K C && (PySem.W.plainOver K C && eqO (PySem.W.findIn K (.ref C) "__setattr__") (some (some (.builtin "object.__setattr__")))))
theorem slsB_ok {K : PySem.W.Frag} {C : Addr} (h : slsB K C = true) : SlX.SCls K C := by
  obtain ⟨h1, h⟩ := He.ba h
  obtain ⟨h2, h⟩ := He.ba h
  obtain ⟨h3, h4⟩ := He.ba h
  exact ⟨h1, h2, h3, eqO_ok h4⟩
def slB (K : PySem.W.Frag) (C : Addr) (f : Str) (i : Nat) : Bool := eqO (PySem.W.findIn K (.ref C) f) (some (some (.ref (ma K C f)))) && (eqO (PySem.W.specialIn K (.ref (ma K C f)) "__get__") (some (some (.builtin "member_descriptor.__get__"))) &&
  (decide (PySem.W.takesIn K (.ref (ma K C f)) = some true) && (decide (PySem.W.typeIn K (.ref (ma K C f)) = some (.type "member_descriptor")) && (decide (PySem.W.slotIn K (ma K C f) C = some i) && decide (i < 1000)))))
theorem slB_ok {K : PySem.W.Frag} {C : Addr} {f : Str} {i : Nat} (h : slB K C f i = true) : SlX.Slot1 K C f (ma K C f) i := by
  obtain ⟨h1, h⟩ := He.ba h
  obtain ⟨h2, h⟩ := He.ba h
  obtain ⟨h3, h⟩ := He.ba h
  obtain ⟨h4, h⟩ := He.ba h
  obtain ⟨h5, h6⟩ := He.ba h
  exact ⟨eqO_ok h1, eqO_ok h2, of_decide_eq_true h3, of_decide_eq_true h4, of_decide_eq_true h5, of_decide_eq_true h6⟩
/-- Member.__init__ -/
abbrev kMi (K : PySem.W.Frag) : Addr := ma K (ga K "Member") "__init__"
def fieldOpts : List Str := ["default", "factory", "init", "compare", "show", "key", "only_named"]
def initOpts : List Str := ["default", "only_named"]
def simpleSorts : List Str := ["none", "truth", "integer", "text"]
def kindOpts : List Str := ["equal", "order", "frozen", "only_named", "show"]
def insB (K : PySem.W.Frag) (C : Addr) : Bool := eqO (PySem.W.findIn K (.ref C) "__class__") (some (some (.builtin "object.__class__"))) && (eqO (PySem.W.specialIn K (.builtin "object.__class__") "__get__") (some (some (.builtin "getset_descriptor.__get__"))) &&
  (decide (PySem.W.takesIn K (.builtin "object.__class__") = some true) && decide (PySem.W.mroIn K C (.type "object") = some true)))
def idcB (K : PySem.W.Frag) (C : Addr) : Bool := decide (PySem.W.mroIn K C (.type "object") = some true) && (eqO (PySem.W.findIn K (.ref C) "__eq__") (some (some (.builtin "object.__eq__"))) && (eqO (PySem.W.findIn K (.ref C) "__ne__") (some (some (.builtin "object.__ne__"))) &&
  decide (PySem.W.mroIn K C (.type "NoneType") = some false)))
theorem idcB_ok {K : PySem.W.Frag} {C : Addr} (h : idcB K C = true) : IdQ.IdC K C := by
  obtain ⟨h1, h⟩ := He.ba h
  obtain ⟨h2, h⟩ := He.ba h
  obtain ⟨h3, h4⟩ := He.ba h
  exact ⟨of_decide_eq_true h1, eqO_ok h2, eqO_ok h3, of_decide_eq_true h4⟩
def creadB (K : PySem.W.Frag) (C : Addr) : Bool := PySem.W.readsIn K C (.type "type") && eqO (PySem.W.specialIn K (.ref C) "__getattribute__") (some (some (.builtin "type.__getattribute__")))
theorem creadB_ok {K : PySem.W.Frag} {C : Addr} (h : creadB K C = true) : ClX.CRead K C (.type "type") := by
  obtain ⟨h1, h2⟩ := He.ba h
  exact ⟨h1, eqO_ok h2⟩
def ofB (K : PySem.W.Frag) (C : Addr) : Bool := He5.wrapB K C "classmethod" "classmethod.__get__" "of" && PySem.W.fnIn K (He5.wf K C "classmethod" "of")
def excB (K : PySem.W.Frag) (D : Addr) : Bool := eqO (PySem.W.findIn K (.ref D) "__class__") (some (some (.builtin "object.__class__"))) && (eqO (PySem.W.specialIn K (.builtin "object.__class__") "__get__") (some (some (.builtin "getset_descriptor.__get__"))) &&
  (decide (PySem.W.takesIn K (.builtin "object.__class__") = some true) && decide (PySem.W.mroIn K D (.type "object") = some true)))
theorem excB_ok {K : PySem.W.Frag} {D : Addr} (h : excB K D = true) (T : XfC K D) : ExcC K D := by
  obtain ⟨h1, h⟩ := He.ba h
  obtain ⟨h2, h⟩ := He.ba h
  obtain ⟨h3, h4⟩ := He.ba h
  exact ⟨T.ga, T.gg, T.exC, T.hdC, eqO_ok h1, eqO_ok h2, of_decide_eq_true h3, of_decide_eq_true h4⟩

/-! ### what is asked of the head -/
def d_NoMethod_init : He5.DefA := ⟨fun K => ma K (ga K "NoMethod") "__init__", "__init__", "NoMethod.__init__", defArgs s_NoMethod_init, defBody s_NoMethod_init, defScope s_NoMethod_init, [], []⟩
def d_Hook_init : He5.DefA := ⟨fun K => ma K (ga K "Hook") "__init__", "__init__", "Hook.__init__", defArgs s_Hook_init, defBody s_Hook_init, defScope s_Hook_init, [], []⟩
def d_Record_init : He5.DefA := ⟨fun K => ma K (ga K "Record") "__init__", "__init__", "Record.__init__", defArgs s_Record_init, defBody s_Record_init, defScope s_Record_init, [], []⟩
def d_Record_seal : He5.DefA := ⟨fun K => ma K (ga K "Record") "seal", "seal", "Record.seal", defArgs s_Record_seal, defBody s_Record_seal, defScope s_Record_seal, [], []⟩
def d_Record_call : He5.DefA := ⟨fun K => ma K (ga K "Record") "call", "call", "Record.call", defArgs s_Record_call, defBody s_Record_call, defScope s_Record_call, [], []⟩
def d_Record_call_above : He5.DefA := ⟨fun K => ma K (ga K "Record") "call_above", "call_above", "Record.call_above", defArgs s_Record_call_above, defBody s_Record_call_above, defScope s_Record_call_above, [], []⟩
def d_Record_hook_above : He5.DefA := ⟨fun K => ma K (ga K "Record") "hook_above", "hook_above", "Record.hook_above", defArgs s_Record_hook_above, defBody s_Record_hook_above, defScope s_Record_hook_above, [], []⟩
def d_Record__place_behind : He5.DefA := ⟨fun K => ma K (ga K "Record") "_place_behind", "_place_behind", "Record._place_behind", defArgs s_Record__place_behind, defBody s_Record__place_behind, defScope s_Record__place_behind, [], []⟩
def d_Record__call_from : He5.DefA := ⟨fun K => ma K (ga K "Record") "_call_from", "_call_from", "Record._call_from", defArgs s_Record__call_from, defBody s_Record__call_from, defScope s_Record__call_from, [], []⟩
def d_line_above : He5.DefA := ⟨fun K => ga K "line_above", "line_above", "line_above", defArgs s_line_above, defBody s_line_above, defScope s_line_above, [], []⟩
def d__rows_of : He5.DefA := ⟨fun K => ga K "_rows_of", "_rows_of", "_rows_of", defArgs s__rows_of, defBody s__rows_of, defScope s__rows_of, [], []⟩
def d__free_head : He5.DefA := ⟨fun K => ga K "_free_head", "_free_head", "_free_head", defArgs s__free_head, defBody s__free_head, defScope s__free_head, [], []⟩
def d__head_of_row_with : He5.DefA := ⟨fun K => ga K "_head_of_row_with", "_head_of_row_with", "_head_of_row_with", defArgs s__head_of_row_with, defBody s__head_of_row_with, defScope s__head_of_row_with, [], []⟩
def d__without : He5.DefA := ⟨fun K => ga K "_without", "_without", "_without", defArgs s__without, defBody s__without, defScope s__without, [], []⟩
def d_is_name : He5.DefA := ⟨fun K => ga K "is_name", "is_name", "is_name", defArgs s_is_name, defBody s_is_name, defScope s_is_name, [], []⟩
def d_check_members : He5.DefA := ⟨fun K => ga K "check_members", "check_members", "check_members", defArgs s_check_members, defBody s_check_members, defScope s_check_members, [], []⟩
def d__name_of : He5.DefA := ⟨fun K => ga K "_name_of", "_name_of", "_name_of", defArgs s__name_of, defBody s__name_of, defScope s__name_of, [], []⟩
def d_check_options : He5.DefA := ⟨fun K => ga K "check_options", "check_options", "check_options", defArgs s_check_options, defBody s_check_options, defScope s_check_options, [], []⟩
def d_check_above : He5.DefA := ⟨fun K => ga K "check_above", "check_above", "check_above", defArgs s_check_above, defBody s_check_above, defScope s_check_above, [], []⟩
def d_check_mixture : He5.DefA := ⟨fun K => ga K "check_mixture", "check_mixture", "check_mixture", defArgs s_check_mixture, defBody s_check_mixture, defScope s_check_mixture, [], []⟩
def d_check_frozen : He5.DefA := ⟨fun K => ga K "check_frozen", "check_frozen", "check_frozen", defArgs s_check_frozen, defBody s_check_frozen, defScope s_check_frozen, [], []⟩
def d_check_defaults : He5.DefA := ⟨fun K => ga K "check_defaults", "check_defaults", "check_defaults", defArgs s_check_defaults, defBody s_check_defaults, defScope s_check_defaults, [], []⟩
def d_whole_members : He5.DefA := ⟨fun K => ga K "whole_members", "whole_members", "whole_members", defArgs s_whole_members, defBody s_whole_members, defScope s_whole_members, [], []⟩
def d_is_only_named : He5.DefA := ⟨fun K => ga K "is_only_named", "is_only_named", "is_only_named", defArgs s_is_only_named, defBody s_is_only_named, defScope s_is_only_named, [], []⟩
def d__check_option : He5.DefA := ⟨fun K => ga K "_check_option", "_check_option", "_check_option", defArgs s__check_option, defBody s__check_option, defScope s__check_option, [], []⟩
def d__is_allowed : He5.DefA := ⟨fun K => ga K "_is_allowed", "_is_allowed", "_is_allowed", defArgs s__is_allowed, defBody s__is_allowed, defScope s__is_allowed, [], []⟩
def d_is_keyable : He5.DefA := ⟨fun K => ga K "is_keyable", "is_keyable", "is_keyable", defArgs s_is_keyable, defBody s_is_keyable, defScope s_is_keyable, [], []⟩
def d_check_depth : He5.DefA := ⟨fun K => ga K "check_depth", "check_depth", "check_depth", defArgs s_check_depth, defBody s_check_depth, defScope s_check_depth, [], []⟩
def d__parts_of : He5.DefA := ⟨fun K => ga K "_parts_of", "_parts_of", "_parts_of", defArgs s__parts_of, defBody s__parts_of, defScope s__parts_of, [], []⟩
def d_can_be_key : He5.DefA := ⟨fun K => ga K "can_be_key", "can_be_key", "can_be_key", defArgs s_can_be_key, defBody s_can_be_key, defScope s_can_be_key, [], []⟩
def d__can_all_be_keys : He5.DefA := ⟨fun K => ga K "_can_all_be_keys", "_can_all_be_keys", "_can_all_be_keys", defArgs s__can_all_be_keys, defBody s__can_all_be_keys, defScope s__can_all_be_keys, [], []⟩
def d_sort_of : He5.DefA := ⟨fun K => ga K "sort_of", "sort_of", "sort_of", defArgs s_sort_of, defBody s_sort_of, defScope s_sort_of, [], []⟩
def d_Member_init : He5.DefA := ⟨fun K => ma K (ga K "Member") "__init__", "__init__", "Member.__init__", defArgs s_Member_init, defBody s_Member_init, defScope s_Member_init, [], []⟩
def d_Field_of : He5.DefA := ⟨fun K => He5.wf K (ga K "Field") "classmethod" "of", "of", "Field.of", defArgs s_Field_of, defBody s_Field_of, defScope s_Field_of, [], []⟩
def d_Field__set_options : He5.DefA := ⟨fun K => ma K (ga K "Field") "_set_options", "_set_options", "Field._set_options", defArgs s_Field__set_options, defBody s_Field__set_options, defScope s_Field__set_options, [], []⟩
def d_Field_is_key : He5.DefA := ⟨fun K => ma K (ga K "Field") "is_key", "is_key", "Field.is_key", defArgs s_Field_is_key, defBody s_Field_is_key, defScope s_Field_is_key, [], []⟩
def d_Field_is_parameter : He5.DefA := ⟨fun K => ma K (ga K "Field") "is_parameter", "is_parameter", "Field.is_parameter", defArgs s_Field_is_parameter, defBody s_Field_is_parameter, defScope s_Field_is_parameter, [], []⟩
def d_InitOnly_of : He5.DefA := ⟨fun K => He5.wf K (ga K "InitOnly") "classmethod" "of", "of", "InitOnly.of", defArgs s_InitOnly_of, defBody s_InitOnly_of, defScope s_InitOnly_of, [], []⟩
def d_InitOnly__set_options : He5.DefA := ⟨fun K => ma K (ga K "InitOnly") "_set_options", "_set_options", "InitOnly._set_options", defArgs s_InitOnly__set_options, defBody s_InitOnly__set_options, defScope s_InitOnly__set_options, [], []⟩
def d_InitOnly_is_parameter : He5.DefA := ⟨fun K => ma K (ga K "InitOnly") "is_parameter", "is_parameter", "InitOnly.is_parameter", defArgs s_InitOnly_is_parameter, defBody s_InitOnly_is_parameter, defScope s_InitOnly_is_parameter, [], []⟩
def d_Kind_init : He5.DefA := ⟨fun K => ma K (ga K "Kind") "__init__", "__init__", "Kind.__init__", defArgs s_Kind_init, defBody s_Kind_init, defScope s_Kind_init, [], [("above", .adr kwAbove)]⟩
def d_Kind_of : He5.DefA := ⟨fun K => He5.wf K (ga K "Kind") "classmethod" "of", "of", "Kind.of", defArgs s_Kind_of, defBody s_Kind_of, defScope s_Kind_of, [.adr ofAbove, .non], []⟩
def d_Kind__declare : He5.DefA := ⟨fun K => ma K (ga K "Kind") "_declare", "_declare", "Kind._declare", defArgs s_Kind__declare, defBody s_Kind__declare, defScope s_Kind__declare, [], []⟩
def d_Kind__set_own : He5.DefA := ⟨fun K => ma K (ga K "Kind") "_set_own", "_set_own", "Kind._set_own", defArgs s_Kind__set_own, defBody s_Kind__set_own, defScope s_Kind__set_own, [], []⟩
def d_Kind__set_options : He5.DefA := ⟨fun K => ma K (ga K "Kind") "_set_options", "_set_options", "Kind._set_options", defArgs s_Kind__set_options, defBody s_Kind__set_options, defScope s_Kind__set_options, [], []⟩
def d_Kind__set_whole : He5.DefA := ⟨fun K => ma K (ga K "Kind") "_set_whole", "_set_whole", "Kind._set_whole", defArgs s_Kind__set_whole, defBody s_Kind__set_whole, defScope s_Kind__set_whole, [], []⟩
def d_Kind_bind : He5.DefA := ⟨fun K => ma K (ga K "Kind") "bind", "bind", "Kind.bind", defArgs s_Kind_bind, defBody s_Kind_bind, defScope s_Kind_bind, [], []⟩
def d_Kind__check_missing : He5.DefA := ⟨fun K => ma K (ga K "Kind") "_check_missing", "_check_missing", "Kind._check_missing", defArgs s_Kind__check_missing, defBody s_Kind__check_missing, defScope s_Kind__check_missing, [], []⟩
def d_Kind_build : He5.DefA := ⟨fun K => ma K (ga K "Kind") "build", "build", "Kind.build", defArgs s_Kind_build, defBody s_Kind_build, defScope s_Kind_build, [], []⟩
def d_Kind_make : He5.DefA := ⟨fun K => ma K (ga K "Kind") "make", "make", "Kind.make", defArgs s_Kind_make, defBody s_Kind_make, defScope s_Kind_make, [], []⟩
def d_Kind_find_hook : He5.DefA := ⟨fun K => ma K (ga K "Kind") "find_hook", "find_hook", "Kind.find_hook", defArgs s_Kind_find_hook, defBody s_Kind_find_hook, defScope s_Kind_find_hook, [], []⟩
def d_Kind_find_method : He5.DefA := ⟨fun K => ma K (ga K "Kind") "find_method", "find_method", "Kind.find_method", defArgs s_Kind_find_method, defBody s_Kind_find_method, defScope s_Kind_find_method, [], []⟩
def d_Kind_is_below : He5.DefA := ⟨fun K => ma K (ga K "Kind") "is_below", "is_below", "Kind.is_below", defArgs s_Kind_is_below, defBody s_Kind_is_below, defScope s_Kind_is_below, [], []⟩
def d_Kind__first_values : He5.DefA := ⟨fun K => ma K (ga K "Kind") "_first_values", "_first_values", "Kind._first_values", defArgs s_Kind__first_values, defBody s_Kind__first_values, defScope s_Kind__first_values, [], []⟩
def d__law_mixed : He5.DefA := ⟨fun K => ga K "_law_mixed", "_law_mixed", "_law_mixed", defArgs s__law_mixed, defBody s__law_mixed, defScope s__law_mixed, [], []⟩
def d__law_folded : He5.DefA := ⟨fun K => ga K "_law_folded", "_law_folded", "_law_folded", defArgs s__law_folded, defBody s__law_folded, defScope s__law_folded, [], []⟩
def d__law_draw : He5.DefA := ⟨fun K => ga K "_law_draw", "_law_draw", "_law_draw", defArgs s__law_draw, defBody s__law_draw, defScope s__law_draw, [], []⟩
def d__law_begun : He5.DefA := ⟨fun K => ga K "_law_begun", "_law_begun", "_law_begun", defArgs s__law_begun, defBody s__law_begun, defScope s__law_begun, [], []⟩
def d__law_mixed_up : He5.DefA := ⟨fun K => ga K "_law_mixed_up", "_law_mixed_up", "_law_mixed_up", defArgs s__law_mixed_up, defBody s__law_mixed_up, defScope s__law_mixed_up, [], []⟩
def d__law_line : He5.DefA := ⟨fun K => ga K "_law_line", "_law_line", "_law_line", defArgs s__law_line, defBody s__law_line, defScope s__law_line, [], []⟩
def d__law_gone : He5.DefA := ⟨fun K => ga K "_law_gone", "_law_gone", "_law_gone", defArgs s__law_gone, defBody s__law_gone, defScope s__law_gone, [], []⟩
def d__law_parts_of : He5.DefA := ⟨fun K => ga K "_law_parts_of", "_law_parts_of", "_law_parts_of", defArgs s__law_parts_of, defBody s__law_parts_of, defScope s__law_parts_of, [], []⟩
def d__law_hooked : He5.DefA := ⟨fun K => ga K "_law_hooked", "_law_hooked", "_law_hooked", defArgs s__law_hooked, defBody s__law_hooked, defScope s__law_hooked, [], []⟩
def d__law_is_lost : He5.DefA := ⟨fun K => ga K "_law_is_lost", "_law_is_lost", "_law_is_lost", defArgs s__law_is_lost, defBody s__law_is_lost, defScope s__law_is_lost, [], []⟩
def d__law_right : He5.DefA := ⟨fun K => ga K "_law_right", "_law_right", "_law_right", defArgs s__law_right, defBody s__law_right, defScope s__law_right, [], []⟩
def d_law : He5.DefA := ⟨fun K => ga K "law", "law", "law", defArgs s_law, defBody s_law, defScope s_law, [], []⟩
def d_Field_init : He5.DefA := ⟨fun K => ma K (ga K "Field") "__init__", "__init__", "Field.__init__", defArgs s_Field_init, defBody s_Field_init, defScope s_Field_init, [], []⟩
def d_InitOnly_init : He5.DefA := ⟨fun K => ma K (ga K "InitOnly") "__init__", "__init__", "InitOnly.__init__", defArgs s_InitOnly_init, defBody s_InitOnly_init, defScope s_InitOnly_init, [], []⟩
def d_Method_init : He5.DefA := ⟨fun K => ma K (ga K "Method") "__init__", "__init__", "Method.__init__", defArgs s_Method_init, defBody s_Method_init, defScope s_Method_init, [], []⟩
def fn0 : List He5.DefA := [d_NoMethod_init, d_Hook_init, d_Record_init, d_Record_seal, d_Record_call, d_Record_call_above, d_Record_hook_above, d_Record__place_behind, d_Record__call_from, d_line_above, d__rows_of, d__free_head]
def fn1 : List He5.DefA := [d__head_of_row_with, d__without, d_is_name, d_check_members, d__name_of, d_check_options, d_check_above, d_check_mixture, d_check_frozen, d_check_defaults, d_whole_members, d_is_only_named]
def fn2 : List He5.DefA := [d__check_option, d__is_allowed, d_is_keyable, d_check_depth, d__parts_of, d_can_be_key, d__can_all_be_keys, d_sort_of, d_Member_init, d_Field_of, d_Field__set_options, d_Field_is_key]
def fn3 : List He5.DefA := [d_Field_is_parameter, d_InitOnly_of, d_InitOnly__set_options, d_InitOnly_is_parameter, d_Kind_init, d_Kind_of, d_Kind__declare, d_Kind__set_own, d_Kind__set_options, d_Kind__set_whole, d_Kind_bind, d_Kind__check_missing]
def fn4 : List He5.DefA := [d_Kind_build, d_Kind_make, d_Kind_find_hook, d_Kind_find_method, d_Kind_is_below, d_Kind__first_values, d__law_mixed, d__law_folded, d__law_draw, d__law_begun, d__law_mixed_up, d__law_line]
def fn5 : List He5.DefA := [d__law_gone, d__law_parts_of, d__law_hooked, d__law_is_lost, d__law_right, d_law]
def fn : List He5.DefA := fn0 ++ fn1 ++ fn2 ++ fn3 ++ fn4 ++ fn5
def fs : List He5.DefA := [d_Field_init, d_InitOnly_init, d_Method_init]
def fa0 : List Fa := [.glo "line_above", .glo "_rows_of", .glo "_free_head", .glo "_head_of_row_with", .glo "_without", .glo "is_name", .glo "check_members", .glo "_name_of", .glo "check_options", .glo "check_above", .glo "check_mixture", .glo "check_frozen"]
def fa1 : List Fa := [.glo "check_defaults", .glo "whole_members", .glo "is_only_named", .glo "_check_option", .glo "_is_allowed", .glo "is_keyable", .glo "check_depth", .glo "_parts_of", .glo "can_be_key", .glo "_can_all_be_keys", .glo "sort_of", .glo "_law_mixed"]
def fa2 : List Fa := [.glo "_law_folded", .glo "_law_draw", .glo "_law_begun", .glo "_law_mixed_up", .glo "_law_line", .glo "_law_gone", .glo "_law_parts_of", .glo "_law_hooked", .glo "_law_is_lost", .glo "_law_right", .glo "law", .glo "Kind"]
def fa3 : List Fa := [.glo "Lined", .glo "Member", .glo "Field", .glo "InitOnly", .glo "Method", .glo "Hook", .glo "Fielded", .glo "Record", .glo "NoMethod", .glo "BARRED_WORDS", .glo "SIMPLE_SORTS", .glo "FIELD_OPTIONS"]
def fa4 : List Fa := [.glo "INIT_ONLY_OPTIONS", .glo "KIND_OPTIONS", .free "len", .free "isinstance", .free "tuple", .free "list", .free "range", .free "enumerate", .free "str", .free "min", .free "bool", .free "repr"]
def fa5 : List Fa := [.free "super", .free "int", .free "type", .free "zip", .free "dict", .meth "NoMethod" "__init__", .noat "NoMethod" "name", .exm "NoMethod" "NoMethod" true, .int "MAX_VALUES" 5000, .mkr "Record", .meth "Record" "seal", .meth "Record" "call"]
def fa6 : List Fa := [.meth "Record" "call_above", .meth "Record" "hook_above", .meth "Record" "_place_behind", .meth "Record" "_call_from", .int "MAX_LENGTH" 40, .str "DIGITS" digitSigns, .str "NAME_SIGNS" nameSigns, .cls "Kind", .noat "Kind" "name", .noat "Kind" "above", .noat "Kind" "line", .noat "Kind" "own_hook"]
def fa7 : List Fa := [.noat "Kind" "own_members", .noat "Kind" "own_methods", .noat "Kind" "equal", .noat "Kind" "order", .noat "Kind" "frozen", .noat "Kind" "only_named", .noat "Kind" "show", .noat "Kind" "_data", .noat "Kind" "_shared", .noat "Kind" "_other_members", .noat "Kind" "fields", .noat "Kind" "field_names"]
def fa8 : List Fa := [.noat "Kind" "compare_names", .noat "Kind" "show_names", .noat "Kind" "key_names", .noat "Kind" "_init_only", .noat "Kind" "_by_position", .noat "Kind" "_by_name", .noat "Kind" "_parameters", .noat "Kind" "_parameter_names", .meth "Kind" "_declare", .meth "Kind" "_set_own", .meth "Kind" "_set_options", .meth "Kind" "_set_whole"]
def fa9 : List Fa := [.meth "Kind" "bind", .meth "Kind" "_check_missing", .meth "Kind" "build", .meth "Kind" "make", .meth "Kind" "find_hook", .meth "Kind" "find_method", .meth "Kind" "is_below", .meth "Kind" "_first_values", .mkr "Kind", .cls "Field", .noat "Field" "name", .noat "Field" "has_default"]
def fa10 : List Fa := [.noat "Field" "default", .noat "Field" "has_factory", .noat "Field" "factory", .noat "Field" "init", .noat "Field" "compare", .noat "Field" "show", .noat "Field" "key", .noat "Field" "only_named", .meth "Field" "_set_options", .meth "Field" "is_key", .meth "Field" "is_parameter", .mkr "Field"]
def fa11 : List Fa := [.cls "InitOnly", .noat "InitOnly" "name", .noat "InitOnly" "has_default", .noat "InitOnly" "default", .noat "InitOnly" "has_factory", .noat "InitOnly" "only_named", .meth "InitOnly" "_set_options", .meth "InitOnly" "is_parameter", .mkr "InitOnly", .cls "Method", .noat "Method" "name", .noat "Method" "function"]
def fa12 : List Fa := [.mkr "Method", .cls "Hook", .noat "Hook" "function", .mkr "Hook"]
def fa : List Fa := fa0 ++ fa1 ++ fa2 ++ fa3 ++ fa4 ++ fa5 ++ fa6 ++ fa7 ++ fa8 ++ fa9 ++ fa10 ++ fa11 ++ fa12
def x0 : PySem.W.Frag → Bool := fun K => tupB K "BARRED_WORDS" (barred.map He.Dv.str)
def x1 : PySem.W.Frag → Bool := fun K => tupB K "SIMPLE_SORTS" (simpleSorts.map He.Dv.str)
def x2 : PySem.W.Frag → Bool := fun K => tupB K "FIELD_OPTIONS" (fieldOpts.map He.Dv.str)
def x3 : PySem.W.Frag → Bool := fun K => tupB K "INIT_ONLY_OPTIONS" (initOpts.map He.Dv.str)
def x4 : PySem.W.Frag → Bool := fun K => tupB K "KIND_OPTIONS" (kindOpts.map He.Dv.str)
def x5 : PySem.W.Frag → Bool := fun K => conB K "Kind" "MAX_MEMBERS" (.int 16)
def x6 : PySem.W.Frag → Bool := fun K => conB K "Kind" "MAX_LINE" (.int 12)
def x7 : PySem.W.Frag → Bool := fun K => conB K "Field" "SORT" (.str "data")
def x8 : PySem.W.Frag → Bool := fun K => conB K "InitOnly" "SORT" (.str "data")
def x9 : PySem.W.Frag → Bool := fun K => conB K "Method" "SORT" (.str "method")
def x10 : PySem.W.Frag → Bool := fun K => creadB K (kC K)
def x11 : PySem.W.Frag → Bool := fun K => ofB K (kC K)
def x12 : PySem.W.Frag → Bool := fun K => creadB K (kF K)
def x13 : PySem.W.Frag → Bool := fun K => ofB K (kF K)
def x14 : PySem.W.Frag → Bool := fun K => creadB K (kI K)
def x15 : PySem.W.Frag → Bool := fun K => ofB K (kI K)
def x16 : PySem.W.Frag → Bool := fun K => idcB K (kC K)
def x17 : PySem.W.Frag → Bool := fun K => idcB K (kF K)
def x18 : PySem.W.Frag → Bool := fun K => insB K (kC K)
def x19 : PySem.W.Frag → Bool := fun K => insB K (kF K)
def x20 : PySem.W.Frag → Bool := fun K => insB K (kI K)
def x21 : PySem.W.Frag → Bool := fun K => insB K (kM K)
def x22 : PySem.W.Frag → Bool := fun K => insB K (kH K)
def x23 : PySem.W.Frag → Bool := fun K => decide (PySem.W.kitOne K (.ref (kC K)) (.ref (ga K "Lined")) = some true)
def x24 : PySem.W.Frag → Bool := fun K => decide (PySem.W.kitOne K (.ref (kC K)) (.ref (ga K "Kind")) = some true)
def x25 : PySem.W.Frag → Bool := fun K => decide (PySem.W.kitOne K (.ref (kF K)) (.ref (ga K "Hook")) = some false)
def x26 : PySem.W.Frag → Bool := fun K => decide (PySem.W.kitOne K (.ref (kF K)) (.ref (ga K "Member")) = some true)
def x27 : PySem.W.Frag → Bool := fun K => decide (PySem.W.kitOne K (.ref (kI K)) (.ref (ga K "Hook")) = some false)
def x28 : PySem.W.Frag → Bool := fun K => decide (PySem.W.kitOne K (.ref (kI K)) (.ref (ga K "Member")) = some true)
def x29 : PySem.W.Frag → Bool := fun K => decide (PySem.W.kitOne K (.ref (kM K)) (.ref (ga K "Hook")) = some false)
def x30 : PySem.W.Frag → Bool := fun K => decide (PySem.W.kitOne K (.ref (kM K)) (.ref (ga K "Member")) = some true)
def x31 : PySem.W.Frag → Bool := fun K => decide (PySem.W.kitOne K (.ref (kH K)) (.ref (ga K "Hook")) = some true)
def x32 : PySem.W.Frag → Bool := fun K => slsB K (kR K)
def x33 : PySem.W.Frag → Bool := fun K => slB K (kR K) "_is_made" 0
def x34 : PySem.W.Frag → Bool := fun K => slB K (kR K) "_kind" 1
def x35 : PySem.W.Frag → Bool := fun K => slB K (kR K) "_values" 2
def x36 : PySem.W.Frag → Bool := fun K => decide (PySem.W.kitOne K (.ref (kF K)) (.ref (ga K "Field")) = some true)
def x37 : PySem.W.Frag → Bool := fun K => decide (PySem.W.kitOne K (.ref (kI K)) (.ref (ga K "Field")) = some false)
def x38 : PySem.W.Frag → Bool := fun K => decide (PySem.W.kitOne K (.ref (kF K)) (.ref (ga K "InitOnly")) = some false)
def x39 : PySem.W.Frag → Bool := fun K => decide (PySem.W.kitOne K (.ref (kI K)) (.ref (ga K "InitOnly")) = some true)
def x40 : PySem.W.Frag → Bool := fun K => decide (PySem.W.kitOne K (.type "NoneType") (.ref (ga K "Fielded")) = some false)
def x41 : PySem.W.Frag → Bool := fun K => decide (PySem.W.kitOne K (.type "bool") (.ref (ga K "Fielded")) = some false)
def x42 : PySem.W.Frag → Bool := fun K => emptyTup K (kwAbove K)
def x43 : PySem.W.Frag → Bool := fun K => emptyTup K (ofAbove K)
def x44 : PySem.W.Frag → Bool := fun K => HkQ.oexB K (ga K "NoMethod")
def x45 : PySem.W.Frag → Bool := fun K => xfB K (ga K "NoMethod")
def x46 : PySem.W.Frag → Bool := fun K => decide (PySem.W.typeIn K (.ref (ma K (ga K "NoMethod") "__init__")) = some (.type "function"))
def x47 : PySem.W.Frag → Bool := fun K => excB K (ga K "NoMethod")
def x48 : PySem.W.Frag → Bool := fun K => d_Field_init.ok K
def x49 : PySem.W.Frag → Bool := HkS.supB fileOf d_Field_init.at_ (fun K => kF K) (fun K => kMi K)
def x50 : PySem.W.Frag → Bool := fun K => d_InitOnly_init.ok K
def x51 : PySem.W.Frag → Bool := HkS.supB fileOf d_InitOnly_init.at_ (fun K => kI K) (fun K => kMi K)
def x52 : PySem.W.Frag → Bool := fun K => d_Method_init.ok K
def x53 : PySem.W.Frag → Bool := HkS.supB fileOf d_Method_init.at_ (fun K => kM K) (fun K => kMi K)
def exs : List (PySem.W.Frag → Bool) := [x0, x1, x2, x3, x4, x5, x6, x7, x8, x9, x10, x11, x12, x13, x14, x15, x16, x17, x18, x19, x20, x21, x22, x23, x24, x25, x26, x27, x28, x29, x30, x31, x32, x33, x34, x35, x36, x37, x38, x39, x40, x41, x42, x43, x44, x45, x46, x47, x48, x49, x50, x51, x52, x53]
def tf : List HkQ.TabF := [fun K => ga K "_law_parts_of"]
/-- what the walk knows of the program as the top left it -/
structure Txt (K : PySem.W.Frag) (mg : Str → Option Value) : Prop where
  g_line_above : mg "line_above" = some (.ref (ga K "line_above"))
  g__rows_of : mg "_rows_of" = some (.ref (ga K "_rows_of"))
  g__free_head : mg "_free_head" = some (.ref (ga K "_free_head"))
  g__head_of_row_with : mg "_head_of_row_with" = some (.ref (ga K "_head_of_row_with"))
  g__without : mg "_without" = some (.ref (ga K "_without"))
  g_is_name : mg "is_name" = some (.ref (ga K "is_name"))
  g_check_members : mg "check_members" = some (.ref (ga K "check_members"))
  g__name_of : mg "_name_of" = some (.ref (ga K "_name_of"))
  g_check_options : mg "check_options" = some (.ref (ga K "check_options"))
  g_check_above : mg "check_above" = some (.ref (ga K "check_above"))
  g_check_mixture : mg "check_mixture" = some (.ref (ga K "check_mixture"))
  g_check_frozen : mg "check_frozen" = some (.ref (ga K "check_frozen"))
  g_check_defaults : mg "check_defaults" = some (.ref (ga K "check_defaults"))
  g_whole_members : mg "whole_members" = some (.ref (ga K "whole_members"))
  g_is_only_named : mg "is_only_named" = some (.ref (ga K "is_only_named"))
  g__check_option : mg "_check_option" = some (.ref (ga K "_check_option"))
  g__is_allowed : mg "_is_allowed" = some (.ref (ga K "_is_allowed"))
  g_is_keyable : mg "is_keyable" = some (.ref (ga K "is_keyable"))
  g_check_depth : mg "check_depth" = some (.ref (ga K "check_depth"))
  g__parts_of : mg "_parts_of" = some (.ref (ga K "_parts_of"))
  g_can_be_key : mg "can_be_key" = some (.ref (ga K "can_be_key"))
  g__can_all_be_keys : mg "_can_all_be_keys" = some (.ref (ga K "_can_all_be_keys"))
  g_sort_of : mg "sort_of" = some (.ref (ga K "sort_of"))
  g__law_mixed : mg "_law_mixed" = some (.ref (ga K "_law_mixed"))
  g__law_folded : mg "_law_folded" = some (.ref (ga K "_law_folded"))
  g__law_draw : mg "_law_draw" = some (.ref (ga K "_law_draw"))
  g__law_begun : mg "_law_begun" = some (.ref (ga K "_law_begun"))
  g__law_mixed_up : mg "_law_mixed_up" = some (.ref (ga K "_law_mixed_up"))
  g__law_line : mg "_law_line" = some (.ref (ga K "_law_line"))
  g__law_gone : mg "_law_gone" = some (.ref (ga K "_law_gone"))
  g__law_parts_of : mg "_law_parts_of" = some (.ref (ga K "_law_parts_of"))
  g__law_hooked : mg "_law_hooked" = some (.ref (ga K "_law_hooked"))
  g__law_is_lost : mg "_law_is_lost" = some (.ref (ga K "_law_is_lost"))
  g__law_right : mg "_law_right" = some (.ref (ga K "_law_right"))
  g_law : mg "law" = some (.ref (ga K "law"))
  g_Kind : mg "Kind" = some (.ref (ga K "Kind"))
  g_Lined : mg "Lined" = some (.ref (ga K "Lined"))
  g_Member : mg "Member" = some (.ref (ga K "Member"))
  g_Field : mg "Field" = some (.ref (ga K "Field"))
  g_InitOnly : mg "InitOnly" = some (.ref (ga K "InitOnly"))
  g_Method : mg "Method" = some (.ref (ga K "Method"))
  g_Hook : mg "Hook" = some (.ref (ga K "Hook"))
  g_Fielded : mg "Fielded" = some (.ref (ga K "Fielded"))
  g_Record : mg "Record" = some (.ref (ga K "Record"))
  g_NoMethod : mg "NoMethod" = some (.ref (ga K "NoMethod"))
  g_BARRED_WORDS : mg "BARRED_WORDS" = some (.ref (ga K "BARRED_WORDS"))
  g_SIMPLE_SORTS : mg "SIMPLE_SORTS" = some (.ref (ga K "SIMPLE_SORTS"))
  g_FIELD_OPTIONS : mg "FIELD_OPTIONS" = some (.ref (ga K "FIELD_OPTIONS"))
  g_INIT_ONLY_OPTIONS : mg "INIT_ONLY_OPTIONS" = some (.ref (ga K "INIT_ONLY_OPTIONS"))
  g_KIND_OPTIONS : mg "KIND_OPTIONS" = some (.ref (ga K "KIND_OPTIONS"))
  n_len : mg "len" = none
  n_isinstance : mg "isinstance" = none
  n_tuple : mg "tuple" = none
  n_list : mg "list" = none
  n_range : mg "range" = none
  n_enumerate : mg "enumerate" = none
  n_str : mg "str" = none
  n_min : mg "min" = none
  n_bool : mg "bool" = none
  n_repr : mg "repr" = none
  n_super : mg "super" = none
  n_int : mg "int" = none
  n_type : mg "type" = none
  n_zip : mg "zip" = none
  n_dict : mg "dict" = none
  mI_NoMethod : Meth K (ga K "NoMethod") "__init__" (ma K (ga K "NoMethod") "__init__")
  ea_NoMethod : NoAttr K (ga K "NoMethod") "name"
  exm_NoMethod_NoMethod : PySem.W.exmOne K (.ref (ga K "NoMethod")) (.ref (ga K "NoMethod")) = some true
  rmk : Mk K (kR K) (ma K (kR K) "__init__")
  rm_seal : Meth K (kR K) "seal" (ma K (kR K) "seal")
  rm_call : Meth K (kR K) "call" (ma K (kR K) "call")
  rm_call_above : Meth K (kR K) "call_above" (ma K (kR K) "call_above")
  rm_hook_above : Meth K (kR K) "hook_above" (ma K (kR K) "hook_above")
  rm__place_behind : Meth K (kR K) "_place_behind" (ma K (kR K) "_place_behind")
  rm__call_from : Meth K (kR K) "_call_from" (ma K (kR K) "_call_from")
  maxVals : ∃ t, mg "MAX_VALUES" = some (.int 5000 t)
  maxLen : ∃ t, mg "MAX_LENGTH" = some (.int 40 t)
  digits : ∃ t, mg "DIGITS" = some (.str digitSigns t)
  signs : ∃ t, mg "NAME_SIGNS" = some (.str nameSigns t)
  cls : Cls K (kC K)
  a_name : NoAttr K (kC K) "name"
  a_above : NoAttr K (kC K) "above"
  a_line : NoAttr K (kC K) "line"
  a_own_hook : NoAttr K (kC K) "own_hook"
  a_own_members : NoAttr K (kC K) "own_members"
  a_own_methods : NoAttr K (kC K) "own_methods"
  a_equal : NoAttr K (kC K) "equal"
  a_order : NoAttr K (kC K) "order"
  a_frozen : NoAttr K (kC K) "frozen"
  a_only_named : NoAttr K (kC K) "only_named"
  a_show : NoAttr K (kC K) "show"
  a__data : NoAttr K (kC K) "_data"
  a__shared : NoAttr K (kC K) "_shared"
  a__other_members : NoAttr K (kC K) "_other_members"
  a_fields : NoAttr K (kC K) "fields"
  a_field_names : NoAttr K (kC K) "field_names"
  a_compare_names : NoAttr K (kC K) "compare_names"
  a_show_names : NoAttr K (kC K) "show_names"
  a_key_names : NoAttr K (kC K) "key_names"
  a__init_only : NoAttr K (kC K) "_init_only"
  a__by_position : NoAttr K (kC K) "_by_position"
  a__by_name : NoAttr K (kC K) "_by_name"
  a__parameters : NoAttr K (kC K) "_parameters"
  a__parameter_names : NoAttr K (kC K) "_parameter_names"
  m__declare : Meth K (kC K) "_declare" (ma K (kC K) "_declare")
  m__set_own : Meth K (kC K) "_set_own" (ma K (kC K) "_set_own")
  m__set_options : Meth K (kC K) "_set_options" (ma K (kC K) "_set_options")
  m__set_whole : Meth K (kC K) "_set_whole" (ma K (kC K) "_set_whole")
  m_bind : Meth K (kC K) "bind" (ma K (kC K) "bind")
  m__check_missing : Meth K (kC K) "_check_missing" (ma K (kC K) "_check_missing")
  m_build : Meth K (kC K) "build" (ma K (kC K) "build")
  m_make : Meth K (kC K) "make" (ma K (kC K) "make")
  m_find_hook : Meth K (kC K) "find_hook" (ma K (kC K) "find_hook")
  m_find_method : Meth K (kC K) "find_method" (ma K (kC K) "find_method")
  m_is_below : Meth K (kC K) "is_below" (ma K (kC K) "is_below")
  m__first_values : Meth K (kC K) "_first_values" (ma K (kC K) "_first_values")
  kmk : Mk K (kC K) (ma K (kC K) "__init__")
  cF_cls : Cls K (kF K)
  cF_a_name : NoAttr K (kF K) "name"
  cF_a_has_default : NoAttr K (kF K) "has_default"
  cF_a_default : NoAttr K (kF K) "default"
  cF_a_has_factory : NoAttr K (kF K) "has_factory"
  cF_a_factory : NoAttr K (kF K) "factory"
  cF_a_init : NoAttr K (kF K) "init"
  cF_a_compare : NoAttr K (kF K) "compare"
  cF_a_show : NoAttr K (kF K) "show"
  cF_a_key : NoAttr K (kF K) "key"
  cF_a_only_named : NoAttr K (kF K) "only_named"
  cF_m__set_options : Meth K (kF K) "_set_options" (ma K (kF K) "_set_options")
  cF_m_is_key : Meth K (kF K) "is_key" (ma K (kF K) "is_key")
  cF_m_is_parameter : Meth K (kF K) "is_parameter" (ma K (kF K) "is_parameter")
  cF_mk : Mk K (kF K) (ma K (kF K) "__init__")
  cI_cls : Cls K (kI K)
  cI_a_name : NoAttr K (kI K) "name"
  cI_a_has_default : NoAttr K (kI K) "has_default"
  cI_a_default : NoAttr K (kI K) "default"
  cI_a_has_factory : NoAttr K (kI K) "has_factory"
  cI_a_only_named : NoAttr K (kI K) "only_named"
  cI_m__set_options : Meth K (kI K) "_set_options" (ma K (kI K) "_set_options")
  cI_m_is_parameter : Meth K (kI K) "is_parameter" (ma K (kI K) "is_parameter")
  cI_mk : Mk K (kI K) (ma K (kI K) "__init__")
  cM_cls : Cls K (kM K)
  cM_a_name : NoAttr K (kM K) "name"
  cM_a_function : NoAttr K (kM K) "function"
  cM_mk : Mk K (kM K) (ma K (kM K) "__init__")
  cH_cls : Cls K (kH K)
  cH_a_function : NoAttr K (kH K) "function"
  cH_mk : Mk K (kH K) (ma K (kH K) "__init__")
  barred : ∀ H : Hp, SqT K H (ga K "BARRED_WORDS") (barred.map V.str)
  simpleSorts : ∀ H : Hp, SqT K H (ga K "SIMPLE_SORTS") (simpleSorts.map V.str)
  fieldOpts : ∀ H : Hp, SqT K H (ga K "FIELD_OPTIONS") (fieldOpts.map V.str)
  initOpts : ∀ H : Hp, SqT K H (ga K "INIT_ONLY_OPTIONS") (initOpts.map V.str)
  kindOpts : ∀ H : Hp, SqT K H (ga K "KIND_OPTIONS") (kindOpts.map V.str)
  maxMem : ∃ u, Con K (kC K) "MAX_MEMBERS" (.int 16) u
  maxLine : ∃ u, Con K (kC K) "MAX_LINE" (.int 12) u
  cF_sort : ∃ u, Con K (kF K) "SORT" (.str "data") u
  cI_sort : ∃ u, Con K (kI K) "SORT" (.str "data") u
  cM_sort : ∃ u, Con K (kM K) "SORT" (.str "method") u
  cread : ClX.CRead K (kC K) (.type "type")
  cmet : ClX.CMet K (kC K) (.type "type") "of" (ma K (kC K) "of") (He5.wf K (kC K) "classmethod" "of")
  cF_cread : ClX.CRead K (kF K) (.type "type")
  cF_cmet : ClX.CMet K (kF K) (.type "type") "of" (ma K (kF K) "of") (He5.wf K (kF K) "classmethod" "of")
  cI_cread : ClX.CRead K (kI K) (.type "type")
  cI_cmet : ClX.CMet K (kI K) (.type "type") "of" (ma K (kI K) "of") (He5.wf K (kI K) "classmethod" "of")
  idc : IdQ.IdC K (kC K)
  idcF : IdQ.IdC K (kF K)
  ins : insB K (kC K) = true
  cF_ins : insB K (kF K) = true
  cI_ins : insB K (kI K) = true
  cM_ins : insB K (kM K) = true
  cH_ins : insB K (kH K) = true
  isL : PySem.W.kitOne K (.ref (kC K)) (.ref (ga K "Lined")) = some true
  isK : PySem.W.kitOne K (.ref (kC K)) (.ref (ga K "Kind")) = some true
  cF_hook : PySem.W.kitOne K (.ref (kF K)) (.ref (ga K "Hook")) = some false
  cF_mem : PySem.W.kitOne K (.ref (kF K)) (.ref (ga K "Member")) = some true
  cI_hook : PySem.W.kitOne K (.ref (kI K)) (.ref (ga K "Hook")) = some false
  cI_mem : PySem.W.kitOne K (.ref (kI K)) (.ref (ga K "Member")) = some true
  cM_hook : PySem.W.kitOne K (.ref (kM K)) (.ref (ga K "Hook")) = some false
  cM_mem : PySem.W.kitOne K (.ref (kM K)) (.ref (ga K "Member")) = some true
  cH_hook : PySem.W.kitOne K (.ref (kH K)) (.ref (ga K "Hook")) = some true
  rS : SlX.SCls K (kR K)
  rS_is_made : SlX.Slot1 K (kR K) "_is_made" (ma K (kR K) "_is_made") 0
  rS_kind : SlX.Slot1 K (kR K) "_kind" (ma K (kR K) "_kind") 1
  rS_values : SlX.Slot1 K (kR K) "_values" (ma K (kR K) "_values") 2
  cF_fld : PySem.W.kitOne K (.ref (kF K)) (.ref (ga K "Field")) = some true
  cI_fld : PySem.W.kitOne K (.ref (kI K)) (.ref (ga K "Field")) = some false
  cF_ini : PySem.W.kitOne K (.ref (kF K)) (.ref (ga K "InitOnly")) = some false
  cI_ini : PySem.W.kitOne K (.ref (kI K)) (.ref (ga K "InitOnly")) = some true
  fd_none : PySem.W.kitOne K (.type "NoneType") (.ref (ga K "Fielded")) = some false
  fd_bl : PySem.W.kitOne K (.type "bool") (.ref (ga K "Fielded")) = some false
  e1 : ∀ H : Hp, SqT K H (kwAbove K) []
  e2 : ∀ H : Hp, SqT K H (ofAbove K) []
  oex_NoMethod : OexC K (ga K "NoMethod")
  xf_NoMethod : XfC K (ga K "NoMethod")
  tI_NoMethod : PySem.W.typeIn K (.ref (ma K (ga K "NoMethod") "__init__")) = some (.type "function")
  exc_NoMethod : excB K (ga K "NoMethod") = true
  s_Field : ∀ P : Program, ((P.main.file : Str) == fileOf) = true → HkS.SupD K P d_Field_init (kF K) (kMi K)
  s_InitOnly : ∀ P : Program, ((P.main.file : Str) == fileOf) = true → HkS.SupD K P d_InitOnly_init (kI K) (kMi K)
  s_Method : ∀ P : Program, ((P.main.file : Str) == fileOf) = true → HkS.SupD K P d_Method_init (kM K) (kMi K)
  F_NoMethod_init : ∃ fd, Fun K "__init__" "NoMethod.__init__" s_NoMethod_init (ma K (ga K "NoMethod") "__init__") fd
  F_Hook_init : ∃ fd, Fun K "__init__" "Hook.__init__" s_Hook_init (ma K (ga K "Hook") "__init__") fd
  F_Record_init : ∃ fd, Fun K "__init__" "Record.__init__" s_Record_init (ma K (ga K "Record") "__init__") fd
  F_Record_seal : ∃ fd, Fun K "seal" "Record.seal" s_Record_seal (ma K (ga K "Record") "seal") fd
  F_Record_call : ∃ fd, Fun K "call" "Record.call" s_Record_call (ma K (ga K "Record") "call") fd
  F_Record_call_above : ∃ fd, Fun K "call_above" "Record.call_above" s_Record_call_above (ma K (ga K "Record") "call_above") fd
  F_Record_hook_above : ∃ fd, Fun K "hook_above" "Record.hook_above" s_Record_hook_above (ma K (ga K "Record") "hook_above") fd
  F_Record__place_behind : ∃ fd, Fun K "_place_behind" "Record._place_behind" s_Record__place_behind (ma K (ga K "Record") "_place_behind") fd
  F_Record__call_from : ∃ fd, Fun K "_call_from" "Record._call_from" s_Record__call_from (ma K (ga K "Record") "_call_from") fd
  F_line_above : ∃ fd, Fun K "line_above" "line_above" s_line_above (ga K "line_above") fd
  F__rows_of : ∃ fd, Fun K "_rows_of" "_rows_of" s__rows_of (ga K "_rows_of") fd
  F__free_head : ∃ fd, Fun K "_free_head" "_free_head" s__free_head (ga K "_free_head") fd
  F__head_of_row_with : ∃ fd, Fun K "_head_of_row_with" "_head_of_row_with" s__head_of_row_with (ga K "_head_of_row_with") fd
  F__without : ∃ fd, Fun K "_without" "_without" s__without (ga K "_without") fd
  F_is_name : ∃ fd, Fun K "is_name" "is_name" s_is_name (ga K "is_name") fd
  F_check_members : ∃ fd, Fun K "check_members" "check_members" s_check_members (ga K "check_members") fd
  F__name_of : ∃ fd, Fun K "_name_of" "_name_of" s__name_of (ga K "_name_of") fd
  F_check_options : ∃ fd, Fun K "check_options" "check_options" s_check_options (ga K "check_options") fd
  F_check_above : ∃ fd, Fun K "check_above" "check_above" s_check_above (ga K "check_above") fd
  F_check_mixture : ∃ fd, Fun K "check_mixture" "check_mixture" s_check_mixture (ga K "check_mixture") fd
  F_check_frozen : ∃ fd, Fun K "check_frozen" "check_frozen" s_check_frozen (ga K "check_frozen") fd
  F_check_defaults : ∃ fd, Fun K "check_defaults" "check_defaults" s_check_defaults (ga K "check_defaults") fd
  F_whole_members : ∃ fd, Fun K "whole_members" "whole_members" s_whole_members (ga K "whole_members") fd
  F_is_only_named : ∃ fd, Fun K "is_only_named" "is_only_named" s_is_only_named (ga K "is_only_named") fd
  F__check_option : ∃ fd, Fun K "_check_option" "_check_option" s__check_option (ga K "_check_option") fd
  F__is_allowed : ∃ fd, Fun K "_is_allowed" "_is_allowed" s__is_allowed (ga K "_is_allowed") fd
  F_is_keyable : ∃ fd, Fun K "is_keyable" "is_keyable" s_is_keyable (ga K "is_keyable") fd
  F_check_depth : ∃ fd, Fun K "check_depth" "check_depth" s_check_depth (ga K "check_depth") fd
  F__parts_of : ∃ fd, Fun K "_parts_of" "_parts_of" s__parts_of (ga K "_parts_of") fd
  F_can_be_key : ∃ fd, Fun K "can_be_key" "can_be_key" s_can_be_key (ga K "can_be_key") fd
  F__can_all_be_keys : ∃ fd, Fun K "_can_all_be_keys" "_can_all_be_keys" s__can_all_be_keys (ga K "_can_all_be_keys") fd
  F_sort_of : ∃ fd, Fun K "sort_of" "sort_of" s_sort_of (ga K "sort_of") fd
  F_Member_init : ∃ fd, Fun K "__init__" "Member.__init__" s_Member_init (ma K (ga K "Member") "__init__") fd
  F_Field_of : ∃ fd, Fun K "of" "Field.of" s_Field_of (He5.wf K (ga K "Field") "classmethod" "of") fd
  F_Field__set_options : ∃ fd, Fun K "_set_options" "Field._set_options" s_Field__set_options (ma K (ga K "Field") "_set_options") fd
  F_Field_is_key : ∃ fd, Fun K "is_key" "Field.is_key" s_Field_is_key (ma K (ga K "Field") "is_key") fd
  F_Field_is_parameter : ∃ fd, Fun K "is_parameter" "Field.is_parameter" s_Field_is_parameter (ma K (ga K "Field") "is_parameter") fd
  F_InitOnly_of : ∃ fd, Fun K "of" "InitOnly.of" s_InitOnly_of (He5.wf K (ga K "InitOnly") "classmethod" "of") fd
  F_InitOnly__set_options : ∃ fd, Fun K "_set_options" "InitOnly._set_options" s_InitOnly__set_options (ma K (ga K "InitOnly") "_set_options") fd
  F_InitOnly_is_parameter : ∃ fd, Fun K "is_parameter" "InitOnly.is_parameter" s_InitOnly_is_parameter (ma K (ga K "InitOnly") "is_parameter") fd
  F_Kind_init : ∃ fd, FunD K "__init__" "Kind.__init__" (defArgs s_Kind_init) (defBody s_Kind_init) (defScope s_Kind_init) (He5.DefA.dvs K d_Kind_init) (He5.DefA.kws K d_Kind_init) (ma K (ga K "Kind") "__init__") fd
  F_Kind_of : ∃ fd, FunD K "of" "Kind.of" (defArgs s_Kind_of) (defBody s_Kind_of) (defScope s_Kind_of) (He5.DefA.dvs K d_Kind_of) (He5.DefA.kws K d_Kind_of) (He5.wf K (ga K "Kind") "classmethod" "of") fd
  F_Kind__declare : ∃ fd, Fun K "_declare" "Kind._declare" s_Kind__declare (ma K (ga K "Kind") "_declare") fd
  F_Kind__set_own : ∃ fd, Fun K "_set_own" "Kind._set_own" s_Kind__set_own (ma K (ga K "Kind") "_set_own") fd
  F_Kind__set_options : ∃ fd, Fun K "_set_options" "Kind._set_options" s_Kind__set_options (ma K (ga K "Kind") "_set_options") fd
  F_Kind__set_whole : ∃ fd, Fun K "_set_whole" "Kind._set_whole" s_Kind__set_whole (ma K (ga K "Kind") "_set_whole") fd
  F_Kind_bind : ∃ fd, Fun K "bind" "Kind.bind" s_Kind_bind (ma K (ga K "Kind") "bind") fd
  F_Kind__check_missing : ∃ fd, Fun K "_check_missing" "Kind._check_missing" s_Kind__check_missing (ma K (ga K "Kind") "_check_missing") fd
  F_Kind_build : ∃ fd, Fun K "build" "Kind.build" s_Kind_build (ma K (ga K "Kind") "build") fd
  F_Kind_make : ∃ fd, Fun K "make" "Kind.make" s_Kind_make (ma K (ga K "Kind") "make") fd
  F_Kind_find_hook : ∃ fd, Fun K "find_hook" "Kind.find_hook" s_Kind_find_hook (ma K (ga K "Kind") "find_hook") fd
  F_Kind_find_method : ∃ fd, Fun K "find_method" "Kind.find_method" s_Kind_find_method (ma K (ga K "Kind") "find_method") fd
  F_Kind_is_below : ∃ fd, Fun K "is_below" "Kind.is_below" s_Kind_is_below (ma K (ga K "Kind") "is_below") fd
  F_Kind__first_values : ∃ fd, Fun K "_first_values" "Kind._first_values" s_Kind__first_values (ma K (ga K "Kind") "_first_values") fd
  F__law_mixed : ∃ fd, Fun K "_law_mixed" "_law_mixed" s__law_mixed (ga K "_law_mixed") fd
  F__law_folded : ∃ fd, Fun K "_law_folded" "_law_folded" s__law_folded (ga K "_law_folded") fd
  F__law_draw : ∃ fd, Fun K "_law_draw" "_law_draw" s__law_draw (ga K "_law_draw") fd
  F__law_begun : ∃ fd, Fun K "_law_begun" "_law_begun" s__law_begun (ga K "_law_begun") fd
  F__law_mixed_up : ∃ fd, Fun K "_law_mixed_up" "_law_mixed_up" s__law_mixed_up (ga K "_law_mixed_up") fd
  F__law_line : ∃ fd, Fun K "_law_line" "_law_line" s__law_line (ga K "_law_line") fd
  F__law_gone : ∃ fd, Fun K "_law_gone" "_law_gone" s__law_gone (ga K "_law_gone") fd
  F__law_parts_of : ∃ fd, Fun K "_law_parts_of" "_law_parts_of" s__law_parts_of (ga K "_law_parts_of") fd
  F__law_hooked : ∃ fd, Fun K "_law_hooked" "_law_hooked" s__law_hooked (ga K "_law_hooked") fd
  F__law_is_lost : ∃ fd, Fun K "_law_is_lost" "_law_is_lost" s__law_is_lost (ga K "_law_is_lost") fd
  F__law_right : ∃ fd, Fun K "_law_right" "_law_right" s__law_right (ga K "_law_right") fd
  F_law : ∃ fd, Fun K "law" "law" s_law (ga K "law") fd
theorem txt_of {K : PySem.W.Frag} {mg : Str → Option Value} {h h0 : Heap} (X : K.In h) (G : h.Ns mainGlobals mg) (c0 : HkS.SaysS fa fn fs tf exs h0 K) : Txt K mg := by
  have c := c0.q
  constructor
  · exact glo_ok X G (c.a.fact 0 (f := .glo "line_above") rfl)
  · exact glo_ok X G (c.a.fact 1 (f := .glo "_rows_of") rfl)
  · exact glo_ok X G (c.a.fact 2 (f := .glo "_free_head") rfl)
  · exact glo_ok X G (c.a.fact 3 (f := .glo "_head_of_row_with") rfl)
  · exact glo_ok X G (c.a.fact 4 (f := .glo "_without") rfl)
  · exact glo_ok X G (c.a.fact 5 (f := .glo "is_name") rfl)
  · exact glo_ok X G (c.a.fact 6 (f := .glo "check_members") rfl)
  · exact glo_ok X G (c.a.fact 7 (f := .glo "_name_of") rfl)
  · exact glo_ok X G (c.a.fact 8 (f := .glo "check_options") rfl)
  · exact glo_ok X G (c.a.fact 9 (f := .glo "check_above") rfl)
  · exact glo_ok X G (c.a.fact 10 (f := .glo "check_mixture") rfl)
  · exact glo_ok X G (c.a.fact 11 (f := .glo "check_frozen") rfl)
  · exact glo_ok X G (c.a.fact 12 (f := .glo "check_defaults") rfl)
  · exact glo_ok X G (c.a.fact 13 (f := .glo "whole_members") rfl)
  · exact glo_ok X G (c.a.fact 14 (f := .glo "is_only_named") rfl)
  · exact glo_ok X G (c.a.fact 15 (f := .glo "_check_option") rfl)
  · exact glo_ok X G (c.a.fact 16 (f := .glo "_is_allowed") rfl)
  · exact glo_ok X G (c.a.fact 17 (f := .glo "is_keyable") rfl)
  · exact glo_ok X G (c.a.fact 18 (f := .glo "check_depth") rfl)
  · exact glo_ok X G (c.a.fact 19 (f := .glo "_parts_of") rfl)
  · exact glo_ok X G (c.a.fact 20 (f := .glo "can_be_key") rfl)
  · exact glo_ok X G (c.a.fact 21 (f := .glo "_can_all_be_keys") rfl)
  · exact glo_ok X G (c.a.fact 22 (f := .glo "sort_of") rfl)
  · exact glo_ok X G (c.a.fact 23 (f := .glo "_law_mixed") rfl)
  · exact glo_ok X G (c.a.fact 24 (f := .glo "_law_folded") rfl)
  · exact glo_ok X G (c.a.fact 25 (f := .glo "_law_draw") rfl)
  · exact glo_ok X G (c.a.fact 26 (f := .glo "_law_begun") rfl)
  · exact glo_ok X G (c.a.fact 27 (f := .glo "_law_mixed_up") rfl)
  · exact glo_ok X G (c.a.fact 28 (f := .glo "_law_line") rfl)
  · exact glo_ok X G (c.a.fact 29 (f := .glo "_law_gone") rfl)
  · exact glo_ok X G (c.a.fact 30 (f := .glo "_law_parts_of") rfl)
  · exact glo_ok X G (c.a.fact 31 (f := .glo "_law_hooked") rfl)
  · exact glo_ok X G (c.a.fact 32 (f := .glo "_law_is_lost") rfl)
  · exact glo_ok X G (c.a.fact 33 (f := .glo "_law_right") rfl)
  · exact glo_ok X G (c.a.fact 34 (f := .glo "law") rfl)
  · exact glo_ok X G (c.a.fact 35 (f := .glo "Kind") rfl)
  · exact glo_ok X G (c.a.fact 36 (f := .glo "Lined") rfl)
  · exact glo_ok X G (c.a.fact 37 (f := .glo "Member") rfl)
  · exact glo_ok X G (c.a.fact 38 (f := .glo "Field") rfl)
  · exact glo_ok X G (c.a.fact 39 (f := .glo "InitOnly") rfl)
  · exact glo_ok X G (c.a.fact 40 (f := .glo "Method") rfl)
  · exact glo_ok X G (c.a.fact 41 (f := .glo "Hook") rfl)
  · exact glo_ok X G (c.a.fact 42 (f := .glo "Fielded") rfl)
  · exact glo_ok X G (c.a.fact 43 (f := .glo "Record") rfl)
  · exact glo_ok X G (c.a.fact 44 (f := .glo "NoMethod") rfl)
  · exact glo_ok X G (c.a.fact 45 (f := .glo "BARRED_WORDS") rfl)
  · exact glo_ok X G (c.a.fact 46 (f := .glo "SIMPLE_SORTS") rfl)
  · exact glo_ok X G (c.a.fact 47 (f := .glo "FIELD_OPTIONS") rfl)
  · exact glo_ok X G (c.a.fact 48 (f := .glo "INIT_ONLY_OPTIONS") rfl)
  · exact glo_ok X G (c.a.fact 49 (f := .glo "KIND_OPTIONS") rfl)
  · exact free_ok X G (c.a.fact 50 (f := .free "len") rfl)
  · exact free_ok X G (c.a.fact 51 (f := .free "isinstance") rfl)
  · exact free_ok X G (c.a.fact 52 (f := .free "tuple") rfl)
  · exact free_ok X G (c.a.fact 53 (f := .free "list") rfl)
  · exact free_ok X G (c.a.fact 54 (f := .free "range") rfl)
  · exact free_ok X G (c.a.fact 55 (f := .free "enumerate") rfl)
  · exact free_ok X G (c.a.fact 56 (f := .free "str") rfl)
  · exact free_ok X G (c.a.fact 57 (f := .free "min") rfl)
  · exact free_ok X G (c.a.fact 58 (f := .free "bool") rfl)
  · exact free_ok X G (c.a.fact 59 (f := .free "repr") rfl)
  · exact free_ok X G (c.a.fact 60 (f := .free "super") rfl)
  · exact free_ok X G (c.a.fact 61 (f := .free "int") rfl)
  · exact free_ok X G (c.a.fact 62 (f := .free "type") rfl)
  · exact free_ok X G (c.a.fact 63 (f := .free "zip") rfl)
  · exact free_ok X G (c.a.fact 64 (f := .free "dict") rfl)
  · exact meth_ok (c.a.fact 65 (f := .meth "NoMethod" "__init__") rfl)
  · exact noat_ok (c.a.fact 66 (f := .noat "NoMethod" "name") rfl)
  · exact exm_ok (c.a.fact 67 (f := .exm "NoMethod" "NoMethod" true) rfl)
  · exact mkr_ok (c.a.fact 69 (f := .mkr "Record") rfl)
  · exact meth_ok (c.a.fact 70 (f := .meth "Record" "seal") rfl)
  · exact meth_ok (c.a.fact 71 (f := .meth "Record" "call") rfl)
  · exact meth_ok (c.a.fact 72 (f := .meth "Record" "call_above") rfl)
  · exact meth_ok (c.a.fact 73 (f := .meth "Record" "hook_above") rfl)
  · exact meth_ok (c.a.fact 74 (f := .meth "Record" "_place_behind") rfl)
  · exact meth_ok (c.a.fact 75 (f := .meth "Record" "_call_from") rfl)
  · exact int_ok X G (c.a.fact 68 (f := .int "MAX_VALUES" 5000) rfl)
  · exact int_ok X G (c.a.fact 76 (f := .int "MAX_LENGTH" 40) rfl)
  · exact str_ok X G (c.a.fact 77 (f := .str "DIGITS" digitSigns) rfl)
  · exact str_ok X G (c.a.fact 78 (f := .str "NAME_SIGNS" nameSigns) rfl)
  · exact cls_ok (c.a.fact 79 (f := .cls "Kind") rfl)
  · exact noat_ok (c.a.fact 80 (f := .noat "Kind" "name") rfl)
  · exact noat_ok (c.a.fact 81 (f := .noat "Kind" "above") rfl)
  · exact noat_ok (c.a.fact 82 (f := .noat "Kind" "line") rfl)
  · exact noat_ok (c.a.fact 83 (f := .noat "Kind" "own_hook") rfl)
  · exact noat_ok (c.a.fact 84 (f := .noat "Kind" "own_members") rfl)
  · exact noat_ok (c.a.fact 85 (f := .noat "Kind" "own_methods") rfl)
  · exact noat_ok (c.a.fact 86 (f := .noat "Kind" "equal") rfl)
  · exact noat_ok (c.a.fact 87 (f := .noat "Kind" "order") rfl)
  · exact noat_ok (c.a.fact 88 (f := .noat "Kind" "frozen") rfl)
  · exact noat_ok (c.a.fact 89 (f := .noat "Kind" "only_named") rfl)
  · exact noat_ok (c.a.fact 90 (f := .noat "Kind" "show") rfl)
  · exact noat_ok (c.a.fact 91 (f := .noat "Kind" "_data") rfl)
  · exact noat_ok (c.a.fact 92 (f := .noat "Kind" "_shared") rfl)
  · exact noat_ok (c.a.fact 93 (f := .noat "Kind" "_other_members") rfl)
  · exact noat_ok (c.a.fact 94 (f := .noat "Kind" "fields") rfl)
  · exact noat_ok (c.a.fact 95 (f := .noat "Kind" "field_names") rfl)
  · exact noat_ok (c.a.fact 96 (f := .noat "Kind" "compare_names") rfl)
  · exact noat_ok (c.a.fact 97 (f := .noat "Kind" "show_names") rfl)
  · exact noat_ok (c.a.fact 98 (f := .noat "Kind" "key_names") rfl)
  · exact noat_ok (c.a.fact 99 (f := .noat "Kind" "_init_only") rfl)
  · exact noat_ok (c.a.fact 100 (f := .noat "Kind" "_by_position") rfl)
  · exact noat_ok (c.a.fact 101 (f := .noat "Kind" "_by_name") rfl)
  · exact noat_ok (c.a.fact 102 (f := .noat "Kind" "_parameters") rfl)
  · exact noat_ok (c.a.fact 103 (f := .noat "Kind" "_parameter_names") rfl)
  · exact meth_ok (c.a.fact 104 (f := .meth "Kind" "_declare") rfl)
  · exact meth_ok (c.a.fact 105 (f := .meth "Kind" "_set_own") rfl)
  · exact meth_ok (c.a.fact 106 (f := .meth "Kind" "_set_options") rfl)
  · exact meth_ok (c.a.fact 107 (f := .meth "Kind" "_set_whole") rfl)
  · exact meth_ok (c.a.fact 108 (f := .meth "Kind" "bind") rfl)
  · exact meth_ok (c.a.fact 109 (f := .meth "Kind" "_check_missing") rfl)
  · exact meth_ok (c.a.fact 110 (f := .meth "Kind" "build") rfl)
  · exact meth_ok (c.a.fact 111 (f := .meth "Kind" "make") rfl)
  · exact meth_ok (c.a.fact 112 (f := .meth "Kind" "find_hook") rfl)
  · exact meth_ok (c.a.fact 113 (f := .meth "Kind" "find_method") rfl)
  · exact meth_ok (c.a.fact 114 (f := .meth "Kind" "is_below") rfl)
  · exact meth_ok (c.a.fact 115 (f := .meth "Kind" "_first_values") rfl)
  · exact mkr_ok (c.a.fact 116 (f := .mkr "Kind") rfl)
  · exact cls_ok (c.a.fact 117 (f := .cls "Field") rfl)
  · exact noat_ok (c.a.fact 118 (f := .noat "Field" "name") rfl)
  · exact noat_ok (c.a.fact 119 (f := .noat "Field" "has_default") rfl)
  · exact noat_ok (c.a.fact 120 (f := .noat "Field" "default") rfl)
  · exact noat_ok (c.a.fact 121 (f := .noat "Field" "has_factory") rfl)
  · exact noat_ok (c.a.fact 122 (f := .noat "Field" "factory") rfl)
  · exact noat_ok (c.a.fact 123 (f := .noat "Field" "init") rfl)
  · exact noat_ok (c.a.fact 124 (f := .noat "Field" "compare") rfl)
  · exact noat_ok (c.a.fact 125 (f := .noat "Field" "show") rfl)
  · exact noat_ok (c.a.fact 126 (f := .noat "Field" "key") rfl)
  · exact noat_ok (c.a.fact 127 (f := .noat "Field" "only_named") rfl)
  · exact meth_ok (c.a.fact 128 (f := .meth "Field" "_set_options") rfl)
  · exact meth_ok (c.a.fact 129 (f := .meth "Field" "is_key") rfl)
  · exact meth_ok (c.a.fact 130 (f := .meth "Field" "is_parameter") rfl)
  · exact mkr_ok (c.a.fact 131 (f := .mkr "Field") rfl)
  · exact cls_ok (c.a.fact 132 (f := .cls "InitOnly") rfl)
  · exact noat_ok (c.a.fact 133 (f := .noat "InitOnly" "name") rfl)
  · exact noat_ok (c.a.fact 134 (f := .noat "InitOnly" "has_default") rfl)
  · exact noat_ok (c.a.fact 135 (f := .noat "InitOnly" "default") rfl)
  · exact noat_ok (c.a.fact 136 (f := .noat "InitOnly" "has_factory") rfl)
  · exact noat_ok (c.a.fact 137 (f := .noat "InitOnly" "only_named") rfl)
  · exact meth_ok (c.a.fact 138 (f := .meth "InitOnly" "_set_options") rfl)
  · exact meth_ok (c.a.fact 139 (f := .meth "InitOnly" "is_parameter") rfl)
  · exact mkr_ok (c.a.fact 140 (f := .mkr "InitOnly") rfl)
  · exact cls_ok (c.a.fact 141 (f := .cls "Method") rfl)
  · exact noat_ok (c.a.fact 142 (f := .noat "Method" "name") rfl)
  · exact noat_ok (c.a.fact 143 (f := .noat "Method" "function") rfl)
  · exact mkr_ok (c.a.fact 144 (f := .mkr "Method") rfl)
  · exact cls_ok (c.a.fact 145 (f := .cls "Hook") rfl)
  · exact noat_ok (c.a.fact 146 (f := .noat "Hook" "function") rfl)
  · exact mkr_ok (c.a.fact 147 (f := .mkr "Hook") rfl)
  · exact fun H => tupB_ok (x := "BARRED_WORDS") (vs := barred.map He.Dv.str) (c.ex 0 (f := x0) rfl) H
  · exact fun H => tupB_ok (x := "SIMPLE_SORTS") (vs := simpleSorts.map He.Dv.str) (c.ex 1 (f := x1) rfl) H
  · exact fun H => tupB_ok (x := "FIELD_OPTIONS") (vs := fieldOpts.map He.Dv.str) (c.ex 2 (f := x2) rfl) H
  · exact fun H => tupB_ok (x := "INIT_ONLY_OPTIONS") (vs := initOpts.map He.Dv.str) (c.ex 3 (f := x3) rfl) H
  · exact fun H => tupB_ok (x := "KIND_OPTIONS") (vs := kindOpts.map He.Dv.str) (c.ex 4 (f := x4) rfl) H
  · exact conB_ok (C := "Kind") (f := "MAX_MEMBERS") (v := .int 16) (c.ex 5 (f := x5) rfl)
  · exact conB_ok (C := "Kind") (f := "MAX_LINE") (v := .int 12) (c.ex 6 (f := x6) rfl)
  · exact conB_ok (C := "Field") (f := "SORT") (v := .str "data") (c.ex 7 (f := x7) rfl)
  · exact conB_ok (C := "InitOnly") (f := "SORT") (v := .str "data") (c.ex 8 (f := x8) rfl)
  · exact conB_ok (C := "Method") (f := "SORT") (v := .str "method") (c.ex 9 (f := x9) rfl)
  · exact creadB_ok (c.ex 10 (f := x10) rfl)
  · exact He5.cmet_of (He.ba (show ofB K (kC K) = true from (c.ex 11 (f := x11) rfl))).1 (He.ba (show ofB K (kC K) = true from (c.ex 11 (f := x11) rfl))).2
  · exact creadB_ok (c.ex 12 (f := x12) rfl)
  · exact He5.cmet_of (He.ba (show ofB K (kF K) = true from (c.ex 13 (f := x13) rfl))).1 (He.ba (show ofB K (kF K) = true from (c.ex 13 (f := x13) rfl))).2
  · exact creadB_ok (c.ex 14 (f := x14) rfl)
  · exact He5.cmet_of (He.ba (show ofB K (kI K) = true from (c.ex 15 (f := x15) rfl))).1 (He.ba (show ofB K (kI K) = true from (c.ex 15 (f := x15) rfl))).2
  · exact idcB_ok (c.ex 16 (f := x16) rfl)
  · exact idcB_ok (c.ex 17 (f := x17) rfl)
  · exact (c.ex 18 (f := x18) rfl)
  · exact (c.ex 19 (f := x19) rfl)
  · exact (c.ex 20 (f := x20) rfl)
  · exact (c.ex 21 (f := x21) rfl)
  · exact (c.ex 22 (f := x22) rfl)
  · exact of_decide_eq_true (c.ex 23 (f := x23) rfl)
  · exact of_decide_eq_true (c.ex 24 (f := x24) rfl)
  · exact of_decide_eq_true (c.ex 25 (f := x25) rfl)
  · exact of_decide_eq_true (c.ex 26 (f := x26) rfl)
  · exact of_decide_eq_true (c.ex 27 (f := x27) rfl)
  · exact of_decide_eq_true (c.ex 28 (f := x28) rfl)
  · exact of_decide_eq_true (c.ex 29 (f := x29) rfl)
  · exact of_decide_eq_true (c.ex 30 (f := x30) rfl)
  · exact of_decide_eq_true (c.ex 31 (f := x31) rfl)
  · exact slsB_ok (c.ex 32 (f := x32) rfl)
  · exact slB_ok (c.ex 33 (f := x33) rfl)
  · exact slB_ok (c.ex 34 (f := x34) rfl)
  · exact slB_ok (c.ex 35 (f := x35) rfl)
  · exact of_decide_eq_true (c.ex 36 (f := x36) rfl)
  · exact of_decide_eq_true (c.ex 37 (f := x37) rfl)
  · exact of_decide_eq_true (c.ex 38 (f := x38) rfl)
  · exact of_decide_eq_true (c.ex 39 (f := x39) rfl)
  · exact of_decide_eq_true (c.ex 40 (f := x40) rfl)
  · exact of_decide_eq_true (c.ex 41 (f := x41) rfl)
  · exact fun H => emptyTup_ok (c.ex 42 (f := x42) rfl) H
  · exact fun H => emptyTup_ok (c.ex 43 (f := x43) rfl) H
  · exact HkQ.oexB_ok (c.ex 44 (f := x44) rfl)
  · exact xfB_ok (c.ex 45 (f := x45) rfl)
  · exact of_decide_eq_true (c.ex 46 (f := x46) rfl)
  · exact (c.ex 47 (f := x47) rfl)
  · exact fun P hf => HkS.supD_of (C := fun K => kF K) (M := fun K => kMi K) hf (c0.at_ 0 (d := d_Field_init) rfl) (c.ex 48 (f := x48) rfl) (c.ex 49 (f := x49) rfl)
  · exact fun P hf => HkS.supD_of (C := fun K => kI K) (M := fun K => kMi K) hf (c0.at_ 1 (d := d_InitOnly_init) rfl) (c.ex 50 (f := x50) rfl) (c.ex 51 (f := x51) rfl)
  · exact fun P hf => HkS.supD_of (C := fun K => kM K) (M := fun K => kMi K) hf (c0.at_ 2 (d := d_Method_init) rfl) (c.ex 52 (f := x52) rfl) (c.ex 53 (f := x53) rfl)
  · exact (c.a.def_ 0 (d := d_NoMethod_init) rfl).imp fun fd F => He5.fun_of F
  · exact (c.a.def_ 1 (d := d_Hook_init) rfl).imp fun fd F => He5.fun_of F
  · exact (c.a.def_ 2 (d := d_Record_init) rfl).imp fun fd F => He5.fun_of F
  · exact (c.a.def_ 3 (d := d_Record_seal) rfl).imp fun fd F => He5.fun_of F
  · exact (c.a.def_ 4 (d := d_Record_call) rfl).imp fun fd F => He5.fun_of F
  · exact (c.a.def_ 5 (d := d_Record_call_above) rfl).imp fun fd F => He5.fun_of F
  · exact (c.a.def_ 6 (d := d_Record_hook_above) rfl).imp fun fd F => He5.fun_of F
  · exact (c.a.def_ 7 (d := d_Record__place_behind) rfl).imp fun fd F => He5.fun_of F
  · exact (c.a.def_ 8 (d := d_Record__call_from) rfl).imp fun fd F => He5.fun_of F
  · exact (c.a.def_ 9 (d := d_line_above) rfl).imp fun fd F => He5.fun_of F
  · exact (c.a.def_ 10 (d := d__rows_of) rfl).imp fun fd F => He5.fun_of F
  · exact (c.a.def_ 11 (d := d__free_head) rfl).imp fun fd F => He5.fun_of F
  · exact (c.a.def_ 12 (d := d__head_of_row_with) rfl).imp fun fd F => He5.fun_of F
  · exact (c.a.def_ 13 (d := d__without) rfl).imp fun fd F => He5.fun_of F
  · exact (c.a.def_ 14 (d := d_is_name) rfl).imp fun fd F => He5.fun_of F
  · exact (c.a.def_ 15 (d := d_check_members) rfl).imp fun fd F => He5.fun_of F
  · exact (c.a.def_ 16 (d := d__name_of) rfl).imp fun fd F => He5.fun_of F
  · exact (c.a.def_ 17 (d := d_check_options) rfl).imp fun fd F => He5.fun_of F
  · exact (c.a.def_ 18 (d := d_check_above) rfl).imp fun fd F => He5.fun_of F
  · exact (c.a.def_ 19 (d := d_check_mixture) rfl).imp fun fd F => He5.fun_of F
  · exact (c.a.def_ 20 (d := d_check_frozen) rfl).imp fun fd F => He5.fun_of F
  · exact (c.a.def_ 21 (d := d_check_defaults) rfl).imp fun fd F => He5.fun_of F
  · exact (c.a.def_ 22 (d := d_whole_members) rfl).imp fun fd F => He5.fun_of F
  · exact (c.a.def_ 23 (d := d_is_only_named) rfl).imp fun fd F => He5.fun_of F
  · exact (c.a.def_ 24 (d := d__check_option) rfl).imp fun fd F => He5.fun_of F
  · exact (c.a.def_ 25 (d := d__is_allowed) rfl).imp fun fd F => He5.fun_of F
  · exact (c.a.def_ 26 (d := d_is_keyable) rfl).imp fun fd F => He5.fun_of F
  · exact (c.a.def_ 27 (d := d_check_depth) rfl).imp fun fd F => He5.fun_of F
  · exact (c.a.def_ 28 (d := d__parts_of) rfl).imp fun fd F => He5.fun_of F
  · exact (c.a.def_ 29 (d := d_can_be_key) rfl).imp fun fd F => He5.fun_of F
  · exact (c.a.def_ 30 (d := d__can_all_be_keys) rfl).imp fun fd F => He5.fun_of F
  · exact (c.a.def_ 31 (d := d_sort_of) rfl).imp fun fd F => He5.fun_of F
  · exact (c.a.def_ 32 (d := d_Member_init) rfl).imp fun fd F => He5.fun_of F
  · exact (c.a.def_ 33 (d := d_Field_of) rfl).imp fun fd F => He5.fun_of F
  · exact (c.a.def_ 34 (d := d_Field__set_options) rfl).imp fun fd F => He5.fun_of F
  · exact (c.a.def_ 35 (d := d_Field_is_key) rfl).imp fun fd F => He5.fun_of F
  · exact (c.a.def_ 36 (d := d_Field_is_parameter) rfl).imp fun fd F => He5.fun_of F
  · exact (c.a.def_ 37 (d := d_InitOnly_of) rfl).imp fun fd F => He5.fun_of F
  · exact (c.a.def_ 38 (d := d_InitOnly__set_options) rfl).imp fun fd F => He5.fun_of F
  · exact (c.a.def_ 39 (d := d_InitOnly_is_parameter) rfl).imp fun fd F => He5.fun_of F
  · exact c.a.def_ 40 (d := d_Kind_init) rfl
  · exact c.a.def_ 41 (d := d_Kind_of) rfl
  · exact (c.a.def_ 42 (d := d_Kind__declare) rfl).imp fun fd F => He5.fun_of F
  · exact (c.a.def_ 43 (d := d_Kind__set_own) rfl).imp fun fd F => He5.fun_of F
  · exact (c.a.def_ 44 (d := d_Kind__set_options) rfl).imp fun fd F => He5.fun_of F
  · exact (c.a.def_ 45 (d := d_Kind__set_whole) rfl).imp fun fd F => He5.fun_of F
  · exact (c.a.def_ 46 (d := d_Kind_bind) rfl).imp fun fd F => He5.fun_of F
  · exact (c.a.def_ 47 (d := d_Kind__check_missing) rfl).imp fun fd F => He5.fun_of F
  · exact (c.a.def_ 48 (d := d_Kind_build) rfl).imp fun fd F => He5.fun_of F
  · exact (c.a.def_ 49 (d := d_Kind_make) rfl).imp fun fd F => He5.fun_of F
  · exact (c.a.def_ 50 (d := d_Kind_find_hook) rfl).imp fun fd F => He5.fun_of F
  · exact (c.a.def_ 51 (d := d_Kind_find_method) rfl).imp fun fd F => He5.fun_of F
  · exact (c.a.def_ 52 (d := d_Kind_is_below) rfl).imp fun fd F => He5.fun_of F
  · exact (c.a.def_ 53 (d := d_Kind__first_values) rfl).imp fun fd F => He5.fun_of F
  · exact (c.a.def_ 54 (d := d__law_mixed) rfl).imp fun fd F => He5.fun_of F
  · exact (c.a.def_ 55 (d := d__law_folded) rfl).imp fun fd F => He5.fun_of F
  · exact (c.a.def_ 56 (d := d__law_draw) rfl).imp fun fd F => He5.fun_of F
  · exact (c.a.def_ 57 (d := d__law_begun) rfl).imp fun fd F => He5.fun_of F
  · exact (c.a.def_ 58 (d := d__law_mixed_up) rfl).imp fun fd F => He5.fun_of F
  · exact (c.a.def_ 59 (d := d__law_line) rfl).imp fun fd F => He5.fun_of F
  · exact (c.a.def_ 60 (d := d__law_gone) rfl).imp fun fd F => He5.fun_of F
  · exact (c.a.def_ 61 (d := d__law_parts_of) rfl).imp fun fd F => He5.fun_of F
  · exact (c.a.def_ 62 (d := d__law_hooked) rfl).imp fun fd F => He5.fun_of F
  · exact (c.a.def_ 63 (d := d__law_is_lost) rfl).imp fun fd F => He5.fun_of F
  · exact (c.a.def_ 64 (d := d__law_right) rfl).imp fun fd F => He5.fun_of F
  · exact (c.a.def_ 65 (d := d_law) rfl).imp fun fd F => He5.fun_of F
/-- the program is this text -/
structure ProgOk (P : Program) : Prop where
  file : ((P.main.file : Str) == fileOf) = true
  top : (P.main.scope.names.lookup ("super" : Str)).isSome = false
end K17
end

section
set_option Elab.async false
set_option linter.all false
set_option maxRecDepth 100000
set_option maxHeartbeats 0
namespace K17
open PySem PySem.Spec PyProof.Rows L2 He
abbrev R : PySem.W.OpenRow := PySem.W.OpenLaw.row PySem.Challenge.rw_recordcraft_k17_whole_cooperation
abbrev qv : Program := PySem.W.view R.prog [96]
def names0 : List PySem.Str := [("_wall" : PySem.Str), ("__name__" : PySem.Str), ("RecordcraftError" : PySem.Str), ("InvalidMember" : PySem.Str), ("InvalidKind" : PySem.Str), ("TooManyValues" : PySem.Str), ("UnknownName" : PySem.Str), ("GivenTwice" : PySem.Str), ("MissingNames" : PySem.Str), ("NoField" : PySem.Str)]
def names1 : List PySem.Str := [("Unset" : PySem.Str), ("Frozen" : PySem.Str), ("NoShared" : PySem.Str), ("NoMethod" : PySem.Str), ("NotInLine" : PySem.Str), ("NotOrdered" : PySem.Str), ("TooDeep" : PySem.Str), ("Lined" : PySem.Str), ("line_above" : PySem.Str), ("_rows_of" : PySem.Str)]
def names2 : List PySem.Str := [("_free_head" : PySem.Str), ("_head_of_row_with" : PySem.Str), ("_without" : PySem.Str), ("_ring_in" : PySem.Str), ("MAX_LENGTH" : PySem.Str), ("DIGITS" : PySem.Str), ("NAME_SIGNS" : PySem.Str), ("BARRED_WORDS" : PySem.Str), ("is_name" : PySem.Str), ("MAX_LEVELS" : PySem.Str)]
def names3 : List PySem.Str := [("MAX_VALUES" : PySem.Str), ("WIDE" : PySem.Str), ("SIMPLE_SORTS" : PySem.Str), ("Fielded" : PySem.Str), ("sort_of" : PySem.Str), ("_sort_of_others" : PySem.Str), ("check_depth" : PySem.Str), ("_check_levels" : PySem.Str), ("_check_first_parts" : PySem.Str), ("_parts_of" : PySem.Str)]
def names4 : List PySem.Str := [("can_be_key" : PySem.Str), ("_can_all_be_keys" : PySem.Str), ("_can_record_be_key" : PySem.Str), ("ORDERED_SORTS" : PySem.Str), ("is_equal" : PySem.Str), ("are_records_equal" : PySem.Str), ("order_of" : PySem.Str), ("order_of_records" : PySem.Str), ("_are_items_equal" : PySem.Str), ("_are_dicts_equal" : PySem.Str)]
def names5 : List PySem.Str := [("_order_of_items" : PySem.Str), ("Record" : PySem.Str), ("is_keyable" : PySem.Str), ("_order_of_records" : PySem.Str), ("FIELD_OPTIONS" : PySem.Str), ("INIT_ONLY_OPTIONS" : PySem.Str), ("Member" : PySem.Str), ("Field" : PySem.Str), ("InitOnly" : PySem.Str), ("Method" : PySem.Str)]
def names6 : List PySem.Str := [("Hook" : PySem.Str), ("_check_option" : PySem.Str), ("_is_allowed" : PySem.Str), ("KIND_OPTIONS" : PySem.Str), ("check_members" : PySem.Str), ("_name_of" : PySem.Str), ("check_options" : PySem.Str), ("check_above" : PySem.Str), ("check_mixture" : PySem.Str), ("check_frozen" : PySem.Str)]
def names7 : List PySem.Str := [("declares_fields" : PySem.Str), ("check_defaults" : PySem.Str), ("whole_members" : PySem.Str), ("is_only_named" : PySem.Str), ("Kind" : PySem.Str), ("_law_mixed" : PySem.Str), ("_law_folded" : PySem.Str), ("_law_draw" : PySem.Str), ("_law_begun" : PySem.Str), ("_law_mixed_up" : PySem.Str)]
def names8 : List PySem.Str := [("_law_line" : PySem.Str), ("_law_gone" : PySem.Str), ("_law_parts_of" : PySem.Str), ("_law_hooked" : PySem.Str), ("_law_is_lost" : PySem.Str), ("_law_right" : PySem.Str)]
def names : List PySem.Str := names0 ++ names1 ++ names2 ++ names3 ++ names4 ++ names5 ++ names6 ++ names7 ++ names8
def al0 : List Addr := [2, 3, 30, 31, 239, 240, 242, 243, 297, 298, 308, 309, 313, 314, 320, 321, 327, 328, 332, 333]
def al1 : List Addr := [341, 347, 348, 349, 360, 361, 369, 370, 383, 384, 404, 405, 411, 412, 418, 419, 490, 491, 505, 506]
def al2 : List Addr := [585, 586, 592, 593, 599, 600, 606, 607, 613, 614, 666, 667, 668, 669, 670, 678, 679, 687, 688, 701]
def al3 : List Addr := [702, 704, 705, 713, 724, 725, 731, 732, 734, 741, 742, 748, 749, 755, 756, 765, 766, 772, 783, 784]
def al4 : List Addr := [790, 791, 793, 800, 801, 807, 808, 817, 818, 824, 835, 836, 838, 839, 854, 855, 857, 858, 868, 869]
def al5 : List Addr := [875, 876, 877, 883, 884, 890, 891, 897, 898, 904, 905, 911, 912, 918, 919, 930, 931, 937, 938, 944]
def al6 : List Addr := [945, 953, 954, 960, 961, 962, 963, 969, 970, 972, 979, 980, 984, 985, 991, 992, 996, 997, 1003, 1004]
def al7 : List Addr := [1017, 1018, 1024, 1025, 1043, 1044, 1048, 1049, 1055, 1056, 1060, 1061, 1067, 1068, 1070, 1071, 1079, 1080, 1084, 1085]
def al8 : List Addr := [1091, 1092, 1096, 1097, 1103, 1104, 1108, 1109, 1115, 1116, 1122, 1123, 1129, 1130, 1136, 1137, 1141, 1142, 1146, 1147]
def al : List Addr := al0 ++ al1 ++ al2 ++ al3 ++ al4 ++ al5 ++ al6 ++ al7 ++ al8
abbrev hk : PySem.W.Hook := HkS.hookS al fa fn fs tf exs
def ob (s : PySem.W.SharedT) : HkS.AlS := HkS.obsS al fa fn fs tf exs (HandSHeadRun.getT s)
theorem ob_eq (s : PySem.W.SharedT) : ob s = hk.obs s.abs := HkS.obsS_eq (HandSHeadRun.getT_eq s)
theorem run (w : World) : HandSHeadRun.RunEq R qv hk ob 20000 names w := by
  intro os
  kernel_rfl
end K17
end

section
set_option Elab.async false
set_option linter.all false
set_option maxRecDepth 100000
set_option maxHeartbeats 2000000
/-! a def by its global name, with its promise and how it binds -/
namespace Cn
open PySem L2
structure Can (P : Program) (w : World) (K : PySem.W.Frag) (mg : Str → Option Value) (base : Heap) (CX : CXT) (k : Nat) (x : Str) (ps : List Str) (sp : Sp) : Prop where
  ex : ∃ f fd, mg x = some (.ref f) ∧ FnOk P w K mg base CX k f fd ps sp ∧ PySem.W.keepIn K (.ref f) = true ∧ Binds K fd ps []
section
variable {X : Cx} {CX : CXT} {k j : Nat} {ps : List Str} {sp : Sp} {E : XK} {x : Str} {p pos : Pos} {e : Expr} {es : List Expr} {t : TA}
theorem room_le {A : Around} (h : j ≤ k) (hr : Room k A) : Room j A := hr.mono h
theorem pe_can (C : Can X.prog X.w X.K X.mg X.base CX j x ps sp) (hr : Room k X.A) (hx : Passes CX X E) (ha : PA X (e :: es) t) (hjk : j ≤ k := by decide) (hg : Gl X x := by rfl)
    (hdb : (x == ("__debug__" : Str)) = false := by decide) (he : starEach (e :: es) X.env = (false, eval e X.env) :: starEach es X.env := by rfl) (hpl : (backTo pos (starEach es X.env)).any (·.1) = false := by rfl) :
    PE X (.Call (.Name x p) (e :: es) [] pos) (tCall sp [] E t) := by
  obtain ⟨f, fd, hm, F, kp, b⟩ := C.ex
  exact pe_call F (hr.mono hjk) hg hm kp b .nil hx ha hdb he hpl
end
theorem can_of {P : Program} {w : World} {K : PySem.W.Frag} {mg : Str → Option Value} {base : Heap} {CX : CXT} {k : Nat} {x qual : Str} {ps : List Str} {sp : Sp} {st : Stmt} {f : Addr} (hm : mg x = some (.ref f)) (F : ∃ fd, Fun K x qual st f fd)
    (h : ∀ fd, Fun K x qual st f fd → FnOk P w K mg base CX k f fd ps sp)
    (hb : ∀ (kV doc pm : Value) (an : Option Addr) (cdv ct : Value) (us : List Value), us.length = ps.length → bindArgs (PySem.W.fnOf x qual (defArgs st) (defBody st) (defScope st) .none kV doc pm an cdv ct) ⟨us, []⟩ = pure (ps.zip us)) : Can P w K mg base CX k x ps sp := by
  obtain ⟨fd, F⟩ := F
  exact ⟨f, fd, hm, h fd F, F.kp, F.binds hb⟩
end Cn
end

section
set_option Elab.async false
set_option linter.all false
set_option maxRecDepth 100000
set_option maxHeartbeats 4000000
namespace K17
open PySem PySem.Spec PyProof.Rows L2 He Cn Evl
section
variable {P : Program} {w : World} {K : PySem.W.Frag} {mg : Str → Option Value} {base : Heap}
/-! ### the law's numbers -/
def spMixed : Sp := fun vs H Q _ => ∃ c n : Int, vs = [.int c, .int n] ∧ 0 ≤ n ∧ n < 1000000 ∧ ∀ r : Int, 0 ≤ r → r < 2147483647 → Q (.int r) H
theorem can_mixed (T : Txt K mg) : Can P w K mg base CX0 1 "_law_mixed" ["cell", "n"] spMixed := by
  refine can_of T.g__law_mixed T.F__law_mixed (fun fd F => ?_) (fun _ _ _ _ _ _ us hl => match us, hl with | [_, _], _ => rfl)
  refine F.ok sc__law_mixed (fun vs H Q E h => ?_) (fun cdv A outer s H vs Q E hr h => ?_)
  · obtain ⟨c, n, rfl, _⟩ := h
    rfl
  · obtain ⟨c, n, rfl, h0, h1, k⟩ := h
    refine ⟨_, pss_cons (ps_set (i := 2) sc__law_mixed.nd rfl (.inl rfl) (pe_op op_add (pe_op op_add (pe_op op_mod (pe_op op_mul (pe_op op_mul (pv 0) (pe_op op_add pe_int (pe_op op_mul pe_int (pv 1)))) pe_int) pe_int) (pe_op op_mul (pe_op op_mul pe_int (pv 1)) (pv 1))) (pe_op op_mul pe_int (pv 1))))
      (pss_one (ps_ret (pe_op op_fdiv (pe_op op_mod (pe_op op_mul (pv 2) pe_int) pe_int) pe_int))), ?_⟩
    have n64 : -(2 ^ 64) < n ∧ n < 2 ^ 64 := ⟨by omega, by omega⟩
    refine ⟨_, rfl, _, rfl, _, _, rfl, rfl, .inr n64, _, _, rfl, rfl, _, _, rfl, rfl, .inr ⟨by omega, by omega⟩, _, _, rfl, rfl, .inr ⟨by decide, by decide⟩, _, _, rfl, rfl, (by show (0 : Int) < 2147483647; decide),
      _, rfl, _, _, rfl, rfl, .inl ⟨by decide, by decide⟩, _, rfl, _, _, rfl, rfl, .inr n64, _, _, rfl, rfl, _, rfl, _, _, rfl, rfl, .inl ⟨by decide, by decide⟩, _, _, rfl, rfl, ?_⟩
    refine ⟨_, rfl, _, _, rfl, rfl, .inr ⟨by decide, by decide⟩, _, _, rfl, rfl, (by show (0 : Int) < 2147483629; decide), _, _, rfl, rfl, ⟨by decide, by decide⟩, ?_⟩
    exact k _ (by omega) (by omega)
/-- 64 numbers below 2147483647 -/
def FoldAt (H : Hp) (p : Addr) : Prop := ∃ xs : List Int, xs.length = 64 ∧ (∀ x, x ∈ xs → 0 ≤ x ∧ x < 2147483647) ∧ H p = some (.lst (xs.map V.int))
def spFolded (K : PySem.W.Frag) : Sp := fun vs H Q _ => ∃ (a : Addr) (ns : List Int), vs = [.ref a] ∧ SqL K H a (ns.map V.int) ∧ ns.length ≤ 63 ∧ ∀ p H', H p = none → Ex H H' → FoldAt H' p → Q (.ref p) H'
theorem fold_at {xs : List Int} (h : xs.length = 64) {j : Nat} (hj : j < 64) : ∃ x, xs[j]? = some x := ⟨xs[j]'(by omega), List.getElem?_eq_getElem (by omega)⟩
theorem map_at {xs : List Int} {j : Nat} {x : Int} (h : xs[j]? = some x) : (xs.map V.int)[j]? = some (V.int x) := by rw [List.getElem?_map, h] <;> rfl
theorem fold_set {xs : List Int} {j : Nat} {y : Int} (h : ∀ x, x ∈ xs → 0 ≤ x ∧ x < 2147483647) (hy : 0 ≤ y ∧ y < 2147483647) : ∀ x, x ∈ xs.set j y → 0 ≤ x ∧ x < 2147483647 := fun x hx => by
  rcases List.mem_or_eq_of_mem_set hx with q | q
  · exact h x q
  · rw [q]; exact hy
theorem can_folded (T : Txt K mg) : Can P w K mg base CX0 1 "_law_folded" ["script"] (spFolded K) := by
  refine can_of T.g__law_folded T.F__law_folded (fun fd F => ?_) (fun _ _ _ _ _ _ us hl => match us, hl with | [_], _ => rfl)
  refine F.ok sc__law_folded (fun vs H Q E h => ?_) (fun cdv A outer s H vs Q E hr h => ?_)
  · obtain ⟨c, n, rfl, _⟩ := h
    rfl
  · obtain ⟨a, ns, rfl, hS, hlen, k⟩ := h
    have nd := sc__law_folded.nd
    refine ⟨_, pss_cons (ps_setLc (i := 2) (own := [("n", 1)]) (g := gName 1) (tt := tYes) rfl nd rfl rfl (sw_true rfl rfl rfl (by decide +kernel)) (pi_range1 rfl T.n_range (pa_cons pe_int pa_nil)) (blkOk_by (N := ["script", "n", "found", "cell"]) (sc := defScope s__law_folded) (by decide +kernel)) (fun _ _ _ _ _ => pg_name (i := 1) nd rfl (.inl rfl)) (fun _ _ _ _ _ => pts_nil) (fun _ _ _ _ _ => pe_op op_add pe_int (pv 1)))
      (pss_cons (ps_for PassesOwn.never rfl (pi_enum (by rfl) T.n_enumerate (pa_cons (pv 0) pa_nil)) (pg_tup rfl (pgs_cons (pg_name (i := 1) nd rfl (.inl rfl)) (pgs_cons (pg_name (i := 3) nd rfl (.inl rfl)) pgs_nil)))
        (pss_one (ps_asg (pe_op op_mod (pe_op op_add (pe_op op_mul (pe_ix ix_list (pv 2) (pe_op op_mod (pv 1) pe_int) (fun _ _ => rfl)) pe_int) (pv 3)) pe_int) (pg_sub (pv 2) (pe_op op_mod (pv 1) pe_int) set_list))))
      (pss_cons (ps_for PassesOwn.never rfl (pi_range2 rfl T.n_range (pa_cons pe_int (pa_cons pe_int pa_nil))) (pg_name (i := 1) nd rfl (.inl rfl))
        (pss_one (ps_asg (pe_op op_mod (pe_op op_add (pe_ix ix_list (pv 2) (pv 1) (fun _ _ => rfl)) (pe_op op_mul (pe_ix ix_list (pv 2) (pe_op op_sub (pv 1) pe_int) (fun _ _ => rfl)) pe_int)) pe_int) (pg_sub (pv 2) (pv 1) set_list))))
      (pss_one (ps_ret (pv 2))))), ?_⟩
    refine q_asgL (el_lcR1 (n := 64) (fun _ => true) (fun i => .int (17 + (i : Int))) (ea_cons ev_c ea_nil) (by decide) (fun x => rfl) (fun i H1 _ _ => ?_) (fun i H1 _ _ _ => ev_op ev_c (ev_var rfl) rv_I0)) fun p H1 hp e1 h1 => ?_
    · exact fun H2 _ Q q => q H2 (Ex.refl H2)
    have f1 : FoldAt H1 p := ⟨(List.range 64).map (fun (i : Nat) => 17 + (i : Int)), by simp, fun x hx => by
      obtain ⟨i, hi, rfl⟩ := List.mem_map.mp hx
      have := List.mem_range.mp hi
      omega, by rw [h1, List.map_map] <;> rfl⟩
    have keep : ∀ {H2 : Hp} {xs : List Int} {j : Nat} {y : Int}, Ex H H2 → xs.length = 64 → (∀ x, x ∈ xs → 0 ≤ x ∧ x < 2147483647) → (0 ≤ y ∧ y < 2147483647) → Ex H (upd H2 p (.lst ((xs.map V.int).set j (.int y)))) ∧ FoldAt (upd H2 p (.lst ((xs.map V.int).set j (.int y)))) p := fun {H2 xs j y} e l b hy => by
      refine ⟨Ex.mut e hp, xs.set j y, by rw [List.length_set]; exact l, fold_set b hy, ?_⟩
      rw [upd_same, List.map_set]
    have ix : ∀ {H2 : Hp} {xs : List Int} {σ : L2.St} {j : Nat} {x : Int} {tb : TE}, H2 p = some (.lst (xs.map V.int)) → σ[2]? = some (some (.ref p)) → Ev tb σ H2 (.int (j : Int)) → xs[j]? = some x → Ev (tOp (rIxL K) (tVar 2) tb) σ H2 (.int x) := fun h hv ht hx =>
      ev_op (ev_var hv) ht (rv_ixL (sq_of h) (at_of rfl (map_at hx)))
    refine ⟨_, rfl, a, _, rfl, ex_l e1 hS, for_it walk_enum (fun i σ H2 => Ex H H2 ∧ FoldAt H2 p ∧ ∃ v1 v3, σ = [some (.ref a), v1, some (.ref p), v3]) ⟨e1, f1, _, _, rfl⟩ (fun i σ H2 _ q => ex_l q.1 hS) ?_ ?_⟩
    · rintro i x σ H2 H3 hi ⟨e2, ⟨xs, lx, bx, hx⟩, v1, v3, rfl⟩ ⟨T, y, z, rfl, hT, rfl, hy, hz⟩
      obtain rfl := Option.some.inj hy
      obtain ⟨c, hc, rfl⟩ : ∃ c, ns[i]? = some c ∧ V.int c = z := by
        have hz : (ns.map V.int)[i]? = some z := hz
        rw [List.getElem?_map] at hz
        cases e : ns[i]? with
        | none => rw [e] at hz; cases hz
        | some c => rw [e] at hz; exact ⟨c, rfl, Option.some.inj hz⟩
      have hi64 : i < 64 := by rw [List.length_map] at hi; omega
      obtain ⟨x0, hx0⟩ := fold_at lx hi64
      have bx0 := bx x0 (List.mem_of_getElem? hx0)
      have hp3 : upd H2 T (.tup [.int (i : Nat), .int c]) p = some (.lst (xs.map V.int)) := by rw [upd_ne (ne_of_none hx hT)]; exact hx
      have e3 : Ex H (upd H2 T (.tup [.int (i : Nat), .int c])) := e2.trans (Ex.new hT)
      have hm : ∀ {H4 : Hp}, Ev (tOp (rI (fun _ j => 0 < j) fun i j => .int (i % j)) (tVar 1) (tC (.int 64))) [some (.ref a), some (.int (i : Nat)), some (.ref p), some (.int c)] H4 (.int ((i : Nat) : Int)) := fun {H4} =>
        ev_is (ev_op (ev_var rfl) ev_c (rv_I (by show (0 : Int) < 64; decide))) (by show V.int ((i : Int) % 64) = _; rw [Int.emod_eq_of_lt (by omega) (by omega)])
      refine ⟨T, _, rfl, st_of upd_same, rfl, _, _, rfl, _, _, rfl, rfl, ?_⟩
      refine s_setL (xs := xs.map V.int) (j := i) (v := .int ((x0 * 48271 + c) % 2147483647)) hp3 (ev_op (ev_op (ev_op (ix hp3 rfl hm hx0) ev_c (rv_I (.inr ⟨by decide, by decide⟩))) (ev_var rfl) rv_I0) ev_c (rv_I (by show (0 : Int) < 2147483647; decide))) (ev_var rfl) hm (by rw [List.length_map]; omega) fun H4 e4 => ?_
      have e5 := keep (H2 := H4) (xs := xs) (j := i) (y := (x0 * 48271 + c) % 2147483647) (e3.trans e4) lx bx ⟨by omega, by omega⟩
      exact ⟨e5.1, e5.2, _, _, rfl⟩
    · rintro σ H2 ⟨e2, f2, v1, v3, rfl⟩
      refine q_forR2 (lo := 1) (n := 64) (ea_cons ev_c (ea_cons ev_c ea_nil)) (by decide) (fun i σ H3 => Ex H H3 ∧ FoldAt H3 p ∧ ∃ v1 v3, σ = [some (.ref a), v1, some (.ref p), v3]) (fun H3 e3 => ⟨e2.trans e3, ?_, _, _, rfl⟩) ?_ ?_
      · obtain ⟨xs, lx, bx, hx⟩ := f2
        exact ⟨xs, lx, bx, e3 _ _ hx⟩
      · rintro i σ H3 hi ⟨e3, ⟨xs, lx, bx, hx⟩, v1, v3, rfl⟩
        obtain ⟨x1, hx1⟩ := fold_at lx (j := i + 1) (by omega)
        obtain ⟨x0, hx0⟩ := fold_at lx (j := i) (by omega)
        have ei : (1 : Int) + (i : Int) = ((i + 1 : Nat) : Int) := by omega
        show tAsg _ _ _ [some (.ref a), some (.int ((1 : Int) + (i : Int))), some (.ref p), v3] H3
        rw [ei]
        refine s_setL (xs := xs.map V.int) (j := i + 1) (v := .int ((x1 + x0 * 16807) % 2147483647)) hx (ev_op (ev_op (ix hx rfl (ev_var rfl) hx1) (ev_op (ix hx rfl (ev_is (ev_op (ev_var rfl) ev_c rv_I0) (by show V.int (((i + 1 : Nat) : Int) - 1) = _; congr 1; omega)) hx0) ev_c (rv_I (.inr ⟨by decide, by decide⟩))) rv_I0) ev_c (rv_I (by show (0 : Int) < 2147483647; decide))) (ev_var rfl) (ev_var rfl) (by rw [List.length_map]; omega) fun H4 e4 => ?_
        have e5 := keep (H2 := H4) (xs := xs) (j := i + 1) (y := (x1 + x0 * 16807) % 2147483647) (e3.trans e4) lx bx ⟨by omega, by omega⟩
        exact ⟨e5.1, e5.2, _, _, rfl⟩
      · rintro σ H3 ⟨e3, f3, v1, v3, rfl⟩
        exact s_ret (ev_var rfl) fun H4 e4 => k p H4 hp (e3.trans e4) (by
          obtain ⟨xs, lx, bx, hx⟩ := f3
          exact ⟨xs, lx, bx, e4 _ _ hx⟩)
/-! ### the dict m of the law -/
theorem ev_dget {σ : L2.St} {H : Hp} {td ty : TE} {d : Addr} {k : L2.Key} {kvs : List (L2.Key × V)} {v : V} (ha : Ev td σ H (.ref d)) (hk : Ev ty σ H (kV k)) (hd : H d = some (.dK kvs)) (hv : valV kvs k = some v) : Ev (tDGet td ty) σ H v := fun H1 e Q q =>
  ha H1 e _ fun H2 e2 => hk H2 (e.trans e2) _ fun H3 e3 => ⟨d, v, rfl, by
    have := DGet.k (k := k) (((e.trans e2).trans e3) d _ hd)
    rw [hv] at this
    exact this, q H3 (e2.trans e3)⟩
theorem rv_eqE {H : Hp} {neg : Bool} {p q : Addr} {xs : List V} (hx : SqL K H p xs) (hy : SqL K H q []) : RV (rEqE K neg) (.ref p) (.ref q) H (.bl (if neg then !xs.isEmpty else xs.isEmpty)) := fun H1 e _ k =>
  ⟨p, q, xs, rfl, rfl, ex_l e hx, ex_l e hy, k H1 (Ex.refl H1)⟩
def mK (c g : Addr) (sp : Int) : List (L2.Key × V) := [(.inr "cells", .ref c), (.inr "great", .ref g), (.inr "spot", .int sp)]
structure MAt (H : Hp) (d c g : Addr) (sp : Int) : Prop where
  ob : H d = some (.dK (mK c g sp))
  cells : FoldAt H c
  great : ∃ ys : List Int, ys.length ≤ 63 ∧ H g = some (.lst (ys.map V.int))
  ne : c ≠ g
theorem mK_cells {c g : Addr} {sp : Int} : valV (mK c g sp) (.inr "cells") = some (.ref c) := valV_pos rfl
theorem mK_great {c g : Addr} {sp : Int} : valV (mK c g sp) (.inr "great") = some (.ref g) := (valV_neg (by show ¬ (Sum.inr ("cells" : Str) : L2.Key) = Sum.inr ("great" : Str); decide +kernel)).trans (valV_pos rfl)
theorem mK_spot {c g : Addr} {sp : Int} : valV (mK c g sp) (.inr "spot") = some (.int sp) := (valV_neg (by show ¬ (Sum.inr ("cells" : Str) : L2.Key) = Sum.inr ("spot" : Str); decide +kernel)).trans ((valV_neg (by show ¬ (Sum.inr ("great" : Str) : L2.Key) = Sum.inr ("spot" : Str); decide +kernel)).trans (valV_pos rfl))
theorem kne1 : ¬ (Sum.inr ("cells" : Str) : L2.Key) = Sum.inr ("spot" : Str) := by decide +kernel
theorem kne2 : ¬ (Sum.inr ("great" : Str) : L2.Key) = Sum.inr ("spot" : Str) := by decide +kernel
theorem kne3 : ¬ (Sum.inr ("cells" : Str) : L2.Key) = Sum.inr ("great" : Str) := by decide +kernel
theorem kne4 : ¬ (Sum.inr ("spot" : Str) : L2.Key) = Sum.inr ("great" : Str) := by decide +kernel
theorem mK_put {c g : Addr} {sp y : Int} : putK (mK c g sp) (.inr "spot") (.int y) = mK c g y := by
  unfold putK mK
  rw [if_pos (by simp)]
  simp only [List.map_cons, List.map_nil, kne1, kne2, if_false, if_true]
theorem mK_putG {c g g' : Addr} {sp : Int} : putK (mK c g sp) (.inr "great") (.ref g') = mK c g' sp := by
  unfold putK mK
  rw [if_pos (by simp)]
  simp only [List.map_cons, List.map_nil, kne3, kne4, if_false, if_true]
theorem mK_merge {c g : Addr} {sp : Int} : mergeK [] (mK c g sp) = mK c g sp := by
  have s1 : ¬ ("cells" : Str) = "great" := by decide +kernel
  have s2 : ¬ ("cells" : Str) = "spot" := by decide +kernel
  have s3 : ¬ ("great" : Str) = "spot" := by decide +kernel
  unfold mK mergeK
  simp [putK, s1, s2, s3]
/-- what evaluates to something of which P holds -/
def EvP (te : TE) (σ : L2.St) (H : Hp) (p : V → Prop) : Prop := ∀ H1, Ex H H1 → ∀ Q : VK, (∀ v H2, p v → Ex H1 H2 → Q v H2) → te σ H1 Q
def IsI (v : V) : Prop := ∃ i : Int, v = .int i
theorem ep_of {te : TE} {σ : L2.St} {H : Hp} {v : V} {p : V → Prop} (h : Ev te σ H v) (hp : p v) : EvP te σ H p := fun H1 e Q q => h H1 e Q fun H2 e2 => q v H2 hp e2
theorem ep_mixed {ta tb : TE} {σ : L2.St} {H : Hp} {n : Int} (ha : EvP ta σ H IsI) (hb : Ev tb σ H (.int n)) (h0 : 0 ≤ n) (h1 : n < 1000000) : EvP (tCall spMixed [] E0 (tCons ta (tCons tb tNil))) σ H IsI := fun H1 e Q q =>
  ha H1 e _ fun v H2 ⟨i, ei⟩ e2 => hb H2 (e.trans e2) _ fun H3 e3 => ⟨i, n, by rw [ei] <;> rfl, h0, h1, fun r _ _ => q (.int r) H3 ⟨r, rfl⟩ (e2.trans e3)⟩
def spDraw : Sp := fun vs H Q _ => ∃ (d c g : Addr) (sp top : Int), vs = [.ref d, .int top] ∧ MAt H d c g sp ∧ 0 ≤ sp ∧ sp < 500000 ∧ 0 < top ∧ top < 1000000 ∧
  ∀ (r : Int) (H' : Hp), 0 ≤ r → r < top → MAt H' d c g (sp + 1) → (∀ b o, H b = some o → b ≠ d → b ≠ g → H' b = some o) → Q (.int r) H'
theorem can_draw (T : Txt K mg) : Can P w K mg base CX0 2 "_law_draw" ["m", "top"] spDraw := by
  have CM : Can P w K mg base CX0 1 "_law_mixed" ["cell", "n"] spMixed := can_mixed T
  refine can_of T.g__law_draw T.F__law_draw (fun fd F => ?_) (fun _ _ _ _ _ _ us hl => match us, hl with | [_, _], _ => rfl)
  refine F.ok sc__law_draw (fun vs H Q E h => ?_) (fun cdv A outer s H vs Q E hr h => ?_)
  · obtain ⟨d, c, g, sp, top, rfl, _⟩ := h
    rfl
  · obtain ⟨d, c, g, sp, top, rfl, M, h0, h1, t0, t1, k⟩ := h
    have nd := sc__law_draw.nd
    have hu := hu_of hr
    refine ⟨_, pss_cons (ps_set (i := 2) nd rfl (.inl rfl) (pe_dget hu (pv 0) pe_str (fun _ _ => rfl)))
      (pss_cons (ps_dput hu (pv 0) pe_str (pe_op op_add (pv 2) pe_int) rfl)
      (pss_cons (ps_if (pt_cmpR (op_ne_nil hr) (pe_dget hu (pv 0) pe_str (fun _ _ => rfl)) (pe_lst pa_nil) (nomark _))
        (pss_cons (ps_set (i := 3) nd rfl (.inl rfl) (pe_op op_mod (pv 2) (pe_callB call_len_seq (by rfl) T.n_len PySem.boot_len (pa_cons (pe_dget hu (pv 0) pe_str (fun _ _ => rfl)) pa_nil))))
        (pss_cons (ps_set (i := 4) nd rfl (.inl rfl) (pe_ix ix_list (pe_dget hu (pv 0) pe_str (fun _ _ => rfl)) (pv 3) (fun _ _ => rfl)))
        (pss_one (ps_if (pt_cmpR op_gt (pv 4) pe_int (nomark _))
          (pss_cons (ps_asg (pe_op op_fdiv (pv 4) (pv 1)) (pg_sub (pe_dget hu (pv 0) pe_str (fun _ _ => rfl)) (pv 3) set_list))
          (pss_one (ps_ret (pe_op op_mod (pv 4) (pv 1))))) pss_nil)))) pss_nil)
      (pss_one (ps_ret (pe_op op_mod (pe_can CM hr pass0 (pa_cons (pe_can CM hr pass0 (pa_cons (pe_op op_add (pe_ix ix_list (pe_dget hu (pv 0) pe_str (fun _ _ => rfl)) (pe_op op_mod (pv 2) pe_int) (fun _ _ => rfl)) (pe_op op_mul pe_int (pe_op op_fdiv (pv 2) pe_int))) (pa_cons (pv 2) pa_nil))) (pa_cons (pe_op op_add (pv 2) pe_int) pa_nil))) (pv 1)))))), ?_⟩
    refine q_asg (ev_dget (k := .inr "spot") (ev_var rfl) ev_c M.ob mK_spot) fun H1 e1 => ?_
    have hd1 : H1 d = some (.dK (mK c g sp)) := e1 _ _ M.ob
    refine ⟨_, rfl, _, _, rfl, rfl, _, rfl, d, _, rfl, DPut.k (k := .inr "spot") hd1 (by show 3 < sizeLine; decide), ?_⟩
    rw [mK_put]
    have cg := M.ne
    obtain ⟨cs, lc, bc, hc⟩ := M.cells
    obtain ⟨ys, ly, hg⟩ := M.great
    have dc : c ≠ d := ne_of hc M.ob (by intro z; cases z)
    have dg : g ≠ d := ne_of hg M.ob (by intro z; cases z)
    generalize hH2 : upd H1 d (.dK (mK c g (sp + 1))) = H2
    have hd2 : H2 d = some (.dK (mK c g (sp + 1))) := by rw [← hH2, upd_same]
    have hc2 : H2 c = some (.lst (cs.map V.int)) := by rw [← hH2, upd_ne dc]; exact e1 _ _ hc
    have hg2 : H2 g = some (.lst (ys.map V.int)) := by rw [← hH2, upd_ne dg]; exact e1 _ _ hg
    have fr2 : ∀ b o, H b = some o → b ≠ d → H2 b = some o := fun b o e hb => by rw [← hH2, upd_ne hb]; exact e1 _ _ e
    have M2 : MAt H2 d c g (sp + 1) := ⟨hd2, ⟨cs, lc, bc, hc2⟩, ⟨ys, ly, hg2⟩, cg⟩
    have gg : ∀ {H3 : Hp} {σ : L2.St}, Ex H2 H3 → σ[0]? = some (some (.ref d)) → Ev (tDGet (tVar 0) (tC (.str "great"))) σ H3 (.ref g) := fun e hv => ev_dget (k := .inr "great") (ev_var hv) ev_c (e _ _ hd2) mK_great
    -- the end: drawn from the cells
    have last : ∀ (σ : L2.St) (H3 : Hp) (D : Ends), Ex H2 H3 → σ[0]? = some (some (.ref d)) → σ[1]? = some (some (.int top)) → σ[2]? = some (some (.int sp)) → D.rt = Q →
        tRet (tOp (rI (fun _ j => 0 < j) fun i j => .int (i % j)) (tCall spMixed [] E0 (tCons (tCall spMixed [] E0 (tCons (tOp (rI0 fun i j => .int (i + j)) (tOp (rIxL K) (tDGet (tVar 0) (tC (.str "cells"))) (tOp (rI (fun _ j => 0 < j) fun i j => .int (i % j)) (tVar 2) (tC (.int 64)))) (tOp (rI CMul fun i j => .int (i * j)) (tC (.int 31)) (tOp (rI CDiv fun i j => .int (i / j)) (tVar 2) (tC (.int 64))))) (tCons (tVar 2) tNil))) (tCons (tOp (rI0 fun i j => .int (i + j)) (tVar 2) (tC (.int 7))) tNil))) (tVar 1)) D σ H3 := fun σ H3 D e3 v0 v1 v2 eD => by
      obtain ⟨j, ej⟩ : ∃ j : Nat, sp % 64 = (j : Int) := ⟨(sp % 64).toNat, by omega⟩
      obtain ⟨x0, hx0⟩ := fold_at lc (j := j) (by omega)
      have hcell : Ev (tOp (rI0 fun i j => .int (i + j)) (tOp (rIxL K) (tDGet (tVar 0) (tC (.str "cells"))) (tOp (rI (fun _ j => 0 < j) fun i j => .int (i % j)) (tVar 2) (tC (.int 64)))) (tOp (rI CMul fun i j => .int (i * j)) (tC (.int 31)) (tOp (rI CDiv fun i j => .int (i / j)) (tVar 2) (tC (.int 64))))) σ H3 (.int (x0 + 31 * (sp / 64))) :=
        ev_op (ev_op (ev_dget (k := .inr "cells") (ev_var v0) ev_c (e3 _ _ hd2) mK_cells) (ev_op (ev_var v2) ev_c (rv_I (by show (0 : Int) < 64; decide))) (rv_ixL (sq_of (e3 _ _ hc2)) (at_of ej (map_at hx0)))) (ev_op ev_c (ev_op (ev_var v2) ev_c (rv_I ⟨by decide, by decide⟩)) (rv_I (.inl ⟨by decide, by decide⟩))) rv_I0
      refine ep_mixed (ep_mixed (ep_of hcell ⟨_, rfl⟩) (ev_var v2) h0 (by omega)) (ev_op (ev_var v2) ev_c rv_I0) (by omega) (by omega) H3 (Ex.refl H3) _ fun v H4 ⟨r2, er⟩ e4 => ?_
      refine ⟨_, v1, r2, top, er, rfl, t0, ?_⟩
      have e5 := e3.trans e4
      show D.rt _ _
      rw [eD]
      refine k _ _ (Int.emod_nonneg _ (by omega)) (Int.emod_lt_of_pos _ t0) ⟨e5 _ _ hd2, ⟨cs, lc, bc, e5 _ _ hc2⟩, ⟨ys, ly, e5 _ _ hg2⟩, cg⟩ fun b o e hb _ => e5 _ _ (fr2 b o e hb)
    refine q_if (et_test (ev_opL (gg (Ex.refl _) rfl) (el_lst ea_nil (by decide)) fun p H3 hp e3 => rv_eqE (sq_of (e3 _ _ hg2)) (sq_of hp))) (fun hb H3 e3 => ?_) (fun hb H3 e3 => last _ H3 _ e3 rfl rfl rfl rfl)
    have hpos : 0 < ys.length := by
      cases ys with
      | nil => cases hb
      | cons a r => exact Nat.succ_pos _
    obtain ⟨j, ej⟩ : ∃ j : Nat, sp % (ys.length : Int) = (j : Int) := ⟨(sp % (ys.length : Int)).toNat, by have := Int.emod_nonneg sp (b := (ys.length : Int)) (by omega); omega⟩
    have hj : j < ys.length := by
      have := Int.emod_lt_of_pos sp (b := (ys.length : Int)) (by omega)
      omega
    obtain ⟨x0, hx0⟩ : ∃ x, ys[j]? = some x := ⟨ys[j], List.getElem?_eq_getElem hj⟩
    refine q_asg (v := .int (j : Int)) ?_ fun H4 e4 => ?_
    · refine ev_is (ev_op (ev_var rfl) (ev_cb (z := .int (ys.length : Int)) (ea_cons (gg e3 rfl) ea_nil) ?_) (rv_I (by show (0 : Int) < _; omega))) (by show V.int (sp % (ys.length : Int)) = _; rw [ej])
      exact fun H5 e5 Q q => ⟨g, _, rfl, .inl (ex_l e5 (sq_of (e3 _ _ hg2))), by rw [List.length_map]; exact q H5 (Ex.refl H5)⟩
    have e24 := e3.trans e4
    refine q_asg (v := .int x0) (ev_op (gg e24 rfl) (ev_var rfl) (rv_ixL (sq_of (e24 _ _ hg2)) (at_of rfl (map_at hx0)))) fun H5 e5 => ?_
    have e25 := e24.trans e5
    refine s_if (et_test (ev_op (ev_var rfl) ev_c rv_I0)) (fun hb H6 e6 => ?_) (fun hb H6 e6 => ?_)
    · have e26 := e25.trans e6
      refine q_setL (xs := ys.map V.int) (j := j) (v := .int (x0 / top)) (e26 _ _ hg2) (ev_op (ev_var rfl) (ev_var rfl) (rv_I ⟨t0, by omega⟩)) (gg e26 rfl) (ev_var rfl) (by rw [List.length_map]; exact hj) fun H7 e7 => ?_
      have e27 := e26.trans e7
      refine s_ret (ev_op (ev_var rfl) (ev_var rfl) (rv_I t0)) fun H8 e8 => ?_
      refine k _ _ (Int.emod_nonneg _ (by omega)) (Int.emod_lt_of_pos _ t0) ⟨e8 _ _ (by rw [upd_ne (Ne.symm dg)]; exact e27 _ _ hd2), ⟨cs, lc, bc, e8 _ _ (by rw [upd_ne cg]; exact e27 _ _ hc2)⟩, ⟨ys.set j (x0 / top), by rw [List.length_set]; exact ly, e8 _ _ (by rw [upd_same, List.map_set])⟩, cg⟩ fun b o e hb hg => e8 _ _ (by rw [upd_ne hg]; exact e27 _ _ (fr2 b o e hb))
    · exact last _ H6 _ (e25.trans e6) rfl rfl rfl rfl
theorem q_dputL {σ : L2.St} {H : Hp} {te td ty : TE} {tz : TS} {D : Ends} {xs : List V} (h : EvL te σ H xs) (k : ∀ p H1, H p = none → Ex H H1 → H1 p = some (.lst xs) → td σ H1 fun x H2 => ty σ H2 fun y H3 => ∃ a H4, x = .ref a ∧ DPut H3 a y (.ref p) H4 ∧ tz D σ H4) :
    tSeq (sDPut td ty te) tz D σ H := h H (Ex.refl H) _ k
theorem given_all {n : Nat} {v : Nat → V} : given n (fun _ => true) v = (List.range n).map v := by
  unfold given
  rw [List.filter_eq_self.mpr fun _ _ => rfl]
def spBegun (K : PySem.W.Frag) : Sp := fun vs H Q _ => ∃ (a : Addr) (ns : List Int), vs = [.ref a] ∧ SqL K H a (ns.map V.int) ∧ ns.length ≤ 63 ∧
  ∀ (d c g : Addr) (H' : Hp), H d = none → H c = none → H g = none → Ex H H' → MAt H' d c g 0 → Q (.ref d) H'
theorem can_begun (T : Txt K mg) : Can P w K mg base CX0 2 "_law_begun" ["script"] (spBegun K) := by
  have CF : Can P w K mg base CX0 1 "_law_folded" ["script"] (spFolded K) := can_folded T
  refine can_of T.g__law_begun T.F__law_begun (fun fd F => ?_) (fun _ _ _ _ _ _ us hl => match us, hl with | [_], _ => rfl)
  refine F.ok sc__law_begun (fun vs H Q E h => ?_) (fun cdv A outer s H vs Q E hr h => ?_)
  · obtain ⟨a, ns, rfl, _⟩ := h
    rfl
  · obtain ⟨a, ns, rfl, hS, hlen, k⟩ := h
    have nd := sc__law_begun.nd
    have hu := hu_of hr
    refine ⟨_, pss_cons (ps_set (i := 1) nd rfl (.inl rfl) (pe_disp (pps_cons pe_str (pe_can CF hr pass0 (pa_cons (pv 0) pa_nil)) (pps_cons pe_str (pe_lst pa_nil) (pps_cons pe_str pe_int pps_nil))) (by rfl) (by rfl) (fun z => by cases z) (by decide)))
      (pss_cons (ps_dput hu (pv 1) pe_str (pe_lc (own := [("cell", 2)]) (g := gName 2) (tt := tYes) rfl nd (pi_list (pv 0)) (blkOk_by (N := ["script", "m", "cell"]) (sc := defScope s__law_begun) (by decide +kernel)) (fun _ _ _ _ _ => pg_name (i := 2) nd rfl (.inl rfl)) (fun _ _ _ _ _ => pts_nil)
        (fun _ _ _ _ _ => pe_ifExp (pt_cmpR op_ge (pv 2) (pe_op op_pow pe_int pe_int) (nomark _)) (pv 2) pe_int)) rfl)
      (pss_one (ps_ret (pv 1)))), ?_⟩
    intro d hd
    refine ⟨_, rfl, a, ns, rfl, ex_l (Ex.new hd) hS, hlen, fun c H1 hc e1 f1 => ?_⟩
    refine ⟨by decide, fun g hg => ?_⟩
    have hd1 : H1 d = some (.dK []) := e1 _ _ upd_same
    have e0 : Ex H H1 := (Ex.new hd).trans e1
    have dg : d ≠ g := ne_of_none hd1 hg
    refine ⟨by rw [upd_ne dg]; exact hd1, mK c g 0, rfl, (by show 3 ≤ 15; decide), ?_⟩
    rw [mK_merge]
    have cd : c ≠ d := fun q => by
      rw [q, upd_same] at hc
      cases hc
    have cH : H c = none := by
      rw [upd_ne cd] at hc
      exact hc
    obtain ⟨cs, lc, bc, hcs⟩ := f1
    have cg : c ≠ g := ne_of_none hcs hg
    generalize hH2 : upd (upd H1 g (.lst [])) d (.dK (mK c g 0)) = H2
    have e2 : Ex H H2 := by
      rw [← hH2]
      exact Ex.mut (e0.trans (Ex.new hg)) hd
    have hd2 : H2 d = some (.dK (mK c g 0)) := by rw [← hH2, upd_same]
    have hc2 : H2 c = some (.lst (cs.map V.int)) := by rw [← hH2, upd_ne cd, upd_ne cg]; exact hcs
    -- m['great'] = [..]
    refine q_dputL (el_lcL (xs := ns.map V.int) (fun _ => true) (fun i => .int (((ns.map fun c => if (10 ^ 18 : Int) ≤ c then c else 0)[i]?).getD 0)) (ev_var rfl) (ex_l e2 hS) (by rw [List.length_map]; omega) (fun x => ?_) (fun i x H3 _ _ => ?_) (fun i x H3 e3 hx _ => ?_)) fun g2 H3 hg2 e3 hq => ?_
    · rfl
    · exact fun H4 _ Q q => q H4 (Ex.refl H4)
    · obtain ⟨z, hz, rfl⟩ : ∃ z, ns[i]? = some z ∧ V.int z = x := by
        rw [List.getElem?_map] at hx
        cases e : ns[i]? with
        | none => rw [e] at hx; cases hx
        | some c => rw [e] at hx; exact ⟨c, rfl, Option.some.inj hx⟩
      have ez : ((ns.map fun c => if (10 ^ 18 : Int) ≤ c then c else 0)[i]?).getD 0 = if (10 ^ 18 : Int) ≤ z then z else 0 := by
        rw [List.getElem?_map, hz]
        rfl
      rw [ez]
      refine ev_if (b := decide ((10 : Int) ^ (18 : Int).toNat ≤ z)) (et_test (ev_op (ev_var rfl) (ev_op ev_c ev_c (rv_I ⟨by decide, by decide, by decide⟩)) rv_I0)) (fun hb => ?_) (fun hb => ?_)
      · have hb : (10 : Int) ^ 18 ≤ z := of_decide_eq_true hb
        rw [if_pos hb]
        exact ev_var rfl
      · have hb : ¬ (10 : Int) ^ 18 ≤ z := of_decide_eq_false hb
        rw [if_neg hb]
        exact ev_c
    rw [given_all] at hq
    refine ⟨_, rfl, d, _, rfl, DPut.k (k := .inr "great") (e3 _ _ hd2) (by show 3 < sizeLine; decide), ?_⟩
    rw [mK_putG]
    have gc2 : c ≠ g2 := ne_of_none hc2 hg2
    have gd2 : d ≠ g2 := ne_of_none hd2 hg2
    refine ⟨_, rfl, ?_⟩
    refine k d c g2 _ hd cH (fresh_back e2 hg2) (Ex.mut (e2.trans e3) hd) ⟨upd_same, ⟨cs, lc, bc, by rw [upd_ne cd]; exact e3 _ _ hc2⟩, ⟨(List.range ns.length).map fun i => (((ns.map fun c => if (10 ^ 18 : Int) ≤ c then c else 0)[i]?).getD 0), by rw [List.length_map, List.length_range]; exact hlen, ?_⟩, gc2⟩
    rw [upd_ne gd2.symm, hq, List.map_map, List.length_map]
    rfl
theorem erase_permQ {α : Type} : ∀ (l : List α) (i : Nat) (y : α), l[i]? = some y → (y :: l.eraseIdx i).Perm l
  | [], i, y, h => by simp at h
  | a :: r, 0, y, h => by
    obtain rfl : a = y := by simpa using h
    exact List.Perm.refl _
  | a :: r, i + 1, y, h => by
    have h' : r[i]? = some y := by simpa using h
    exact (List.Perm.swap a y _).trans ((erase_permQ r i y h').cons a)
def spUp (K : PySem.W.Frag) : Sp := fun vs H Q _ => ∃ (d c g t : Addr) (sp : Int) (xs : List V), vs = [.ref d, .ref t] ∧ MAt H d c g sp ∧ 0 ≤ sp ∧ sp < 400000 ∧ SqL K H t xs ∧ xs.length ≤ 100 ∧
  ∀ (p : Addr) (ys : List V) (H' : Hp), ys.Perm xs → H p = none → MAt H' d c g (sp + xs.length) → H' p = some (.lst ys) → (∀ b o, H b = some o → b ≠ d → b ≠ g → H' b = some o) → Q (.ref p) H'
theorem can_up (T : Txt K mg) : Can P w K mg base CX0 3 "_law_mixed_up" ["m", "things"] (spUp K) := by
  have CD : Can P w K mg base CX0 2 "_law_draw" ["m", "top"] spDraw := can_draw T
  refine can_of T.g__law_mixed_up T.F__law_mixed_up (fun fd F => ?_) (fun _ _ _ _ _ _ us hl => match us, hl with | [_, _], _ => rfl)
  refine F.ok sc__law_mixed_up (fun vs H Q E h => ?_) (fun cdv A outer s H vs Q E hr h => ?_)
  · obtain ⟨d, c, g, t, sp, xs, rfl, _⟩ := h
    rfl
  · obtain ⟨d, c, g, t, sp, xs, rfl, M, h0, h1, hS, hlen, k⟩ := h
    have nd := sc__law_mixed_up.nd
    refine ⟨_, pss_cons (ps_par (i := 2) (j := 3) (by rfl) nd rfl rfl (by decide) rfl rfl (pa_cons (pe_callTy call_list_of (by rfl) T.n_list (by decide +kernel) (pa_cons (pv 1) pa_nil)) (pa_cons (pe_lst pa_nil) pa_nil)) (by rfl))
      (pss_cons (ps_for PassesOwn.never rfl (pi_range1 rfl T.n_range (pa_cons (pe_callB call_len_seq (by rfl) T.n_len PySem.boot_len (pa_cons (pv 2) pa_nil)) pa_nil)) (pg_name (i := 4) nd rfl (.inl rfl))
        (pss_one (ps_expr (pe_bm PySem.F.plainAttrs_list PySem.F.slot_list_append PySem.F.type_list_append mt_append (pv 3) (pa_cons (pe_bm PySem.F.plainAttrs_list PySem.F.slot_list_pop PySem.F.type_list_pop mt_popAt (pv 2)
          (pa_cons (pe_can CD hr pass0 (pa_cons (pv 0) (pa_cons (pe_callB call_len_seq (by rfl) T.n_len PySem.boot_len (pa_cons (pv 2) pa_nil)) pa_nil))) pa_nil)) pa_nil)))))
      (pss_one (ps_ret (pv 3)))), ?_⟩
    refine ⟨_, rfl, t, xs, rfl, .inl hS, fun a ha => ⟨by decide, fun f hf => ⟨_, _, rfl, ?_⟩⟩⟩
    obtain ⟨hd, hc, hg, hcg⟩ := id M
    have af : a ≠ f := fun q => by
      rw [← q, upd_same] at hf
      cases hf
    have hf' : H f = none := by
      rw [upd_ne (Ne.symm af)] at hf
      exact hf
    obtain ⟨cs, lc, bc, hcs⟩ := hc
    obtain ⟨ys, ly, hys⟩ := hg
    have na : d ≠ a := ne_of_none hd ha
    have nf : d ≠ f := ne_of_none hd hf'
    have ca : c ≠ a := ne_of_none hcs ha
    have cf : c ≠ f := ne_of_none hcs hf'
    have ga' : g ≠ a := ne_of_none hys ha
    have gf : g ≠ f := ne_of_none hys hf'
    have M1 : MAt (upd (upd H a (.lst xs)) f (.lst [])) d c g sp := ⟨by rw [upd_ne nf, upd_ne na]; exact hd, ⟨cs, lc, bc, by rw [upd_ne cf, upd_ne ca]; exact hcs⟩, ⟨ys, ly, by rw [upd_ne gf, upd_ne ga']; exact hys⟩, hcg⟩
    refine q_forR1 (n := (xs.length : Int)) (ea_cons (ev_len (ev_var rfl) (sq_of (by rw [upd_ne af, upd_same]))) ea_nil) ⟨by omega, by omega⟩
      (fun i σ H2 => ∃ (st fo : List V) (v : Option V), σ = [some (.ref d), some (.ref t), some (.ref a), some (.ref f), v] ∧ (fo ++ st).Perm xs ∧ st.length + i = xs.length ∧ H2 a = some (.lst st) ∧ H2 f = some (.lst fo) ∧ MAt H2 d c g (sp + (i : Int)) ∧ (∀ b o, H b = some o → b ≠ d → b ≠ g → H2 b = some o)) ?_ ?_ ?_
    · intro H1 e1
      refine ⟨xs, [], none, rfl, by simp, by simp, e1 _ _ (by rw [upd_ne af, upd_same]), e1 _ _ upd_same, ?_, fun b o e hb _ => e1 _ _ (by rw [upd_ne (ne_of_none e hf'), upd_ne (ne_of_none e ha)]; exact e)⟩
      obtain ⟨q1, ⟨cs1, l1, b1, q2⟩, ⟨y1, l2, q3⟩, q4⟩ := M1
      rw [show sp + ((0 : Nat) : Int) = sp by omega]
      exact ⟨e1 _ _ q1, ⟨cs1, l1, b1, e1 _ _ q2⟩, ⟨y1, l2, e1 _ _ q3⟩, q4⟩
    · rintro i σ H2 hi ⟨st, fo, v, rfl, hp, hl, h2a, h2f, M2, fr⟩
      have lfo : fo.length ≤ 100 := by
        have := hp.length_eq
        rw [List.length_append] at this
        omega
      refine ⟨_, rfl, .inl ⟨rfl, _, sq_of h2f⟩, _, rfl, .inl ⟨rfl, _, sq_of h2a⟩, _, rfl, _, rfl, a, st, rfl, .inl (sq_of h2a), ?_⟩
      refine ⟨d, c, g, sp + (i : Int), (st.length : Int), rfl, M2, by omega, by omega, by omega, by omega, fun r H3 hr0 hr1 M3 fr3 => ?_⟩
      have h3a : H3 a = some (.lst st) := fr3 _ _ h2a na.symm ga'.symm
      have h3f : H3 f = some (.lst fo) := fr3 _ _ h2f nf.symm gf.symm
      obtain ⟨j, rfl⟩ : ∃ j : Nat, r = (j : Int) := ⟨r.toNat, by omega⟩
      have hj : j < st.length := by omega
      refine ⟨a, st, (j : Int), j, st[j], rfl, rfl, h3a, by omega, by omega, ?_, List.getElem?_eq_getElem hj, ?_⟩
      · have := PySem.StrLaws.seqIndex_nonneg (i := (j : Int)) (n := st.length) (by omega) (by omega)
        rw [this]
        rfl
      refine ⟨f, fo, _, rfl, rfl, by rw [upd_ne (Ne.symm af)]; exact h3f, sz_lt (by omega), st.eraseIdx j, fo ++ [st[j]], _, rfl, ?_, ?_, by rw [upd_ne af, upd_same], upd_same, ?_, ?_⟩
      · refine List.Perm.trans ?_ hp
        rw [List.append_assoc]
        exact List.Perm.append_left fo (erase_permQ st j _ (List.getElem?_eq_getElem hj))
      · rw [List.length_eraseIdx_of_lt hj]
        omega
      · obtain ⟨q1, ⟨cs1, l1, b1, q2⟩, ⟨y1, l2, q3⟩, q4⟩ := M3
        rw [show sp + ((i + 1 : Nat) : Int) = sp + (i : Int) + 1 by omega]
        exact ⟨by rw [upd_ne nf, upd_ne na]; exact q1, ⟨cs1, l1, b1, by rw [upd_ne cf, upd_ne ca]; exact q2⟩, ⟨y1, l2, by rw [upd_ne gf, upd_ne ga']; exact q3⟩, q4⟩
      · intro b o e hb hg'
        rw [upd_ne (ne_of_none e hf'), upd_ne (ne_of_none e ha)]
        exact fr3 _ _ (fr _ _ e hb hg') hb hg'
    · rintro σ H2 ⟨st, fo, v, rfl, hp, hl, h2a, h2f, M2, fr⟩
      have e0 : st = [] := by
        have : st.length = 0 := by
          have e := Int.toNat_natCast xs.length
          omega
        exact List.length_eq_zero_iff.mp this
      subst e0
      rw [List.append_nil] at hp
      refine ⟨_, rfl, ?_⟩
      exact k f fo H2 hp hf' (by
        have e := Int.toNat_natCast xs.length
        rw [e] at M2
        exact M2) h2f fr
end
end K17
end

section
set_option linter.all false
/-! more of the merge: the head of a row with an item not ahead of it -/
namespace Mg
variable {α : Type} [DecidableEq α]
/-- the head of the first row that has x behind its head -/
def hrw (x : α) : List (List α) → Option α
  | [] => none
  | [] :: rest => hrw x rest
  | (h :: t) :: rest => if x ≠ h ∧ x ∈ h :: t then some h else hrw x rest
/-- no row is empty -/
def NoNil (rows : List (List α)) : Prop := ∀ r ∈ rows, r ≠ []
theorem hrw_none {x : α} : ∀ {rows : List (List α)}, Nd rows → (hrw x rows = none ↔ isFree rows x = true)
  | [], _ => by simp [hrw, isFree]
  | [] :: rest, nd => by
    have ih := hrw_none (x := x) (rows := rest) fun r hr => nd r (List.mem_cons_of_mem _ hr)
    unfold hrw
    rw [ih]
    simp [isFree]
  | (h :: t) :: rest, nd => by
    have ih := hrw_none (x := x) (rows := rest) fun r hr => nd r (List.mem_cons_of_mem _ hr)
    have n1 := nd _ (List.mem_cons_self ..)
    obtain ⟨n2, _⟩ := List.nodup_cons.mp n1
    unfold hrw
    by_cases c : x ≠ h ∧ x ∈ h :: t
    · rw [if_pos c]
      obtain ⟨c1, c2⟩ := c
      have : x ∈ t := by
        rcases List.mem_cons.mp c2 with q | q
        · exact absurd q c1
        · exact q
      simp [isFree, this]
    · rw [if_neg c, ih]
      have : x ∉ t := fun q => c ⟨fun e => n2 (e ▸ q), List.mem_cons_of_mem _ q⟩
      simp [isFree, this]
theorem hrw_some {x h : α} : ∀ {rows : List (List α)}, hrw x rows = some h → ∃ t, (h :: t) ∈ rows ∧ x ∈ h :: t ∧ x ≠ h
  | [], e => by cases e
  | [] :: rest, e => by
    obtain ⟨t, h1, h2⟩ := hrw_some (rows := rest) e
    exact ⟨t, List.mem_cons_of_mem _ h1, h2⟩
  | (g :: t) :: rest, e => by
    unfold hrw at e
    by_cases c : x ≠ g ∧ x ∈ g :: t
    · rw [if_pos c] at e
      obtain rfl := Option.some.inj e
      exact ⟨t, List.mem_cons_self .., c.2, c.1⟩
    · rw [if_neg c] at e
      obtain ⟨t', h1, h2⟩ := hrw_some (rows := rest) e
      exact ⟨t', List.mem_cons_of_mem _ h1, h2⟩
theorem hrw_head {x h : α} {rows : List (List α)} (e : hrw x rows = some h) : h ∈ heads rows := by
  obtain ⟨t, ht, _⟩ := hrw_some e
  exact mem_heads.mpr ⟨t, ht⟩
theorem hrw_before {x h : α} {rows : List (List α)} (e : hrw x rows = some h) : Before rows h x := by
  obtain ⟨t, ht, hx, hne⟩ := hrw_some e
  exact before_head ht hx hne
/-- where nothing is free each head stands behind another -/
theorem hrw_stuck {rows : List (List α)} (nd : Nd rows) (h0 : frees rows = []) {x : α} (hx : x ∈ heads rows) : ∃ h, hrw x rows = some h := by
  cases e : hrw x rows with
  | some h => exact ⟨h, rfl⟩
  | none =>
    have f := (hrw_none nd).mp e
    have : x ∈ frees rows := mem_frees.mpr ⟨hx, f⟩
    rw [h0] at this
    cases this
/-- the first head that is free -/
theorem frees_find {rows : List (List α)} (nd : Nd rows) : (frees rows).head? = (heads rows).find? fun h => (hrw h rows).isNone := by
  unfold frees
  rw [List.head?_filter]
  congr 1
  funext h
  cases e : hrw h rows with
  | none => rw [(hrw_none nd).mp e] <;> rfl
  | some g =>
    cases f : isFree rows h with
    | false => rfl
    | true =>
      rw [(hrw_none nd).mpr f] at e
      cases e
/-- drop, then leave the empty rows out -/
def wo (o : Option α) (rows : List (List α)) : List (List α) := full (match o with
  | some h => drop h rows
  | none => rows)
theorem nonil_full (rows : List (List α)) : NoNil (full rows) := fun r hr e => by
  have := (List.mem_filter.mp hr).2
  rw [e] at this
  cases this
theorem heads_cons {h : α} {t : List α} {rows : List (List α)} : heads ((h :: t) :: rows) = h :: heads rows := rfl
theorem heads_len {rows : List (List α)} (nn : NoNil rows) : (heads rows).length = rows.length := by
  induction rows with
  | nil => rfl
  | cons r rest ih =>
    cases r with
    | nil => exact absurd rfl (nn [] (List.mem_cons_self ..))
    | cons h t =>
      rw [heads_cons, List.length_cons, List.length_cons, ih fun r hr => nn r (List.mem_cons_of_mem _ hr)]
theorem heads_at {rows : List (List α)} (nn : NoNil rows) : ∀ {i : Nat} {h : α} {t : List α}, rows[i]? = some (h :: t) → (heads rows)[i]? = some h := by
  induction rows with
  | nil => intro i h t e; simp at e
  | cons r rest ih =>
    intro i h t e
    cases r with
    | nil => exact absurd rfl (nn [] (List.mem_cons_self ..))
    | cons g u =>
      rw [heads_cons]
      cases i with
      | zero =>
        have e' : g :: u = h :: t := by simpa using e
        injection e' with e1 e2
        rw [e1]
        rfl
      | succ i =>
        have e' : rest[i]? = some (h :: t) := by simpa using e
        simpa using ih (fun r hr => nn r (List.mem_cons_of_mem _ hr)) e'
/-- the rows that are left, merged: what stays out changes nothing -/
theorem merge_full : ∀ (k : Nat) (rows : List (List α)), merge k (full rows) = merge k rows
  | 0, _ => rfl
  | k + 1, rows => by
    unfold merge
    rw [heads_full, frees_full]
    cases frees rows with
    | nil => rfl
    | cons h t =>
      show (if heads rows = [] then _ else (merge k (drop h (full rows))).map _) = (if heads rows = [] then _ else (merge k (drop h rows)).map _)
      rw [← merge_full k (drop h (full rows)), full_drop, merge_full k (drop h rows)]
theorem merge_step {k : Nat} {rows : List (List α)} {h : α} {t : List α} (e : frees rows = h :: t) : merge (k + 1) rows = (merge k (wo (some h) rows)).map (h :: ·) := by
  have hh : heads rows ≠ [] := fun q => by
    have := (frees_head e).1
    rw [q] at this
    cases this
  show (if heads rows = [] then some [] else match frees rows with
    | [] => none
    | h :: _ => (merge k (drop h rows)).map (h :: ·)) = _
  rw [if_neg hh, e]
  show (merge k (drop h rows)).map (h :: ·) = (merge k (full (drop h rows))).map (h :: ·)
  rw [merge_full]
theorem merge_stuck {k : Nat} {rows : List (List α)} (hh : heads rows ≠ []) (e : frees rows = []) : merge (k + 1) rows = none := by
  show (if heads rows = [] then some [] else match frees rows with
    | [] => none
    | h :: _ => (merge k (drop h rows)).map (h :: ·)) = _
  rw [if_neg hh, e]
theorem merge_done {k : Nat} : merge (k + 1) ([] : List (List α)) = some [] := rfl
theorem any_full (x : α) (rows : List (List α)) : ((full rows).any fun r => decide (x ∈ r)) = rows.any fun r => decide (x ∈ r) := by
  induction rows with
  | nil => rfl
  | cons r rest ih =>
    unfold full at ih ⊢
    cases r with
    | nil => simpa using ih
    | cons a l => simp [ih]
theorem cnt_full (cs : List α) (rows : List (List α)) : cnt cs (full rows) = cnt cs rows := by
  unfold cnt
  congr 1
  apply List.filter_congr
  intro x _
  exact any_full x rows
theorem mem_full {rows : List (List α)} {r : List α} : r ∈ full rows ↔ r ∈ rows ∧ r ≠ [] := by
  unfold full
  rw [List.mem_filter]
  cases r <;> simp
theorem wo_in {o : Option α} {rows : List (List α)} {x : α} (h : ∃ r ∈ wo o rows, x ∈ r) : ∃ r ∈ rows, x ∈ r := by
  obtain ⟨r, hr, hx⟩ := h
  have := (mem_full.mp hr).1
  cases o with
  | none => exact ⟨r, this, hx⟩
  | some h => exact (mem_drop.mp ⟨r, this, hx⟩).2
theorem wo_nd {o : Option α} {rows : List (List α)} (nd : Nd rows) : Nd (wo o rows) := by
  cases o with
  | none => exact nd_full nd
  | some h => exact nd_full (nd_drop nd h)
theorem wo_before {o : Option α} {rows : List (List α)} (nd : Nd rows) {x y : α} (b : Before (wo o rows) x y) : Before rows x y := by
  have b2 := before_full b
  cases o with
  | none => exact b2
  | some h => exact before_drop nd b2
theorem wo_within {cs : List α} {o : Option α} {rows : List (List α)} (h : Within cs rows) : Within cs (wo o rows) := by
  intro r hr
  have := (mem_full.mp hr).1
  cases o with
  | none => exact h r this
  | some g => exact within_drop h g r this
theorem wo_len {o : Option α} {rows : List (List α)} : (wo o rows).length ≤ rows.length := by
  unfold wo full
  refine Nat.le_trans (List.length_filter_le _ _) ?_
  cases o with
  | none => exact Nat.le_refl _
  | some h =>
    show (drop h rows).length ≤ _
    unfold drop
    rw [List.length_map]
    exact Nat.le_refl _
theorem wo_rlen {o : Option α} {rows : List (List α)} {n : Nat} (h : ∀ r ∈ rows, r.length ≤ n) : ∀ r ∈ wo o rows, r.length ≤ n := by
  intro r hr
  have := (mem_full.mp hr).1
  cases o with
  | none => exact h r this
  | some g =>
    obtain ⟨r', hr', rfl⟩ := List.mem_map.mp this
    exact Nat.le_trans (List.length_filter_le _ _) (h r' hr')
theorem wo_cnt {cs : List α} {rows : List (List α)} {h : α} {t : List α} (hw : Within cs rows) (e : frees rows = h :: t) : cnt cs (wo (some h) rows) < cnt cs rows := by
  show cnt cs (full (drop h rows)) < _
  rw [cnt_full]
  exact cnt_drop hw (frees_head e).1
theorem heads_ne {rows : List (List α)} (nn : NoNil rows) (h : rows ≠ []) : heads rows ≠ [] := by
  cases rows with
  | nil => exact absurd rfl h
  | cons r rest =>
    cases r with
    | nil => exact absurd rfl (nn [] (List.mem_cons_self ..))
    | cons a l =>
      rw [heads_cons]
      simp
end Mg
end

section
set_option Elab.async false
set_option linter.all false
set_option maxRecDepth 100000
set_option maxHeartbeats 4000000
namespace K17
open PySem PySem.Spec PyProof.Rows L2 He Cn Evl
/-! ### kinds and rows in the heap -/
def KO (C : Addr) (H : Hp) (a : Addr) : Prop := ∃ dx fs, H a = some (.ins C dx fs)
theorem KO.ex {C : Addr} {H H' : Hp} {a : Addr} (e : Ex H H') (h : KO C H a) : KO C H' a := by
  obtain ⟨dx, fs, h⟩ := h
  exact ⟨dx, fs, e _ _ h⟩
theorem KO.id {C : Addr} {H : Hp} {a : Addr} (h : KO C H a) : IdV C H (.ref a) := by
  obtain ⟨dx, fs, h⟩ := h
  exact .inr ⟨a, dx, fs, rfl, h⟩
def refs (r : List Addr) : List V := r.map V.ref
theorem mem_refs {a : Addr} {r : List Addr} : V.ref a ∈ refs r ↔ a ∈ r := by
  unfold refs
  rw [List.mem_map]
  constructor
  · rintro ⟨b, h, e⟩
    injection e with e
    exact e ▸ h
  · intro h
    exact ⟨a, h, rfl⟩
theorem ids {C : Addr} {H : Hp} {r : List Addr} (h : ∀ a, a ∈ r → KO C H a) : ∀ z, z ∈ refs r → IdV C H z := fun z hz => by
  obtain ⟨b, hb, rfl⟩ := List.mem_map.mp hz
  exact (h b hb).id
/-- a list at p whose i-th item is a list (S := SqL K), a tuple (SqT K) of the i-th row's kinds -/
def Rw (K : PySem.W.Frag) (S : Hp → Addr → List V → Prop) (H : Hp) (p : Addr) (rows : List (List Addr)) : Prop :=
  ∃ ps : List Addr, SqL K H p (refs ps) ∧ ps.length = rows.length ∧ ∀ (i : Nat) (q : Addr) (r : List Addr), ps[i]? = some q → rows[i]? = some r → S H q (refs r)
def Ks (C : Addr) (H : Hp) (rows : List (List Addr)) : Prop := ∀ r, r ∈ rows → ∀ a, a ∈ r → KO C H a
theorem Ks.ex {C : Addr} {H H' : Hp} {rows : List (List Addr)} (e : Ex H H') (h : Ks C H rows) : Ks C H' rows := fun r hr a ha => (h r hr a ha).ex e
theorem Rw.exL {K : PySem.W.Frag} {H H' : Hp} {p : Addr} {rows : List (List Addr)} (e : Ex H H') (h : Rw K (SqL K) H p rows) : Rw K (SqL K) H' p rows := by
  obtain ⟨ps, h1, h2, h3⟩ := h
  exact ⟨ps, ex_l e h1, h2, fun i q r a b => ex_l e (h3 i q r a b)⟩
theorem Rw.exT {K : PySem.W.Frag} {H H' : Hp} {p : Addr} {rows : List (List Addr)} (e : Ex H H') (h : Rw K (SqT K) H p rows) : Rw K (SqT K) H' p rows := by
  obtain ⟨ps, h1, h2, h3⟩ := h
  exact ⟨ps, ex_l e h1, h2, fun i q r a b => ex_t e (h3 i q r a b)⟩
theorem refs_at {ps : List Addr} {i : Nat} {x : V} (h : (refs ps)[i]? = some x) : ∃ q, ps[i]? = some q ∧ x = .ref q := by
  unfold refs at h
  rw [List.getElem?_map] at h
  cases e : ps[i]? with
  | none => rw [e] at h; cases h
  | some q => rw [e] at h; exact ⟨q, rfl, (Option.some.inj h).symm⟩
theorem at_refs {ps : List Addr} {i : Nat} {q : Addr} (h : ps[i]? = some q) : (refs ps)[i]? = some (.ref q) := by
  unfold refs
  rw [List.getElem?_map, h]
  rfl
theorem at_some {α : Type} {l : List α} {i : Nat} (h : i < l.length) : ∃ x, l[i]? = some x := ⟨l[i], List.getElem?_eq_getElem h⟩
/-- what H' knows beyond H -/
def newp (H H' : Hp) : Hp := fun a => match H a with
  | none => H' a
  | some _ => none
theorem newp_at {H H' : Hp} {a : Addr} (h : H a = none) : newp H H' a = H' a := by
  unfold newp
  rw [h]
theorem newp_no {H H' : Hp} {a : Addr} {o : HO} (h : H a = some o) : newp H H' a = none := by
  unfold newp
  rw [h]
theorem newp_ex {H H' : Hp} : Ex (newp H H') H' := fun a o h => by
  cases e : H a with
  | none => rw [newp_at e] at h; exact h
  | some u => rw [newp_no e] at h; cases h
theorem newp_mono {H H1 H2 : Hp} (e : Ex H1 H2) : Ex (newp H H1) (newp H H2) := fun a o h => by
  cases q : H a with
  | none =>
    rw [newp_at q] at h ⊢
    exact e _ _ h
  | some u => rw [newp_no q] at h; cases h
def optR : Option Addr → V
  | none => .non
  | some a => .ref a
section
variable {P : Program} {w : World} {K : PySem.W.Frag} {mg : Str → Option Value} {base : Heap}
theorem rv_in_id {H : Hp} {neg : Bool} {a p : Addr} {r : List Addr} (hS : SqL K H p (refs r) ∨ SqT K H p (refs r)) (ha : KO (kC K) H a) (hr : ∀ b, b ∈ r → KO (kC K) H b) : RV (rInI K (kC K) neg) (.ref a) (.ref p) H (.bl (if neg then !decide (a ∈ r) else decide (a ∈ r))) := fun H1 e Q q => by
  refine ⟨p, refs r, rfl, hS.imp (ex_l e) (ex_t e), (ha.ex e).id, ids fun b hb => (hr b hb).ex e, ?_⟩
  have : decide (V.ref a ∈ refs r) = decide (a ∈ r) := by simp only [mem_refs]
  rw [this]
  exact q H1 (Ex.refl H1)
theorem rv_ne_id {H : Hp} {a b : Addr} (ha : KO (kC K) H a) (hb : KO (kC K) H b) : RV (rNeI (kC K)) (.ref a) (.ref b) H (.bl (!decide (a = b))) := fun H1 e Q q => by
  obtain ⟨dx, fs, h⟩ := ha.ex e
  refine ⟨⟨a, dx, fs, rfl, h⟩, (hb.ex e).id, ?_⟩
  have : decide (V.ref a = V.ref b) = decide (a = b) := by simp
  rw [this]
  exact q H1 (Ex.refl H1)
theorem rv_ne_idN {H : Hp} {a : Addr} (ha : KO (kC K) H a) : RV (rNeI (kC K)) (.ref a) .non H (.bl true) := fun H1 e Q q => by
  obtain ⟨dx, fs, h⟩ := ha.ex e
  exact ⟨⟨a, dx, fs, rfl, h⟩, .inl rfl, q H1 (Ex.refl H1)⟩
theorem et_isN {σ : L2.St} {H : Hp} {te : TE} {x : V} (h : Ev te σ H x) : EvT (tB (tIsN te)) σ H (decide (x = .non)) := fun H1 e Q q => h H1 e _ fun H2 e2 => ⟨_, rfl, q H2 e2⟩
theorem et_tru {σ : L2.St} {H : Hp} {te : TE} {x : V} {b : Bool} (h : Ev te σ H x) (ht : ∀ H1, Ex H H1 → TruV K x H1 b) : EvT (fun σ H Q => te σ H fun x H' => ∃ k, TruV K x H' k ∧ Q k H') σ H b := fun H1 e Q q => h H1 e _ fun H2 e2 => ⟨b, ht H2 (e.trans e2), q H2 e2⟩
/-! ### the head of the first row with a kind behind its head -/
def spHrw (K : PySem.W.Frag) : Sp := fun vs H Q _ => ∃ (k p : Addr) (rows : List (List Addr)), vs = [.ref k, .ref p] ∧ Rw K (SqL K) H p rows ∧ Mg.NoNil rows ∧ Ks (kC K) H rows ∧ KO (kC K) H k ∧
  ∀ H', Ex H H' → Q (optR (Mg.hrw k rows)) H'
theorem drop_at {α : Type} {l : List α} {i : Nat} {x : α} (h : l[i]? = some x) : l.drop i = x :: l.drop (i + 1) := by
  obtain ⟨h1, h2⟩ := List.getElem?_eq_some_iff.mp h
  rw [List.drop_eq_getElem_cons h1, h2]
theorem can_hrw (T : Txt K mg) : Can P w K mg base CX0 1 "_head_of_row_with" ["kind", "rows"] (spHrw K) := by
  refine can_of T.g__head_of_row_with T.F__head_of_row_with (fun fd F => ?_) (fun _ _ _ _ _ _ us hl => match us, hl with | [_, _], _ => rfl)
  refine F.ok sc__head_of_row_with (fun vs H Q E h => ?_) (fun cdv A outer s H vs Q E hr h => ?_)
  · obtain ⟨k, p, rows, rfl, _⟩ := h
    rfl
  · obtain ⟨k, p, rows, rfl, ⟨ps, hp, hlen, hrow⟩, nn, ks, hk, fin⟩ := h
    have nd := sc__head_of_row_with.nd
    refine ⟨_, pss_cons (ps_for PassesOwn.never rfl (pi_list (pv 1)) (pg_name (i := 2) nd rfl (.inl rfl))
        (pss_one (ps_if (PW.pt (pw_and (pt_cmpR (op_ne_id hr T.idc) (pv 0) (pe_ix ix_list (pv 2) pe_int (fun _ _ => rfl)) (nomark _)) (pw_and1 (pt_cmpR (op_in_id hr T.idc) (pv 0) (pv 2) rfl))))
          (pss_one (ps_ret (pe_ix ix_list (pv 2) pe_int (fun _ _ => rfl)))) pss_nil)))
      (pss_one (ps_ret pe_non)), ?_⟩
    refine q_forLn (xs := refs ps) (ev_var rfl) hp (fun i σ H' => ∃ v, σ = [some (.ref k), some (.ref p), v] ∧ Ex H H' ∧ Mg.hrw k (rows.drop i) = Mg.hrw k rows) (fun H1 e => ⟨_, rfl, e, rfl⟩) (fun i σ H' _ ⟨v, _, e, _⟩ => ex_l e hp) ?_ ?_
    · rintro i x σ H' hx ⟨v, rfl, e, hd⟩
      obtain ⟨q, hq, rfl⟩ := refs_at hx
      have hil : i < rows.length := by
        have := (List.getElem?_eq_some_iff.mp hq).1
        omega
      obtain ⟨r, hri⟩ := at_some hil
      have hS := ex_l e (hrow i q r hq hri)
      have hmem := List.mem_of_getElem? hri
      have hkr := fun a ha => (ks r hmem a ha).ex e
      cases r with
      | nil => exact absurd rfl (nn _ hmem)
      | cons h t =>
        have hix : Ev (tOp (rIxL K) (tVar 2) (tC (.int 0))) [some (.ref k), some (.ref p), some (.ref q)] H' (.ref h) := ev_op (ev_var rfl) ev_c (rv_ixL hS (at_of (j := 0) rfl rfl))
        rw [drop_at hri] at hd
        have hd : (if k ≠ h ∧ k ∈ h :: t then some h else Mg.hrw k (rows.drop (i + 1))) = Mg.hrw k rows := hd
        refine s_when (et_and (et_test (ev_op (ev_var rfl) hix (rv_ne_id (hk.ex e) (hkr h (List.mem_cons_self ..))))) fun _ => et_test (ev_op (ev_var rfl) (ev_var rfl) (rv_in_id (neg := false) (.inl hS) (hk.ex e) hkr))) (fun hb H1 e1 => ?_) (fun hb H1 e1 => ?_)
        · have hb : (!decide (k = h) && decide (k ∈ h :: t)) = true := hb
          have c : k ≠ h ∧ k ∈ h :: t := by simpa using hb
          rw [if_pos c] at hd
          refine s_ret (hix.mono e1) fun H2 e2 => ?_
          have := fin H2 ((e.trans e1).trans e2)
          rw [← hd] at this
          exact this
        · have hb : (!decide (k = h) && decide (k ∈ h :: t)) = false := hb
          have c : ¬ (k ≠ h ∧ k ∈ h :: t) := by
            intro c
            simp [c.1] at hb
            rcases List.mem_cons.mp c.2 with q | q
            · exact c.1 q
            · exact hb q
          rw [if_neg c] at hd
          exact ⟨_, rfl, e.trans e1, hd⟩
    · rintro σ H' ⟨v, rfl, e, hd⟩
      have e0 : Mg.hrw k rows = none := by
        rw [← hd]
        have : (refs ps).length = rows.length := by unfold refs; rw [List.length_map]; exact hlen
        rw [this, List.drop_length]
        rfl
      refine s_ret ev_c fun H1 e1 => ?_
      have := fin H1 (e.trans e1)
      rw [e0] at this
      exact this
/-! ### the first head that is free -/
def spFreeHead (K : PySem.W.Frag) : Sp := fun vs H Q _ => ∃ (p : Addr) (rows : List (List Addr)), vs = [.ref p] ∧ Rw K (SqL K) H p rows ∧ Mg.NoNil rows ∧ Mg.Nd rows ∧ Ks (kC K) H rows ∧
  ∀ H', Ex H H' → Q (optR (Mg.frees rows).head?) H'
theorem ev_hrw {σ : L2.St} {H : Hp} {ta tb : TE} {k p : Addr} {rows : List (List Addr)} (ha : Ev ta σ H (.ref k)) (hb : Ev tb σ H (.ref p)) (hR : Rw K (SqL K) H p rows) (nn : Mg.NoNil rows) (ks : Ks (kC K) H rows) (hk : KO (kC K) H k) :
    Ev (tCall (spHrw K) [] E0 (tCons ta (tCons tb tNil))) σ H (optR (Mg.hrw k rows)) :=
  ev_call (ea_cons ha (ea_cons hb ea_nil)) fun H1 e Q q E => ⟨k, p, rows, rfl, hR.exL e, nn, ks.ex e, hk.ex e, fun H2 e2 => q H2 e2⟩
theorem optR_non (o : Option Addr) : decide (optR o = V.non) = o.isNone := by
  cases o <;> simp [optR]
theorem can_freeHead (T : Txt K mg) : Can P w K mg base CX0 2 "_free_head" ["rows"] (spFreeHead K) := by
  have CH : Can P w K mg base CX0 1 "_head_of_row_with" ["kind", "rows"] (spHrw K) := can_hrw T
  refine can_of T.g__free_head T.F__free_head (fun fd F => ?_) (fun _ _ _ _ _ _ us hl => match us, hl with | [_], _ => rfl)
  refine F.ok sc__free_head (fun vs H Q E h => ?_) (fun cdv A outer s H vs Q E hr h => ?_)
  · obtain ⟨p, rows, rfl, _⟩ := h
    rfl
  · obtain ⟨p, rows, rfl, R, nn, ndr, ks, fin⟩ := h
    obtain ⟨ps, hp, hlen, hrow⟩ := id R
    have nd := sc__free_head.nd
    refine ⟨_, pss_cons (ps_for PassesOwn.never rfl (pi_list (pv 0)) (pg_name (i := 1) nd rfl (.inl rfl))
        (pss_one (ps_if (pt_cmp (pc_isN (pe_can CH hr pass0 (pa_cons (pe_ix ix_list (pv 1) pe_int (fun _ _ => rfl)) (pa_cons (pv 0) pa_nil)))))
          (pss_one (ps_ret (pe_ix ix_list (pv 1) pe_int (fun _ _ => rfl)))) pss_nil)))
      (pss_one (ps_ret pe_non)), ?_⟩
    have hfind := Mg.frees_find ndr
    refine q_forLn (xs := refs ps) (ev_var rfl) hp (fun i σ H' => ∃ v, σ = [some (.ref p), v] ∧ Ex H H' ∧ (Mg.heads (rows.drop i)).find? (fun h => (Mg.hrw h rows).isNone) = (Mg.frees rows).head?) (fun H1 e => ⟨_, rfl, e, hfind.symm⟩) (fun i σ H' _ ⟨v, _, e, _⟩ => ex_l e hp) ?_ ?_
    · rintro i x σ H' hx ⟨v, rfl, e, hd⟩
      obtain ⟨q, hq, rfl⟩ := refs_at hx
      have hil : i < rows.length := by
        have := (List.getElem?_eq_some_iff.mp hq).1
        omega
      obtain ⟨r, hri⟩ := at_some hil
      have hS := ex_l e (hrow i q r hq hri)
      have hmem := List.mem_of_getElem? hri
      have hkr := fun a ha => (ks r hmem a ha).ex e
      cases r with
      | nil => exact absurd rfl (nn _ hmem)
      | cons h t =>
        have hix : Ev (tOp (rIxL K) (tVar 1) (tC (.int 0))) [some (.ref p), some (.ref q)] H' (.ref h) := ev_op (ev_var rfl) ev_c (rv_ixL hS (at_of (j := 0) rfl rfl))
        rw [drop_at hri, Mg.heads_cons, List.find?_cons] at hd
        refine s_when (et_is (et_isN (ev_hrw hix (ev_var rfl) (R.exL e) nn (ks.ex e) (hkr h (List.mem_cons_self ..)))) (optR_non _)) (fun hb H1 e1 => ?_) (fun hb H1 e1 => ?_)
        · rw [hb] at hd
          refine s_ret (hix.mono e1) fun H2 e2 => ?_
          have := fin H2 ((e.trans e1).trans e2)
          rw [← hd] at this
          exact this
        · rw [hb] at hd
          exact ⟨_, rfl, e.trans e1, hd⟩
    · rintro σ H' ⟨v, rfl, e, hd⟩
      have e0 : (Mg.frees rows).head? = none := by
        rw [← hd]
        have : (refs ps).length = rows.length := by unfold refs; rw [List.length_map]; exact hlen
        rw [this, List.drop_length]
        rfl
      refine s_ret ev_c fun H1 e1 => ?_
      have := fin H1 (e.trans e1)
      rw [e0] at this
      exact this
/-! ### the rows without a kind -/
def spWithout (K : PySem.W.Frag) (S : Hp → Addr → List V → Prop) : Sp := fun vs H Q _ => ∃ (o : Option Addr) (p : Addr) (rows : List (List Addr)), vs = [optR o, .ref p] ∧ Rw K S H p rows ∧ Ks (kC K) H rows ∧ (∀ a, o = some a → KO (kC K) H a) ∧
  rows.length ≤ 40 ∧ (∀ r, r ∈ rows → r.length ≤ 40) ∧ ∀ p' H', H p' = none → Ex H H' → Rw K (SqL K) (newp H H') p' (Mg.wo o rows) → Q (.ref p') H'
end
end K17
end

section
set_option Elab.async false
set_option linter.all false
set_option maxRecDepth 100000
set_option maxHeartbeats 4000000
namespace K17
open PySem PySem.Spec PyProof.Rows L2 He Cn Evl
theorem Rw.of_prs {K : PySem.W.Frag} {S : Hp → Addr → List V → Prop} {H : Hp} {p : Addr} {prs : List (Addr × List Addr)} (h : SqL K H p (refs (prs.map Prod.fst))) (h2 : ∀ x, x ∈ prs → S H x.1 (refs x.2)) : Rw K S H p (prs.map Prod.snd) := by
  refine ⟨prs.map Prod.fst, h, by rw [List.length_map, List.length_map], fun i q r hq hr => ?_⟩
  rw [List.getElem?_map] at hq hr
  cases e : prs[i]? with
  | none => rw [e] at hq; cases hq
  | some x =>
    rw [e] at hq hr
    obtain rfl := Option.some.inj hq
    obtain rfl := Option.some.inj hr
    exact h2 x (List.mem_of_getElem? e)
theorem Rw.prs {K : PySem.W.Frag} {S : Hp → Addr → List V → Prop} {H : Hp} {p : Addr} {rows : List (List Addr)} (h : Rw K S H p rows) : ∃ prs : List (Addr × List Addr), SqL K H p (refs (prs.map Prod.fst)) ∧ rows = prs.map Prod.snd ∧ ∀ x, x ∈ prs → S H x.1 (refs x.2) := by
  obtain ⟨ps, h1, h2, h3⟩ := h
  refine ⟨ps.zip rows, ?_, ?_, fun x hx => ?_⟩
  · rw [List.map_fst_zip (by omega)]
    exact h1
  · rw [List.map_snd_zip (by omega)]
  · obtain ⟨i, hi⟩ := List.mem_iff_getElem?.mp hx
    obtain ⟨e1, e2⟩ := List.getElem?_zip_eq_some.mp hi
    exact h3 i _ _ e1 e2
/-- a comprehension over what a walk gives -/
theorem el_lcW {J : It} {G : Hp → Prop} {xs : List V} {it : TI} {σ : L2.St} {H : Hp} {j : Nat} {t : TT} {te : TE} {vs : List Nat} (wk : Walk J xs.length G (YAt xs)) (hi : ∀ H0, Ex H H0 → ∀ R : It → Hp → Prop, R J H0 → it σ H0 R) (hG : ∀ H', Ex H H' → G H') (f : Nat → Bool) (v : Nat → V) (hz : xs.length ≤ 40000)
    (hw : ∀ x, wipe ((wipe σ vs).set j (some x)) vs = wipe σ vs) (ht : ∀ (i : Nat) (x : V) H1, Ex H H1 → xs[i]? = some x → EvT t ((wipe σ vs).set j (some x)) H1 (f i))
    (he : ∀ (i : Nat) (x : V) H1, Ex H H1 → xs[i]? = some x → f i = true → Ev te ((wipe σ vs).set j (some x)) H1 (v i)) : EvL (tLc it (gName j) t te vs) σ H (given xs.length f v) := fun H1 e Q q =>
  hi H1 e _ fun Dl hD => lc_it wk (Cw H1 f v Dl) ⟨hD, Ex.new hD, upd_same⟩ (fun i H' _ p => hG H' (e.trans p.2.1))
    (fun i x Ha Hb hi p y => by
      obtain ⟨rfl, hx⟩ := y
      exact ⟨hw x, cw_turn p (by omega) (ht i x H1 e hx) (fun hf => he i x H1 e hx hf)⟩)
    (fun H' p => q Dl H' p.1 p.2.1 p.2.2)
theorem given_filter {α : Type} (l : List α) (p : α → Bool) (g : α → V) (f : Nat → Bool) (v : Nat → V) (hf : ∀ i x, l[i]? = some x → f i = p x) (hv : ∀ i x, l[i]? = some x → v i = g x) : given l.length f v = (l.filter p).map g := by
  have key : ∀ k, k ≤ l.length → given k f v = ((l.take k).filter p).map g := by
    intro k
    induction k with
    | zero => intro _; rfl
    | succ k ih =>
      intro hk
      have ih := ih (by omega)
      obtain ⟨x, hx⟩ := at_some (l := l) (i := k) (by omega)
      have et : l.take (k + 1) = l.take k ++ [x] := by rw [List.take_add_one, hx] <;> rfl
      rw [et, List.filter_append, List.map_append, ← ih]
      cases q : p x with
      | true =>
        rw [given_yes ((hf k x hx).trans q), hv k x hx, List.filter_cons, if_pos q]
        rfl
      | false =>
        rw [given_no ((hf k x hx).trans q), List.filter_cons, if_neg (by rw [q]; decide)]
        simp
  have := key l.length (Nat.le_refl _)
  rw [List.take_length] at this
  exact this
/-- how the rows' own items are walked -/
structure Wk (K : PySem.W.Frag) (S : Hp → Addr → List V → Prop) (it : TE → TI) : Prop where
  wk : ∀ (te : TE) (σ : L2.St) (H : Hp) (q : Addr) (xs : List V), Ev te σ H (.ref q) → S H q xs → ∃ J : It, Walk J xs.length (fun H => S H q xs) (YAt xs) ∧ ∀ H0, Ex H H0 → ∀ R : It → Hp → Prop, (∀ H1, Ex H0 H1 → R J H1) → it te σ H0 R
  ex : ∀ {H H' : Hp} {q : Addr} {xs : List V}, Ex H H' → S H q xs → S H' q xs
theorem wk_list {K : PySem.W.Frag} : Wk K (SqL K) (iList K) :=
  ⟨fun te σ H q xs h hs => ⟨Itl K q, walk_list, fun H0 e R hR => h H0 e _ fun H1 e1 => ⟨q, rfl, ⟨xs, ex_l (e.trans e1) hs⟩, hR H1 e1⟩⟩, ex_l⟩
theorem wk_tup {K : PySem.W.Frag} : Wk K (SqT K) (iTup K) :=
  ⟨fun te σ H q xs h hs => ⟨Itt K q, walk_tup, fun H0 e R hR => h H0 e _ fun H1 e1 => ⟨q, rfl, ⟨xs, ex_t (e.trans e1) hs⟩, hR H1 e1⟩⟩, ex_t⟩
theorem el_lcK {K : PySem.W.Frag} {S : Hp → Addr → List V → Prop} {it : TE → TI} (W : Wk K S it) {tl : TE} {q : Addr} {xs : List V} {σ : L2.St} {H : Hp} {j : Nat} {t : TT} {te : TE} {vs : List Nat} (hl : Ev tl σ H (.ref q)) (hs : S H q xs) (f : Nat → Bool) (v : Nat → V) (hz : xs.length ≤ 40000)
    (hw : ∀ x, wipe ((wipe σ vs).set j (some x)) vs = wipe σ vs) (ht : ∀ (i : Nat) (x : V) H1, Ex H H1 → xs[i]? = some x → EvT t ((wipe σ vs).set j (some x)) H1 (f i))
    (he : ∀ (i : Nat) (x : V) H1, Ex H H1 → xs[i]? = some x → f i = true → Ev te ((wipe σ vs).set j (some x)) H1 (v i)) : EvL (tLc (it tl) (gName j) t te vs) σ H (given xs.length f v) := fun H1 e Q q' => by
  obtain ⟨J, wk, hi⟩ := W.wk tl σ H q xs hl hs
  refine hi H1 e _ fun H2 e2 => ?_
  intro Dl hD
  exact lc_it wk (Cw H2 f v Dl) ⟨hD, Ex.new hD, upd_same⟩ (fun i H' _ p => W.ex ((e.trans e2).trans p.2.1) hs)
    (fun i x Ha Hb hi p y => by
      obtain ⟨rfl, hx⟩ := y
      exact ⟨hw x, cw_turn p (by omega) (ht i x H2 (e.trans e2) hx) (fun hf => he i x H2 (e.trans e2) hx hf)⟩)
    (fun H' p => q' Dl H' (fresh_back e2 p.1) (e2.trans p.2.1) p.2.2)
section
variable {P : Program} {w : World} {K : PySem.W.Frag} {mg : Str → Option Value} {base : Heap}
def tTruQ (K : PySem.W.Frag) (ta : TE) : TT := fun σ H Q => ta σ H fun x H' => ∃ k, TruV K x H' k ∧ Q k H'
/-- the scope of a comprehension within which another one reads head -/
def scW1 : Scope := { kind := .function, names := [(".0", .local), ("row", .local), ("head", .cell)], isGenerator := false, isCoroutine := false }
/-- a row without a kind -/
def outO (o : Option Addr) (r : List Addr) : List Addr := match o with
  | some h => r.filter fun x => decide (x ≠ h)
  | none => r
theorem wo_eq (o : Option Addr) (rows : List (List Addr)) : Mg.wo o rows = (rows.map (outO o)).filter fun r => !r.isEmpty := by
  cases o with
  | some h => rfl
  | none =>
    show Mg.full rows = _
    rw [show rows.map (outO none) = rows from List.map_id rows]
    rfl
theorem outO_filter (o : Option Addr) (r : List Addr) : outO o r = r.filter fun x => !decide (some x = o) := by
  cases o with
  | some h =>
    show (r.filter fun x => decide (x ≠ h)) = r.filter fun x => !decide (some x = some h)
    congr 1
    funext x
    by_cases e : x = h <;> simp [e]
  | none =>
    unfold outO
    rw [List.filter_eq_self.mpr]
    intro x _
    simp
theorem rv_ne_o {H : Hp} {a : Addr} {o : Option Addr} (ha : KO (kC K) H a) (ho : ∀ b, o = some b → KO (kC K) H b) : RV (rNeI (kC K)) (.ref a) (optR o) H (.bl (!decide (some a = o))) := by
  cases o with
  | none => exact rv_ne_idN ha
  | some b =>
    have : (!decide (some a = some b)) = !decide (a = b) := by simp
    rw [this]
    exact rv_ne_id ha (ho b rfl)
theorem el_outO {S : Hp → Addr → List V → Prop} {it : TE → TI} (W : Wk K S it) {σ : L2.St} {H : Hp} {q : Addr} {o : Option Addr} {r : List Addr} (hs : S H q (refs r)) (hr : ∀ a, a ∈ r → KO (kC K) H a) (ho : ∀ b, o = some b → KO (kC K) H b) (hl : r.length ≤ 40) (h0 : σ[0]? = some (some (optR o))) (h3 : σ[3]? = some (some (.ref q))) (h5 : σ.length = 5) :
    EvL (tLc (it (tVar 3)) (gName 4) (tTest (tOp (rNeI (kC K)) (tVar 4) (tVar 0))) (tVar 4) [4]) σ H (refs (outO o r)) := by
  have lr : (refs r).length = r.length := by unfold refs; rw [List.length_map]
  have h := el_lcK W (j := 4) (t := tTest (tOp (rNeI (kC K)) (tVar 4) (tVar 0))) (te := tVar 4) (vs := [4]) (ev_var h3) hs (fun i => match r[i]? with | some a => !decide (some a = o) | none => false) (fun i => match r[i]? with | some a => .ref a | none => .non) (by omega) (fun x => by
      match σ, h5 with
      | [a, b, c, d, e], _ => rfl) (fun i x H1 e hx => by
      obtain ⟨a, ha, rfl⟩ := refs_at hx
      have : (match r[i]? with | some a => !decide (some a = o) | none => false) = !decide (some a = o) := by rw [ha]
      rw [this]
      have ha' := (hr a (List.mem_of_getElem? ha)).ex e
      refine et_test (ev_op (x := .ref a) (y := optR o) (ev_var ?_) (ev_var ?_) (rv_ne_o ha' fun b hb => (ho b hb).ex e))
      · match σ, h5 with
        | [a, b, c, d, e], _ => rfl
      · match σ, h5, h0 with
        | [a, b, c, d, e], _, h0 => exact h0) (fun i x H1 e hx _ => by
      obtain ⟨a, ha, rfl⟩ := refs_at hx
      have : (match r[i]? with | some a => V.ref a | none => .non) = .ref a := by rw [ha]
      rw [this]
      refine ev_var ?_
      match σ, h5 with
        | [a, b, c, d, e], _ => rfl)
  rw [lr, given_filter r (fun x => !decide (some x = o)) V.ref _ _ (fun i x hx => by rw [hx]) (fun i x hx => by rw [hx]), ← outO_filter] at h
  exact h
/-- what makes a new list of new rows -/
def EvR (K : PySem.W.Frag) (te : TE) (σ : L2.St) (H : Hp) (rows : List (List Addr)) : Prop := ∀ H1, Ex H H1 → ∀ Q : VK, (∀ p H2, H1 p = none → Ex H1 H2 → Rw K (SqL K) (newp H1 H2) p rows → Q (.ref p) H2) → te σ H1 Q
theorem yes_then {te : TE} {σ : L2.St} {H : Hp} {Q : VK} {N : Hp → Prop} (h : te σ H Q) : tYes σ H (fun b H3 => if b = true then te σ H3 Q else N H3) := by
  show if true = true then te σ H Q else N H
  rw [if_pos rfl]
  exact h
theorem q_asgR {te : TE} {σ : L2.St} {H : Hp} {rows : List (List Addr)} {i : Nat} {tz : TS} {D : Ends} (h : EvR K te σ H rows) (k : ∀ p H1, H p = none → Ex H H1 → Rw K (SqL K) (newp H H1) p rows → tz D (σ.set i (some (.ref p))) H1) : tSeq (tAsg te (gName i)) tz D σ H := h H (Ex.refl H) _ k
theorem s_retR {te : TE} {σ : L2.St} {H : Hp} {rows : List (List Addr)} {D : Ends} (h : EvR K te σ H rows) (k : ∀ p H1, H p = none → Ex H H1 → Rw K (SqL K) (newp H H1) p rows → D.rt (.ref p) H1) : tRet te D σ H := h H (Ex.refl H) _ k
theorem er_outO {S : Hp → Addr → List V → Prop} {it : TE → TI} (W : Wk K S it) {σ : L2.St} {H : Hp} {p : Addr} {o : Option Addr} {rows : List (List Addr)} (R : Rw K S H p rows) (ks : Ks (kC K) H rows) (ho : ∀ b, o = some b → KO (kC K) H b) (l1 : rows.length ≤ 40) (l2 : ∀ r, r ∈ rows → r.length ≤ 40)
    (h0 : σ[0]? = some (some (optR o))) (h1 : σ[1]? = some (some (.ref p))) (h5 : σ.length = 5) :
    EvR K (tLc (iList K (tVar 1)) (gName 3) tYes (tLc (it (tVar 3)) (gName 4) (tTest (tOp (rNeI (kC K)) (tVar 4) (tVar 0))) (tVar 4) [4]) [3]) σ H (rows.map (outO o)) := fun H1 e1 Q q => by
  obtain ⟨prs, hp, rfl, hrow⟩ := R.prs
  refine ⟨_, h1, p, rfl, ⟨_, ex_l e1 hp⟩, fun D hD => ?_⟩
  refine lc_list (xs := refs (prs.map Prod.fst)) (fun i H' => Ex H1 H' ∧ ∃ qrs : List (Addr × List Addr), H' D = some (.lst (refs (qrs.map Prod.fst))) ∧ qrs.map Prod.snd = ((prs.take i).map Prod.snd).map (outO o) ∧ (∀ x, x ∈ qrs → x.1 ≠ D ∧ H1 x.1 = none ∧ H' x.1 = some (.lst (refs x.2)))) ⟨Ex.new hD, [], upd_same, by simp, fun x hx => by cases hx⟩
    (fun i H' _ ⟨e2, _⟩ => ex_l (e1.trans e2) hp) ?_ ?_
  · rintro i x H2 hx ⟨e2, qrs, hD2, hsnd, hqs⟩
    obtain ⟨q0, hq0, rfl⟩ := refs_at hx
    rw [List.getElem?_map] at hq0
    cases ei : prs[i]? with
    | none => rw [ei] at hq0; cases hq0
    | some pr =>
      rw [ei] at hq0
      obtain rfl := Option.some.inj hq0
      have hmem := List.mem_of_getElem? ei
      have hm2 : pr.2 ∈ prs.map Prod.snd := List.mem_map_of_mem hmem
      have e12 := e1.trans e2
      refine ⟨?_, ?_⟩
      · match σ, h5 with
        | [a, b, c, d, e], _ => rfl
      refine yes_then ?_
      refine el_outO W (W.ex e12 (hrow pr hmem)) (fun a ha => (ks pr.2 hm2 a ha).ex e12) (fun b hb => (ho b hb).ex e12) (l2 pr.2 hm2) ?_ ?_ ?_ H2 (Ex.refl H2) _ fun pn H3 hpn e3 h3 => ?_
      · match σ, h5, h0 with
        | [a, b, c, d, e], _, h0 => exact h0
      · match σ, h5 with
        | [a, b, c, d, e], _ => rfl
      · match σ, h5 with
        | [a, b, c, d, e], _ => rfl
      have hlen : qrs.length = i := by
        have := congrArg List.length hsnd
        rw [List.length_map, List.length_map, List.length_map, List.length_take] at this
        have hi := (List.getElem?_eq_some_iff.mp ei).1
        omega
      have hi := (List.getElem?_eq_some_iff.mp ei).1
      rw [List.length_map] at l1
      have nD : pn ≠ D := (ne_of_none hD2 hpn).symm
      refine ⟨refs (qrs.map Prod.fst), e3 _ _ hD2, sz_lt (by unfold refs; rw [List.length_map, List.length_map]; omega), Ex.mut (e2.trans e3) hD, qrs ++ [(pn, outO o pr.2)], ?_, ?_, fun x hx => ?_⟩
      · rw [upd_same]
        unfold refs
        simp
      · rw [List.map_append, hsnd, List.take_add_one, ei]
        simp
      · rcases List.mem_append.mp hx with hx | hx
        · obtain ⟨n1, n0, n2⟩ := hqs x hx
          exact ⟨n1, n0, by rw [upd_ne n1]; exact e3 _ _ n2⟩
        · obtain rfl := List.mem_singleton.mp hx
          exact ⟨nD, fresh_back e2 hpn, by rw [upd_ne nD]; exact h3⟩
  · rintro H2 ⟨e2, qrs, hD2, hsnd, hqs⟩
    have ll : (refs (prs.map Prod.fst)).length = prs.length := by unfold refs; rw [List.length_map, List.length_map]
    rw [ll, List.take_length] at hsnd
    rw [← hsnd] at q
    exact q D H2 hD e2 (Rw.of_prs (sq_of (by rw [newp_at hD]; exact hD2)) fun x hx => sq_of (by rw [newp_at (hqs x hx).2.1]; exact (hqs x hx).2.2))
theorem full_rows (rows : List (List Addr)) : Mg.full rows = rows.filter fun r => !r.isEmpty := rfl
/-- the rest of the rows that hold something -/
theorem er_some {σ : L2.St} {G H : Hp} {p : Addr} {rows : List (List Addr)} (eG : Ex G H) (R : Rw K (SqL K) G p rows) (l1 : rows.length ≤ 40) (h2 : σ[2]? = some (some (.ref p))) (h5 : σ.length = 5) :
    ∀ H1, Ex H H1 → ∀ Q : VK, (∀ p H2, H1 p = none → Ex H1 H2 → (∀ G', Ex G G' → G' p = H2 p → Rw K (SqL K) G' p (rows.filter fun r => !r.isEmpty)) → Q (.ref p) H2) → tLc (iList K (tVar 2)) (gName 3) (tTruQ K (tVar 3)) (tVar 3) [3] σ H1 Q := fun H1 e1 Q q => by
  obtain ⟨prs, hp, rfl, hrow⟩ := R.prs
  have ll : (refs (prs.map Prod.fst)).length = prs.length := by unfold refs; rw [List.length_map, List.length_map]
  rw [List.length_map] at l1
  have h := el_lcK wk_list (tl := tVar 2) (σ := σ) (H := H) (j := 3) (t := tTruQ K (tVar 3)) (te := tVar 3) (vs := [3]) (ev_var h2) (ex_l eG hp) (fun i => match prs[i]? with | some a => !a.2.isEmpty | none => false) (fun i => match prs[i]? with | some a => .ref a.1 | none => .non) (by omega) (fun x => by
      match σ, h5 with
      | [a, b, c, d, e], _ => rfl) (fun i x H1 e hx => by
      obtain ⟨a, ha, rfl⟩ := refs_at hx
      rw [List.getElem?_map] at ha
      cases ei : prs[i]? with
      | none => rw [ei] at ha; cases ha
      | some pr =>
        rw [ei] at ha
        obtain rfl := Option.some.inj ha
        have hm := List.mem_of_getElem? ei
        refine et_tru (x := .ref pr.1) (ev_var ?_) fun H2 e2 => .inl ⟨refs pr.2, ex_l ((eG.trans e).trans e2) (hrow pr hm), ?_⟩
        · match σ, h5 with
          | [a, b, c, d, e], _ => rfl
        · obtain ⟨pr1, pr2⟩ := pr
          cases pr2 <;> rfl) (fun i x H1 e hx _ => by
      obtain ⟨a, ha, rfl⟩ := refs_at hx
      rw [List.getElem?_map] at ha
      cases ei : prs[i]? with
      | none => rw [ei] at ha; cases ha
      | some pr =>
        rw [ei] at ha
        obtain rfl := Option.some.inj ha
        refine ev_var ?_
        match σ, h5 with
        | [a, b, c, d, e], _ => rfl)
  rw [ll, given_filter prs (fun x => !x.2.isEmpty) (fun x => V.ref x.1) _ _ (fun i x hx => by rw [hx]) (fun i x hx => by rw [hx])] at h
  refine h H1 e1 _ fun p2 H2 hp2 e2 h2 => ?_
  have er : (prs.filter fun x => !x.2.isEmpty).map Prod.snd = (prs.map Prod.snd).filter fun r => !r.isEmpty := by
    rw [List.filter_map]
    rfl
  rw [← er] at q
  refine q p2 H2 hp2 e2 fun G' eg hg => Rw.of_prs (sq_of ?_) fun x hx => ex_l eg (hrow x (List.mem_filter.mp hx).1)
  rw [hg, h2]
  unfold refs
  rw [List.map_map]
  rfl
theorem rd_without {S : Hp → Addr → List V → Prop} {it : TE → TI} (W : Wk K S it) {σ : L2.St} {H : Hp} {p : Addr} {o : Option Addr} {rows : List (List Addr)} {D : Ends} (R : Rw K S H p rows) (ks : Ks (kC K) H rows) (ho : ∀ b, o = some b → KO (kC K) H b) (l1 : rows.length ≤ 40) (l2 : ∀ r, r ∈ rows → r.length ≤ 40)
    (h0 : σ[0]? = some (some (optR o))) (h1 : σ[1]? = some (some (.ref p))) (h5 : σ.length = 5) (fin : ∀ p' H', H p' = none → Ex H H' → Rw K (SqL K) (newp H H') p' (Mg.wo o rows) → D.rt (.ref p') H') :
    tSeq (tAsg (tLc (iList K (tVar 1)) (gName 3) tYes (tLc (it (tVar 3)) (gName 4) (tTest (tOp (rNeI (kC K)) (tVar 4) (tVar 0))) (tVar 4) [4]) [3]) (gName 2)) (tRet (tLc (iList K (tVar 2)) (gName 3) (tTruQ K (tVar 3)) (tVar 3) [3])) D σ H := by
  refine q_asgR (er_outO W R ks ho l1 l2 h0 h1 h5) fun pr H1 hpr e1 R1 => ?_
  refine er_some (newp_ex (H := H) (H' := H1)) R1 (by rw [List.length_map]; exact l1) ?_ (by rw [List.length_set]; exact h5) H1 (Ex.refl H1) _ fun p2 H2 hp2 e2 R2 => ?_
  · match σ, h5 with
    | [a, b, c, d, e], _ => rfl
  · have R3 := R2 (newp H H2) (newp_mono e2) (newp_at (fresh_back e1 hp2))
    rw [← wo_eq] at R3
    exact fin p2 H2 (fresh_back e1 hp2) (e1.trans e2) R3
theorem can_withoutL (T : Txt K mg) : Can P w K mg base CX0 1 "_without" ["head", "rows"] (spWithout K (SqL K)) := by
  refine can_of T.g__without T.F__without (fun fd F => ?_) (fun _ _ _ _ _ _ us hl => match us, hl with | [_, _], _ => rfl)
  refine F.ok sc__without (fun vs H Q E h => ?_) (fun cdv A outer s H vs Q E hr h => ?_)
  · obtain ⟨o, p, rows, rfl, _⟩ := h
    rfl
  · obtain ⟨o, p, rows, rfl, R, ks, ho, l1, l2, fin⟩ := h
    have nd := sc__without.nd
    refine ⟨_, pss_cons (ps_setLc (i := 2) (own := [("row", 3)]) (g := gName 3) (tt := tYes) rfl nd rfl rfl (sw_true rfl rfl rfl (by decide +kernel)) (pi_list (pv 1)) (blkOk_by (N := ["head", "rows", "rest", "row", "kind"]) (sc := defScope s__without) (by decide +kernel)) (fun _ _ _ _ _ => pg_name (i := 3) nd rfl (.inl rfl)) (fun _ _ _ _ _ => pts_nil)
        (fun s1 H1 C1 cl1 fp1 => pe_lc (own := [("kind", 4)]) (wi := iList K (tVar 3)) (g := gName 4) (tt := tTest (tOp (rNeI (kC K)) (tVar 4) (tVar 0))) rfl nd (pi_list (pv 3)) (blkOk_by (N := ["head", "rows", "rest", "row", "kind"]) (sc := scW1) (by decide +kernel)) (fun _ _ _ _ _ => pg_name (i := 4) nd rfl (.inl rfl)) (fun _ _ _ _ _ => pts_one (pt_cmpR (op_ne_id hr T.idc) (pv 4) (pv 0) (nomark _))) (fun _ _ _ _ _ => pv 4)))
      (pss_one (ps_ret (pe_lc (own := [("row", 3)]) (wi := iList K (tVar 2)) (g := gName 3) (tt := tTruQ K (tVar 3)) rfl nd (pi_list (pv 2)) (blkOk_by (N := ["head", "rows", "rest", "row", "kind"]) (sc := defScope s__without) (by decide +kernel)) (fun _ _ _ _ _ => pg_name (i := 3) nd rfl (.inl rfl)) (fun _ _ _ _ _ => pts_one (pt_truth (pv 3) (by intro _; rfl))) (fun _ _ _ _ _ => pv 3)))), ?_⟩
    exact rd_without wk_list R ks ho l1 l2 rfl rfl rfl fin
theorem can_withoutT (T : Txt K mg) : Can P w K mg base CX0 1 "_without" ["head", "rows"] (spWithout K (SqT K)) := by
  refine can_of T.g__without T.F__without (fun fd F => ?_) (fun _ _ _ _ _ _ us hl => match us, hl with | [_, _], _ => rfl)
  refine F.ok sc__without (fun vs H Q E h => ?_) (fun cdv A outer s H vs Q E hr h => ?_)
  · obtain ⟨o, p, rows, rfl, _⟩ := h
    rfl
  · obtain ⟨o, p, rows, rfl, R, ks, ho, l1, l2, fin⟩ := h
    have nd := sc__without.nd
    refine ⟨_, pss_cons (ps_setLc (i := 2) (own := [("row", 3)]) (g := gName 3) (tt := tYes) rfl nd rfl rfl (sw_true rfl rfl rfl (by decide +kernel)) (pi_list (pv 1)) (blkOk_by (N := ["head", "rows", "rest", "row", "kind"]) (sc := defScope s__without) (by decide +kernel)) (fun _ _ _ _ _ => pg_name (i := 3) nd rfl (.inl rfl)) (fun _ _ _ _ _ => pts_nil)
        (fun s1 H1 C1 cl1 fp1 => pe_lc (own := [("kind", 4)]) (wi := iTup K (tVar 3)) (g := gName 4) (tt := tTest (tOp (rNeI (kC K)) (tVar 4) (tVar 0))) rfl nd (pi_tup (pv 3)) (blkOk_by (N := ["head", "rows", "rest", "row", "kind"]) (sc := scW1) (by decide +kernel)) (fun _ _ _ _ _ => pg_name (i := 4) nd rfl (.inl rfl)) (fun _ _ _ _ _ => pts_one (pt_cmpR (op_ne_id hr T.idc) (pv 4) (pv 0) (nomark _))) (fun _ _ _ _ _ => pv 4)))
      (pss_one (ps_ret (pe_lc (own := [("row", 3)]) (wi := iList K (tVar 2)) (g := gName 3) (tt := tTruQ K (tVar 3)) rfl nd (pi_list (pv 2)) (blkOk_by (N := ["head", "rows", "rest", "row", "kind"]) (sc := defScope s__without) (by decide +kernel)) (fun _ _ _ _ _ => pg_name (i := 3) nd rfl (.inl rfl)) (fun _ _ _ _ _ => pts_one (pt_truth (pv 3) (by intro _; rfl))) (fun _ _ _ _ _ => pv 3)))), ?_⟩
    exact rd_without wk_tup R ks ho l1 l2 rfl rfl rfl fin
end
end K17
end

section
set_option Elab.async false
set_option linter.all false
set_option maxRecDepth 100000
set_option maxHeartbeats 4000000
namespace K17
open PySem PySem.Spec PyProof.Rows L2 He Cn Evl
theorem nodup_len {α : Type} [DecidableEq α] : ∀ (l m : List α), l.Nodup → (∀ x, x ∈ l → x ∈ m) → l.length ≤ m.length
  | [], m, _, _ => Nat.zero_le _
  | a :: l, m, nd, h => by
    obtain ⟨n1, n2⟩ := List.nodup_cons.mp nd
    have ha := h a (List.mem_cons_self ..)
    have ih := nodup_len l (m.erase a) n2 fun x hx => (List.mem_erase_of_ne (fun e => n1 (by rw [← e]; exact hx))).mpr (h x (List.mem_cons_of_mem _ hx))
    have := List.length_erase_of_mem ha
    have : 0 < m.length := List.length_pos_of_mem ha
    rw [List.length_cons]
    omega
theorem idx_refs {a : Addr} : ∀ {r : List Addr}, (refs r).idxOf (.ref a) = r.idxOf a
  | [] => rfl
  | b :: r => by
    have ih := idx_refs (a := a) (r := r)
    show (V.ref b :: refs r).idxOf (.ref a) = _
    rw [List.idxOf_cons, List.idxOf_cons, ih]
    by_cases e : b = a
    · subst e
      simp
    · have e1 : (V.ref b == V.ref a) = false := by simpa using e
      have e2 : (b == a) = false := by simpa using e
      rw [e1, e2]
section
variable {P : Program} {w : World} {K : PySem.W.Frag} {mg : Str → Option Value} {base : Heap}
theorem cut_drop {xs : List V} {i : Nat} (h : i ≤ xs.length) : cutV xs (some (i : Int)) none = xs.drop i := by
  unfold cutV
  rw [HT.sIx_nat, HT.sIx_none, Nat.min_eq_left h, List.take_of_length_le]
  rw [List.length_drop]
  exact Nat.le_refl _
end
end K17
end

section
set_option Elab.async false
set_option linter.all false
set_option maxRecDepth 100000
set_option maxHeartbeats 2000000
/-! tuples whose object is known: without a dict of their own, so that their methods are the type's -/
namespace L2
open PySem PySem.Spec PyProof.Rows
variable {X : Cx}
def NoD (K : PySem.W.Frag) (H : Hp) (a : Addr) : Prop := (∃ (o : Obj) (u : HO), H a = some (.frz o u) ∧ o.dict = Option.none) ∨ ∃ o : Obj, K.lookup a = some o ∧ o.dict = Option.none
def SqD (K : PySem.W.Frag) (H : Hp) (a : Addr) (xs : List V) : Prop := SqT K H a xs ∧ NoD K H a
theorem SqD.of {K : PySem.W.Frag} {H : Hp} {a : Addr} {xs : List V} {o : Obj} (h : H a = some (.frz o (.tup xs))) (d : o.dict = Option.none) : SqD K H a xs := ⟨.inl (.inr ⟨o, h⟩), .inl ⟨o, _, h, d⟩⟩
theorem SqD.ex {K : PySem.W.Frag} {H H' : Hp} {a : Addr} {xs : List V} (e : Evl.Ex H H') (h : SqD K H a xs) : SqD K H' a xs := by
  refine ⟨Evl.ex_t e h.1, ?_⟩
  rcases h.2 with ⟨o, u, h1, h2⟩ | h
  · exact .inl ⟨o, u, e _ _ h1, h2⟩
  · exact .inr h
theorem NoD.at_ {pins : List (Addr × Obj)} {σ : St} {H : Hp} {s : Shared} {a : Addr} (I : Inv X pins σ H s) (h : NoD X.K H a) : ∃ ob, s.heap.get? a = some ob ∧ ob.dict = Option.none := by
  rcases h with ⟨o, u, h1, h2⟩ | ⟨o, h1, h2⟩
  · obtain ⟨e, _⟩ := (show ObjOk X.prog X.w H s.heap a (.frz o u) from I.hok a _ h1)
    exact ⟨o, e, h2⟩
  · exact ⟨o, I.kIn _ _ h1, h2⟩
def tBMD (K : PySem.W.Frag) (r : V → List V → Hp → VK → Prop) (to : TE) (t : TA) : TE := fun σ H Q => to σ H fun x H1 => (∃ p xs, x = .ref p ∧ SqD K H1 p xs) ∧ t σ H1 fun xs H2 => r x xs H2 Q
variable {o e : Expr} {es : List Expr} {to : TE} {t : TA} {name : Str} {apos cpos pos : Pos} {T id : String} {r : V → List V → Hp → VK → Prop}
/-- t.m(e, ..), t such a tuple -/
theorem pe_bmD (slot : Slot "tuple" name id) (hty : typeOf (.builtin id) = pure (.type "method_descriptor")) (hm : MtR X id r) (ho : PE X o to) (ha : PA X (e :: es) t)
    (hbase : attributeBase o name X.env (eval o X.env) = eval o X.env := by rfl)
    (hfew : ((backTo cpos (starEach (e :: es) X.env)).all (fun x => !x.1) && (backToKw cpos (keywordEach [] X.env)).all (fun x => x.1.isSome)
      && decide ((e :: es).length + ([] : List Keyword).length + (if ([] : List Keyword).isEmpty then 0 else 1) < 30)) = true := by rfl)
    (hline : (apos.endLine == cpos.line) = true := by rfl) (hs : starEach (e :: es) X.env = (false, eval e X.env) :: starEach es X.env := by rfl) (hplain : (backTo cpos (starEach es X.env)).any (·.1) = false := by rfl) :
    PE X (.Call (.Attribute o name apos) (e :: es) [] cpos) (tBMD X.K r to t) := by
  refine ⟨fun pins s σ H Q I h => ?_⟩
  refine wpAny_Call_method_late hbase hfew hline rfl (thn (ho.run pins s σ H _ I h) fun v s1 ⟨x, H1, I1, r1, ty, q1⟩ => ?_)
  obtain ⟨p, xs, rfl, hx, hd⟩ := ty
  cases r1
  obtain ⟨its, rv, ht, hz⟩ := I1.tuple hx
  refine ⟨"tuple", id, PySem.F.plainAttrs_tuple, slot, hty, ht.typeIs, fun a e => by cases e; exact hd.at_ I1, ?_⟩
  have hA := ha.run cpos pins s1 σ H1 _ I1 q1
  rw [hs] at hA ⊢
  refine Calls.callWith_builtin (by show (false || (backTo cpos (starEach es X.env)).any (·.1)) = false; rw [hplain] <;> rfl) (Calls.evalArgs_plain ?_)
  exact thn hA fun us s2 ⟨vs, H2, I2, r2, q2⟩ => hm pins s2 σ H2 (.ref p) vs (Value.ref p) us Q I2 rfl r2 q2
def tTupZ (t : TA) : TE := fun σ H Q => t σ H fun xs H1 => xs.length ≤ sizeLine ∧ ∀ (p : Addr) (o : Obj), H1 p = Option.none → o.dict = Option.none → Q (.ref p) (upd H1 p (.frz o (.tup xs)))
theorem pe_tupZ {x1} (h : PA X es t) : PE X (.Tuple es x1 pos) (tTupZ t) := by
  refine ⟨fun pins s σ H Q I hq => ?_⟩
  refine wpAny_Tuple_spliced (thn (h.run pos pins s σ H _ I hq) fun us s1 ⟨xs, H1, I1, r, z, q⟩ => ⟨by rw [← r.length]; exact z, ?_⟩)
  have hf : H1 s1.heap.objs.size = none := I1.hok.fresh (Nat.le_refl _)
  refine ⟨.ref s1.heap.objs.size, upd H1 s1.heap.objs.size (.frz { cls := .type "tuple", data := .seq us.toArray } (.tup xs)), I1.laid (t' := s1.toks) (fun b u e => Heap.get?_push_of_some _ e) (Nat.le_refl _) ?_, rfl, q _ _ hf rfl⟩
  exact ⟨Heap.get?_push_size _ rfl, z, us, r, ⟨_, Heap.get?_push_size _ rfl, rfl, _, rfl⟩⟩
def rTupZ (K : PySem.W.Frag) : List V → Hp → VK → Prop := fun xs H Q => ∃ p ys, xs = [.ref p] ∧ SqL K H p ys ∧ ∀ (l : Addr) (o : Obj), H l = Option.none → o.dict = Option.none → Q (.ref l) (upd H l (.frz o (.tup ys)))
theorem call_tuple_ofZ : CallR X (.type "tuple") (rTupZ X.K) := by
  intro pins s σ H xs us Q I r h
  obtain ⟨p, ys, rfl, hq, q⟩ := h
  obtain ⟨u, rfl, rx⟩ := vals1 r
  cases rx
  obtain ⟨its, r', pl, hz⟩ := I.list hq
  have hlen := r'.length
  refine call_tuple_list pl.isList (fun h' kp => ?_) (by simp only [List.size_toArray] <;> omega)
  have I1 : Inv X pins σ H { s with heap := h' } := I.kept (t' := s.toks) kp
  have I2 : Inv X pins σ (upd H h'.objs.size (.frz { cls := .type "tuple", data := .seq its.toArray } (.tup ys))) { s with heap := h'.push { cls := .type "tuple", data := .seq its.toArray } } :=
    I1.laid (t' := s.toks) (fun b o e => Heap.get?_push_of_some _ e) (Nat.le_refl _) ⟨Heap.get?_push_size _ rfl, hz, its, r', IsTup.new _ _⟩
  exact ⟨.ref h'.objs.size, _, I2, rfl, q _ _ (I1.hok.fresh (Nat.le_refl _)) rfl⟩
end L2
end

section
set_option Elab.async false
set_option linter.all false
set_option maxRecDepth 100000
set_option maxHeartbeats 4000000
namespace K17
open PySem PySem.Spec PyProof.Rows L2 He Cn Evl
/-- a kind whose line l is known -/
def LnAt (K : PySem.W.Frag) (H : Hp) (a : Addr) (l : List Addr) : Prop := ∃ (dx q : Addr) (fs : List (Str × V)), H a = some (.ins (kC K) dx fs) ∧ fs.lookup ("line" : Str) = some (.ref q) ∧ SqD K H q (refs l)
theorem LnAt.ex {K : PySem.W.Frag} {H H' : Hp} {a : Addr} {l : List Addr} (e : Ex H H') (h : LnAt K H a l) : LnAt K H' a l := by
  obtain ⟨dx, q, fs, h1, h2, h3⟩ := h
  exact ⟨dx, q, fs, e _ _ h1, h2, h3.ex e⟩
theorem LnAt.ko {K : PySem.W.Frag} {H : Hp} {a : Addr} {l : List Addr} (h : LnAt K H a l) : KO (kC K) H a := by
  obtain ⟨dx, q, fs, h1, _⟩ := h
  exact ⟨dx, fs, h1⟩
theorem ev_fld {K : PySem.W.Frag} {σ : L2.St} {H : Hp} {te : TE} {a C dx : Addr} {fs : List (Str × V)} {f : Str} {v : V} (h : Ev te σ H (.ref a)) (ha : H a = some (.ins C dx fs)) (c : Cls K C) (n : NoAttr K C f) (l : fs.lookup f = some v) : Ev (tFld K te f) σ H v := fun H1 e Q q =>
  h H1 e _ fun H2 e2 => ⟨a, C, dx, fs, v, rfl, (e.trans e2) _ _ ha, c, n, l, q H2 e2⟩
theorem el_cat {σ : L2.St} {H : Hp} {ta tb : TE} {xs ys : List V} (ha : EvL ta σ H xs) (hb : EvL tb σ H ys) (hz : xs.length + ys.length ≤ 100000) : EvL (tOp rCat ta tb) σ H (xs ++ ys) := fun H1 e Q q =>
  ha H1 e _ fun p1 H2 hp1 e2 h1 => hb H2 (e.trans e2) _ fun p2 H3 hp2 e3 h2 => ⟨p1, p2, xs, ys, rfl, rfl, e3 _ _ h1, h2, sz_of hz, fun p3 hp3 => q p3 _ (fresh_back (e2.trans e3) hp3) ((e2.trans e3).trans (Ex.new hp3)) upd_same⟩
section
variable {P : Program} {w : World} {K : PySem.W.Frag} {mg : Str → Option Value} {base : Heap}
/-! ### the rows of the line -/
def Tops (K : PySem.W.Frag) (H : Hp) (t : Addr) (tops : List Addr) (lines : List (List Addr)) : Prop := SqT K H t (refs tops) ∧ tops.length = lines.length ∧ ∀ (i : Nat) (a : Addr) (l : List Addr), tops[i]? = some a → lines[i]? = some l → LnAt K H a l
theorem Tops.ex {H H' : Hp} {t : Addr} {tops : List Addr} {lines : List (List Addr)} (e : Ex H H') (h : Tops K H t tops lines) : Tops K H' t tops lines := by
  obtain ⟨h1, h2, h3⟩ := h
  exact ⟨ex_t e h1, h2, fun i a l ha hl => (h3 i a l ha hl).ex e⟩
/-- S: what is known of the tuples -/
def spRowsOf (K : PySem.W.Frag) (S : Hp → Addr → List V → Prop) : Sp := fun vs H Q _ => ∃ (t : Addr) (tops : List Addr) (lines : List (List Addr)), vs = [.ref t] ∧ Tops K H t tops lines ∧ S H t (refs tops) ∧ tops.length ≤ 30 ∧
  ∀ p H', H p = none → Ex H H' → Rw K S H' p (lines ++ [tops]) → Q (.ref p) H'
theorem can_rowsOf {S : Hp → Addr → List V → Prop} (hSD : ∀ H q xs, SqD K H q xs → S H q xs) (hSe : ∀ H H' q xs, Ex H H' → S H q xs → S H' q xs) (T : Txt K mg) : Can P w K mg base CX0 1 "_rows_of" ["above"] (spRowsOf K S) := by
  refine can_of T.g__rows_of T.F__rows_of (fun fd F => ?_) (fun _ _ _ _ _ _ us hl => match us, hl with | [_], _ => rfl)
  refine F.ok sc__rows_of (fun vs H Q E h => ?_) (fun cdv A outer s H vs Q E hr h => ?_)
  · obtain ⟨t, tops, lines, rfl, _⟩ := h
    rfl
  · obtain ⟨t, tops, lines, rfl, ⟨hT, hl, hk⟩, hST, hz, fin⟩ := h
    have nd := sc__rows_of.nd
    refine ⟨_, pss_one (ps_ret (pe_op op_cat (pe_lc (own := [("kind", 1)]) (wi := iTup K (tVar 0)) (g := gName 1) (tt := tYes) (te := tFld K (tVar 1) "line") rfl nd (pi_tup (pv 0)) (blkOk_by (N := ["above", "kind"]) (sc := defScope s__rows_of) (by decide +kernel)) (fun _ _ _ _ _ => pg_name (i := 1) nd rfl (.inl rfl)) (fun _ _ _ _ _ => pts_nil) (fun _ _ _ _ _ => pe_fld (pv 1) rfl)) (pe_lst (pa_cons (pv 0) pa_nil)))), ?_⟩
    have ex1 : ∀ i : Nat, ∃ q : Addr, ∀ (a : Addr) (l : List Addr), tops[i]? = some a → lines[i]? = some l → ∃ dx fs, H a = some (.ins (kC K) dx fs) ∧ fs.lookup ("line" : Str) = some (.ref q) ∧ S H q (refs l) := fun i => by
      cases ha : tops[i]? with
      | none => exact ⟨0, fun a l h => by cases h⟩
      | some a =>
        cases hl' : lines[i]? with
        | none => exact ⟨0, fun a l _ h => by cases h⟩
        | some l =>
          obtain ⟨dx, q, fs, h1, h2, h3⟩ := hk i a l ha hl'
          refine ⟨q, fun a' l' e1 e2 => ?_⟩
          obtain rfl := Option.some.inj e1
          obtain rfl := Option.some.inj e2
          exact ⟨dx, fs, h1, h2, hSD _ _ _ h3⟩
    obtain ⟨f, hf⟩ := Classical.axiomOfChoice ex1
    have lr : (refs tops).length = tops.length := by unfold refs; rw [List.length_map]
    have hA := el_lcK (K := K) wk_tup (tl := tVar 0) (σ := [some (.ref t), none]) (H := H) (j := 1) (t := tYes) (te := tFld K (tVar 1) "line") (vs := [1]) (ev_var rfl) hT (fun _ => true) (fun i => .ref (f i)) (by omega) (fun x => rfl) (fun i x H1 _ _ => fun H2 _ Q q => q H2 (Ex.refl H2)) (fun i x H1 e hx _ => by
      obtain ⟨a, ha, rfl⟩ := refs_at hx
      obtain ⟨l, hli⟩ := at_some (l := lines) (i := i) (by have := (List.getElem?_eq_some_iff.mp ha).1; omega)
      obtain ⟨dx, fs, h1, h2, _⟩ := hf i a l ha hli
      exact ev_fld (ev_var rfl) (e _ _ h1) T.cls T.a_line h2)
    rw [lr, given_all] at hA
    refine s_retL (el_cat hA (el_lst (vs := [.ref t]) (ea_cons (ev_var rfl) ea_nil) (by show 1 ≤ 100000; decide)) (by simp; omega)) fun p3 H3 hp3 e13 h3 => ?_
    refine fin p3 _ hp3 e13 ⟨(List.range tops.length).map f ++ [t], sq_of (by rw [h3]; unfold refs; rw [List.map_append, List.map_map]; rfl), by simp; omega, fun i q r hq hr => ?_⟩
    by_cases hi : i < tops.length
    · rw [List.getElem?_append_left (by rw [List.length_map, List.length_range]; exact hi)] at hq
      rw [List.getElem?_append_left (by omega)] at hr
      rw [List.getElem?_map, List.getElem?_range hi] at hq
      obtain rfl := Option.some.inj hq
      obtain ⟨a, ha⟩ := at_some hi
      obtain ⟨dx, fs, _, _, h3⟩ := hf i a r ha hr
      exact hSe _ _ _ _ e13 h3
    · rw [List.getElem?_append_right (by rw [List.length_map, List.length_range]; omega)] at hq
      rw [List.getElem?_append_right (by omega)] at hr
      have e1 : i - lines.length = 0 := by
        have := (List.getElem?_eq_some_iff.mp hr).1
        simp at this
        omega
      rw [e1] at hr
      rw [List.length_map, List.length_range, hl, e1] at hq
      obtain rfl : t = q := by simpa using hq
      obtain rfl : tops = r := by simpa using hr
      exact hSe _ _ _ _ e13 hST
end
end K17
end

section
set_option Elab.async false
set_option linter.all false
set_option maxRecDepth 100000
set_option maxHeartbeats 4000000
namespace K17
open PySem PySem.Spec PyProof.Rows L2 He Cn Evl
section
variable {P : Program} {w : World} {K : PySem.W.Frag} {mg : Str → Option Value} {base : Heap}
def spLineAbove (K : PySem.W.Frag) : Sp := fun vs H Q _ => ∃ (t : Addr) (l : List Addr) (tops cs : List Addr) (lines : List (List Addr)) (k : Nat), vs = [.ref t] ∧ Tops K H t tops lines ∧ tops.length ≤ 30 ∧ Mg.Nd (lines ++ [tops]) ∧ (∀ l, l ∈ lines → l.length ≤ 40) ∧ Ks (kC K) H (lines ++ [tops]) ∧
  Mg.Within cs (lines ++ [tops]) ∧ Mg.cnt cs (lines ++ [tops]) < k ∧ k ≤ 1000 ∧
  Mg.merge k (lines ++ [tops]) = some l ∧ (∀ p H', H p = none → Ex H H' → H' p = some (.lst (refs l)) → Q (.ref p) H')
theorem can_lineAbove (T : Txt K mg) : Can P w K mg base CX0 3 "line_above" ["above"] (spLineAbove K) := by
  have CR : Can P w K mg base CX0 1 "_rows_of" ["above"] (spRowsOf K (SqT K)) := can_rowsOf (fun _ _ _ h => h.1) (fun _ _ _ _ e h => ex_t e h) T
  have CWT : Can P w K mg base CX0 1 "_without" ["head", "rows"] (spWithout K (SqT K)) := can_withoutT T
  have CWL : Can P w K mg base CX0 1 "_without" ["head", "rows"] (spWithout K (SqL K)) := can_withoutL T
  have CF : Can P w K mg base CX0 2 "_free_head" ["rows"] (spFreeHead K) := can_freeHead T
  refine can_of T.g_line_above T.F_line_above (fun fd F => ?_) (fun _ _ _ _ _ _ us hl => match us, hl with | [_], _ => rfl)
  refine F.ok sc_line_above (fun vs H Q E h => ?_) (fun cdv A outer s H vs Q E hr h => ?_)
  · obtain ⟨t, l, tops, cs, lines, k, rfl, _⟩ := h
    rfl
  · obtain ⟨t, l0, tops, cs, lines, k, rfl, hT, hz, ndr, hll, ks, hw, hc, hk, hl0, fin⟩ := h
    have nd := sc_line_above.nd
    refine ⟨_, pss_cons (ps_set (i := 1) nd rfl (.inl rfl) (pe_can CWT hr pass0 (pa_cons pe_non (pa_cons (pe_can CR hr pass0 (pa_cons (pv 0) pa_nil)) pa_nil))))
      (pss_cons (ps_set (i := 2) nd rfl (.inl rfl) (pe_lst pa_nil))
      (pss_cons (ps_while PassesOwn.never (pt_truth (pv 1) (by intro _; rfl))
        (pss_cons (ps_set (i := 3) nd rfl (.inl rfl) (pe_can CF hr pass0 (pa_cons (pv 1) pa_nil)))
        (pss_cons (ps_if (pt_cmp (pc_isN (pv 3)))
          (pss_one ps_never) pss_nil)
        (pss_cons (ps_expr (pe_bm PySem.F.plainAttrs_list PySem.F.slot_list_append PySem.F.type_list_append mt_append (pv 2) (pa_cons (pv 3) pa_nil)))
        (pss_one (ps_set (i := 1) nd rfl (.inl rfl) (pe_can CWL hr pass0 (pa_cons (pv 3) (pa_cons (pv 1) pa_nil)))))))))
      (pss_one (ps_ret (pv 2))))), ?_⟩
    generalize hr0 : lines ++ [tops] = rows0 at *
    have hlen0 : rows0.length ≤ 31 := by
      rw [← hr0, List.length_append, ← hT.2.1]
      simp
      exact hz
    have hrl0 : ∀ r, r ∈ rows0 → r.length ≤ 40 := fun r hr => by
      rw [← hr0] at hr
      rcases List.mem_append.mp hr with q | q
      · exact hll r q
      · rw [List.mem_singleton.mp q]
        omega
    refine ⟨_, rfl, t, tops, lines, rfl, hT, hT.1, hz, fun pr H1 hpr e1 R1 => ?_⟩
    rw [hr0] at R1
    refine ⟨none, pr, rows0, rfl, R1, ks.ex e1, (fun _ h => by cases h), by omega, hrl0, fun p1 H2 hp1 e2 R2 => ?_⟩
    have e12 := e1.trans e2
    refine q_asgL (el_lst ea_nil (by decide)) fun pl H3 hpl e3 h3 => ?_
    have e13 := e12.trans e3
    have hplH : H pl = none := fresh_back e12 hpl
    refine q_while (fun m σ' H' => ∃ (rows : List (List Addr)) (p : Addr) (acc : List Addr) (v3 : Option V) (G : Hp), σ' = [some (.ref t), some (.ref p), some (.ref pl), v3] ∧ Ex H H' ∧ H' pl = some (.lst (refs acc)) ∧ Ex G H' ∧ G pl = none ∧ Rw K (SqL K) G p rows ∧ Mg.NoNil rows ∧ Mg.Nd rows ∧
      rows.length ≤ 31 ∧ (∀ r, r ∈ rows → r.length ≤ 40) ∧ (∀ x, (∃ r, r ∈ rows ∧ x ∈ r) → ∃ r, r ∈ rows0 ∧ x ∈ r) ∧ (∀ x y, Mg.Before rows x y → Mg.Before rows0 x y) ∧ Mg.Within cs rows ∧ Mg.cnt cs rows < m ∧ Mg.merge k rows0 = (Mg.merge m rows).map (acc ++ ·) ∧ acc.length + m ≤ 1000)
      k ?_ ?_
    · refine ⟨Mg.wo none rows0, p1, [], none, newp H1 H2, rfl, e13, h3, newp_ex.trans e3, ?_, R2, Mg.nonil_full _, Mg.wo_nd ndr, Nat.le_trans Mg.wo_len hlen0, Mg.wo_rlen hrl0, fun x hx => Mg.wo_in hx, fun x y b => Mg.wo_before ndr b, Mg.wo_within hw, ?_, ?_, by simpa using hk⟩
      · cases q : newp H1 H2 pl with
        | none => rfl
        | some o =>
          have := newp_ex _ _ q
          rw [hpl] at this
          cases this
      · show Mg.cnt cs (Mg.full rows0) < k
        rw [Mg.cnt_full]
        exact hc
      · show _ = (Mg.merge k (Mg.full rows0)).map _
        rw [Mg.merge_full]
        cases Mg.merge k rows0 <;> simp
    rintro m σ' H' ⟨rows, p, acc, v3, G, rfl, e4, h4, eG, hGp, R, nn, ndr2, l1, l2, hin, hbf, hw2, hc2, hm, hac⟩
    obtain ⟨ps, hps, hpl2, _⟩ := id R
    refine ⟨!rows.isEmpty, et_tru (x := .ref p) (ev_var rfl) fun H5 e5 => .inl ⟨refs ps, ex_l (eG.trans e5) hps, ?_⟩, fun hb H5 e5 => ?_, fun hb H5 e5 => ?_⟩
    · cases rows <;> cases ps <;> first | rfl | (simp at hpl2)
    · have rne : rows ≠ [] := by
        intro q
        rw [q] at hb
        cases hb
      have hne := Mg.heads_ne nn rne
      obtain ⟨m', rfl⟩ : ∃ m', m = m' + 1 := ⟨m - 1, by omega⟩
      refine ⟨fun σ2 H2 => ∃ m2, m2 < m' + 1 ∧ ∃ (rows : List (List Addr)) (p : Addr) (acc : List Addr) (v3 : Option V) (G : Hp), σ2 = [some (.ref t), some (.ref p), some (.ref pl), v3] ∧ Ex H H2 ∧ H2 pl = some (.lst (refs acc)) ∧ Ex G H2 ∧ G pl = none ∧ Rw K (SqL K) G p rows ∧ Mg.NoNil rows ∧ Mg.Nd rows ∧
        rows.length ≤ 31 ∧ (∀ r, r ∈ rows → r.length ≤ 40) ∧ (∀ x, (∃ r, r ∈ rows ∧ x ∈ r) → ∃ r, r ∈ rows0 ∧ x ∈ r) ∧ (∀ x y, Mg.Before rows x y → Mg.Before rows0 x y) ∧ Mg.Within cs rows ∧ Mg.cnt cs rows < m2 ∧ Mg.merge k rows0 = (Mg.merge m2 rows).map (acc ++ ·) ∧ acc.length + m2 ≤ 1000, fun _ _ z => z, ?_⟩
      have e45 := e4.trans e5
      have ks2 : ∀ {H6 : Hp}, Ex H H6 → Ks (kC K) H6 rows := fun e r hr a ha => by
        obtain ⟨r', hr', ha'⟩ := hin a ⟨r, hr, ha⟩
        exact (ks r' hr' a ha').ex e
      refine q_asg (v := optR (Mg.frees rows).head?) (ev_call (ea_cons (ev_var rfl) ea_nil) fun H6 e6 Q q E => ⟨p, rows, rfl, R.exL ((eG.trans e5).trans e6), nn, ndr2, ks2 (e45.trans e6), fun H7 e7 => q H7 e7⟩) fun H6 e6 => ?_
      have e46 := e45.trans e6
      have eG6 := (eG.trans e5).trans e6
      have h6 := e6 _ _ (e5 _ _ h4)
      refine q_when (et_is (et_isN (ev_var rfl)) (optR_non _)) (fun hb2 H7 e7 => ?_) (fun hb2 H7 e7 => ?_)
      · -- the line stops
        have hf : Mg.frees rows = [] := by
          cases q : Mg.frees rows with
          | nil => rfl
          | cons a l => rw [q] at hb2; cases hb2
        rw [Mg.merge_stuck hne hf, hl0] at hm
        cases hm
      · obtain ⟨h, hh⟩ : ∃ h, (Mg.frees rows).head? = some h := by
          cases q : (Mg.frees rows).head? with
          | none => rw [q] at hb2; cases hb2
          | some h => exact ⟨h, rfl⟩
        obtain ⟨tl, htl⟩ : ∃ tl, Mg.frees rows = h :: tl := by
          cases q : Mg.frees rows with
          | nil => rw [q] at hh; cases hh
          | cons a l =>
            rw [q] at hh
            obtain rfl := Option.some.inj hh
            exact ⟨l, rfl⟩
        rw [hh]
        have hcd := Mg.wo_cnt hw2 htl
        refine q_app (e7 _ _ h6) (ev_var rfl) (v := .ref h) (ev_var rfl) (by unfold refs; rw [List.length_map]; omega) fun H8 e8 => ?_
        have hG8 : Ex G (upd H8 pl (.lst (refs acc ++ [.ref h]))) := Ex.mut ((eG6.trans e7).trans e8) hGp
        have hH8 : Ex H (upd H8 pl (.lst (refs acc ++ [.ref h]))) := Ex.mut ((e46.trans e7).trans e8) hplH
        have hha : ∃ r, r ∈ rows ∧ h ∈ r := by
          obtain ⟨t', ht'⟩ := Mg.mem_heads.mp (Mg.frees_head htl).1
          exact ⟨_, ht', List.mem_cons_self ..⟩
        refine ⟨_, rfl, _, rfl, some h, p, rows, rfl, R.exL hG8, ks2 hH8, fun a ha => ?_, by omega, l2, fun p' H9 hp' e9 R9 => ?_⟩
        · obtain rfl := Option.some.inj ha
          obtain ⟨r, hr, hx⟩ := hha
          exact ks2 hH8 r hr _ hx
        refine ⟨m', Nat.lt_succ_self _, Mg.wo (some h) rows, p', acc ++ [h], _, _, rfl, hH8.trans e9, e9 _ _ (by rw [upd_same]; unfold refs; simp), newp_ex, newp_no upd_same, R9, Mg.nonil_full _, Mg.wo_nd ndr2, Nat.le_trans Mg.wo_len l1, Mg.wo_rlen l2, fun x hx => hin x (Mg.wo_in hx), fun x y b => hbf x y (Mg.wo_before ndr2 b), Mg.wo_within hw2, by omega, ?_, by rw [List.length_append]; simp; omega⟩
        rw [hm, Mg.merge_step htl]
        cases Mg.merge m' (Mg.wo (some h) rows) <;> simp
    · have rne : rows = [] := by
        cases rows with
        | nil => rfl
        | cons a l => cases hb
      subst rne
      obtain ⟨m', rfl⟩ : ∃ m', m = m' + 1 := ⟨m - 1, by omega⟩
      rw [Mg.merge_done] at hm
      refine s_ret (ev_var rfl) fun H6 e6 => ?_
      rw [hl0] at hm
      obtain rfl : l0 = acc := by simpa using hm
      exact fin pl H6 hplH ((e4.trans e5).trans e6) (e6 _ _ (e5 _ _ h4))
end
end K17
end

section
set_option Elab.async false
set_option linter.all false
set_option maxRecDepth 100000
set_option maxHeartbeats 4000000
namespace K17
open PySem PySem.Spec PyProof.Rows L2 He Cn Evl
def gNo : TG := fun _ _ _ _ => False
theorem pg_no {X : Cx} {e : Expr} : PG X e gNo := ⟨fun _ _ _ _ _ _ _ _ _ h => h.elim⟩
section
variable {P : Program} {w : World} {K : PySem.W.Frag} {mg : Str → Option Value} {base : Heap}
theorem ty_ins {H : Hp} {C a dx : Addr} {fs : List (Str × V)} (c : Cls K C) (hb : insB K C = true) (h : H a = some (.ins C dx fs)) : TyX K H (.ref a) (.ref C) := by
  obtain ⟨h1, h2⟩ := He.ba hb
  obtain ⟨h2, h3⟩ := He.ba h2
  obtain ⟨h3, h4⟩ := He.ba h3
  exact .base (.ins h c (eqO_ok h1) (eqO_ok h2) (of_decide_eq_true h3) (of_decide_eq_true h4))
/-- isinstance(x, D), x an instance of the class at C -/
theorem ev_isO {σ : L2.St} {H : Hp} {ta : TE} {C D a dx : Addr} {fs : List (Str × V)} {b : Bool} (c : Cls K C) (hb : insB K C = true) (hk : PySem.W.kitOne K (.ref C) (.ref D) = some b) (h : Ev ta σ H (.ref a)) (ha : H a = some (.ins C dx fs)) :
    Ev (tCB (rIsi K) (tCons ta (tCons (tC (.ref D)) tNil))) σ H (.bl b) :=
  ev_cb (ea_cons h (ea_cons ev_c ea_nil)) fun H1 e Q q => ⟨.ref a, .ref D, .ref C, .ref D, b, rfl, .own _, ty_ins c hb (e _ _ ha), hk, q H1 (Ex.refl H1)⟩
theorem ev_isL (T : Txt K mg) {σ : L2.St} {H : Hp} {ta : TE} {a : Addr} (h : Ev ta σ H (.ref a)) (hk : KO (kC K) H a) : Ev (tCB (rIsi K) (tCons ta (tCons (tC (.ref (ga K "Lined"))) tNil))) σ H (.bl true) := by
  obtain ⟨dx, fs, ha⟩ := hk
  exact ev_isO T.cls T.ins T.isL h ha
theorem ty_tup {H : Hp} {a : Addr} {xs : List V} (h : SqT K H a xs) : TyX K H (.ref a) (.type "tuple") := by
  rcases h with h | ⟨o, its, n, h1, h2, _⟩
  · rcases h with h | ⟨o, h⟩
    · exact .base (.tup h)
    · exact .fTuple h
  · exact .kTuple h1 h2
theorem ev_isT {σ : L2.St} {H : Hp} {ta : TE} {a : Addr} {xs : List V} (h : Ev ta σ H (.ref a)) (hk : SqT K H a xs) : Ev (tCB (rIsi K) (tCons ta (tCons (tC (.ty "tuple")) tNil))) σ H (.bl true) :=
  ev_cb (ea_cons h (ea_cons ev_c ea_nil)) fun H1 e Q q => ⟨.ref a, .ty "tuple", .type "tuple", .type "tuple", true, rfl, .ty _, ty_tup (ex_t e hk), kit_ty (by decide +kernel), q H1 (Ex.refl H1)⟩
/-- no turn at all -/
theorem for_none {K : PySem.W.Frag} {a : Addr} {g : TG} {tb : TS} {D : Ends} {σ : L2.St} {H : Hp} (h : SqT K H a []) (hd : D.nx σ H) :
    ∃ W : Nat → Nat → L2.St → Hp → Prop, (∃ m, W 0 m σ H) ∧ ∀ i m σ H, W i m σ H →
      ((Itt K a).stop i H ∧ D.nx σ H) ∨ ((Itt K a).go i H ∧ ∃ N : L2.St → Hp → Prop, (∀ σ' H', N σ' H' → ∃ m', m' < m ∧ W (i + 1) m' σ' H') ∧ ∀ x H', (Itt K a).yld i H x H' → g x σ H' fun σ2 H2 => tb { D with nx := N, ct := N, bk := D.nx } σ2 H2) :=
  for_tup (fun _ σ' H' => σ' = σ ∧ H' = H) ⟨rfl, rfl⟩ (fun i σ' H' _ ⟨_, e⟩ => by rw [e]; exact h) (fun i x σ' H' hx _ => by simp at hx) (fun σ' H' ⟨e1, e2⟩ => by rw [e1, e2]; exact hd)
/-! ### the checks of a declaration -/
def spChkAbove (K : PySem.W.Frag) : Sp := fun vs H Q _ => ∃ (t : Addr) (tops : List Addr), vs = [.ref t] ∧ SqT K H t (refs tops) ∧ tops.Nodup ∧ (∀ a, a ∈ tops → KO (kC K) H a) ∧ tops.length ≤ 40 ∧ ∀ H', Ex H H' → Q .non H'
theorem can_chkAbove (T : Txt K mg) : Can P w K mg base CX0 1 "check_above" ["above"] (spChkAbove K) := by
  refine can_of T.g_check_above T.F_check_above (fun fd F => ?_) (fun _ _ _ _ _ _ us hl => match us, hl with | [_], _ => rfl)
  refine F.ok sc_check_above (fun vs H Q E h => ?_) (fun cdv A outer s H vs Q E hr h => ?_)
  · obtain ⟨m, tops, rfl, _⟩ := h
    rfl
  · obtain ⟨t, tops, rfl, ht, ndt, hk, hz, fin⟩ := h
    have nd := sc_check_above.nd
    refine ⟨_, pss_cons (ps_if (pt_not (pt_val (pe_callB call_isi (by rfl) T.n_isinstance (by decide +kernel) (pa_cons (pv 0) (pa_cons (pe_bltn rfl T.n_tuple (v := .ty "tuple") (by decide +kernel) rfl) pa_nil))))) (pss_one ps_never) pss_nil)
      (pss_cons (ps_set (i := 1) nd rfl (.inl rfl) (pe_lst pa_nil))
      (pss_one (ps_for PassesOwn.never rfl (pi_enumT (by rfl) T.n_enumerate (pa_cons (pv 0) pa_nil)) (pg_tup rfl (pgs_cons (pg_name (i := 2) nd rfl (.inl rfl)) (pgs_cons (pg_name (i := 3) nd rfl (.inl rfl)) pgs_nil)))
        (pss_cons (ps_if (PW.pt (pw_or (pt_not (pt_val (pe_callB call_isi (by rfl) T.n_isinstance (by decide +kernel) (pa_cons (pv 3) (pa_cons (pe_glob rfl T.g_Lined (v := .ref (ga K "Lined")) rfl) pa_nil))))) (pw_or1 (pt_cmpR (op_in_id hr T.idc) (pv 3) (pv 1) rfl)))) (pss_one ps_never) pss_nil)
        (pss_one (ps_expr (pe_bm PySem.F.plainAttrs_list PySem.F.slot_list_append PySem.F.type_list_append mt_append (pv 1) (pa_cons (pv 3) pa_nil)))))))), ?_⟩
    refine q_when (et_not (a := true) (et_B (ev_isT (ev_var rfl) ht))) (fun h => by cases h) fun _ H1 e1 => ?_
    refine q_asgL (el_lst ea_nil (by decide)) fun p H2 hp e2 h2 => ?_
    have hpH : H p = none := fresh_back e1 hp
    have lr : (refs tops).length = tops.length := by unfold refs; rw [List.length_map]
    refine ⟨_, rfl, t, refs tops, rfl, ex_t (e1.trans e2) ht, for_it walk_enumT (fun i σ' H' => ∃ v2 v3, σ' = [some (.ref t), some (.ref p), v2, v3] ∧ Ex H H' ∧ H' p = some (.lst (refs (tops.take i)))) ⟨_, _, rfl, e1.trans e2, h2⟩ (fun i σ' H' _ ⟨_, _, _, q, _⟩ => ex_t q ht) ?_ (fun σ' H' ⟨_, _, _, q, _⟩ => fin H' q)⟩
    rintro i x σ' H3 H4 hi ⟨v2, v3, rfl, e3, h3⟩ ⟨Tp, y, z, rfl, hT, rfl, hy, hz2⟩
    obtain rfl := Option.some.inj hy
    obtain ⟨a, ha, rfl⟩ := refs_at hz2
    have hpT : p ≠ Tp := ne_of_none h3 hT
    have e4 : Ex H (upd H3 Tp (.tup [.int (i : Nat), .ref a])) := e3.trans (Ex.new hT)
    have h4 : upd H3 Tp (.tup [.int (i : Nat), .ref a]) p = some (.lst (refs (tops.take i))) := by rw [upd_ne hpT]; exact h3
    have ham := List.mem_of_getElem? ha
    have hia := (List.getElem?_eq_some_iff.mp ha).1
    have hna : a ∉ tops.take i := fun q => by
      obtain ⟨j, hj⟩ := List.mem_iff_getElem?.mp q
      have hji : j < i := by
        have := (List.getElem?_eq_some_iff.mp hj).1
        rw [List.length_take] at this
        omega
      rw [List.getElem?_take_of_lt hji] at hj
      have hjl := (List.getElem?_eq_some_iff.mp hj).1
      have := nd_ix ndt hj ha
      omega
    refine ⟨Tp, _, rfl, st_of upd_same, rfl, _, _, rfl, _, _, rfl, rfl, ?_⟩
    refine q_when (b := false) (et_is (et_or (et_not (a := true) (et_B (ev_isL T (ev_var rfl) ((hk a ham).ex e4)))) fun _ => et_test (ev_op (ev_var rfl) (ev_var rfl) (rv_in_id (neg := false) (.inl (sq_of h4)) ((hk a ham).ex e4) fun b hb => (hk b (List.mem_of_mem_take hb)).ex e4))) (by simp [hna])) (fun h => by cases h) fun _ H5 e5 => ?_
    refine s_app (e5 _ _ h4) (ev_var rfl) (ev_var rfl) (by unfold refs; rw [List.length_map, List.length_take]; omega) fun H6 e6 => ?_
    refine ⟨_, _, rfl, Ex.mut ((e4.trans e5).trans e6) hpH, ?_⟩
    rw [upd_same, List.take_add_one, ha]
    unfold refs
    simp
theorem rev_refs (l : List Addr) : (refs l).reverse = refs l.reverse := by
  unfold refs
  rw [List.map_reverse]
end
end K17
end

section
set_option Elab.async false
set_option linter.all false
set_option maxRecDepth 100000
set_option maxHeartbeats 4000000
namespace K17
open PySem PySem.Spec PyProof.Rows L2 He Cn Evl
section
variable {P : Program} {w : World} {K : PySem.W.Frag} {mg : Str → Option Value} {base : Heap}
/-- a name that a kind may have -/
def goodName (z : Str) : Bool := (z.cps.toList.all fun c => decide (c ∈ nameSigns.cps.toList)) && (decide (z.cps.toList.length ≤ 40) && ((match z.cps.toList with
  | [] => false
  | c :: _ => !decide (c ∈ digitSigns.cps.toList)) && !inV (.str z) (barred.map V.str)))
theorem flat_barred : (barred.map V.str).all flatV = true := by decide +kernel
def spIsName : Sp := fun vs H Q _ => ∃ z : Str, vs = [.str z] ∧ goodName z = true ∧ ∀ H', Ex H H' → Q (.bl true) H'
theorem can_isName (T : Txt K mg) : Can P w K mg base CX0 1 "is_name" ["value"] spIsName := by
  refine can_of T.g_is_name T.F_is_name (fun fd F => ?_) (fun _ _ _ _ _ _ us hl => match us, hl with | [_], _ => rfl)
  refine F.ok sc_is_name (fun vs H Q E h => ?_) (fun cdv A outer s H vs Q E hr h => ?_)
  · obtain ⟨z, rfl, _⟩ := h
    rfl
  · obtain ⟨z, rfl, hz, fin⟩ := h
    have nd := sc_is_name.nd
    obtain ⟨t1, hmax⟩ := T.maxLen
    obtain ⟨t2, hdig⟩ := T.digits
    obtain ⟨t3, hsig⟩ := T.signs
    refine ⟨_, pss_cons (ps_if (PW.pt (pw_or (pt_not (pt_val (pe_callB call_isi (by rfl) T.n_isinstance (by decide +kernel) (pa_cons (pv 0) (pa_cons (pe_bltn rfl T.n_str (v := .ty "str") (by decide +kernel) rfl) pa_nil))))) (pw_or (pt_cmpR op_eq (pv 0) pe_str (nomark _)) (pw_or1 (pt_cmpR op_gt (pe_callB call_len_str (by rfl) T.n_len PySem.boot_len (pa_cons (pv 0) pa_nil)) (pe_glob rfl hmax (v := .int 40) ⟨_, rfl⟩) (nomark _)))))) (pss_one (ps_ret pe_bl)) pss_nil)
      (pss_cons (ps_for PassesOwn.never rfl (pi_str (pv 0)) (pg_name (i := 1) nd rfl (.inl rfl)) (pss_one (ps_if (pt_cmpR op_notIn_sign (pv 1) (pe_glob rfl hsig (v := .str nameSigns) ⟨_, rfl⟩) rfl) (pss_one (ps_ret pe_bl)) pss_nil)))
      (pss_one (ps_ret (pe_and (pe_cmpR op_notIn_sign (pe_ix ix_str (pv 0) pe_int (fun _ _ => rfl)) (pe_glob rfl hdig (v := .str digitSigns) ⟨_, rfl⟩) rfl) (pe_one (pe_cmpR op_notIn_seq (pv 0) (pe_glob rfl T.g_BARRED_WORDS (v := .ref (ga K "BARRED_WORDS")) rfl) rfl)))))), ?_⟩
    obtain ⟨z1, z2⟩ := He.ba hz
    obtain ⟨z2, z3⟩ := He.ba z2
    obtain ⟨z3, z4⟩ := He.ba z3
    have z2 : z.cps.toList.length ≤ 40 := of_decide_eq_true z2
    have hne : ¬ z = "" := fun q => by
      subst q
      cases z3
    have hlen : z.length = z.cps.toList.length := (Array.length_toList).symm
    refine q_when (b := false) (et_is (et_or (a := false) (b := false) (et_not (a := true) (et_B (ev_cb (ea_cons (ev_var rfl) (ea_cons ev_c ea_nil)) fun H1 e Q q => ⟨.str z, .ty "str", .type "str", .type "str", true, rfl, .ty _, .base (.str z), kit_ty (by decide +kernel), q H1 (Ex.refl H1)⟩)))
      (fun _ => et_or (a := false) (b := false) (et_is (et_test (ev_op (ev_var rfl) ev_c (rv_eq rfl))) (by simp [hne])) (fun _ => et_is (et_test (ev_op (ev_cb (z := .int (z.length : Int)) (ea_cons (ev_var rfl) ea_nil) fun H1 e Q q => ⟨z, rfl, sz_of (by omega), q H1 (Ex.refl H1)⟩) ev_c rv_I0)) (by simp; omega)))) rfl) (fun h => by cases h) fun _ H1 e1 => ?_
    have hsize : z.cps.size = z.cps.toList.length := (Array.length_toList).symm
    refine ⟨_, rfl, z, rfl, for_it walk_str (fun i σ' H' => (∃ v, σ' = [some (.str z), v]) ∧ Ex H H') ⟨⟨_, rfl⟩, e1⟩ (fun _ _ _ _ _ => trivial) ?_ ?_⟩
    · rintro i x σ' H' H'' hi ⟨⟨v, rfl⟩, e⟩ ⟨rfl, c, hc, rfl⟩
      have hcm : c ∈ z.cps.toList := by
        rw [← Array.getElem?_toList] at hc
        exact List.mem_of_getElem? hc
      have hcs : c ∈ nameSigns.cps.toList := of_decide_eq_true (List.all_eq_true.mp z1 c hcm)
      refine s_when (b := false) (et_is (et_test (ev_op (z := .bl (!decide (c ∈ nameSigns.cps.toList))) (ev_var rfl) ev_c fun H1 e Q q => ⟨c, nameSigns, rfl, rfl, q H1 (Ex.refl H1)⟩)) (by simp [hcs])) (fun h => by cases h) fun _ H5 e5 => ⟨⟨_, rfl⟩, e.trans e5⟩
    · rintro σ' H' ⟨⟨v, rfl⟩, e⟩
      cases hcz : z.cps.toList with
      | nil => rw [hcz] at z3; cases z3
      | cons c r =>
        rw [hcz] at z3
        have hcd : ¬ c ∈ digitSigns.cps.toList := by simpa using z3
        have z4 : inV (.str z) (barred.map V.str) = false := by simpa using z4
        have hat : atI z.cps.toList 0 = some c := by
          rw [hcz]
          simp [atI, ixN]
        dsimp only
        refine s_ret (v := .bl true) ?_ fun H5 e5 => fin H5 (e.trans e5)
        refine ev_is (ev_andV (a := true) (b := true) ?_ fun _ => ?_) rfl
        · refine ev_is (ev_op (x := .str ⟨#[c]⟩) (y := .str digitSigns) (z := .bl (!decide (c ∈ digitSigns.cps.toList))) ?_ ev_c fun H1 e Q q => ⟨c, digitSigns, rfl, rfl, q H1 (Ex.refl H1)⟩) (by simp [hcd])
          exact ev_op (x := .str z) (y := .int 0) (z := .str ⟨#[c]⟩) (ev_var rfl) ev_c (rv_ixS (w := z) (c := c) (by omega) hat)
        · exact ev_is (ev_op (x := .str z) (y := .ref (ga K "BARRED_WORDS")) (ev_var rfl) ev_c (rv_niT (T.barred H') rfl flat_barred)) (by rw [z4] <;> rfl)
theorem good_New : goodName "New" = true := by decide +kernel
end
end K17
end

section
set_option Elab.async false
set_option linter.all false
set_option maxRecDepth 100000
set_option maxHeartbeats 4000000
namespace K17
open PySem PySem.Spec PyProof.Rows L2 He Cn Evl
theorem lkNe {f g : Str} {v : V} {fs : List (Str × V)} (h : g ≠ f) : (putF f v fs).lookup g = fs.lookup g := by
  rw [lookup_putF, if_neg h]
theorem lkEq {f : Str} {v : V} {fs : List (Str × V)} : (putF f v fs).lookup f = some v := by
  rw [lookup_putF, if_pos rfl]
def tNoT : TT := fun _ _ _ => False
theorem pt_no {X : Cx} {e : Expr} : PT X e tNoT := ⟨fun _ _ _ _ _ _ h => h.elim⟩
/-- a new object -/
def EvN (te : TE) (σ : L2.St) (H : Hp) (o : HO) : Prop := ∀ H1, Ex H H1 → ∀ Q : VK, (∀ p H2, H1 p = none → Ex H1 H2 → H2 p = some o → Q (.ref p) H2) → te σ H1 Q
section
variable {K : PySem.W.Frag}
theorem q_putN {te to : TE} {σ : L2.St} {H : Hp} {a C dx : Addr} {fs : List (Str × V)} {f : Str} {o : HO} {tz : TS} {D : Ends} (h : EvN te σ H o) (ho : ∀ H1, Ex H H1 → Ev to σ H1 (.ref a)) (ha : H a = some (.ins C dx fs)) (c : Cls K C) (n : NoAttr K C f) (hl : fs.length < 1000)
    (k : ∀ p H', H p = none → H' a = some (.ins C dx (putF f (.ref p) fs)) → H' p = some o → (∀ b u, H b = some u → b ≠ a → H' b = some u) → tz D σ H') : tSeq (sFld K to te f) tz D σ H := by
  refine h H (Ex.refl H) _ fun p H1 hp e1 h1 => ho H1 e1 H1 (Ex.refl H1) _ fun H2 e2 => ⟨a, C, dx, fs, rfl, (e1.trans e2) _ _ ha, c, n, hl, ?_⟩
  have hne : p ≠ a := (ne_of_none ha hp).symm
  exact k p _ hp upd_same (by rw [upd_ne hne]; exact e2 _ _ h1) fun b u hb hba => by rw [upd_ne hba]; exact (e1.trans e2) _ _ hb
theorem q_putV {te to : TE} {σ : L2.St} {H : Hp} {a C dx : Addr} {fs : List (Str × V)} {f : Str} {v : V} {tz : TS} {D : Ends} (h : Ev te σ H v) (ho : ∀ H1, Ex H H1 → Ev to σ H1 (.ref a)) (ha : H a = some (.ins C dx fs)) (c : Cls K C) (n : NoAttr K C f) (hl : fs.length < 1000)
    (k : ∀ H', H' a = some (.ins C dx (putF f v fs)) → (∀ b u, H b = some u → b ≠ a → H' b = some u) → tz D σ H') : tSeq (sFld K to te f) tz D σ H := by
  refine h H (Ex.refl H) _ fun H1 e1 => ho H1 e1 H1 (Ex.refl H1) _ fun H2 e2 => ⟨a, C, dx, fs, rfl, (e1.trans e2) _ _ ha, c, n, hl, ?_⟩
  exact k _ upd_same fun b u hb hba => by rw [upd_ne hba]; exact (e1.trans e2) _ _ hb
theorem s_putN {te to : TE} {σ : L2.St} {H : Hp} {a C dx : Addr} {fs : List (Str × V)} {f : Str} {o : HO} {D : Ends} (h : EvN te σ H o) (ho : ∀ H1, Ex H H1 → Ev to σ H1 (.ref a)) (ha : H a = some (.ins C dx fs)) (c : Cls K C) (n : NoAttr K C f) (hl : fs.length < 1000)
    (k : ∀ p H', H p = none → H' a = some (.ins C dx (putF f (.ref p) fs)) → H' p = some o → (∀ b u, H b = some u → b ≠ a → H' b = some u) → D.nx σ H') : sFld K to te f D σ H := by
  refine h H (Ex.refl H) _ fun p H1 hp e1 h1 => ho H1 e1 H1 (Ex.refl H1) _ fun H2 e2 => ⟨a, C, dx, fs, rfl, (e1.trans e2) _ _ ha, c, n, hl, ?_⟩
  have hne : p ≠ a := (ne_of_none ha hp).symm
  exact k p _ hp upd_same (by rw [upd_ne hne]; exact e2 _ _ h1) fun b u hb hba => by rw [upd_ne hba]; exact (e1.trans e2) _ _ hb
theorem s_putV {te to : TE} {σ : L2.St} {H : Hp} {a C dx : Addr} {fs : List (Str × V)} {f : Str} {v : V} {D : Ends} (h : Ev te σ H v) (ho : ∀ H1, Ex H H1 → Ev to σ H1 (.ref a)) (ha : H a = some (.ins C dx fs)) (c : Cls K C) (n : NoAttr K C f) (hl : fs.length < 1000)
    (k : ∀ H', H' a = some (.ins C dx (putF f v fs)) → (∀ b u, H b = some u → b ≠ a → H' b = some u) → D.nx σ H') : sFld K to te f D σ H := by
  refine h H (Ex.refl H) _ fun H1 e1 => ho H1 e1 H1 (Ex.refl H1) _ fun H2 e2 => ⟨a, C, dx, fs, rfl, (e1.trans e2) _ _ ha, c, n, hl, ?_⟩
  exact k _ upd_same fun b u hb hba => by rw [upd_ne hba]; exact (e1.trans e2) _ _ hb
/-- comprehensions over nothing -/
theorem en_list {tl : TE} {q : Addr} {σ : L2.St} {H : Hp} {g : TG} {t : TT} {te : TE} {vs : List Nat} (hl : Ev tl σ H (.ref q)) (hs : SqL K H q []) : EvN (tLc (iList K tl) g t te vs) σ H (.lst []) := fun H1 e Q k =>
  hl H1 e _ fun H2 e2 => ⟨q, rfl, ⟨[], ex_l (e.trans e2) hs⟩, fun D hD => lc_list (xs := []) (fun _ H' => H' = upd H2 D (.lst [])) rfl (fun i H' _ q => by rw [q]; exact ex_l ((e.trans e2).trans (Ex.new hD)) hs) (fun i x H' hx _ => by simp at hx) (fun H' q => by rw [q]; exact k D _ (fresh_back e2 hD) (e2.trans (Ex.new hD)) upd_same)⟩
theorem en_tup {tl : TE} {q : Addr} {σ : L2.St} {H : Hp} {g : TG} {t : TT} {te : TE} {vs : List Nat} (hl : Ev tl σ H (.ref q)) (hs : SqT K H q []) : EvN (tLc (iTup K tl) g t te vs) σ H (.lst []) := fun H1 e Q k =>
  hl H1 e _ fun H2 e2 => ⟨q, rfl, ⟨[], ex_t (e.trans e2) hs⟩, fun D hD => lc_tup (xs := []) (fun _ H' => H' = upd H2 D (.lst [])) rfl (fun i H' _ q => by rw [q]; exact ex_t ((e.trans e2).trans (Ex.new hD)) hs) (fun i x H' hx _ => by simp at hx) (fun H' q => by rw [q]; exact k D _ (fresh_back e2 hD) (e2.trans (Ex.new hD)) upd_same)⟩
theorem en_dcT {tl : TE} {q : Addr} {σ : L2.St} {H : Hp} {g : TG} {t : TT} {tk tv : TE} {vs : List Nat} (hl : Ev tl σ H (.ref q)) (hs : SqT K H q []) : EvN (tDc (iTup K tl) g t tk tv vs) σ H (.dK []) := fun H1 e Q k =>
  hl H1 e _ fun H2 e2 => ⟨q, rfl, ⟨[], ex_t (e.trans e2) hs⟩, fun D hD => by
    have e3 : Ex H2 (upd H2 D (.dK [])) := Ex.new hD
    refine ⟨fun i m H' => i = 0 ∧ H' = upd H2 D (.dK []), ⟨0, rfl, rfl⟩, ?_⟩
    rintro i m H' ⟨rfl, rfl⟩
    exact .inl ⟨⟨[], ex_t ((e.trans e2).trans e3) hs, Nat.le_refl _⟩, k D _ (fresh_back e2 hD) (e2.trans e3) upd_same⟩⟩
theorem en_dcL {tl : TE} {q : Addr} {σ : L2.St} {H : Hp} {g : TG} {t : TT} {tk tv : TE} {vs : List Nat} (hl : Ev tl σ H (.ref q)) (hs : SqL K H q []) : EvN (tDc (iList K tl) g t tk tv vs) σ H (.dK []) := fun H1 e Q k =>
  hl H1 e _ fun H2 e2 => ⟨q, rfl, ⟨[], ex_l (e.trans e2) hs⟩, fun D hD => by
    have e3 : Ex H2 (upd H2 D (.dK [])) := Ex.new hD
    refine ⟨fun i m H' => i = 0 ∧ H' = upd H2 D (.dK []), ⟨0, rfl, rfl⟩, ?_⟩
    rintro i m H' ⟨rfl, rfl⟩
    exact .inl ⟨⟨[], ex_l ((e.trans e2).trans e3) hs, Nat.le_refl _⟩, k D _ (fresh_back e2 hD) (e2.trans e3) upd_same⟩⟩
def rTupOf (K : PySem.W.Frag) : List V → Hp → VK → Prop := fun xs H Q => ∃ p ys, xs = [.ref p] ∧ ((SqL K H p ys ∧ ∀ l, H l = none → Q (.ref l) (upd H l (.tup ys))) ∨ (SqT K H p ys ∧ Q (.ref p) H))
theorem en_tupOf {tl : TE} {σ : L2.St} {H : Hp} {xs : List V} (h : EvN tl σ H (.lst xs)) : EvN (tCB (rTupOf K) (tCons tl tNil)) σ H (.tup xs) := fun H1 e Q k =>
  h H1 e _ fun p H2 hp e2 h2 => ⟨p, xs, rfl, .inl ⟨sq_of h2, fun l hl => k l _ (fresh_back e2 hl) (e2.trans (Ex.new hl)) upd_same⟩⟩
end
section
variable {P : Program} {w : World} {K : PySem.W.Frag} {mg : Str → Option Value} {base : Heap}
def FrB (a : Addr) (H H' : Hp) : Prop := ∀ b u, H b = some u → b ≠ a → H' b = some u
theorem FrB.trans {a : Addr} {H H1 H2 : Hp} (h : FrB a H H1) (k : FrB a H1 H2) : FrB a H H2 := fun b u e hb => k b u (h b u e hb) hb
theorem FrB.ex {a : Addr} {H H1 H2 : Hp} (h : FrB a H H1) (e : Ex H1 H2) : FrB a H H2 := fun b u e' hb => e _ _ (h b u e' hb)
theorem sqt_fr {a t : Addr} {H H' : Hp} {xs : List V} (f : FrB a H H') (hne : t ≠ a) (h : SqT K H t xs) : SqT K H' t xs := by
  rcases h with h | h
  · rcases h with h | ⟨o, h⟩
    · exact .inl (.inl (f _ _ h hne))
    · exact .inl (.inr ⟨o, f _ _ h hne⟩)
  · exact .inr h
theorem fr_fresh {a p : Addr} {H H' : Hp} {u0 : HO} (f : FrB a H H') (ha : H' a = some u0) (h : H' p = none) : H p = none := by
  cases q : H p with
  | none => rfl
  | some u =>
    by_cases e : p = a
    · subst e
      rw [ha] at h
      cases h
    · have := f p u q e
      rw [h] at this
      cases this
end
end K17
end

section
set_option Elab.async false
set_option linter.all false
set_option maxRecDepth 100000
set_option maxHeartbeats 4000000
namespace K17
open PySem PySem.Spec PyProof.Rows L2 He Cn Evl
/-- a text of codes that repr shows in few signs -/
def loS (z : Str) : Bool := z.cps.toList.all fun c => decide (c < 16 ^ 8)
theorem loS_cut {z : Str} (h : loS z = true) (lo hi : Option Int) : loS (cutS z lo hi) = true := by
  unfold loS at h ⊢
  rw [List.all_eq_true] at h ⊢
  intro c hc
  unfold cutS at hc
  exact h c (List.mem_of_mem_drop (List.mem_of_mem_take (by simpa using hc)))
/-- a value without parts, as the law draws it -/
def ScV (v : V) : Prop := v = .non ∨ (∃ b : Bool, v = .bl b) ∨ (∃ i : Int, v = .int i ∧ i.natAbs ≤ 10 ^ 20) ∨ ∃ s : Str, v = .str s ∧ s.length ≤ 20 ∧ loS s = true
/-- such a value or a tuple of up to three -/
def KeyV (K : PySem.W.Frag) (H : Hp) (v : V) : Prop := ScV v ∨ ∃ (t : Addr) (xs : List V), v = .ref t ∧ SqT K H t xs ∧ xs.length ≤ 3 ∧ ∀ x, x ∈ xs → ScV x
theorem KeyV.ex {K : PySem.W.Frag} {H H' : Hp} {v : V} (e : Ex H H') (h : KeyV K H v) : KeyV K H' v := by
  rcases h with h | ⟨t, xs, h1, h2, h3⟩
  · exact .inl h
  · exact .inr ⟨t, xs, h1, ex_t e h2, h3⟩
def tyN : V → String
  | .non => "NoneType"
  | .bl _ => "bool"
  | .int _ => "int"
  | .str _ => "str"
  | _ => "tuple"
theorem KeyV.ty {K : PySem.W.Frag} {H : Hp} {v : V} (h : KeyV K H v) : TyB K H v (tyN v) := by
  rcases h with (rfl | ⟨b, rfl⟩ | ⟨i, rfl, _⟩ | ⟨s, rfl, _⟩) | ⟨t, xs, rfl, h, _⟩
  · exact .non
  · exact .bl b
  · exact .int i
  · exact .str s
  · exact .tup h
def rIsTyR : R2 := fun x y H Q => ∃ a b, x = .ty a ∧ y = .ty b ∧ Q (.bl (decide (a = b))) H
def rNoTyR : R2 := fun x y H Q => ∃ a b, x = .ty a ∧ y = .ty b ∧ Q (.bl (!decide (a = b))) H
theorem op_isTyR {X : Cx} : OpR X (compareOp .Is) rIsTyR := op_isTyB
theorem op_notTyR {X : Cx} : OpR X (compareOp .IsNot) rNoTyR := op_notTyB
theorem rv_isTy {H : Hp} {a b : String} : RV rIsTyR (.ty a) (.ty b) H (.bl (decide (a = b))) := fun H1 _ _ q => ⟨a, b, rfl, rfl, q H1 (Ex.refl H1)⟩
theorem rv_noTy {H : Hp} {a b : String} : RV rNoTyR (.ty a) (.ty b) H (.bl (!decide (a = b))) := fun H1 _ _ q => ⟨a, b, rfl, rfl, q H1 (Ex.refl H1)⟩
section
variable {P : Program} {w : World} {K : PySem.W.Frag} {mg : Str → Option Value} {base : Heap}
theorem ev_type {σ : L2.St} {H : Hp} {te : TE} {v : V} (h : Ev te σ H v) (k : KeyV K H v) : Ev (tCB (rTyp K) (tCons te tNil)) σ H (.ty (tyN v)) :=
  ev_cb (ea_cons h ea_nil) fun H5 e _ q => ⟨v, tyN v, rfl, (k.ex e).ty, q H5 (Ex.refl H5)⟩
theorem et_ty {σ : L2.St} {H : Hp} {te : TE} {v : V} {c : String} (h : Ev te σ H v) (k : KeyV K H v) : EvT (tTest (tOp rIsTyR (tCB (rTyp K) (tCons te tNil)) (tC (.ty c)))) σ H (decide (tyN v = c)) :=
  et_test (ev_op (ev_type h k) ev_c rv_isTy)
theorem et_nty {σ : L2.St} {H : Hp} {te : TE} {v : V} {c : String} (h : Ev te σ H v) (k : KeyV K H v) : EvT (tTest (tOp rNoTyR (tCB (rTyp K) (tCons te tNil)) (tC (.ty c)))) σ H (!decide (tyN v = c)) :=
  et_test (ev_op (ev_type h k) ev_c rv_noTy)
/-- None, or a truth value -/
def NoB (v : V) : Prop := v = .non ∨ ∃ b : Bool, v = .bl b
theorem NoB.key {H : Hp} {v : V} (h : NoB v) : KeyV K H v := by
  rcases h with h | h
  · exact .inl (.inl h)
  · exact .inl (.inr (.inl h))
theorem NoB.ty1 {v : V} (h : NoB v) : tyN v ≠ "tuple" ∧ tyN v ≠ "list" := by
  rcases h with rfl | ⟨b, rfl⟩ <;> simp [tyN]
theorem ev_fd (T : Txt K mg) {σ : L2.St} {H : Hp} {te : TE} {v : V} (h : Ev te σ H v) (k : NoB v) : Ev (tCB (rIsi K) (tCons te (tCons (tC (.ref (ga K "Fielded"))) tNil))) σ H (.bl false) :=
  ev_cb (ea_cons h (ea_cons ev_c ea_nil)) fun H5 e _ q => by
    rcases k with rfl | ⟨b, rfl⟩
    · exact ⟨.non, .ref (ga K "Fielded"), .type "NoneType", .ref (ga K "Fielded"), false, rfl, .own _, .base .non, T.fd_none, q H5 (Ex.refl H5)⟩
    · exact ⟨.bl b, .ref (ga K "Fielded"), .type "bool", .ref (ga K "Fielded"), false, rfl, .own _, .base (.bl b), T.fd_bl, q H5 (Ex.refl H5)⟩
/-! ### sort_of of these -/
def srtN : V → Str
  | .non => "none"
  | _ => "truth"
theorem srt_or (v : V) : srtN v = "none" ∨ srtN v = "truth" := by
  cases v <;> simp [srtN]
def spSort : Sp := fun vs H Q _ => ∃ v : V, vs = [v] ∧ NoB v ∧ ∀ H', Ex H H' → Q (.str (srtN v)) H'

theorem can_sort (T : Txt K mg) : Can P w K mg base CX0 1 "sort_of" ["value"] spSort := by
  refine can_of T.g_sort_of T.F_sort_of (fun fd F => ?_) (fun _ _ _ _ _ _ us hl => match us, hl with | [_], _ => rfl)
  refine F.ok sc_sort_of (fun vs H Q E h => ?_) (fun cdv A outer s H vs Q E hr h => ?_)
  · obtain ⟨v, rfl, _⟩ := h
    rfl
  · obtain ⟨v, rfl, hv, fin⟩ := h
    refine ⟨_, (pss_cons (ps_if (pt_cmpR op_isTyR (pe_callTy call_type1 (by rfl) T.n_type (by decide +kernel) (pa_cons (pv 0) pa_nil)) (pe_bltn rfl T.n_tuple (v := .ty "tuple") (by decide +kernel) rfl) (nomark _)) (pss_one ps_never) pss_nil)
      (pss_cons (ps_if (pt_cmpR op_isTyR (pe_callTy call_type1 (by rfl) T.n_type (by decide +kernel) (pa_cons (pv 0) pa_nil)) (pe_bltn rfl T.n_list (v := .ty "list") (by decide +kernel) rfl) (nomark _)) (pss_one ps_never) pss_nil)
      (pss_cons (ps_if (pt_val (pe_callB call_isi (by rfl) T.n_isinstance (by decide +kernel) (pa_cons (pv 0) (pa_cons (pe_glob rfl T.g_Fielded (v := .ref (ga K "Fielded")) rfl) pa_nil)))) (pss_one ps_never) pss_nil)
      (pss_cons (ps_if (pt_cmp (pc_isN (pv 0))) (pss_one (ps_ret pe_str)) pss_nil)
      (pss_cons (ps_if (pt_val (pe_callB call_isi (by rfl) T.n_isinstance (by decide +kernel) (pa_cons (pv 0) (pa_cons (pe_bltn rfl T.n_bool (v := .ty "bool") (by decide +kernel) rfl) pa_nil)))) (pss_one (ps_ret pe_str)) pss_nil)
      (pss_cons ps_never
      (pss_cons ps_never
      (pss_one ps_never)))))))), ?_⟩
    have hk : ∀ H1, KeyV K H1 v := fun H1 => hv.key
    have n1 := hv.ty1
    refine q_when (b := false) (et_is (et_ty (ev_var rfl) (hk _)) (decide_eq_false n1.1)) (fun h => by cases h) fun _ H1 e1 => ?_
    refine q_when (b := false) (et_is (et_ty (ev_var rfl) (hk _)) (decide_eq_false n1.2)) (fun h => by cases h) fun _ H2 e2 => ?_
    refine q_when (b := false) (et_B (ev_fd T (ev_var rfl) hv)) (fun h => by cases h) fun _ H3 e3 => ?_
    have e03 := (e1.trans e2).trans e3
    rcases hv with rfl | ⟨b, rfl⟩
    · refine q_when (b := true) (et_is (et_isN (ev_var rfl)) rfl) (fun _ H4 e4 => ?_) (fun h => by cases h)
      exact s_ret ev_c fun H5 e5 => fin H5 ((e03.trans e4).trans e5)
    · refine q_when (b := false) (et_is (et_isN (ev_var rfl)) rfl) (fun h => by cases h) fun _ H4 e4 => ?_
      refine q_when (b := true) (et_B (ev_cb (ea_cons (ev_var rfl) (ea_cons ev_c ea_nil)) fun H5 e Q q => ⟨.bl b, .ty "bool", .type "bool", .type "bool", true, rfl, .ty _, .base (.bl b), kit_ty (by decide +kernel), q H5 (Ex.refl H5)⟩)) (fun _ H5 e5 => ?_) (fun h => by cases h)
      exact s_ret ev_c fun H6 e6 => fin H6 (((e03.trans e4).trans e5).trans e6)
theorem flat_strs (l : List Str) : (l.map V.str).all flatV = true := by
  induction l with
  | nil => rfl
  | cons a r ih => simpa [flatV] using ih
def spCanKey0 : Sp := fun vs H Q _ => ∃ v : V, vs = [v] ∧ ScV v ∧ ∀ H', Ex H H' → Q (.bl true) H'
theorem can_key0K (T : Txt K mg) : Can P w K mg base CX0 2 "can_be_key" ["value"] (spCanKey0) := by
  have CS : Can P w K mg base CX0 1 "sort_of" ["value"] spSort := can_sort T
  refine can_of T.g_can_be_key T.F_can_be_key (fun fd F => ?_) (fun _ _ _ _ _ _ us hl => match us, hl with | [_], _ => rfl)
  refine F.ok sc_can_be_key (fun vs H Q E h => ?_) (fun cdv A outer s H vs Q E hr h => ?_)
  · obtain ⟨v, rfl, _⟩ := h
    rfl
  · obtain ⟨v, rfl, hv, fin⟩ := h
    have nd := sc_can_be_key.nd
    refine ⟨_, (pss_cons (ps_if (PW.pt (pw_or (pt_cmpR op_isTyR (pe_callTy call_type1 (by rfl) T.n_type (by decide +kernel) (pa_cons (pv 0) pa_nil)) (pe_bltn rfl T.n_int (v := .ty "int") (by decide +kernel) rfl) (nomark _)) (pw_or1 (pt_cmpR op_isTyR (pe_callTy call_type1 (by rfl) T.n_type (by decide +kernel) (pa_cons (pv 0) pa_nil)) (pe_bltn rfl T.n_str (v := .ty "str") (by decide +kernel) rfl) (nomark _))))) (pss_one (ps_ret pe_bl)) pss_nil)
      (pss_cons (ps_if (pt_cmpR op_isTyR (pe_callTy call_type1 (by rfl) T.n_type (by decide +kernel) (pa_cons (pv 0) pa_nil)) (pe_bltn rfl T.n_tuple (v := .ty "tuple") (by decide +kernel) rfl) (nomark _)) (pss_one ps_never) pss_nil)
      (pss_cons (ps_if (pt_val (pe_callB call_isi (by rfl) T.n_isinstance (by decide +kernel) (pa_cons (pv 0) (pa_cons (pe_glob rfl T.g_Fielded (v := .ref (ga K "Fielded")) rfl) pa_nil)))) (pss_one ps_never) pss_nil)
      (pss_cons (ps_set (i := 1) nd rfl (.inl rfl) (pe_can CS hr pass0 (pa_cons (pv 0) pa_nil)))
      (pss_cons (ps_if (pt_cmpR op_eq (pv 1) pe_str (nomark _)) (pss_one ps_never) pss_nil)
      (pss_one (ps_ret (pe_cmpR op_in_seq (pv 1) (pe_glob rfl T.g_SIMPLE_SORTS (v := .ref (ga K "SIMPLE_SORTS")) rfl) rfl)))))))), ?_⟩
    have hk : ∀ H1, Ex H H1 → KeyV K H1 v := fun H1 e => .inl hv
    refine q_when (b := decide (tyN v = "int") || decide (tyN v = "str")) (et_or (et_ty (ev_var rfl) (hk _ (Ex.refl _))) fun _ => et_ty (ev_var rfl) (hk _ (Ex.refl _))) (fun _ H1 e1 => s_ret ev_c fun H2 e2 => fin H2 (e1.trans e2)) fun hn H1 e1 => ?_
    have hb : NoB v := by
      rcases hv with rfl | h | ⟨i, rfl, _⟩ | ⟨s, rfl, _⟩
      · exact .inl rfl
      · exact .inr h
      · exact absurd hn (by simp [tyN])
      · exact absurd hn (by simp [tyN])
    refine q_when (b := false) (et_is (et_ty (ev_var rfl) (hk _ e1)) (decide_eq_false hb.ty1.1)) (fun h => by cases h) fun _ H2 e2 => ?_
    refine q_when (b := false) (et_B (ev_fd T (ev_var rfl) hb)) (fun h => by cases h) fun _ H3 e3 => ?_
    refine ⟨_, rfl, v, rfl, hb, fun H4 e4 => ?_⟩
    refine q_when (b := false) (et_is (et_test (ev_op (ev_var rfl) ev_c (rv_eq rfl))) (by rcases srt_or v with q | q <;> rw [q] <;> decide +kernel)) (fun h => by cases h) fun _ H5 e5 => ?_
    refine s_ret (v := .bl true) (ev_is (ev_op (ev_var rfl) ev_c (rv_inT (neg := false) (T.simpleSorts _) rfl (flat_strs simpleSorts))) ?_) fun H6 e6 => fin H6 (((((e1.trans e2).trans e3).trans e4).trans e5).trans e6)
    rcases srt_or v with q | q <;> rw [q] <;> decide +kernel

def spAllKeys (K : PySem.W.Frag) : Sp := fun vs H Q _ => ∃ (t : Addr) (xs : List V), vs = [.ref t] ∧ SqT K H t xs ∧ (∀ x, x ∈ xs → ScV x) ∧ ∀ H', Ex H H' → Q (.bl true) H'
theorem can_allKeys (T : Txt K mg) : Can P w K mg base CX0 3 "_can_all_be_keys" ["values"] (spAllKeys K) := by
  have CK : Can P w K mg base CX0 2 "can_be_key" ["value"] spCanKey0 := can_key0K T
  refine can_of T.g__can_all_be_keys T.F__can_all_be_keys (fun fd F => ?_) (fun _ _ _ _ _ _ us hl => match us, hl with | [_], _ => rfl)
  refine F.ok sc__can_all_be_keys (fun vs H Q E h => ?_) (fun cdv A outer s H vs Q E hr h => ?_)
  · obtain ⟨t, xs, rfl, _⟩ := h
    rfl
  · obtain ⟨t, xs, rfl, ht, hx, fin⟩ := h
    have nd := sc__can_all_be_keys.nd
    refine ⟨_, pss_cons (ps_set (i := 1) nd rfl (.inl rfl) pe_bl)
      (pss_cons (ps_for PassesOwn.never rfl (pi_tup (pv 0)) (pg_name (i := 2) nd rfl (.inl rfl)) (pss_one (ps_if (PW.pt (pw_and (pt_cmpR op_notTyR (pe_callTy call_type1 (by rfl) T.n_type (by decide +kernel) (pa_cons (pv 2) pa_nil)) (pe_bltn rfl T.n_int (v := .ty "int") (by decide +kernel) rfl) (nomark _)) (pw_and (pt_cmpR op_notTyR (pe_callTy call_type1 (by rfl) T.n_type (by decide +kernel) (pa_cons (pv 2) pa_nil)) (pe_bltn rfl T.n_str (v := .ty "str") (by decide +kernel) rfl) (nomark _)) (pw_and1 (pt_not (pt_val (pe_can CK hr pass0 (pa_cons (pv 2) pa_nil)))))))) (pss_one ps_never) pss_nil)))
      (pss_one (ps_ret (pv 1)))), ?_⟩
    refine q_forT (ev_var rfl) ht (fun i σ' H' => (∃ v, σ' = [some (.ref t), some (.bl true), v]) ∧ Ex H H') (fun H1 e1 => ⟨⟨_, rfl⟩, e1⟩) (fun i σ' H' _ ⟨_, e⟩ => ex_t e ht) ?_ (fun σ' H' ⟨⟨v, e0⟩, e⟩ => ?_)
    · rintro i x σ' H' hi ⟨⟨v, rfl⟩, e⟩
      have hs := hx x (List.mem_of_getElem? hi)
      have hk : ∀ H1, KeyV K H1 x := fun H1 => .inl hs
      show tIfS _ _ _ _ ([some (.ref t), some (.bl true), some x] : L2.St) H'
      refine s_when (b := false) (et_is (et_and (et_nty (ev_var rfl) (hk _)) fun _ => et_and (et_nty (ev_var rfl) (hk _)) fun _ => et_not (a := true) (et_B (ev_call (ea_cons (ev_var rfl) ea_nil) fun H2 e2 Q q E => ⟨x, rfl, hs, fun H3 e3 => q H3 e3⟩))) (by simp)) (fun h => by cases h) fun _ H2 e2 => ?_
      exact ⟨⟨_, rfl⟩, e.trans e2⟩
    · subst e0
      exact s_ret (ev_var rfl) fun H2 e2 => fin H2 (e.trans e2)
def spCanKey1 (K : PySem.W.Frag) : Sp := fun vs H Q _ => ∃ v : V, vs = [v] ∧ KeyV K H v ∧ ∀ H', Ex H H' → Q (.bl true) H'
theorem can_key1K (T : Txt K mg) : Can P w K mg base CX0 4 "can_be_key" ["value"] (spCanKey1 K) := by
  have CS : Can P w K mg base CX0 1 "sort_of" ["value"] spSort := can_sort T
  have CA : Can P w K mg base CX0 3 "_can_all_be_keys" ["values"] (spAllKeys K) := can_allKeys T
  refine can_of T.g_can_be_key T.F_can_be_key (fun fd F => ?_) (fun _ _ _ _ _ _ us hl => match us, hl with | [_], _ => rfl)
  refine F.ok sc_can_be_key (fun vs H Q E h => ?_) (fun cdv A outer s H vs Q E hr h => ?_)
  · obtain ⟨v, rfl, _⟩ := h
    rfl
  · obtain ⟨v, rfl, hv, fin⟩ := h
    have nd := sc_can_be_key.nd
    refine ⟨_, (pss_cons (ps_if (PW.pt (pw_or (pt_cmpR op_isTyR (pe_callTy call_type1 (by rfl) T.n_type (by decide +kernel) (pa_cons (pv 0) pa_nil)) (pe_bltn rfl T.n_int (v := .ty "int") (by decide +kernel) rfl) (nomark _)) (pw_or1 (pt_cmpR op_isTyR (pe_callTy call_type1 (by rfl) T.n_type (by decide +kernel) (pa_cons (pv 0) pa_nil)) (pe_bltn rfl T.n_str (v := .ty "str") (by decide +kernel) rfl) (nomark _))))) (pss_one (ps_ret pe_bl)) pss_nil)
      (pss_cons (ps_if (pt_cmpR op_isTyR (pe_callTy call_type1 (by rfl) T.n_type (by decide +kernel) (pa_cons (pv 0) pa_nil)) (pe_bltn rfl T.n_tuple (v := .ty "tuple") (by decide +kernel) rfl) (nomark _)) (pss_one (ps_ret (pe_can CA hr pass0 (pa_cons (pv 0) pa_nil)))) pss_nil)
      (pss_cons (ps_if (pt_val (pe_callB call_isi (by rfl) T.n_isinstance (by decide +kernel) (pa_cons (pv 0) (pa_cons (pe_glob rfl T.g_Fielded (v := .ref (ga K "Fielded")) rfl) pa_nil)))) (pss_one ps_never) pss_nil)
      (pss_cons (ps_set (i := 1) nd rfl (.inl rfl) (pe_can CS hr pass0 (pa_cons (pv 0) pa_nil)))
      (pss_cons (ps_if (pt_cmpR op_eq (pv 1) pe_str (nomark _)) (pss_one ps_never) pss_nil)
      (pss_one (ps_ret (pe_cmpR op_in_seq (pv 1) (pe_glob rfl T.g_SIMPLE_SORTS (v := .ref (ga K "SIMPLE_SORTS")) rfl) rfl)))))))), ?_⟩
    have hk : ∀ H1, Ex H H1 → KeyV K H1 v := fun H1 e => hv.ex e
    refine q_when (b := decide (tyN v = "int") || decide (tyN v = "str")) (et_or (et_ty (ev_var rfl) (hk _ (Ex.refl _))) fun _ => et_ty (ev_var rfl) (hk _ (Ex.refl _))) (fun _ H1 e1 => s_ret ev_c fun H2 e2 => fin H2 (e1.trans e2)) fun hn H1 e1 => ?_
    rcases hv with hv | ⟨t, xs, rfl, ht, hl, hx⟩
    · skip
      have hb : NoB v := by
        rcases hv with rfl | h | ⟨i, rfl, _⟩ | ⟨s, rfl, _⟩
        · exact .inl rfl
        · exact .inr h
        · exact absurd hn (by simp [tyN])
        · exact absurd hn (by simp [tyN])
      refine q_when (b := false) (et_is (et_ty (ev_var rfl) (hk _ e1)) (decide_eq_false hb.ty1.1)) (fun h => by cases h) fun _ H2 e2 => ?_
      refine q_when (b := false) (et_B (ev_fd T (ev_var rfl) hb)) (fun h => by cases h) fun _ H3 e3 => ?_
      refine ⟨_, rfl, v, rfl, hb, fun H4 e4 => ?_⟩
      refine q_when (b := false) (et_is (et_test (ev_op (ev_var rfl) ev_c (rv_eq rfl))) (by rcases srt_or v with q | q <;> rw [q] <;> decide +kernel)) (fun h => by cases h) fun _ H5 e5 => ?_
      refine s_ret (v := .bl true) (ev_is (ev_op (ev_var rfl) ev_c (rv_inT (neg := false) (T.simpleSorts _) rfl (flat_strs simpleSorts))) ?_) fun H6 e6 => fin H6 (((((e1.trans e2).trans e3).trans e4).trans e5).trans e6)
      rcases srt_or v with q | q <;> rw [q] <;> decide +kernel
    · refine q_when (b := true) (et_is (et_ty (ev_var rfl) (hk _ e1)) (by simp [tyN])) (fun _ H2 e2 => ?_) (fun h => by cases h)
      exact ⟨_, rfl, t, xs, rfl, ex_t (e1.trans e2) ht, hx, fun H3 e3 => fin H3 ((e1.trans e2).trans e3)⟩

/-! ### check_depth -/
def spPartsOf (K : PySem.W.Frag) : Sp := fun vs H Q _ => ∃ (t : Addr) (xs : List V), vs = [.ref t] ∧ SqT K H t xs ∧ ∀ H', Ex H H' → Q (.ref t) H'
theorem can_partsOf (T : Txt K mg) : Can P w K mg base CX0 1 "_parts_of" ["value"] (spPartsOf K) := by
  refine can_of T.g__parts_of T.F__parts_of (fun fd F => ?_) (fun _ _ _ _ _ _ us hl => match us, hl with | [_], _ => rfl)
  refine F.ok sc__parts_of (fun vs H Q E h => ?_) (fun cdv A outer s H vs Q E hr h => ?_)
  · obtain ⟨t, xs, rfl, _⟩ := h
    rfl
  · obtain ⟨t, xs, rfl, ht, fin⟩ := h
    refine ⟨_, (pss_cons (ps_if (PW.pt (pw_or (pt_cmpR op_isTyR (pe_callTy call_type1 (by rfl) T.n_type (by decide +kernel) (pa_cons (pv 0) pa_nil)) (pe_bltn rfl T.n_list (v := .ty "list") (by decide +kernel) rfl) (nomark _)) (pw_or1 (pt_cmpR op_isTyR (pe_callTy call_type1 (by rfl) T.n_type (by decide +kernel) (pa_cons (pv 0) pa_nil)) (pe_bltn rfl T.n_tuple (v := .ty "tuple") (by decide +kernel) rfl) (nomark _))))) (pss_one (ps_ret (pv 0))) pss_nil)
      (pss_cons ps_never
      (pss_cons ps_never
      (pss_cons ps_never
      (pss_one ps_never))))), ?_⟩
    have hty : ∀ c : String, EvT (tTest (tOp rIsTyR (tCB (rTyp K) (tCons (tVar 0) tNil)) (tC (.ty c)))) ([some (.ref t)] : L2.St) H (decide ("tuple" = c)) := fun c => et_test (ev_op (ev_cb (ea_cons (ev_var rfl) ea_nil) fun H5 e _ q => ⟨.ref t, "tuple", rfl, .tup (ex_t e ht), q H5 (Ex.refl H5)⟩) ev_c rv_isTy)
    refine q_when (b := true) (et_is (et_or (hty "list") fun _ => hty "tuple") (by decide)) (fun _ H1 e1 => ?_) (fun h => by cases h)
    exact s_ret (ev_var rfl) fun H2 e2 => fin H2 (e1.trans e2)
theorem et_notN {σ : L2.St} {H : Hp} {te : TE} {x : V} (h : Ev te σ H x) : EvT (tB (tNotN te)) σ H (!decide (x = .non)) := fun H1 e Q q => h H1 e _ fun H2 e2 => ⟨_, rfl, q H2 e2⟩
theorem ev_lenT {σ : L2.St} {H : Hp} {te : TE} {t : Addr} {xs : List V} (h : Ev te σ H (.ref t)) (hs : SqT K H t xs) : Ev (tCB (rLenS K) (tCons te tNil)) σ H (.int (xs.length : Int)) :=
  ev_cb (ea_cons h ea_nil) fun H5 e Q q => ⟨t, xs, rfl, .inr (ex_t e hs), q H5 (Ex.refl H5)⟩
def spDepth (K : PySem.W.Frag) : Sp := fun vs H Q _ => ∃ v : V, vs = [v] ∧ KeyV K H v ∧ ∀ H', Ex H H' → Q .non H'
theorem can_depth (T : Txt K mg) : Can P w K mg base CX0 2 "check_depth" ["value"] (spDepth K) := by
  have CP : Can P w K mg base CX0 1 "_parts_of" ["value"] (spPartsOf K) := can_partsOf T
  obtain ⟨tm, hmv⟩ := T.maxVals
  refine can_of T.g_check_depth T.F_check_depth (fun fd F => ?_) (fun _ _ _ _ _ _ us hl => match us, hl with | [_], _ => rfl)
  refine F.ok sc_check_depth (fun vs H Q E h => ?_) (fun cdv A outer s H vs Q E hr h => ?_)
  · obtain ⟨v, rfl, _⟩ := h
    rfl
  · obtain ⟨v, rfl, hv, fin⟩ := h
    have nd := sc_check_depth.nd
    refine ⟨_, pss_cons (ps_if (PW.pt (pw_or (pt_cmpR op_isTyR (pe_callTy call_type1 (by rfl) T.n_type (by decide +kernel) (pa_cons (pv 0) pa_nil)) (pe_bltn rfl T.n_int (v := .ty "int") (by decide +kernel) rfl) (nomark _)) (pw_or (pt_cmpR op_isTyR (pe_callTy call_type1 (by rfl) T.n_type (by decide +kernel) (pa_cons (pv 0) pa_nil)) (pe_bltn rfl T.n_str (v := .ty "str") (by decide +kernel) rfl) (nomark _)) (pw_or (pt_cmp (pc_isN (pv 0))) (pw_or1 (pt_cmpR op_isTyR (pe_callTy call_type1 (by rfl) T.n_type (by decide +kernel) (pa_cons (pv 0) pa_nil)) (pe_bltn rfl T.n_bool (v := .ty "bool") (by decide +kernel) rfl) (nomark _))))))) (pss_one (ps_retN)) pss_nil)
      (pss_cons (ps_set (i := 1) nd rfl (.inl rfl) (pe_can CP hr pass0 (pa_cons (pv 0) pa_nil)))
      (pss_cons (ps_if (pt_cmpR op_ge (pe_callB call_len_seq (by rfl) T.n_len PySem.boot_len (pa_cons (pv 1) pa_nil)) (pe_glob rfl hmv (v := .int 5000) ⟨_, rfl⟩) rfl) (pss_one ps_never) pss_nil)
      (pss_one (ps_for PassesOwn.never rfl (pi_tup (pv 1)) (pg_name (i := 2) nd rfl (.inl rfl)) (pss_one (ps_if (PW.pt (pw_and (pt_cmpR op_notTyR (pe_callTy call_type1 (by rfl) T.n_type (by decide +kernel) (pa_cons (pv 2) pa_nil)) (pe_bltn rfl T.n_int (v := .ty "int") (by decide +kernel) rfl) (nomark _)) (pw_and (pt_cmpR op_notTyR (pe_callTy call_type1 (by rfl) T.n_type (by decide +kernel) (pa_cons (pv 2) pa_nil)) (pe_bltn rfl T.n_str (v := .ty "str") (by decide +kernel) rfl) (nomark _)) (pw_and (pt_cmp (pc_notN (pv 2))) (pw_and1 (pt_cmpR op_notTyR (pe_callTy call_type1 (by rfl) T.n_type (by decide +kernel) (pa_cons (pv 2) pa_nil)) (pe_bltn rfl T.n_bool (v := .ty "bool") (by decide +kernel) rfl) (nomark _))))))) (pss_cons ps_never (pss_one ps_never)) pss_nil)))))), ?_⟩
    have hk : ∀ H1, Ex H H1 → KeyV K H1 v := fun H1 e => hv.ex e
    refine q_when (b := decide (tyN v = "int") || (decide (tyN v = "str") || (decide (v = .non) || decide (tyN v = "bool")))) (et_or (et_ty (ev_var rfl) (hk _ (Ex.refl _))) fun _ => et_or (et_ty (ev_var rfl) (hk _ (Ex.refl _))) fun _ => et_or (et_isN (ev_var rfl)) fun _ => et_ty (ev_var rfl) (hk _ (Ex.refl _))) (fun _ H1 e1 => fin H1 e1) fun hn H1 e1 => ?_
    obtain ⟨t, xs, rfl, ht, hl, hx⟩ : ∃ (t : Addr) (xs : List V), v = .ref t ∧ SqT K H t xs ∧ xs.length ≤ 3 ∧ ∀ x, x ∈ xs → ScV x := by
      rcases hv with (rfl | ⟨b, rfl⟩ | ⟨i, rfl, _⟩ | ⟨s, rfl, _⟩) | h
      · exact absurd hn (by simp [tyN])
      · exact absurd hn (by simp [tyN])
      · exact absurd hn (by simp [tyN])
      · exact absurd hn (by simp [tyN])
      · exact h
    refine ⟨_, rfl, t, xs, rfl, ex_t e1 ht, fun H2 e2 => ?_⟩
    have e02 := e1.trans e2
    refine q_when (b := false) (et_is (et_test (ev_op (ev_lenT (ev_var rfl) (ex_t e02 ht)) ev_c rv_I0)) (by simp; omega)) (fun h => by cases h) fun _ H3 e3 => ?_
    have e03 := e02.trans e3
    refine s_forT (ev_var rfl) (ex_t e03 ht) (fun i σ' H' => (∃ v, σ' = [some (.ref t), some (.ref t), v]) ∧ Ex H H') (fun H4 e4 => ⟨⟨_, rfl⟩, e03.trans e4⟩) (fun i σ' H' _ ⟨_, e⟩ => ex_t e ht) ?_ (fun σ' H' ⟨_, e⟩ => fin H' e)
    rintro i x σ' H' hi ⟨⟨v, rfl⟩, e⟩
    have hs := hx x (List.mem_of_getElem? hi)
    have hkx : ∀ H1, KeyV K H1 x := fun H1 => .inl hs
    show tIfS _ _ _ _ ([some (.ref t), some (.ref t), some x] : L2.St) H'
    refine s_when (b := false) (et_is (et_and (et_nty (ev_var rfl) (hkx _)) fun _ => et_and (et_nty (ev_var rfl) (hkx _)) fun _ => et_and (et_notN (ev_var rfl)) fun _ => et_nty (ev_var rfl) (hkx _)) ?_) (fun h => by cases h) fun _ H2 e2 => ⟨⟨_, rfl⟩, e.trans e2⟩
    rcases hs with rfl | ⟨b, rfl⟩ | ⟨i, rfl, _⟩ | ⟨s, rfl, _⟩ <;> simp [tyN]
def spKeyable (K : PySem.W.Frag) : Sp := fun vs H Q _ => ∃ v : V, vs = [v] ∧ KeyV K H v ∧ ∀ H', Ex H H' → Q (.bl true) H'
theorem can_keyable (T : Txt K mg) : Can P w K mg base CX0 5 "is_keyable" ["value"] (spKeyable K) := by
  have CD : Can P w K mg base CX0 2 "check_depth" ["value"] (spDepth K) := can_depth T
  have CK : Can P w K mg base CX0 4 "can_be_key" ["value"] (spCanKey1 K) := can_key1K T
  refine can_of T.g_is_keyable T.F_is_keyable (fun fd F => ?_) (fun _ _ _ _ _ _ us hl => match us, hl with | [_], _ => rfl)
  refine F.ok sc_is_keyable (fun vs H Q E h => ?_) (fun cdv A outer s H vs Q E hr h => ?_)
  · obtain ⟨v, rfl, _⟩ := h
    rfl
  · obtain ⟨v, rfl, hv, fin⟩ := h
    refine ⟨_, pss_cons (ps_expr (pe_can CD hr pass0 (pa_cons (pv 0) pa_nil))) (pss_one (ps_ret (pe_can CK hr pass0 (pa_cons (pv 0) pa_nil)))), ?_⟩
    exact ⟨_, rfl, v, rfl, hv, fun H1 e1 => ⟨_, rfl, v, rfl, hv.ex e1, fun H2 e2 => fin H2 (e1.trans e2)⟩⟩
end
end K17
end

section
set_option Elab.async false
set_option linter.all false
set_option maxRecDepth 100000
set_option maxHeartbeats 4000000
namespace K17
open PySem PySem.Spec PyProof.Rows L2 He Cn Evl
/-- x is b, b a truth value, x one or None -/
def rIsNB : R2 := fun x y H Q => ∃ b : Bool, y = .bl b ∧ ((x = .non ∧ Q (.bl false) H) ∨ ∃ a : Bool, x = .bl a ∧ Q (.bl (decide (a = b))) H)
theorem op_isNB {X : Cx} : OpR X (compareOp .Is) rIsNB := by
  intro pins s σ H x y v u Q I rx ry h
  obtain ⟨b, rfl, h | ⟨a, rfl, h⟩⟩ := h
  · obtain ⟨rfl, h⟩ := h
    cases (show v = Value.none from rx)
    cases (show u = Value.bool b from ry)
    exact wpAny_is_other rfl (fun z => by cases z) ⟨.bl false, H, I, rfl, h⟩
  · exact op_isBl pins s σ H _ _ v u Q I rx ry ⟨a, b, rfl, rfl, h⟩
/-- a flag's value: None or a truth value -/
def Flg (v : V) : Prop := v = .non ∨ ∃ b : Bool, v = .bl b
theorem rv_isNB {H : Hp} {x : V} {b : Bool} (h : Flg x) : RV rIsNB x (.bl b) H (.bl (decide (x = .bl b))) := fun H1 e Q q => by
  rcases h with rfl | ⟨a, rfl⟩
  · exact ⟨b, rfl, .inl ⟨rfl, q H1 (Ex.refl H1)⟩⟩
  · refine ⟨b, rfl, .inr ⟨a, rfl, ?_⟩⟩
    have := q H1 (Ex.refl H1)
    simpa using this
/-! ### dicts of options -/
abbrev Kvs := List (L2.Key × V)
def oget (st : Kvs) (k : Str) (d : V) : V := (valV st (.inr k)).getD d
def ohas (st : Kvs) (k : Str) : Bool := (valV st (.inr k)).isSome
section
variable {K : PySem.W.Frag} {σ : L2.St} {H : Hp} {td ty tx : TE} {d : Addr} {st : Kvs} {k : Str}
theorem dgS (h : Rd H d (.dK st)) : DGet H d (.str k) (valV st (.inr k)) := .inl ⟨st, .inr k, h, rfl, rfl⟩
theorem ev_din (hy : Ev ty σ H (.str k)) (hd : Ev td σ H (.ref d)) (h : Rd H d (.dK st)) : Ev (tDIn ty td) σ H (.bl (ohas st k)) := fun H1 e Q q =>
  hy H1 e _ fun H2 e2 => hd H2 (e.trans e2) _ fun H3 e3 => ⟨d, _, rfl, dgS (ex_rd ((e.trans e2).trans e3) h), q H3 (e2.trans e3)⟩
theorem ev_dnin (hy : Ev ty σ H (.str k)) (hd : Ev td σ H (.ref d)) (h : Rd H d (.dK st)) : Ev (tDNotIn ty td) σ H (.bl (!ohas st k)) := fun H1 e Q q =>
  hy H1 e _ fun H2 e2 => hd H2 (e.trans e2) _ fun H3 e3 => ⟨d, _, rfl, dgS (ex_rd ((e.trans e2).trans e3) h), q H3 (e2.trans e3)⟩
theorem ev_dget1 (hd : Ev td σ H (.ref d)) (hy : Ev ty σ H (.str k)) (h : Rd H d (.dK st)) : Ev (tDGet1 td ty) σ H (oget st k .non) := fun H1 e Q q =>
  hd H1 e _ fun H2 e2 => ⟨d, rfl, .inl ⟨st, ex_rd (e.trans e2) h⟩, hy H2 (e.trans e2) _ fun H3 e3 => ⟨_, dgS (ex_rd ((e.trans e2).trans e3) h), q H3 (e2.trans e3)⟩⟩
theorem ev_dget2 {z : V} (hd : Ev td σ H (.ref d)) (hy : Ev ty σ H (.str k)) (hx : Ev tx σ H z) (h : Rd H d (.dK st)) : Ev (tDGet2 td ty tx) σ H (oget st k z) := fun H1 e Q q =>
  hd H1 e _ fun H2 e2 => ⟨d, rfl, .inl ⟨st, ex_rd (e.trans e2) h⟩, hy H2 (e.trans e2) _ fun H3 e3 => hx H3 ((e.trans e2).trans e3) _ fun H4 e4 => ⟨_, dgS (ex_rd (((e.trans e2).trans e3).trans e4) h), q H4 ((e2.trans e3).trans e4)⟩⟩
/-- d[k] -/
theorem ev_dat {v : V} (hd : Ev td σ H (.ref d)) (hy : Ev ty σ H (.str k)) (h : Rd H d (.dK st)) (hv : valV st (.inr k) = some v) : Ev (tDGet td ty) σ H v := fun H1 e Q q =>
  hd H1 e _ fun H2 e2 => hy H2 (e.trans e2) _ fun H3 e3 => ⟨d, v, rfl, by
    have := dgS (k := k) (ex_rd ((e.trans e2).trans e3) h)
    rwa [hv] at this, q H3 (e2.trans e3)⟩
end
/-- a loop over the keys of a dict that is not changed by it -/
theorem s_keys {D : Ends} {σ : L2.St} {H : Hp} {i j : Nat} {d : Addr} {kvs : Kvs} {tb : TS} (hv : σ[i]? = some (some (.ref d))) (hd : H d = some (.dK kvs)) (W : Nat → L2.St → Hp → Prop) (h0 : ∀ od, W 0 σ (upd H d (.frz od (.dK kvs))))
    (hs : ∀ (od : Obj) (n : Nat) (k : L2.Key) (v : V) (σ' : L2.St) (H' : Hp), kvs[n]? = some (k, v) → W n σ' H' → H' d = some (.frz od (.dK kvs)) →
      tb ⟨fun σ2 H2 => W (n + 1) σ2 H2 ∧ H2 d = some (.frz od (.dK kvs)), fun v H' => H' d = some (.frz od (.dK kvs)) ∧ D.rt v (upd H' d (.dK kvs)), fun σ' H' => H' d = some (.frz od (.dK kvs)) ∧ D.nx σ' (upd H' d (.dK kvs)), fun σ2 H2 => W (n + 1) σ2 H2 ∧ H2 d = some (.frz od (.dK kvs))⟩ (σ'.set j (some (kV k))) H')
    (hf : ∀ od σ' H', W kvs.length σ' H' → H' d = some (.frz od (.dK kvs)) → D.nx σ' (upd H' d (.dK kvs))) :
    tLock (tFor (iKeys (tVar i)) (gName j) tb) D σ H := by
  refine ⟨d, _, hd, trivial, fun od => ?_⟩
  refine ⟨_, hv, d, od, rfl, .inl ⟨kvs, upd_same, for_it walk_keys (fun n σ' H' => W n σ' H' ∧ H' d = some (.frz od (.dK kvs))) ⟨h0 od, upd_same⟩ (fun _ _ _ _ q => q.2) ?_ (fun σ' H' q => ⟨q.2, hf od σ' H' q.1 q.2⟩)⟩⟩
  rintro n x σ' H' H'' hn ⟨hw, hz⟩ ⟨rfl, k, v, hk, rfl⟩
  exact hs od n k v σ' _ hk hw hz
theorem q_keys {D : Ends} {σ : L2.St} {H : Hp} {i j : Nat} {d : Addr} {kvs : Kvs} {tb tz : TS} (hv : σ[i]? = some (some (.ref d))) (hd : H d = some (.dK kvs)) (W : Nat → L2.St → Hp → Prop) (h0 : ∀ od, W 0 σ (upd H d (.frz od (.dK kvs))))
    (hs : ∀ (od : Obj) (n : Nat) (k : L2.Key) (v : V) (σ' : L2.St) (H' : Hp), kvs[n]? = some (k, v) → W n σ' H' → H' d = some (.frz od (.dK kvs)) →
      tb ⟨fun σ2 H2 => W (n + 1) σ2 H2 ∧ H2 d = some (.frz od (.dK kvs)), fun v H' => H' d = some (.frz od (.dK kvs)) ∧ D.rt v (upd H' d (.dK kvs)), fun σ' H' => H' d = some (.frz od (.dK kvs)) ∧ tz D σ' (upd H' d (.dK kvs)), fun σ2 H2 => W (n + 1) σ2 H2 ∧ H2 d = some (.frz od (.dK kvs))⟩ (σ'.set j (some (kV k))) H')
    (hf : ∀ od σ' H', W kvs.length σ' H' → H' d = some (.frz od (.dK kvs)) → tz D σ' (upd H' d (.dK kvs))) :
    tSeq (tLock (tFor (iKeys (tVar i)) (gName j) tb)) tz D σ H := s_keys (D := { D with nx := tz D }) hv hd W h0 hs hf
/-- behind such a loop that left all else as it was -/
theorem ex_unlock {H H' : Hp} {d : Addr} {u : HO} (hd : H d = some u) (e : Ex (del H d) H') : Ex H (upd H' d u) := fun b o h => by
  by_cases q : b = d
  · subst q
    rw [hd] at h
    rw [upd_same]
    exact h
  · rw [upd_ne q]
    refine e b o ?_
    rw [del_ne q]
    exact h
theorem ex_lock {H : Hp} {d : Addr} {u v : HO} (hd : H d = some u) : Ex (del H d) (upd H d v) := fun b o h => by
  by_cases q : b = d
  · subst q
    rw [del_same] at h
    cases h
  · rw [upd_ne q]
    rw [del_ne q] at h
    exact h
section
variable {P : Program} {w : World} {K : PySem.W.Frag} {mg : Str → Option Value} {base : Heap}
/-! ### one option -/
/-- what an option may be; of a default this says nothing -/
def Allowed (s : Str) (v : V) : Prop := s = "default" ∨ s = "factory" ∨ (v = .non ∧ (s = "key" ∨ s = "only_named")) ∨ ∃ b : Bool, v = .bl b
def spAllowed (K : PySem.W.Frag) : Sp := fun vs H Q _ => ∃ (s : Str) (v : V), vs = [.str s, v] ∧ Allowed s v ∧ (s = "default" → KeyV K H v) ∧ ∀ H', Ex H H' → Q (.bl true) H'
theorem can_allowed (T : Txt K mg) : Can P w K mg base CX0 6 "_is_allowed" ["option", "value"] (spAllowed K) := by
  have CK : Can P w K mg base CX0 5 "is_keyable" ["value"] (spKeyable K) := can_keyable T
  refine can_of T.g__is_allowed T.F__is_allowed (fun fd F => ?_) (fun _ _ _ _ _ _ us hl => match us, hl with | [_, _], _ => rfl)
  refine F.ok sc__is_allowed (fun vs H Q E h => ?_) (fun cdv A outer s H vs Q E hr h => ?_)
  · obtain ⟨s, v, rfl, _⟩ := h
    rfl
  · obtain ⟨s, v, rfl, hv, hk, fin⟩ := h
    refine ⟨_, pss_cons (ps_if (pt_cmpR op_eq (pv 0) pe_str (nomark _)) (pss_one (ps_ret pe_bl)) pss_nil)
      (pss_cons (ps_if (pt_cmpR op_eq (pv 0) pe_str (nomark _)) (pss_one (ps_ret (pe_can CK hr pass0 (pa_cons (pv 1) pa_nil)))) pss_nil)
      (pss_cons (ps_if (pt_cmp (pc_isN (pv 1))) (pss_one (ps_ret (pe_or (pe_cmpR op_eq (pv 0) pe_str (nomark _)) (pe_one (pe_cmpR op_eq (pv 0) pe_str (nomark _)))))) pss_nil)
      (pss_one (ps_ret (pe_callB call_isi (by rfl) T.n_isinstance (by decide +kernel) (pa_cons (pv 1) (pa_cons (pe_bltn rfl T.n_bool (v := .ty "bool") (by decide +kernel) rfl) pa_nil))))))), ?_⟩
    have hds : ∀ {a b : Str}, decide (V.str a = V.str b) = decide (a = b) := fun {a b} => by
      by_cases q : a = b
      · subst q; simp
      · simp [q]
    refine q_when (b := decide (s = "factory")) (et_is (et_test (ev_op (ev_var rfl) ev_c (rv_eq rfl))) hds) (fun _ H1 e1 => s_ret ev_c fun H2 e2 => fin H2 (e1.trans e2)) fun hb H1 e1 => ?_
    have hf : s ≠ "factory" := fun q => by
      rw [q] at hb
      simp at hb
    refine q_when (b := decide (s = "default")) (et_is (et_test (ev_op (ev_var rfl) ev_c (rv_eq rfl))) hds) (fun hy H2 e2 => ?_) fun hy H2 e2 => ?_
    · exact ⟨_, rfl, v, rfl, (hk (of_decide_eq_true hy)).ex (e1.trans e2), fun H3 e3 => fin H3 ((e1.trans e2).trans e3)⟩
    rcases hv with h | h | ⟨rfl, h⟩ | ⟨b, rfl⟩
    · exact absurd h (of_decide_eq_false hy)
    · exact absurd h hf
    · refine q_when (b := true) (et_is (et_isN (ev_var rfl)) rfl) (fun _ H3 e3 => ?_) (fun h => by cases h)
      refine s_ret (v := .bl true) ?_ fun H4 e4 => fin H4 (((e1.trans e2).trans e3).trans e4)
      refine ev_is (ev_orV (a := decide (s = "key")) (b := decide (s = "only_named")) (ev_is (ev_op (ev_var rfl) ev_c (rv_eq rfl)) (by rw [hds])) fun _ => ev_is (ev_op (ev_var rfl) ev_c (rv_eq rfl)) (by rw [hds])) ?_
      rcases h with h | h <;> simp [h]
    · refine q_when (b := false) (et_is (et_isN (ev_var rfl)) rfl) (fun h => by cases h) fun _ H3 e3 => ?_
      refine s_ret (v := .bl true) ?_ fun H4 e4 => fin H4 (((e1.trans e2).trans e3).trans e4)
      exact ev_cb (ea_cons (ev_var rfl) (ea_cons ev_c ea_nil)) fun H5 e Q q => ⟨.bl b, .ty "bool", .type "bool", .type "bool", true, rfl, .ty _, .base (.bl b), kit_ty (by decide +kernel), q H5 (Ex.refl H5)⟩
theorem in_strs {s : Str} {l : List Str} : inV (.str s) (l.map V.str) = decide (s ∈ l) := by
  induction l with
  | nil => rfl
  | cons a r ih =>
    have e : inV (.str s) ((a :: r).map V.str) = (eqV (.str a) (.str s) || inV (.str s) (r.map V.str)) := rfl
    rw [e, ih]
    have e2 : eqV (.str a) (.str s) = decide (a = s) := by
      unfold eqV
      rw [Bool.eq_iff_iff]
      simp
    rw [e2]
    by_cases q : a = s
    · subst q; simp
    · have : ¬ s = a := fun z => q z.symm
      simp [q, this]
def spChkOpt (K : PySem.W.Frag) : Sp := fun vs H Q _ => ∃ (t : Addr) (known : List Str) (s : Str) (v : V), vs = [.ref t, .str s, v] ∧ SqT K H t (known.map V.str) ∧ s ∈ known ∧ Allowed s v ∧ (s = "default" → KeyV K H v) ∧ ∀ H', Ex H H' → Q .non H'
theorem can_chkOpt (T : Txt K mg) : Can P w K mg base CX0 7 "_check_option" ["known", "option", "value"] (spChkOpt K) := by
  have CA : Can P w K mg base CX0 6 "_is_allowed" ["option", "value"] (spAllowed K) := can_allowed T
  refine can_of T.g__check_option T.F__check_option (fun fd F => ?_) (fun _ _ _ _ _ _ us hl => match us, hl with | [_, _, _], _ => rfl)
  refine F.ok sc__check_option (fun vs H Q E h => ?_) (fun cdv A outer s H vs Q E hr h => ?_)
  · obtain ⟨t, known, s, v, rfl, _⟩ := h
    rfl
  · obtain ⟨t, known, s, v, rfl, ht, hm, hA, hK, fin⟩ := h
    refine ⟨_, pss_cons (ps_if (pt_cmpR op_notIn_seq (pv 1) (pv 0) rfl) (pss_one ps_never) pss_nil)
      (pss_one (ps_if (pt_not (pt_val (pe_can CA hr pass0 (pa_cons (pv 1) (pa_cons (pv 2) pa_nil))))) (pss_one ps_never) pss_nil)), ?_⟩
    refine q_when (b := false) (et_is (et_test (ev_op (ev_var rfl) (ev_var rfl) (rv_niT ht rfl (flat_strs known)))) (by rw [in_strs]; simp [hm])) (fun h => by cases h) fun _ H1 e1 => ?_
    refine s_when (b := false) (et_not (a := true) (et_B (ev_call (ea_cons (ev_var rfl) (ea_cons (ev_var rfl) ea_nil)) fun H2 e Q q E => ⟨s, v, rfl, hA, fun z => (hK z).ex (e1.trans e), fun H3 e3 => q H3 e3⟩))) (fun h => by cases h) fun _ H2 e2 => fin H2 (e1.trans e2)
/-! ### Member.__init__ -/
def spMember (K : PySem.W.Frag) : Sp := fun vs H Q _ => ∃ (C a dx : Addr) (z : Str) (fs : List (Str × V)), vs = [.ref a, .str z] ∧ goodName z = true ∧ H a = some (.ins C dx fs) ∧ Cls K C ∧ NoAttr K C "name" ∧ fs.length ≤ 900 ∧
  ∀ H', H' a = some (.ins C dx (putF "name" (.str z) fs)) → FrB a H H' → Q .non H'
theorem fnr_member (T : Txt K mg) : FnR P w K mg base CX0 2 (kMi K) (spMember K) := by
  have CN : Can P w K mg base CX0 1 "is_name" ["value"] spIsName := can_isName T
  obtain ⟨fd, F⟩ := T.F_Member_init
  have FO : FnOk P w K mg base CX0 2 (kMi K) fd ["self", "name"] (spMember K) := by
    refine F.ok sc_Member_init (fun vs H Q E h => ?_) (fun cdv A outer s H vs Q E hr h => ?_)
    · obtain ⟨C, a, dx, z, fs, rfl, _⟩ := h
      rfl
    · obtain ⟨C, a, dx, z, fs, rfl, hz, ha, c, n, hl, fin⟩ := h
      refine ⟨_, pss_cons (ps_if (pt_not (pt_val (pe_can CN hr pass0 (pa_cons (pv 1) pa_nil)))) (pss_one ps_never) pss_nil) (pss_one (ps_fld (pv 0) (pv 1) rfl)), ?_⟩
      refine q_when (et_not (a := true) (et_B (ev_call (ea_cons (ev_var rfl) ea_nil) fun H1 e Q q E => ⟨z, rfl, hz, fun H2 e2 => q H2 e2⟩))) (fun h => by cases h) fun _ H1 e1 => ?_
      refine s_putV (v := .str z) (ev_var rfl) (fun _ _ => ev_var rfl) (e1 _ _ ha) c n (by omega) fun H2 a2 f2 => ?_
      exact fin H2 a2 fun b u hb hba => f2 b u (e1 _ _ hb) hba
  refine (FO.raw (F.binds (ps := ["self", "name"]) fun _ _ _ _ _ _ us hl => match us, hl with | [_, _], _ => rfl) .nil).imp fun vs H Q E h => ?_
  rw [List.append_nil]
  exact h
end
end K17
end

section
set_option Elab.async false
set_option linter.all false
set_option maxRecDepth 100000
set_option maxHeartbeats 4000000
namespace K17
open PySem PySem.Spec PyProof.Rows L2 He Cn Evl
/-- attributes put one after the other -/
def puts (ps fs : List (Str × V)) : List (Str × V) := ps.foldl (fun f p => putF p.1 p.2 f) fs
theorem puts_other {ps : List (Str × V)} {g : Str} : ∀ {fs : List (Str × V)}, g ∉ ps.map (·.1) → (puts ps fs).lookup g = fs.lookup g := by
  induction ps with
  | nil => intro fs _; rfl
  | cons p r ih =>
    intro fs h
    have h1 : g ≠ p.1 := fun e => h (by rw [e]; exact List.mem_cons_self ..)
    have h2 : g ∉ r.map (·.1) := fun e => h (List.mem_cons_of_mem _ e)
    show (puts r (putF p.1 p.2 fs)).lookup g = _
    rw [ih h2, lkNe h1]
theorem puts_own {ps : List (Str × V)} : ∀ {fs : List (Str × V)}, (ps.map (·.1)).Nodup → ∀ p, p ∈ ps → (puts ps fs).lookup p.1 = some p.2 := by
  induction ps with
  | nil => intro fs _ p hp; cases hp
  | cons q r ih =>
    intro fs nd p hp
    obtain ⟨n1, n2⟩ := List.nodup_cons.mp nd
    show (puts r (putF q.1 q.2 fs)).lookup p.1 = _
    rcases List.mem_cons.mp hp with e | e
    · subst e
      rw [puts_other n1, lkEq]
    · exact ih n2 p e
theorem puts_len {ps : List (Str × V)} : ∀ {fs : List (Str × V)}, (puts ps fs).length ≤ fs.length + ps.length := by
  induction ps with
  | nil => intro fs; exact Nat.le_refl _
  | cons q r ih =>
    intro fs
    have h1 := ih (fs := putF q.1 q.2 fs)
    have h2 := length_putF q.1 q.2 fs
    show (puts r (putF q.1 q.2 fs)).length ≤ _
    rw [List.length_cons]
    omega
/-- every entry is an option of these with a value that it may have -/
def OptOk (known : List Str) (st : Kvs) : Prop := ∀ k v, (k, v) ∈ st → ∃ s : Str, k = .inr s ∧ s ∈ known ∧ Allowed s v
theorem mem_val {st : Kvs} {k : L2.Key} {v : V} (h : (k, v) ∈ st) : ∃ v', valV st k = some v' ∧ (k, v') ∈ st := by
  induction st with
  | nil => cases h
  | cons p r ih =>
    by_cases e : p.1 = k
    · exact ⟨p.2, valV_pos e, by rw [← e]; exact List.mem_cons_self ..⟩
    · rcases List.mem_cons.mp h with q | q
      · exact absurd (congrArg Prod.fst q.symm) e
      · obtain ⟨v', h1, h2⟩ := ih q
        exact ⟨v', (valV_neg e).trans h1, List.mem_cons_of_mem _ h2⟩
theorem val_mem {st : Kvs} {k : L2.Key} {v : V} (h : valV st k = some v) : (k, v) ∈ st := by
  induction st with
  | nil => cases h
  | cons p r ih =>
    by_cases e : p.1 = k
    · rw [valV_pos e] at h
      obtain rfl := Option.some.inj h
      rw [← e]
      exact List.mem_cons_self ..
    · rw [valV_neg e] at h
      exact List.mem_cons_of_mem _ (ih h)
/-- what an option that must be a truth value is -/
theorem OptOk.bool {known : List Str} {st : Kvs} (h : OptOk known st) {s : Str} {d : Bool} (h0 : s ≠ "default") (h1 : s ≠ "factory") (h2 : s ≠ "key") (h3 : s ≠ "only_named") : ∃ b : Bool, oget st s (.bl d) = .bl b := by
  unfold oget
  cases q : valV st (.inr s) with
  | none => exact ⟨d, rfl⟩
  | some v =>
    obtain ⟨s', e, _, hA⟩ := h _ _ (val_mem q)
    obtain rfl : s = s' := Sum.inr.inj e
    rcases hA with z | z | ⟨_, z | z⟩ | z
    · exact absurd z h0
    · exact absurd z h1
    · exact absurd z h2
    · exact absurd z h3
    · exact z
theorem OptOk.flag {known : List Str} {st : Kvs} (h : OptOk known st) {s : Str} (h0 : s ≠ "default") (h1 : s ≠ "factory") : Flg (oget st s .non) := by
  unfold oget
  cases q : valV st (.inr s) with
  | none => exact .inl rfl
  | some v =>
    obtain ⟨s', e, _, hA⟩ := h _ _ (val_mem q)
    obtain rfl : s = s' := Sum.inr.inj e
    rcases hA with z | z | ⟨z, _⟩ | z
    · exact absurd z h0
    · exact absurd z h1
    · exact .inl z
    · exact .inr z
/-- what a field is told by its options -/
def fldAttrs (st : Kvs) : List (Str × V) := [("has_default", .bl (ohas st "default")), ("default", oget st "default" .non), ("has_factory", .bl (ohas st "factory")), ("factory", oget st "factory" .non), ("init", oget st "init" (.bl true)), ("compare", oget st "compare" (.bl true)), ("show", oget st "show" (.bl true)), ("key", oget st "key" .non), ("only_named", oget st "only_named" .non)]
def iniAttrs (st : Kvs) : List (Str × V) := [("has_default", .bl (ohas st "default")), ("default", oget st "default" .non), ("has_factory", .bl false), ("only_named", oget st "only_named" .non)]
def fldNames : List Str := ["has_default", "default", "has_factory", "factory", "init", "compare", "show", "key", "only_named"]
theorem fld_nd (st : Kvs) : ((fldAttrs st).map (·.1)).Nodup := by
  have e : (fldAttrs st).map (·.1) = fldNames := rfl
  rw [e]
  decide +kernel
def iniNames : List Str := ["has_default", "default", "has_factory", "only_named"]
theorem ini_nd (st : Kvs) : ((iniAttrs st).map (·.1)).Nodup := by
  have e : (iniAttrs st).map (·.1) = iniNames := rfl
  rw [e]
  decide +kernel
/-- a default is keyable -/
def DfOk (K : PySem.W.Frag) (H : Hp) (st : Kvs) : Prop := ∀ v, valV st (.inr "default") = some v → KeyV K H v
theorem DfOk.ex {K : PySem.W.Frag} {H H' : Hp} {st : Kvs} (e : Ex H H') (h : DfOk K H st) : DfOk K H' st := fun v q => (h v q).ex e
theorem KeyV.del {K : PySem.W.Frag} {H : Hp} {d : Addr} {st : Kvs} {v : V} (hd : H d = some (.dK st)) (h : KeyV K H v) : KeyV K (del H d) v := by
  rcases h with h | ⟨t, xs, h1, h2, h3⟩
  · exact .inl h
  · refine .inr ⟨t, xs, h1, ?_, h3⟩
    rcases h2 with (h2 | ⟨ob, h2⟩) | h2
    · exact .inl (.inl (by rw [del_ne (fun z => by subst z; rw [hd] at h2; cases h2)]; exact h2))
    · exact .inl (.inr ⟨ob, by rw [del_ne (fun z => by subst z; rw [hd] at h2; cases h2)]; exact h2⟩)
    · exact .inr h2
structure FldOk (st : Kvs) : Prop where
  opt : OptOk fieldOpts st
  both : (ohas st "default" && ohas st "factory") = false
  key : oget st "key" .non = .bl true → oget st "compare" (.bl true) = .bl true
section
variable {P : Program} {w : World} {K : PySem.W.Frag} {mg : Str → Option Value} {base : Heap}
def spFSet (K : PySem.W.Frag) : Sp := fun vs H Q _ => ∃ (a d dx : Addr) (fs : List (Str × V)) (st : Kvs), vs = [.ref a, .ref d] ∧ H a = some (.ins (kF K) dx fs) ∧ H d = some (.dK st) ∧ FldOk st ∧ DfOk K H st ∧ fs.length ≤ 800 ∧
  ∀ H', H' a = some (.ins (kF K) dx (puts (fldAttrs st) fs)) → FrB a H H' → Q .non H'
def spISet (K : PySem.W.Frag) : Sp := fun vs H Q _ => ∃ (a d dx : Addr) (fs : List (Str × V)) (st : Kvs), vs = [.ref a, .ref d] ∧ H a = some (.ins (kI K) dx fs) ∧ H d = some (.dK st) ∧ OptOk initOpts st ∧ DfOk K H st ∧ fs.length ≤ 800 ∧
  ∀ H', H' a = some (.ins (kI K) dx (puts (iniAttrs st) fs)) → FrB a H H' → Q .non H'

theorem can_fset (T : Txt K mg) : ∃ fd, FnOk P w K mg base CX0 8 (ma K (kF K) "_set_options") fd ["self", "options"] (spFSet K) ∧ Binds K fd ["self", "options"] [] := by
  obtain ⟨fd, F⟩ := T.F_Field__set_options
  have CO : Can P w K mg base CX0 7 "_check_option" ["known", "option", "value"] (spChkOpt K) := can_chkOpt T
  refine ⟨fd, F.ok sc_Field__set_options (fun vs H Q E h => ?_) (fun cdv A outer s H vs Q E hr h => ?_), F.binds (ps := ["self", "options"]) fun _ _ _ _ _ _ us hl => match us, hl with | [_, _], _ => rfl⟩
  · obtain ⟨a, d, dx, fs, st, rfl, _⟩ := h
    rfl
  · obtain ⟨a, d, dx, fs, st, rfl, ha, hd, hok, hdf, hl, fin⟩ := h
    have nd := sc_Field__set_options.nd
    have hu := hu_of hr
    have hda : d ≠ a := ne_of hd ha (by intro z; cases z)
    refine ⟨_, pss_cons (ps_lock (ps_for PassesOwn.never rfl (pi_keys (pv 1)) (pg_name (i := 2) nd rfl (.inl rfl)) (pss_one (ps_expr (pe_can CO hr pass0 (pa_cons (pe_glob rfl T.g_FIELD_OPTIONS (v := .ref (ga K "FIELD_OPTIONS")) rfl) (pa_cons (pv 2) (pa_cons (pe_dget hu (pv 1) (pv 2) (fun _ _ => rfl)) pa_nil))))))))
      (pss_cons (ps_fld (pv 0) (pe_cmp (pc_din hu pe_str (pv 1))) rfl)
      (pss_cons (ps_fld (pv 0) (pe_dget1 hu (pv 1) pe_str ⟨rfl, rfl, rfl, rfl⟩) rfl)
      (pss_cons (ps_fld (pv 0) (pe_cmp (pc_din hu pe_str (pv 1))) rfl)
      (pss_cons (ps_fld (pv 0) (pe_dget1 hu (pv 1) pe_str ⟨rfl, rfl, rfl, rfl⟩) rfl)
      (pss_cons (ps_fld (pv 0) (pe_dget2 hu (pv 1) pe_str pe_bl ⟨rfl, rfl, rfl, rfl⟩) rfl)
      (pss_cons (ps_fld (pv 0) (pe_dget2 hu (pv 1) pe_str pe_bl ⟨rfl, rfl, rfl, rfl⟩) rfl)
      (pss_cons (ps_fld (pv 0) (pe_dget2 hu (pv 1) pe_str pe_bl ⟨rfl, rfl, rfl, rfl⟩) rfl)
      (pss_cons (ps_fld (pv 0) (pe_dget1 hu (pv 1) pe_str ⟨rfl, rfl, rfl, rfl⟩) rfl)
      (pss_cons (ps_fld (pv 0) (pe_dget1 hu (pv 1) pe_str ⟨rfl, rfl, rfl, rfl⟩) rfl)
      (pss_cons (ps_if (PW.pt (pw_and (pt_val (pe_fld (pv 0) rfl)) (pw_and1 (pt_val (pe_fld (pv 0) rfl))))) (pss_one ps_never) pss_nil)
      (pss_one (ps_if (PW.pt (pw_and (pt_cmpR op_isNB (pe_fld (pv 0) rfl) pe_bl (nomark _)) (pw_and1 (pt_not (pt_val (pe_fld (pv 0) rfl)))))) (pss_one ps_never) pss_nil)))))))))))), ?_⟩
    refine q_keys (i := 1) (j := 2) rfl hd (fun n σ' H' => (∃ v, σ' = [some (.ref a), some (.ref d), v]) ∧ Ex (del H d) H') (fun od => ⟨⟨_, rfl⟩, ex_lock hd⟩) ?_ (fun od σ' H' hw hz => ?_)
    · rintro od n k v σ' H' hk ⟨⟨v2, rfl⟩, e⟩ hz
      obtain ⟨s0, rfl, hm, hA0⟩ := hok.opt k v (List.mem_of_getElem? hk)
      obtain ⟨v', hv', hmem⟩ := mem_val (List.mem_of_getElem? hk)
      obtain ⟨s1, es, _, hA⟩ := hok.opt _ v' hmem
      obtain rfl : s0 = s1 := Sum.inr.inj es
      refine s_drop (v := .non) (ev_call (vs := [.ref (ga K "FIELD_OPTIONS"), .str s0, v']) (ea_cons ev_c (ea_cons (ev_var rfl) (ea_cons (ev_dat (ev_var rfl) (ev_var rfl) (.inr ⟨od, hz⟩) hv') ea_nil))) fun H2 e2 Q q E => ⟨_, fieldOpts, s0, v', rfl, T.fieldOpts H2, hm, hA, fun z => by subst z; exact ((hdf v' hv').del hd).ex (e.trans e2), fun H3 e3 => q H3 e3⟩) fun H3 e3 => ?_
      exact ⟨⟨⟨_, rfl⟩, e.trans e3⟩, e3 _ _ hz⟩
    obtain ⟨⟨v2, rfl⟩, e⟩ := hw
    have e1 : Ex H (upd H' d (.dK st)) := ex_unlock hd e
    generalize upd H' d (.dK st) = H1 at e1
    have a1 := e1 _ _ ha
    have d1 := e1 _ _ hd
    have r1 : FrB a H H1 := fun b u hb _ => e1 _ _ hb

    refine q_putV (ev_din ev_c (ev_var rfl) (.inl (r1 _ _ hd hda))) (fun _ _ => ev_var rfl) a1 T.cF_cls T.cF_a_has_default (by have := puts_len (ps := (fldAttrs st).take 0) (fs := fs); simp [fldAttrs, puts] at this ⊢; omega) fun H2 a2 f2 => ?_
    have r2 : FrB a H H2 := FrB.trans r1 f2
    refine q_putV (ev_dget1 (ev_var rfl) ev_c (.inl (r2 _ _ hd hda))) (fun _ _ => ev_var rfl) a2 T.cF_cls T.cF_a_default (by have := puts_len (ps := (fldAttrs st).take 1) (fs := fs); simp [fldAttrs, puts] at this ⊢; omega) fun H3 a3 f3 => ?_
    have r3 : FrB a H H3 := FrB.trans r2 f3
    refine q_putV (ev_din ev_c (ev_var rfl) (.inl (r3 _ _ hd hda))) (fun _ _ => ev_var rfl) a3 T.cF_cls T.cF_a_has_factory (by have := puts_len (ps := (fldAttrs st).take 2) (fs := fs); simp [fldAttrs, puts] at this ⊢; omega) fun H4 a4 f4 => ?_
    have r4 : FrB a H H4 := FrB.trans r3 f4
    refine q_putV (ev_dget1 (ev_var rfl) ev_c (.inl (r4 _ _ hd hda))) (fun _ _ => ev_var rfl) a4 T.cF_cls T.cF_a_factory (by have := puts_len (ps := (fldAttrs st).take 3) (fs := fs); simp [fldAttrs, puts] at this ⊢; omega) fun H5 a5 f5 => ?_
    have r5 : FrB a H H5 := FrB.trans r4 f5
    refine q_putV (ev_dget2 (ev_var rfl) ev_c ev_c (.inl (r5 _ _ hd hda))) (fun _ _ => ev_var rfl) a5 T.cF_cls T.cF_a_init (by have := puts_len (ps := (fldAttrs st).take 4) (fs := fs); simp [fldAttrs, puts] at this ⊢; omega) fun H6 a6 f6 => ?_
    have r6 : FrB a H H6 := FrB.trans r5 f6
    refine q_putV (ev_dget2 (ev_var rfl) ev_c ev_c (.inl (r6 _ _ hd hda))) (fun _ _ => ev_var rfl) a6 T.cF_cls T.cF_a_compare (by have := puts_len (ps := (fldAttrs st).take 5) (fs := fs); simp [fldAttrs, puts] at this ⊢; omega) fun H7 a7 f7 => ?_
    have r7 : FrB a H H7 := FrB.trans r6 f7
    refine q_putV (ev_dget2 (ev_var rfl) ev_c ev_c (.inl (r7 _ _ hd hda))) (fun _ _ => ev_var rfl) a7 T.cF_cls T.cF_a_show (by have := puts_len (ps := (fldAttrs st).take 6) (fs := fs); simp [fldAttrs, puts] at this ⊢; omega) fun H8 a8 f8 => ?_
    have r8 : FrB a H H8 := FrB.trans r7 f8
    refine q_putV (ev_dget1 (ev_var rfl) ev_c (.inl (r8 _ _ hd hda))) (fun _ _ => ev_var rfl) a8 T.cF_cls T.cF_a_key (by have := puts_len (ps := (fldAttrs st).take 7) (fs := fs); simp [fldAttrs, puts] at this ⊢; omega) fun H9 a9 f9 => ?_
    have r9 : FrB a H H9 := FrB.trans r8 f9
    refine q_putV (ev_dget1 (ev_var rfl) ev_c (.inl (r9 _ _ hd hda))) (fun _ _ => ev_var rfl) a9 T.cF_cls T.cF_a_only_named (by have := puts_len (ps := (fldAttrs st).take 8) (fs := fs); simp [fldAttrs, puts] at this ⊢; omega) fun H10 a10 f10 => ?_
    have r10 : FrB a H H10 := FrB.trans r9 f10
    change H10 a = some (.ins (kF K) dx (puts (fldAttrs st) fs)) at a10
    have own : ∀ p, p ∈ fldAttrs st → (puts (fldAttrs st) fs).lookup p.1 = some p.2 := puts_own (fld_nd st)
    have l1 := own ("has_default", _) (List.mem_cons_self ..)
    have l2 := own ("has_factory", _) (List.mem_cons_of_mem _ (List.mem_cons_of_mem _ (List.mem_cons_self ..)))
    have l3 := own ("key", oget st "key" .non) (by simp [fldAttrs])
    have l4 := own ("compare", oget st "compare" (.bl true)) (by simp [fldAttrs])
    obtain ⟨bc, hbc⟩ := hok.opt.bool (s := "compare") (d := true) (by decide +kernel) (by decide +kernel) (by decide +kernel) (by decide +kernel)
    rw [hbc] at l4
    refine q_when (b := false) (et_is (et_and (et_B (ev_fld (ev_var rfl) a10 T.cF_cls T.cF_a_has_default l1)) fun _ => et_B (ev_fld (ev_var rfl) a10 T.cF_cls T.cF_a_has_factory l2)) hok.both) (fun h => by cases h) fun _ H11 e11 => ?_
    have a11 := e11 _ _ a10
    refine s_when (b := false) (et_is (et_and (b := !bc) (et_test (ev_op (ev_fld (ev_var rfl) a11 T.cF_cls T.cF_a_key l3) ev_c (rv_isNB (b := true) (hok.opt.flag (by decide +kernel) (by decide +kernel))))) fun _ => et_not (et_B (ev_fld (ev_var rfl) a11 T.cF_cls T.cF_a_compare l4))) ?_) (fun h => by cases h) fun _ H12 e12 => ?_
    · by_cases q : oget st "key" .non = .bl true
      · have := hok.key q
        rw [hbc] at this
        obtain rfl : bc = true := by injection this
        simp
      · simp [q]
    · exact fin H12 (e12 _ _ a11) (FrB.ex (FrB.ex r10 e11) e12)
theorem can_iset (T : Txt K mg) : ∃ fd, FnOk P w K mg base CX0 8 (ma K (kI K) "_set_options") fd ["self", "options"] (spISet K) ∧ Binds K fd ["self", "options"] [] := by
  obtain ⟨fd, F⟩ := T.F_InitOnly__set_options
  have CO : Can P w K mg base CX0 7 "_check_option" ["known", "option", "value"] (spChkOpt K) := can_chkOpt T
  refine ⟨fd, F.ok sc_InitOnly__set_options (fun vs H Q E h => ?_) (fun cdv A outer s H vs Q E hr h => ?_), F.binds (ps := ["self", "options"]) fun _ _ _ _ _ _ us hl => match us, hl with | [_, _], _ => rfl⟩
  · obtain ⟨a, d, dx, fs, st, rfl, _⟩ := h
    rfl
  · obtain ⟨a, d, dx, fs, st, rfl, ha, hd, hok, hdf, hl, fin⟩ := h
    have nd := sc_InitOnly__set_options.nd
    have hu := hu_of hr
    have hda : d ≠ a := ne_of hd ha (by intro z; cases z)
    refine ⟨_, pss_cons (ps_lock (ps_for PassesOwn.never rfl (pi_keys (pv 1)) (pg_name (i := 2) nd rfl (.inl rfl)) (pss_one (ps_expr (pe_can CO hr pass0 (pa_cons (pe_glob rfl T.g_INIT_ONLY_OPTIONS (v := .ref (ga K "INIT_ONLY_OPTIONS")) rfl) (pa_cons (pv 2) (pa_cons (pe_dget hu (pv 1) (pv 2) (fun _ _ => rfl)) pa_nil))))))))
      (pss_cons (ps_fld (pv 0) (pe_cmp (pc_din hu pe_str (pv 1))) rfl)
      (pss_cons (ps_fld (pv 0) (pe_dget1 hu (pv 1) pe_str ⟨rfl, rfl, rfl, rfl⟩) rfl)
      (pss_cons (ps_fld (pv 0) pe_bl rfl)
      (pss_one (ps_fld (pv 0) (pe_dget1 hu (pv 1) pe_str ⟨rfl, rfl, rfl, rfl⟩) rfl))))), ?_⟩
    refine q_keys (i := 1) (j := 2) rfl hd (fun n σ' H' => (∃ v, σ' = [some (.ref a), some (.ref d), v]) ∧ Ex (del H d) H') (fun od => ⟨⟨_, rfl⟩, ex_lock hd⟩) ?_ (fun od σ' H' hw hz => ?_)
    · rintro od n k v σ' H' hk ⟨⟨v2, rfl⟩, e⟩ hz
      obtain ⟨s0, rfl, hm, hA0⟩ := hok k v (List.mem_of_getElem? hk)
      obtain ⟨v', hv', hmem⟩ := mem_val (List.mem_of_getElem? hk)
      obtain ⟨s1, es, _, hA⟩ := hok _ v' hmem
      obtain rfl : s0 = s1 := Sum.inr.inj es
      refine s_drop (v := .non) (ev_call (vs := [.ref (ga K "INIT_ONLY_OPTIONS"), .str s0, v']) (ea_cons ev_c (ea_cons (ev_var rfl) (ea_cons (ev_dat (ev_var rfl) (ev_var rfl) (.inr ⟨od, hz⟩) hv') ea_nil))) fun H2 e2 Q q E => ⟨_, initOpts, s0, v', rfl, T.initOpts H2, hm, hA, fun z => by subst z; exact ((hdf v' hv').del hd).ex (e.trans e2), fun H3 e3 => q H3 e3⟩) fun H3 e3 => ?_
      exact ⟨⟨⟨_, rfl⟩, e.trans e3⟩, e3 _ _ hz⟩
    obtain ⟨⟨v2, rfl⟩, e⟩ := hw
    have e1 : Ex H (upd H' d (.dK st)) := ex_unlock hd e
    generalize upd H' d (.dK st) = H1 at e1
    have a1 := e1 _ _ ha
    have d1 := e1 _ _ hd
    have r1 : FrB a H H1 := fun b u hb _ => e1 _ _ hb

    refine q_putV (ev_din ev_c (ev_var rfl) (.inl (r1 _ _ hd hda))) (fun _ _ => ev_var rfl) a1 T.cI_cls T.cI_a_has_default (by have := puts_len (ps := (iniAttrs st).take 0) (fs := fs); simp [iniAttrs, puts] at this ⊢; omega) fun H2 a2 f2 => ?_
    have r2 : FrB a H H2 := FrB.trans r1 f2
    refine q_putV (ev_dget1 (ev_var rfl) ev_c (.inl (r2 _ _ hd hda))) (fun _ _ => ev_var rfl) a2 T.cI_cls T.cI_a_default (by have := puts_len (ps := (iniAttrs st).take 1) (fs := fs); simp [iniAttrs, puts] at this ⊢; omega) fun H3 a3 f3 => ?_
    have r3 : FrB a H H3 := FrB.trans r2 f3
    refine q_putV (ev_c) (fun _ _ => ev_var rfl) a3 T.cI_cls T.cI_a_has_factory (by have := puts_len (ps := (iniAttrs st).take 2) (fs := fs); simp [iniAttrs, puts] at this ⊢; omega) fun H4 a4 f4 => ?_
    have r4 : FrB a H H4 := FrB.trans r3 f4
    refine s_putV (ev_dget1 (ev_var rfl) ev_c (.inl (r4 _ _ hd hda))) (fun _ _ => ev_var rfl) a4 T.cI_cls T.cI_a_only_named (by have := puts_len (ps := (iniAttrs st).take 3) (fs := fs); simp [iniAttrs, puts] at this ⊢; omega) fun H5 a5 f5 => ?_
    have r5 : FrB a H H5 := FrB.trans r4 f5
    exact fin H5 a5 r5
end
end K17
end

section
set_option Elab.async false
set_option linter.all false
set_option maxRecDepth 100000
set_option maxHeartbeats 2000000
/-! how defs that close over their class's cell bind: plainly, and with a **d that nothing is left for -/
namespace SuC
open PySem PySem.Spec PyProof.Rows L2 StX
section
variable {CX : CXT} {P : Program} {w : World} {K : PySem.W.Frag} {mg : Str → Option Value} {base : Heap} {fd : FuncData} {args : Args} {ps : List Str} {us : List Value} {vs : List V} {A : Around} {outer : List Env} {s : Shared} {H : Hp} {E : XK} {pd : Str}
theorem bnd_plain (e0 : Env0 P w K mg base A outer s H) (r : Vals vs us) (hl : vs.length = ps.length) (h : bindArgs fd args = pure (ps.zip us)) : Bnd CX P w K mg base fd args ps A outer s H E (fun xs H2 => xs = vs ∧ H2 = H) := fun A' Ex Q k => by
  rw [h]
  exact wpAny_pure (k s H vs us e0 Un.refl rfl (fun _ _ z => z) r hl ⟨rfl, rfl⟩)
theorem bnd_dict (hCX : CXUp CX) (e0 : Env0 P w K mg base A outer s H) (r : Vals vs us) (hl : vs.length = ps.length) (h : bindArgs fd args = ((alloc ({ cls := .type "dict", data := .dict #[] } : Obj) : Sem Addr) >>= fun d => pure (ps.zip us ++ [(pd, Value.ref d)]))) :
    Bnd CX P w K mg base fd args (ps ++ [pd]) A outer s H E (fun xs H2 => ∃ d, H d = Option.none ∧ xs = vs ++ [V.ref d] ∧ H2 = upd H d (.dK [])) := fun A' Ex Q k => by
  rw [h]
  have hn : H s.heap.objs.size = Option.none := e0.hok.fresh (Nat.le_refl _)
  have e1 := env0_laid (u := .dK []) (o := ({ cls := .type "dict", data := .dict #[] } : Obj)) e0 (dk_empty _ (env0_big e0))
  have un1 := un_laid (fs := frs outer) (s := s) (o := ({ cls := .type "dict", data := .dict #[] } : Obj)) (u := .dK []) hn
  have hl1 : us.length = ps.length := by rw [← r.length]; exact hl
  refine wpAny_bind (wpAny_alloc (wpAny_pure ?_))
  have z := k _ _ (vs ++ [V.ref s.heap.objs.size]) (us ++ [Value.ref s.heap.objs.size]) e1 un1 rfl
    (fun e s' => hCX outer s H _ _ E e s' un1 (fun b o q => Heap.get?_push_of_some _ q) rfl) (r.append (.cons rfl .nil)) (by rw [List.length_append, List.length_append, hl] <;> rfl) ⟨_, hn, rfl, rfl⟩
  rw [List.zip_append hl1.symm] at z
  exact z
end
end SuC
end

section
set_option Elab.async false
set_option linter.all false
set_option maxRecDepth 100000
set_option maxHeartbeats 4000000
namespace K17
open PySem PySem.Spec PyProof.Rows L2 He Cn Evl
theorem vals1' {v : V} {us : List Value} (r : Vals [v] us) : ∃ u, us = [u] ∧ RelV v u := by
  cases r with
  | cons a t => cases t; exact ⟨_, rfl, a⟩
theorem vals3' {v1 v2 v3 : V} {us : List Value} (r : Vals [v1, v2, v3] us) : ∃ a b c, us = [a, b, c] ∧ RelV v1 a ∧ RelV v2 b ∧ RelV v3 c := by
  cases r with
  | cons a t => cases t with
    | cons b t => cases t with
      | cons c t => cases t; exact ⟨_, _, _, rfl, a, b, c⟩
theorem vals2' {v1 v2 : V} {us : List Value} (r : Vals [v1, v2] us) : ∃ a b, us = [a, b] ∧ RelV v1 a ∧ RelV v2 b := by
  cases r with
  | cons a t => cases t with
    | cons b t => cases t; exact ⟨_, _, rfl, a, b⟩
theorem dfl_nil {K : PySem.W.Frag} {dV : Value} (h : DflV K dV []) : dV = .none := by
  rcases h with ⟨_, q⟩ | ⟨q, _⟩
  · exact q
  · exact absurd rfl q
section
variable {P : Program} {w : World} {K : PySem.W.Frag} {mg : Str → Option Value} {base : Heap}
/-! ### Shared, Method -/
def spShr (C : Addr) (at_ : Str) : Sp := fun vs H Q _ => ∃ (a dx : Addr) (z : Str) (v : V), vs = [.ref a, .str z, v] ∧ goodName z = true ∧ H a = some (.ins C dx []) ∧ ∀ H', H' a = some (.ins C dx (putF at_ v (putF "name" (.str z) []))) → FrB a H H' → Q .non H'
theorem fnr_method (T : Txt K mg) (hP : ProgOk P) : FnR P w K mg base CX0 3 (ma K (kM K) "__init__") (spShr (kM K) "function") := by
  have D := T.s_Method P hP.file
  obtain ⟨oc, od, dV, kV, doc, pm, an, cdv, ct, osl, cc, lk, hcd, hD, hK, SK⟩ := D.ex
  have FM := fnr_member (P := P) (w := w) (base := base) T
  obtain rfl := dfl_nil hD
  intro A outer s H us vs Q E hr e0 rv h
  obtain ⟨a, dx, z, v, rfl, hz, ha, fin⟩ := h
  obtain ⟨u1, u2, u3, rfl, r1, r2, r3⟩ := vals3' rv
  obtain ⟨cl, cld, csl, hcc⟩ := SK.cell
  refine SuC.run_bndS lk hcd sc_Method_init hcc hr e0 (SuC.bnd_plain e0 rv rfl rfl) fun s2 H2 xs g hr' s1 I => ?_
  obtain ⟨rfl, rfl⟩ := g
  refine SuC.sup_init lk sc_Method_init SK T.n_super rfl rfl rfl rfl rfl hP.top FM hr' pass0 (pa_cons (pv 1) pa_nil) (pss_one (ps_fld (pv 0) (pv 2) rfl)) D.mro D.sup I rfl ha fun q hq => ?_
  refine ⟨_, rfl, by rw [upd_same], ?_⟩
  have hqa : a ≠ q := ne_of_none ha hq
  refine ⟨kM K, a, dx, z, [], rfl, hz, by rw [upd_ne hqa]; exact ha, T.cM_cls, T.cM_a_name, by decide, fun H3 a3 f3 => ?_⟩
  refine s_putV (v := v) (ev_var rfl) (fun _ _ => ev_var rfl) a3 T.cM_cls T.cM_a_function (by have := length_putF "name" (.str z) []; simp at this ⊢; omega) fun H4 a4 f4 => ?_
  exact fin H4 a4 fun b u hb hba => f4 b u (f3 b u (by rw [upd_ne (ne_of_none hb hq)]; exact hb) hba) hba
/-! ### Field(name), InitOnly(name) -/
def spData1 (C : Addr) (at_ : Kvs → List (Str × V)) : Sp := fun vs H Q _ => ∃ (a dx : Addr) (z : Str), vs = [.ref a, .str z] ∧ goodName z = true ∧ H a = some (.ins C dx []) ∧ ∀ H', H' a = some (.ins C dx (puts (at_ []) (putF "name" (.str z) []))) → FrB a H H' → Q .non H'
theorem fldOk_nil : FldOk [] := ⟨(fun k v h => by cases h), rfl, fun h => by cases h⟩
theorem dfOk_nil {K : PySem.W.Frag} {H : Hp} : DfOk K H [] := fun v q => by cases q
theorem fnr_field (T : Txt K mg) (hP : ProgOk P) : FnR P w K mg base CX0 9 (ma K (kF K) "__init__") (spData1 (kF K) fldAttrs) := by
  have D := T.s_Field P hP.file
  obtain ⟨oc, od, dV, kV, doc, pm, an, cdv, ct, osl, cc, lk, hcd, hD, hK, SK⟩ := D.ex
  have FM := fnr_member (P := P) (w := w) (base := base) T
  obtain ⟨fdS, FS, bS⟩ := can_fset (P := P) (w := w) (base := base) T
  obtain rfl := dfl_nil hD
  intro A outer s H us vs Q E hr e0 rv h
  obtain ⟨a, dx, z, rfl, hz, ha, fin⟩ := h
  obtain ⟨u1, u2, rfl, r1, r2⟩ := vals2' rv
  obtain ⟨cl, cld, csl, hcc⟩ := SK.cell
  refine SuC.run_bndS lk hcd sc_Field_init hcc hr e0 (SuC.bnd_dict (ps := ["self", "name"]) (pd := "options") StX.cxUp_none e0 rv rfl rfl) fun s2 H2 xs g hr' s1 I => ?_
  obtain ⟨d, hd, rfl, rfl⟩ := g
  have hda : a ≠ d := ne_of_none ha hd
  have a2 : upd H d (.dK []) a = some (.ins (kF K) dx []) := by rw [upd_ne hda]; exact ha
  refine SuC.sup_init lk sc_Field_init SK T.n_super rfl rfl rfl rfl rfl hP.top FM (hr'.mono (by decide)) pass0 (pa_cons (pv 1) pa_nil) (pss_one (ps_expr (pe_meth (pv 0) T.cF_cls T.cF_m__set_options FS hr' bS .nil pass0 (pa_cons (pv 2) pa_nil)))) D.mro D.sup I rfl a2 fun q hq => ?_
  refine ⟨_, rfl, by rw [upd_same], ?_⟩
  have hqa : a ≠ q := ne_of_none a2 hq
  have d2 : upd H d (.dK []) d = some (.dK []) := upd_same
  have hdq : d ≠ q := ne_of_none d2 hq
  refine ⟨kF K, a, dx, z, [], rfl, hz, by rw [upd_ne hqa]; exact a2, T.cF_cls, T.cF_a_name, by decide, fun H3 a3 f3 => ?_⟩
  have d3 : H3 d = some (.dK []) := f3 _ _ (by rw [upd_ne hdq]; exact d2) hda.symm
  refine ⟨_, rfl, a, dx, _, rfl, a3, rfl, _, rfl, a, d, dx, _, [], rfl, a3, d3, fldOk_nil, dfOk_nil, (by have := length_putF "name" (.str z) []; simp at this ⊢; omega), fun H4 a4 f4 => ?_⟩
  exact fin H4 a4 fun b u hb hba => f4 b u (f3 b u (by rw [upd_ne (ne_of_none (show upd H d (.dK []) b = some u by rw [upd_ne (ne_of_none hb hd)]; exact hb) hq), upd_ne (ne_of_none hb hd)]; exact hb) hba) hba
theorem fnr_initOnly (T : Txt K mg) (hP : ProgOk P) : FnR P w K mg base CX0 9 (ma K (kI K) "__init__") (spData1 (kI K) iniAttrs) := by
  have D := T.s_InitOnly P hP.file
  obtain ⟨oc, od, dV, kV, doc, pm, an, cdv, ct, osl, cc, lk, hcd, hD, hK, SK⟩ := D.ex
  have FM := fnr_member (P := P) (w := w) (base := base) T
  obtain ⟨fdS, FS, bS⟩ := can_iset (P := P) (w := w) (base := base) T
  obtain rfl := dfl_nil hD
  intro A outer s H us vs Q E hr e0 rv h
  obtain ⟨a, dx, z, rfl, hz, ha, fin⟩ := h
  obtain ⟨u1, u2, rfl, r1, r2⟩ := vals2' rv
  obtain ⟨cl, cld, csl, hcc⟩ := SK.cell
  refine SuC.run_bndS lk hcd sc_InitOnly_init hcc hr e0 (SuC.bnd_dict (ps := ["self", "name"]) (pd := "options") StX.cxUp_none e0 rv rfl rfl) fun s2 H2 xs g hr' s1 I => ?_
  obtain ⟨d, hd, rfl, rfl⟩ := g
  have hda : a ≠ d := ne_of_none ha hd
  have a2 : upd H d (.dK []) a = some (.ins (kI K) dx []) := by rw [upd_ne hda]; exact ha
  refine SuC.sup_init lk sc_InitOnly_init SK T.n_super rfl rfl rfl rfl rfl hP.top FM (hr'.mono (by decide)) pass0 (pa_cons (pv 1) pa_nil) (pss_one (ps_expr (pe_meth (pv 0) T.cI_cls T.cI_m__set_options FS hr' bS .nil pass0 (pa_cons (pv 2) pa_nil)))) D.mro D.sup I rfl a2 fun q hq => ?_
  refine ⟨_, rfl, by rw [upd_same], ?_⟩
  have hqa : a ≠ q := ne_of_none a2 hq
  have d2 : upd H d (.dK []) d = some (.dK []) := upd_same
  have hdq : d ≠ q := ne_of_none d2 hq
  refine ⟨kI K, a, dx, z, [], rfl, hz, by rw [upd_ne hqa]; exact a2, T.cI_cls, T.cI_a_name, by decide, fun H3 a3 f3 => ?_⟩
  have d3 : H3 d = some (.dK []) := f3 _ _ (by rw [upd_ne hdq]; exact d2) hda.symm
  refine ⟨_, rfl, a, dx, _, rfl, a3, rfl, _, rfl, a, d, dx, _, [], rfl, a3, d3, (fun k v h => by cases h), dfOk_nil, (by have := length_putF "name" (.str z) []; simp at this ⊢; omega), fun H4 a4 f4 => ?_⟩
  exact fin H4 a4 fun b u hb hba => f4 b u (f3 b u (by rw [upd_ne (ne_of_none (show upd H d (.dK []) b = some u by rw [upd_ne (ne_of_none hb hd)]; exact hb) hq), upd_ne (ne_of_none hb hd)]; exact hb) hba) hba
end
end K17
end

section
set_option Elab.async false
set_option linter.all false
set_option maxRecDepth 100000
set_option maxHeartbeats 4000000
namespace K17
open PySem PySem.Spec PyProof.Rows L2 He Cn Evl
/-- what is known of a member -/
inductive MemV where
  | fld (x : Str) (st : Kvs) | ini (x : Str) (st : Kvs) | mth (x : Str) (f : V)
def MemV.name : MemV → Str
  | .fld x _ => x | .ini x _ => x | .mth x _ => x
def MemV.sort : MemV → Str
  | .fld _ _ => "data" | .ini _ _ => "data" | .mth _ _ => "method"
def MemV.cls (K : PySem.W.Frag) : MemV → Addr
  | .fld _ _ => kF K | .ini _ _ => kI K | .mth _ _ => kM K
def MemV.attrs : MemV → List (Str × V)
  | .fld x st => ("name", .str x) :: fldAttrs st
  | .ini x st => ("name", .str x) :: iniAttrs st
  | .mth x f => [("name", .str x), ("function", f)]
def MemV.ok : MemV → Prop
  | .fld x st => goodName x = true ∧ FldOk st
  | .ini x st => goodName x = true ∧ OptOk initOpts st
  | .mth x _ => goodName x = true
/-- names that stand at a member's class, not at a member -/
def memNo : List Str := ["SORT", "is_parameter", "is_key"]
/-- the member stands at a -/
def MemAt (K : PySem.W.Frag) (H : Hp) (a : Addr) (mv : MemV) : Prop := mv.ok ∧ ∃ dx fs, H a = some (.ins (mv.cls K) dx fs) ∧ (∀ p, p ∈ mv.attrs → fs.lookup p.1 = some p.2) ∧ ∀ g, g ∈ memNo → fs.lookup g = none
theorem MemAt.ex {K : PySem.W.Frag} {H H' : Hp} {a : Addr} {mv : MemV} (e : Ex H H') (h : MemAt K H a mv) : MemAt K H' a mv := by
  obtain ⟨h0, dx, fs, h1, h2, h3⟩ := h
  exact ⟨h0, dx, fs, e _ _ h1, h2, h3⟩
theorem puts_no {ps : List (Str × V)} {l : List Str} (h : ps.map (·.1) = l) (hl : ∀ g, g ∈ memNo → g ∉ l) {fs : List (Str × V)} (hf : ∀ g, g ∈ memNo → fs.lookup g = none) : ∀ g, g ∈ memNo → (puts ps fs).lookup g = none := fun g hg => by
  rw [puts_other (by rw [h]; exact hl g hg)]
  exact hf g hg
theorem name_no {z : Str} : ∀ g, g ∈ memNo → (putF "name" (.str z) []).lookup g = none := fun g hg => by
  rw [lookup_putF]
  have : g ≠ "name" := by
    have : ∀ g, g ∈ memNo → g ≠ "name" := by decide +kernel
    exact this g hg
  rw [if_neg this]
  rfl
section
variable {P : Program} {w : World} {K : PySem.W.Frag} {mg : Str → Option Value} {base : Heap}
def spFOf (K : PySem.W.Frag) : Sp := fun vs H Q _ => ∃ (d : Addr) (z : Str) (st : Kvs), vs = [.ref (kF K), .str z, .ref d] ∧ goodName z = true ∧ H d = some (.dK st) ∧ FldOk st ∧ DfOk K H st ∧ ∀ a H', H a = none → MemAt K H' a (.fld z st) → Ex H H' → Q (.ref a) H'
def spIOf (K : PySem.W.Frag) : Sp := fun vs H Q _ => ∃ (d : Addr) (z : Str) (st : Kvs), vs = [.ref (kI K), .str z, .ref d] ∧ goodName z = true ∧ H d = some (.dK st) ∧ OptOk initOpts st ∧ DfOk K H st ∧ ∀ a H', H a = none → MemAt K H' a (.ini z st) → Ex H H' → Q (.ref a) H'
theorem made_ex {H H1 : Hp} {a dx C : Addr} (hna : H a = none) (hnd : H dx = none) (f1 : FrB a (upd (upd H dx (.own a)) a (.ins C dx [])) H1) : ∀ b o, H b = some o → H1 b = some o := fun b o h => by
  have hb : b ≠ a := ne_of_none h hna
  refine f1 b o ?_ hb
  rw [upd_ne hb, upd_ne (ne_of_none h hnd)]
  exact h
theorem ok_fof (T : Txt K mg) (hP : ProgOk P) : ∃ fd, FnOk P w K mg base CX0 11 (He5.wf K (kF K) "classmethod" "of") fd ["cls", "name", "options"] (spFOf K) ∧ Binds K fd ["cls", "name", "options"] [] := by
  obtain ⟨fdS, FS, bS⟩ := can_fset (P := P) (w := w) (base := base) T
  have FI := fnr_field (P := P) (w := w) (base := base) T hP
  obtain ⟨fd, F⟩ := T.F_Field_of
  refine ⟨fd, F.ok sc_Field_of (fun vs H Q E h => ?_) (fun cdv A outer s H vs Q E hr h => ?_), F.binds fun _ _ _ _ _ _ us hl => match us, hl with | [_, _, _], _ => rfl⟩
  · obtain ⟨d, z, st, rfl, _⟩ := h
    rfl
  · obtain ⟨d, z, st, rfl, hz, hd, hok, hdf, fin⟩ := h
    have nd := sc_Field_of.nd
    refine ⟨_, pss_cons (ps_set (i := 3) nd rfl (.inl rfl) (InC.pe_makeL (i := 0) T.cF_mk FI hr rfl (.inl rfl) pass0 (pa_cons (pv 1) pa_nil)))
      (pss_cons (ps_expr (pe_meth (pv 3) T.cF_cls T.cF_m__set_options FS (hr.mono (by decide)) bS .nil pass0 (pa_cons (pv 2) pa_nil)))
      (pss_one (ps_ret (pv 3)))), ?_⟩
    refine ⟨rfl, _, rfl, fun a dx hna hnd hne => ⟨a, dx, z, rfl, hz, upd_same, fun H1 a1 f1 => ⟨rfl, ?_⟩⟩⟩
    have e1 := made_ex hna hnd f1
    have hda : d ≠ a := ne_of_none hd hna
    refine ⟨_, rfl, a, dx, _, rfl, a1, rfl, _, rfl, a, d, dx, _, st, rfl, a1, e1 _ _ hd, hok, hdf.ex e1, (by have h1 := puts_len (ps := fldAttrs []) (fs := putF "name" (.str z) []); have h2 := length_putF "name" (.str z) []; have h3 : (fldAttrs []).length = 9 := rfl; simp at h2; omega), fun H2 a2 f2 => ?_⟩
    refine ⟨_, rfl, fin a H2 hna ⟨⟨hz, hok⟩, dx, _, a2, fun p hp => ?_, ?_⟩ fun b o h => f2 b o (e1 b o h) (ne_of_none h hna)⟩
    rotate_left
    · exact puts_no (l := fldNames) rfl (by decide +kernel) (puts_no (l := fldNames) rfl (by decide +kernel) name_no)
    rcases List.mem_cons.mp hp with q | q
    · subst q
      show (puts (fldAttrs st) _).lookup ("name" : Str) = _
      have n0 : ∀ st : Kvs, ("name" : Str) ∉ (fldAttrs st).map (·.1) := fun st => by
        have e : (fldAttrs st).map (·.1) = fldNames := rfl
        rw [e]
        decide +kernel
      rw [puts_other (n0 st), puts_other (n0 [])]
      exact lkEq
    · exact puts_own (fld_nd st) p q
theorem ok_iof (T : Txt K mg) (hP : ProgOk P) : ∃ fd, FnOk P w K mg base CX0 11 (He5.wf K (kI K) "classmethod" "of") fd ["cls", "name", "options"] (spIOf K) ∧ Binds K fd ["cls", "name", "options"] [] := by
  obtain ⟨fdS, FS, bS⟩ := can_iset (P := P) (w := w) (base := base) T
  have FI := fnr_initOnly (P := P) (w := w) (base := base) T hP
  obtain ⟨fd, F⟩ := T.F_InitOnly_of
  refine ⟨fd, F.ok sc_InitOnly_of (fun vs H Q E h => ?_) (fun cdv A outer s H vs Q E hr h => ?_), F.binds fun _ _ _ _ _ _ us hl => match us, hl with | [_, _, _], _ => rfl⟩
  · obtain ⟨d, z, st, rfl, _⟩ := h
    rfl
  · obtain ⟨d, z, st, rfl, hz, hd, hok, hdf, fin⟩ := h
    have nd := sc_InitOnly_of.nd
    refine ⟨_, pss_cons (ps_set (i := 3) nd rfl (.inl rfl) (InC.pe_makeL (i := 0) T.cI_mk FI hr rfl (.inl rfl) pass0 (pa_cons (pv 1) pa_nil)))
      (pss_cons (ps_expr (pe_meth (pv 3) T.cI_cls T.cI_m__set_options FS (hr.mono (by decide)) bS .nil pass0 (pa_cons (pv 2) pa_nil)))
      (pss_one (ps_ret (pv 3)))), ?_⟩
    refine ⟨rfl, _, rfl, fun a dx hna hnd hne => ⟨a, dx, z, rfl, hz, upd_same, fun H1 a1 f1 => ⟨rfl, ?_⟩⟩⟩
    have e1 := made_ex hna hnd f1
    refine ⟨_, rfl, a, dx, _, rfl, a1, rfl, _, rfl, a, d, dx, _, st, rfl, a1, e1 _ _ hd, hok, hdf.ex e1, (by have h1 := puts_len (ps := iniAttrs []) (fs := putF "name" (.str z) []); have h2 := length_putF "name" (.str z) []; have h3 : (iniAttrs []).length = 4 := rfl; simp at h2; omega), fun H2 a2 f2 => ?_⟩
    refine ⟨_, rfl, fin a H2 hna ⟨⟨hz, hok⟩, dx, _, a2, fun p hp => ?_, ?_⟩ fun b o h => f2 b o (e1 b o h) (ne_of_none h hna)⟩
    rotate_left
    · exact puts_no (l := iniNames) rfl (by decide +kernel) (puts_no (l := iniNames) rfl (by decide +kernel) name_no)
    rcases List.mem_cons.mp hp with q | q
    · subst q
      show (puts (iniAttrs st) _).lookup ("name" : Str) = _
      have n0 : ∀ st : Kvs, ("name" : Str) ∉ (iniAttrs st).map (·.1) := fun st => by
        have e : (iniAttrs st).map (·.1) = iniNames := rfl
        rw [e]
        decide +kernel
      rw [puts_other (n0 st), puts_other (n0 [])]
      exact lkEq
    · exact puts_own (ini_nd st) p q
/-! ### readings of a member -/
theorem MemAt.ko {H : Hp} {a : Addr} {mv : MemV} (h : MemAt K H a mv) : ∃ dx fs, H a = some (.ins (mv.cls K) dx fs) := by
  obtain ⟨_, dx, fs, h1, _⟩ := h
  exact ⟨dx, fs, h1⟩
theorem mem_cls (T : Txt K mg) (mv : MemV) : Cls K (mv.cls K) := by
  cases mv
  · exact T.cF_cls
  · exact T.cI_cls
  · exact T.cM_cls
theorem mem_ins (T : Txt K mg) (mv : MemV) : insB K (mv.cls K) = true := by
  cases mv
  · exact T.cF_ins
  · exact T.cI_ins
  · exact T.cM_ins
theorem mem_noat (T : Txt K mg) (mv : MemV) {p : Str × V} (hp : p ∈ mv.attrs) : NoAttr K (mv.cls K) p.1 := by
  cases mv with
  | fld x st =>
    simp only [MemV.attrs, fldAttrs, List.mem_cons, List.not_mem_nil, or_false] at hp
    rcases hp with rfl | rfl | rfl | rfl | rfl | rfl | rfl | rfl | rfl | rfl
    · exact T.cF_a_name
    · exact T.cF_a_has_default
    · exact T.cF_a_default
    · exact T.cF_a_has_factory
    · exact T.cF_a_factory
    · exact T.cF_a_init
    · exact T.cF_a_compare
    · exact T.cF_a_show
    · exact T.cF_a_key
    · exact T.cF_a_only_named
  | ini x st =>
    simp only [MemV.attrs, iniAttrs, List.mem_cons, List.not_mem_nil, or_false] at hp
    rcases hp with rfl | rfl | rfl | rfl | rfl
    · exact T.cI_a_name
    · exact T.cI_a_has_default
    · exact T.cI_a_default
    · exact T.cI_a_has_factory
    · exact T.cI_a_only_named
  | mth x f =>
    simp only [MemV.attrs, List.mem_cons, List.not_mem_nil, or_false] at hp
    rcases hp with rfl | rfl
    · exact T.cM_a_name
    · exact T.cM_a_function
theorem ev_matt (T : Txt K mg) {σ : L2.St} {H : Hp} {te : TE} {a : Addr} {mv : MemV} {f : Str} {v : V} (h : Ev te σ H (.ref a)) (hm : MemAt K H a mv) (hp : (f, v) ∈ mv.attrs) : Ev (tFld K te f) σ H v := by
  obtain ⟨_, dx, fs, h1, h2, _⟩ := hm
  exact ev_fld h h1 (mem_cls T mv) (mem_noat T mv hp) (h2 _ hp)
theorem name_att (mv : MemV) : (("name" : Str), V.str mv.name) ∈ mv.attrs := by
  cases mv <;> exact List.mem_cons_self ..
theorem ev_mname (T : Txt K mg) {σ : L2.St} {H : Hp} {te : TE} {a : Addr} {mv : MemV} (h : Ev te σ H (.ref a)) (hm : MemAt K H a mv) : Ev (tFld K te "name") σ H (.str mv.name) := ev_matt T h hm (name_att mv)
theorem ev_con {σ : L2.St} {H : Hp} {te : TE} {a C dx : Addr} {fs : List (Str × V)} {f : Str} {v : V} {u : Value} (h : Ev te σ H (.ref a)) (ha : H a = some (.ins C dx fs)) (c : Cls K C) (n : Con K C f v u) (l : fs.lookup f = none) : Ev (tCon K te f) σ H v := fun H1 e Q q =>
  h H1 e _ fun H2 e2 => ⟨a, C, dx, fs, v, u, rfl, (e.trans e2) _ _ ha, c, n, l, q H2 e2⟩
theorem mem_sort (T : Txt K mg) (mv : MemV) : ∃ u, Con K (mv.cls K) "SORT" (.str mv.sort) u := by
  cases mv
  · exact T.cF_sort
  · exact T.cI_sort
  · exact T.cM_sort
theorem ev_msort (T : Txt K mg) {σ : L2.St} {H : Hp} {te : TE} {a : Addr} {mv : MemV} (h : Ev te σ H (.ref a)) (hm : MemAt K H a mv) : Ev (tCon K te "SORT") σ H (.str mv.sort) := by
  obtain ⟨_, dx, fs, h1, _, h3⟩ := hm
  obtain ⟨u, hu⟩ := mem_sort T mv
  exact ev_con h h1 (mem_cls T mv) hu (h3 _ (List.mem_cons_self ..))
end
end K17
end

section
set_option Elab.async false
set_option linter.all false
set_option maxRecDepth 100000
set_option maxHeartbeats 4000000
namespace K17
open PySem PySem.Spec PyProof.Rows L2 He Cn Evl
section
variable {P : Program} {w : World} {K : PySem.W.Frag} {mg : Str → Option Value} {base : Heap}
theorem mem_hook (T : Txt K mg) (mv : MemV) : PySem.W.kitOne K (.ref (mv.cls K)) (.ref (ga K "Hook")) = some false := by
  cases mv
  · exact T.cF_hook
  · exact T.cI_hook
  · exact T.cM_hook
theorem mem_mem (T : Txt K mg) (mv : MemV) : PySem.W.kitOne K (.ref (mv.cls K)) (.ref (ga K "Member")) = some true := by
  cases mv
  · exact T.cF_mem
  · exact T.cI_mem
  · exact T.cM_mem
theorem ev_ishook (T : Txt K mg) {σ : L2.St} {H : Hp} {te : TE} {a : Addr} {mv : MemV} (h : Ev te σ H (.ref a)) (hm : MemAt K H a mv) : Ev (tCB (rIsi K) (tCons te (tCons (tC (.ref (ga K "Hook"))) tNil))) σ H (.bl false) := by
  obtain ⟨dx, fs, h1⟩ := hm.ko
  exact ev_isO (mem_cls T mv) (mem_ins T mv) (mem_hook T mv) h h1
/-- an item of a declaration: a member, or a hook (none) -/
abbrev Its := List (Addr × Option MemV)
def ItAt (K : PySem.W.Frag) (H : Hp) (x : Addr × Option MemV) : Prop := match x.2 with
  | some mv => MemAt K H x.1 mv
  | none => ∃ dx fs, H x.1 = some (.ins (kH K) dx fs)
theorem ItAt.ex {K : PySem.W.Frag} {H H' : Hp} {x : Addr × Option MemV} (e : Ex H H') (h : ItAt K H x) : ItAt K H' x := by
  obtain ⟨a, it⟩ := x
  cases it with
  | some mv => exact MemAt.ex e h
  | none =>
    obtain ⟨dx, fs, h⟩ := h
    exact ⟨dx, fs, e _ _ h⟩
def nmI : Option MemV → V
  | some mv => .str mv.name
  | none => .non
theorem ev_isHk (T : Txt K mg) {σ : L2.St} {H : Hp} {te : TE} {a : Addr} {it : Option MemV} (h : Ev te σ H (.ref a)) (hm : ItAt K H (a, it)) : Ev (tCB (rIsi K) (tCons te (tCons (tC (.ref (ga K "Hook"))) tNil))) σ H (.bl it.isNone) := by
  cases it with
  | some mv => exact ev_ishook T h hm
  | none =>
    obtain ⟨dx, fs, h1⟩ := hm
    exact ev_isO T.cH_cls T.cH_ins T.cH_hook h h1
def spNameOf (K : PySem.W.Frag) : Sp := fun vs H Q _ => ∃ (a : Addr) (it : Option MemV) (p : V), vs = [.ref a, p] ∧ ItAt K H (a, it) ∧ ∀ H', Ex H H' → Q (nmI it) H'
theorem can_nameOf (T : Txt K mg) : Can P w K mg base CX0 1 "_name_of" ["member", "place"] (spNameOf K) := by
  refine can_of T.g__name_of T.F__name_of (fun fd F => ?_) (fun _ _ _ _ _ _ us hl => match us, hl with | [_, _], _ => rfl)
  refine F.ok sc__name_of (fun vs H Q E h => ?_) (fun cdv A outer s H vs Q E hr h => ?_)
  · obtain ⟨a, it, p, rfl, _⟩ := h
    rfl
  · obtain ⟨a, it, p, rfl, hm, fin⟩ := h
    refine ⟨_, pss_cons (ps_if (pt_val (pe_callB call_isi (by rfl) T.n_isinstance (by decide +kernel) (pa_cons (pv 0) (pa_cons (pe_glob rfl T.g_Hook (v := .ref (ga K "Hook")) rfl) pa_nil)))) (pss_one (ps_ret pe_non)) pss_nil)
      (pss_cons (ps_if (pt_not (pt_val (pe_callB call_isi (by rfl) T.n_isinstance (by decide +kernel) (pa_cons (pv 0) (pa_cons (pe_glob rfl T.g_Member (v := .ref (ga K "Member")) rfl) pa_nil))))) (pss_one ps_never) pss_nil)
      (pss_one (ps_ret (pe_fld (pv 0) rfl)))), ?_⟩
    cases it with
    | none =>
      refine q_when (b := true) (et_B (ev_isHk T (ev_var rfl) hm)) (fun _ H1 e1 => ?_) (fun h => by cases h)
      exact s_ret ev_c fun H2 e2 => fin H2 (e1.trans e2)
    | some mv =>
      refine q_when (b := false) (et_B (ev_isHk T (ev_var rfl) hm)) (fun h => by cases h) fun _ H1 e1 => ?_
      have hm : MemAt K H a mv := hm
      obtain ⟨dx, fs, h1⟩ := (hm.ex e1).ko
      refine q_when (b := false) (et_not (a := true) (et_B (ev_isO (mem_cls T mv) (mem_ins T mv) (mem_mem T mv) (ev_var rfl) h1))) (fun h => by cases h) fun _ H2 e2 => ?_
      exact s_ret (ev_mname T (ev_var rfl) (hm.ex (e1.trans e2))) fun H3 e3 => fin H3 ((e1.trans e2).trans e3)
/-! ### the members of a declaration -/
abbrev Mems := List (Addr × MemV)
def MemsAt (K : PySem.W.Frag) (H : Hp) (ms : Mems) : Prop := ∀ x, x ∈ ms → MemAt K H x.1 x.2
theorem MemsAt.ex {H H' : Hp} {ms : Mems} (e : Ex H H') (h : MemsAt K H ms) : MemsAt K H' ms := fun x hx => (h x hx).ex e
def maddr (ms : Mems) : List Addr := ms.map (·.1)
def mnames (ms : Mems) : List Str := ms.map fun x => x.2.name
theorem maddr_at {ms : Mems} {i : Nat} {x : V} (h : (refs (maddr ms))[i]? = some x) : ∃ y, ms[i]? = some y ∧ x = .ref y.1 := by
  obtain ⟨q, h1, h2⟩ := refs_at h
  unfold maddr at h1
  rw [List.getElem?_map] at h1
  cases e : ms[i]? with
  | none => rw [e] at h1; cases h1
  | some y =>
    rw [e] at h1
    obtain rfl := Option.some.inj h1
    exact ⟨y, rfl, h2⟩
theorem take_succ_map {α β : Type} {l : List α} {f : α → β} {i : Nat} {y : α} (h : l[i]? = some y) : (l.take (i + 1)).map f = (l.take i).map f ++ [f y] := by
  rw [List.take_add_one, h]
  simp
theorem nodup_take {ms : Mems} (nd : (mnames ms).Nodup) {i : Nat} {y : Addr × MemV} (h : ms[i]? = some y) : y.2.name ∉ mnames (ms.take i) := fun q => by
  unfold mnames at q nd
  rw [List.map_take] at q
  obtain ⟨j, hj⟩ := List.mem_iff_getElem?.mp q
  have hji : j < i := by
    have := (List.getElem?_eq_some_iff.mp hj).1
    rw [List.length_take] at this
    omega
  rw [List.getElem?_take_of_lt hji] at hj
  have hy : (ms.map fun x => x.2.name)[i]? = some y.2.name := by rw [List.getElem?_map, h]; rfl
  have := nd_ix nd hj hy
  omega
def ItsAt (K : PySem.W.Frag) (H : Hp) (its : Its) : Prop := ∀ x, x ∈ its → ItAt K H x
theorem ItsAt.ex {H H' : Hp} {its : Its} (e : Ex H H') (h : ItsAt K H its) : ItsAt K H' its := fun x hx => (h x hx).ex e
def iaddr (its : Its) : List Addr := its.map (·.1)
def inames (its : Its) : List V := its.map fun x => nmI x.2
/-- the members, the hook -/
def msOf (its : Its) : Mems := its.filterMap fun x => x.2.map fun mv => (x.1, mv)
def hkOf (its : Its) : Option Addr := (its.find? fun x => x.2.isNone).map (·.1)
theorem iaddr_at {its : Its} {i : Nat} {x : V} (h : (refs (iaddr its))[i]? = some x) : ∃ y, its[i]? = some y ∧ x = .ref y.1 := by
  obtain ⟨q, h1, h2⟩ := refs_at h
  unfold iaddr at h1
  rw [List.getElem?_map] at h1
  cases e : its[i]? with
  | none => rw [e] at h1; cases h1
  | some y =>
    rw [e] at h1
    obtain rfl := Option.some.inj h1
    exact ⟨y, rfl, h2⟩
theorem flat_nm (its : Its) : (inames its).all flatV = true := by
  unfold inames
  rw [List.all_map]
  refine List.all_eq_true.mpr fun x _ => ?_
  obtain ⟨a, it⟩ := x
  cases it <;> rfl
theorem in_nm {it : Option MemV} {its : Its} : inV (nmI it) (inames its) = decide (nmI it ∈ inames its) := by
  induction its with
  | nil => rfl
  | cons a r ih =>
    have e : inV (nmI it) (inames (a :: r)) = (eqV (nmI a.2) (nmI it) || inV (nmI it) (inames r)) := rfl
    rw [e, ih]
    have e2 : eqV (nmI a.2) (nmI it) = decide (nmI a.2 = nmI it) := by
      cases a.2 <;> cases it <;> first | rfl | skip
      unfold nmI eqV
      rw [Bool.eq_iff_iff]
      simp
    rw [e2]
    have e3 : inames (a :: r) = nmI a.2 :: inames r := rfl
    rw [e3]
    by_cases q : nmI a.2 = nmI it
    · rw [q]; simp
    · have : ¬ nmI it = nmI a.2 := fun z => q z.symm
      simp [q, this]
theorem nodup_takeI {its : Its} (nd : (inames its).Nodup) {i : Nat} {y : Addr × Option MemV} (h : its[i]? = some y) : nmI y.2 ∉ inames (its.take i) := fun q => by
  unfold inames at q nd
  rw [List.map_take] at q
  obtain ⟨j, hj⟩ := List.mem_iff_getElem?.mp q
  have hji : j < i := by
    have := (List.getElem?_eq_some_iff.mp hj).1
    rw [List.length_take] at this
    omega
  rw [List.getElem?_take_of_lt hji] at hj
  have hy : (its.map fun x => nmI x.2)[i]? = some (nmI y.2) := by rw [List.getElem?_map, h]; rfl
  have hj' := List.getElem?_eq_some_iff.mp hj
  have hy' := List.getElem?_eq_some_iff.mp hy
  obtain ⟨l1, g1⟩ := hj'
  obtain ⟨l2, g2⟩ := hy'
  have := (List.getElem_inj nd).mp (g1.trans g2.symm)
  omega
def spChkMembers (K : PySem.W.Frag) : Sp := fun vs H Q _ => ∃ (m : Addr) (ms : Its), vs = [.ref m] ∧ SqT K H m (refs (iaddr ms)) ∧ ItsAt K H ms ∧ (inames ms).Nodup ∧ ms.length ≤ 100 ∧ ∀ H', Ex H H' → Q .non H'
theorem can_chkMembers (T : Txt K mg) : Can P w K mg base CX0 2 "check_members" ["members"] (spChkMembers K) := by
  have CN : Can P w K mg base CX0 1 "_name_of" ["member", "place"] (spNameOf K) := can_nameOf T
  refine can_of T.g_check_members T.F_check_members (fun fd F => ?_) (fun _ _ _ _ _ _ us hl => match us, hl with | [_], _ => rfl)
  refine F.ok sc_check_members (fun vs H Q E h => ?_) (fun cdv A outer s H vs Q E hr h => ?_)
  · obtain ⟨m, ms, rfl, _⟩ := h
    rfl
  · obtain ⟨m, ms, rfl, hm, hms, ndm, hl, fin⟩ := h
    have nd := sc_check_members.nd
    refine ⟨_, pss_cons (ps_if (pt_not (pt_val (pe_callB call_isi (by rfl) T.n_isinstance (by decide +kernel) (pa_cons (pv 0) (pa_cons (pe_bltn rfl T.n_tuple (v := .ty "tuple") (by decide +kernel) rfl) pa_nil))))) (pss_one ps_never) pss_nil)
      (pss_cons (ps_set (i := 1) nd rfl (.inl rfl) (pe_lst pa_nil))
      (pss_one (ps_for PassesOwn.never rfl (pi_enumT (by rfl) T.n_enumerate (pa_cons (pv 0) pa_nil)) (pg_tup rfl (pgs_cons (pg_name (i := 2) nd rfl (.inl rfl)) (pgs_cons (pg_name (i := 3) nd rfl (.inl rfl)) pgs_nil)))
        (pss_cons (ps_set (i := 4) nd rfl (.inl rfl) (pe_can CN hr pass0 (pa_cons (pv 3) (pa_cons (pv 2) pa_nil))))
        (pss_cons (ps_if (pt_cmpR op_in_seq (pv 4) (pv 1) rfl) (pss_one ps_never) pss_nil)
        (pss_one (ps_expr (pe_bm PySem.F.plainAttrs_list PySem.F.slot_list_append PySem.F.type_list_append mt_append (pv 1) (pa_cons (pv 4) pa_nil))))))))), ?_⟩
    refine q_when (et_not (a := true) (et_B (ev_isT (ev_var rfl) hm))) (fun h => by cases h) fun _ H1 e1 => ?_
    refine q_asgL (el_lst ea_nil (by decide)) fun p H2 hp e2 h2 => ?_
    have hpH : H p = none := fresh_back e1 hp
    have lr : (refs (iaddr ms)).length = ms.length := by unfold refs iaddr; rw [List.length_map, List.length_map]
    refine ⟨_, rfl, m, refs (iaddr ms), rfl, ex_t (e1.trans e2) hm, for_it walk_enumT (fun i σ' H' => ∃ v2 v3 v4, σ' = [some (.ref m), some (.ref p), v2, v3, v4] ∧ Ex H H' ∧ H' p = some (.lst (inames (ms.take i)))) ⟨_, _, _, rfl, e1.trans e2, h2⟩ (fun i σ' H' _ ⟨_, _, _, _, q, _⟩ => ex_t q hm) ?_ (fun σ' H' ⟨_, _, _, _, q, _⟩ => fin H' q)⟩
    rintro i x σ' H3 H4 hi ⟨v2, v3, v4, rfl, e3, h3⟩ ⟨Tp, y, z, rfl, hT, rfl, hy, hz2⟩
    obtain rfl := Option.some.inj hy
    obtain ⟨mm, ha, rfl⟩ := iaddr_at hz2
    have hpT : p ≠ Tp := ne_of_none h3 hT
    have e4 : Ex H (upd H3 Tp (.tup [.int (i : Nat), .ref mm.1])) := e3.trans (Ex.new hT)
    have h4 : upd H3 Tp (.tup [.int (i : Nat), .ref mm.1]) p = some (.lst (inames (ms.take i))) := by rw [upd_ne hpT]; exact h3
    have ham := List.mem_of_getElem? ha
    have hil := (List.getElem?_eq_some_iff.mp ha).1
    refine ⟨Tp, _, rfl, st_of upd_same, rfl, _, _, rfl, _, _, rfl, rfl, ?_⟩
    refine q_asg (v := nmI mm.2) (ev_call (vs := [.ref mm.1, .int (i : Nat)]) (ea_cons (ev_var rfl) (ea_cons (ev_var rfl) ea_nil)) fun H5 e Q q E => ⟨mm.1, mm.2, _, rfl, (hms mm ham).ex (e4.trans e), fun H6 e6 => q H6 e6⟩) fun H5 e5 => ?_
    refine q_when (b := false) (et_is (et_test (ev_op (ev_var rfl) (ev_var rfl) (rv_isL (sq_of (e5 _ _ h4)) (by cases mm.2 <;> rfl) (flat_nm _)))) (by rw [in_nm]; exact decide_eq_false (nodup_takeI ndm ha))) (fun h => by cases h) fun _ H6 e6 => ?_
    have e46 := (e4.trans e5).trans e6
    refine s_app (e6 _ _ (e5 _ _ h4)) (ev_var rfl) (ev_var rfl) (by unfold inames; rw [List.length_map, List.length_take]; omega) fun H7 e7 => ?_
    refine ⟨_, _, _, rfl, Ex.mut (e46.trans e7) hpH, ?_⟩
    rw [upd_same]
    unfold inames
    rw [take_succ_map ha]
    all_goals rfl
/-! ### the options of a declaration -/
def KOptOk (st : Kvs) : Prop := ∀ k v, (k, v) ∈ st → ∃ (s : Str) (b : Bool), k = .inr s ∧ s ∈ kindOpts ∧ v = .bl b
theorem KOptOk.bool {st : Kvs} (h : KOptOk st) (s : Str) (d : Bool) : ∃ b : Bool, oget st s (.bl d) = .bl b := by
  unfold oget
  cases q : valV st (.inr s) with
  | none => exact ⟨d, rfl⟩
  | some v =>
    obtain ⟨s', b, e, _, hv⟩ := h _ _ (val_mem q)
    exact ⟨b, hv⟩
def spChkOptions : Sp := fun vs H Q _ => ∃ (d : Addr) (st : Kvs), vs = [.ref d] ∧ H d = some (.dK st) ∧ KOptOk st ∧ ∀ H', Ex H H' → Q .non H'
theorem can_chkOptions (T : Txt K mg) : Can P w K mg base CX0 1 "check_options" ["options"] spChkOptions := by
  refine can_of T.g_check_options T.F_check_options (fun fd F => ?_) (fun _ _ _ _ _ _ us hl => match us, hl with | [_], _ => rfl)
  refine F.ok sc_check_options (fun vs H Q E h => ?_) (fun cdv A outer s H vs Q E hr h => ?_)
  · obtain ⟨m, st, rfl, _⟩ := h
    rfl
  · obtain ⟨d, st, rfl, hd, hok, fin⟩ := h
    have nd := sc_check_options.nd
    have hu := hu_of hr
    refine ⟨_, pss_one (ps_lock (ps_for PassesOwn.never rfl (pi_keys (pv 0)) (pg_name (i := 1) nd rfl (.inl rfl))
      (pss_cons (ps_if (pt_cmpR op_notIn_seq (pv 1) (pe_glob rfl T.g_KIND_OPTIONS (v := .ref (ga K "KIND_OPTIONS")) rfl) rfl) (pss_one ps_never) pss_nil)
      (pss_one (ps_if (pt_not (pt_val (pe_callB call_isi (by rfl) T.n_isinstance (by decide +kernel) (pa_cons (pe_dget hu (pv 0) (pv 1) (fun _ _ => rfl)) (pa_cons (pe_bltn rfl T.n_bool (v := .ty "bool") (by decide +kernel) rfl) pa_nil))))) (pss_one ps_never) pss_nil))))), ?_⟩
    refine s_keys (i := 0) (j := 1) rfl hd (fun n σ' H' => (∃ v, σ' = [some (.ref d), v]) ∧ Ex (del H d) H') (fun od => ⟨⟨_, rfl⟩, ex_lock hd⟩) ?_ (fun od σ' H' hw hz => fin _ (ex_unlock hd hw.2))
    rintro od n k v σ' H' hk ⟨⟨v2, rfl⟩, e⟩ hz
    obtain ⟨s0, b0, rfl, hm, _⟩ := hok k v (List.mem_of_getElem? hk)
    obtain ⟨v', hv', hmem⟩ := mem_val (List.mem_of_getElem? hk)
    obtain ⟨s1, b, _, _, rfl⟩ := hok _ v' hmem
    refine q_when (b := false) (et_is (et_test (ev_op (x := .str s0) (ev_var rfl) ev_c (rv_niT (T.kindOpts H') rfl (flat_strs kindOpts)))) (by rw [in_strs]; simp [hm])) (fun h => by cases h) fun _ H1 e1 => ?_
    refine s_when (b := false) (et_not (a := true) (et_B (ev_cb (ea_cons (ev_dat (v := .bl b) (ev_var rfl) (ev_var rfl) (.inr ⟨od, e1 _ _ hz⟩) hv') (ea_cons ev_c ea_nil)) fun H5 e Q q => ⟨.bl b, .ty "bool", .type "bool", .type "bool", true, rfl, .ty _, .base (.bl b), kit_ty (by decide +kernel), q H5 (Ex.refl H5)⟩))) (fun h => by cases h) fun _ H2 e2 => ?_
    exact ⟨⟨⟨_, rfl⟩, (e.trans e1).trans e2⟩, e2 _ _ (e1 _ _ hz)⟩
end
end K17
end

section
set_option Elab.async false
set_option linter.all false
set_option maxRecDepth 100000
set_option maxHeartbeats 4000000
namespace K17
open PySem PySem.Spec PyProof.Rows L2 He Cn Evl
/-- what is known of a kind -/
structure KdV where
  line : List Addr
  mems : Mems
  abv : List Addr
  nmd : Bool
  frz : Bool
/-- the kind stands at a -/
def KdAt (K : PySem.W.Frag) (H : Hp) (a : Addr) (kd : KdV) : Prop := ∃ (dx q m t : Addr) (fs : List (Str × V)), H a = some (.ins (kC K) dx fs) ∧ fs.lookup ("line" : Str) = some (.ref q) ∧ SqD K H q (refs kd.line) ∧
  fs.lookup ("own_members" : Str) = some (.ref m) ∧ SqT K H m (refs (maddr kd.mems)) ∧ MemsAt K H kd.mems ∧ kd.mems.length ≤ 100 ∧ fs.lookup ("frozen" : Str) = some (.bl kd.frz) ∧ fs.lookup ("only_named" : Str) = some (.bl kd.nmd) ∧
  fs.lookup ("above" : Str) = some (.ref t) ∧ SqT K H t (refs kd.abv) ∧ fs.lookup ("bind" : Str) = none
theorem KdAt.ex {K : PySem.W.Frag} {H H' : Hp} {a : Addr} {kd : KdV} (e : Ex H H') (h : KdAt K H a kd) : KdAt K H' a kd := by
  obtain ⟨dx, q, m, t, fs, h1, h2, h3, h4, h5, h6, h7, h8, h9, h10, h11, h12⟩ := h
  exact ⟨dx, q, m, t, fs, e _ _ h1, h2, h3.ex e, h4, ex_t e h5, h6.ex e, h7, h8, h9, h10, ex_t e h11, h12⟩
theorem KdAt.ln {K : PySem.W.Frag} {H : Hp} {a : Addr} {kd : KdV} (h : KdAt K H a kd) : LnAt K H a kd.line := by
  obtain ⟨dx, q, m, t, fs, h1, h2, h3, _⟩ := h
  exact ⟨dx, q, fs, h1, h2, h3⟩
theorem KdAt.ko {K : PySem.W.Frag} {H : Hp} {a : Addr} {kd : KdV} (h : KdAt K H a kd) : KO (kC K) H a := h.ln.ko
abbrev Ki := Addr → KdV
/-- all kinds of a list are as ki says -/
def KisAt (K : PySem.W.Frag) (H : Hp) (ki : Ki) (l : List Addr) : Prop := ∀ a, a ∈ l → KdAt K H a (ki a)
theorem KisAt.ex {K : PySem.W.Frag} {H H' : Hp} {ki : Ki} {l : List Addr} (e : Ex H H') (h : KisAt K H ki l) : KisAt K H' ki l := fun a ha => (h a ha).ex e
section
variable {P : Program} {w : World} {K : PySem.W.Frag} {mg : Str → Option Value} {base : Heap}
theorem KdAt.mems {σ : L2.St} {H : Hp} {te : TE} {a : Addr} {kd : KdV} (T : Txt K mg) (hk : KdAt K H a kd) : ∃ m, SqT K H m (refs (maddr kd.mems)) ∧ ∀ {H' : Hp} {te : TE} {σ : L2.St}, Ex H H' → Ev te σ H' (.ref a) → Ev (tFld K te "own_members") σ H' (.ref m) := by
  obtain ⟨dx, q, m, t, fs, h1, h2, h3, h4, h5, _⟩ := hk
  exact ⟨m, h5, fun e h => ev_fld h (e _ _ h1) T.cls T.a_own_members h4⟩
/-! ### one sort for a name -/
def spMixture (K : PySem.W.Frag) : Sp := fun vs H Q _ => ∃ (l : Addr) (line : List Addr) (ki : Ki) (srt : Str → Str), vs = [.ref l] ∧ SqT K H l (refs line) ∧ KisAt K H ki line ∧ (∀ a, a ∈ line → ∀ x, x ∈ (ki a).mems → x.2.sort = srt x.2.name) ∧ line.length ≤ 50 ∧ ∀ H', Ex H H' → Q .non H'
def SdOk (srt : Str → Str) (sd : Kvs) (n : Nat) : Prop := sd.length ≤ n ∧ ∀ k v, valV sd k = some v → ∃ s : Str, k = .inr s ∧ v = .str (srt s)
theorem SdOk.put {srt : Str → Str} {sd : Kvs} {n : Nat} (h : SdOk srt sd n) (s : Str) : SdOk srt (putK sd (.inr s) (.str (srt s))) (n + 1) := by
  refine ⟨Nat.le_trans (length_putK _ _ _) (Nat.succ_le_succ h.1), fun k v hv => ?_⟩
  rw [valV_put] at hv
  split at hv
  · rename_i e
    exact ⟨s, e, (Option.some.inj hv).symm⟩
  · exact h.2 k v hv
theorem SdOk.mono {srt : Str → Str} {sd : Kvs} {n m : Nat} (h : SdOk srt sd n) (hm : n ≤ m) : SdOk srt sd m := ⟨Nat.le_trans h.1 hm, h.2⟩
theorem can_mixture (T : Txt K mg) : Can P w K mg base CX0 1 "check_mixture" ["line"] (spMixture K) := by
  refine can_of T.g_check_mixture T.F_check_mixture (fun fd F => ?_) (fun _ _ _ _ _ _ us hl => match us, hl with | [_], _ => rfl)
  refine F.ok sc_check_mixture (fun vs H Q E h => ?_) (fun cdv A outer s H vs Q E hr h => ?_)
  · obtain ⟨m, line, ki, srt, rfl, _⟩ := h
    rfl
  · obtain ⟨l, line, ki, srt, rfl, hl, hk, hsrt, hz, fin⟩ := h
    have nd := sc_check_mixture.nd
    refine ⟨_, pss_cons (ps_set (i := 1) nd rfl (.inl rfl) pe_dnewK)
      (pss_one (ps_for PassesOwn.never rfl (pi_tup (pe_revT (pv 0))) (pg_name (i := 2) nd rfl (.inl rfl)) (pss_one (ps_for PassesOwn.never rfl (pi_tup (pe_fld (pv 2) rfl)) (pg_name (i := 3) nd rfl (.inl rfl))
        (pss_one (ps_if (pt_cmpR op_ne (pe_dsetd (pv 1) (pe_fld (pv 3) rfl) (pe_con (pv 3) rfl) ⟨rfl, rfl, rfl, rfl⟩) (pe_con (pv 3) rfl) (nomark _)) (pss_one ps_never) pss_nil)))))), ?_⟩
    intro d hd
    have e1 : Ex H (upd H d (.dK [])) := Ex.new hd
    refine ⟨_, rfl, l, refs line, rfl, ex_t e1 hl, fun pr hpr => ?_⟩
    have hdp : d ≠ pr := fun q => by
      rw [← q, upd_same] at hpr
      cases hpr
    have hprH : H pr = none := fresh_back e1 hpr
    generalize hG : upd H pr (.tup (refs line).reverse) = G
    have eG : Ex H G := by rw [← hG]; exact Ex.new hprH
    have hGd : G d = none := by rw [← hG, upd_ne hdp]; exact hd
    have hGp : G pr = some (.tup (refs line).reverse) := by rw [← hG, upd_same]
    have eG2 : Ex G (upd (upd H d (.dK [])) pr (.tup (refs line).reverse)) := fun b o h => by
      rw [← hG] at h
      by_cases q : b = pr
      · subst q
        rw [upd_same] at h ⊢
        exact h
      · rw [upd_ne q] at h ⊢
        rw [upd_ne (ne_of_none h hd)]
        exact h
    refine ⟨pr, rfl, ⟨_, st_of upd_same⟩, for_tup (xs := (refs line).reverse) (fun i σ' H' => (∃ v v3, σ' = [some (.ref l), some (.ref d), v, v3]) ∧ Ex G H' ∧ ∃ sd, H' d = some (.dK sd) ∧ SdOk srt sd (100 * i)) ⟨⟨_, _, rfl⟩, eG2, [], by rw [upd_ne hdp]; exact upd_same, by simp, fun k v h => by cases h⟩ (fun i σ' H' _ ⟨_, e, _⟩ => st_of (e _ _ hGp)) ?_ (fun σ' H' ⟨_, e, _⟩ => fin H' (eG.trans e))⟩
    rintro i x σ' H' hx ⟨⟨v, v3, rfl⟩, e, sd, hsd, hok⟩
    have hil := (List.getElem?_eq_some_iff.mp hx).1
    rw [List.length_reverse] at hil
    have lr : (refs line).length = line.length := by unfold refs; rw [List.length_map]
    rw [rev_refs] at hx
    obtain ⟨a, ha, rfl⟩ := refs_at hx
    have ham := List.mem_reverse.mp (List.mem_of_getElem? ha)
    have hka := (hk a ham).ex eG
    have hl7 : (ki a).mems.length ≤ 100 := by
      obtain ⟨dx, q, m, t, fs, h1, h2, h3, h4, h5, h6, h7, _⟩ := hka
      exact h7
    have hmA : MemsAt K G (ki a).mems := by
      obtain ⟨dx, q, m, t, fs, h1, h2, h3, h4, h5, h6, _⟩ := hka
      exact h6
    obtain ⟨m, hm, rd⟩ := hka.mems T (σ := []) (te := tVar 0)
    refine s_forT (rd e (ev_var rfl)) (ex_t e hm) (fun j σ2 H2 => (∃ v3, σ2 = [some (.ref l), some (.ref d), some (.ref a), v3]) ∧ Ex G H2 ∧ ∃ sd, H2 d = some (.dK sd) ∧ SdOk srt sd (100 * i + j)) (fun H2 e2 => ⟨⟨_, rfl⟩, e.trans e2, sd, e2 _ _ hsd, hok⟩) (fun j σ2 H2 _ ⟨_, e2, _⟩ => ex_t e2 hm) ?_ (fun σ2 H2 q => by
      obtain ⟨⟨v3, rfl⟩, e2, sd2, h2, hok2⟩ := q
      exact ⟨⟨_, _, rfl⟩, e2, sd2, h2, hok2.mono (by unfold refs maddr; rw [List.length_map, List.length_map]; omega)⟩)
    rintro j x σ2 H2 hx2 ⟨⟨v3', rfl⟩, e2, sd2, hsd2, hok2⟩
    obtain ⟨mm, hmm, rfl⟩ := maddr_at hx2
    have hmem := List.mem_of_getElem? hmm
    have hjl := (List.getElem?_eq_some_iff.mp hmm).1
    have hs := hsrt a ham mm hmem
    have hMA := (hmA mm hmem).ex e2
    show tIfS _ _ _ _ ([some (.ref l), some (.ref d), some (.ref a), some (.ref mm.1)] : L2.St) H2
    -- setdefault
    refine ⟨_, rfl, d, rfl, .inl ⟨sd2, .inl hsd2⟩, ?_⟩
    refine ev_mname T (ev_var rfl) hMA H2 (Ex.refl _) _ fun H3 e3 => ?_
    refine ev_msort T (ev_var rfl) (hMA.ex e3) H3 (Ex.refl _) _ fun H4 e4 => ?_
    have h4 := e4 _ _ (e3 _ _ hsd2)
    have eG4 := (e2.trans e3).trans e4
    refine ⟨sd2, .inr mm.2.name, h4, rfl, sz_lt (by have := hok2.1; omega), fun v hv => ?_, fun hv => ?_⟩
    · obtain ⟨s0, es, rfl⟩ := hok2.2 _ _ hv
      obtain rfl : mm.2.name = s0 := Sum.inr.inj es
      refine ev_msort T (ev_var rfl) ((hMA.ex e3).ex e4) H4 (Ex.refl _) _ fun H5 e5 => ?_
      refine ⟨rfl, ?_⟩
      rw [hs]
      refine ⟨_, rfl, ?_⟩
      simp only [decide_true, Bool.not_true]
      exact ⟨⟨_, rfl⟩, eG4.trans e5, sd2, e5 _ _ h4, hok2.mono (by omega)⟩
    · have eG5 : Ex G (upd H4 d (.dK (putK sd2 (.inr mm.2.name) (.str mm.2.sort)))) := Ex.mut eG4 hGd
      refine ev_msort T (ev_var rfl) ((hmA mm hmem).ex eG5) _ (Ex.refl _) _ fun H5 e5 => ?_
      refine ⟨rfl, _, rfl, ?_⟩
      simp only [decide_true, Bool.not_true]
      refine ⟨⟨_, rfl⟩, eG5.trans e5, _, e5 _ _ upd_same, ?_⟩
      rw [hs]
      exact hok2.put mm.2.name
end
end K17
end

section
set_option Elab.async false
set_option linter.all false
set_option maxRecDepth 100000
set_option maxHeartbeats 4000000
namespace K17
open PySem PySem.Spec PyProof.Rows L2 He Cn Evl
section
variable {P : Program} {w : World} {K : PySem.W.Frag} {mg : Str → Option Value} {base : Heap}
def spFrozen (K : PySem.W.Frag) : Sp := fun vs H Q _ => ∃ (l a0 : Addr) (line : List Addr) (ki : Ki), vs = [.ref l] ∧ SqT K H l (refs (a0 :: line)) ∧ KisAt K H ki (a0 :: line) ∧ (∀ a, a ∈ a0 :: line → (ki a).frz = (ki a0).frz) ∧ line.length ≤ 100 ∧ ∀ H', Ex H H' → Q .non H'
theorem can_frozen (T : Txt K mg) : Can P w K mg base CX0 1 "check_frozen" ["line"] (spFrozen K) := by
  refine can_of T.g_check_frozen T.F_check_frozen (fun fd F => ?_) (fun _ _ _ _ _ _ us hl => match us, hl with | [_], _ => rfl)
  refine F.ok sc_check_frozen (fun vs H Q E h => ?_) (fun cdv A outer s H vs Q E hr h => ?_)
  · obtain ⟨m, a0, tops, ki, rfl, _⟩ := h
    rfl
  · obtain ⟨l, a0, line, ki, rfl, hl, hpl, hfz, hz, fin⟩ := h
    have nd := sc_check_frozen.nd
    refine ⟨_, pss_one (ps_for PassesOwn.never rfl (pi_tup (pe_slice sl_tup (pv 0) (po_some pe_int) po_none)) (pg_name (i := 1) nd rfl (.inl rfl))
        (pss_one (ps_if (PW.pt (pw_and (pt_cmpR op_ne (pe_fld (pv 1) rfl) (pe_fld (pe_ix ix_tup (pv 0) pe_int (fun _ _ => rfl)) rfl) (nomark _)) (pw_and1 pt_never))) (pss_one ps_never) pss_nil))), ?_⟩
    have fz : ∀ {σ : L2.St} {H1 : Hp} {te : TE} {a : Addr}, Ex H H1 → a ∈ a0 :: line → Ev te σ H1 (.ref a) → Ev (tFld K te "frozen") σ H1 (.bl (ki a0).frz) := fun e ha h => by
      obtain ⟨dx, q, m, t, fs, h1, h2, h3, h4, h5, h6, h7, h8, _⟩ := hpl _ ha
      rw [hfz _ ha] at h8
      exact ev_fld h (e _ _ h1) T.cls T.a_frozen h8
    have lr : (refs (a0 :: line)).length = line.length + 1 := by unfold refs; rw [List.length_map, List.length_cons]
    refine ⟨_, rfl, 1, rfl, l, refs (a0 :: line), rfl, hl, ?_, fun pr hpr => ?_⟩
    · rw [lr]
      rintro ⟨h1, h2⟩
      have : HT.sIx (line.length + 1) 0 (some ((1 : Nat) : Int)) = min 1 (line.length + 1) := HT.sIx_nat _ _ _
      rw [show (some (1 : Int)) = some ((1 : Nat) : Int) from rfl, this] at h1
      omega
    have ec : cutV (refs (a0 :: line)) (some 1) none = refs line := by
      rw [show (some (1 : Int)) = some ((1 : Nat) : Int) from rfl, cut_drop (by omega)]
      rfl
    rw [ec]
    have e2 : Ex H (upd H pr (.tup (refs line))) := Ex.new hpr
    refine ⟨pr, rfl, ⟨_, st_of upd_same⟩, for_tup (xs := refs line) (fun i σ' H' => ∃ v, σ' = [some (.ref l), v] ∧ Ex (upd H pr (.tup (refs line))) H') ⟨_, rfl, Ex.refl _⟩ (fun i σ' H' _ ⟨_, _, e⟩ => st_of (e _ _ upd_same)) ?_ (fun σ' H' ⟨_, _, e⟩ => fin H' (e2.trans e))⟩
    rintro i x σ' H' hx ⟨v, rfl, e⟩
    obtain ⟨a, ha, rfl⟩ := refs_at hx
    refine s_when (b := false) (et_is (et_and (a := false) (b := false) (et_test (ev_is (ev_op (fz (e2.trans e) (List.mem_cons_of_mem _ (List.mem_of_getElem? ha)) (ev_var rfl)) (fz (e2.trans e) (List.mem_cons_self ..) (ev_op (ev_var rfl) ev_c (rv_ixT (ex_t (e2.trans e) hl) (at_of (j := 0) rfl rfl)))) (rv_ne (by cases (ki a0).frz <;> rfl))) (by simp))) (fun h => by cases h)) rfl) (fun h => by cases h) fun _ H5 e5 => ⟨_, rfl, e.trans e5⟩
/-! ### data members -/
def MemV.isData : MemV → Bool
  | .fld _ _ => true | .ini _ _ => true | _ => false
def MemV.st : MemV → Kvs
  | .fld _ st => st | .ini _ st => st | _ => []
def MemV.hd : MemV → Bool
  | .fld _ st => ohas st "default" | .ini _ st => ohas st "default" | _ => false
def MemV.hf : MemV → Bool
  | .fld _ st => ohas st "factory" | _ => false
def MemV.isOpen (mv : MemV) : Bool := mv.hd || mv.hf
theorem hd_att {mv : MemV} (h : mv.isData = true) : (("has_default" : Str), V.bl mv.hd) ∈ mv.attrs := by
  cases mv with
  | fld x st => exact List.mem_cons_of_mem _ (List.mem_cons_self ..)
  | ini x st => exact List.mem_cons_of_mem _ (List.mem_cons_self ..)
  | _ => cases h
theorem hf_att {mv : MemV} (h : mv.isData = true) : (("has_factory" : Str), V.bl mv.hf) ∈ mv.attrs := by
  cases mv with
  | fld x st => exact List.mem_cons_of_mem _ (List.mem_cons_of_mem _ (List.mem_cons_of_mem _ (List.mem_cons_self ..)))
  | ini x st => exact List.mem_cons_of_mem _ (List.mem_cons_of_mem _ (List.mem_cons_of_mem _ (List.mem_cons_self ..)))
  | _ => cases h
theorem on_att {mv : MemV} (h : mv.isData = true) : (("only_named" : Str), oget mv.st "only_named" .non) ∈ mv.attrs := by
  cases mv with
  | fld x st => simp [MemV.attrs, fldAttrs, MemV.st]
  | ini x st => simp [MemV.attrs, iniAttrs, MemV.st]
  | _ => cases h
theorem on_flag {mv : MemV} (h : mv.isData = true) (ho : mv.ok) : Flg (oget mv.st "only_named" .non) := by
  cases mv with
  | fld x st => exact ho.2.opt.flag (by decide +kernel) (by decide +kernel)
  | ini x st => exact ho.2.flag (by decide +kernel) (by decide +kernel)
  | _ => cases h
/-- no member that is not open stands behind an open one -/
def DefOk (ms : Mems) : Prop := ∀ (i j : Nat) (x y : Addr × MemV), ms[i]? = some x → ms[j]? = some y → i < j → x.2.isOpen = true → y.2.isOpen = true
def spDefaults (K : PySem.W.Frag) : Sp := fun vs H Q _ => ∃ (l : Addr) (ms : Mems), vs = [.ref l] ∧ SqL K H l (refs (maddr ms)) ∧ MemsAt K H ms ∧ (∀ x, x ∈ ms → x.2.isData = true) ∧ DefOk ms ∧ ∀ H', Ex H H' → Q .non H'
theorem can_defaults (T : Txt K mg) : Can P w K mg base CX0 1 "check_defaults" ["members"] (spDefaults K) := by
  refine can_of T.g_check_defaults T.F_check_defaults (fun fd F => ?_) (fun _ _ _ _ _ _ us hl => match us, hl with | [_], _ => rfl)
  refine F.ok sc_check_defaults (fun vs H Q E h => ?_) (fun cdv A outer s H vs Q E hr h => ?_)
  · obtain ⟨m, ms, rfl, _⟩ := h
    rfl
  · obtain ⟨l, ms, rfl, hl, hms, hdt, hdo, fin⟩ := h
    have nd := sc_check_defaults.nd
    refine ⟨_, pss_cons (ps_set (i := 1) nd rfl (.inl rfl) pe_bl) (pss_one (ps_for PassesOwn.never rfl (pi_list (pv 0)) (pg_name (i := 2) nd rfl (.inl rfl))
      (pss_one (ps_if (PW.pt (pw_or (pt_val (pe_fld (pv 2) rfl)) (pw_or1 (pt_val (pe_fld (pv 2) rfl))))) (pss_one (ps_set (i := 1) nd rfl (.inl rfl) pe_bl)) (pss_one (ps_if (pt_val (pv 1)) (pss_one ps_never) pss_nil)))))), ?_⟩
    refine q_asg (v := .bl false) ev_c fun H1 e1 => ?_
    refine s_forL (ev_var rfl) (ex_l e1 hl) (fun i σ' H' => (∃ v, σ' = [some (.ref l), some (.bl ((ms.take i).any fun x => x.2.isOpen)), v]) ∧ Ex H H') (fun H2 e2 => ⟨⟨_, rfl⟩, e1.trans e2⟩) (fun i σ' H' _ ⟨_, e⟩ => ex_l e hl) ?_ (fun σ' H' ⟨_, e⟩ => fin H' e)
    rintro i x σ' H' hx ⟨⟨v, rfl⟩, e⟩
    obtain ⟨mm, hmm, rfl⟩ := maddr_at hx
    have hmem := List.mem_of_getElem? hmm
    have hA := (hms mm hmem).ex e
    have hD := hdt mm hmem
    have hany : ((ms.take (i + 1)).any fun x => x.2.isOpen) = (((ms.take i).any fun x => x.2.isOpen) || mm.2.isOpen) := by
      rw [List.take_add_one, hmm]
      simp
    refine s_if (b := mm.2.isOpen) (et_or (et_B (ev_matt T (ev_var rfl) hA (hd_att hD))) fun _ => et_B (ev_matt T (ev_var rfl) hA (hf_att hD))) (fun hb H3 e3 => ?_) (fun hb H3 e3 => ?_)
    · refine s_asg (v := .bl true) ev_c fun H4 e4 => ⟨⟨some (.ref mm.1), ?_⟩, (e.trans e3).trans e4⟩
      rw [hany, hb, Bool.or_true]
      rfl
    · have hno : ((ms.take i).any fun x => x.2.isOpen) = false := by
        rw [Bool.eq_false_iff]
        intro q
        rw [List.any_eq_true] at q
        obtain ⟨y, hy, hyo⟩ := q
        obtain ⟨j, hj⟩ := List.mem_iff_getElem?.mp hy
        have hji : j < i := by
          have := (List.getElem?_eq_some_iff.mp hj).1
          rw [List.length_take] at this
          omega
        rw [List.getElem?_take_of_lt hji] at hj
        have := hdo j i y mm hj hmm hji hyo
        rw [hb] at this
        cases this
      refine s_when (b := false) (et_B (ev_is (ev_var rfl) (by rw [hno]))) (fun h => by cases h) fun _ H4 e4 => ⟨⟨some (.ref mm.1), ?_⟩, (e.trans e3).trans e4⟩
      rw [hany, hb, hno]
      rfl
/-- whether a member counts as only named, in a kind that says b -/
def namedOf (mv : MemV) (b : Bool) : Bool := match oget mv.st "only_named" .non with
  | .bl c => c
  | _ => b
def spOnlyNamed (K : PySem.W.Frag) : Sp := fun vs H Q _ => ∃ (a k : Addr) (mv : MemV) (kd : KdV), vs = [.ref a, .ref k] ∧ MemAt K H a mv ∧ mv.isData = true ∧ KdAt K H k kd ∧ ∀ H', Ex H H' → Q (.bl (namedOf mv kd.nmd)) H'
theorem can_onlyNamed (T : Txt K mg) : Can P w K mg base CX0 1 "is_only_named" ["member", "kind"] (spOnlyNamed K) := by
  refine can_of T.g_is_only_named T.F_is_only_named (fun fd F => ?_) (fun _ _ _ _ _ _ us hl => match us, hl with | [_, _], _ => rfl)
  refine F.ok sc_is_only_named (fun vs H Q E h => ?_) (fun cdv A outer s H vs Q E hr h => ?_)
  · obtain ⟨a, k, mv, kd, rfl, _⟩ := h
    rfl
  · obtain ⟨a, k, mv, kd, rfl, hm, hd, hk, fin⟩ := h
    refine ⟨_, pss_cons (ps_if (pt_cmp (pc_isN (pe_fld (pv 0) rfl))) (pss_one (ps_ret (pe_fld (pv 1) rfl))) pss_nil) (pss_one (ps_ret (pe_fld (pv 0) rfl))), ?_⟩
    have hv := on_flag hd hm.1
    have rd : ∀ {H1 : Hp}, Ex H H1 → Ev (tFld K (tVar 0) "only_named") [some (.ref a), some (.ref k)] H1 (oget mv.st "only_named" .non) := fun e => ev_matt T (ev_var rfl) (hm.ex e) (on_att hd)
    have eN : ∀ v, oget mv.st "only_named" .non = v → namedOf mv kd.nmd = match v with | .bl c => c | _ => kd.nmd := fun v q => by unfold namedOf; rw [q]
    rcases hv with q | ⟨c, q⟩
    · refine q_when (b := true) (et_is (et_isN (rd (Ex.refl _))) (by rw [q]; rfl)) (fun _ H1 e1 => ?_) (fun h => by cases h)
      obtain ⟨dx, q0, m, t, fs, h1, h2, h3, h4, h5, h6, h7, h8, h9, _⟩ := hk
      refine s_ret (v := .bl (namedOf mv kd.nmd)) (ev_is (ev_fld (ev_var rfl) (e1 _ _ h1) T.cls T.a_only_named h9) (by rw [eN _ q])) fun H2 e2 => fin H2 (e1.trans e2)
    · refine q_when (b := false) (et_is (et_isN (rd (Ex.refl _))) (by rw [q]; rfl)) (fun h => by cases h) fun _ H1 e1 => ?_
      exact s_ret (v := .bl (namedOf mv kd.nmd)) (ev_is (rd e1) (by rw [q, eN _ q])) fun H2 e2 => fin H2 (e1.trans e2)
end
end K17
end

section
set_option Elab.async false
set_option linter.all false
set_option maxRecDepth 100000
set_option maxHeartbeats 4000000
namespace K17
open PySem PySem.Spec PyProof.Rows L2 He Cn Evl
/-- an entry of what is whole: the member, its kind -/
structure WE where
  m : Addr
  mv : MemV
  k : Addr
def putW (W : List WE) (e : WE) : List WE := if W.any (fun x => decide (x.mv.name = e.mv.name)) then W.map (fun x => if x.mv.name = e.mv.name then e else x) else W ++ [e]
/-- the entries that the members of a kind make -/
def entsOf (ki : Ki) (a : Addr) : List WE := (ki a).mems.map fun x => ⟨x.1, x.2, a⟩
def wholeOf (ki : Ki) (line : List Addr) : List WE := (line.reverse.flatMap (entsOf ki)).foldl putW []
/-- the same, with the tuple that stands for each -/
abbrev WL := List (WE × Addr)
def putL (L : WL) (p : WE × Addr) : WL := if L.any (fun x => decide (x.1.mv.name = p.1.mv.name)) then L.map (fun x => if x.1.mv.name = p.1.mv.name then p else x) else L ++ [p]
theorem putL_fst (L : WL) (p : WE × Addr) : (putL L p).map Prod.fst = putW (L.map Prod.fst) p.1 := by
  unfold putL putW
  rw [List.any_map]
  have e : ((fun x : WE => decide (x.mv.name = p.1.mv.name)) ∘ Prod.fst) = fun x : WE × Addr => decide (x.1.mv.name = p.1.mv.name) := rfl
  rw [e]
  split
  · rw [List.map_map, List.map_map]
    refine List.map_congr_left fun x _ => ?_
    show (if x.1.mv.name = p.1.mv.name then p else x).1 = if x.1.mv.name = p.1.mv.name then p.1 else x.1
    split <;> rfl
  · simp
def kvsL (L : WL) : Kvs := L.map fun p => (.inr p.1.mv.name, .ref p.2)
theorem kvsL_put (L : WL) (p : WE × Addr) : kvsL (putL L p) = putK (kvsL L) (.inr p.1.mv.name) (.ref p.2) := by
  unfold kvsL putL putK
  rw [List.any_map]
  have e : ((fun kv : L2.Key × V => decide (kv.1 = (.inr p.1.mv.name : L2.Key))) ∘ fun p : WE × Addr => ((.inr p.1.mv.name : L2.Key), V.ref p.2)) = fun x : WE × Addr => decide (x.1.mv.name = p.1.mv.name) := by
    funext x
    by_cases q : x.1.mv.name = p.1.mv.name
    · simp [q]
    · have : ¬ (Sum.inr x.1.mv.name : L2.Key) = Sum.inr p.1.mv.name := fun z => q (Sum.inr.inj z)
      simp [q, this]
  rw [e]
  split
  · rw [List.map_map, List.map_map]
    refine List.map_congr_left fun x _ => ?_
    show ((Sum.inr (if x.1.mv.name = p.1.mv.name then p else x).1.mv.name : L2.Key), V.ref (if x.1.mv.name = p.1.mv.name then p else x).2) = if (Sum.inr x.1.mv.name : L2.Key) = Sum.inr p.1.mv.name then ((Sum.inr x.1.mv.name : L2.Key), V.ref p.2) else (Sum.inr x.1.mv.name, V.ref x.2)
    by_cases q : x.1.mv.name = p.1.mv.name
    · rw [if_pos q, if_pos (by rw [q]), q]
    · rw [if_neg q, if_neg (fun z => q (Sum.inr.inj z))]
  · simp
theorem putL_mem {L : WL} {p x : WE × Addr} (h : x ∈ putL L p) : x ∈ L ∨ x = p := by
  unfold putL at h
  split at h
  · obtain ⟨y, hy, e⟩ := List.mem_map.mp h
    split at e
    · exact .inr e.symm
    · exact .inl (e ▸ hy)
  · rcases List.mem_append.mp h with q | q
    · exact .inl q
    · exact .inr (List.mem_singleton.mp q)
theorem putW_mem {W : List WE} {p x : WE} (h : x ∈ putW W p) : x ∈ W ∨ x = p := by
  unfold putW at h
  split at h
  · obtain ⟨y, hy, e⟩ := List.mem_map.mp h
    split at e
    · exact .inr e.symm
    · exact .inl (e ▸ hy)
  · rcases List.mem_append.mp h with q | q
    · exact .inl q
    · exact .inr (List.mem_singleton.mp q)
theorem foldW_mem {es : List WE} : ∀ {W : List WE} {x : WE}, x ∈ es.foldl putW W → x ∈ W ∨ x ∈ es := by
  induction es with
  | nil => intro W x h; exact .inl h
  | cons e r ih =>
    intro W x h
    rcases ih h with q | q
    · rcases putW_mem q with z | z
      · exact .inl z
      · exact .inr (by rw [z]; exact List.mem_cons_self ..)
    · exact .inr (List.mem_cons_of_mem _ q)
theorem whole_mem {ki : Ki} {line : List Addr} {x : WE} (h : x ∈ wholeOf ki line) : ∃ a, a ∈ line ∧ x.k = a ∧ (x.m, x.mv) ∈ (ki a).mems := by
  rcases foldW_mem h with q | q
  · cases q
  · obtain ⟨a, ha, hx⟩ := List.mem_flatMap.mp q
    obtain ⟨y, hy, rfl⟩ := List.mem_map.mp hx
    exact ⟨a, List.mem_reverse.mp ha, rfl, hy⟩
theorem putW_names {W : List WE} {e : WE} (h : (W.map fun x => x.mv.name).Nodup) : ((putW W e).map fun x => x.mv.name).Nodup := by
  unfold putW
  split
  · rw [List.map_map]
    have : ((fun x : WE => x.mv.name) ∘ fun x => if x.mv.name = e.mv.name then e else x) = fun x : WE => x.mv.name := by
      funext x
      show (if x.mv.name = e.mv.name then e else x).mv.name = x.mv.name
      split
      · rename_i q; exact q.symm
      · rfl
    rw [this]
    exact h
  · rename_i q
    rw [List.map_append, List.map_cons, List.map_nil]
    refine List.nodup_append.mpr ⟨h, by simp, fun a ha b hb => ?_⟩
    rw [List.mem_singleton] at hb
    rintro rfl
    obtain ⟨x, hx, e2⟩ := List.mem_map.mp ha
    refine q (List.any_eq_true.mpr ⟨x, hx, decide_eq_true (e2.trans hb)⟩)
theorem foldW_names {es : List WE} : ∀ {W : List WE}, (W.map fun x => x.mv.name).Nodup → ((es.foldl putW W).map fun x => x.mv.name).Nodup := by
  induction es with
  | nil => intro W h; exact h
  | cons e r ih => intro W h; exact ih (putW_names h)
theorem whole_names {ki : Ki} {line : List Addr} : ((wholeOf ki line).map fun x => x.mv.name).Nodup := foldW_names List.nodup_nil
theorem putW_len {W : List WE} {e : WE} : (putW W e).length ≤ W.length + 1 := by
  unfold putW
  split
  · rw [List.length_map]; omega
  · rw [List.length_append]; simp
/-- the tuples stand in the heap -/
def WLAt (H : Hp) (L : WL) : Prop := ∀ x, x ∈ L → H x.2 = some (.tup [.ref x.1.m, .ref x.1.k])
theorem WLAt.ex {H H' : Hp} {L : WL} (e : Ex H H') (h : WLAt H L) : WLAt H' L := fun x hx => e _ _ (h x hx)
section
variable {P : Program} {w : World} {K : PySem.W.Frag} {mg : Str → Option Value} {base : Heap}
def spWholeMembers (K : PySem.W.Frag) : Sp := fun vs H Q _ => ∃ (l : Addr) (line : List Addr) (ki : Ki), vs = [.ref l] ∧ SqT K H l (refs line) ∧ KisAt K H ki line ∧ line.length ≤ 50 ∧
  ∀ p L H', H p = none → Ex H H' → H' p = some (.lst (refs (L.map Prod.snd))) → L.map Prod.fst = wholeOf ki line → WLAt H' L → Q (.ref p) H'
theorem can_wholeMembers (T : Txt K mg) : Can P w K mg base CX0 1 "whole_members" ["line"] (spWholeMembers K) := by
  refine can_of T.g_whole_members T.F_whole_members (fun fd F => ?_) (fun _ _ _ _ _ _ us hl => match us, hl with | [_], _ => rfl)
  refine F.ok sc_whole_members (fun vs H Q E h => ?_) (fun cdv A outer s H vs Q E hr h => ?_)
  · obtain ⟨m, tops, ki, rfl, _⟩ := h
    rfl
  · obtain ⟨l, line, ki, rfl, hl, hk, hz, fin⟩ := h
    have nd := sc_whole_members.nd
    have hu := hu_of hr
    refine ⟨_, pss_cons (ps_set (i := 1) nd rfl (.inl rfl) pe_dnewK)
      (pss_cons (ps_for PassesOwn.never rfl (pi_tup (pe_revT (pv 0))) (pg_name (i := 2) nd rfl (.inl rfl)) (pss_one (ps_for PassesOwn.never rfl (pi_tup (pe_fld (pv 2) rfl)) (pg_name (i := 3) nd rfl (.inl rfl))
        (pss_one (ps_dput hu (pv 1) (pe_fld (pv 3) rfl) (pe_tup (pa_cons (pv 3) (pa_cons (pv 2) pa_nil))) rfl)))))
      (pss_one (ps_ret (pe_listVals rfl (pv 1) rfl T.n_list (by decide +kernel))))), ?_⟩
    intro d hd
    have e1 : Ex H (upd H d (.dK [])) := Ex.new hd
    refine ⟨_, rfl, l, refs line, rfl, ex_t e1 hl, fun pr hpr => ?_⟩
    have hdp : d ≠ pr := fun q => by
      rw [← q, upd_same] at hpr
      cases hpr
    have hprH : H pr = none := fresh_back e1 hpr
    generalize hG : upd H pr (.tup (refs line).reverse) = G
    have eG : Ex H G := by rw [← hG]; exact Ex.new hprH
    have hGd : G d = none := by rw [← hG, upd_ne hdp]; exact hd
    have hGp : G pr = some (.tup (refs line).reverse) := by rw [← hG, upd_same]
    have eG2 : Ex G (upd (upd H d (.dK [])) pr (.tup (refs line).reverse)) := fun b o h => by
      rw [← hG] at h
      by_cases q : b = pr
      · subst q
        rw [upd_same] at h ⊢
        exact h
      · rw [upd_ne q] at h ⊢
        rw [upd_ne (ne_of_none h hd)]
        exact h
    have lr : (refs line).length = line.length := by unfold refs; rw [List.length_map]
    -- what the dict holds
    let Stt : List WE → Nat → Hp → Prop := fun es n H' => Ex G H' ∧ ∃ L : WL, H' d = some (.dK (kvsL L)) ∧ L.map Prod.fst = es.foldl putW [] ∧ L.length ≤ n ∧ (∀ x, x ∈ L → x.2 ≠ d) ∧ WLAt H' L
    refine ⟨pr, rfl, ⟨_, st_of upd_same⟩, for_tup (xs := (refs line).reverse) (fun i σ' H' => (∃ v v3, σ' = [some (.ref l), some (.ref d), v, v3]) ∧ Stt ((line.reverse.take i).flatMap (entsOf ki)) (100 * i) H') ⟨⟨_, _, rfl⟩, eG2, [], by rw [upd_ne hdp]; exact upd_same, rfl, by simp, (fun x h => by cases h), fun x h => by cases h⟩ (fun i σ' H' _ ⟨_, e, _⟩ => st_of (e _ _ hGp)) ?_ ?_⟩
    · rintro i x σ' H' hx ⟨⟨v, v3, rfl⟩, e, L, hL, hfo, hlen, hne, hat⟩
      have hil := (List.getElem?_eq_some_iff.mp hx).1
      rw [List.length_reverse] at hil
      rw [rev_refs] at hx
      obtain ⟨a, ha, rfl⟩ := refs_at hx
      have ham := List.mem_reverse.mp (List.mem_of_getElem? ha)
      have hka := (hk a ham).ex eG
      have hl7 : (ki a).mems.length ≤ 100 := by
        obtain ⟨dx, q, m, t, fs, h1, h2, h3, h4, h5, h6, h7, _⟩ := hka
        exact h7
      have hmA : MemsAt K G (ki a).mems := by
        obtain ⟨dx, q, m, t, fs, h1, h2, h3, h4, h5, h6, _⟩ := hka
        exact h6
      obtain ⟨m, hm, rd⟩ := hka.mems T (σ := []) (te := tVar 0)
      refine s_forT (rd e (ev_var rfl)) (ex_t e hm) (fun j σ2 H2 => (∃ v3, σ2 = [some (.ref l), some (.ref d), some (.ref a), v3]) ∧ Stt ((line.reverse.take i).flatMap (entsOf ki) ++ (entsOf ki a).take j) (100 * i + j) H2) (fun H2 e2 => ⟨⟨_, rfl⟩, e.trans e2, L, e2 _ _ hL, by rw [List.take_zero, List.append_nil]; exact hfo, hlen, hne, hat.ex e2⟩) (fun j σ2 H2 _ ⟨_, e2, _⟩ => ex_t e2 hm) ?_ (fun σ2 H2 q => ?_)
      · rintro j x σ2 H2 hx2 ⟨⟨v3', rfl⟩, e2, LB, hL2, hfo2, hlen2, hne2, hat2⟩
        obtain ⟨mm, hmm, rfl⟩ := maddr_at hx2
        have hmem := List.mem_of_getElem? hmm
        have hjl := (List.getElem?_eq_some_iff.mp hmm).1
        have hMA := (hmA mm hmem).ex e2
        show sDPut _ _ _ _ ([some (.ref l), some (.ref d), some (.ref a), some (.ref mm.1)] : L2.St) H2
        refine eu_tup (ea_cons (ev_var rfl) (ea_cons (ev_var rfl) ea_nil)) (by show 2 ≤ 100000; decide) H2 (Ex.refl _) _ fun tp H3 htp e3 h3 => ?_
        refine ⟨_, rfl, ?_⟩
        refine ev_mname T (ev_var rfl) (hMA.ex e3) H3 (Ex.refl _) _ fun H4 e4 => ?_
        have h4 := e4 _ _ (e3 _ _ hL2)
        have htd : tp ≠ d := (ne_of_none hL2 htp).symm
        refine ⟨d, _, rfl, DPut.k (k := .inr mm.2.name) h4 (sz_lt (by unfold kvsL; rw [List.length_map]; omega)), ?_⟩
        have eent : (entsOf ki a)[j]? = some ⟨mm.1, mm.2, a⟩ := by
          unfold entsOf
          rw [List.getElem?_map, hmm]
          rfl
        refine ⟨⟨_, rfl⟩, Ex.mut ((e2.trans e3).trans e4) hGd, putL LB (⟨mm.1, mm.2, a⟩, tp), by rw [upd_same, kvsL_put], ?_, ?_, fun x hx => ?_, fun x hx => ?_⟩
        · rw [putL_fst, hfo2, List.take_add_one, eent]
          simp [List.foldl_append]
        · have h1 := congrArg List.length (putL_fst LB (⟨mm.1, mm.2, a⟩, tp))
          rw [List.length_map] at h1
          have h2 := putW_len (W := LB.map Prod.fst) (e := ⟨mm.1, mm.2, a⟩)
          rw [List.length_map] at h2
          rw [h1]
          show (putW (LB.map Prod.fst) ⟨mm.1, mm.2, a⟩).length ≤ _
          omega
        · rcases putL_mem hx with q | q
          · exact hne2 x q
          · rw [q]; exact htd
        · rcases putL_mem hx with q | q
          · rw [upd_ne (hne2 x q)]
            exact e4 _ _ (e3 _ _ (hat2 x q))
          · rw [q, upd_ne htd]
            exact e4 _ _ h3
      · obtain ⟨⟨v3', rfl⟩, e2, LB, hL2, hfo2, hlen2, hne2, hat2⟩ := q
        have lz : (refs (maddr (ki a).mems)).length = (ki a).mems.length := by unfold refs maddr; rw [List.length_map, List.length_map]
        refine ⟨⟨_, _, rfl⟩, e2, LB, hL2, ?_, by omega, hne2, hat2⟩
        rw [hfo2, lz]
        have et : (entsOf ki a).take (ki a).mems.length = entsOf ki a := List.take_of_length_le (by unfold entsOf; rw [List.length_map]; exact Nat.le_refl _)
        rw [et, List.take_add_one, ha]
        simp
    · rintro σ' H' ⟨⟨v, v3, rfl⟩, e, L, hL, hfo, hlen, hne, hat⟩
      refine ⟨_, rfl, d, kvsL L, rfl, hL, fun p hp => ?_⟩
      have e9 := (eG.trans e)
      refine fin p L _ (fresh_back e9 hp) (e9.trans (Ex.new hp)) (by rw [upd_same]; unfold kvsL refs; rw [List.map_map, List.map_map]; rfl) ?_ (hat.ex (Ex.new hp))
      rw [hfo]
      unfold wholeOf
      have : (refs line).reverse.length = line.reverse.length := by rw [List.length_reverse, List.length_reverse, lr]
      rw [this, List.take_of_length_le (Nat.le_refl _)]
end
end K17
end

section
set_option Elab.async false
set_option linter.all false
set_option maxRecDepth 100000
set_option maxHeartbeats 4000000
namespace K17
open PySem PySem.Spec PyProof.Rows L2 He Cn Evl
section
variable {K : PySem.W.Frag} {S : Hp → Addr → List V → Prop} {it : TE → TI} {tl : TE} {q : Addr} {xs : List V} {σ : L2.St} {H : Hp} {g : TG} {t : TT} {te tk tv : TE} {vs : List Nat}
/-- a comprehension whatever its target is: the i-th turn begins in σi i -/
theorem el_lcX (W : Wk K S it) (hl : Ev tl σ H (.ref q)) (hs : S H q xs) (σi : Nat → L2.St) (f : Nat → Bool) (v : Nat → V) (hz : xs.length ≤ 40000)
    (hg : ∀ (i : Nat) (x : V) (H1 : Hp) (Q : L2.St → Hp → Prop), Ex H H1 → xs[i]? = some x → Q (σi i) H1 → g x (wipe σ vs) H1 Q) (hw : ∀ i, wipe (σi i) vs = wipe σ vs)
    (ht : ∀ (i : Nat) H1, Ex H H1 → i < xs.length → EvT t (σi i) H1 (f i)) (he : ∀ (i : Nat) H1, Ex H H1 → i < xs.length → f i = true → Ev te (σi i) H1 (v i)) : EvL (tLc (it tl) g t te vs) σ H (given xs.length f v) := fun H1 e Q q' => by
  obtain ⟨J, wk, hi⟩ := W.wk tl σ H q xs hl hs
  refine hi H1 e _ fun H2 e2 => ?_
  intro Dl hD
  exact lc_it wk (Cw H2 f v Dl) ⟨hD, Ex.new hD, upd_same⟩ (fun i H' _ p => W.ex ((e.trans e2).trans p.2.1) hs)
    (fun i x Ha Hb hi p y => by
      obtain ⟨rfl, hx⟩ := y
      exact hg i x _ _ ((e.trans e2).trans p.2.1) hx ⟨hw i, cw_turn p (by omega) (ht i H2 (e.trans e2) hi) (fun hf => he i H2 (e.trans e2) hi hf)⟩)
    (fun H' p => q' Dl H' (fresh_back e2 p.1) (e2.trans p.2.1) p.2.2)
/-- elements that are new tuples -/
def IdxT (H : Hp) (us : Nat → List V) (l : List Nat) (ts : List Addr) : Prop := ts.length = l.length ∧ ∀ (k t i : Nat), ts[k]? = some t → l[k]? = some i → H t = some (.tup (us i))
theorem er_lcX (W : Wk K S it) (hl : Ev tl σ H (.ref q)) (hs : S H q xs) (σi : Nat → L2.St) (f : Nat → Bool) (us : Nat → List V) (hz : xs.length ≤ 40000)
    (hg : ∀ (i : Nat) (x : V) (H1 : Hp) (Q : L2.St → Hp → Prop), Ex H H1 → xs[i]? = some x → Q (σi i) H1 → g x (wipe σ vs) H1 Q) (hw : ∀ i, wipe (σi i) vs = wipe σ vs)
    (ht : ∀ (i : Nat) H1, Ex H H1 → i < xs.length → EvT t (σi i) H1 (f i)) (he : ∀ (i : Nat) H1, Ex H H1 → i < xs.length → f i = true → EvU te (σi i) H1 (us i)) :
    ∀ H1, Ex H H1 → ∀ Q : VK, (∀ p ts H2, H1 p = none → Ex H1 H2 → H2 p = some (.lst (refs ts)) → IdxT H2 us ((List.range xs.length).filter f) ts → Q (.ref p) H2) → tLc (it tl) g t te vs σ H1 Q := fun H1 e Q q' => by
  obtain ⟨J, wk, hi⟩ := W.wk tl σ H q xs hl hs
  refine hi H1 e _ fun H2 e2 => ?_
  intro Dl hD
  refine lc_it wk (fun i H' => H2 Dl = none ∧ Ex H2 H' ∧ ∃ ts, H' Dl = some (.lst (refs ts)) ∧ IdxT H' us ((List.range i).filter f) ts ∧ ts.length ≤ i ∧ ∀ t, t ∈ ts → t ≠ Dl) ⟨hD, Ex.new hD, [], upd_same, ⟨rfl, fun k t i h => by simp at h⟩, Nat.le_refl _, fun t h => by cases h⟩ (fun i H' _ p => W.ex ((e.trans e2).trans p.2.1) hs) ?_ ?_
  · rintro i x Ha Hb hi ⟨p1, p2, ts, h1, ⟨h2, h3⟩, h4, h5⟩ y
    obtain ⟨rfl, hx⟩ := y
    refine hg i x _ _ ((e.trans e2).trans p2) hx ⟨hw i, ht i _ ((e.trans e2).trans p2) hi _ (Ex.refl _) _ fun H3 e3 => ?_⟩
    cases hf : f i with
    | false =>
      rw [if_neg (by simp)]
      have er : (List.range (i + 1)).filter f = (List.range i).filter f := by
        rw [List.range_succ, List.filter_append]
        simp [hf]
      exact ⟨p1, p2.trans e3, ts, e3 _ _ h1, ⟨by rw [er]; exact h2, fun k t j a b => e3 _ _ (h3 k t j a (by rw [er] at b; exact b))⟩, by omega, h5⟩
    | true =>
      rw [if_pos rfl]
      refine he i _ (((e.trans e2).trans p2).trans e3) hi hf _ (Ex.refl _) _ fun tp H4 htp e4 h6 => ?_
      have h7 := e4 _ _ (e3 _ _ h1)
      have htD : tp ≠ Dl := (ne_of_none (e3 _ _ h1) htp).symm
      have er : (List.range (i + 1)).filter f = (List.range i).filter f ++ [i] := by
        rw [List.range_succ, List.filter_append]
        simp [hf]
      refine ⟨_, h7, sz_lt (by unfold refs; rw [List.length_map]; omega), p1, Ex.mut ((p2.trans e3).trans e4) p1, ts ++ [tp], by rw [upd_same]; unfold refs; simp, ⟨by rw [er]; simp [h2], fun k t j a b => ?_⟩, by rw [List.length_append]; simp; omega, fun t ht => ?_⟩
      · rw [er] at b
        by_cases hk : k < ts.length
        · rw [List.getElem?_append_left hk] at a
          rw [List.getElem?_append_left (by omega)] at b
          have hne : t ≠ Dl := h5 t (List.mem_of_getElem? a)
          rw [upd_ne hne]
          exact e4 _ _ (e3 _ _ (h3 k t j a b))
        · rw [List.getElem?_append_right (by omega)] at a b
          rw [h2] at a
          have hk0 : k - ((List.range i).filter f).length = 0 := by
            have := (List.getElem?_eq_some_iff.mp a).1
            simp at this
            omega
          rw [hk0] at a b
          obtain rfl : tp = t := by simpa using a
          obtain rfl : i = j := by simpa using b
          rw [upd_ne htD]
          exact h6
      · rcases List.mem_append.mp ht with z | z
        · exact h5 t z
        · rw [List.mem_singleton.mp z]
          exact htD
  · rintro H' ⟨p1, p2, ts, h1, h2, h3, h4⟩
    exact q' Dl ts H' (fresh_back e2 p1) (e2.trans p2) h1 h2
/-- dict comprehensions -/
def dgiven (n : Nat) (f : Nat → Bool) (k : Nat → L2.Key) (v : Nat → V) : Kvs := ((List.range n).filter f).foldl (fun kvs i => putK kvs (k i) (v i)) []
theorem dgiven_len {n : Nat} {f : Nat → Bool} {k : Nat → L2.Key} {v : Nat → V} : (dgiven n f k v).length ≤ n := by
  unfold dgiven
  have : ∀ (l : List Nat) (kvs : Kvs), (l.foldl (fun kvs i => putK kvs (k i) (v i)) kvs).length ≤ kvs.length + l.length := fun l => by
    induction l with
    | nil => intro kvs; exact Nat.le_refl _
    | cons a r ih =>
      intro kvs
      have h1 := ih (putK kvs (k a) (v a))
      have h2 := length_putK kvs (k a) (v a)
      rw [List.foldl_cons, List.length_cons]
      omega
  have h1 := this ((List.range n).filter f) []
  have h2 := List.length_filter_le f (List.range n)
  rw [List.length_range] at h2
  rw [List.length_nil, Nat.zero_add] at h1
  exact Nat.le_trans h1 h2
theorem en_dcX {S : Hp → Addr → List V → Prop} {it : TE → TI} (W : Wk K S it) (hl : Ev tl σ H (.ref q)) (hs : S H q xs) (σi : Nat → L2.St) (f : Nat → Bool) (k : Nat → L2.Key) (v : Nat → V) (hz : xs.length ≤ 40000)
    (hg : ∀ (i : Nat) (x : V) (H1 : Hp) (Q : L2.St → Hp → Prop), Ex H H1 → xs[i]? = some x → Q (σi i) H1 → g x (wipe σ vs) H1 Q) (hw : ∀ i, wipe (σi i) vs = wipe σ vs)
    (ht : ∀ (i : Nat) H1, Ex H H1 → i < xs.length → EvT t (σi i) H1 (f i)) (hk : ∀ (i : Nat) H1, Ex H H1 → i < xs.length → f i = true → Ev tk (σi i) H1 (kV (k i))) (he : ∀ (i : Nat) H1, Ex H H1 → i < xs.length → f i = true → Ev tv (σi i) H1 (v i)) :
    EvN (tDc (it tl) g t tk tv vs) σ H (.dK (dgiven xs.length f k v)) := fun H1 e Q q' => by
  obtain ⟨J, wk, hi⟩ := W.wk tl σ H q xs hl hs
  refine hi H1 e _ fun H2 e2 => ?_
  intro Dl hD
  refine ⟨fun i m H' => m = xs.length - i ∧ i ≤ xs.length ∧ Ex H2 H' ∧ H' Dl = some (.dK (dgiven i f k v)), ⟨xs.length, by simp, Nat.zero_le _, Ex.new hD, upd_same⟩, ?_⟩
  rintro i m H' ⟨rfl, hin, p2, h1⟩
  have hG := W.ex ((e.trans e2).trans p2) hs
  by_cases hlt : i < xs.length
  · refine .inr ⟨wk.goes i H' hlt hG, fun H3 => Ex H2 H3 ∧ H3 Dl = some (.dK (dgiven (i + 1) f k v)), fun H3 p => ⟨xs.length - (i + 1), by omega, rfl, hlt, p⟩, fun x H3 y => ?_⟩
    obtain ⟨rfl, hx⟩ := wk.yields i H' x H3 hlt hG y
    refine hg i x _ _ ((e.trans e2).trans p2) hx ⟨hw i, ht i _ ((e.trans e2).trans p2) hlt _ (Ex.refl _) _ fun H4 e4 => ?_⟩
    have hrg : ∀ b, f i = b → dgiven (i + 1) f k v = if b = true then putK (dgiven i f k v) (k i) (v i) else dgiven i f k v := fun b hb => by
      unfold dgiven
      rw [List.range_succ, List.filter_append]
      cases b with
      | true => simp [hb]
      | false => simp [hb]
    cases hf : f i with
    | false =>
      rw [if_neg (by simp)]
      refine ⟨p2.trans e4, ?_⟩
      rw [hrg _ hf, if_neg (by simp)]
      exact e4 _ _ h1
    | true =>
      rw [if_pos rfl]
      refine hk i _ (((e.trans e2).trans p2).trans e4) hlt hf _ (Ex.refl _) _ fun H5 e5 => ?_
      refine he i _ ((((e.trans e2).trans p2).trans e4).trans e5) hlt hf _ (Ex.refl _) _ fun H6 e6 => ?_
      have h7 := e6 _ _ (e5 _ _ (e4 _ _ h1))
      have hln := dgiven_len (n := i) (f := f) (k := k) (v := v)
      refine ⟨_, k i, rfl, h7, sz_lt (by omega), Ex.mut (((p2.trans e4).trans e5).trans e6) hD, ?_⟩
      rw [upd_same, hrg _ hf, if_pos rfl]
  · have e0 : i = xs.length := by omega
    subst e0
    exact .inl ⟨wk.stops H' hG, q' Dl H' (fresh_back e2 hD) (e2.trans p2) h1⟩
/-- the target a, b over the tuple at t -/
theorem gP_of {j1 j2 : Nat} {tp : Addr} {a b : V} {σ : L2.St} {H : Hp} {Q : L2.St → Hp → Prop} (h : SqT K H tp [a, b]) (hq : Q ((σ.set j1 (some a)).set j2 (some b)) H) : gTup K 2 (gCons (gName j1) (gCons (gName j2) gNil)) (.ref tp) σ H Q :=
  ⟨tp, _, rfl, h, rfl, _, _, rfl, _, _, rfl, rfl, hq⟩
end
end K17
end

section
set_option Elab.async false
set_option linter.all false
set_option maxRecDepth 100000
set_option maxHeartbeats 4000000
namespace K17
open PySem PySem.Spec PyProof.Rows L2 He Cn Evl
/-- o.m() where several classes have the method, each with its promise -/
def tMdyn (Pc : Addr → Sp → Prop) (m : Str) (E : XK) (ta : TE) : TE := fun σ H Q => ta σ H fun x H1 => ∃ a C dx fs sp, x = .ref a ∧ H1 a = some (.ins C dx fs) ∧ fs.lookup m = none ∧ Pc C sp ∧ sp [x] H1 Q E
theorem pe_mdyn0 {X : Cx} {CX : CXT} {k : Nat} {m : Str} {E : XK} {o : Expr} {ta : TE} {apos pos : Pos} {pl : Sem Bool} {Pc : Addr → Sp → Prop} (he : PE X o ta) (hC : ∀ C sp, Pc C sp → Cls X.K C ∧ ∃ f, Meth X.K C m f ∧ FnR X.prog X.w X.K X.mg X.base CX k f sp) (hr : Room k X.A) (hx : Passes CX X E)
    (ht : eval (.Call (.Attribute o m apos) [] [] pos) X.env = (do
      let ov ← eval o X.env
      standAt apos.atName
      let (f, first) ← holding [ov] (getMethod ov m pl)
      callWith pos f first (backTo pos (starEach [] X.env)) (backToKw pos (keywordEach [] X.env))) := by rfl) :
    PE X (.Call (.Attribute o m apos) [] [] pos) (tMdyn Pc m E ta) := by
  refine ⟨fun pins s σ H Q I h => ?_⟩
  refine PySem.W.methodCall_KW (pl := pl) (thn (he.run pins s σ H _ I h) fun u s1 ⟨x, H1, I1, rx, a, C, dx, fs, sp, ex, ea, l, hp, q⟩ => ?_) ht
  subst ex
  obtain rfl : u = Value.ref a := rx
  obtain ⟨c, f, hm, F⟩ := hC C sp hp
  refine getmeth_ok I1 ea c hm l ?_
  exact PySem.W.callWith_K0 (first := [.ref a]) I1.kIn hm.kp (wpAny_call (run_fnR (us := [.ref a]) (vs := [.ref a]) F hr hx I1 (.cons rfl .nil) q))
def bOf (st : Kvs) (k : Str) (d : Bool) : Bool := match oget st k (.bl d) with
  | .bl b => b
  | _ => d
theorem bOf_eq {st : Kvs} {k : Str} {d : Bool} (h : ∃ b : Bool, oget st k (.bl d) = .bl b) : oget st k (.bl d) = .bl (bOf st k d) := by
  obtain ⟨b, hb⟩ := h
  unfold bOf
  rw [hb]
def MemV.isFld : MemV → Bool
  | .fld _ _ => true | _ => false
def MemV.isPar : MemV → Bool
  | .fld _ st => bOf st "init" true | .ini _ _ => true | _ => false
def MemV.cmp (mv : MemV) : Bool := bOf mv.st "compare" true
def MemV.shw (mv : MemV) : Bool := bOf mv.st "show" true
def MemV.isKey (mv : MemV) : Bool := match oget mv.st "key" .non with
  | .bl b => b
  | _ => mv.cmp
theorem FldOk.at_ {st : Kvs} (h : FldOk st) {k : Str} (h0 : k ≠ "default") (h1 : k ≠ "factory") (h2 : k ≠ "key") (h3 : k ≠ "only_named") : oget st k (.bl true) = .bl (bOf st k true) := bOf_eq (h.opt.bool h0 h1 h2 h3)
section
variable {P : Program} {w : World} {K : PySem.W.Frag} {mg : Str → Option Value} {base : Heap}
theorem cmp_att {mv : MemV} (hf : mv.isFld = true) (ho : mv.ok) : (("compare" : Str), V.bl mv.cmp) ∈ mv.attrs := by
  cases mv with
  | fld x st =>
    have e : oget st "compare" (.bl true) = .bl (MemV.fld x st).cmp := ho.2.at_ (by decide +kernel) (by decide +kernel) (by decide +kernel) (by decide +kernel)
    rw [← e]
    simp [MemV.attrs, fldAttrs]
  | _ => cases hf
theorem shw_att {mv : MemV} (hf : mv.isFld = true) (ho : mv.ok) : (("show" : Str), V.bl mv.shw) ∈ mv.attrs := by
  cases mv with
  | fld x st =>
    have e : oget st "show" (.bl true) = .bl (MemV.fld x st).shw := ho.2.at_ (by decide +kernel) (by decide +kernel) (by decide +kernel) (by decide +kernel)
    rw [← e]
    simp [MemV.attrs, fldAttrs]
  | _ => cases hf
theorem init_att {x : Str} {st : Kvs} (ho : (MemV.fld x st).ok) : (("init" : Str), V.bl (MemV.fld x st).isPar) ∈ (MemV.fld x st).attrs := by
  have e : oget st "init" (.bl true) = .bl (MemV.fld x st).isPar := ho.2.at_ (by decide +kernel) (by decide +kernel) (by decide +kernel) (by decide +kernel)
  rw [← e]
  simp [MemV.attrs, fldAttrs]
def spIsPar (K : PySem.W.Frag) (C : Addr) : Sp := fun vs H Q _ => ∃ (a : Addr) (mv : MemV), vs = [.ref a] ∧ MemAt K H a mv ∧ mv.cls K = C ∧ mv.isData = true ∧ ∀ H', Ex H H' → Q (.bl mv.isPar) H'
def spFPar (K : PySem.W.Frag) : Sp := fun vs H Q _ => ∃ (a : Addr) (x : Str) (st : Kvs), vs = [.ref a] ∧ MemAt K H a (.fld x st) ∧ ∀ H', Ex H H' → Q (.bl (MemV.fld x st).isPar) H'
def spIPar : Sp := fun vs H Q _ => ∃ a : Addr, vs = [.ref a] ∧ ∀ H', Ex H H' → Q (.bl true) H'
theorem fnr_fpar (T : Txt K mg) : FnR P w K mg base CX0 1 (ma K (kF K) "is_parameter") (spFPar K) := by
  obtain ⟨fd, F⟩ := T.F_Field_is_parameter
  have FO : FnOk P w K mg base CX0 1 (ma K (kF K) "is_parameter") fd ["self"] (spFPar K) := by
    refine F.ok sc_Field_is_parameter (fun vs H Q E h => ?_) (fun cdv A outer s H vs Q E hr h => ?_)
    · obtain ⟨a, x, st, rfl, _⟩ := h
      rfl
    · obtain ⟨a, x, st, rfl, hm, fin⟩ := h
      exact ⟨_, pss_one (ps_ret (pe_fld (pv 0) rfl)), s_ret (ev_matt T (ev_var rfl) hm (init_att hm.1)) fin⟩
  refine (FO.raw (F.binds (ps := ["self"]) fun _ _ _ _ _ _ us hl => match us, hl with | [_], _ => rfl) .nil).imp fun vs H Q E h => ?_
  rw [List.append_nil]
  exact h
theorem fnr_ipar (T : Txt K mg) : FnR P w K mg base CX0 1 (ma K (kI K) "is_parameter") spIPar := by
  obtain ⟨fd, F⟩ := T.F_InitOnly_is_parameter
  have FO : FnOk P w K mg base CX0 1 (ma K (kI K) "is_parameter") fd ["self"] spIPar := by
    refine F.ok sc_InitOnly_is_parameter (fun vs H Q E h => ?_) (fun cdv A outer s H vs Q E hr h => ?_)
    · obtain ⟨a, rfl, _⟩ := h
      rfl
    · obtain ⟨a, rfl, fin⟩ := h
      exact ⟨_, pss_one (ps_ret pe_bl), s_ret ev_c fin⟩
  refine (FO.raw (F.binds (ps := ["self"]) fun _ _ _ _ _ _ us hl => match us, hl with | [_], _ => rfl) .nil).imp fun vs H Q E h => ?_
  rw [List.append_nil]
  exact h
def ParC (K : PySem.W.Frag) : Addr → Sp → Prop := fun C sp => (C = kF K ∧ sp = spFPar K) ∨ (C = kI K ∧ sp = spIPar)
theorem parC_ok (T : Txt K mg) : ∀ C sp, ParC K C sp → Cls K C ∧ ∃ f, Meth K C "is_parameter" f ∧ FnR P w K mg base CX0 1 f sp := fun C sp h => by
  rcases h with ⟨rfl, rfl⟩ | ⟨rfl, rfl⟩
  · exact ⟨T.cF_cls, _, T.cF_m_is_parameter, fnr_fpar T⟩
  · exact ⟨T.cI_cls, _, T.cI_m_is_parameter, fnr_ipar T⟩
theorem ev_isPar (T : Txt K mg) {σ : L2.St} {H : Hp} {te : TE} {a : Addr} {mv : MemV} (h : Ev te σ H (.ref a)) (hm : MemAt K H a mv) (hd : mv.isData = true) : Ev (tMdyn (ParC K) "is_parameter" E0 te) σ H (.bl mv.isPar) := fun H1 e Q q =>
  h H1 e _ fun H2 e2 => by
    have hm2 := hm.ex (e.trans e2)
    obtain ⟨ho, dx, fs, h1, h2, h3⟩ := id hm2
    have hl := h3 "is_parameter" (by simp [memNo])
    cases mv with
    | fld x st => exact ⟨a, _, dx, fs, _, rfl, h1, hl, .inl ⟨rfl, rfl⟩, a, x, st, rfl, hm2, fun H3 e3 => q H3 (e2.trans e3)⟩
    | ini x st => exact ⟨a, _, dx, fs, _, rfl, h1, hl, .inr ⟨rfl, rfl⟩, a, rfl, fun H3 e3 => q H3 (e2.trans e3)⟩
    | _ => cases hd
def spIsKey (K : PySem.W.Frag) : Sp := fun vs H Q _ => ∃ (a : Addr) (mv : MemV), vs = [.ref a] ∧ MemAt K H a mv ∧ mv.isFld = true ∧ ∀ H', Ex H H' → Q (.bl mv.isKey) H'
theorem can_isKey (T : Txt K mg) : ∃ fd, FnOk P w K mg base CX0 1 (ma K (kF K) "is_key") fd ["self"] (spIsKey K) ∧ Binds K fd ["self"] [] := by
  obtain ⟨fd, F⟩ := T.F_Field_is_key
  refine ⟨fd, F.ok sc_Field_is_key (fun vs H Q E h => ?_) (fun cdv A outer s H vs Q E hr h => ?_), F.binds fun _ _ _ _ _ _ us hl => match us, hl with | [_], _ => rfl⟩
  · obtain ⟨a, mv, rfl, _⟩ := h
    rfl
  · obtain ⟨a, mv, rfl, hm, hf, fin⟩ := h
    cases mv with
    | fld x st =>
      refine ⟨_, pss_cons (ps_if (pt_cmp (pc_isN (pe_fld (pv 0) rfl))) (pss_one (ps_ret (pe_fld (pv 0) rfl))) pss_nil) (pss_one (ps_ret (pe_fld (pv 0) rfl))), ?_⟩
      have ka : (("key" : Str), oget st "key" .non) ∈ (MemV.fld x st).attrs := by simp [MemV.attrs, fldAttrs]
      have rd : ∀ {H1 : Hp}, Ex H H1 → Ev (tFld K (tVar 0) "key") [some (.ref a)] H1 (oget st "key" .non) := fun e => ev_matt T (ev_var rfl) (hm.ex e) ka
      rcases hm.1.2.opt.flag (s := "key") (by decide +kernel) (by decide +kernel) with q | ⟨c, q⟩
      · refine q_when (b := true) (et_is (et_isN (rd (Ex.refl _))) (by rw [q]; rfl)) (fun _ H1 e1 => ?_) (fun h => by cases h)
        refine s_ret (ev_is (ev_matt T (ev_var rfl) (hm.ex e1) (cmp_att rfl hm.1)) ?_) fun H2 e2 => fin H2 (e1.trans e2)
        unfold MemV.isKey
        show V.bl (MemV.fld x st).cmp = V.bl (match oget st "key" .non with | .bl b => b | _ => (MemV.fld x st).cmp)
        rw [q]
      · refine q_when (b := false) (et_is (et_isN (rd (Ex.refl _))) (by rw [q]; rfl)) (fun h => by cases h) fun _ H1 e1 => ?_
        refine s_ret (ev_is (rd e1) ?_) fun H2 e2 => fin H2 (e1.trans e2)
        unfold MemV.isKey
        show oget st "key" .non = V.bl (match oget st "key" .non with | .bl b => b | _ => (MemV.fld x st).cmp)
        rw [q]
    | _ => cases hf
/-! ### the options of a kind -/
def koAttrs (st : Kvs) : List (Str × V) := [("equal", oget st "equal" (.bl true)), ("order", oget st "order" (.bl false)), ("frozen", oget st "frozen" (.bl false)), ("only_named", oget st "only_named" (.bl false)), ("show", oget st "show" (.bl true))]
def koNames : List Str := ["equal", "order", "frozen", "only_named", "show"]
theorem ko_nd (st : Kvs) : ((koAttrs st).map (·.1)).Nodup := by
  have e : (koAttrs st).map (·.1) = koNames := rfl
  rw [e]
  decide +kernel
def spSetOptions (K : PySem.W.Frag) : Sp := fun vs H Q _ => ∃ (a d dx : Addr) (fs : List (Str × V)) (st : Kvs), vs = [.ref a, .ref d] ∧ H a = some (.ins (kC K) dx fs) ∧ H d = some (.dK st) ∧ fs.length ≤ 900 ∧ ∀ H', H' a = some (.ins (kC K) dx (puts (koAttrs st) fs)) → FrB a H H' → Q .non H'
theorem can_setOptions (T : Txt K mg) : ∃ fd, FnOk P w K mg base CX0 1 (ma K (kC K) "_set_options") fd ["self", "options"] (spSetOptions K) ∧ Binds K fd ["self", "options"] [] := by
  obtain ⟨fd, F⟩ := T.F_Kind__set_options
  refine ⟨fd, F.ok sc_Kind__set_options (fun vs H Q E h => ?_) (fun cdv A outer s H vs Q E hr h => ?_), F.binds (ps := ["self", "options"]) fun _ _ _ _ _ _ us hl => match us, hl with | [_, _], _ => rfl⟩
  · obtain ⟨a, d, dx, fs, st, rfl, _⟩ := h
    rfl
  · obtain ⟨a, d, dx, fs, st, rfl, ha, hd, hl, fin⟩ := h
    have hu := hu_of hr
    refine ⟨_, pss_cons (ps_fld (pv 0) (pe_dget2 hu (pv 1) pe_str pe_bl ⟨rfl, rfl, rfl, rfl⟩) rfl) (pss_cons (ps_fld (pv 0) (pe_dget2 hu (pv 1) pe_str pe_bl ⟨rfl, rfl, rfl, rfl⟩) rfl) (pss_cons (ps_fld (pv 0) (pe_dget2 hu (pv 1) pe_str pe_bl ⟨rfl, rfl, rfl, rfl⟩) rfl)
      (pss_cons (ps_fld (pv 0) (pe_dget2 hu (pv 1) pe_str pe_bl ⟨rfl, rfl, rfl, rfl⟩) rfl) (pss_one (ps_fld (pv 0) (pe_dget2 hu (pv 1) pe_str pe_bl ⟨rfl, rfl, rfl, rfl⟩) rfl))))), ?_⟩
    have hda : d ≠ a := ne_of hd ha (by intro z; cases z)
    have r1 : FrB a H H := fun b u h _ => h
    have a1 := ha
    have ln : ∀ i, (puts ((koAttrs st).take i) fs).length ≤ fs.length + 5 := fun i => by
      have h1 := puts_len (ps := (koAttrs st).take i) (fs := fs)
      have h2 : ((koAttrs st).take i).length ≤ 5 := by rw [List.length_take]; exact Nat.min_le_right _ _
      omega
    refine q_putV (ev_dget2 (ev_var rfl) ev_c ev_c (.inl (r1 _ _ hd hda))) (fun _ _ => ev_var rfl) a1 T.cls T.a_equal (by have := ln 0; exact Nat.lt_of_le_of_lt this (by omega)) fun H2 a2 f2 => ?_
    have r2 : FrB a H H2 := FrB.trans r1 f2
    refine q_putV (ev_dget2 (ev_var rfl) ev_c ev_c (.inl (r2 _ _ hd hda))) (fun _ _ => ev_var rfl) a2 T.cls T.a_order (by have := ln 1; exact Nat.lt_of_le_of_lt this (by omega)) fun H3 a3 f3 => ?_
    have r3 : FrB a H H3 := FrB.trans r2 f3
    refine q_putV (ev_dget2 (ev_var rfl) ev_c ev_c (.inl (r3 _ _ hd hda))) (fun _ _ => ev_var rfl) a3 T.cls T.a_frozen (by have := ln 2; exact Nat.lt_of_le_of_lt this (by omega)) fun H4 a4 f4 => ?_
    have r4 : FrB a H H4 := FrB.trans r3 f4
    refine q_putV (ev_dget2 (ev_var rfl) ev_c ev_c (.inl (r4 _ _ hd hda))) (fun _ _ => ev_var rfl) a4 T.cls T.a_only_named (by have := ln 3; exact Nat.lt_of_le_of_lt this (by omega)) fun H5 a5 f5 => ?_
    have r5 : FrB a H H5 := FrB.trans r4 f5
    refine s_putV (ev_dget2 (ev_var rfl) ev_c ev_c (.inl (r5 _ _ hd hda))) (fun _ _ => ev_var rfl) a5 T.cls T.a_show (by have := ln 4; exact Nat.lt_of_le_of_lt this (by omega)) fun H6 a6 f6 => ?_
    exact fin H6 a6 (FrB.trans r5 f6)
theorem given_all' {n : Nat} {f : Nat → Bool} {v : Nat → V} (h : ∀ i, i < n → f i = true) : given n f v = (List.range n).map v := by
  unfold given
  rw [List.filter_eq_self.mpr fun i hi => h i (List.mem_range.mp hi)]
theorem given_none {n : Nat} {f : Nat → Bool} {v : Nat → V} (h : ∀ i, i < n → f i = false) : given n f v = [] := by
  unfold given
  rw [List.filter_eq_nil_iff.mpr fun i hi => by simp [h i (List.mem_range.mp hi)]]
  rfl
theorem map_range_getD {α : Type} (l : List α) (d : α) : (List.range l.length).map (fun i => l.getD i d) = l := by
  apply List.ext_getElem?
  intro i
  rw [List.getElem?_map]
  by_cases h : i < l.length
  · rw [List.getElem?_range h]
    simp [List.getD_eq_getElem?_getD, List.getElem?_eq_getElem h]
  · rw [List.getElem?_eq_none (by simpa using h), List.getElem?_eq_none (by simpa using h)]
    rfl
theorem getD_at {α : Type} {l : List α} {i : Nat} {x d : α} (h : l[i]? = some x) : l.getD i d = x := by
  rw [List.getD_eq_getElem?_getD, h]
  rfl
end
end K17
end

section
set_option Elab.async false
set_option linter.all false
set_option maxRecDepth 100000
set_option maxHeartbeats 4000000
namespace K17
open PySem PySem.Spec PyProof.Rows L2 He Cn Evl
def gP (K : PySem.W.Frag) (j1 j2 : Nat) : TG := gTup K 2 (gCons (gName j1) (gCons (gName j2) gNil))
section
variable {K : PySem.W.Frag} {tl : TE} {q : Addr} {σ : L2.St} {H : Hp} {t : TT} {te tk tv : TE} {vs : List Nat} {α : Type}
/-- a list of pairs, each a tuple -/
def PairsAt (H : Hp) (ts : List Addr) (es : List α) (c : α → V × V) : Prop := ts.length = es.length ∧ ∀ (i : Nat) (tp : Addr) (e : α), ts[i]? = some tp → es[i]? = some e → H tp = some (.tup [(c e).1, (c e).2])
theorem PairsAt.ex {H H' : Hp} {ts : List Addr} {es : List α} {c : α → V × V} (e : Ex H H') (h : PairsAt H ts es c) : PairsAt H' ts es c := ⟨h.1, fun i tp x a b => e _ _ (h.2 i tp x a b)⟩
theorem refs_len (ts : List Addr) : (refs ts).length = ts.length := by unfold refs; rw [List.length_map]
theorem el_pairs {ts : List Addr} {es : List α} {c : α → V × V} {j1 j2 : Nat} (fc : α → Bool) (fe : α → V) (hl : Ev tl σ H (.ref q)) (hq : SqL K H q (refs ts)) (hp : PairsAt H ts es c) (hz : es.length ≤ 40000) (hw : ∀ x y, wipe (((wipe σ vs).set j1 (some x)).set j2 (some y)) vs = wipe σ vs)
    (ht : ∀ e, e ∈ es → ∀ H1, Ex H H1 → EvT t (((wipe σ vs).set j1 (some (c e).1)).set j2 (some (c e).2)) H1 (fc e))
    (he : ∀ e, e ∈ es → ∀ H1, Ex H H1 → fc e = true → Ev te (((wipe σ vs).set j1 (some (c e).1)).set j2 (some (c e).2)) H1 (fe e)) : EvL (tLc (iList K tl) (gP K j1 j2) t te vs) σ H ((es.filter fc).map fe) := by
  have hlen : (refs ts).length = es.length := by rw [refs_len]; exact hp.1
  have := el_lcX (K := K) wk_list (tl := tl) (q := q) (xs := refs ts) (σ := σ) (H := H) (g := gP K j1 j2) (t := t) (te := te) (vs := vs) hl hq (fun i => match es[i]? with | some e => ((wipe σ vs).set j1 (some (c e).1)).set j2 (some (c e).2) | none => ((wipe σ vs).set j1 (some .non)).set j2 (some .non)) (fun i => match es[i]? with | some e => fc e | none => false) (fun i => match es[i]? with | some e => fe e | none => .non) (by omega)
    (fun i x H1 Q e hx hQ => ?_) (fun i => ?_) (fun i H1 e hi => ?_) (fun i H1 e hi hf => ?_)
  · rw [hlen, given_filter es fc fe _ _ (fun i x hx => by rw [hx]) (fun i x hx => by rw [hx])] at this
    exact this
  · obtain ⟨tp, h1, rfl⟩ := refs_at hx
    obtain ⟨y, hy⟩ := at_some (l := es) (i := i) (by have := (List.getElem?_eq_some_iff.mp h1).1; have := hp.1; omega)
    rw [hy] at hQ
    exact gP_of (st_of (e _ _ (hp.2 i tp y h1 hy))) hQ
  · skip
    split <;> exact hw _ _
  · obtain ⟨y, hy⟩ := at_some (l := es) (i := i) (by omega)
    rw [hy]
    exact ht y (List.mem_of_getElem? hy) H1 e
  · obtain ⟨y, hy⟩ := at_some (l := es) (i := i) (by omega)
    try dsimp only at hf ⊢
    rw [hy] at hf ⊢
    exact he y (List.mem_of_getElem? hy) H1 e hf
/-- over items that stand for themselves -/
theorem el_each {S : Hp → Addr → List V → Prop} {it : TE → TI} (W : Wk K S it) {es : List α} {c : α → V} {j : Nat} (fc : α → Bool) (fe : α → V) (hl : Ev tl σ H (.ref q)) (hq : S H q (es.map c)) (hz : es.length ≤ 40000) (hw : ∀ x, wipe ((wipe σ vs).set j (some x)) vs = wipe σ vs)
    (ht : ∀ e, e ∈ es → ∀ H1, Ex H H1 → EvT t ((wipe σ vs).set j (some (c e))) H1 (fc e))
    (he : ∀ e, e ∈ es → ∀ H1, Ex H H1 → fc e = true → Ev te ((wipe σ vs).set j (some (c e))) H1 (fe e)) : EvL (tLc (it tl) (gName j) t te vs) σ H ((es.filter fc).map fe) := by
  have hlen : (es.map c).length = es.length := List.length_map ..
  have := el_lcX (K := K) W (tl := tl) (q := q) (xs := es.map c) (σ := σ) (H := H) (g := gName j) (t := t) (te := te) (vs := vs) hl hq (fun i => match es[i]? with | some e => (wipe σ vs).set j (some (c e)) | none => (wipe σ vs).set j (some .non)) (fun i => match es[i]? with | some e => fc e | none => false) (fun i => match es[i]? with | some e => fe e | none => .non) (by omega)
    (fun i x H1 Q e hx hQ => ?_) (fun i => ?_) (fun i H1 e hi => ?_) (fun i H1 e hi hf => ?_)
  · rw [hlen, given_filter es fc fe _ _ (fun i x hx => by rw [hx]) (fun i x hx => by rw [hx])] at this
    exact this
  · rw [List.getElem?_map] at hx
    cases hy : es[i]? with
    | none => rw [hy] at hx; cases hx
    | some y =>
      rw [hy] at hx hQ
      obtain rfl := Option.some.inj hx
      exact hQ
  · skip
    split <;> exact hw _
  · obtain ⟨y, hy⟩ := at_some (l := es) (i := i) (by omega)
    rw [hy]
    exact ht y (List.mem_of_getElem? hy) H1 e
  · obtain ⟨y, hy⟩ := at_some (l := es) (i := i) (by omega)
    try dsimp only at hf ⊢
    rw [hy] at hf ⊢
    exact he y (List.mem_of_getElem? hy) H1 e hf
/-- a dict of pairs -/
def dictOf (es : List α) (fk : α → L2.Key) (fv : α → V) : Kvs := es.foldl (fun kvs e => putK kvs (fk e) (fv e)) []
theorem filter_range {l : List α} {p : α → Bool} {f : Nat → Bool} (hf : ∀ i x, l[i]? = some x → f i = p x) : ((List.range l.length).filter f).map (fun i => l[i]?) = (l.filter p).map some := by
  have key : ∀ n, n ≤ l.length → ((List.range n).filter f).map (fun i => l[i]?) = ((l.take n).filter p).map some := fun n => by
    induction n with
    | zero => intro _; rfl
    | succ n ih =>
      intro hn
      obtain ⟨x, hx⟩ := at_some (l := l) (i := n) (by omega)
      rw [List.range_succ, List.filter_append, List.map_append, ih (by omega), List.take_add_one, hx, List.filter_append, List.map_append]
      congr 1
      have := hf n x hx
      cases hp : p x with
      | true => simp [hp, this, hx]
      | false => simp [hp, this]
  have := key l.length (Nat.le_refl _)
  rwa [List.take_length] at this
theorem en_pairs {ts : List Addr} {es : List α} {c : α → V × V} {j1 j2 : Nat} (fc : α → Bool) (fk : α → L2.Key) (fv : α → V) (hl : Ev tl σ H (.ref q)) (hq : SqL K H q (refs ts)) (hp : PairsAt H ts es c) (hz : es.length ≤ 40000) (hw : ∀ x y, wipe (((wipe σ vs).set j1 (some x)).set j2 (some y)) vs = wipe σ vs)
    (ht : ∀ e, e ∈ es → ∀ H1, Ex H H1 → EvT t (((wipe σ vs).set j1 (some (c e).1)).set j2 (some (c e).2)) H1 (fc e))
    (hk : ∀ e, e ∈ es → ∀ H1, Ex H H1 → fc e = true → Ev tk (((wipe σ vs).set j1 (some (c e).1)).set j2 (some (c e).2)) H1 (kV (fk e)))
    (he : ∀ e, e ∈ es → ∀ H1, Ex H H1 → fc e = true → Ev tv (((wipe σ vs).set j1 (some (c e).1)).set j2 (some (c e).2)) H1 (fv e)) : EvN (tDc (iList K tl) (gP K j1 j2) t tk tv vs) σ H (.dK (dictOf (es.filter fc) fk fv)) := by
  have hlen : (refs ts).length = es.length := by rw [refs_len]; exact hp.1
  have := en_dcX (K := K) wk_list (tl := tl) (q := q) (xs := refs ts) (σ := σ) (H := H) (g := gP K j1 j2) (t := t) (tk := tk) (tv := tv) (vs := vs) hl hq (fun i => match es[i]? with | some e => ((wipe σ vs).set j1 (some (c e).1)).set j2 (some (c e).2) | none => ((wipe σ vs).set j1 (some .non)).set j2 (some .non)) (fun i => match es[i]? with | some e => fc e | none => false) (fun i => match es[i]? with | some e => fk e | none => .inl 0) (fun i => match es[i]? with | some e => fv e | none => .non) (by omega)
    (fun i x H1 Q e hx hQ => ?_) (fun i => ?_) (fun i H1 e hi => ?_) (fun i H1 e hi hf => ?_) (fun i H1 e hi hf => ?_)
  · have e0 : dgiven (refs ts).length (fun i => match es[i]? with | some e => fc e | none => false) (fun i => match es[i]? with | some e => fk e | none => .inl 0) (fun i => match es[i]? with | some e => fv e | none => .non) = dictOf (es.filter fc) fk fv := by
      unfold dgiven dictOf
      rw [hlen]
      have h1 := filter_range (l := es) (p := fc) (f := fun i => match es[i]? with | some e => fc e | none => false) (fun i x hx => by rw [hx])
      have h2 : ∀ (l : List Nat) (kvs : Kvs), l.foldl (fun kvs i => putK kvs ((fun i => match es[i]? with | some e => fk e | none => .inl 0) i) ((fun i => match es[i]? with | some e => fv e | none => .non) i)) kvs = (l.map (fun i => es[i]?)).foldl (fun kvs o => putK kvs (match o with | some e => fk e | none => .inl 0) (match o with | some e => fv e | none => .non)) kvs := fun l => by
        induction l with
        | nil => intro kvs; rfl
        | cons a r ih => intro kvs; exact ih _
      have h3 : ∀ (l : List α) (kvs : Kvs), (l.map some).foldl (fun kvs o => putK kvs (match o with | some e => fk e | none => .inl 0) (match o with | some e => fv e | none => .non)) kvs = l.foldl (fun kvs e => putK kvs (fk e) (fv e)) kvs := fun l => by
        induction l with
        | nil => intro kvs; rfl
        | cons a r ih => intro kvs; exact ih _
      rw [h2, h1, h3]
    rw [e0] at this
    exact this
  · obtain ⟨tp, h1, rfl⟩ := refs_at hx
    obtain ⟨y, hy⟩ := at_some (l := es) (i := i) (by have := (List.getElem?_eq_some_iff.mp h1).1; have := hp.1; omega)
    rw [hy] at hQ
    exact gP_of (st_of (e _ _ (hp.2 i tp y h1 hy))) hQ
  · skip
    split <;> exact hw _ _
  · obtain ⟨y, hy⟩ := at_some (l := es) (i := i) (by omega)
    rw [hy]
    exact ht y (List.mem_of_getElem? hy) H1 e
  · obtain ⟨y, hy⟩ := at_some (l := es) (i := i) (by omega)
    try dsimp only at hf ⊢
    rw [hy] at hf ⊢
    exact hk y (List.mem_of_getElem? hy) H1 e hf
  · obtain ⟨y, hy⟩ := at_some (l := es) (i := i) (by omega)
    try dsimp only at hf ⊢
    rw [hy] at hf ⊢
    exact he y (List.mem_of_getElem? hy) H1 e hf
/-- pairs whose elements are new tuples -/
theorem er_pairs {ts : List Addr} {es : List α} {c d : α → V × V} {j1 j2 : Nat} (fc : α → Bool) (hl : Ev tl σ H (.ref q)) (hq : SqL K H q (refs ts)) (hp : PairsAt H ts es c) (hz : es.length ≤ 40000) (hw : ∀ x y, wipe (((wipe σ vs).set j1 (some x)).set j2 (some y)) vs = wipe σ vs)
    (ht : ∀ e, e ∈ es → ∀ H1, Ex H H1 → EvT t (((wipe σ vs).set j1 (some (c e).1)).set j2 (some (c e).2)) H1 (fc e))
    (he : ∀ e, e ∈ es → ∀ H1, Ex H H1 → fc e = true → EvU te (((wipe σ vs).set j1 (some (c e).1)).set j2 (some (c e).2)) H1 [(d e).1, (d e).2]) :
    ∀ H1, Ex H H1 → ∀ Q : VK, (∀ p us H2, H1 p = none → Ex H1 H2 → H2 p = some (.lst (refs us)) → PairsAt H2 us (es.filter fc) d → Q (.ref p) H2) → tLc (iList K tl) (gP K j1 j2) t te vs σ H1 Q := fun H1 e1 Q k => by
  have hlen : (refs ts).length = es.length := by rw [refs_len]; exact hp.1
  refine er_lcX (K := K) wk_list (tl := tl) (q := q) (xs := refs ts) (σ := σ) (H := H) (g := gP K j1 j2) (t := t) (te := te) (vs := vs) hl hq (fun i => match es[i]? with | some e => ((wipe σ vs).set j1 (some (c e).1)).set j2 (some (c e).2) | none => ((wipe σ vs).set j1 (some .non)).set j2 (some .non)) (fun i => match es[i]? with | some e => fc e | none => false) (fun i => match es[i]? with | some e => [(d e).1, (d e).2] | none => []) (by omega)
    (fun i x H1 Q e hx hQ => ?_) (fun i => ?_) (fun i H1 e hi => ?_) (fun i H1 e hi hf => ?_) H1 e1 Q fun p us H2 hp2 e2 h2 hI => k p us H2 hp2 e2 h2 ?_
  · obtain ⟨tp, h1, rfl⟩ := refs_at hx
    obtain ⟨y, hy⟩ := at_some (l := es) (i := i) (by have := (List.getElem?_eq_some_iff.mp h1).1; have := hp.1; omega)
    rw [hy] at hQ
    exact gP_of (st_of (e _ _ (hp.2 i tp y h1 hy))) hQ
  · skip
    split <;> exact hw _ _
  · obtain ⟨y, hy⟩ := at_some (l := es) (i := i) (by omega)
    rw [hy]
    exact ht y (List.mem_of_getElem? hy) H1 e
  · obtain ⟨y, hy⟩ := at_some (l := es) (i := i) (by omega)
    try dsimp only at hf ⊢
    rw [hy] at hf ⊢
    exact he y (List.mem_of_getElem? hy) H1 e hf
  · have h1 := filter_range (l := es) (p := fc) (f := fun i => match es[i]? with | some e => fc e | none => false) (fun i x hx => by rw [hx])
    obtain ⟨a, b⟩ := hI
    rw [hlen] at a b
    refine ⟨?_, fun i tp y hi hy => ?_⟩
    · have := congrArg List.length h1
      rw [List.length_map, List.length_map] at this
      omega
    · have hy2 : ((es.filter fc).map some)[i]? = some (some y) := by rw [List.getElem?_map, hy]; rfl
      rw [← h1, List.getElem?_map] at hy2
      cases hj : ((List.range es.length).filter fun i => match es[i]? with | some e => fc e | none => false)[i]? with
      | none => rw [hj] at hy2; cases hy2
      | some j =>
        rw [hj] at hy2
        have hy3 : es[j]? = some y := Option.some.inj hy2
        have := b i tp j hi hj
        try dsimp only at this
        rw [hy3] at this
        exact this
end
section
variable {P : Program} {w : World} {K : PySem.W.Frag} {mg : Str → Option Value} {base : Heap} {σ : L2.St} {H : Hp} {te : TE} {a : Addr} {mv : MemV}
theorem ev_isFld (T : Txt K mg) (h : Ev te σ H (.ref a)) (hm : MemAt K H a mv) (hd : mv.isData = true) : Ev (tCB (rIsi K) (tCons te (tCons (tC (.ref (ga K "Field"))) tNil))) σ H (.bl mv.isFld) := by
  obtain ⟨dx, fs, h1⟩ := hm.ko
  cases mv with
  | fld x st => exact ev_isO T.cF_cls T.cF_ins T.cF_fld h h1
  | ini x st => exact ev_isO T.cI_cls T.cI_ins T.cI_fld h h1
  | _ => cases hd
theorem ev_isIni (T : Txt K mg) (h : Ev te σ H (.ref a)) (hm : MemAt K H a mv) (hd : mv.isData = true) : Ev (tCB (rIsi K) (tCons te (tCons (tC (.ref (ga K "InitOnly"))) tNil))) σ H (.bl (!mv.isFld)) := by
  obtain ⟨dx, fs, h1⟩ := hm.ko
  cases mv with
  | fld x st => exact ev_isO T.cF_cls T.cF_ins T.cF_ini h h1
  | ini x st => exact ev_isO T.cI_cls T.cI_ins T.cI_ini h h1
  | _ => cases hd
theorem ev_isKey (T : Txt K mg) (h : Ev te σ H (.ref a)) (hm : MemAt K H a mv) (hf : mv.isFld = true) : Ev (tMeth (kF K) "is_key" (spIsKey K) [] E0 te tNil) σ H (.bl mv.isKey) := fun H1 e Q q =>
  h H1 e _ fun H2 e2 => by
    have hm2 := hm.ex (e.trans e2)
    obtain ⟨ho, dx, fs, h1, h2, h3⟩ := id hm2
    have hl := h3 "is_key" (by simp [memNo])
    cases mv with
    | fld x st => exact ⟨a, dx, fs, rfl, h1, hl, a, _, rfl, hm2, rfl, fun H3 e3 => q H3 (e2.trans e3)⟩
    | _ => cases hf
def MemV.val (_ : MemV) : V := .non
theorem ev_mval (T : Txt K mg) (h : Ev te σ H (.ref a)) (hm : MemAt K H a mv) (hs : mv.sort = ("shared" : Str)) : Ev (tFld K te "value") σ H mv.val := by
  cases mv with
  | fld x st => exact absurd (show ("data" : Str) = ("shared" : Str) from hs) (by decide +kernel)
  | ini x st => exact absurd (show ("data" : Str) = ("shared" : Str) from hs) (by decide +kernel)
  | mth x f => exact absurd (show ("method" : Str) = ("shared" : Str) from hs) (by decide +kernel)
end
end K17
end

section
set_option Elab.async false
set_option linter.all false
set_option maxRecDepth 100000
set_option maxHeartbeats 8000000
namespace K17
open PySem PySem.Spec PyProof.Rows L2 He Cn Evl
def wholeKeys : List Str := [("_data" : Str), ("_shared" : Str), ("_other_members" : Str), ("fields" : Str), ("field_names" : Str), ("compare_names" : Str), ("show_names" : Str), ("key_names" : Str), ("_init_only" : Str), ("_by_position" : Str), ("_by_name" : Str), ("_parameters" : Str), ("_parameter_names" : Str)]
theorem en_cat {σ : L2.St} {H : Hp} {ta tb : TE} {p q : Addr} {xs ys : List V} (ha : Ev ta σ H (.ref p)) (hb : Ev tb σ H (.ref q)) (hp : H p = some (.lst xs)) (hq : H q = some (.lst ys)) (hz : xs.length + ys.length ≤ 100000) : EvN (tOp rCat ta tb) σ H (.lst (xs ++ ys)) := fun H1 e Q k =>
  ha H1 e _ fun H2 e2 => hb H2 (e.trans e2) _ fun H3 e3 => ⟨p, q, xs, ys, rfl, rfl, ((e.trans e2).trans e3) _ _ hp, ((e.trans e2).trans e3) _ _ hq, sz_of hz, fun l hl => k l _ (fresh_back (e2.trans e3) hl) ((e2.trans e3).trans (Ex.new hl)) upd_same⟩
theorem q_asgE {te : TE} {g : TG} {tz : TS} {D : Ends} {σ : L2.St} {H : Hp} (h : te σ H fun v H1 => g v σ H1 fun σ2 H2 => tz D σ2 H2) : tSeq (tAsg te g) tz D σ H := h
/-- the data members of a whole kind, the fields, the parameters */ -/
def dataOf (W : List WE) : List WE := W.filter fun e => e.mv.isData
def nmOf (ki : Ki) (e : WE) : Bool := namedOf e.mv (ki e.k).nmd
def fldsOf (W : List WE) : List WE := (dataOf W).filter fun e => e.mv.isFld
def posOf (ki : Ki) (W : List WE) : List WE := (dataOf W).filter fun e => e.mv.isPar && !nmOf ki e
def namOf (ki : Ki) (W : List WE) : List WE := (dataOf W).filter fun e => e.mv.isPar && nmOf ki e
def sharedOf (W : List WE) : Kvs := dictOf (W.filter fun e => decide (e.mv.sort = ("shared" : Str))) (fun e => .inr e.mv.name) (fun e => e.mv.val)
def rM (W : List WE) : List V := W.map fun e => .ref e.m
def sN (W : List WE) : List V := W.map fun e => .str e.mv.name
/-- what _set_whole leaves at a kind -/
structure WhAt (H0 H : Hp) (fs : List (Str × V)) (ki : Ki) (W : List WE) : Prop where
  data : ∃ p us, fs.lookup ("_data" : Str) = some (.ref p) ∧ H0 p = none ∧ H p = some (.lst (refs us)) ∧ PairsAt H us (dataOf W) fun e => (.ref e.m, .bl (nmOf ki e))
  shared : ∃ p, fs.lookup ("_shared" : Str) = some (.ref p) ∧ H0 p = none ∧ H p = some (.dK (sharedOf W))
  other : ∃ p, fs.lookup ("_other_members" : Str) = some (.ref p) ∧ H0 p = none ∧ H p = some (.lst (rM (W.filter fun e => !decide (e.mv.sort = ("data" : Str)))))
  fields : ∃ p, fs.lookup ("fields" : Str) = some (.ref p) ∧ H0 p = none ∧ H p = some (.tup (rM (fldsOf W)))
  fnames : ∃ p, fs.lookup ("field_names" : Str) = some (.ref p) ∧ H0 p = none ∧ H p = some (.tup (sN (fldsOf W)))
  cnames : ∃ p, fs.lookup ("compare_names" : Str) = some (.ref p) ∧ H0 p = none ∧ H p = some (.tup (sN ((fldsOf W).filter fun e => e.mv.cmp)))
  snames : ∃ p, fs.lookup ("show_names" : Str) = some (.ref p) ∧ H0 p = none ∧ H p = some (.tup (sN ((fldsOf W).filter fun e => e.mv.shw)))
  knames : ∃ p, fs.lookup ("key_names" : Str) = some (.ref p) ∧ H0 p = none ∧ H p = some (.tup (sN ((fldsOf W).filter fun e => e.mv.isKey)))
  initonly : ∃ p, fs.lookup ("_init_only" : Str) = some (.ref p) ∧ H0 p = none ∧ H p = some (.lst (rM ((dataOf W).filter fun e => !e.mv.isFld)))
  bypos : ∃ p, fs.lookup ("_by_position" : Str) = some (.ref p) ∧ H0 p = none ∧ H p = some (.lst (rM (posOf ki W)))
  byname : ∃ p, fs.lookup ("_by_name" : Str) = some (.ref p) ∧ H0 p = none ∧ H p = some (.lst (rM (namOf ki W)))
  params : ∃ p, fs.lookup ("_parameters" : Str) = some (.ref p) ∧ H0 p = none ∧ H p = some (.lst (rM (posOf ki W ++ namOf ki W)))
  pnames : ∃ p, fs.lookup ("_parameter_names" : Str) = some (.ref p) ∧ H0 p = none ∧ H p = some (.lst (sN (posOf ki W ++ namOf ki W)))
theorem frP {α : Type} {a : Addr} {H H' : Hp} {ts : List Addr} {es : List α} {c : α → V × V} {C dx : Addr} {fs : List (Str × V)} (f : FrB a H H') (ha : H a = some (.ins C dx fs)) (h : PairsAt H ts es c) : PairsAt H' ts es c := ⟨h.1, fun i tp x p q => f _ _ (h.2 i tp x p q) (ne_of (h.2 i tp x p q) ha (by intro z; cases z))⟩
theorem frM {K : PySem.W.Frag} {a b : Addr} {H H' : Hp} {mv : MemV} (f : FrB a H H') (h : MemAt K (del H a) b mv) : MemAt K H' b mv := by
  obtain ⟨ho, dx', fs', h1, h2⟩ := h
  have hne : b ≠ a := fun q => by
    rw [q, del_same] at h1
    cases h1
  rw [del_ne hne] at h1
  exact ⟨ho, dx', fs', f _ _ h1 hne, h2⟩
section
variable {P : Program} {w : World} {K : PySem.W.Frag} {mg : Str → Option Value} {base : Heap}
theorem sort_data {mv : MemV} : decide (mv.sort = ("data" : Str)) = mv.isData := by
  cases mv <;> rfl
def spSetWhole (K : PySem.W.Frag) : Sp := fun vs H Q _ => ∃ (a l dx q : Addr) (fs : List (Str × V)) (line : List Addr) (ts : List Addr) (W : List WE) (ki : Ki), vs = [.ref a, .ref l] ∧ H a = some (.ins (kC K) dx fs) ∧ H l = some (.lst (refs ts)) ∧ PairsAt H ts W (fun e => (.ref e.m, .ref e.k)) ∧
  (∀ e, e ∈ W → MemAt K (del H a) e.m e.mv ∧ KdAt K H e.k (ki e.k)) ∧ W.length ≤ 10000 ∧ fs.lookup ("line" : Str) = some (.ref q) ∧ SqT K H q (refs line) ∧ line.length ≤ 12 ∧ (dataOf W).length ≤ 16 ∧
  fs.lookup ("MAX_MEMBERS" : Str) = none ∧ fs.lookup ("MAX_LINE" : Str) = none ∧ fs.length ≤ 900 ∧
  ∀ (fs' : List (Str × V)) (H' : Hp), H' a = some (.ins (kC K) dx fs') → WhAt H H' fs' ki W → (∀ g, g ∉ wholeKeys → fs'.lookup g = fs.lookup g) → fs'.length ≤ fs.length + 13 → FrB a H H' → Q .non H'
theorem can_setWhole (T : Txt K mg) : ∃ fd, FnOk P w K mg base CX0 2 (ma K (kC K) "_set_whole") fd ["self", "whole"] (spSetWhole K) ∧ Binds K fd ["self", "whole"] [] := by
  obtain ⟨fd, F⟩ := T.F_Kind__set_whole
  have CO : Can P w K mg base CX0 1 "is_only_named" ["member", "kind"] (spOnlyNamed K) := can_onlyNamed T
  refine ⟨fd, F.ok sc_Kind__set_whole (fun vs H Q E h => ?_) (fun cdv A outer s H vs Q E hr h => ?_), F.binds (ps := ["self", "whole"]) fun _ _ _ _ _ _ us hl => match us, hl with | [_, _], _ => rfl⟩
  · obtain ⟨a, l, dx, q, fs, line, ts, W, ki, rfl, _⟩ := h
    rfl
  · obtain ⟨a, l, dx, q, fs, line, ts, W, ki, rfl, ha, hl, hP, hW, hWl, hq, hqT, hll, hdl, hm1, hm2, hlen, fin⟩ := h
    have nd := sc_Kind__set_whole.nd
    obtain ⟨u1, c1⟩ := T.maxMem
    obtain ⟨u2, c2⟩ := T.maxLine
    obtain ⟨fdK, FK, bK⟩ := can_isKey (P := P) (w := w) (base := base) T
    refine ⟨_, pss_cons (ps_setLc (i := 2) (own := [("member", 3), ("kind", 4)]) (wi := iList K (tVar 1)) (g := gP K 3 4) (tt := tTest (tOp rEq (tCon K (tVar 3) "SORT") (tC (.str "data")))) (te := tTup (tCons (tVar 3) (tCons (tCall (spOnlyNamed K) [] E0 (tCons (tVar 3) (tCons (tVar 4) tNil))) tNil))) rfl nd rfl rfl (sw_true rfl rfl rfl (by decide +kernel)) (pi_list (pv 1)) (blkOk_by (N := ["self", "whole", "data", "member", "kind", "_", "named", "field"]) (sc := defScope s_Kind__set_whole) (by decide +kernel)) (fun _ _ _ _ _ => pg_tup rfl (pgs_cons (pg_name (i := 3) nd rfl (.inl rfl)) (pgs_cons (pg_name (i := 4) nd rfl (.inl rfl)) pgs_nil))) (fun _ _ _ _ _ => pts_one (pt_cmpR op_eq (pe_con (pv 3) rfl) pe_str (nomark _))) (fun _ _ _ _ _ => pe_tup (pa_cons (pv 3) (pa_cons (pe_can CO hr pass0 (pa_cons (pv 3) (pa_cons (pv 4) pa_nil))) pa_nil))))
      (pss_cons (ps_if (PW.pt (pw_or (pt_cmpR op_gt (pe_callB call_len_seq (by rfl) T.n_len PySem.boot_len (pa_cons (pv 2) pa_nil)) (pe_con (pv 0) rfl) (nomark _)) (pw_or1 (pt_cmpR op_gt (pe_callB call_len_seq (by rfl) T.n_len PySem.boot_len (pa_cons (pe_fld (pv 0) rfl) pa_nil)) (pe_con (pv 0) rfl) (nomark _))))) (pss_one ps_never) pss_nil)
      (pss_cons (ps_fld (pv 0) (pv 2) rfl)
      (pss_cons (ps_fld (pv 0) (pe_dc (own := [("member", 3), ("_", 5)]) (wi := iList K (tVar 1)) (g := gP K 3 5) (tt := tTest (tOp rEq (tCon K (tVar 3) "SORT") (tC (.str "shared")))) (tk := tFld K (tVar 3) "name") (tv := tFld K (tVar 3) "value") rfl nd (pi_list (pv 1)) (blkOk_by (N := ["self", "whole", "data", "member", "kind", "_", "named", "field"]) (sc := defScope s_Kind__set_whole) (by decide +kernel)) (fun _ _ _ _ _ => pg_tup rfl (pgs_cons (pg_name (i := 3) nd rfl (.inl rfl)) (pgs_cons (pg_name (i := 5) nd rfl (.inl rfl)) pgs_nil))) (fun _ _ _ _ _ => pts_one (pt_cmpR op_eq (pe_con (pv 3) rfl) pe_str (nomark _))) (fun _ _ _ _ _ => pe_fld (pv 3) rfl) (fun _ _ _ _ _ => pe_fld (pv 3) rfl)) rfl)
      (pss_cons (ps_fld (pv 0) (pe_lc (own := [("member", 3), ("_", 5)]) (wi := iList K (tVar 1)) (g := gP K 3 5) (tt := tTest (tOp rNe (tCon K (tVar 3) "SORT") (tC (.str "data")))) (te := tVar 3) rfl nd (pi_list (pv 1)) (blkOk_by (N := ["self", "whole", "data", "member", "kind", "_", "named", "field"]) (sc := defScope s_Kind__set_whole) (by decide +kernel)) (fun _ _ _ _ _ => pg_tup rfl (pgs_cons (pg_name (i := 3) nd rfl (.inl rfl)) (pgs_cons (pg_name (i := 5) nd rfl (.inl rfl)) pgs_nil))) (fun _ _ _ _ _ => pts_one (pt_cmpR op_ne (pe_con (pv 3) rfl) pe_str (nomark _))) (fun _ _ _ _ _ => pv 3)) rfl)
      (pss_cons (ps_fld (pv 0) (pe_callTy call_tuple_of (by rfl) T.n_tuple (by decide +kernel) (pa_cons (pe_lc (own := [("member", 3), ("_", 5)]) (wi := iList K (tVar 2)) (g := gP K 3 5) (tt := tB (tCB (rIsi K) (tCons (tVar 3) (tCons (tC (.ref (ga K "Field"))) tNil)))) (te := tVar 3) rfl nd (pi_list (pv 2)) (blkOk_by (N := ["self", "whole", "data", "member", "kind", "_", "named", "field"]) (sc := defScope s_Kind__set_whole) (by decide +kernel)) (fun _ _ _ _ _ => pg_tup rfl (pgs_cons (pg_name (i := 3) nd rfl (.inl rfl)) (pgs_cons (pg_name (i := 5) nd rfl (.inl rfl)) pgs_nil))) (fun _ _ _ _ _ => pts_one (pt_val (pe_callB call_isi (by rfl) T.n_isinstance (by decide +kernel) (pa_cons (pv 3) (pa_cons (pe_glob rfl T.g_Field (v := .ref (ga K "Field")) rfl) pa_nil))))) (fun _ _ _ _ _ => pv 3)) pa_nil)) rfl)
      (pss_cons (ps_fld (pv 0) (pe_callTy call_tuple_of (by rfl) T.n_tuple (by decide +kernel) (pa_cons (pe_lc (own := [("field", 7)]) (wi := iTup K (tFld K (tVar 0) "fields")) (g := gName 7) (tt := tYes) (te := tFld K (tVar 7) "name") rfl nd (pi_tup (pe_fld (pv 0) rfl)) (blkOk_by (N := ["self", "whole", "data", "member", "kind", "_", "named", "field"]) (sc := defScope s_Kind__set_whole) (by decide +kernel)) (fun _ _ _ _ _ => pg_name (i := 7) nd rfl (.inl rfl)) (fun _ _ _ _ _ => pts_nil) (fun _ _ _ _ _ => pe_fld (pv 7) rfl)) pa_nil)) rfl)
      (pss_cons (ps_fld (pv 0) (pe_callTy call_tuple_of (by rfl) T.n_tuple (by decide +kernel) (pa_cons (pe_lc (own := [("field", 7)]) (wi := iTup K (tFld K (tVar 0) "fields")) (g := gName 7) (tt := tB (tFld K (tVar 7) "compare")) (te := tFld K (tVar 7) "name") rfl nd (pi_tup (pe_fld (pv 0) rfl)) (blkOk_by (N := ["self", "whole", "data", "member", "kind", "_", "named", "field"]) (sc := defScope s_Kind__set_whole) (by decide +kernel)) (fun _ _ _ _ _ => pg_name (i := 7) nd rfl (.inl rfl)) (fun _ _ _ _ _ => pts_one (pt_val (pe_fld (pv 7) rfl))) (fun _ _ _ _ _ => pe_fld (pv 7) rfl)) pa_nil)) rfl)
      (pss_cons (ps_fld (pv 0) (pe_callTy call_tuple_of (by rfl) T.n_tuple (by decide +kernel) (pa_cons (pe_lc (own := [("field", 7)]) (wi := iTup K (tFld K (tVar 0) "fields")) (g := gName 7) (tt := tB (tFld K (tVar 7) "show")) (te := tFld K (tVar 7) "name") rfl nd (pi_tup (pe_fld (pv 0) rfl)) (blkOk_by (N := ["self", "whole", "data", "member", "kind", "_", "named", "field"]) (sc := defScope s_Kind__set_whole) (by decide +kernel)) (fun _ _ _ _ _ => pg_name (i := 7) nd rfl (.inl rfl)) (fun _ _ _ _ _ => pts_one (pt_val (pe_fld (pv 7) rfl))) (fun _ _ _ _ _ => pe_fld (pv 7) rfl)) pa_nil)) rfl)
      (pss_cons (ps_fld (pv 0) (pe_callTy call_tuple_of (by rfl) T.n_tuple (by decide +kernel) (pa_cons (pe_lc (own := [("field", 7)]) (wi := iTup K (tFld K (tVar 0) "fields")) (g := gName 7) (tt := tB (tMeth (kF K) "is_key" (spIsKey K) [] E0 (tVar 7) tNil)) (te := tFld K (tVar 7) "name") rfl nd (pi_tup (pe_fld (pv 0) rfl)) (blkOk_by (N := ["self", "whole", "data", "member", "kind", "_", "named", "field"]) (sc := defScope s_Kind__set_whole) (by decide +kernel)) (fun _ _ _ _ _ => pg_name (i := 7) nd rfl (.inl rfl)) (fun _ _ _ _ _ => pts_one (pt_val (pe_meth0 (pv 7) T.cF_cls T.cF_m_is_key FK (hr.mono (by decide)) bK .nil pass0))) (fun _ _ _ _ _ => pe_fld (pv 7) rfl)) pa_nil)) rfl)
      (pss_cons (ps_fld (pv 0) (pe_lc (own := [("member", 3), ("_", 5)]) (wi := iList K (tVar 2)) (g := gP K 3 5) (tt := tB (tCB (rIsi K) (tCons (tVar 3) (tCons (tC (.ref (ga K "InitOnly"))) tNil)))) (te := tVar 3) rfl nd (pi_list (pv 2)) (blkOk_by (N := ["self", "whole", "data", "member", "kind", "_", "named", "field"]) (sc := defScope s_Kind__set_whole) (by decide +kernel)) (fun _ _ _ _ _ => pg_tup rfl (pgs_cons (pg_name (i := 3) nd rfl (.inl rfl)) (pgs_cons (pg_name (i := 5) nd rfl (.inl rfl)) pgs_nil))) (fun _ _ _ _ _ => pts_one (pt_val (pe_callB call_isi (by rfl) T.n_isinstance (by decide +kernel) (pa_cons (pv 3) (pa_cons (pe_glob rfl T.g_InitOnly (v := .ref (ga K "InitOnly")) rfl) pa_nil))))) (fun _ _ _ _ _ => pv 3)) rfl)
      (pss_cons (ps_fld (pv 0) (pe_lc (own := [("member", 3), ("named", 6)]) (wi := iList K (tVar 2)) (g := gP K 3 6) (tt := tAnd (tB (tMdyn (ParC K) "is_parameter" E0 (tVar 3))) (tNot (tB (tVar 6)))) (te := tVar 3) rfl nd (pi_list (pv 2)) (blkOk_by (N := ["self", "whole", "data", "member", "kind", "_", "named", "field"]) (sc := defScope s_Kind__set_whole) (by decide +kernel)) (fun _ _ _ _ _ => pg_tup rfl (pgs_cons (pg_name (i := 3) nd rfl (.inl rfl)) (pgs_cons (pg_name (i := 6) nd rfl (.inl rfl)) pgs_nil))) (fun _ _ _ _ _ => pts_one (PW.pt (pw_and (pt_val (pe_mdyn0 (pv 3) (parC_ok T) (hr.mono (by decide)) pass0)) (pw_and1 (pt_not (pt_val (pv 6))))))) (fun _ _ _ _ _ => pv 3)) rfl)
      (pss_cons (ps_fld (pv 0) (pe_lc (own := [("member", 3), ("named", 6)]) (wi := iList K (tVar 2)) (g := gP K 3 6) (tt := tAnd (tB (tMdyn (ParC K) "is_parameter" E0 (tVar 3))) (tB (tVar 6))) (te := tVar 3) rfl nd (pi_list (pv 2)) (blkOk_by (N := ["self", "whole", "data", "member", "kind", "_", "named", "field"]) (sc := defScope s_Kind__set_whole) (by decide +kernel)) (fun _ _ _ _ _ => pg_tup rfl (pgs_cons (pg_name (i := 3) nd rfl (.inl rfl)) (pgs_cons (pg_name (i := 6) nd rfl (.inl rfl)) pgs_nil))) (fun _ _ _ _ _ => pts_one (PW.pt (pw_and (pt_val (pe_mdyn0 (pv 3) (parC_ok T) (hr.mono (by decide)) pass0)) (pw_and1 (pt_val (pv 6)))))) (fun _ _ _ _ _ => pv 3)) rfl)
      (pss_cons (ps_fld (pv 0) (pe_op op_cat (pe_fld (pv 0) rfl) (pe_fld (pv 0) rfl)) rfl)
      (pss_one (ps_fld (pv 0) (pe_lc (own := [("member", 3)]) (wi := iList K (tFld K (tVar 0) "_parameters")) (g := gName 3) (tt := tYes) (te := tFld K (tVar 3) "name") rfl nd (pi_list (pe_fld (pv 0) rfl)) (blkOk_by (N := ["self", "whole", "data", "member", "kind", "_", "named", "field"]) (sc := defScope s_Kind__set_whole) (by decide +kernel)) (fun _ _ _ _ _ => pg_name (i := 3) nd rfl (.inl rfl)) (fun _ _ _ _ _ => pts_nil) (fun _ _ _ _ _ => pe_fld (pv 3) rfl)) rfl))))))))))))))), ?_⟩
    have hla : l ≠ a := ne_of hl ha (by intro z; cases z)
    have r0 : FrB a H H := fun b u h _ => h
    -- data
    refine q_asgE ?_
    refine er_pairs (K := K) (σ := [some (.ref a), some (.ref l), none, none, none, none, none, none]) (vs := [3, 4]) (j1 := 3) (j2 := 4) (tl := (tVar 1)) (t := tTest (tOp rEq (tCon K (tVar 3) "SORT") (tC (.str "data")))) (te := tTup (tCons (tVar 3) (tCons (tCall (spOnlyNamed K) [] E0 (tCons (tVar 3) (tCons (tVar 4) tNil))) tNil))) (ts := ts) (es := W) (c := fun e => (.ref e.m, .ref e.k)) (d := fun e => (.ref e.m, .bl (nmOf ki e))) (fun e => e.mv.isData) (ev_var rfl) (sq_of hl) hP (by omega) (fun _ _ => rfl) (fun e he H1 e1 => ?_) (fun e he H1 e1 hf => ?_) H (Ex.refl H) _ fun pd us H1 hpd e1 hd1 hD1 => ?_
    · exact et_is (et_test (ev_op (ev_msort T (ev_var rfl) ((frM r0 (hW e he).1).ex e1)) ev_c (rv_eq rfl))) (by rw [← sort_data]; by_cases q : e.mv.sort = ("data" : Str) <;> simp [q])
    · exact eu_tup (ea_cons (ev_var rfl) (ea_cons (ev_call (ea_cons (ev_var rfl) (ea_cons (ev_var rfl) ea_nil)) fun H2 e2 Q q E => ⟨e.m, e.k, e.mv, ki e.k, rfl, ((frM r0 (hW e he).1).ex (e1.trans e2)), hf, (hW e he).2.ex (e1.trans e2), fun H3 e3 => q H3 e3⟩) ea_nil)) (by show 2 ≤ 100000; decide)
    change PairsAt H1 us (dataOf W) _ at hD1
    have ldt : us.length = (dataOf W).length := hD1.1
    have a1 := e1 _ _ ha
    have hpda : pd ≠ a := (ne_of_none ha hpd).symm
    have lr : (refs line).length = line.length := by unfold refs; rw [List.length_map]
    refine q_when (b := false) (et_is (et_or (a := false) (b := false) (et_is (et_test (ev_op (x := .int (us.length : Int)) (y := .int 16) (ev_cb (z := .int (us.length : Int)) (ea_cons (ev_var rfl) ea_nil) fun H1 e Q k => ⟨pd, refs us, rfl, .inl (sq_of (e _ _ hd1)), by rw [refs_len]; exact k H1 (Ex.refl H1)⟩) (ev_con (ev_var rfl) a1 T.cls c1 hm1) rv_I0)) (by simp; omega))
      (fun _ => et_is (et_test (ev_op (x := .int (line.length : Int)) (y := .int 12) (ev_cb (z := .int (line.length : Int)) (ea_cons (ev_fld (ev_var rfl) a1 T.cls T.a_line hq) ea_nil) fun H1 e Q k => ⟨q, _, rfl, .inr (ex_t (e1.trans e) hqT), by rw [lr]; exact k H1 (Ex.refl H1)⟩) (ev_con (ev_var rfl) a1 T.cls c2 hm2) rv_I0)) (by simp; omega))) rfl) (fun h => by cases h) fun _ H2 e2 => ?_
    have a2 := e2 _ _ a1
    have e12 := e1.trans e2
    have fr12 : FrB a H H2 := fun b u hb _ => e12 _ _ hb
    have mm : ∀ {H' : Hp}, FrB a H2 H' → ∀ e, e ∈ W → MemAt K H' e.m e.mv := fun f e he => frM (FrB.trans fr12 f) (hW e he).1
    have pl : ∀ {H' : Hp}, FrB a H2 H' → PairsAt H' ts W (fun e => (.ref e.m, .ref e.k)) := fun f => frP f a2 (hP.ex e12)
    have pD : ∀ {H' : Hp}, FrB a H2 H' → PairsAt H' us (dataOf W) (fun e => (.ref e.m, .bl (nmOf ki e))) := fun f => frP f a2 (hD1.ex e2)
    have ll : ∀ {H' : Hp}, FrB a H2 H' → H' l = some (.lst (refs ts)) := fun f => f _ _ (e12 _ _ hl) hla
    have ld : ∀ {H' : Hp}, FrB a H2 H' → H' pd = some (.lst (refs us)) := fun f => f _ _ (e2 _ _ hd1) hpda
    have dW : ∀ e, e ∈ dataOf W → e ∈ W ∧ e.mv.isData = true := fun e he => List.mem_filter.mp he
    have fW : ∀ e, e ∈ fldsOf W → e ∈ W ∧ e.mv.isData = true ∧ e.mv.isFld = true := fun e he => by
      obtain ⟨h1, h2⟩ := List.mem_filter.mp he
      exact ⟨(dW e h1).1, (dW e h1).2, h2⟩
    have pW : ∀ e, e ∈ posOf ki W ++ namOf ki W → e ∈ W := fun e he => by
      rcases List.mem_append.mp he with h | h
      · exact (dW e (List.mem_filter.mp h).1).1
      · exact (dW e (List.mem_filter.mp h).1).1
    have ldl : (dataOf W).length ≤ 40000 := by omega
    have lfl : (fldsOf W).length ≤ 40000 := Nat.le_trans (List.length_filter_le _ _) ldl
    have ptr : ∀ (f : WE → Bool), ((dataOf W).filter f).length ≤ 16 := fun f => Nat.le_trans (List.length_filter_le _ _) hdl
    have r2 : FrB a H2 H2 := fun b u h _ => h
    have L2' : fs.length ≤ fs.length := Nat.le_refl _
    refine q_putV (v := .ref pd) (ev_var rfl) (fun _ _ => ev_var rfl) a2 T.cls T.a__data (by omega) fun H3 a3 f3 => ?_
    have r3 : FrB a H2 H3 := FrB.trans r2 f3
    have L3 : (putF "_data" (.ref pd) fs).length ≤ fs.length + 1 := by have := length_putF "_data" (.ref pd) fs; omega
    refine q_putN (o := .dK (sharedOf W)) (en_pairs (K := K) (σ := [some (.ref a), some (.ref l), some (.ref pd), none, none, none, none, none]) (vs := [3, 5]) (j1 := 3) (j2 := 5) (tl := (tVar 1)) (t := tTest (tOp rEq (tCon K (tVar 3) "SORT") (tC (.str "shared")))) (tk := tFld K (tVar 3) "name") (tv := tFld K (tVar 3) "value") (ts := ts) (es := W) (c := fun e => (.ref e.m, .ref e.k)) (fun e => decide (e.mv.sort = ("shared" : Str))) (fun e => .inr e.mv.name) (fun e => e.mv.val) (ev_var rfl) (sq_of (ll r3)) (pl r3) (by omega) (fun _ _ => rfl) (fun e he H1 e1 => et_is (et_test (ev_op (ev_msort T (ev_var rfl) ((mm r3 e he).ex e1)) ev_c (rv_eq rfl))) (by by_cases q : e.mv.sort = ("shared" : Str) <;> simp [q])) (fun e he H1 e1 hf => ev_mname T (ev_var rfl) ((mm r3 e he).ex e1)) (fun e he H1 e1 hf => ev_mval T (ev_var rfl) ((mm r3 e he).ex e1) (of_decide_eq_true hf))) (fun _ _ => ev_var rfl) a3 T.cls T.a__shared (by omega) fun p4 H4 np4 a4 h4 f4 => ?_
    have r4 : FrB a H2 H4 := FrB.trans r3 f4
    have L4 : (putF "_shared" (.ref p4) (putF "_data" (.ref pd) fs)).length ≤ fs.length + 2 := by have := length_putF "_shared" (.ref p4) (putF "_data" (.ref pd) fs); omega
    refine q_putN (o := .lst (rM (W.filter fun e => !decide (e.mv.sort = ("data" : Str))))) (el_pairs (K := K) (σ := [some (.ref a), some (.ref l), some (.ref pd), none, none, none, none, none]) (vs := [3, 5]) (j1 := 3) (j2 := 5) (tl := (tVar 1)) (t := tTest (tOp rNe (tCon K (tVar 3) "SORT") (tC (.str "data")))) (te := tVar 3) (ts := ts) (es := W) (c := fun e => (.ref e.m, .ref e.k)) (fun e => !decide (e.mv.sort = ("data" : Str))) (fun e => .ref e.m) (ev_var rfl) (sq_of (ll r4)) (pl r4) (by omega) (fun _ _ => rfl) (fun e he H1 e1 => et_is (et_test (ev_op (ev_msort T (ev_var rfl) ((mm r4 e he).ex e1)) ev_c (rv_ne rfl))) (by by_cases q : e.mv.sort = ("data" : Str) <;> simp [q])) (fun e he H1 e1 hf => ev_var rfl)) (fun _ _ => ev_var rfl) a4 T.cls T.a__other_members (by omega) fun p5 H5 np5 a5 h5 f5 => ?_
    have r5 : FrB a H2 H5 := FrB.trans r4 f5
    have L5 : (putF "_other_members" (.ref p5) (putF "_shared" (.ref p4) (putF "_data" (.ref pd) fs))).length ≤ fs.length + 3 := by have := length_putF "_other_members" (.ref p5) (putF "_shared" (.ref p4) (putF "_data" (.ref pd) fs)); omega
    refine q_putN (o := .tup (rM (fldsOf W))) (en_tupOf (el_pairs (K := K) (σ := [some (.ref a), some (.ref l), some (.ref pd), none, none, none, none, none]) (vs := [3, 5]) (j1 := 3) (j2 := 5) (tl := (tVar 2)) (t := tB (tCB (rIsi K) (tCons (tVar 3) (tCons (tC (.ref (ga K "Field"))) tNil)))) (te := tVar 3) (ts := us) (es := dataOf W) (c := fun e => (.ref e.m, .bl (nmOf ki e))) (fun e => e.mv.isFld) (fun e => .ref e.m) (ev_var rfl) (sq_of (ld r5)) (pD r5) ldl (fun _ _ => rfl) (fun e he H1 e1 => et_B (ev_isFld T (ev_var rfl) ((mm r5 e (dW e he).1).ex e1) (dW e he).2)) (fun e he H1 e1 hf => ev_var rfl))) (fun _ _ => ev_var rfl) a5 T.cls T.a_fields (by omega) fun p6 H6 np6 a6 h6 f6 => ?_
    have r6 : FrB a H2 H6 := FrB.trans r5 f6
    have L6 : (putF "fields" (.ref p6) (putF "_other_members" (.ref p5) (putF "_shared" (.ref p4) (putF "_data" (.ref pd) fs)))).length ≤ fs.length + 4 := by have := length_putF "fields" (.ref p6) (putF "_other_members" (.ref p5) (putF "_shared" (.ref p4) (putF "_data" (.ref pd) fs))); omega
    have pfa : p6 ≠ a := (ne_of_none a5 np6).symm
    have pf : ∀ {H' : Hp}, FrB a H2 H' → FrB a H6 H' → H' p6 = some (.tup (rM (fldsOf W))) := fun _ f => f _ _ h6 pfa
    have g6 : FrB a H6 H6 := fun b u h _ => h
    refine q_putN (o := .tup (sN ((fldsOf W).filter fun _ => true))) (en_tupOf (el_each (K := K) (σ := [some (.ref a), some (.ref l), some (.ref pd), none, none, none, none, none]) (vs := [7]) (j := 7) (tl := (tFld K (tVar 0) "fields")) (t := tYes) (te := tFld K (tVar 7) "name") wk_tup (es := fldsOf W) (c := fun e => .ref e.m) (fun _ => true) (fun e => .str e.mv.name) (ev_fld (ev_var rfl) a6 T.cls T.a_fields lkEq) (st_of (pf r6 g6)) lfl (fun _ => rfl) (fun e he H1 e1 => fun H2 _ Q q => q H2 (Ex.refl H2)) (fun e he H1 e1 hf => ev_mname T (ev_var rfl) ((mm r6 e (fW e he).1).ex e1)))) (fun _ _ => ev_var rfl) a6 T.cls T.a_field_names (by omega) fun p7 H7 np7 a7 h7 f7 => ?_
    have r7 : FrB a H2 H7 := FrB.trans r6 f7
    have L7 : (putF "field_names" (.ref p7) (putF "fields" (.ref p6) (putF "_other_members" (.ref p5) (putF "_shared" (.ref p4) (putF "_data" (.ref pd) fs))))).length ≤ fs.length + 5 := by have := length_putF "field_names" (.ref p7) (putF "fields" (.ref p6) (putF "_other_members" (.ref p5) (putF "_shared" (.ref p4) (putF "_data" (.ref pd) fs)))); omega
    have g7 : FrB a H6 H7 := FrB.trans g6 f7
    refine q_putN (o := .tup (sN ((fldsOf W).filter fun e => e.mv.cmp))) (en_tupOf (el_each (K := K) (σ := [some (.ref a), some (.ref l), some (.ref pd), none, none, none, none, none]) (vs := [7]) (j := 7) (tl := (tFld K (tVar 0) "fields")) (t := tB (tFld K (tVar 7) "compare")) (te := tFld K (tVar 7) "name") wk_tup (es := fldsOf W) (c := fun e => .ref e.m) (fun e => e.mv.cmp) (fun e => .str e.mv.name) (ev_fld (ev_var rfl) a7 T.cls T.a_fields ((lkNe (by decide +kernel)).trans lkEq)) (st_of (pf r7 g7)) lfl (fun _ => rfl) (fun e he H1 e1 => et_B (ev_matt T (ev_var rfl) ((mm r7 e (fW e he).1).ex e1) (cmp_att (fW e he).2.2 (mm r7 e (fW e he).1).1))) (fun e he H1 e1 hf => ev_mname T (ev_var rfl) ((mm r7 e (fW e he).1).ex e1)))) (fun _ _ => ev_var rfl) a7 T.cls T.a_compare_names (by omega) fun p8 H8 np8 a8 h8 f8 => ?_
    have r8 : FrB a H2 H8 := FrB.trans r7 f8
    have L8 : (putF "compare_names" (.ref p8) (putF "field_names" (.ref p7) (putF "fields" (.ref p6) (putF "_other_members" (.ref p5) (putF "_shared" (.ref p4) (putF "_data" (.ref pd) fs)))))).length ≤ fs.length + 6 := by have := length_putF "compare_names" (.ref p8) (putF "field_names" (.ref p7) (putF "fields" (.ref p6) (putF "_other_members" (.ref p5) (putF "_shared" (.ref p4) (putF "_data" (.ref pd) fs))))); omega
    have g8 : FrB a H6 H8 := FrB.trans g7 f8
    refine q_putN (o := .tup (sN ((fldsOf W).filter fun e => e.mv.shw))) (en_tupOf (el_each (K := K) (σ := [some (.ref a), some (.ref l), some (.ref pd), none, none, none, none, none]) (vs := [7]) (j := 7) (tl := (tFld K (tVar 0) "fields")) (t := tB (tFld K (tVar 7) "show")) (te := tFld K (tVar 7) "name") wk_tup (es := fldsOf W) (c := fun e => .ref e.m) (fun e => e.mv.shw) (fun e => .str e.mv.name) (ev_fld (ev_var rfl) a8 T.cls T.a_fields ((lkNe (by decide +kernel)).trans ((lkNe (by decide +kernel)).trans lkEq))) (st_of (pf r8 g8)) lfl (fun _ => rfl) (fun e he H1 e1 => et_B (ev_matt T (ev_var rfl) ((mm r8 e (fW e he).1).ex e1) (shw_att (fW e he).2.2 (mm r8 e (fW e he).1).1))) (fun e he H1 e1 hf => ev_mname T (ev_var rfl) ((mm r8 e (fW e he).1).ex e1)))) (fun _ _ => ev_var rfl) a8 T.cls T.a_show_names (by omega) fun p9 H9 np9 a9 h9 f9 => ?_
    have r9 : FrB a H2 H9 := FrB.trans r8 f9
    have L9 : (putF "show_names" (.ref p9) (putF "compare_names" (.ref p8) (putF "field_names" (.ref p7) (putF "fields" (.ref p6) (putF "_other_members" (.ref p5) (putF "_shared" (.ref p4) (putF "_data" (.ref pd) fs))))))).length ≤ fs.length + 7 := by have := length_putF "show_names" (.ref p9) (putF "compare_names" (.ref p8) (putF "field_names" (.ref p7) (putF "fields" (.ref p6) (putF "_other_members" (.ref p5) (putF "_shared" (.ref p4) (putF "_data" (.ref pd) fs)))))); omega
    have g9 : FrB a H6 H9 := FrB.trans g8 f9
    refine q_putN (o := .tup (sN ((fldsOf W).filter fun e => e.mv.isKey))) (en_tupOf (el_each (K := K) (σ := [some (.ref a), some (.ref l), some (.ref pd), none, none, none, none, none]) (vs := [7]) (j := 7) (tl := (tFld K (tVar 0) "fields")) (t := tB (tMeth (kF K) "is_key" (spIsKey K) [] E0 (tVar 7) tNil)) (te := tFld K (tVar 7) "name") wk_tup (es := fldsOf W) (c := fun e => .ref e.m) (fun e => e.mv.isKey) (fun e => .str e.mv.name) (ev_fld (ev_var rfl) a9 T.cls T.a_fields ((lkNe (by decide +kernel)).trans ((lkNe (by decide +kernel)).trans ((lkNe (by decide +kernel)).trans lkEq)))) (st_of (pf r9 g9)) lfl (fun _ => rfl) (fun e he H1 e1 => et_B (ev_isKey T (ev_var rfl) ((mm r9 e (fW e he).1).ex e1) (fW e he).2.2)) (fun e he H1 e1 hf => ev_mname T (ev_var rfl) ((mm r9 e (fW e he).1).ex e1)))) (fun _ _ => ev_var rfl) a9 T.cls T.a_key_names (by omega) fun p10 H10 np10 a10 h10 f10 => ?_
    have r10 : FrB a H2 H10 := FrB.trans r9 f10
    have L10 : (putF "key_names" (.ref p10) (putF "show_names" (.ref p9) (putF "compare_names" (.ref p8) (putF "field_names" (.ref p7) (putF "fields" (.ref p6) (putF "_other_members" (.ref p5) (putF "_shared" (.ref p4) (putF "_data" (.ref pd) fs)))))))).length ≤ fs.length + 8 := by have := length_putF "key_names" (.ref p10) (putF "show_names" (.ref p9) (putF "compare_names" (.ref p8) (putF "field_names" (.ref p7) (putF "fields" (.ref p6) (putF "_other_members" (.ref p5) (putF "_shared" (.ref p4) (putF "_data" (.ref pd) fs))))))); omega
    have g10 : FrB a H6 H10 := FrB.trans g9 f10
    refine q_putN (o := .lst (rM ((dataOf W).filter fun e => !e.mv.isFld))) (el_pairs (K := K) (σ := [some (.ref a), some (.ref l), some (.ref pd), none, none, none, none, none]) (vs := [3, 5]) (j1 := 3) (j2 := 5) (tl := (tVar 2)) (t := tB (tCB (rIsi K) (tCons (tVar 3) (tCons (tC (.ref (ga K "InitOnly"))) tNil)))) (te := tVar 3) (ts := us) (es := dataOf W) (c := fun e => (.ref e.m, .bl (nmOf ki e))) (fun e => !e.mv.isFld) (fun e => .ref e.m) (ev_var rfl) (sq_of (ld r10)) (pD r10) ldl (fun _ _ => rfl) (fun e he H1 e1 => et_B (ev_isIni T (ev_var rfl) ((mm r10 e (dW e he).1).ex e1) (dW e he).2)) (fun e he H1 e1 hf => ev_var rfl)) (fun _ _ => ev_var rfl) a10 T.cls T.a__init_only (by omega) fun p11 H11 np11 a11 h11 f11 => ?_
    have r11 : FrB a H2 H11 := FrB.trans r10 f11
    have L11 : (putF "_init_only" (.ref p11) (putF "key_names" (.ref p10) (putF "show_names" (.ref p9) (putF "compare_names" (.ref p8) (putF "field_names" (.ref p7) (putF "fields" (.ref p6) (putF "_other_members" (.ref p5) (putF "_shared" (.ref p4) (putF "_data" (.ref pd) fs))))))))).length ≤ fs.length + 9 := by have := length_putF "_init_only" (.ref p11) (putF "key_names" (.ref p10) (putF "show_names" (.ref p9) (putF "compare_names" (.ref p8) (putF "field_names" (.ref p7) (putF "fields" (.ref p6) (putF "_other_members" (.ref p5) (putF "_shared" (.ref p4) (putF "_data" (.ref pd) fs)))))))); omega
    have g11 : FrB a H6 H11 := FrB.trans g10 f11
    refine q_putN (o := .lst (rM (posOf ki W))) (el_pairs (K := K) (σ := [some (.ref a), some (.ref l), some (.ref pd), none, none, none, none, none]) (vs := [3, 6]) (j1 := 3) (j2 := 6) (tl := (tVar 2)) (t := tAnd (tB (tMdyn (ParC K) "is_parameter" E0 (tVar 3))) (tNot (tB (tVar 6)))) (te := tVar 3) (ts := us) (es := dataOf W) (c := fun e => (.ref e.m, .bl (nmOf ki e))) (fun e => e.mv.isPar && !nmOf ki e) (fun e => .ref e.m) (ev_var rfl) (sq_of (ld r11)) (pD r11) ldl (fun _ _ => rfl) (fun e he H1 e1 => et_and (et_B (ev_isPar T (ev_var rfl) ((mm r11 e (dW e he).1).ex e1) (dW e he).2)) fun _ => et_not (et_B (ev_var rfl))) (fun e he H1 e1 hf => ev_var rfl)) (fun _ _ => ev_var rfl) a11 T.cls T.a__by_position (by omega) fun p12 H12 np12 a12 h12 f12 => ?_
    have r12 : FrB a H2 H12 := FrB.trans r11 f12
    have L12 : (putF "_by_position" (.ref p12) (putF "_init_only" (.ref p11) (putF "key_names" (.ref p10) (putF "show_names" (.ref p9) (putF "compare_names" (.ref p8) (putF "field_names" (.ref p7) (putF "fields" (.ref p6) (putF "_other_members" (.ref p5) (putF "_shared" (.ref p4) (putF "_data" (.ref pd) fs)))))))))).length ≤ fs.length + 10 := by have := length_putF "_by_position" (.ref p12) (putF "_init_only" (.ref p11) (putF "key_names" (.ref p10) (putF "show_names" (.ref p9) (putF "compare_names" (.ref p8) (putF "field_names" (.ref p7) (putF "fields" (.ref p6) (putF "_other_members" (.ref p5) (putF "_shared" (.ref p4) (putF "_data" (.ref pd) fs))))))))); omega
    have g12 : FrB a H6 H12 := FrB.trans g11 f12
    refine q_putN (o := .lst (rM (namOf ki W))) (el_pairs (K := K) (σ := [some (.ref a), some (.ref l), some (.ref pd), none, none, none, none, none]) (vs := [3, 6]) (j1 := 3) (j2 := 6) (tl := (tVar 2)) (t := tAnd (tB (tMdyn (ParC K) "is_parameter" E0 (tVar 3))) (tB (tVar 6))) (te := tVar 3) (ts := us) (es := dataOf W) (c := fun e => (.ref e.m, .bl (nmOf ki e))) (fun e => e.mv.isPar && nmOf ki e) (fun e => .ref e.m) (ev_var rfl) (sq_of (ld r12)) (pD r12) ldl (fun _ _ => rfl) (fun e he H1 e1 => et_and (et_B (ev_isPar T (ev_var rfl) ((mm r12 e (dW e he).1).ex e1) (dW e he).2)) fun _ => et_B (ev_var rfl)) (fun e he H1 e1 hf => ev_var rfl)) (fun _ _ => ev_var rfl) a12 T.cls T.a__by_name (by omega) fun p13 H13 np13 a13 h13 f13 => ?_
    have r13 : FrB a H2 H13 := FrB.trans r12 f13
    have L13 : (putF "_by_name" (.ref p13) (putF "_by_position" (.ref p12) (putF "_init_only" (.ref p11) (putF "key_names" (.ref p10) (putF "show_names" (.ref p9) (putF "compare_names" (.ref p8) (putF "field_names" (.ref p7) (putF "fields" (.ref p6) (putF "_other_members" (.ref p5) (putF "_shared" (.ref p4) (putF "_data" (.ref pd) fs))))))))))).length ≤ fs.length + 11 := by have := length_putF "_by_name" (.ref p13) (putF "_by_position" (.ref p12) (putF "_init_only" (.ref p11) (putF "key_names" (.ref p10) (putF "show_names" (.ref p9) (putF "compare_names" (.ref p8) (putF "field_names" (.ref p7) (putF "fields" (.ref p6) (putF "_other_members" (.ref p5) (putF "_shared" (.ref p4) (putF "_data" (.ref pd) fs)))))))))); omega
    have g13 : FrB a H6 H13 := FrB.trans g12 f13
    have hcat : EvN (tOp rCat (tFld K (tVar 0) "_by_position") (tFld K (tVar 0) "_by_name")) [some (.ref a), some (.ref l), some (.ref pd), none, none, none, none, none] H13 (.lst (rM (posOf ki W ++ namOf ki W))) := by
      have := en_cat (σ := [some (.ref a), some (.ref l), some (.ref pd), none, none, none, none, none]) (ta := tFld K (tVar 0) "_by_position") (tb := tFld K (tVar 0) "_by_name") (ev_fld (ev_var rfl) a13 T.cls T.a__by_position ((lkNe (by decide +kernel)).trans lkEq)) (ev_fld (ev_var rfl) a13 T.cls T.a__by_name lkEq) (f13 _ _ h12 (ne_of h12 a12 (by intro z; cases z))) h13 (by have h1 := ptr fun e => e.mv.isPar && !nmOf ki e; have h2 := ptr fun e => e.mv.isPar && nmOf ki e; unfold rM posOf namOf; rw [List.length_map, List.length_map]; omega)
      unfold rM at this ⊢
      rw [List.map_append]
      exact this
    refine q_putN (o := .lst (rM (posOf ki W ++ namOf ki W))) (hcat) (fun _ _ => ev_var rfl) a13 T.cls T.a__parameters (by omega) fun p14 H14 np14 a14 h14 f14 => ?_
    have r14 : FrB a H2 H14 := FrB.trans r13 f14
    have L14 : (putF "_parameters" (.ref p14) (putF "_by_name" (.ref p13) (putF "_by_position" (.ref p12) (putF "_init_only" (.ref p11) (putF "key_names" (.ref p10) (putF "show_names" (.ref p9) (putF "compare_names" (.ref p8) (putF "field_names" (.ref p7) (putF "fields" (.ref p6) (putF "_other_members" (.ref p5) (putF "_shared" (.ref p4) (putF "_data" (.ref pd) fs)))))))))))).length ≤ fs.length + 12 := by have := length_putF "_parameters" (.ref p14) (putF "_by_name" (.ref p13) (putF "_by_position" (.ref p12) (putF "_init_only" (.ref p11) (putF "key_names" (.ref p10) (putF "show_names" (.ref p9) (putF "compare_names" (.ref p8) (putF "field_names" (.ref p7) (putF "fields" (.ref p6) (putF "_other_members" (.ref p5) (putF "_shared" (.ref p4) (putF "_data" (.ref pd) fs))))))))))); omega
    have g14 : FrB a H6 H14 := FrB.trans g13 f14
    refine s_putN (o := .lst (sN ((posOf ki W ++ namOf ki W).filter fun _ => true))) (el_each (K := K) (σ := [some (.ref a), some (.ref l), some (.ref pd), none, none, none, none, none]) (vs := [3]) (j := 3) (tl := (tFld K (tVar 0) "_parameters")) (t := tYes) (te := tFld K (tVar 3) "name") wk_list (es := posOf ki W ++ namOf ki W) (c := fun e => .ref e.m) (fun _ => true) (fun e => .str e.mv.name) (ev_fld (ev_var rfl) a14 T.cls T.a__parameters lkEq) (sq_of h14) (by have h1 := ptr fun e => e.mv.isPar && !nmOf ki e; have h2 := ptr fun e => e.mv.isPar && nmOf ki e; rw [List.length_append]; unfold posOf namOf; omega) (fun _ => rfl) (fun e he H1 e1 => fun H2 _ Q q => q H2 (Ex.refl H2)) (fun e he H1 e1 hf => ev_mname T (ev_var rfl) ((mm r14 e (pW e he)).ex e1))) (fun _ _ => ev_var rfl) a14 T.cls T.a__parameter_names (by omega) fun p15 H15 np15 a15 h15 f15 => ?_
    have r15 : FrB a H2 H15 := FrB.trans r14 f15
    have L15 : (putF "_parameter_names" (.ref p15) (putF "_parameters" (.ref p14) (putF "_by_name" (.ref p13) (putF "_by_position" (.ref p12) (putF "_init_only" (.ref p11) (putF "key_names" (.ref p10) (putF "show_names" (.ref p9) (putF "compare_names" (.ref p8) (putF "field_names" (.ref p7) (putF "fields" (.ref p6) (putF "_other_members" (.ref p5) (putF "_shared" (.ref p4) (putF "_data" (.ref pd) fs))))))))))))).length ≤ fs.length + 13 := by have := length_putF "_parameter_names" (.ref p15) (putF "_parameters" (.ref p14) (putF "_by_name" (.ref p13) (putF "_by_position" (.ref p12) (putF "_init_only" (.ref p11) (putF "key_names" (.ref p10) (putF "show_names" (.ref p9) (putF "compare_names" (.ref p8) (putF "field_names" (.ref p7) (putF "fields" (.ref p6) (putF "_other_members" (.ref p5) (putF "_shared" (.ref p4) (putF "_data" (.ref pd) fs)))))))))))); omega
    have g15 : FrB a H6 H15 := FrB.trans g14 f15
    have q15 : FrB a H15 H15 := fun b u h _ => h
    have q14 : FrB a H14 H15 := FrB.trans f15 q15
    have q13 : FrB a H13 H15 := FrB.trans f14 q14
    have q12 : FrB a H12 H15 := FrB.trans f13 q13
    have q11 : FrB a H11 H15 := FrB.trans f12 q12
    have q10 : FrB a H10 H15 := FrB.trans f11 q11
    have q9 : FrB a H9 H15 := FrB.trans f10 q10
    have q8 : FrB a H8 H15 := FrB.trans f9 q9
    have q7 : FrB a H7 H15 := FrB.trans f8 q8
    have q6 : FrB a H6 H15 := FrB.trans f7 q7
    have q5 : FrB a H5 H15 := FrB.trans f6 q6
    have q4 : FrB a H4 H15 := FrB.trans f5 q5
    have nf : ∀ l : List WE, (l.filter fun _ => true) = l := fun l => List.filter_eq_self.mpr fun _ _ => rfl
    refine fin _ H15 a15 ⟨⟨pd, us, ((lkNe (by decide +kernel)).trans ((lkNe (by decide +kernel)).trans ((lkNe (by decide +kernel)).trans ((lkNe (by decide +kernel)).trans ((lkNe (by decide +kernel)).trans ((lkNe (by decide +kernel)).trans ((lkNe (by decide +kernel)).trans ((lkNe (by decide +kernel)).trans ((lkNe (by decide +kernel)).trans ((lkNe (by decide +kernel)).trans ((lkNe (by decide +kernel)).trans ((lkNe (by decide +kernel)).trans lkEq)))))))))))), hpd, ld r15, pD r15⟩,
      ⟨p4, ((lkNe (by decide +kernel)).trans ((lkNe (by decide +kernel)).trans ((lkNe (by decide +kernel)).trans ((lkNe (by decide +kernel)).trans ((lkNe (by decide +kernel)).trans ((lkNe (by decide +kernel)).trans ((lkNe (by decide +kernel)).trans ((lkNe (by decide +kernel)).trans ((lkNe (by decide +kernel)).trans ((lkNe (by decide +kernel)).trans ((lkNe (by decide +kernel)).trans lkEq))))))))))), fresh_back e12 (fr_fresh r3 a3 np4), q4 _ _ h4 (ne_of_none a3 np4).symm⟩,
      ⟨p5, ((lkNe (by decide +kernel)).trans ((lkNe (by decide +kernel)).trans ((lkNe (by decide +kernel)).trans ((lkNe (by decide +kernel)).trans ((lkNe (by decide +kernel)).trans ((lkNe (by decide +kernel)).trans ((lkNe (by decide +kernel)).trans ((lkNe (by decide +kernel)).trans ((lkNe (by decide +kernel)).trans ((lkNe (by decide +kernel)).trans lkEq)))))))))), fresh_back e12 (fr_fresh r4 a4 np5), q5 _ _ h5 (ne_of_none a4 np5).symm⟩,
      ⟨p6, ((lkNe (by decide +kernel)).trans ((lkNe (by decide +kernel)).trans ((lkNe (by decide +kernel)).trans ((lkNe (by decide +kernel)).trans ((lkNe (by decide +kernel)).trans ((lkNe (by decide +kernel)).trans ((lkNe (by decide +kernel)).trans ((lkNe (by decide +kernel)).trans ((lkNe (by decide +kernel)).trans lkEq))))))))), fresh_back e12 (fr_fresh r5 a5 np6), q6 _ _ h6 (ne_of_none a5 np6).symm⟩,
      ⟨p7, ((lkNe (by decide +kernel)).trans ((lkNe (by decide +kernel)).trans ((lkNe (by decide +kernel)).trans ((lkNe (by decide +kernel)).trans ((lkNe (by decide +kernel)).trans ((lkNe (by decide +kernel)).trans ((lkNe (by decide +kernel)).trans ((lkNe (by decide +kernel)).trans lkEq)))))))), fresh_back e12 (fr_fresh r6 a6 np7), (by have := q7 _ _ h7 (ne_of_none a6 np7).symm; rwa [nf] at this)⟩,
      ⟨p8, ((lkNe (by decide +kernel)).trans ((lkNe (by decide +kernel)).trans ((lkNe (by decide +kernel)).trans ((lkNe (by decide +kernel)).trans ((lkNe (by decide +kernel)).trans ((lkNe (by decide +kernel)).trans ((lkNe (by decide +kernel)).trans lkEq))))))), fresh_back e12 (fr_fresh r7 a7 np8), q8 _ _ h8 (ne_of_none a7 np8).symm⟩,
      ⟨p9, ((lkNe (by decide +kernel)).trans ((lkNe (by decide +kernel)).trans ((lkNe (by decide +kernel)).trans ((lkNe (by decide +kernel)).trans ((lkNe (by decide +kernel)).trans ((lkNe (by decide +kernel)).trans lkEq)))))), fresh_back e12 (fr_fresh r8 a8 np9), q9 _ _ h9 (ne_of_none a8 np9).symm⟩,
      ⟨p10, ((lkNe (by decide +kernel)).trans ((lkNe (by decide +kernel)).trans ((lkNe (by decide +kernel)).trans ((lkNe (by decide +kernel)).trans ((lkNe (by decide +kernel)).trans lkEq))))), fresh_back e12 (fr_fresh r9 a9 np10), q10 _ _ h10 (ne_of_none a9 np10).symm⟩,
      ⟨p11, ((lkNe (by decide +kernel)).trans ((lkNe (by decide +kernel)).trans ((lkNe (by decide +kernel)).trans ((lkNe (by decide +kernel)).trans lkEq)))), fresh_back e12 (fr_fresh r10 a10 np11), q11 _ _ h11 (ne_of_none a10 np11).symm⟩,
      ⟨p12, ((lkNe (by decide +kernel)).trans ((lkNe (by decide +kernel)).trans ((lkNe (by decide +kernel)).trans lkEq))), fresh_back e12 (fr_fresh r11 a11 np12), q12 _ _ h12 (ne_of_none a11 np12).symm⟩,
      ⟨p13, ((lkNe (by decide +kernel)).trans ((lkNe (by decide +kernel)).trans lkEq)), fresh_back e12 (fr_fresh r12 a12 np13), q13 _ _ h13 (ne_of_none a12 np13).symm⟩,
      ⟨p14, ((lkNe (by decide +kernel)).trans lkEq), fresh_back e12 (fr_fresh r13 a13 np14), q14 _ _ h14 (ne_of_none a13 np14).symm⟩,
      ⟨p15, lkEq, fresh_back e12 (fr_fresh r14 a14 np15), (by have := q15 _ _ h15 (ne_of_none a14 np15).symm; rwa [nf] at this)⟩⟩ (fun g hg => ?_) L15 (FrB.trans fr12 r15)
    simp only [wholeKeys, List.mem_cons, List.not_mem_nil, or_false, not_or] at hg
    obtain ⟨g1, g2, g3, g4, g5, g6, g7, g8, g9, g10, g11, g12, g13⟩ := hg
    rw [lkNe g13, lkNe g12, lkNe g11, lkNe g10, lkNe g9, lkNe g8, lkNe g7, lkNe g6, lkNe g5, lkNe g4, lkNe g3, lkNe g2, lkNe g1]
end
end K17
end

section
set_option Elab.async false
set_option linter.all false
set_option maxRecDepth 100000
set_option maxHeartbeats 4000000
namespace K17
open PySem PySem.Spec PyProof.Rows L2 He Cn Evl
/-! ### the kind's own members and hook -/
def hkV : Option Addr → V
  | some a => .ref a
  | none => .non
def owAttrs (h : V) (m d : Addr) : List (Str × V) := [("own_hook", h), ("own_members", .ref m), ("own_methods", .ref d)]
def owNames : List Str := ["own_hook", "own_members", "own_methods"]
theorem ow_nd (h : V) (m d : Addr) : ((owAttrs h m d).map (·.1)).Nodup := by
  have e : (owAttrs h m d).map (·.1) = owNames := rfl
  rw [e]
  decide +kernel
/-- the method of that name -/
def mthOf (ms : Mems) (s : Str) : Option Addr := (ms.find? fun x => decide (x.2.sort = ("method" : Str)) && decide (x.2.name = s)).map (·.1)
/-- the dict of own methods -/
def MthOk (md : Kvs) (ms : Mems) : Prop := md.length ≤ ms.length ∧ ∀ s : Str, valV md (.inr s) = (mthOf ms s).map V.ref
theorem msOf_len (its : Its) : (msOf its).length ≤ its.length := List.length_filterMap_le ..
theorem msOf_names {its : Its} (nd : (inames its).Nodup) : (mnames (msOf its)).Nodup := by
  have h : (mnames (msOf its)).map V.str = (inames its).filter fun v => decide (v ≠ .non) := by
    clear nd
    induction its with
    | nil => rfl
    | cons x r ih =>
      obtain ⟨a, it⟩ := x
      cases it with
      | none =>
        have e1 : msOf ((a, none) :: r) = msOf r := rfl
        rw [e1, ih]
        show _ = (V.non :: inames r).filter _
        rw [List.filter_cons]
        simp
      | some mv =>
        have e1 : msOf ((a, some mv) :: r) = (a, mv) :: msOf r := rfl
        rw [e1]
        show V.str mv.name :: (mnames (msOf r)).map V.str = (V.str mv.name :: inames r).filter _
        rw [List.filter_cons, ih]
        simp
  have h2 : ((mnames (msOf its)).map V.str).Nodup := by rw [h]; exact nd.filter _
  exact List.Pairwise.of_map V.str (fun a b h e => h (by rw [e])) h2
theorem mem_msOf {its : Its} {y : Addr × MemV} (h : y ∈ msOf its) : (y.1, some y.2) ∈ its := by
  unfold msOf at h
  obtain ⟨x, hx, e⟩ := List.mem_filterMap.mp h
  obtain ⟨a, it⟩ := x
  cases it with
  | none => cases e
  | some mv =>
    have e : (a, mv) = y := Option.some.inj e
    rw [← e]
    exact hx
theorem mthOk_of {ms : Mems} (nd : (mnames ms).Nodup) {f : Nat → Bool} {k : Nat → L2.Key} {v : Nat → V} (hf : ∀ (i : Nat) y, ms[i]? = some y → f i = decide (y.2.sort = ("method" : Str))) (hk : ∀ (i : Nat) y, ms[i]? = some y → k i = .inr y.2.name) (hv : ∀ (i : Nat) y, ms[i]? = some y → v i = .ref y.1) :
    MthOk (dgiven ms.length f k v) ms := by
  refine ⟨dgiven_len, ?_⟩
  have step : ∀ i, i ≤ ms.length → ∀ s : Str, valV (dgiven i f k v) (.inr s) = (mthOf (ms.take i) s).map V.ref := by
    intro i
    induction i with
    | zero => intro _ s; rfl
    | succ i ih =>
      intro hi s
      have ih := ih (by omega) s
      obtain ⟨y, hy⟩ := at_some (l := ms) (i := i) (by omega)
      have hrg : dgiven (i + 1) f k v = if f i = true then putK (dgiven i f k v) (k i) (v i) else dgiven i f k v := by
        unfold dgiven
        rw [List.range_succ, List.filter_append]
        cases hb : f i with
        | true => simp [hb]
        | false => simp [hb]
      have ht : ms.take (i + 1) = ms.take i ++ [y] := by rw [List.take_add_one, hy]; rfl
      have hm : mthOf (ms.take (i + 1)) s = (mthOf (ms.take i) s).or (if y.2.sort = ("method" : Str) ∧ y.2.name = s then some y.1 else none) := by
        unfold mthOf
        rw [ht, List.find?_append]
        by_cases q : y.2.sort = ("method" : Str) ∧ y.2.name = s
        · rw [if_pos q]
          cases ((ms.take i).find? fun x => decide (x.2.sort = ("method" : Str)) && decide (x.2.name = s)) <;> simp [List.find?, q.1, q.2]
        · rw [if_neg q]
          have : ([y].find? fun x => decide (x.2.sort = ("method" : Str)) && decide (x.2.name = s)) = none := by
            rw [List.find?_eq_none]
            intro z hz
            obtain rfl := List.mem_singleton.mp hz
            simpa using fun a b => q ⟨a, b⟩
          rw [this]
          cases ((ms.take i).find? fun x => decide (x.2.sort = ("method" : Str)) && decide (x.2.name = s)) <;> simp
      rw [hrg, hm, hf i y hy]
      by_cases q : y.2.sort = ("method" : Str)
      · rw [if_pos (decide_eq_true q), hk i y hy, hv i y hy, valV_put]
        by_cases q2 : (.inr s : L2.Key) = .inr y.2.name
        · have q3 : s = y.2.name := Sum.inr.inj q2
          have none_ : mthOf (ms.take i) s = none := by
            unfold mthOf
            rw [Option.map_eq_none_iff, List.find?_eq_none]
            intro z hz
            have : z.2.name ≠ y.2.name := fun e => nodup_take nd hy (by
              unfold mnames
              rw [← e]
              exact List.mem_map.mpr ⟨z, hz, rfl⟩)
            rw [q3]
            simp [this]
          rw [if_pos q2, none_, if_pos ⟨q, q3.symm⟩]
          rfl
        · have q3 : ¬ (y.2.sort = ("method" : Str) ∧ y.2.name = s) := fun z => q2 (by rw [z.2])
          rw [if_neg q2, ih, if_neg q3, Option.or_none]
      · have q3 : ¬ (y.2.sort = ("method" : Str) ∧ y.2.name = s) := fun z => q z.1
        rw [if_neg (by rw [decide_eq_false q]; simp), ih, if_neg q3, Option.or_none]
  intro s
  have := step ms.length (Nat.le_refl _) s
  rwa [List.take_length] at this
section
variable {P : Program} {w : World} {K : PySem.W.Frag} {mg : Str → Option Value} {base : Heap}
def spSetOwn (K : PySem.W.Frag) : Sp := fun vs H Q _ => ∃ (a t dx : Addr) (fs : List (Str × V)) (its : Its), vs = [.ref a, .ref t] ∧ H a = some (.ins (kC K) dx fs) ∧ SqT K H t (refs (iaddr its)) ∧ t ≠ a ∧ ItsAt K (del H a) its ∧ (inames its).Nodup ∧ its.length ≤ 100 ∧ fs.length ≤ 900 ∧
  ∀ m d md H', H m = none → H d = none → m ≠ a → d ≠ a → H' a = some (.ins (kC K) dx (puts (owAttrs (hkV (hkOf its)) m d) fs)) → H' m = some (.tup (refs (maddr (msOf its)))) → H' d = some (.dK md) → MthOk md (msOf its) → FrB a H H' → Q .non H'
theorem hk_list (its : Its) : ((its.filter fun x => x.2.isNone).map fun x => V.ref x.1) = match hkOf its with
    | some a => .ref a :: ((its.filter fun x => x.2.isNone).map fun x => V.ref x.1).tail
    | none => [] := by
  unfold hkOf
  induction its with
  | nil => rfl
  | cons x r ih =>
    obtain ⟨a, it⟩ := x
    cases it with
    | none => rfl
    | some mv => exact ih
theorem ms_list (its : Its) : ((its.filter fun x => !x.2.isNone).map fun x => V.ref x.1) = refs (maddr (msOf its)) := by
  induction its with
  | nil => rfl
  | cons x r ih =>
    obtain ⟨a, it⟩ := x
    cases it with
    | none => exact ih
    | some mv => exact congrArg (V.ref a :: ·) ih
theorem can_setOwn (T : Txt K mg) : ∃ fd, FnOk P w K mg base CX0 1 (ma K (kC K) "_set_own") fd ["self", "members"] (spSetOwn K) ∧ Binds K fd ["self", "members"] [] := by
  obtain ⟨fd, F⟩ := T.F_Kind__set_own
  refine ⟨fd, F.ok sc_Kind__set_own (fun vs H Q E h => ?_) (fun cdv A outer s H vs Q E hr h => ?_), F.binds (ps := ["self", "members"]) fun _ _ _ _ _ _ us hl => match us, hl with | [_, _], _ => rfl⟩
  · obtain ⟨a, d, dx, fs, its, rfl, _⟩ := h
    rfl
  · obtain ⟨a, t, dx, fs, its, rfl, ha, ht, hta, hms, ndn, hml, hl, fin⟩ := h
    have nd := sc_Kind__set_own.nd
    refine ⟨_, pss_cons (ps_setLc (i := 2) (own := [("member", 3)]) (wi := iTup K (tVar 1)) (g := gName 3) (tt := tB (tCB (rIsi K) (tCons (tVar 3) (tCons (tC (.ref (ga K "Hook"))) tNil)))) (te := tVar 3) rfl nd rfl rfl (sw_true rfl rfl rfl (by decide +kernel)) (pi_tup (pv 1)) (blkOk_by (N := ["self", "members", "hooks", "member"]) (sc := defScope s_Kind__set_own) (by decide +kernel)) (fun _ _ _ _ _ => pg_name (i := 3) nd rfl (.inl rfl)) (fun _ _ _ _ _ => pts_one (pt_val (pe_callB call_isi (by rfl) T.n_isinstance (by decide +kernel) (pa_cons (pv 3) (pa_cons (pe_glob rfl T.g_Hook (v := .ref (ga K "Hook")) rfl) pa_nil))))) (fun _ _ _ _ _ => pv 3))
      (pss_cons (ps_fld (pv 0) (pe_ifExp (pt_truth (pv 2) (by intro _; rfl)) (pe_ix ix_list (pv 2) pe_int (fun _ _ => rfl)) pe_non) rfl)
      (pss_cons (ps_fld (pv 0) (pe_callTy call_tuple_of (by rfl) T.n_tuple (by decide +kernel) (pa_cons (pe_lc (own := [("member", 3)]) (wi := iTup K (tVar 1)) (g := gName 3) (tt := tNot (tB (tCB (rIsi K) (tCons (tVar 3) (tCons (tC (.ref (ga K "Hook"))) tNil))))) (te := tVar 3) rfl nd (pi_tup (pv 1)) (blkOk_by (N := ["self", "members", "hooks", "member"]) (sc := defScope s_Kind__set_own) (by decide +kernel)) (fun _ _ _ _ _ => pg_name (i := 3) nd rfl (.inl rfl)) (fun _ _ _ _ _ => pts_one (pt_not (pt_val (pe_callB call_isi (by rfl) T.n_isinstance (by decide +kernel) (pa_cons (pv 3) (pa_cons (pe_glob rfl T.g_Hook (v := .ref (ga K "Hook")) rfl) pa_nil)))))) (fun _ _ _ _ _ => pv 3)) pa_nil)) rfl)
      (pss_one (ps_fld (pv 0) (pe_dc (own := [("member", 3)]) (wi := iTup K (tFld K (tVar 0) "own_members")) (g := gName 3) (tt := tTest (tOp rEq (tCon K (tVar 3) "SORT") (tC (.str "method")))) (tk := tFld K (tVar 3) "name") (tv := tVar 3) rfl nd (pi_tup (pe_fld (pv 0) rfl)) (blkOk_by (N := ["self", "members", "hooks", "member"]) (sc := defScope s_Kind__set_own) (by decide +kernel)) (fun _ _ _ _ _ => pg_name (i := 3) nd rfl (.inl rfl)) (fun _ _ _ _ _ => pts_one (pt_cmpR op_eq (pe_con (pv 3) rfl) pe_str (nomark _))) (fun _ _ _ _ _ => pe_fld (pv 3) rfl) (fun _ _ _ _ _ => pv 3)) rfl)))), ?_⟩
    have hm0 : ∀ {H1 : Hp}, FrB a H H1 → ItsAt K H1 its := fun f x hx => by
      have h1 := hms x hx
      obtain ⟨b, it⟩ := x
      cases it with
      | some mv =>
        obtain ⟨ho, dx', fs', h1, h2⟩ := h1
        have hne : b ≠ a := fun q => by
          subst q
          rw [del_same] at h1
          cases h1
        rw [del_ne hne] at h1
        exact ⟨ho, dx', fs', f _ _ h1 hne, h2⟩
      | none =>
        obtain ⟨dx', fs', h1⟩ := h1
        have hne : b ≠ a := fun q => by
          subst q
          rw [del_same] at h1
          cases h1
        rw [del_ne hne] at h1
        exact ⟨dx', fs', f _ _ h1 hne⟩
    have r0 : FrB a H H := fun b u h _ => h
    have er : refs (iaddr its) = its.map fun x => V.ref x.1 := by unfold refs iaddr; rw [List.map_map]; rfl
    rw [er] at ht
    refine q_asgL (el_each (K := K) wk_tup (tl := tVar 1) (q := t) (es := its) (c := fun x => V.ref x.1) (σ := [some (.ref a), some (.ref t), none, none]) (H := H) (j := 3) (vs := [3]) (fun x => x.2.isNone) (fun x => V.ref x.1) (ev_var rfl) ht (by omega) (fun _ => rfl) (fun x hx H1 e => et_B (ev_isHk T (ev_var rfl) ((hm0 r0 x hx).ex e))) (fun x hx H1 e _ => ev_var rfl)) fun ph H1 hph e1' h1 => ?_
    have a1 := e1' _ _ ha
    have r1 : FrB a H H1 := fun b u hb hba => e1' _ _ hb
    have len : ∀ (f : Str) (v : V) (gs : List (Str × V)) (n : Nat), gs.length ≤ n → (putF f v gs).length ≤ n + 1 := fun f v gs n h => by have := length_putF f v gs; omega
    rw [hk_list] at h1
    refine q_putV (v := hkV (hkOf its)) (ev_if (b := (hkOf its).isSome) (et_tru (ev_var rfl) fun H2 e2 => .inl ⟨_, sq_of (e2 _ _ h1), ?_⟩) (fun hb => ?_) fun hb => ?_) (fun _ _ => ev_var rfl) a1 T.cls T.a_own_hook (by omega) fun H2 a2 f2 => ?_
    · cases hkOf its <;> rfl
    · cases q : hkOf its with
      | none => rw [q] at hb; cases hb
      | some b =>
        rw [q] at h1
        exact ev_op (ev_var rfl) ev_c (rv_ixL (sq_of h1) (at_of (j := 0) rfl rfl))
    · cases q : hkOf its with
      | none => exact ev_c
      | some b => rw [q] at hb; cases hb
    have r2 : FrB a H H2 := FrB.trans r1 f2
    have t2 : SqT K H2 t (its.map fun x => V.ref x.1) := sqt_fr r2 hta ht
    have m2 := hm0 r2
    have e2 := el_each (K := K) wk_tup (tl := tVar 1) (q := t) (es := its) (c := fun x => V.ref x.1) (σ := [some (.ref a), some (.ref t), some (.ref ph), none]) (H := H2) (t := tNot (tB (tCB (rIsi K) (tCons (tVar 3) (tCons (tC (.ref (ga K "Hook"))) tNil))))) (te := tVar 3) (j := 3) (vs := [3]) (fun x => !x.2.isNone) (fun x => V.ref x.1) (ev_var rfl) t2 (by omega) (fun _ => rfl) (fun x hx H1 e => et_not (et_B (ev_isHk T (ev_var rfl) ((m2 x hx).ex e)))) (fun x hx H1 e _ => ev_var rfl)
    rw [ms_list] at e2
    generalize hms' : msOf its = ms at *
    have msl : ms.length ≤ 100 := by have := msOf_len its; rw [hms'] at this; omega
    have ndm : (mnames ms).Nodup := by rw [← hms']; exact msOf_names ndn
    have memAt : ∀ {H1 : Hp}, FrB a H H1 → MemsAt K H1 ms := fun f x hx => by
      have := hm0 f (x.1, some x.2) (mem_msOf (by rw [hms']; exact hx))
      exact this
    refine q_putN (o := .tup (refs (maddr ms))) (en_tupOf e2) (fun _ _ => ev_var rfl) a2 T.cls T.a_own_members (by have := len "own_hook" (hkV (hkOf its)) fs _ hl; omega) fun m H3 hm a3 h3 f3 => ?_
    have hma : m ≠ a := (ne_of_none a2 hm).symm
    have hmH : H m = none := fr_fresh r2 a2 hm
    have r3 : FrB a H H3 := FrB.trans r2 f3
    have m3 := memAt r3
    have lr : (refs (maddr ms)).length = ms.length := by unfold refs maddr; rw [List.length_map, List.length_map]
    have at_ : ∀ i, i < (refs (maddr ms)).length → ∃ y, ms[i]? = some y ∧ (refs (maddr ms))[i]? = some (.ref y.1) := fun i hi => by
      rw [lr] at hi
      obtain ⟨y, hy⟩ := at_some hi
      refine ⟨y, hy, ?_⟩
      unfold refs maddr
      rw [List.map_map, List.getElem?_map, hy]
      rfl
    let vv : Nat → V := fun i => (refs (maddr ms)).getD i .non
    have hg : ∀ (σ : L2.St) {G : Hp} (i : Nat) (x : V) (H1 : Hp) (Q : L2.St → Hp → Prop), Ex G H1 → (refs (maddr ms))[i]? = some x → Q ((wipe σ [3]).set 3 (some (vv i))) H1 → gName 3 x (wipe σ [3]) H1 Q := fun σ G i x H1 Q _ hx q => by
      have : vv i = x := getD_at hx
      rw [this] at q
      exact q
    have e3 := en_dcX (K := K) wk_tup (tl := tFld K (tVar 0) "own_members") (q := m) (xs := refs (maddr ms)) (σ := [some (.ref a), some (.ref t), some (.ref ph), none]) (H := H3) (g := gName 3) (t := tTest (tOp rEq (tCon K (tVar 3) "SORT") (tC (.str "method")))) (tk := tFld K (tVar 3) "name") (tv := tVar 3) (vs := [3]) (ev_fld (ev_var rfl) a3 T.cls T.a_own_members lkEq) (st_of h3) (fun i => ([some (.ref a), some (.ref t), some (.ref ph), some (vv i)] : L2.St)) (fun i => match ms[i]? with | some y => decide (y.2.sort = "method") | none => false) (fun i => .inr (match ms[i]? with | some y => y.2.name | none => "")) vv (by omega) (fun i x H1 Q e hx q => hg _ i x H1 Q e hx q) (fun i => rfl) (fun i H1 e hi => ?_) (fun i H1 e hi h => ?_) (fun i H1 e hi h => ev_var rfl)
    rotate_left
    · obtain ⟨y, hy, hx⟩ := at_ i hi
      have : vv i = .ref y.1 := getD_at hx
      rw [this, hy]
      refine et_is (et_test (ev_op (ev_msort T (ev_var rfl) ((m3 y (List.mem_of_getElem? hy)).ex e)) ev_c (rv_eq rfl))) ?_
      by_cases q : y.2.sort = "method"
      · simp [q]
      · simp [q]
    · obtain ⟨y, hy, hx⟩ := at_ i hi
      have : vv i = .ref y.1 := getD_at hx
      rw [this, hy]
      exact ev_mname T (ev_var rfl) ((m3 y (List.mem_of_getElem? hy)).ex e)
    refine s_putN e3 (fun _ _ => ev_var rfl) a3 T.cls T.a_own_methods (by have := len "own_members" (.ref m) _ _ (len "own_hook" (hkV (hkOf its)) fs _ hl); omega) fun d H4 hd a4 h4 f4 => ?_
    have hdH : H d = none := fr_fresh r3 a3 hd
    have hda : d ≠ a := (ne_of_none a3 hd).symm
    refine fin m d _ H4 hmH hdH hma hda a4 (f4 _ _ h3 hma) h4 ?_ (FrB.trans r3 f4)
    rw [lr]
    refine mthOk_of ndm (fun i y hy => ?_) (fun i y hy => ?_) fun i y hy => ?_
    · rw [hy]
    · rw [hy]
    · refine getD_at ?_
      unfold refs maddr
      rw [List.map_map, List.getElem?_map, hy]
      rfl
end
end K17
end

section
set_option Elab.async false
set_option linter.all false
set_option maxRecDepth 100000
set_option maxHeartbeats 4000000
namespace K17
open PySem PySem.Spec PyProof.Rows L2 He Cn Evl
theorem frb_ex {a : Addr} {H H' : Hp} (f : FrB a H H') : Ex (del H a) H' := fun b o h => by
  by_cases e : b = a
  · subst e
    rw [del_same] at h
    cases h
  · rw [del_ne e] at h
    exact f b o h e
theorem del_ex {a : Addr} {H : Hp} : Ex (del H a) H := fun b o h => by
  by_cases e : b = a
  · subst e
    rw [del_same] at h
    cases h
  · rw [del_ne e] at h
    exact h
theorem del_mono {a : Addr} {H H' : Hp} (e : Ex H H') : Ex (del H a) (del H' a) := fun b o h => by
  by_cases q : b = a
  · subst q
    rw [del_same] at h
    cases h
  · rw [del_ne q] at h ⊢
    exact e b o h
theorem ex_del {a : Addr} {G H : Hp} (e : Ex G H) (ga : G a = none) : Ex G (del H a) := fun b o h => by
  rw [del_ne (ne_of_none h ga)]
  exact e b o h
def noKeys : List Str := [("_declare" : Str), ("_set_options" : Str), ("_set_own" : Str), ("_set_whole" : Str), ("MAX_MEMBERS" : Str), ("MAX_LINE" : Str), ("bind" : Str), ("build" : Str), ("_check_missing" : Str), ("make" : Str), ("find_hook" : Str), ("find_method" : Str), ("is_below" : Str), ("_first_values" : Str)]
def NoM (fs : List (Str × V)) : Prop := ∀ m, m ∈ noKeys → fs.lookup m = none
theorem NoM.put {fs : List (Str × V)} {f : Str} {v : V} (h : NoM fs) (hf : f ∉ noKeys) : NoM (putF f v fs) := fun m hm => by
  rw [lkNe (fun e => hf (by rw [← e]; exact hm))]
  exact h m hm
theorem NoM.puts {ps fs : List (Str × V)} {l : List Str} (h : NoM fs) (hl : ps.map (·.1) = l) (hn : ∀ m, m ∈ noKeys → m ∉ l) : NoM (puts ps fs) := fun m hm => by
  rw [puts_other (by rw [hl]; exact hn m hm)]
  exact h m hm
/-- the kinds of ki, and v at a -/
def kiW (ki : Ki) (a : Addr) (v : KdV) : Ki := fun b => if b = a then v else ki b
theorem kiW_at {ki : Ki} {a : Addr} {v : KdV} : kiW ki a v a = v := by
  unfold kiW
  rw [if_pos rfl]
theorem kiW_ne {ki : Ki} {a b : Addr} {v : KdV} (h : b ≠ a) : kiW ki a v b = ki b := by
  unfold kiW
  rw [if_neg h]
def kdOf (ms : Mems) (st : Kvs) (tops : List Addr) (a : Addr) (l : List Addr) : KdV := ⟨a :: l, ms, tops, bOf st "only_named" false, bOf st "frozen" false⟩
def wholeAt (ki : Ki) (ms : Mems) (st : Kvs) (tops : List Addr) (a : Addr) (l : List Addr) : List WE := wholeOf (kiW ki a (kdOf ms st tops a l)) (a :: l)
/-- a declaration that breaks no rule -/
structure Dcl (K : PySem.W.Frag) (G : Hp) (m t d : Addr) (its : Its) (ms : Mems) (st : Kvs) (tops cs l : List Addr) (lines : List (List Addr)) (k : Nat) (ki : Ki) (srt : Str → Str) : Prop where
  em : msOf its = ms
  mt : SqT K G m (refs (iaddr its))
  ma : ItsAt K G its
  mn : (inames its).Nodup
  ml : its.length ≤ 100
  tp : Tops K G t tops lines
  op : G d = some (.dK st)
  ok : KOptOk st
  nd : tops.Nodup
  len : tops.length ≤ 30
  ndr : Mg.Nd (lines ++ [tops])
  ll : ∀ l, l ∈ lines → l.length ≤ 40
  kd : ∀ r, r ∈ lines ++ [tops] → KisAt K G ki r
  wi : Mg.Within cs (lines ++ [tops])
  ct : Mg.cnt cs (lines ++ [tops]) < k
  kl : k ≤ 1000
  mg : Mg.merge k (lines ++ [tops]) = some l
  l11 : l.length ≤ 11
  s1 : ∀ x, x ∈ ms → x.2.sort = srt x.2.name
  s2 : ∀ b, b ∈ l → ∀ x, x ∈ (ki b).mems → x.2.sort = srt x.2.name
  fz : ∀ b, b ∈ l → (ki b).frz = bOf st "frozen" false
  eq : bOf st "equal" true = true
  sz : ∀ a, a ∉ l → (dataOf (wholeAt ki ms st tops a l)).length ≤ 16
  df : ∀ a, a ∉ l → DefOk ((posOf (kiW ki a (kdOf ms st tops a l)) (wholeAt ki ms st tops a l)).map fun e => (e.m, e.mv))
theorem Dcl.ex {K : PySem.W.Frag} {G H : Hp} {m t d : Addr} {its : Its} {ms : Mems} {st : Kvs} {tops cs l : List Addr} {lines : List (List Addr)} {k : Nat} {ki : Ki} {srt : Str → Str} (e : Ex G H) (h : Dcl K G m t d its ms st tops cs l lines k ki srt) : Dcl K H m t d its ms st tops cs l lines k ki srt :=
  ⟨h.em, ex_t e h.mt, h.ma.ex e, h.mn, h.ml, h.tp.ex e, e _ _ h.op, h.ok, h.nd, h.len, h.ndr, h.ll, fun r hr => (h.kd r hr).ex e, h.wi, h.ct, h.kl, h.mg, h.l11, h.s1, h.s2, h.fz, h.eq, h.sz, h.df⟩
theorem WhAt.ex {H0 H H' : Hp} {fs : List (Str × V)} {ki : Ki} {W : List WE} (e : Ex H H') (h : WhAt H0 H fs ki W) : WhAt H0 H' fs ki W where
  data := by obtain ⟨p, us, h1, h0, h2, h3⟩ := h.data; exact ⟨p, us, h1, h0, e _ _ h2, h3.ex e⟩
  shared := by obtain ⟨p, h1, h0, h2⟩ := h.shared; exact ⟨p, h1, h0, e _ _ h2⟩
  other := by obtain ⟨p, h1, h0, h2⟩ := h.other; exact ⟨p, h1, h0, e _ _ h2⟩
  fields := by obtain ⟨p, h1, h0, h2⟩ := h.fields; exact ⟨p, h1, h0, e _ _ h2⟩
  fnames := by obtain ⟨p, h1, h0, h2⟩ := h.fnames; exact ⟨p, h1, h0, e _ _ h2⟩
  cnames := by obtain ⟨p, h1, h0, h2⟩ := h.cnames; exact ⟨p, h1, h0, e _ _ h2⟩
  snames := by obtain ⟨p, h1, h0, h2⟩ := h.snames; exact ⟨p, h1, h0, e _ _ h2⟩
  knames := by obtain ⟨p, h1, h0, h2⟩ := h.knames; exact ⟨p, h1, h0, e _ _ h2⟩
  initonly := by obtain ⟨p, h1, h0, h2⟩ := h.initonly; exact ⟨p, h1, h0, e _ _ h2⟩
  bypos := by obtain ⟨p, h1, h0, h2⟩ := h.bypos; exact ⟨p, h1, h0, e _ _ h2⟩
  byname := by obtain ⟨p, h1, h0, h2⟩ := h.byname; exact ⟨p, h1, h0, e _ _ h2⟩
  params := by obtain ⟨p, h1, h0, h2⟩ := h.params; exact ⟨p, h1, h0, e _ _ h2⟩
  pnames := by obtain ⟨p, h1, h0, h2⟩ := h.pnames; exact ⟨p, h1, h0, e _ _ h2⟩
theorem WhAt.back {H0 H1 H : Hp} {fs : List (Str × V)} {ki : Ki} {W : List WE} (f : ∀ p, H1 p = none → H0 p = none) (h : WhAt H1 H fs ki W) : WhAt H0 H fs ki W where
  data := by obtain ⟨p, us, h1, h0, h2, h3⟩ := h.data; exact ⟨p, us, h1, f _ h0, h2, h3⟩
  shared := by obtain ⟨p, h1, h0, h2⟩ := h.shared; exact ⟨p, h1, f _ h0, h2⟩
  other := by obtain ⟨p, h1, h0, h2⟩ := h.other; exact ⟨p, h1, f _ h0, h2⟩
  fields := by obtain ⟨p, h1, h0, h2⟩ := h.fields; exact ⟨p, h1, f _ h0, h2⟩
  fnames := by obtain ⟨p, h1, h0, h2⟩ := h.fnames; exact ⟨p, h1, f _ h0, h2⟩
  cnames := by obtain ⟨p, h1, h0, h2⟩ := h.cnames; exact ⟨p, h1, f _ h0, h2⟩
  snames := by obtain ⟨p, h1, h0, h2⟩ := h.snames; exact ⟨p, h1, f _ h0, h2⟩
  knames := by obtain ⟨p, h1, h0, h2⟩ := h.knames; exact ⟨p, h1, f _ h0, h2⟩
  initonly := by obtain ⟨p, h1, h0, h2⟩ := h.initonly; exact ⟨p, h1, f _ h0, h2⟩
  bypos := by obtain ⟨p, h1, h0, h2⟩ := h.bypos; exact ⟨p, h1, f _ h0, h2⟩
  byname := by obtain ⟨p, h1, h0, h2⟩ := h.byname; exact ⟨p, h1, f _ h0, h2⟩
  params := by obtain ⟨p, h1, h0, h2⟩ := h.params; exact ⟨p, h1, f _ h0, h2⟩
  pnames := by obtain ⟨p, h1, h0, h2⟩ := h.pnames; exact ⟨p, h1, f _ h0, h2⟩
/-- what holds of the lists of a whole kind holds without one that was there before -/
theorem WhAt.but {H0 H H' : Hp} {bad : List Addr} {fs : List (Str × V)} {ki : Ki} {W : List WE} (hf : ∀ b, b ∈ bad → H0 b ≠ none) (f : ∀ p o, H p = some o → p ∉ bad → (∀ ps, o ≠ .tbl ps) → H' p = some o) (hp : ∀ a xs, H a = some (.tup xs) → H' a = some (.tup xs)) (h : WhAt H0 H fs ki W) : WhAt (fun _ => none) H' fs ki W where
  data := by obtain ⟨p, us, h1, h0, h2, h3⟩ := h.data; exact ⟨p, us, h1, rfl, f _ _ h2 (fun z => hf _ z h0) (fun _ z => nomatch z), ⟨h3.1, fun i tp x a b => hp _ _ (h3.2 i tp x a b)⟩⟩
  shared := by obtain ⟨p, h1, h0, h2⟩ := h.shared; exact ⟨p, h1, rfl, f _ _ h2 (fun z => hf _ z h0) (fun _ z => nomatch z)⟩
  other := by obtain ⟨p, h1, h0, h2⟩ := h.other; exact ⟨p, h1, rfl, f _ _ h2 (fun z => hf _ z h0) (fun _ z => nomatch z)⟩
  fields := by obtain ⟨p, h1, h0, h2⟩ := h.fields; exact ⟨p, h1, rfl, f _ _ h2 (fun z => hf _ z h0) (fun _ z => nomatch z)⟩
  fnames := by obtain ⟨p, h1, h0, h2⟩ := h.fnames; exact ⟨p, h1, rfl, f _ _ h2 (fun z => hf _ z h0) (fun _ z => nomatch z)⟩
  cnames := by obtain ⟨p, h1, h0, h2⟩ := h.cnames; exact ⟨p, h1, rfl, f _ _ h2 (fun z => hf _ z h0) (fun _ z => nomatch z)⟩
  snames := by obtain ⟨p, h1, h0, h2⟩ := h.snames; exact ⟨p, h1, rfl, f _ _ h2 (fun z => hf _ z h0) (fun _ z => nomatch z)⟩
  knames := by obtain ⟨p, h1, h0, h2⟩ := h.knames; exact ⟨p, h1, rfl, f _ _ h2 (fun z => hf _ z h0) (fun _ z => nomatch z)⟩
  initonly := by obtain ⟨p, h1, h0, h2⟩ := h.initonly; exact ⟨p, h1, rfl, f _ _ h2 (fun z => hf _ z h0) (fun _ z => nomatch z)⟩
  bypos := by obtain ⟨p, h1, h0, h2⟩ := h.bypos; exact ⟨p, h1, rfl, f _ _ h2 (fun z => hf _ z h0) (fun _ z => nomatch z)⟩
  byname := by obtain ⟨p, h1, h0, h2⟩ := h.byname; exact ⟨p, h1, rfl, f _ _ h2 (fun z => hf _ z h0) (fun _ z => nomatch z)⟩
  params := by obtain ⟨p, h1, h0, h2⟩ := h.params; exact ⟨p, h1, rfl, f _ _ h2 (fun z => hf _ z h0) (fun _ z => nomatch z)⟩
  pnames := by obtain ⟨p, h1, h0, h2⟩ := h.pnames; exact ⟨p, h1, rfl, f _ _ h2 (fun z => hf _ z h0) (fun _ z => nomatch z)⟩
/-- a kind that is declared: what is known of it, what is whole in it -/
theorem Dcl.ms {K : PySem.W.Frag} {G : Hp} {m t d : Addr} {its : Its} {ms : Mems} {st : Kvs} {tops cs l : List Addr} {lines : List (List Addr)} {k : Nat} {ki : Ki} {srt : Str → Str} (h : Dcl K G m t d its ms st tops cs l lines k ki srt) : MemsAt K G ms := fun x hx => by
  have := h.ma (x.1, some x.2) (mem_msOf (by rw [h.em]; exact hx))
  exact this
theorem Dcl.msl {K : PySem.W.Frag} {G : Hp} {m t d : Addr} {its : Its} {ms : Mems} {st : Kvs} {tops cs l : List Addr} {lines : List (List Addr)} {k : Nat} {ki : Ki} {srt : Str → Str} (h : Dcl K G m t d its ms st tops cs l lines k ki srt) : ms.length ≤ 100 := by
  have h1 := msOf_len its
  rw [h.em] at h1
  have := h.ml
  omega
/-- the kind's own hook and methods -/
def OwnAt (K : PySem.W.Frag) (H : Hp) (a : Addr) (hk : Option Addr) (ms : Mems) : Prop := ∃ (dx d : Addr) (md : Kvs) (fs : List (Str × V)), H a = some (.ins (kC K) dx fs) ∧ fs.lookup ("own_hook" : Str) = some (hkV hk) ∧ fs.lookup ("own_methods" : Str) = some (.ref d) ∧ H d = some (.dK md) ∧ MthOk md ms
theorem OwnAt.ex {K : PySem.W.Frag} {H H' : Hp} {a : Addr} {hk : Option Addr} {ms : Mems} (e : Ex H H') (h : OwnAt K H a hk ms) : OwnAt K H' a hk ms := by
  obtain ⟨dx, d, md, fs, h1, h2, h3, h4, h5⟩ := h
  exact ⟨dx, d, md, fs, e _ _ h1, h2, h3, e _ _ h4, h5⟩
structure Made (K : PySem.W.Frag) (H0 H : Hp) (a dx : Addr) (n : Nat) (kd : KdV) (hk : Option Addr) (ki : Ki) (W : List WE) : Prop where
  own : OwnAt K H a hk kd.mems
  kd : KdAt K H a kd
  fs : ∃ fs, H a = some (.ins (kC K) dx fs) ∧ NoM fs ∧ fs.length ≤ n ∧ WhAt H0 H fs ki W
theorem Made.back {K : PySem.W.Frag} {H0 H1 H : Hp} {a dx : Addr} {n : Nat} {kd : KdV} {hk : Option Addr} {ki : Ki} {W : List WE} (f : ∀ p, H1 p = none → H0 p = none) (h : Made K H1 H a dx n kd hk ki W) : Made K H0 H a dx n kd hk ki W := by
  obtain ⟨h0, h1, fs, h2, h3, h4, h5⟩ := h
  exact ⟨h0, h1, fs, h2, h3, h4, h5.back f⟩
theorem foldW_len {es : List WE} : ∀ {W : List WE}, (es.foldl putW W).length ≤ W.length + es.length := by
  induction es with
  | nil => intro W; exact Nat.le_refl _
  | cons e r ih =>
    intro W
    have h1 := ih (W := putW W e)
    have h2 := putW_len (W := W) (e := e)
    rw [List.foldl_cons, List.length_cons]
    omega
theorem flat_len {ki : Ki} {n : Nat} : ∀ {l : List Addr}, (∀ a, a ∈ l → (ki a).mems.length ≤ n) → (l.flatMap (entsOf ki)).length ≤ l.length * n := fun {l} => by
  induction l with
  | nil => intro _; simp
  | cons a r ih =>
    intro h
    have h1 := ih fun b hb => h b (List.mem_cons_of_mem _ hb)
    have h2 := h a (List.mem_cons_self ..)
    rw [List.flatMap_cons, List.length_append, List.length_cons, Nat.succ_mul]
    have : (entsOf ki a).length = (ki a).mems.length := List.length_map ..
    omega
theorem whole_len {ki : Ki} {n : Nat} {l : List Addr} (h : ∀ a, a ∈ l → (ki a).mems.length ≤ n) : (wholeOf ki l).length ≤ l.length * n := by
  have h1 := foldW_len (es := l.reverse.flatMap (entsOf ki)) (W := [])
  have h2 := flat_len (ki := ki) (n := n) (l := l.reverse) fun a ha => h a (List.mem_reverse.mp ha)
  rw [List.length_reverse] at h2
  unfold wholeOf
  rw [List.length_nil, Nat.zero_add] at h1
  exact Nat.le_trans h1 h2
section
variable {P : Program} {w : World} {K : PySem.W.Frag} {mg : Str → Option Value} {base : Heap}
theorem KdAt.few {H : Hp} {a : Addr} {kd : KdV} (h : KdAt K H a kd) : kd.mems.length ≤ 100 := by
  obtain ⟨dx, q, m, t, fs, h1, h2, h3, h4, h5, h6, h7, _⟩ := h
  exact h7
theorem KdAt.ms {H : Hp} {a : Addr} {kd : KdV} (h : KdAt K H a kd) : MemsAt K H kd.mems := by
  obtain ⟨dx, q, m, t, fs, h1, h2, h3, h4, h5, h6, _⟩ := h
  exact h6
theorem q_selfLine {σ : L2.St} {H : Hp} {a pl C dx : Addr} {fs : List (Str × V)} {l : List Addr} {tz : TS} {D : Ends} {f : Str} (v0 : σ[0]? = some (some (.ref a))) (v4 : σ[4]? = some (some (.ref pl))) (hl : SqL K H pl (refs l)) (hz : l.length ≤ 1000) (ha : H a = some (.ins C dx fs)) (c : Cls K C) (n : NoAttr K C f) (hlen : fs.length < 1000)
    (k : ∀ (pt : Addr) (o : Obj), H pt = none → o.dict = none → tz D σ (upd (upd H pt (.frz o (.tup (refs (a :: l))))) a (.ins C dx (putF f (.ref pt) fs)))) : tSeq (sFld K (tVar 0) (tTupZ (tCons (tVar 0) (StX.tStar K (tVar 4) tNil))) f) tz D σ H := by
  refine ⟨_, v0, _, v4, pl, refs l, rfl, .inr hl, ?_⟩
  have e1 : (V.ref a :: (refs l ++ [])) = refs (a :: l) := by
    rw [List.append_nil]
    rfl
  have ll : (refs (a :: l)).length = l.length + 1 := by unfold refs; rw [List.length_map, List.length_cons]
  show ((V.ref a :: (refs l ++ [])).length ≤ sizeLine ∧ ∀ (p : Addr) (o : Obj), H p = none → o.dict = none → tVar 0 σ (upd H p (.frz o (.tup (V.ref a :: (refs l ++ []))))) _)
  rw [e1]
  refine ⟨sz_of (by rw [ll]; omega), fun pt o hpt ho => ?_⟩
  have hpta : pt ≠ a := (ne_of_none ha hpt).symm
  exact ⟨_, v0, a, C, dx, fs, rfl, by rw [upd_ne hpta.symm]; exact ha, c, n, hlen, k pt o hpt ho⟩
def spDeclare (K : PySem.W.Frag) : Sp := fun vs H Q _ => ∃ (a m t d dx : Addr) (fs : List (Str × V)) (its : Its) (ms : Mems) (st : Kvs) (tops cs l : List Addr) (lines : List (List Addr)) (k : Nat) (ki : Ki) (srt : Str → Str), vs = [.ref a, .ref m, .ref t, .ref d] ∧ H a = some (.ins (kC K) dx fs) ∧ NoM fs ∧ fs.length ≤ 100 ∧ m ≠ a ∧
  Dcl K (del H a) m t d its ms st tops cs l lines k ki srt ∧
  ∀ H', Made K H H' a dx (fs.length + 30) (kdOf ms st tops a l) (hkOf its) (kiW ki a (kdOf ms st tops a l)) (wholeAt ki ms st tops a l) → FrB a H H' → Q .non H'
theorem can_declare (T : Txt K mg) : ∃ fd, FnOk P w K mg base CX0 4 (ma K (kC K) "_declare") fd ["self", "members", "above", "options"] (spDeclare K) ∧ Binds K fd ["self", "members", "above", "options"] [] := by
  have C1 : Can P w K mg base CX0 2 "check_members" ["members"] (spChkMembers K) := can_chkMembers T
  have C2 : Can P w K mg base CX0 1 "check_options" ["options"] spChkOptions := can_chkOptions T
  have C3 : Can P w K mg base CX0 1 "check_above" ["above"] (spChkAbove K) := can_chkAbove T
  have C4 : Can P w K mg base CX0 3 "line_above" ["above"] (spLineAbove K) := can_lineAbove T
  have C5 : Can P w K mg base CX0 1 "check_mixture" ["line"] (spMixture K) := can_mixture T
  have C6 : Can P w K mg base CX0 1 "check_frozen" ["line"] (spFrozen K) := can_frozen T
  have C7 : Can P w K mg base CX0 1 "whole_members" ["line"] (spWholeMembers K) := can_wholeMembers T
  have C8 : Can P w K mg base CX0 1 "check_defaults" ["members"] (spDefaults K) := can_defaults T
  obtain ⟨fdO, FO, bO⟩ := can_setOptions (P := P) (w := w) (base := base) T
  obtain ⟨fdN, FN, bN⟩ := can_setOwn (P := P) (w := w) (base := base) T
  obtain ⟨fdW, FW, bW⟩ := can_setWhole (P := P) (w := w) (base := base) T
  obtain ⟨fd, F⟩ := T.F_Kind__declare
  refine ⟨fd, F.ok sc_Kind__declare (fun vs H Q E h => ?_) (fun cdv A outer s H vs Q E hr h => ?_), F.binds (ps := ["self", "members", "above", "options"]) fun _ _ _ _ _ _ us hl => match us, hl with | [_, _, _, _], _ => rfl⟩
  · obtain ⟨a, m, t, d, dx, fs, its, ms, st, tops, cs, l, lines, k, ki, srt, rfl, _⟩ := h
    rfl
  · obtain ⟨a, m, t, d, dx, fs, its, ms, st, tops, cs, l, lines, k, ki, srt, rfl, ha, nm, hlen, hma, hD, fin⟩ := h
    have nd := sc_Kind__declare.nd
    have hr1 : Room 1 _ := hr.mono (by decide)
    refine ⟨_, pss_cons (ps_expr (pe_can C1 hr pass0 (pa_cons (pv 1) pa_nil)))
      (pss_cons (ps_expr (pe_can C2 hr pass0 (pa_cons (pv 3) pa_nil)))
      (pss_cons (ps_expr (pe_can C3 hr pass0 (pa_cons (pv 2) pa_nil)))
      (pss_cons (ps_fld (pv 0) (pv 2) rfl)
      (pss_cons (ps_expr (pe_meth (pv 0) T.cls T.m__set_options FO hr1 bO .nil pass0 (pa_cons (pv 3) pa_nil)))
      (pss_cons (ps_expr (pe_meth (pv 0) T.cls T.m__set_own FN hr1 bN .nil pass0 (pa_cons (pv 1) pa_nil)))
      (pss_cons (ps_set (i := 4) nd rfl (.inl rfl) (pe_can C4 hr pass0 (pa_cons (pv 2) pa_nil)))
      (pss_cons (ps_fld (pv 0) (pe_tupZ (pa_cons (pv 0) (StX.pa_star (pv 4) pa_nil))) rfl)
      (pss_cons (ps_expr (pe_can C5 hr pass0 (pa_cons (pe_fld (pv 0) rfl) pa_nil)))
      (pss_cons (ps_expr (pe_can C6 hr pass0 (pa_cons (pe_fld (pv 0) rfl) pa_nil)))
      (pss_cons (ps_if (PW.pt (pw_and (pt_val (pe_fld (pv 0) rfl)) (pw_and1 (pt_not (pt_val (pe_fld (pv 0) rfl)))))) (pss_one ps_never) pss_nil)
      (pss_cons (ps_expr (pe_meth (pv 0) T.cls T.m__set_whole FW (hr.mono (by decide)) bW .nil pass0 (pa_cons (pe_can C7 hr pass0 (pa_cons (pe_fld (pv 0) rfl) pa_nil)) pa_nil)))
      (pss_one (ps_expr (pe_can C8 hr pass0 (pa_cons (pe_fld (pv 0) rfl) pa_nil))))))))))))))), ?_⟩
    generalize hkd : kdOf ms st tops a l = kd at *
    generalize hkw : kiW ki a kd = kw at *
    generalize hW : wholeAt ki ms st tops a l = W at *
    generalize hG : del H a = G at *
    have eG : Ex G H := by rw [← hG]; exact del_ex
    have ga : G a = none := by rw [← hG]; exact del_same
    have frG : ∀ {H1 H2 : Hp}, Ex G H1 → FrB a H1 H2 → Ex G H2 := fun {H1 H2} e f b o h => f b o (e b o h) (ne_of_none h ga)
    have hmem := (Mg.merge_nodup k (lines ++ [tops]) l hD.mg).2
    have kdl : ∀ b, b ∈ l → KdAt K G b (ki b) := fun b hb => by
      obtain ⟨r, hr, hx⟩ := (hmem b).mp hb
      exact hD.kd r hr b hx
    have hal : a ∉ l := fun q => by
      obtain ⟨dx', fs', h1⟩ := (kdl a q).ko
      rw [ga] at h1
      cases h1
    have lne : ∀ b, b ∈ l → b ≠ a := fun b hb z => hal (by rw [← z]; exact hb)
    have ks : Ks (kC K) G (lines ++ [tops]) := fun r hr b hb => (hD.kd r hr b hb).ko
    have htk : ∀ b, b ∈ tops → KO (kC K) G b := fun b hb => ks tops (by simp) b hb
    have hsz := hD.sz a hal
    have hdf := hD.df a hal
    rw [hkd, hkw, hW] at hdf
    rw [hW] at hsz
    have hz := hD.len
    have l11 := hD.l11
    have lp : ∀ (f : Str) (v : V) (gs : List (Str × V)), (putF f v gs).length ≤ gs.length + 1 := length_putF
    -- the three checks
    refine q_drop (v := .non) (ev_call (ea_cons (ev_var rfl) ea_nil) fun H1 e Q q E => ⟨m, its, rfl, ex_t (eG.trans e) hD.mt, hD.ma.ex (eG.trans e), hD.mn, hD.ml, fun H2 e2 => q H2 e2⟩) fun H1 e1 => ?_
    refine q_drop (v := .non) (ev_call (ea_cons (ev_var rfl) ea_nil) fun H2 e Q q E => ⟨d, st, rfl, ((eG.trans e1).trans e) _ _ hD.op, hD.ok, fun H2 e2 => q H2 e2⟩) fun H2 e2 => ?_
    have e02 := e1.trans e2
    refine q_drop (v := .non) (ev_call (ea_cons (ev_var rfl) ea_nil) fun H3 e Q q E => ⟨t, tops, rfl, ex_t ((eG.trans e02).trans e) hD.tp.1, hD.nd, fun b hb => (htk b hb).ex ((eG.trans e02).trans e), by omega, fun H2 e2 => q H2 e2⟩) fun H3 e3 => ?_
    have e03 := e02.trans e3
    have a3 := e03 _ _ ha
    have f03 : FrB a H H3 := fun b u hb _ => e03 _ _ hb
    -- self.above
    refine q_putV (v := .ref t) (ev_var rfl) (fun _ _ => ev_var rfl) a3 T.cls T.a_above (by omega) fun H4 a4 f4 => ?_
    have f04 : FrB a H H4 := FrB.trans f03 f4
    have e4 : Ex G H4 := frG eG f04
    have n4 : NoM (putF "above" (.ref t) fs) := nm.put (by decide +kernel)
    have l4 := lp "above" (.ref t) fs
    have kt4 : (putF "above" (.ref t) fs).lookup ("above" : Str) = some (.ref t) := lkEq
    generalize putF "above" (.ref t) fs = fs4 at *
    -- the options
    refine ⟨_, rfl, a, dx, fs4, rfl, a4, n4 _ (by simp [noKeys]), _, rfl, a, d, dx, fs4, st, rfl, a4, e4 _ _ hD.op, by omega, fun H5 a5 f5 => ?_⟩
    have f05 : FrB a H H5 := FrB.trans f04 f5
    have e5 : Ex G H5 := frG eG f05
    have n5 : NoM (puts (koAttrs st) fs4) := n4.puts (l := koNames) rfl (by decide +kernel)
    have l5 : (puts (koAttrs st) fs4).length ≤ fs4.length + 5 := puts_len
    have bo : ∀ (s : Str) (b : Bool), oget st s (.bl b) = .bl (bOf st s b) := fun s b => bOf_eq (hD.ok.bool s b)
    have own := puts_own (fs := fs4) (ko_nd st)
    have kf5 : (puts (koAttrs st) fs4).lookup ("frozen" : Str) = some (.bl (bOf st "frozen" false)) := by rw [← bo]; exact own (("frozen" : Str), _) (.tail _ (.tail _ (.head _)))
    have ko5 : (puts (koAttrs st) fs4).lookup ("order" : Str) = some (.bl (bOf st "order" false)) := by rw [← bo]; exact own (("order" : Str), _) (.tail _ (.head _))
    have ke5 : (puts (koAttrs st) fs4).lookup ("equal" : Str) = some (.bl true) := by
      rw [← hD.eq, ← bo]
      exact own (("equal" : Str), _) (.head _)
    have kn5 : (puts (koAttrs st) fs4).lookup ("only_named" : Str) = some (.bl (bOf st "only_named" false)) := by rw [← bo]; exact own (("only_named" : Str), _) (.tail _ (.tail _ (.tail _ (.head _))))
    have kt5 : (puts (koAttrs st) fs4).lookup ("above" : Str) = some (.ref t) := by
      rw [puts_other (show ("above" : Str) ∉ koNames by decide +kernel)]
      exact kt4
    clear own
    generalize puts (koAttrs st) fs4 = fs5 at *
    -- the own members
    refine ⟨_, rfl, a, dx, fs5, rfl, a5, n5 _ (by simp [noKeys]), _, rfl, a, m, dx, fs5, its, rfl, a5, ex_t e5 hD.mt, hma, hD.ma.ex (ex_del e5 ga), hD.mn, hD.ml, by omega, fun om od md H6 hom hod homa hoda a6 h6 h6d hmd f6 => ?_⟩
    have ems := hD.em
    rw [ems] at h6 hmd
    have f06 : FrB a H H6 := FrB.trans f05 f6
    have e6 : Ex G H6 := frG eG f06
    have n6 : NoM (puts (owAttrs (hkV (hkOf its)) om od) fs5) := n5.puts (l := owNames) rfl (by decide +kernel)
    have l6 : (puts (owAttrs (hkV (hkOf its)) om od) fs5).length ≤ fs5.length + 3 := puts_len
    have oth : ∀ g, g ∉ owNames → (puts (owAttrs (hkV (hkOf its)) om od) fs5).lookup g = fs5.lookup g := fun g hg => puts_other hg
    have kf6 := (oth _ (by decide +kernel)).trans kf5
    have ko6 := (oth _ (by decide +kernel)).trans ko5
    have ke6 := (oth _ (by decide +kernel)).trans ke5
    have kn6 := (oth _ (by decide +kernel)).trans kn5
    have kt6 := (oth _ (by decide +kernel)).trans kt5
    have km6 : (puts (owAttrs (hkV (hkOf its)) om od) fs5).lookup ("own_members" : Str) = some (.ref om) := puts_own (ow_nd (hkV (hkOf its)) om od) (("own_members" : Str), .ref om) (.tail _ (.head _))
    have kh6 : (puts (owAttrs (hkV (hkOf its)) om od) fs5).lookup ("own_hook" : Str) = some (hkV (hkOf its)) := puts_own (ow_nd (hkV (hkOf its)) om od) (("own_hook" : Str), hkV (hkOf its)) (.head _)
    have kd6 : (puts (owAttrs (hkV (hkOf its)) om od) fs5).lookup ("own_methods" : Str) = some (.ref od) := puts_own (ow_nd (hkV (hkOf its)) om od) (("own_methods" : Str), .ref od) (.tail _ (.tail _ (.head _)))
    clear oth
    generalize puts (owAttrs (hkV (hkOf its)) om od) fs5 = fs6 at *
    -- the line
    refine ⟨_, rfl, t, l, tops, cs, lines, k, rfl, hD.tp.ex e6, hz, hD.ndr, hD.ll, ks.ex e6, hD.wi, hD.ct, hD.kl, hD.mg, fun pl H7 hpl7 e67 h7 => ?_⟩
    have a7 := e67 _ _ a6
    have f07 : FrB a H H7 := FrB.ex f06 e67
    have e7 : Ex G H7 := frG eG f07
    have h67 : H7 om = some (.tup (refs (maddr ms))) := e67 _ _ h6
    refine q_selfLine rfl rfl (sq_of h7) (by omega) a7 T.cls T.a_line (by omega) fun pt o hpt ho => ?_
    have hpta : pt ≠ a := (ne_of_none a7 hpt).symm
    have hptm : pt ≠ om := (ne_of_none h67 hpt).symm
    have n8 : NoM (putF "line" (.ref pt) fs6) := n6.put (by decide +kernel)
    have l8 := lp "line" (.ref pt) fs6
    have kl8 : (putF "line" (.ref pt) fs6).lookup ("line" : Str) = some (.ref pt) := lkEq
    have kf8 := (lkNe (f := "line") (v := .ref pt) (fs := fs6) (show ("frozen" : Str) ≠ "line" by decide +kernel)).trans kf6
    have ko8 := (lkNe (f := "line") (v := .ref pt) (fs := fs6) (show ("order" : Str) ≠ "line" by decide +kernel)).trans ko6
    have ke8 := (lkNe (f := "line") (v := .ref pt) (fs := fs6) (show ("equal" : Str) ≠ "line" by decide +kernel)).trans ke6
    have kn8 := (lkNe (f := "line") (v := .ref pt) (fs := fs6) (show ("only_named" : Str) ≠ "line" by decide +kernel)).trans kn6
    have kt8 := (lkNe (f := "line") (v := .ref pt) (fs := fs6) (show ("above" : Str) ≠ "line" by decide +kernel)).trans kt6
    have km8 := (lkNe (f := "line") (v := .ref pt) (fs := fs6) (show ("own_members" : Str) ≠ "line" by decide +kernel)).trans km6
    have kh8 := (lkNe (f := "line") (v := .ref pt) (fs := fs6) (show ("own_hook" : Str) ≠ "line" by decide +kernel)).trans kh6
    have kd8 := (lkNe (f := "line") (v := .ref pt) (fs := fs6) (show ("own_methods" : Str) ≠ "line" by decide +kernel)).trans kd6
    generalize putF "line" (.ref pt) fs6 = fs8 at *
    generalize hH8 : upd (upd H7 pt (.frz o (.tup (refs (a :: l))))) a (.ins (kC K) dx fs8) = H8
    have a8 : H8 a = some (.ins (kC K) dx fs8) := by rw [← hH8, upd_same]
    have t8 : H8 pt = some (.frz o (.tup (refs (a :: l)))) := by rw [← hH8, upd_ne hpta, upd_same]
    have m8 : H8 om = some (.tup (refs (maddr ms))) := by rw [← hH8, upd_ne homa, upd_ne hptm.symm]; exact h67
    have d8 : H8 od = some (.dK md) := by rw [← hH8, upd_ne hoda, upd_ne (ne_of_none (e67 _ _ h6d) hpt)]; exact e67 _ _ h6d
    have f78 : FrB a H7 H8 := fun b u hb hba => by rw [← hH8, upd_ne hba, upd_ne (ne_of_none hb hpt)]; exact hb
    have f08 : FrB a H H8 := FrB.trans f07 f78
    have e8 : Ex G H8 := frG eG f08
    -- the kind as it stands from here on
    have kdA : ∀ {H9 : Hp} {fs' : List (Str × V)}, H9 a = some (.ins (kC K) dx fs') → Ex G H9 → H9 pt = some (.frz o (.tup (refs (a :: l)))) → H9 om = some (.tup (refs (maddr ms))) → (∀ g, g ∉ wholeKeys → fs'.lookup g = fs8.lookup g) → KdAt K H9 a kd := fun {H9 fs'} h9 e9 ht9 hm9 keep => by
      rw [← hkd]
      exact ⟨dx, pt, om, t, fs', h9, (keep _ (by decide +kernel)).trans kl8, SqD.of ht9 ho, (keep _ (by decide +kernel)).trans km8, st_of hm9, hD.ms.ex e9, hD.msl, (keep _ (by decide +kernel)).trans kf8, (keep _ (by decide +kernel)).trans kn8, (keep _ (by decide +kernel)).trans kt8, ex_t e9 hD.tp.1, (keep _ (by decide +kernel)).trans (n8 _ (by simp [noKeys]))⟩
    have kis : ∀ {H9 : Hp}, Ex H8 H9 → KisAt K H9 kw (a :: l) := fun {H9} e b hb => by
      rcases List.mem_cons.mp hb with q | q
      · subst q
        rw [← hkw, kiW_at]
        exact kdA (e _ _ a8) (e8.trans e) (e _ _ t8) (e _ _ m8) fun _ _ => rfl
      · rw [← hkw, kiW_ne (lne b q)]
        exact (kdl b q).ex (e8.trans e)
    have tt : ∀ {H9 : Hp}, Ex H8 H9 → SqT K H9 pt (refs (a :: l)) := fun e => .inl (.inr ⟨o, e _ _ t8⟩)
    have evl : ∀ {H9 : Hp} {σ : L2.St}, Ex H8 H9 → σ[0]? = some (some (.ref a)) → Ev (tFld K (tVar 0) "line") σ H9 (.ref pt) := fun e hv => ev_fld (ev_var hv) (e _ _ a8) T.cls T.a_line kl8
    have kms : (kw a) = kd := by rw [← hkw, kiW_at]
    have kdm : kd.mems = ms := by rw [← hkd]; rfl
    have srtA : ∀ b, b ∈ a :: l → ∀ x, x ∈ (kw b).mems → x.2.sort = srt x.2.name := fun b hb x hx => by
      rcases List.mem_cons.mp hb with q | q
      · subst q
        rw [kms, kdm] at hx
        exact hD.s1 x hx
      · rw [← hkw, kiW_ne (lne b q)] at hx
        exact hD.s2 b q x hx
    have fzA : ∀ b, b ∈ a :: l → (kw b).frz = (kw a).frz := fun b hb => by
      rcases List.mem_cons.mp hb with q | q
      · rw [q]
      · rw [kms, ← hkd, ← hkw, kiW_ne (lne b q)]
        exact hD.fz b q
    refine q_drop (v := .non) (ev_call (ea_cons (evl (Ex.refl _) rfl) ea_nil) fun H9 e Q q E => ⟨pt, a :: l, kw, srt, rfl, tt e, kis e, srtA, by rw [List.length_cons]; omega, fun H2 e2 => q H2 e2⟩) fun H9 e9 => ?_
    refine q_drop (v := .non) (ev_call (ea_cons (evl e9 rfl) ea_nil) fun H10 e Q q E => ⟨pt, a, l, kw, rfl, tt (e9.trans e), kis (e9.trans e), fzA, by omega, fun H2 e2 => q H2 e2⟩) fun H10 e10 => ?_
    have e8A := e9.trans e10
    refine q_when (b := false) (et_is (et_and (a := bOf st "order" false) (b := false) (et_B (ev_fld (ev_var rfl) (e8A _ _ a8) T.cls T.a_order ko8)) (fun _ => et_not (a := true) (et_B (ev_fld (ev_var rfl) (e8A _ _ a8) T.cls T.a_equal ke8)))) (by simp)) (fun h => by cases h) fun _ H11 e11 => ?_
    have e8B := e8A.trans e11
    -- what is whole
    refine ⟨_, rfl, a, dx, fs8, rfl, e8B _ _ a8, n8 _ (by simp [noKeys]), ?_⟩
    refine evl e8B rfl H11 (Ex.refl _) _ fun H12 e12 => ?_
    have e8C := e8B.trans e12
    refine ⟨pt, a :: l, kw, rfl, tt e8C, kis e8C, by rw [List.length_cons]; omega, fun pw L H13 hpw e13 h13 hL hLA => ?_⟩
    have e8D := e8C.trans e13
    have hWk : wholeOf kw (a :: l) = W := by
      rw [← hW, ← hkw, ← hkd]
      rfl
    rw [hWk] at hL
    have hP13 : PairsAt H13 (L.map Prod.snd) W (fun e => (.ref e.m, .ref e.k)) := by
      refine ⟨by rw [← hL, List.length_map, List.length_map], fun i tp e h1 h2 => ?_⟩
      rw [← hL, List.getElem?_map] at h2
      rw [List.getElem?_map] at h1
      cases hx : L[i]? with
      | none => rw [hx] at h1; cases h1
      | some x =>
        rw [hx] at h1 h2
        obtain rfl := Option.some.inj h1
        obtain rfl := Option.some.inj h2
        exact hLA x (List.mem_of_getElem? hx)
    have few : ∀ b, b ∈ a :: l → (kw b).mems.length ≤ 100 := fun b hb => (kis e8D b hb).few
    have hWm : ∀ e, e ∈ W → MemAt K (del H13 a) e.m e.mv ∧ KdAt K H13 e.k (kw e.k) := fun e he => by
      rw [← hWk] at he
      obtain ⟨b, hb, h1, h2⟩ := whole_mem he
      rw [h1]
      refine ⟨?_, kis e8D b hb⟩
      rcases List.mem_cons.mp hb with q | q
      · subst q
        rw [kms, kdm] at h2
        exact (hD.ms _ h2).ex (ex_del (e8.trans e8D) ga)
      · rw [← hkw, kiW_ne (lne b q)] at h2
        exact ((kdl b q).ms _ h2).ex (ex_del (e8.trans e8D) ga)
    have hWl : W.length ≤ 10000 := by
      rw [← hWk]
      refine Nat.le_trans (whole_len few) ?_
      rw [List.length_cons]
      have : (l.length + 1) * 100 ≤ 12 * 100 := Nat.mul_le_mul_right _ (by omega)
      omega
    refine ⟨a, pw, dx, pt, fs8, a :: l, L.map Prod.snd, W, kw, rfl, e8D _ _ a8, h13, hP13, hWm, hWl, kl8, tt e8D, by rw [List.length_cons]; omega, hsz, n8 _ (by simp [noKeys]), n8 _ (by simp [noKeys]), by omega, fun fs' H14 a14 wh keep l14 f14 => ?_⟩
    have f8E : FrB a H8 H14 := FrB.trans (fun b u hb _ => e8D _ _ hb) f14
    have f0E : FrB a H H14 := FrB.trans f08 f8E
    have e14 : Ex G H14 := frG eG f0E
    obtain ⟨bp, kbp, _, h14⟩ := wh.bypos
    have ebp : Ev (tFld K (tVar 0) "_by_position") _ H14 (.ref bp) := ev_fld (ev_var (i := 0) (σ := [some (.ref a), some (.ref m), some (.ref t), some (.ref d), some (.ref pl)]) rfl) a14 T.cls T.a__by_position kbp
    have hpos : rM (posOf kw W) = refs (maddr ((posOf kw W).map fun e => (e.m, e.mv))) := by
      unfold rM refs maddr
      rw [List.map_map, List.map_map]
      rfl
    rw [hpos] at h14
    have hin : ∀ x, x ∈ (posOf kw W).map (fun e => (e.m, e.mv)) → ∃ e, e ∈ W ∧ e.mv.isData = true ∧ x = (e.m, e.mv) := fun x hx => by
      obtain ⟨e, he, rfl⟩ := List.mem_map.mp hx
      have h1 := (List.mem_filter.mp he).1
      exact ⟨e, (List.mem_filter.mp h1).1, (List.mem_filter.mp h1).2, rfl⟩
    have hms : ∀ {H15 : Hp}, Ex H14 H15 → MemsAt K H15 ((posOf kw W).map fun e => (e.m, e.mv)) := fun {H15} e x hx => by
      obtain ⟨y, h1, h2, rfl⟩ := hin x hx
      obtain ⟨ho', dx', fs'', q1, q2⟩ := (hWm y h1).1
      have hne : y.m ≠ a := fun q => by
        rw [q, del_same] at q1
        cases q1
      rw [del_ne hne] at q1
      exact ⟨ho', dx', fs'', e _ _ (f14 _ _ q1 hne), q2⟩
    have hdt : ∀ x, x ∈ (posOf kw W).map (fun e => (e.m, e.mv)) → x.2.isData = true := fun x hx => by
      obtain ⟨y, h1, h2, rfl⟩ := hin x hx
      exact h2
    refine s_drop (v := .non) (ev_call (ea_cons ebp ea_nil) fun H15 e Q q E => ⟨bp, _, rfl, sq_of (e _ _ h14), hms e, hdt, hdf, fun H2 e2 => q H2 e2⟩) fun H15 e15 => ?_
    refine fin H15 ⟨⟨dx, od, md, fs', e15 _ _ a14, (keep _ (by decide +kernel)).trans kh8, (keep _ (by decide +kernel)).trans kd8, e15 _ _ (f8E _ _ d8 hoda), by rw [kdm]; exact hmd⟩, kdA (e15 _ _ a14) (e14.trans e15) (e15 _ _ (f8E _ _ t8 hpta)) (e15 _ _ (f8E _ _ m8 homa)) keep, fs', e15 _ _ a14, fun g hg => ?_, by omega, (wh.back fun p hp => fr_fresh (FrB.trans f08 (fun b u hb _ => e8D _ _ hb)) (e8D _ _ a8) hp).ex e15⟩ (FrB.ex f0E e15)
    rw [keep g ?_]
    · exact n8 g hg
    · have : ∀ g, g ∈ noKeys → g ∉ wholeKeys := by decide +kernel
      exact this g hg
end
end K17
end

section
set_option Elab.async false
set_option linter.all false
set_option maxRecDepth 100000
set_option maxHeartbeats 4000000
namespace K17
open PySem PySem.Spec PyProof.Rows L2 He Cn Evl
section
variable {P : Program} {w : World} {K : PySem.W.Frag} {mg : Str → Option Value} {base : Heap}
def ki0 : Ki := fun _ => ⟨[], [], [], false, false⟩
/-- the body of Kind.__init__: self, name, above, members, options -/
def spInitB (K : PySem.W.Frag) : Sp := fun vs H Q _ => ∃ (a m t d dx : Addr) (z : Str) (its : Its) (ms : Mems) (st : Kvs) (tops cs l : List Addr) (lines : List (List Addr)) (k : Nat) (ki : Ki) (srt : Str → Str), vs = [.ref a, .str z, .ref t, .ref m, .ref d] ∧ goodName z = true ∧ H a = some (.ins (kC K) dx []) ∧ m ≠ a ∧
  Dcl K (del H a) m t d its ms st tops cs l lines k ki srt ∧
  ∀ H', Made K H H' a dx 40 (kdOf ms st tops a l) (hkOf its) (kiW ki a (kdOf ms st tops a l)) (wholeAt ki ms st tops a l) → FrB a H H' → Q .non H'
theorem Made.mono {H0 H : Hp} {a dx : Addr} {n n' : Nat} {kd : KdV} {hk : Option Addr} {ki : Ki} {W : List WE} (h : Made K H0 H a dx n kd hk ki W) (hn : n ≤ n') : Made K H0 H a dx n' kd hk ki W := by
  obtain ⟨h0, h1, fs, h2, h3, h4, h5⟩ := h
  exact ⟨h0, h1, fs, h2, h3, Nat.le_trans h4 hn, h5⟩
theorem init_body (T : Txt K mg) {cdv : Value} {A : Around} {outer : List Env} {s : Shared} {H : Hp} {vs : List V} {Q : VK} {E : XK} {f : Addr} (hr : Room 4 (A.deeper (envOfC "Kind.__init__" (defScope s_Kind_init) s.heap.objs.size f cdv))) (h : spInitB K vs H Q E) :
    ∃ t, PSs (cxOf CX0 P w K mg base ["self", "name", "above", "members", "options"] "Kind.__init__" (defScope s_Kind_init) f cdv A outer s H E) (defBody s_Kind_init) t ∧ t { nx := fun _ H' => Q .non H', rt := Q } (start ["self", "name", "above", "members", "options"] vs) H := by
  have C1 : Can P w K mg base CX0 1 "is_name" ["value"] spIsName := can_isName T
  obtain ⟨fdD, FD, bD⟩ := can_declare (P := P) (w := w) (base := base) T
  obtain ⟨a, m, t, d, dx, z, its, ms, st, tops, cs, l, lines, k, ki, srt, rfl, hz, ha, hma, hD, fin⟩ := h
  have nd := sc_Kind_init.nd
  refine ⟨_, pss_cons (ps_if (pt_not (pt_val (pe_can C1 hr pass0 (pa_cons (pv 1) pa_nil)))) (pss_one ps_never) pss_nil)
    (pss_cons (ps_fld (pv 0) (pv 1) rfl)
    (pss_one (ps_expr (pe_meth (pv 0) T.cls T.m__declare FD hr bD .nil pass0 (pa_cons (pv 3) (pa_cons (pv 2) (pa_cons (pv 4) pa_nil))))))), ?_⟩
  refine q_when (et_not (a := true) (et_B (ev_call (ea_cons (ev_var rfl) ea_nil) fun H1 e Q q E => ⟨z, rfl, hz, fun H2 e2 => q H2 e2⟩))) (fun h => by cases h) fun _ H1 e1 => ?_
  have a1 := e1 _ _ ha
  refine q_putV (v := .str z) (ev_var rfl) (fun _ _ => ev_var rfl) a1 T.cls T.a_name (by decide) fun H2 a2 f2 => ?_
  have f02 : FrB a H H2 := fun b u hb hba => f2 b u (e1 _ _ hb) hba
  have n2 : NoM (putF "name" (.str z) []) := NoM.put (fun m _ => rfl) (by decide +kernel)
  have l2 := length_putF "name" (.str z) []
  have e2 : Ex (del H a) (del H2 a) := ex_del (frb_ex f02) del_same
  generalize putF "name" (.str z) [] = fs2 at *
  have l2 : fs2.length ≤ 1 := l2
  exact ⟨_, rfl, a, dx, fs2, rfl, a2, n2 _ (by simp [noKeys]), _, rfl, _, rfl, _, rfl, a, m, t, d, dx, fs2, its, ms, st, tops, cs, l, lines, k, ki, srt, rfl, a2, n2, by omega, hma, hD.ex e2, fun H3 M3 f3 => fin H3 ((M3.mono (by omega)).back fun p hp => fr_fresh f02 a2 hp) (FrB.trans f02 f3)⟩
/-- Kind(name) -/
def spInit1 (K : PySem.W.Frag) : Sp := fun vs H Q _ => ∃ (a dx : Addr) (z : Str), vs = [.ref a, .str z] ∧ goodName z = true ∧ H a = some (.ins (kC K) dx []) ∧ ∀ H', Made K H H' a dx 40 (kdOf [] [] [] a []) none (kiW ki0 a (kdOf [] [] [] a [])) (wholeAt ki0 [] [] [] a []) → FrB a H H' → Q .non H'
theorem whole_nil {a : Addr} : wholeAt ki0 [] [] [] a [] = [] := by
  unfold wholeAt wholeOf
  have h : entsOf (kiW ki0 a (kdOf [] [] [] a [])) a = [] := by
    unfold entsOf
    rw [kiW_at]
    rfl
  show (([a].reverse).flatMap (entsOf (kiW ki0 a (kdOf [] [] [] a [])))).foldl putW [] = []
  rw [List.reverse_singleton, List.flatMap_cons, h]
  rfl
theorem dcl_nil (T : Txt K mg) {G : Hp} {m d : Addr} (hm : SqT K G m []) (hd : G d = some (.dK [])) : Dcl K G m (kwAbove K) d [] [] [] [] [] [] [] 1 ki0 (fun _ => "") where
  em := rfl
  mt := hm
  ma := fun x h => by cases h
  mn := List.nodup_nil
  ml := Nat.zero_le _
  tp := ⟨T.e1 G, rfl, fun i a l h => by simp at h⟩
  op := hd
  ok := fun k v h => by cases h
  nd := List.nodup_nil
  len := Nat.zero_le _
  ndr := fun r hr => by
    obtain rfl := List.mem_singleton.mp hr
    exact List.nodup_nil
  ll := fun l h => by cases h
  kd := fun r hr b hb => by
    obtain rfl := List.mem_singleton.mp hr
    cases hb
  wi := fun r hr b hb => by
    obtain rfl := List.mem_singleton.mp hr
    cases hb
  ct := by decide
  kl := by decide
  mg := rfl
  l11 := Nat.zero_le _
  s1 := fun x h => by cases h
  s2 := fun b h => by cases h
  fz := fun b h => by cases h
  eq := rfl
  sz := fun a _ => by rw [whole_nil]; exact Nat.zero_le _
  df := fun a _ => by
    rw [whole_nil]
    intro i j x y h
    have : ([] : Mems)[i]? = some x := h
    simp at this
theorem ex_two {H : Hp} {p d : Addr} {u v : HO} (hp : H p = none) (hd : H d = none) (hne : d ≠ p) : Ex H (upd (upd H p u) d v) := (Ex.new hp).trans (Ex.new (by rw [upd_ne hne]; exact hd))
theorem fnr_init (T : Txt K mg) : FnR P w K mg base CX0 5 (ma K (kC K) "__init__") (spInit1 K) := by
  obtain ⟨fd, F⟩ := T.F_Kind_init
  obtain ⟨oc, od, dV, kV, doc, pm, an, cdv, ct, osl, rfl, lk, hcd, hD, hK⟩ := F.ex
  have hD : DflV K dV [] := hD
  have hK : KwdV K kV [("above", .ref (kwAbove K))] := hK
  obtain rfl : dV = .none := by
    rcases hD with ⟨_, q⟩ | ⟨q, _⟩
    · exact q
    · exact absurd rfl q
  rcases hK with q | ⟨D, rfl, hK2⟩
  · cases q
  obtain ⟨u, hu, ru⟩ := hK2 _ (List.mem_singleton.mpr rfl)
  obtain rfl : u = Value.ref (kwAbove K) := ru
  intro A outer s H us vs Q E hr e0 rv h
  obtain ⟨a, dx, z, rfl, hz, ha, fin⟩ := h
  obtain ⟨u1, u2, rfl, r1, r2⟩ := vals2 rv
  refine InC.run_in (ps := ["self", "name", "above"]) (us := [u1, u2, .ref (kwAbove K)]) (vs := [.ref a, .str z, .ref (kwAbove K)]) (pv := "members") (pd := "options") (sp := spInitB K) lk hcd sc_Kind_init StX.cxUp_none hr e0 (InC.bnd_dflt hu ⟨_, _, _, _, _, _, rfl, rfl, rfl⟩) (.cons r1 (.cons r2 (.cons rfl .nil))) rfl (fun A outer s H vs Q E hr h => init_body T hr h) fun p d hp hd hne => ?_
  have e : Ex H (upd (upd H p (.tup [])) d (.dK [])) := ex_two hp hd hne
  have hpa : p ≠ a := (ne_of_none ha hp).symm
  have hda : d ≠ a := (ne_of_none ha hd).symm
  exact ⟨a, p, kwAbove K, d, dx, z, [], [], [], [], [], [], [], 1, ki0, _, rfl, hz, e _ _ ha, hpa, dcl_nil T (st_of (by rw [del_ne hpa, upd_ne hne.symm, upd_same])) (by rw [del_ne hda, upd_same]), fun H' M f => fin H' (M.back fun p hp => fresh_back e hp) fun b u hb hba => f b u (e _ _ hb) hba⟩
/-- Kind.of(name, members, above, options) -/
def spOf (K : PySem.W.Frag) : Sp := fun vs H Q _ => ∃ (z : Str) (m t d : Addr) (its : Its) (ms : Mems) (st : Kvs) (tops cs l : List Addr) (lines : List (List Addr)) (k : Nat) (ki : Ki) (srt : Str → Str), vs = [.ref (kC K), .str z, .ref m, .ref t, .ref d] ∧ goodName z = true ∧ H m = some (.tup (refs (iaddr its))) ∧
  Dcl K H m t d its ms st tops cs l lines k ki srt ∧
  ∀ (a dx : Addr) (H' : Hp), H a = none → Made K H H' a dx 100 (kdOf ms st tops a l) (hkOf its) (kiW ki a (kdOf ms st tops a l)) (wholeAt ki ms st tops a l) → Ex H H' → Q (.ref a) H'
theorem ok_of (T : Txt K mg) : ∃ fd, FnOk P w K mg base CX0 7 (He5.wf K (kC K) "classmethod" "of") fd ["cls", "name", "members", "above", "options"] (spOf K) ∧ Binds K fd ["cls", "name", "members", "above", "options"] [] := by
  obtain ⟨fdD, FD, bD⟩ := can_declare (P := P) (w := w) (base := base) T
  have FI := fnr_init (P := P) (w := w) (base := base) T
  obtain ⟨fd, F⟩ := T.F_Kind_of
  refine ⟨fd, F.ok sc_Kind_of (fun vs H Q E h => ?_) (fun cdv A outer s H vs Q E hr h => ?_), ?_⟩
  · obtain ⟨z, m, t, d, its, ms, st, tops, cs, l, lines, k, ki, srt, rfl, _⟩ := h
    rfl
  · obtain ⟨z, m, t, d, its, ms, st, tops, cs, l, lines, k, ki, srt, rfl, hz, hm, hA, fin⟩ := h
    have nd := sc_Kind_of.nd
    refine ⟨_, pss_cons (ps_set (i := 5) nd rfl (.inl rfl) (InC.pe_makeL (i := 0) T.kmk FI hr rfl (.inl rfl) pass0 (pa_cons (pv 1) pa_nil)))
      (pss_cons (ps_expr (pe_meth (pv 5) T.cls T.m__declare FD (hr.mono (by decide)) bD .nil pass0 (pa_cons (pv 2) (pa_cons (pv 3) (pa_cons (pe_ifExp (pt_cmp (pc_isN (pv 4))) pe_dnewK (pv 4)) pa_nil)))))
      (pss_one (ps_ret (pv 5)))), ?_⟩
    refine ⟨rfl, _, rfl, fun a dx hna hnd hne => ⟨a, dx, z, rfl, hz, upd_same, fun H1 M1 f1 => ⟨rfl, ?_⟩⟩⟩
    have e1 : Ex H (del H1 a) := fun b o h => by
      have hb : b ≠ a := ne_of_none h hna
      rw [del_ne hb]
      refine f1 b o ?_ hb
      rw [upd_ne hb, upd_ne (ne_of_none h hnd)]
      exact h
    obtain ⟨fs1, a1, n1, l1, _⟩ := M1.fs
    have hA1 := hA.ex e1
    have hma : m ≠ a := ne_of_none hm hna
    have c1 : Ex (del H1 a) H1 := del_ex
    refine ⟨_, rfl, a, dx, fs1, rfl, a1, n1 _ (by simp [noKeys]), _, rfl, _, rfl, ?_⟩
    refine ev_if (b := false) (v := .ref d) (et_is (et_isN (x := .ref d) (ev_var rfl)) rfl) (fun h => by cases h) (fun _ => ev_var rfl) H1 (Ex.refl _) _ fun H2 e2 => ?_
    refine ⟨a, m, t, d, dx, fs1, its, ms, st, tops, cs, l, lines, k, ki, srt, rfl, e2 _ _ a1, n1, by omega, hma, hA1.ex (del_mono e2), fun H3 M3 f3 => ?_⟩
    refine ⟨_, rfl, fin a dx H3 hna ((M3.mono (by omega)).back fun p hp => fresh_back (e1.trans (c1.trans e2)) hp) fun b o h => ?_⟩
    have hb : b ≠ a := ne_of_none h hna
    exact f3 b o (e2 _ _ (c1 _ _ (e1 b o h))) hb
  · obtain ⟨ds, hv, hb⟩ := F.binds1 (ps := ["cls", "name", "members", "above", "options"]) 5 2 (by simp [He5.DefA.dvs, d_Kind_of]) rfl (fun T kV doc pm an cdv ct us its h1 h2 => match us, its, h1, h2 with | [_, _, _, _, _], [_, _], _, _ => ⟨_, rfl, rfl⟩)
    have : ds = [] := by
      have hv : Vals [] ds := hv
      cases hv
      rfl
    rw [this] at hb
    exact hb
/-- Kind.of(name, members, above) -/
def spOfN (K : PySem.W.Frag) : Sp := fun vs H Q _ => ∃ (z : Str) (m t : Addr) (its : Its) (ms : Mems) (tops cs l : List Addr) (lines : List (List Addr)) (k : Nat) (ki : Ki) (srt : Str → Str), vs = [.ref (kC K), .str z, .ref m, .ref t, .non] ∧ goodName z = true ∧ H m = some (.tup (refs (iaddr its))) ∧
  (∀ (d : Addr) (G : Hp), Ex H G → G d = some (.dK []) → Dcl K G m t d its ms [] tops cs l lines k ki srt) ∧
  ∀ (a dx : Addr) (H' : Hp), H a = none → Made K H H' a dx 100 (kdOf ms [] tops a l) (hkOf its) (kiW ki a (kdOf ms [] tops a l)) (wholeAt ki ms [] tops a l) → Ex H H' → Q (.ref a) H'
theorem ok_ofN (T : Txt K mg) : ∃ fd, FnOk P w K mg base CX0 7 (He5.wf K (kC K) "classmethod" "of") fd ["cls", "name", "members", "above", "options"] (spOfN K) ∧ Binds K fd ["cls", "name", "members", "above", "options"] [Value.none] := by
  obtain ⟨fdD, FD, bD⟩ := can_declare (P := P) (w := w) (base := base) T
  have FI := fnr_init (P := P) (w := w) (base := base) T
  obtain ⟨fd, F⟩ := T.F_Kind_of
  refine ⟨fd, F.ok sc_Kind_of (fun vs H Q E h => ?_) (fun cdv A outer s H vs Q E hr h => ?_), ?_⟩
  · obtain ⟨z, m, t, its, ms, tops, cs, l, lines, k, ki, srt, rfl, _⟩ := h
    rfl
  · obtain ⟨z, m, t, its, ms, tops, cs, l, lines, k, ki, srt, rfl, hz, hm, hA, fin⟩ := h
    have nd := sc_Kind_of.nd
    refine ⟨_, pss_cons (ps_set (i := 5) nd rfl (.inl rfl) (InC.pe_makeL (i := 0) T.kmk FI hr rfl (.inl rfl) pass0 (pa_cons (pv 1) pa_nil)))
      (pss_cons (ps_expr (pe_meth (pv 5) T.cls T.m__declare FD (hr.mono (by decide)) bD .nil pass0 (pa_cons (pv 2) (pa_cons (pv 3) (pa_cons (pe_ifExp (pt_cmp (pc_isN (pv 4))) pe_dnewK (pv 4)) pa_nil)))))
      (pss_one (ps_ret (pv 5)))), ?_⟩
    refine ⟨rfl, _, rfl, fun a dx hna hnd hne => ⟨a, dx, z, rfl, hz, upd_same, fun H1 M1 f1 => ⟨rfl, ?_⟩⟩⟩
    have e1 : Ex H (del H1 a) := fun b o h => by
      have hb : b ≠ a := ne_of_none h hna
      rw [del_ne hb]
      refine f1 b o ?_ hb
      rw [upd_ne hb, upd_ne (ne_of_none h hnd)]
      exact h
    obtain ⟨fs1, a1, n1, l1, _⟩ := M1.fs
    have hma : m ≠ a := ne_of_none hm hna
    have c1 : Ex (del H1 a) H1 := del_ex
    refine ⟨_, rfl, a, dx, fs1, rfl, a1, n1 _ (by simp [noKeys]), _, rfl, _, rfl, _, rfl, true, rfl, fun d hd => ?_⟩
    have e2 : Ex H1 (upd H1 d (.dK [])) := Ex.new hd
    have hda : d ≠ a := (ne_of_none a1 hd).symm
    have h2d : upd H1 d (.dK []) d = some (.dK []) := upd_same
    generalize upd H1 d (.dK []) = H2 at *
    have e02 : Ex H (del H2 a) := e1.trans (del_mono e2)
    refine ⟨a, m, t, d, dx, fs1, its, ms, [], tops, cs, l, lines, k, ki, srt, rfl, e2 _ _ a1, n1, by omega, hma, hA d _ e02 (by rw [del_ne hda]; exact h2d), fun H3 M3 f3 => ?_⟩
    refine ⟨_, rfl, fin a dx H3 hna ((M3.mono (by omega)).back fun p hp => fresh_back (e1.trans (c1.trans e2)) hp) fun b o h => ?_⟩
    have hb : b ≠ a := ne_of_none h hna
    exact f3 b o (e2 _ _ (c1 _ _ (e1 b o h))) hb
  · obtain ⟨ds, hv, hb⟩ := F.binds1 (ps := ["cls", "name", "members", "above", "options"]) 4 1 (by simp [He5.DefA.dvs, d_Kind_of]) rfl (fun T kV doc pm an cdv ct us its h1 h2 => match us, its, h1, h2 with | [_, _, _, _], [_, _], _, _ => ⟨_, rfl, rfl⟩)
    have : ds = [Value.none] := by
      have hv : Vals [.non] ds := hv
      obtain ⟨u, rfl, r⟩ := vals1' hv
      obtain rfl : u = Value.none := r
      rfl
    rw [this] at hb
    exact hb
end
end K17
end

section
set_option Elab.async false
set_option linter.all false
set_option maxRecDepth 100000
set_option maxHeartbeats 4000000
/-! functions made of lambdas that are kept: made, their cells told once their def has returned, called later -/
namespace KeL
open PySem PySem.Spec PyProof.Rows L2 LamX NdefX
/-- the function F, its body the expression e, stands at f -/
def LamO (f : Addr) (F : NF) (e : Expr) : HO := .ext fun h => ∃ pm ctv : Value, h.get? f = some (PySem.W.kla_obj F.name F.qual F.params e F.scope F.cl pm F.c ctv)
/-- the cell at c holds v -/
def CellO (c : Addr) (v : V) : HO := .ext fun h => ∃ u, RelV v u ∧ h.IsCell c (some u)
theorem lamO_ok {P : Program} {w : World} {H : Hp} {h : Heap} {f : Addr} {F : NF} {e : Expr} (z : ∃ pm ctv : Value, h.get? f = some (PySem.W.kla_obj F.name F.qual F.params e F.scope F.cl pm F.c ctv)) : ObjOk P w H h f (LamO f F e) := by
  obtain ⟨pm, ctv, z⟩ := z
  exact ⟨⟨pm, ctv, z⟩, ⟨_, z⟩, fun h1 h2 ⟨pm, ctv, a⟩ st => ⟨pm, ctv, st _ a⟩⟩
theorem cellO_ok {P : Program} {w : World} {H : Hp} {h : Heap} {c : Addr} {v : V} {u : Value} (r : RelV v u) (z : h.IsCell c (some u)) : ObjOk P w H h c (CellO c v) := by
  obtain ⟨o, z1, z2⟩ := z
  exact ⟨⟨u, r, o, z1, z2⟩, ⟨o, z1⟩, fun h1 h2 ⟨u, r, o, a, b⟩ st => ⟨u, r, o, st _ a, b⟩⟩
theorem lamO_tup {f : Addr} {F : NF} {e : Expr} (xs : List V) : LamO f F e ≠ .tup xs := fun z => by
  unfold LamO at z
  cases z
theorem cellO_own {c : Addr} {v : V} (x : Addr) : CellO c v ≠ .own x := fun z => by
  unfold CellO at z
  cases z
theorem cellO_tup {c : Addr} {v : V} (xs : List V) : CellO c v ≠ .tup xs := fun z => by
  unfold CellO at z
  cases z
theorem cellO_frz {c : Addr} {v : V} (o : Obj) (x : HO) : CellO c v ≠ .frz o x := fun z => by
  unfold CellO at z
  cases z
theorem cellO_tbl {c : Addr} {v : V} (ps : Array Value) : CellO c v ≠ .tbl ps := fun z => by
  unfold CellO at z
  cases z
theorem lamO_tbl {f : Addr} {F : NF} {e : Expr} (ps : Array Value) : LamO f F e ≠ .tbl ps := fun z => by
  unfold LamO at z
  cases z
theorem lamO_at {P : Program} {w : World} {H : Hp} {h : Heap} {f : Addr} {F : NF} {e : Expr} (hok : HOk P w H h) (z : H f = some (LamO f F e)) : ∃ pm ctv : Value, h.get? f = some (PySem.W.kla_obj F.name F.qual F.params e F.scope F.cl pm F.c ctv) := by
  obtain ⟨z, _, _⟩ := hok f _ z
  exact z
/-! ### cells, told or not -/
abbrev Cv := List (Addr × V)
/-- the heap in which these cells are told -/
def putC (cv : Cv) (H : Hp) : Hp := fun b => match cv.lookup b with
  | some v => some (CellO b v)
  | none => H b
/-- .. in which they are not -/
def delC (cv : Cv) (H : Hp) : Hp := fun b => match cv.lookup b with
  | some _ => none
  | none => H b
def CvAt (cv : Cv) (H : Hp) : Prop := ∀ c v, cv.lookup c = some v → H c = some (CellO c v)
theorem putC_in {cv : Cv} {H : Hp} {c : Addr} {v : V} (h : cv.lookup c = some v) : putC cv H c = some (CellO c v) := by
  unfold putC
  rw [h]
theorem putC_out {cv : Cv} {H : Hp} {c : Addr} (h : cv.lookup c = none) : putC cv H c = H c := by
  unfold putC
  rw [h]
theorem delC_in {cv : Cv} {H : Hp} {c : Addr} {v : V} (h : cv.lookup c = some v) : delC cv H c = none := by
  unfold delC
  rw [h]
theorem delC_out {cv : Cv} {H : Hp} {c : Addr} (h : cv.lookup c = none) : delC cv H c = H c := by
  unfold delC
  rw [h]
theorem delC_some {cv : Cv} {H : Hp} {c : Addr} {o : HO} (h : delC cv H c = some o) : cv.lookup c = none ∧ H c = some o := by
  cases q : cv.lookup c with
  | some v => rw [delC_in q] at h; cases h
  | none => exact ⟨rfl, by rw [delC_out q] at h; exact h⟩
theorem delC_none {cv : Cv} {H : Hp} {c : Addr} (h : H c = none) : delC cv H c = none := by
  cases q : cv.lookup c with
  | some v => exact delC_in q
  | none => rw [delC_out q]; exact h
theorem cvAt_put (cv : Cv) (H : Hp) : CvAt cv (putC cv H) := fun c v h => putC_in h
/-- what is no cell is in both -/
theorem delC_keep {cv : Cv} {H : Hp} {c : Addr} {o : HO} (C : CvAt cv H) (h : H c = some o) (n : ∀ v, o ≠ CellO c v) : delC cv H c = some o := by
  cases q : cv.lookup c with
  | some v =>
    have := C c v q
    rw [h] at this
    exact absurd (Option.some.inj this) (n v)
  | none => rw [delC_out q]; exact h
/-- a function's cells: its captured names fr, what they hold -/
structure KSt (cl : List (Str × Addr)) (fr : List Str) (cv : Cv) : Prop where
  len : cv.length = fr.length
  nd : (cv.map Prod.fst).Nodup
  sub : ∀ y c, cl.lookup y = some c → ∃ (i : Nat) (v : V), fr[i]? = some y ∧ cv[i]? = some (c, v)
  has : ∀ (i : Nat) (y : Str), fr[i]? = some y → ∃ (c : Addr) (v : V), cl.lookup y = some c ∧ cv[i]? = some (c, v)
theorem look_nd {cv : Cv} (nd : (cv.map Prod.fst).Nodup) {i : Nat} {c : Addr} {v : V} (h : cv[i]? = some (c, v)) : cv.lookup c = some v := by
  induction cv generalizing i with
  | nil => simp at h
  | cons p r ih =>
    obtain ⟨n1, n2⟩ := List.nodup_cons.mp nd
    cases i with
    | zero =>
      have e : p = (c, v) := by simpa using h
      subst e
      exact List.lookup_cons_self
    | succ i =>
      have h' : r[i]? = some (c, v) := by simpa using h
      have hne : c ≠ p.1 := fun e => n1 (by rw [← e]; exact List.mem_map.mpr ⟨(c, v), List.mem_of_getElem? h', rfl⟩)
      rw [List.lookup_cons, show (c == p.1) = false from beq_eq_false_iff_ne.mpr hne]
      exact ih n2 h'
theorem look_at {cv : Cv} {c : Addr} {v : V} (h : cv.lookup c = some v) : (c, v) ∈ cv := by
  induction cv with
  | nil => cases h
  | cons p r ih =>
    rw [List.lookup_cons] at h
    by_cases q : c = p.1
    · rw [show (c == p.1) = true from beq_iff_eq.mpr q] at h
      have e : p.2 = v := Option.some.inj h
      rw [← e, q]
      exact List.mem_cons_self ..
    · rw [show (c == p.1) = false from beq_eq_false_iff_ne.mpr q] at h
      exact List.mem_cons_of_mem _ (ih h)
section
variable {P : Program} {w : World} {K : PySem.W.Frag} {mg : Str → Option Value} {base : Heap} {A : Around} {outer : List Env} {s : Shared} {H : Hp} {cv : Cv} {cl : List (Str × Addr)} {fr : List Str}
theorem hok_del (C : CvAt cv H) {h : Heap} (x : HOk P w H h) : HOk P w (delC cv H) h := fun b o e => by
  obtain ⟨_, e2⟩ := delC_some e
  exact (x b o e2).stay (fun _ _ _ q => q) (fun d q => delC_keep C q fun v z => cellO_own b z.symm) fun d xs q => delC_keep C q fun v z => cellO_tup xs z.symm
theorem env0_del (C : CvAt cv H) (e0 : Env0 P w K mg base A outer s H) : Env0 P w K mg base A outer s (delC cv H) :=
  ⟨e0.frames, e0.mod, fun b o e => ⟨(e0.bs b o e).1, delC_none (e0.bs b o e).2⟩, e0.bsz, e0.funs, fun b hb => delC_none (e0.frf b hb), hok_del C e0.hok, e0.bare⟩
theorem cells_at (S : KSt cl fr cv) (C : CvAt cv H) {h : Heap} (x : HOk P w H h) : CellsAt cl fr (cv.map fun p => some p.2) h (delC cv H) where
  len := by rw [List.length_map]; exact S.len
  all := fun y c e => by
    obtain ⟨i, v, _, e2⟩ := S.sub y c e
    have l := look_nd S.nd e2
    obtain ⟨⟨u, _, z⟩, _, _⟩ := x c _ (C c v l)
    exact ⟨delC_in l, some u, z⟩
  inj := fun y z c e1 e2 => by
    obtain ⟨i, v, a1, a2⟩ := S.sub y c e1
    obtain ⟨j, v', b1, b2⟩ := S.sub z c e2
    have h1 : (cv.map Prod.fst)[i]? = some c := by rw [List.getElem?_map, a2]; rfl
    have h2 : (cv.map Prod.fst)[j]? = some c := by rw [List.getElem?_map, b2]; rfl
    obtain ⟨l1, g1⟩ := List.getElem?_eq_some_iff.mp h1
    obtain ⟨l2, g2⟩ := List.getElem?_eq_some_iff.mp h2
    have : i = j := (List.getElem_inj S.nd).mp (g1.trans g2.symm)
    subst this
    rw [a1] at b1
    exact Option.some.inj b1
  has := fun i y e => by
    obtain ⟨c, v, e1, e2⟩ := S.has i y e
    refine ⟨c, e1, fun v' h => ?_⟩
    rw [List.getElem?_map, e2] at h
    obtain rfl : v = v' := Option.some.inj (Option.some.inj h)
    obtain ⟨⟨u, r, z⟩, _, _⟩ := x c _ (C c v (look_nd S.nd e2))
    exact ⟨u, r, z⟩
end
/-! ### called -/
section
variable {P : Program} {w : World} {K : PySem.W.Frag} {mg : Str → Option Value} {base : Heap} {N ps fr : List Str} {F : NF} {e : Expr} {f : Addr} {k : Nat} {sp : Sp} {cv : Cv}
/-- behind the call the cells are told again -/
theorem back_cells {outer : List Env} {s s' : Shared} {H H' : Hp} {A : Around} (C : CvAt cv H) (e0 : Env0 P w K mg base A outer s H) (un : Un (frs outer) [] (delC cv H) H' s.heap s'.heap) (hok : HOk P w H' s'.heap) :
    Un (frs outer) [] H (putC cv H') s.heap s'.heap ∧ HOk P w (putC cv H') s'.heap ∧ ∀ c v, cv.lookup c = some v → H' c = none := by
  have ncv : ∀ b, H b = none → cv.lookup b = none := fun b n => by
    cases q : cv.lookup b with
    | none => rfl
    | some v => rw [C b v q] at n; cases n
  have out : ∀ b o, H b = some o → (∀ v, o ≠ CellO b v) → cv.lookup b = none := fun b o e n => by
    cases q : cv.lookup b with
    | none => rfl
    | some v => rw [C b v q] at e; exact absurd (Option.some.inj e).symm (n v)
  have cellHas : ∀ c v, cv.lookup c = some v → ∃ o u, s.heap.get? c = some o ∧ o.data = .cell (some u) ∧ RelV v u ∧ s'.heap.get? c = some o ∧ H' c = none := fun c v q => by
    obtain ⟨⟨u, r, o, z1, z2⟩, _, _⟩ := e0.hok c _ (C c v q)
    have nf : c ∉ frs outer := fun hb => by
      have := e0.frf c hb
      rw [C c v q] at this
      cases this
    exact ⟨o, u, z1, z2, r, un.keep c o z1 (delC_in q) nf (by simp), un.free c o z1 (delC_in q) (by simp)⟩
  refine ⟨⟨fun b o q n h1 h2 => un.keep b o q (delC_none n) h1 h2, fun b o q n h1 h2 => un.slot b o q (delC_none n) h1 h2, fun b o q n h => by rw [putC_out (ncv b n)]; exact un.free b o q (delC_none n) h, un.there, fun b xs q => ?_, fun b o u q => ?_, fun b ps q => ?_⟩, fun b o q => ?_, ?_⟩
  · have l := out b _ q fun v z => cellO_tup xs z.symm
    rw [putC_out l]
    exact un.tups b xs (by rw [delC_out l]; exact q)
  · have l := out b _ q fun v z => cellO_frz o u z.symm
    rw [putC_out l]
    exact un.frzs b o u (by rw [delC_out l]; exact q)
  · have l := out b _ q fun v z => cellO_tbl ps z.symm
    obtain ⟨m, e⟩ := un.tbls b ps (by rw [delC_out l]; exact q)
    exact ⟨m, by rw [putC_out l]; exact e⟩
  rotate_left
  · exact fun c v q => (cellHas c v q).choose_spec.choose_spec.2.2.2.2
  · cases l : cv.lookup b with
    | some v =>
      rw [putC_in l] at q
      obtain rfl := Option.some.inj q
      obtain ⟨o', u, _, z2, r, z3, _⟩ := cellHas b v l
      exact cellO_ok r ⟨o', z3, z2⟩
    | none =>
      rw [putC_out l] at q
      refine (hok b o q).stay (fun _ _ _ z => z) (fun d z => ?_) fun d xs z => ?_
      · cases l2 : cv.lookup d with
        | none => rw [putC_out l2]; exact z
        | some v =>
          obtain ⟨_, _, _, _, _, _, z5⟩ := cellHas d v l2
          rw [z5] at z
          cases z
      · cases l2 : cv.lookup d with
        | none => rw [putC_out l2]; exact z
        | some v =>
          obtain ⟨_, _, _, _, _, _, z5⟩ := cellHas d v l2
          rw [z5] at z
          cases z
/-- THE RULE: a kept lambda by its body; in it its own cells are not told -/
theorem fnr_lam (S : NScope N ps fr F.scope) (hb : ∀ (pm cdv ctv : Value) (us : List Value), us.length = ps.length → bindArgs (PySem.W.kla_fn F.name F.qual F.params e F.scope F.cl pm cdv ctv) ⟨us, []⟩ = pure (ps.zip us)) (len : ∀ vs H Q E, sp vs H Q E → vs.length = ps.length)
    (hat : ∀ vs H Q E, sp vs H Q E → H f = some (LamO f F e) ∧ H F.c = some (CodeO F.c F.qual) ∧ KSt F.cl fr cv ∧ CvAt cv H)
    (hbody : ∀ (A : Around) (outer : List Env) (s : Shared) (H : Hp) (vs : List V) (Q : VK) (E : XK), Room k (A.deeper (envF F f s.heap.objs.size)) → sp vs H Q E →
      ∃ te, PE (ncx C8.CX0 P w K mg base N F f A outer s (delC cv H) E) e te ∧ te (startF N vs (cv.map fun p => some p.2)) (delC cv H) fun v H' => (∀ c v, cv.lookup c = some v → H' c = none) → Q v (putC cv H')) :
    FnR P w K mg base C8.CX0 (k + 1) f sp := by
  intro A outer s H us vs Q E hr e0 r hsp
  have hl := len _ _ _ _ hsp
  obtain ⟨hf, hc, St, C⟩ := hat _ _ _ _ hsp
  have lim : s.heap.NoLimit := e0.mod.nolimit.keeps fun b o e => (e0.bs b o e).1
  obtain ⟨pm, ctv, ho⟩ := lamO_at e0.hok hf
  refine PySem.W.kla_callFunE hr.depth ho rfl S.co S.gen rfl (codeO_at e0.hok hc) ?_
  rw [hb pm _ ctv us (by rw [← r.length]; exact hl)]
  refine wpAny_pure (wpAny_newFunctionEnv S.nocell (fun ⟨n, _⟩ hy => S.par n (List.of_mem_zip hy).1) (fun h₁ hns hsb => ⟨lim.fresh _ hsb, ?_⟩) S.kind)
  show codeAny _ _ (.expr e (envF F f s.heap.objs.size)) _ _
  have kp : ∀ b o, s.heap.get? b = some o → h₁.get? b = some o := fun b o q => hsb.extBut b o (Nat.ne_of_lt (Heap.lt_size q)) (Heap.get?_push_of_some _ q)
  obtain ⟨te, hte, hq⟩ := hbody A outer s H vs Q E (hr.deeper _) hsp
  have I : Inv (ncx C8.CX0 P w K mg base N F f A outer s (delC cv H) E) [] (startF N vs (cv.map fun p => some p.2)) (delC cv H) { s with heap := h₁, toks := s.toks + (ps.zip us).length } := inv_startN S hr.hd (env0_del C e0) hl r (cells_at St C e0.hok) hns kp
  refine PySem.W.kla_codeExpr (wpAny_mono (hte.run [] _ _ _ _ I hq) (fun v s' hs => ?_) fun e' s' hs => hs)
  obtain ⟨v', H', J, rv, q⟩ := hs
  obtain ⟨u1, u2, u3⟩ := back_cells (s' := s') (H' := H') C e0 J.base J.hok
  exact ⟨v', putC cv H', J.os, J.bare, u1, u2, rv, q u3⟩
end
end KeL
end

section
set_option Elab.async false
set_option linter.all false
set_option maxRecDepth 100000
set_option maxHeartbeats 4000000
namespace KeL
open PySem PySem.Spec PyProof.Rows L2 LamX NdefX
/-! ### made -/
abbrev lamF (X : Cx) (params : Arguments) (scope : Scope) (c' : Addr) : NF := ⟨"<lambda>", X.env.qual ++ "<lambda>", params, [], scope, cloFrom X.env.cells scope.names [], c'⟩
section
variable {X : Cx} {pins : List (Addr × Obj)} {σ : L2.St} {H : Hp} {s : Shared}
theorem lam_kept {T : List (Addr × Str)} {c P : Addr} {params : Arguments} {body : Expr} {scope : Scope} {pos : Pos} {E : Value → Shared → Prop} {Q : Value → Shared → Prop} (I : Inv X pins σ H s) (TB : TabB X.base X.mg c P) (hcd : X.env.code = .ref c)
    (hin : (P, X.env.qual ++ "<lambda>") ∈ T) (hone : ∀ p ∈ T, p.1 = P → p.2 = X.env.qual ++ "<lambda>") (hT : Tabs T H) (hdf : defaultsOf params X.env = ([], [])) (hfr : ∀ y ∈ scope.names, y.2 = .free → ∃ c, X.env.cells.lookup y.1 = some c)
    (fin : ∀ (f c' : Addr) (H1 : Hp) (s' : Shared), Inv X pins σ H1 s' → ExtN H H1 → Tabs T H1 → H f = none → H1 f = some (LamO f (lamF X params scope c') body) → H1 c' = some (CodeO c' (X.env.qual ++ "<lambda>")) → Q (.ref f) s') :
    wpAny (model X.prog X.w) X.A (eval (.Lambda params body scope pos) X.env) Q E s := by
  obtain ⟨tb, h1, h2, h3⟩ := hT _ hin
  refine PySem.W.kla_eval hdf ?_
  have bP : s.heap.BuiltinsAt X.mg P := TB.bm.keeps I.bk
  have g1 : s.heap.get? P = some { cls := .none, data := .fields tb } := I.hok P _ h1
  have gl := I.mod.glob.keeps I.bk
  have cd := TB.code.keeps I.bk
  cases hq : codeAmong pos tb.toList with
  | none =>
    refine PySem.W.kla_makeFunction (mg := X.mg) (ps := tb) (closure_ok hfr) I.ok.glob gl hcd cd g1 h2 hq TB.gP bP ?_
    intro c' ctv h' tk hx hge hlt hrec htb
    obtain ⟨c2, oc, vs, t, e2, ho, hd, hv⟩ := hrec
    cases e2
    have nC : H c' = none := I.hok.fresh hge
    have J := inv_table (t' := tk) (more := #[rawInt pos.line, rawInt pos.col, .ref c']) (h' := h') I h1 (fun b o hb e => hx b o hb e) htb hge ⟨oc, vs, t, ho, hd, hv⟩
    have hE : ExtN H (upd (upd H P (.tbl (tb ++ #[rawInt pos.line, rawInt pos.col, .ref c']))) c' (CodeO c' (X.env.qual ++ "<lambda>"))) := by
      intro b o e n
      rw [upd_ne (ne_of_none e nC), upd_ne (fun z => n tb (Option.some.inj (e.symm.trans (by rw [z]; exact h1))))]
      exact e
    have nPc : P ≠ c' := ne_of_none h1 nC
    have hTb : Tabs T (upd (upd H P (.tbl (tb ++ #[rawInt pos.line, rawInt pos.col, .ref c']))) c' (CodeO c' (X.env.qual ++ "<lambda>"))) := by
      intro p hp
      by_cases hb : p.1 = P
      · have eL : (tb ++ #[rawInt pos.line, rawInt pos.col, .ref c']).toList = tb.toList ++ [rawInt pos.line, rawInt pos.col, .ref c'] := by simp
        rw [hone p hp hb, hb]
        refine ⟨_, by rw [upd_ne nPc, upd_same], by rw [eL]; exact PySem.TriplesOk_snoc _ _ _ _ h2, ?_⟩
        intro p' cv hcv
        rw [eL] at hcv
        rcases among_app _ h2 hcv with z | z
        · obtain ⟨c0, e1, e2⟩ := h3 p' cv z
          exact ⟨c0, e1, hE _ _ e2 codeO_ne⟩
        · exact ⟨c', z, upd_same⟩
      · obtain ⟨tb', a1, a2, a3⟩ := hT p hp
        refine ⟨tb', by rw [upd_ne (ne_of_none a1 nC), upd_ne hb]; exact a1, a2, ?_⟩
        intro p' cv hcv
        obtain ⟨c0, e1, e2⟩ := a3 p' cv hcv
        exact ⟨c0, e1, hE _ _ e2 codeO_ne⟩
    have hsz : s.heap.objs.size ≤ h'.objs.size := Nat.le_trans hge (Nat.le_of_lt hlt)
    have hcT : upd (upd H P (.tbl (tb ++ #[rawInt pos.line, rawInt pos.col, .ref c']))) c' (CodeO c' (X.env.qual ++ "<lambda>")) c' = some (CodeO c' (X.env.qual ++ "<lambda>")) := upd_same
    generalize upd (upd H P (.tbl (tb ++ #[rawInt pos.line, rawInt pos.col, .ref c']))) c' (CodeO c' (X.env.qual ++ "<lambda>")) = HT at J hE hTb hcT
    have nf : HT h'.objs.size = none := J.hok.fresh (Nat.le_refl _)
    have J2 := J.laid (a := h'.objs.size) (o := LamO h'.objs.size (lamF X params scope c') body) (t' := tk) (h' := h'.push (PySem.W.kla_obj "<lambda>" (X.env.qual ++ "<lambda>") params body scope (cloFrom X.env.cells scope.names []) ((X.mg "__name__").getD .none) c' ctv)) (fun b o q => Heap.get?_push_of_some _ q) (Nat.le_refl _) (lamO_ok ⟨_, _, Heap.get?_push_size _ rfl⟩)
    have eL : ∀ b o, HT b = some o → upd HT h'.objs.size (LamO h'.objs.size (lamF X params scope c') body) b = some o := fun b o q => by rw [upd_ne (ne_of_none q nf)]; exact q
    exact fin _ c' _ _ J2 (hE.trans (ExtN.of eL)) (hTb.ext eL) (I.hok.fresh hsz) upd_same (eL _ _ hcT)
  | some cv =>
    obtain ⟨c', e, hco⟩ := h3 pos cv hq
    subst e
    refine PySem.W.kla_makeFunctionHit (mg := X.mg) (ps := tb) (closure_ok hfr) I.ok.glob gl hcd cd g1 h2 hq bP ?_
    intro ctv h' tk hx hsz
    have J : Inv X pins σ H { s with heap := h', toks := tk } := I.kept hx
    have nf : H h'.objs.size = none := I.hok.fresh hsz
    have J2 := J.laid (a := h'.objs.size) (o := LamO h'.objs.size (lamF X params scope c') body) (t' := tk) (h' := h'.push (PySem.W.kla_obj "<lambda>" (X.env.qual ++ "<lambda>") params body scope (cloFrom X.env.cells scope.names []) ((X.mg "__name__").getD .none) c' ctv)) (fun b o q => Heap.get?_push_of_some _ q) (Nat.le_refl _) (lamO_ok ⟨_, _, Heap.get?_push_size _ rfl⟩)
    have eL : ∀ b o, H b = some o → upd H h'.objs.size (LamO h'.objs.size (lamF X params scope c') body) b = some o := fun b o q => by rw [upd_ne (ne_of_none q nf)]; exact q
    exact fin _ c' _ _ J2 (ExtN.of eL) (hT.ext eL) nf upd_same (eL _ _ hco)
/-- a lambda as a value: the function is kept -/
def tLamK (T : List (Addr × Str)) (mk : Addr → NF) (e : Expr) (q : Str) : TE := fun _ H Q => Tabs T H ∧ ∀ (f c' : Addr) (H1 : Hp), ExtN H H1 → Tabs T H1 → H f = none → H1 f = some (LamO f (mk c') e) → H1 c' = some (CodeO c' q) → Q (.ref f) H1
def Free1 (sc scope : Scope) : Prop := ∀ y ∈ scope.names, y.2 = .free → sc.names.lookup y.1 = some .cell ∨ sc.names.lookup y.1 = some .free
theorem free1_by {sc scope : Scope} (h : (scope.names.all fun y => !decide (y.2 = .free) || decide (sc.names.lookup y.1 = some .cell) || decide (sc.names.lookup y.1 = some .free)) = true) : Free1 sc scope := by
  intro y hy e
  have h1 := List.all_eq_true.mp h y hy
  simp only [Bool.or_eq_true, Bool.not_eq_true', decide_eq_true_eq, decide_eq_false_iff_not] at h1
  rcases h1 with (z | z) | z
  · exact absurd e z
  · exact .inl z
  · exact .inr z
theorem pe_lamK {T : List (Addr × Str)} {c P : Addr} {params : Arguments} {body : Expr} {scope : Scope} {pos : Pos} (TB : TabB X.base X.mg c P) (hcd : X.env.code = .ref c) (hin : (P, X.env.qual ++ "<lambda>") ∈ T) (hone : ∀ p ∈ T, p.1 = P → p.2 = X.env.qual ++ "<lambda>")
    (L : Free1 X.env.scope scope) (hdf : defaultsOf params X.env = ([], [])) : PE X (.Lambda params body scope pos) (tLamK T (lamF X params scope) body (X.env.qual ++ "<lambda>")) := by
  refine ⟨fun pins s σ H Q I h => ?_⟩
  obtain ⟨hT, h⟩ := h
  exact lam_kept I TB hcd hin hone hT hdf (fun y hy e => (L y hy e).elim (fun k => I.ok.has _ (.inl k)) (fun k => I.ok.has _ (.inr k))) fun f c' H1 s' I1 eN T1 hf hl hc => ⟨.ref f, H1, I1, rfl, h f c' H1 eN T1 hf hl hc⟩
end
/-! ### a def that hands out its cells -/
structure EndC where
  nx : L2.St → Hp → Prop
  rt : L2.St → VK
def SPc (X : Cx) (pins : List (Addr × Obj)) (D : EndC) (f : Flow) (s' : Shared) : Prop := match f with
  | .next => ∃ σ' H', Inv X pins σ' H' s' ∧ D.nx σ' H'
  | .ret u => ∃ v σ' H', Inv X pins σ' H' s' ∧ RelV v u ∧ D.rt σ' v H'
  | _ => False
/-- statements whose end is told with what the names hold there -/
structure PSc (X : Cx) (st : List Stmt) (t : EndC → L2.St → Hp → Prop) : Prop where
  run : ∀ (pins : List (Addr × Obj)) (s : Shared) (σ : L2.St) (H : Hp) (D : EndC), Inv X pins σ H s → t D σ H → wpAny (model X.prog X.w) X.A (execs st X.env) (SPc X pins D) X.xe s
section
variable {X : Cx} {st : Stmt} {rest : List Stmt} {t : TS} {u : EndC → L2.St → Hp → Prop} {e : Expr} {te : TE} {pos : Pos}
/-- a statement that does not return -/
theorem psc_cons (h1 : PS X st t) (h2 : PSc X rest u) : PSc X (st :: rest) (fun D σ H => t { nx := u D, rt := fun _ _ => False } σ H) := by
  refine ⟨fun pins s σ H D I h => ?_⟩
  refine wpAny_execs_cons (thn (h1.run pins s σ H { nx := u D, rt := fun _ _ => False } I h) fun f s1 q => ?_)
  cases f with
  | next =>
    obtain ⟨σ', H', I', q⟩ := q
    exact h2.run pins s1 σ' H' D I' q
  | ret v =>
    obtain ⟨_, _, _, _, _, q⟩ := q
    exact q.elim
  | brk =>
    obtain ⟨_, _, _, q⟩ := q
    exact False.elim q
  | cont =>
    obtain ⟨_, _, _, q⟩ := q
    exact False.elim q
theorem psc_ret (he : PE X e te) : PSc X [.Return (some e) pos] (fun D σ H => te σ H (D.rt σ)) := by
  refine ⟨fun pins s σ H D I h => ?_⟩
  have h0 : wpAny (model X.prog X.w) X.A (exec (.Return (some e) pos) X.env) (SPc X pins D) X.xe s := wpAny_Return_some (thn (he.run pins s σ H _ I h) fun v s1 ⟨x, H1, I1, r1, q1⟩ => ⟨x, σ, H1, I1, r1, q1⟩)
  refine wpAny_execs_cons (thn h0 fun f s1 q => ?_)
  cases f with
  | next => exact wpAny_execs_nil q
  | ret v => exact q
  | brk => exact False.elim q
  | cont => exact False.elim q
end
/-- these cells of the running def hold what its names hold -/
def CvOk (X : Cx) (σ : L2.St) (cv : Cv) : Prop := ∀ c v, cv.lookup c = some v → ∃ (i : Nat) (y : Str), X.env.cells.lookup y = some c ∧ X.N[i]? = some y ∧ σ[i]? = some (some v) ∧ X.env.scope.names.lookup y = some .cell
section
variable {P : Program} {w : World} {K : PySem.W.Frag} {mg : Str → Option Value} {base : Heap}
/-- behind its end they are told -/
theorem end_cells {CX : CXT} {N : List Str} {qual : Str} {scope : Scope} {f : Addr} {cd : Value} {A : Around} {outer : List Env} {s s' : Shared} {H H' : Hp} {E : XK} {σ : L2.St} {cv : Cv} (J : Inv (cxOf CX P w K mg base N qual scope f cd A outer s H E) [] σ H' s') (hc : CvOk (cxOf CX P w K mg base N qual scope f cd A outer s H E) σ cv) :
    Un (frs outer) [] H (putC cv H') s.heap s'.heap ∧ HOk P w (putC cv H') s'.heap := by
  have cell : ∀ c v, cv.lookup c = some v → s.heap.objs.size ≤ c ∧ H' c = none ∧ ∃ u, RelV v u ∧ s'.heap.IsCell c (some u) := fun c v q => by
    obtain ⟨i, y, e1, e2, e3, e4⟩ := hc c v q
    refine ⟨J.ok.cab y c rfl e1, J.freeC y c e1, ?_⟩
    obtain ⟨m, _, hl⟩ := J.loc
    obtain ⟨u, r, l⟩ := hl i y v e2 e3 (.inr (.inl e4))
    rcases l with ⟨z, _⟩ | ⟨_, c', z1, z2⟩
    · have z : scope.names.lookup y = some .local := z
      have e4 : scope.names.lookup y = some .cell := e4
      rw [e4] at z
      cases z
    · rw [e1] at z1
      cases z1
      exact ⟨u, r, z2⟩
  have old : ∀ b o, s.heap.get? b = some o → cv.lookup b = none := fun b o q => by
    cases l : cv.lookup b with
    | none => rfl
    | some v => exact absurd (Nat.lt_of_lt_of_le (Heap.lt_size q) (cell b v l).1) (Nat.lt_irrefl _)
  have trk : ∀ b o, H' b = some o → putC cv H' b = some o := fun b o q => by
    cases l : cv.lookup b with
    | none => rw [putC_out l]; exact q
    | some v => rw [(cell b v l).2.1] at q; cases q
  refine ⟨⟨fun b o q n h1 h2 => J.base.keep b o q n h1 h2, fun b o q n h1 h2 => J.base.slot b o q n h1 h2, fun b o q n h => by rw [putC_out (old b o q)]; exact J.base.free b o q n h, J.base.there, fun b xs q => trk _ _ (J.base.tups b xs q), fun b o u q => trk _ _ (J.base.frzs b o u q), fun b ps q => ?_⟩, fun b o q => ?_⟩
  · obtain ⟨m, e⟩ := J.base.tbls b ps q
    exact ⟨m, trk _ _ e⟩
  · cases l : cv.lookup b with
    | some v =>
      rw [putC_in l] at q
      obtain rfl := Option.some.inj q
      obtain ⟨_, _, u, r, z⟩ := cell b v l
      exact cellO_ok r z
    | none =>
      rw [putC_out l] at q
      exact (J.hok b o q).stay (fun _ _ _ z => z) (fun d z => trk _ _ z) fun d xs z => trk _ _ z
/-- THE RULE for a def whose lambdas outlive it; their cells are new -/
theorem okC {x qual : Str} {st : Stmt} {f : Addr} {fd : FuncData} {N ps : List Str} {k : Nat} {sp : Sp} (F : Fun K x qual st f fd) (S : FnScope N ps (defScope st)) (len : ∀ vs H Q E, sp vs H Q E → vs.length = ps.length)
    (hbody : ∀ (A : Around) (outer : List Env) (s : Shared) (H : Hp) (vs : List V) (Q : VK) (E : XK), Room k (A.deeper (envOfC qual (defScope st) s.heap.objs.size f (.ref (HkQ.cOf K f)))) → sp vs H Q E →
      ∃ t, PSc (cxOf CX0 P w K mg base N qual (defScope st) f (.ref (HkQ.cOf K f)) A outer s H E) (defBody st) t ∧
        t { nx := fun _ _ => False, rt := fun σ v H' => ∃ cv, CvOk (cxOf CX0 P w K mg base N qual (defScope st) f (.ref (HkQ.cOf K f)) A outer s H E) σ cv ∧ ((∀ c v, cv.lookup c = some v → H c = none ∧ H' c = none) → Q v (putC cv H')) } (start N vs) H) : FnOk P w K mg base CX0 (k + 1) f fd ps sp := by
  obtain ⟨oc, od, kV, doc, pm, an, cdv, ct, osl, rfl, lk, hcd⟩ := F.ex
  obtain ⟨c0, rfl⟩ := He.codeIn_ref hcd
  have ec := HkQ.cOf_eq lk rfl
  refine ⟨len, fun A outer s H args us vs Q E hr e0 hb r hsp => ?_⟩
  have hl := len _ _ _ _ hsp
  have kX : K.In s.heap := e0.mod.kin.keeps fun b o e => (e0.bs b o e).1
  have lim : s.heap.NoLimit := e0.mod.nolimit.keeps fun b o e => (e0.bs b o e).1
  have hk : ∀ y ∈ ps.zip us, (defScope st).names.lookup y.1 = some .local ∨ ((defScope st).names.lookup y.1 = some .cell ∧ ((cellsFrom (s.heap.objs.size + 1) (defScope st).names []).lookup y.1).isSome = true) := by
    intro y hy
    rcases S.par y.1 (List.of_mem_zip hy).1 with q | q
    · exact .inl q
    · exact .inr ⟨q, PySem.W.cellsFrom_some _ _ _ (.inl q)⟩
  refine codeAny_call_function hr.depth (kX _ _ lk) rfl S.co S.gen rfl (PySem.W.codeRec_of kX hcd) (hb _ _ _ _ ?_)
  refine wpAny_newFunctionEnv_cells S.kind hk fun env he s1 x => ?_
  subst he
  refine ⟨lim.keeps x.toInCall.keep, codeAny_func ?_⟩
  obtain ⟨t, ht, hq⟩ := hbody A outer s H vs Q E (by rw [ec]; exact hr.deeper _) hsp
  rw [ec] at ht hq
  have I := inv_start (CX := CX0) (E := E) S hr.hd e0 hl r x
  refine wpAny_mono (ht.run [] s1 (start N vs) H _ I hq) (fun fl s' hs => ?_) fun e s' hs => hs
  cases fl with
  | ret u =>
    obtain ⟨v, σ', H', J, rv, cv, hcv, q⟩ := hs
    obtain ⟨u1, u2⟩ := end_cells J hcv
    exact ⟨v, putC cv H', J.os, J.bare, u1, u2, rv, q fun c v l => by
      obtain ⟨i, y, e1, _⟩ := hcv c v l
      exact ⟨e0.hok.fresh (J.ok.cab y c rfl e1), J.freeC y c e1⟩⟩
  | next =>
    obtain ⟨_, _, _, q⟩ := hs
    exact False.elim q
  | brk => exact False.elim hs
  | cont => exact False.elim hs
end
/-! ### called by a local name -/
section
variable {X : Cx} {CX : CXT} {k i : Nat} {E : XK} {x : Str} {e : Expr} {es : List Expr} {t : TA} {p pos : Pos}
/-- x(e, .., *y), the i-th slot holds a kept function -/
def tCallKS (i : Nat) (G : Addr → Option Sp) (E : XK) (t : TA) : TE := fun σ H Q => ∃ (f : Addr) (F : NF) (b : Expr) (sp : Sp), σ[i]? = some (some (.ref f)) ∧ G f = some sp ∧ t σ H fun vs H1 => H1 f = some (LamO f F b) ∧ sp vs H1 Q E
theorem lam_fnAt {pins : List (Addr × Obj)} {σ : L2.St} {H : Hp} {s : Shared} {f : Addr} {F : NF} {b : Expr} (I : Inv X pins σ H s) (h : H f = some (LamO f F b)) : PySem.W.FnAt f s.heap := by
  obtain ⟨pm, ctv, z⟩ := lamO_at I.hok h
  exact ⟨_, _, _, _, z⟩
theorem pe_callKS {G : Addr → Option Sp} (hG : ∀ f sp, G f = some sp → FnR X.prog X.w X.K X.mg X.base CX k f sp) (hr : Room k X.A) (hx : Passes CX X E) (hN : X.N[i]? = some x) (hv : Vis X.env.scope x) (ha : PA X (e :: es) t)
    (hd : (x == ("__debug__" : Str)) = false := by decide) (hcd : (x == ("__classdict__" : Str)) = false := by decide)
    (he : starEach (e :: es) X.env = (false, eval e X.env) :: starEach es X.env := by rfl) (hst : (backTo pos (starEach es X.env)).any (·.1) = true := by rfl) : PE X (.Call (.Name x p) (e :: es) [] pos) (tCallKS i G E t) := by
  refine ⟨fun pins s σ H Q I h => ?_⟩
  obtain ⟨f, F, b, sp, hs, hg, ht⟩ := h
  refine wpAny_Call_Name_kw (thn ((pe_var (pos := p) hN hv hd hcd).run pins s σ H (fun v H1 => v = .ref f ∧ H1 = H) I ⟨.ref f, hs, rfl, rfl⟩) fun u s1 ⟨v, H1, I1, r1, q1⟩ => ?_)
  obtain ⟨rfl, rfl⟩ := q1
  obtain rfl : u = Value.ref f := r1
  have hspl := ha.run pos pins s1 σ H1 _ I1 ht
  rw [he] at hspl ⊢
  refine PySem.W.ks_call (P := PySem.W.FnAt f) (by show (false || (backTo pos (starEach es X.env)).any (·.1)) = true; rw [hst]; rfl) PySem.W.keeps_F (Calls.evalArgs_plain (thn hspl fun us s2 ⟨vs, H2, I2, r, hf, q⟩ => ?_))
  exact ⟨lam_fnAt I2 hf, wpAny_call (run_fnR (hG f sp hg) hr hx I2 r q)⟩
end
end KeL
end

section
set_option Elab.async false
set_option linter.all false
set_option maxRecDepth 100000
set_option maxHeartbeats 4000000
namespace K17
open PySem PySem.Spec PyProof.Rows L2 He Cn Evl
/-! ### what a kind without data is to those that call -/
structure KX where
  line : List Addr
  hk : Option Addr
  mt : Option Addr
abbrev Xi := Addr → KX
def EmptyAt (H : Hp) (fs : List (Str × V)) : Prop := ∃ p1 p2 p3 p4 p5 : Addr, fs.lookup ("_by_position" : Str) = some (.ref p1) ∧ H p1 = some (.lst []) ∧ fs.lookup ("_parameters" : Str) = some (.ref p2) ∧ H p2 = some (.lst []) ∧ fs.lookup ("_parameter_names" : Str) = some (.ref p3) ∧ H p3 = some (.lst []) ∧
  fs.lookup ("fields" : Str) = some (.ref p4) ∧ H p4 = some (.tup []) ∧ fs.lookup ("_init_only" : Str) = some (.ref p5) ∧ H p5 = some (.lst [])
theorem EmptyAt.ex {H H' : Hp} {fs : List (Str × V)} (e : Ex H H') (h : EmptyAt H fs) : EmptyAt H' fs := by
  obtain ⟨p1, p2, p3, p4, p5, a1, b1, a2, b2, a3, b3, a4, b4, a5, b5⟩ := h
  exact ⟨p1, p2, p3, p4, p5, a1, e _ _ b1, a2, e _ _ b2, a3, e _ _ b3, a4, e _ _ b4, a5, e _ _ b5⟩
/-- the kind at a -/
def KXAt (K : PySem.W.Frag) (H : Hp) (a : Addr) (x : KX) : Prop := ∃ (dx q d : Addr) (md : Kvs) (fs : List (Str × V)), H a = some (.ins (kC K) dx fs) ∧ NoM fs ∧ fs.lookup ("line" : Str) = some (.ref q) ∧ SqD K H q (refs x.line) ∧ fs.lookup ("own_hook" : Str) = some (hkV x.hk) ∧
  fs.lookup ("own_methods" : Str) = some (.ref d) ∧ H d = some (.dK md) ∧ valV md (.inr "go") = x.mt.map V.ref ∧ x.line.length ≤ 50 ∧ EmptyAt H fs
theorem KXAt.ex {K : PySem.W.Frag} {H H' : Hp} {a : Addr} {x : KX} (e : Ex H H') (h : KXAt K H a x) : KXAt K H' a x := by
  obtain ⟨dx, q, d, md, fs, h1, h2, h3, h4, h5, h6, h7, h8, h9, h10⟩ := h
  exact ⟨dx, q, d, md, fs, e _ _ h1, h2, h3, h4.ex e, h5, h6, e _ _ h7, h8, h9, h10.ex e⟩
theorem KXAt.ko {K : PySem.W.Frag} {H : Hp} {a : Addr} {x : KX} (h : KXAt K H a x) : KO (kC K) H a := by
  obtain ⟨dx, q, d, md, fs, h1, _⟩ := h
  exact ⟨dx, fs, h1⟩
def XsAt (K : PySem.W.Frag) (H : Hp) (xi : Xi) (l : List Addr) : Prop := ∀ a, a ∈ l → KXAt K H a (xi a)
theorem XsAt.ex {K : PySem.W.Frag} {H H' : Hp} {xi : Xi} {l : List Addr} (e : Ex H H') (h : XsAt K H xi l) : XsAt K H' xi l := fun a ha => (h a ha).ex e
def fhk (xi : Xi) (l : List Addr) : Option Addr := l.findSome? fun b => (xi b).hk
def fmt (xi : Xi) (l : List Addr) : Option Addr := l.findSome? fun b => (xi b).mt
theorem findSome_take {α β : Type} {f : α → Option β} {l : List α} {i : Nat} {x : α} (h : l[i]? = some x) (hn : (l.take i).findSome? f = none) : l.findSome? f = (match f x with | some y => some y | none => (l.drop (i + 1)).findSome? f) ∧ (f x = none → (l.take (i + 1)).findSome? f = none) := by
  have e : l = l.take i ++ x :: l.drop (i + 1) := by
    rw [← drop_at h, List.take_append_drop]
  refine ⟨?_, fun q => ?_⟩
  · conv => lhs; rw [e, List.findSome?_append, hn]
    rw [List.findSome?_cons]
    cases f x <;> rfl
  · rw [List.take_add_one, h, List.findSome?_append, hn]
    simp [q]
section
variable {K : PySem.W.Frag} {σ : L2.St} {H : Hp} {ta tn : TE}
/-- t[n:] -/
theorem es_drop {q : Addr} {l : List Addr} {n : Nat} (ha : Ev ta σ H (.ref q)) (hq : SqT K H q (refs l)) (hn : Ev tn σ H (.int (n : Nat))) (hl : n ≤ l.length) (Q : VK) (h : ∀ (p : Addr) (H' : Hp), Ex H H' → SqT K H' p (refs (l.drop n)) → Q (.ref p) H') : tSl (rSlA K) ta (tPart tn) tNoPart σ H Q := by
  have lr : (refs l).length = l.length := by unfold refs; rw [List.length_map]
  refine ha H (Ex.refl _) _ fun H1 e1 => hn H1 e1 _ fun H2 e2 => ⟨_, rfl, q, refs l, rfl, ex_t (e1.trans e2) hq, fun hw => ?_, fun _ p hp => ?_⟩
  · refine h q H2 (e1.trans e2) ?_
    rw [lr, HT.sIx_nat, Nat.min_eq_left hl] at hw
    rw [hw.1, List.drop_zero]
    exact ex_t (e1.trans e2) hq
  · refine h p _ ((e1.trans e2).trans (Ex.new hp)) ?_
    rw [cut_drop (by rw [lr]; exact hl)]
    refine st_of ?_
    rw [upd_same]
    unfold refs
    rw [List.map_drop]
theorem s_forS {xs : List V} {tl : TE} {g : TG} {tu : TS} {D : Ends} (h : ∀ Q : VK, (∀ (p : Addr) (H' : Hp), Ex H H' → SqT K H' p xs → Q (.ref p) H') → tl σ H Q) (Pv : Hp → Nat → L2.St → Hp → Prop) (h0 : ∀ H1, Ex H H1 → Pv H1 0 σ H1) (hl : ∀ H1 i σ' H', Pv H1 i σ' H' → Ex H1 H')
    (hs : ∀ H1, Ex H H1 → ∀ i x σ' H', xs[i]? = some x → Pv H1 i σ' H' → g x σ' H' fun σ2 H2 => tu { D with nx := Pv H1 (i + 1), ct := Pv H1 (i + 1), bk := D.nx } σ2 H2) (hd : ∀ H1, Ex H H1 → ∀ σ' H', Pv H1 xs.length σ' H' → D.nx σ' H') : tFor (iTup K tl) g tu D σ H :=
  h _ fun p H1 e hp => ⟨p, rfl, ⟨xs, hp⟩, for_tup (Pv H1) (h0 H1 e) (fun i σ' H' _ q => ex_t (hl H1 i σ' H' q) hp) (hs H1 e) (hd H1 e)⟩
end
section
variable {P : Program} {w : World} {K : PySem.W.Frag} {mg : Str → Option Value} {base : Heap}
theorem ev_line (T : Txt K mg) {σ : L2.St} {H : Hp} {te : TE} {a : Addr} {x : KX} (h : KXAt K H a x) : ∃ q, SqD K H q (refs x.line) ∧ ∀ {H' : Hp} {te : TE} {σ : L2.St}, Ex H H' → Ev te σ H' (.ref a) → Ev (tFld K te "line") σ H' (.ref q) := by
  obtain ⟨dx, q, d, md, fs, h1, h2, h3, h4, _⟩ := h
  exact ⟨q, h4, fun e he => ev_fld he (e _ _ h1) T.cls T.a_line h3⟩
def spFindHook (K : PySem.W.Frag) : Sp := fun vs H Q _ => ∃ (a : Addr) (n : Nat) (xi : Xi), vs = [.ref a, .int (n : Nat)] ∧ KXAt K H a (xi a) ∧ XsAt K H xi (xi a).line ∧ n ≤ (xi a).line.length ∧ ∀ H', Ex H H' → Q (hkV (fhk xi ((xi a).line.drop n))) H'
theorem can_findHook (T : Txt K mg) : ∃ fd, FnOk P w K mg base CX0 1 (ma K (kC K) "find_hook") fd ["self", "place"] (spFindHook K) ∧ Binds K fd ["self", "place"] [] := by
  obtain ⟨fd, F⟩ := T.F_Kind_find_hook
  refine ⟨fd, F.ok sc_Kind_find_hook (fun vs H Q E h => ?_) (fun cdv A outer s H vs Q E hr h => ?_), F.binds (ps := ["self", "place"]) fun _ _ _ _ _ _ us hl => match us, hl with | [_, _], _ => rfl⟩
  · obtain ⟨a, n, xi, rfl, _⟩ := h
    rfl
  · obtain ⟨a, n, xi, rfl, hk, hx, hn, fin⟩ := h
    have nd := sc_Kind_find_hook.nd
    refine ⟨_, pss_cons (ps_for PassesOwn.never rfl (pi_tup (pe_slice sl_tupA (pe_fld (pv 0) rfl) (po_some (pv 1)) po_none)) (pg_name (i := 2) nd rfl (.inl rfl))
        (pss_one (ps_if (pt_cmp (pc_notN (pe_fld (pv 2) rfl))) (pss_one (ps_ret (pe_fld (pv 2) rfl))) pss_nil))) (pss_one (ps_ret pe_non)), ?_⟩
    obtain ⟨q, hq, rd⟩ := ev_line T (te := tVar 0) (σ := []) hk
    have lr : (refs ((xi a).line.drop n)).length = ((xi a).line.drop n).length := by unfold refs; rw [List.length_map]
    refine s_forS (K := K) (xs := refs ((xi a).line.drop n)) (fun Q h => es_drop (rd (Ex.refl _) (ev_var rfl)) hq.1 (ev_var rfl) hn Q h) (fun H1 i σ' H' => (∃ v, σ' = [some (.ref a), some (.int (n : Nat)), v]) ∧ Ex H1 H' ∧ fhk xi (((xi a).line.drop n).take i) = none) (fun H1 e => ⟨⟨_, rfl⟩, Ex.refl _, rfl⟩) (fun H1 i σ' H' q => q.2.1) ?_ ?_
    · rintro H1 e i x σ' H' hi ⟨⟨v, rfl⟩, e1, hno⟩
      obtain ⟨b, hb, rfl⟩ := refs_at hi
      have hbm : b ∈ (xi a).line := List.mem_of_mem_drop (List.mem_of_getElem? hb)
      have hb2 := (hx b hbm).ex (e.trans e1)
      obtain ⟨s1, s2⟩ := findSome_take hb hno
      have rdh : ∀ {H2 : Hp}, Ex H' H2 → Ev (tFld K (tVar 2) "own_hook") [some (.ref a), some (.int (n : Nat)), some (.ref b)] H2 (hkV (xi b).hk) := fun e2 => by
        obtain ⟨dx, q, d, md, fs, g1, g2, g3, g4, g5, _⟩ := hb2
        exact ev_fld (ev_var rfl) (e2 _ _ g1) T.cls T.a_own_hook g5
      refine s_when (b := (xi b).hk.isSome) (et_is (et_notN (rdh (Ex.refl _))) (by cases (xi b).hk <;> rfl)) (fun hs H2 e2 => ?_) fun hs H2 e2 => ?_
      · refine s_ret (v := hkV (xi b).hk) (rdh e2) fun H3 e3 => ?_
        have : fhk xi ((xi a).line.drop n) = (xi b).hk := by
          unfold fhk
          rw [s1]
          cases q : (xi b).hk with
          | none => rw [q] at hs; cases hs
          | some y => rfl
        have := fin H3 (((e.trans e1).trans e2).trans e3)
        rwa [‹fhk xi _ = _›] at this
      · exact ⟨⟨_, rfl⟩, e1.trans e2, s2 (by cases q : (xi b).hk with | none => rfl | some y => rw [q] at hs; cases hs)⟩
    · rintro H1 e σ' H' ⟨⟨v, rfl⟩, e1, hno⟩
      rw [lr, List.take_length] at hno
      show tRet (tC V.non) { nx := fun _ H' => Q .non H', rt := Q } [some (.ref a), some (.int (n : Nat)), v] H'
      refine s_ret (v := .non) ev_c fun H2 e2 => ?_
      have := fin H2 ((e.trans e1).trans e2)
      rwa [hno] at this
def spFindMethod (K : PySem.W.Frag) : Sp := fun vs H Q _ => ∃ (a : Addr) (n : Nat) (xi : Xi), vs = [.ref a, .int (n : Nat), .str "go"] ∧ KXAt K H a (xi a) ∧ XsAt K H xi (xi a).line ∧ n ≤ (xi a).line.length ∧ ∀ H', Ex H H' → Q (hkV (fmt xi ((xi a).line.drop n))) H'
theorem can_findMethod (T : Txt K mg) : ∃ fd, FnOk P w K mg base CX0 1 (ma K (kC K) "find_method") fd ["self", "place", "name"] (spFindMethod K) ∧ Binds K fd ["self", "place", "name"] [] := by
  obtain ⟨fd, F⟩ := T.F_Kind_find_method
  refine ⟨fd, F.ok sc_Kind_find_method (fun vs H Q E h => ?_) (fun cdv A outer s H vs Q E hr h => ?_), F.binds (ps := ["self", "place", "name"]) fun _ _ _ _ _ _ us hl => match us, hl with | [_, _, _], _ => rfl⟩
  · obtain ⟨a, n, xi, rfl, _⟩ := h
    rfl
  · obtain ⟨a, n, xi, rfl, hk, hx, hn, fin⟩ := h
    have nd := sc_Kind_find_method.nd
    have hu := hu_of hr
    refine ⟨_, pss_cons (ps_if (pt_not (pt_val (pe_callB call_isi (by rfl) T.n_isinstance (by decide +kernel) (pa_cons (pv 2) (pa_cons (pe_bltn rfl T.n_str (v := .ty "str") (by decide +kernel) rfl) pa_nil))))) (pss_one ps_never) pss_nil)
      (pss_cons (ps_for PassesOwn.never rfl (pi_tup (pe_slice sl_tupA (pe_fld (pv 0) rfl) (po_some (pv 1)) po_none)) (pg_name (i := 3) nd rfl (.inl rfl))
        (pss_one (ps_if (pt_cmp (pc_din hu (pv 2) (pe_fld (pv 3) rfl))) (pss_one (ps_ret (pe_dget hu (pe_fld (pv 3) rfl) (pv 2) (fun _ _ => rfl)))) pss_nil))) (pss_one (ps_ret pe_non))), ?_⟩
    refine q_when (b := false) (et_not (a := true) (et_B (ev_cb (ea_cons (ev_var rfl) (ea_cons ev_c ea_nil)) fun H5 e Q q => ⟨.str "go", .ty "str", .type "str", .type "str", true, rfl, .ty _, .base (.str "go"), kit_ty (by decide +kernel), q H5 (Ex.refl H5)⟩))) (fun h => by cases h) fun _ H0 e0 => ?_
    obtain ⟨q, hq, rd⟩ := ev_line T (te := tVar 0) (σ := []) (hk.ex e0)
    have lr : (refs ((xi a).line.drop n)).length = ((xi a).line.drop n).length := by unfold refs; rw [List.length_map]
    refine s_forS (K := K) (xs := refs ((xi a).line.drop n)) (fun Q h => es_drop (rd (Ex.refl _) (ev_var rfl)) hq.1 (ev_var rfl) hn Q h) (fun H1 i σ' H' => (∃ v, σ' = [some (.ref a), some (.int (n : Nat)), some (.str "go"), v]) ∧ Ex H1 H' ∧ fmt xi (((xi a).line.drop n).take i) = none) (fun H1 e => ⟨⟨_, rfl⟩, Ex.refl _, rfl⟩) (fun H1 i σ' H' q => q.2.1) ?_ ?_
    · rintro H1 e i x σ' H' hi ⟨⟨v, rfl⟩, e1, hno⟩
      obtain ⟨b, hb, rfl⟩ := refs_at hi
      have hbm : b ∈ (xi a).line := List.mem_of_mem_drop (List.mem_of_getElem? hb)
      have hb2 := (hx b hbm).ex ((e0.trans e).trans e1)
      obtain ⟨s1, s2⟩ := findSome_take hb hno
      obtain ⟨dx, q, d, md, fs, g1, g2, g3, g4, g5, g6, g7, g8, _⟩ := hb2
      have rdm : ∀ {H2 : Hp}, Ex H' H2 → Ev (tFld K (tVar 3) "own_methods") [some (.ref a), some (.int (n : Nat)), some (.str "go"), some (.ref b)] H2 (.ref d) := fun e2 => ev_fld (ev_var rfl) (e2 _ _ g1) T.cls T.a_own_methods g6
      refine s_when (b := (xi b).mt.isSome) (et_B (ev_is (ev_din (ev_var rfl) (rdm (Ex.refl _)) (.inl g7)) (by unfold ohas; rw [g8]; cases (xi b).mt <;> rfl))) (fun hs H2 e2 => ?_) fun hs H2 e2 => ?_
      · cases qm : (xi b).mt with
        | none => rw [qm] at hs; cases hs
        | some y =>
          rw [qm] at g8
          refine s_ret (v := .ref y) (ev_dat (rdm e2) (ev_var rfl) (.inl (e2 _ _ g7)) g8) fun H3 e3 => ?_
          have h2 : fmt xi ((xi a).line.drop n) = some y := by
            unfold fmt
            rw [s1, qm]
          have := fin H3 ((((e0.trans e).trans e1).trans e2).trans e3)
          rwa [h2] at this
      · exact ⟨⟨_, rfl⟩, e1.trans e2, s2 (by cases q : (xi b).mt with | none => rfl | some y => rw [q] at hs; cases hs)⟩
    · rintro H1 e σ' H' ⟨⟨v, rfl⟩, e1, hno⟩
      rw [lr, List.take_length] at hno
      show tRet (tC V.non) { nx := fun _ H' => Q .non H', rt := Q } [some (.ref a), some (.int (n : Nat)), some (.str "go"), v] H'
      refine s_ret (v := .non) ev_c fun H2 e2 => ?_
      have := fin H2 (((e0.trans e).trans e1).trans e2)
      rwa [hno] at this
/-- kind.is_below(other) -/
def spIsBelow (K : PySem.W.Frag) : Sp := fun vs H Q _ => ∃ (a b : Addr) (l : List Addr), vs = [.ref a, .ref b] ∧ LnAt K H a l ∧ KO (kC K) H b ∧ (∀ c, c ∈ l → KO (kC K) H c) ∧ ∀ H', Ex H H' → Q (.bl (decide (b ∈ l))) H'
theorem ev_isK (T : Txt K mg) {σ : L2.St} {H : Hp} {ta : TE} {a : Addr} (h : Ev ta σ H (.ref a)) (hk : KO (kC K) H a) : Ev (tCB (rIsi K) (tCons ta (tCons (tC (.ref (ga K "Kind"))) tNil))) σ H (.bl true) := by
  obtain ⟨dx, fs, h1⟩ := hk
  exact ev_isO T.cls T.ins T.isK h h1
theorem can_below (T : Txt K mg) : ∃ fd, FnOk P w K mg base CX0 1 (ma K (kC K) "is_below") fd ["self", "other"] (spIsBelow K) ∧ Binds K fd ["self", "other"] [] := by
  obtain ⟨fd, F⟩ := T.F_Kind_is_below
  refine ⟨fd, F.ok sc_Kind_is_below (fun vs H Q E h => ?_) (fun cdv A outer s H vs Q E hr h => ?_), F.binds (ps := ["self", "other"]) fun _ _ _ _ _ _ us hl => match us, hl with | [_, _], _ => rfl⟩
  · obtain ⟨a, b, l, rfl, _⟩ := h
    rfl
  · obtain ⟨a, b, l, rfl, hL, hb, hc, fin⟩ := h
    have nd := sc_Kind_is_below.nd
    refine ⟨_, pss_one (ps_ret (pe_and (pe_callB call_isi (by rfl) T.n_isinstance (by decide +kernel) (pa_cons (pv 1) (pa_cons (pe_glob rfl T.g_Kind (v := .ref (ga K "Kind")) rfl) pa_nil))) (pe_one (pe_cmpR (op_in_id hr T.idc) (pv 1) (pe_fld (pv 0) rfl) rfl)))), ?_⟩
    obtain ⟨dx, q, fs, h1, h2, h3⟩ := hL
    refine s_ret (v := .bl (decide (b ∈ l))) (ev_is (ev_andV (a := true) (b := decide (b ∈ l)) (ev_isK T (ev_var rfl) hb) fun _ => ?_) rfl) fun H5 e5 => fin H5 e5
    exact ev_op (ev_var rfl) (ev_fld (ev_var rfl) h1 T.cls T.a_line h2) (rv_in_id (neg := false) (.inr h3.1) hb hc)
end
end K17
end

section
set_option Elab.async false
set_option linter.all false
set_option maxRecDepth 100000
set_option maxHeartbeats 4000000
namespace K17
open PySem PySem.Spec PyProof.Rows L2 He Cn Evl
/-! ### records -/
/-- a record of the kind at k -/
def RcAt (K : PySem.W.Frag) (H : Hp) (r k : Addr) : Prop := ∃ (dx : Addr) (vs : List (Option V)), SlX.Slt H r (kR K) dx vs ∧ vs[1]? = some (some (.ref k))
theorem slt_ex {H H' : Hp} {a C dx : Addr} {vs : List (Option V)} (e : Ex H H') (h : SlX.Slt H a C dx vs) : SlX.Slt H' a C dx vs := by
  rcases h with ⟨h1, h2⟩ | ⟨h1, h2⟩
  · exact .inl ⟨e _ _ h1, h2⟩
  · exact .inr ⟨e _ _ h1, e _ _ h2⟩
theorem RcAt.ex {K : PySem.W.Frag} {H H' : Hp} {r k : Addr} (e : Ex H H') (h : RcAt K H r k) : RcAt K H' r k := by
  obtain ⟨dx, vs, h1, h2⟩ := h
  exact ⟨dx, vs, slt_ex e h1, h2⟩
section
variable {P : Program} {w : World} {K : PySem.W.Frag} {mg : Str → Option Value} {base : Heap}
theorem ev_tix {σ : L2.St} {H : Hp} {to ta : TE} {q a : Addr} {r : List Addr} (ho : Ev to σ H (.ref q)) (ha : Ev ta σ H (.ref a)) (hS : SqD K H q (refs r)) (hk : KO (kC K) H a) (hr : ∀ b, b ∈ r → KO (kC K) H b) (hm : a ∈ r) : Ev (tBMD K (rIndexI (kC K) (SqT K)) to (tCons ta tNil)) σ H (.int ((r.idxOf a : Nat) : Int)) := fun H1 e Q k =>
  ho H1 e _ fun H2 e2 => ⟨⟨q, _, rfl, hS.ex (e.trans e2)⟩, ha H2 (e.trans e2) _ fun H3 e3 => ⟨q, .ref a, refs r, rfl, rfl, ex_t ((e.trans e2).trans e3) hS.1, (hk.ex ((e.trans e2).trans e3)).id, ids fun b hb => (hr b hb).ex ((e.trans e2).trans e3), mem_refs.mpr hm, by
    rw [idx_refs]
    exact k H3 (e2.trans e3)⟩⟩
theorem ev_kind (T : Txt K mg) {σ : L2.St} {H : Hp} {te : TE} {r k : Addr} (he : Ev te σ H (.ref r)) (h : RcAt K H r k) : Ev (SlX.tSl K te "_kind") σ H (.ref k) := fun H1 e Q q =>
  he H1 e _ fun H2 e2 => by
    obtain ⟨dx, vs, h1, h2⟩ := h.ex (e.trans e2)
    exact ⟨r, kR K, dx, _, vs, 1, _, rfl, h1, T.rS, T.rS_kind, h2, q H2 e2⟩
/-- record._place_behind(kind), the kind in the line -/
def spPlace (K : PySem.W.Frag) : Sp := fun vs H Q _ => ∃ (r k b : Addr) (x : KX), vs = [.ref r, .ref b] ∧ RcAt K H r k ∧ KXAt K H k x ∧ (∀ c, c ∈ x.line → KO (kC K) H c) ∧ b ∈ x.line ∧ ∀ H', Ex H H' → Q (.int ((x.line.idxOf b + 1 : Nat) : Int)) H'
theorem can_place (T : Txt K mg) : FnR P w K mg base CX0 2 (ma K (kR K) "_place_behind") (spPlace K) := by
  obtain ⟨fd, F⟩ := T.F_Record__place_behind
  obtain ⟨fdB, FB, bB⟩ := can_below (P := P) (w := w) (base := base) T
  have FO : FnOk P w K mg base CX0 2 (ma K (kR K) "_place_behind") fd ["self", "kind"] (spPlace K) := by
    refine F.ok sc_Record__place_behind (fun vs H Q E h => ?_) (fun cdv A outer s H vs Q E hr h => ?_)
    · obtain ⟨r, k, b, x, rfl, _⟩ := h
      rfl
    · obtain ⟨r, k, b, x, rfl, hr0, hk, hl, hb, fin⟩ := h
      refine ⟨_, pss_cons (ps_if (pt_not (pt_val (pe_meth (SlX.pe_sl (pv 0)) T.cls T.m_is_below FB hr bB .nil pass0 (pa_cons (pv 1) pa_nil)))) (pss_one ps_never) pss_nil)
        (pss_one (ps_ret (pe_op op_add (pe_bmD PySem.F.slot_tuple_index PySem.F.type_tuple_index (mt_tindex_id hr T.idc) (pe_fld (SlX.pe_sl (pv 0)) rfl) (pa_cons (pv 1) pa_nil)) pe_int))), ?_⟩
      refine q_when (b := false) (et_not (a := true) (et_B ?_)) (fun h => by cases h) fun _ H1 e1 => ?_
      · intro H1 e1 Q' q'
        refine ev_kind T (ev_var rfl) (hr0.ex e1) H1 (Ex.refl _) _ fun H2 e2 => ?_
        obtain ⟨dx, q, d, md, fs, h1, h2, h3, h4, _⟩ := hk.ex (e1.trans e2)
        refine ⟨k, dx, fs, rfl, h1, h2 _ (by simp [noKeys]), _, rfl, k, b, x.line, rfl, ⟨dx, q, fs, h1, h3, h4⟩, (hl b hb).ex (e1.trans e2), fun c hc => (hl c hc).ex (e1.trans e2), fun H3 e3 => ?_⟩
        have := q' H3 (e2.trans e3)
        simpa [hb] using this
      · obtain ⟨q, hq, rd⟩ := ev_line T (te := tVar 0) (σ := []) (hk.ex e1)
        refine s_ret (v := .int ((x.line.idxOf b + 1 : Nat) : Int)) (ev_is (ev_op (ev_tix (rd (Ex.refl _) (ev_kind T (ev_var rfl) (hr0.ex e1))) (ev_var rfl) hq ((hl b hb).ex e1) (fun c hc => (hl c hc).ex e1) hb) ev_c rv_I0) (by simp)) fun H2 e2 => fin H2 (e1.trans e2)
  refine (FO.raw (F.binds (ps := ["self", "kind"]) fun _ _ _ _ _ _ us hl => match us, hl with | [_, _], _ => rfl) .nil).imp fun vs H Q E h => ?_
  rw [List.append_nil]
  exact h
end
end K17
end

section
set_option Elab.async false
set_option linter.all false
set_option maxRecDepth 100000
set_option maxHeartbeats 4000000
namespace K17
open PySem PySem.Spec PyProof.Rows L2 He Cn Evl KeL
/-! ### the two lambdas of _law_parts_of -/
def hkL : Expr := match defBody s__law_parts_of with
  | [_, .If _ [.Expr (.Call _ [.Call _ [l] _ _] _ _) _] _ _, _, _] => l
  | _ => .Constant .none 0 ⟨0, 0, 0, 0⟩
def mtL : Expr := match defBody s__law_parts_of with
  | [_, _, .If _ [.Expr (.Call _ [.Call _ [_, l] _ _] _ _) _] _ _, _] => l
  | _ => .Constant .none 0 ⟨0, 0, 0, 0⟩
def lamE : Expr → Expr
  | .Lambda _ b _ _ => b
  | e => e
def lamP : Expr → Arguments
  | .Lambda p _ _ _ => p
  | _ => defArgs s__law_parts_of
def lamSc : Expr → Scope
  | .Lambda _ _ s _ => s
  | _ => defScope s__law_parts_of
def qLam : Str := "_law_parts_of.<locals>.<lambda>"
abbrev hkF (cl : List (Str × Addr)) (c' : Addr) : NdefX.NF := ⟨"<lambda>", qLam, lamP hkL, [], lamSc hkL, cl, c'⟩
abbrev mtF (cl : List (Str × Addr)) (c' : Addr) : NdefX.NF := ⟨"<lambda>", qLam, lamP mtL, [], lamSc mtL, cl, c'⟩
def frN : List Str := ["made", "log", "n"]
theorem hk_sc : NdefX.nscB ["record", "made", "log", "n"] ["record"] frN (lamSc hkL) = true := by decide +kernel
theorem mt_sc : NdefX.nscB ["record", "step", "made", "log", "n"] ["record", "step"] frN (lamSc mtL) = true := by decide +kernel
theorem hk_scope (cl : List (Str × Addr)) (c' : Addr) : NdefX.NScope ["record", "made", "log", "n"] ["record"] frN (hkF cl c').scope := NdefX.nscope_by hk_sc
theorem mt_scope (cl : List (Str × Addr)) (c' : Addr) : NdefX.NScope ["record", "step", "made", "log", "n"] ["record", "step"] frN (mtF cl c').scope := NdefX.nscope_by mt_sc
theorem hk_bind (cl : List (Str × Addr)) (c' : Addr) (pm cdv ctv : Value) (us : List Value) (h : us.length = ["record"].length) : bindArgs (PySem.W.kla_fn (hkF cl c').name (hkF cl c').qual (hkF cl c').params (lamE hkL) (hkF cl c').scope (hkF cl c').cl pm cdv ctv) ⟨us, []⟩ = pure ((["record"] : List Str).zip us) :=
  match us, h with
  | [_], _ => rfl
theorem mt_bind (cl : List (Str × Addr)) (c' : Addr) (pm cdv ctv : Value) (us : List Value) (h : us.length = ["record", "step"].length) : bindArgs (PySem.W.kla_fn (mtF cl c').name (mtF cl c').qual (mtF cl c').params (lamE mtL) (mtF cl c').scope (mtF cl c').cl pm cdv ctv) ⟨us, []⟩ = pure ((["record", "step"] : List Str).zip us) :=
  match us, h with
  | [_, _], _ => rfl
/-! ### what is kept where cells are not told -/
def ExE (G G' : Hp) : Prop := ∀ b o, G b = some o → (∀ φ, o ≠ .ext φ) → G' b = some o
theorem sqt_exE {K : PySem.W.Frag} {G G' : Hp} {p : Addr} {xs : List V} (e : ExE G G') (h : SqT K G p xs) : SqT K G' p xs := by
  rcases h with (h | ⟨o, h⟩) | h
  · exact .inl (.inl (e _ _ h (fun _ z => nomatch z)))
  · exact .inl (.inr ⟨o, e _ _ h (fun _ z => nomatch z)⟩)
  · exact .inr h
theorem sqd_exE {K : PySem.W.Frag} {G G' : Hp} {p : Addr} {xs : List V} (e : ExE G G') (h : SqD K G p xs) : SqD K G' p xs := by
  refine ⟨sqt_exE e h.1, ?_⟩
  rcases h.2 with ⟨o, u, h, d⟩ | h
  · exact .inl ⟨o, u, e _ _ h (fun _ z => nomatch z), d⟩
  · exact .inr h
theorem kx_exE {K : PySem.W.Frag} {G G' : Hp} {a : Addr} {x : KX} (e : ExE G G') (h : KXAt K G a x) : KXAt K G' a x := by
  obtain ⟨dx, q, d, md, fs, h1, h2, h3, h4, h5, h6, h7, h8, h9, p1, p2, p3, p4, p5, a1, b1, a2, b2, a3, b3, a4, b4, a5, b5⟩ := h
  exact ⟨dx, q, d, md, fs, e _ _ h1 (fun _ z => nomatch z), h2, h3, sqd_exE e h4, h5, h6, e _ _ h7 (fun _ z => nomatch z), h8, h9, p1, p2, p3, p4, p5, a1, e _ _ b1 (fun _ z => nomatch z), a2, e _ _ b2 (fun _ z => nomatch z), a3, e _ _ b3 (fun _ z => nomatch z), a4, e _ _ b4 (fun _ z => nomatch z), a5, e _ _ b5 (fun _ z => nomatch z)⟩
/-! ### the kinds of a line as their lambdas know them -/
/-- a hook that holds the function at f -/
def HkAt (K : PySem.W.Frag) (H : Hp) (h f : Addr) : Prop := ∃ dx fs, H h = some (.ins (kH K) dx fs) ∧ fs.lookup ("function" : Str) = some (.ref f)
theorem HkAt.ex {K : PySem.W.Frag} {H H' : Hp} {h f : Addr} (e : Ex H H') (x : HkAt K H h f) : HkAt K H' h f := by
  obtain ⟨dx, fs, h1, h2⟩ := x
  exact ⟨dx, fs, e _ _ h1, h2⟩
structure KI where
  i : Nat
  cl : List (Str × Addr)
  cv : Cv
abbrev Ks_ := Addr → KI
/-- the lambda's function and its code object -/
def FnAt_ (H : Hp) (F : Addr → NdefX.NF) (e : Expr) (f : Addr) : Prop := ∃ c', H f = some (LamO f (F c') e) ∧ H c' = some (LamX.CodeO c' qLam)
theorem FnAt_.ex {H H' : Hp} {F : Addr → NdefX.NF} {b : Expr} {f : Addr} (e : Ex H H') (x : FnAt_ H F b f) : FnAt_ H' F b f := by
  obtain ⟨c', h1, h2⟩ := x
  exact ⟨c', e _ _ h1, e _ _ h2⟩
structure LmAt (K : PySem.W.Frag) (H : Hp) (x : KX) (k : KI) : Prop where
  hook : ∀ h, x.hk = some h → ∃ f, HkAt K H h f ∧ FnAt_ H (hkF k.cl) (lamE hkL) f
  meth : ∀ m, x.mt = some m → ∃ f, MemAt K H m (.mth "go" (.ref f)) ∧ FnAt_ H (mtF k.cl) (lamE mtL) f
theorem LmAt.ex {K : PySem.W.Frag} {H H' : Hp} {x : KX} {k : KI} (e : Ex H H') (h : LmAt K H x k) : LmAt K H' x k := by
  refine ⟨fun a ha => ?_, fun a ha => ?_⟩
  · obtain ⟨f, h1, h2⟩ := h.hook a ha
    exact ⟨f, h1.ex e, h2.ex e⟩
  · obtain ⟨f, h1, h2⟩ := h.meth a ha
    exact ⟨f, h1.ex e, h2.ex e⟩
structure CvOf (md lg : Addr) (k : KI) : Prop where
  st : KSt k.cl frN k.cv
  at_ : k.cv.map Prod.snd = [.ref md, .ref lg, .int (k.i : Nat)]
theorem CvAt.ex {cv : Cv} {H H' : Hp} (e : Ex H H') (h : CvAt cv H) : CvAt cv H' := fun c v q => e _ _ (h c v q)
/-- all that stays while hooks and methods of a line are called, told of the heap without the log; from the place p on the cells are told -/
structure Wd (K : PySem.W.Frag) (G : Hp) (md lg : Addr) (as : List Addr) (xi : Xi) (ki : Ks_) (l : List Addr) (p : Nat) : Prop where
  made : G md = some (.lst (refs as))
  asl : as.length ≤ 50
  kx : XsAt K G xi l
  lm : ∀ b, b ∈ l → LmAt K G (xi b) (ki b)
  num : ∀ b, b ∈ l → as[(ki b).i]? = some b
  cvo : ∀ b, b ∈ l → CvOf md lg (ki b)
  nd : l.Nodup
  len : l.length ≤ 50
  dj : ∀ b, b ∈ l → ∀ b', b' ∈ l → b ≠ b' → ∀ c v, (ki b).cv.lookup c = some v → (ki b').cv.lookup c = none
  cells : ∀ b, b ∈ l.drop p → CvAt (ki b).cv G
theorem Wd.ex {K : PySem.W.Frag} {G G' : Hp} {md lg : Addr} {as : List Addr} {xi : Xi} {ki : Ks_} {l : List Addr} {p : Nat} (e : Ex G G') (h : Wd K G md lg as xi ki l p) : Wd K G' md lg as xi ki l p :=
  ⟨e _ _ h.made, h.asl, h.kx.ex e, fun b hb => (h.lm b hb).ex e, h.num, h.cvo, h.nd, h.len, h.dj, fun b hb => CvAt.ex e (h.cells b hb)⟩
theorem Wd.later {K : PySem.W.Frag} {G : Hp} {md lg : Addr} {as : List Addr} {xi : Xi} {ki : Ks_} {l : List Addr} {p q : Nat} (h : Wd K G md lg as xi ki l p) (hq : p ≤ q) : Wd K G md lg as xi ki l q :=
  ⟨h.made, h.asl, h.kx, h.lm, h.num, h.cvo, h.nd, h.len, h.dj, fun b hb => h.cells b (by
    have : l.drop q = (l.drop p).drop (q - p) := by rw [List.drop_drop]; congr 1; omega
    rw [this] at hb
    exact List.mem_of_mem_drop hb)⟩
/-- the heap but for the log -/
theorem fr_del {lg : Addr} {H H' : Hp} (f : FrB lg H H') : Ex (del H lg) (del H' lg) := fun b o h => by
  by_cases q : b = lg
  · subst q; rw [del_same] at h; cases h
  · rw [del_ne q] at h ⊢
    exact f b o h q
theorem ex_frb {lg : Addr} {H H' : Hp} (e : Ex H H') : FrB lg H H' := fun b o h _ => e b o h
theorem delC_lg {cv : Cv} {H : Hp} {lg : Addr} {L : List V} (C : CvAt cv (del H lg)) (h : H lg = some (.lst L)) : cv.lookup lg = none := by
  cases q : cv.lookup lg with
  | none => rfl
  | some v =>
    have := C _ _ q
    rw [del_same] at this
    cases this
theorem cvAt_of {cv : Cv} {H : Hp} {lg : Addr} (C : CvAt cv (del H lg)) : CvAt cv H := fun c v q => del_ex _ _ (C c v q)
section
variable {P : Program} {w : World} {K : PySem.W.Frag}
/-- no cell stands where another thing does -/
theorem no_cell {cv : Cv} {H : Hp} {h : Heap} {a : Addr} {o : Obj} (x : HOk P w H h) (C : CvAt cv H) (ho : h.get? a = some o) (hd : ∀ u, o.data ≠ .cell u) : cv.lookup a = none := by
  cases q : cv.lookup a with
  | none => rfl
  | some v =>
    obtain ⟨⟨u, _, o', h1, h2⟩, _, _⟩ := x a _ (C a v q)
    rw [ho] at h1
    cases h1
    exact absurd h2 (hd _)
theorem fn_del {cv : Cv} {H : Hp} {h : Heap} {lg : Addr} {F : Addr → NdefX.NF} {e : Expr} {f : Addr} (x : HOk P w H h) (C : CvAt cv H) (y : FnAt_ (del H lg) F e f) : FnAt_ (del (delC cv H) lg) F e f := by
  obtain ⟨c', h1, h2⟩ := y
  have g1 := del_ex _ _ h1
  have g2 := del_ex _ _ h2
  have n1 : f ≠ lg := fun z => by rw [z, del_same] at h1; cases h1
  have n2 : c' ≠ lg := fun z => by rw [z, del_same] at h2; cases h2
  obtain ⟨pm, ctv, o1⟩ := lamO_at x g1
  obtain ⟨⟨oc, vs, t, o2, o3, _⟩, _, _⟩ := x c' _ g2
  refine ⟨c', ?_, ?_⟩
  · rw [del_ne n1, delC_out (no_cell x C o1 fun u z => nomatch z)]
    exact g1
  · rw [del_ne n2, delC_out (no_cell x C o2 fun u z => by rw [o3] at z; cases z)]
    exact g2
theorem exE_del {cv : Cv} {H : Hp} {lg : Addr} (C : CvAt cv H) : ExE (del H lg) (del (delC cv H) lg) := fun b o h n => by
  by_cases q : b = lg
  · subst q; rw [del_same] at h; cases h
  · rw [del_ne q] at h ⊢
    exact delC_keep C h fun v z => by
      unfold CellO at z
      exact n _ z
theorem Wd.body {H : Hp} {h : Heap} {md lg : Addr} {as : List Addr} {xi : Xi} {ki : Ks_} {l : List Addr} {p : Nat} {b : Addr} (x : HOk P w H h) (W : Wd K (del H lg) md lg as xi ki l p) (hb : l[p]? = some b) : CvAt (ki b).cv H ∧ Wd K (del (delC (ki b).cv H) lg) md lg as xi ki l (p + 1) := by
  have hd : l.drop p = b :: l.drop (p + 1) := drop_at hb
  have hbm : b ∈ l := List.mem_of_getElem? hb
  have C : CvAt (ki b).cv H := cvAt_of (W.cells b (by rw [hd]; exact List.mem_cons_self ..))
  have E := exE_del (lg := lg) C
  refine ⟨C, E _ _ W.made (fun _ z => nomatch z), W.asl, fun a ha => kx_exE E (W.kx a ha), fun a ha => ⟨fun hh h1 => ?_, fun m h1 => ?_⟩, W.num, W.cvo, W.nd, W.len, W.dj, fun a ha c v q => ?_⟩
  · obtain ⟨f, ⟨dx, fs, g1, g2⟩, g3⟩ := (W.lm a ha).hook hh h1
    exact ⟨f, ⟨dx, fs, E _ _ g1 (fun _ z => nomatch z), g2⟩, fn_del x C g3⟩
  · obtain ⟨f, ⟨g0, dx, fs, g1, g2⟩, g3⟩ := (W.lm a ha).meth m h1
    exact ⟨f, ⟨g0, dx, fs, E _ _ g1 (fun _ z => nomatch z), g2⟩, fn_del x C g3⟩
  · have nb : a ≠ b := fun z => by
      subst z
      have nd2 : (l.drop p).Nodup := W.nd.sublist (List.drop_sublist _ _)
      rw [hd] at nd2
      exact (List.nodup_cons.mp nd2).1 ha
    have ham : a ∈ l := List.mem_of_mem_drop ha
    have h1 := W.cells a (by rw [hd]; exact List.mem_cons_of_mem _ ha) c v q
    have hc : c ≠ lg := fun z => by rw [z, del_same] at h1; cases h1
    rw [del_ne hc] at h1 ⊢
    rw [delC_out (W.dj a ham b hbm nb c v q)]
    exact h1
/-- behind the body -/
theorem fr_back {cv : Cv} {H H' : Hp} {lg : Addr} {L : List V} (C : CvAt cv H) (hl : H lg = some (.lst L)) (f : FrB lg (delC cv H) H') : FrB lg H (putC cv H') ∧ (putC cv H') lg = H' lg := by
  have hlg : cv.lookup lg = none := by
    cases q : cv.lookup lg with
    | none => rfl
    | some v =>
      have := C _ _ q
      rw [hl] at this
      exact absurd (Option.some.inj this) (fun z => by unfold CellO at z; cases z)
  refine ⟨fun b o h hb => ?_, putC_out hlg⟩
  cases q : cv.lookup b with
  | some v =>
    have := C _ _ q
    rw [h] at this
    rw [putC_in q]
    exact this.symm
  | none =>
    rw [putC_out q]
    exact f b o (by rw [delC_out q]; exact h) hb
theorem rc_del {cv : Cv} {H : Hp} {h : Heap} {lg r k : Addr} (x : HOk P w H h) (C : CvAt cv H) (y : RcAt K (del H lg) r k) : RcAt K (del (delC cv H) lg) r k := by
  obtain ⟨dx, vs, (⟨h1, h2⟩ | ⟨h1, h2⟩), h3⟩ := y
  · exact ⟨dx, vs, .inl ⟨exE_del C _ _ h1 (fun _ z => nomatch z), h2⟩, h3⟩
  · have g1 := del_ex _ _ h1
    have n1 : r ≠ lg := fun z => by rw [z, del_same] at h1; cases h1
    obtain ⟨⟨sl, o1, _⟩, _, _⟩ := x r _ g1
    refine ⟨dx, vs, .inr ⟨?_, exE_del C _ _ h2 (fun _ z => nomatch z)⟩, h3⟩
    rw [del_ne n1, delC_out (no_cell x C o1 fun u z => nomatch z)]
    exact g1
end
end K17
end

section
set_option Elab.async false
set_option linter.all false
set_option maxRecDepth 100000
set_option maxHeartbeats 4000000
namespace K17
open PySem PySem.Spec PyProof.Rows L2 He Cn Evl KeL
def hkN (xi : Xi) (ki : Ks_) (l : List Addr) : List V := (l.filter fun b => (xi b).hk.isSome).map fun b => .int ((ki b).i : Nat)
/-- the first with a hook -/
theorem fhk_split {xi : Xi} {ki : Ks_} : ∀ {l : List Addr}, (fhk xi l = none ∧ hkN xi ki l = []) ∨ ∃ (j : Nat) (b h : Addr), l[j]? = some b ∧ (xi b).hk = some h ∧ fhk xi l = some h ∧ hkN xi ki l = hkN xi ki (l.drop j)
  | [] => .inl ⟨rfl, rfl⟩
  | a :: r => by
    cases q : (xi a).hk with
    | some h => exact .inr ⟨0, a, h, rfl, q, by unfold fhk; rw [List.findSome?_cons, q], rfl⟩
    | none =>
      have e1 : fhk xi (a :: r) = fhk xi r := by unfold fhk; rw [List.findSome?_cons, q]
      have e2 : hkN xi ki (a :: r) = hkN xi ki r := by unfold hkN; rw [List.filter_cons, q]; rfl
      rcases fhk_split (xi := xi) (ki := ki) (l := r) with ⟨h1, h2⟩ | ⟨j, b, h, h1, h2, h3, h4⟩
      · exact .inl ⟨e1.trans h1, e2.trans h2⟩
      · exact .inr ⟨j + 1, b, h, by simpa using h1, h2, e1.trans h3, by rw [e2, h4]; rfl⟩
theorem hkN_len {xi : Xi} {ki : Ks_} {l : List Addr} : (hkN xi ki l).length ≤ l.length := by
  unfold hkN
  rw [List.length_map]
  exact List.length_filter_le _ _
section
variable {P : Program} {w : World} {K : PySem.W.Frag} {mg : Str → Option Value} {base : Heap}
/-- a hook's lambda: n bounds the rest of the line -/
def spHL (K : PySem.W.Frag) (n : Nat) (f : Addr) : Sp := fun vs H Q _ => ∃ (r k b h md lg : Addr) (as : List Addr) (xi : Xi) (ki : Ks_) (l : List Addr) (p : Nat) (L : List V), vs = [.ref r] ∧ RcAt K (del H lg) r k ∧ Wd K (del H lg) md lg as xi ki l p ∧ l = (xi k).line ∧ k ∈ l ∧ l[p]? = some b ∧ l.length ≤ p + n ∧
  (xi b).hk = some h ∧ HkAt K (del H lg) h f ∧ FnAt_ (del H lg) (hkF (ki b).cl) (lamE hkL) f ∧ H lg = some (.lst L) ∧ L.length + l.length ≤ 1000 + p ∧ ∀ H', FrB lg H H' → H' lg = some (.lst (L ++ hkN xi ki (l.drop p))) → Q .non H'
def spHA (K : PySem.W.Frag) (n : Nat) : Sp := fun vs H Q _ => ∃ (r k b md lg : Addr) (as : List Addr) (xi : Xi) (ki : Ks_) (l : List Addr) (p : Nat) (L : List V), vs = [.ref r, .ref b] ∧ RcAt K (del H lg) r k ∧ Wd K (del H lg) md lg as xi ki l (p + 1) ∧ l = (xi k).line ∧ k ∈ l ∧ l[p]? = some b ∧ l.length ≤ p + 1 + n ∧
  H lg = some (.lst L) ∧ L.length + l.length ≤ 1000 + p + 1 ∧ ∀ H', FrB lg H H' → H' lg = some (.lst (L ++ hkN xi ki (l.drop (p + 1)))) → Q .non H'
def lvH (n : Nat) : Nat := 3 * n + 3
theorem idx_at {l : List Addr} (nd : l.Nodup) {p : Nat} {b : Addr} (h : l[p]? = some b) : l.idxOf b = p := by
  have hm : b ∈ l := List.mem_of_getElem? h
  have h1 : l[l.idxOf b]? = some b := by
    have hl : l.idxOf b < l.length := List.idxOf_lt_length_of_mem hm
    rw [List.getElem?_eq_getElem hl, List.getElem_idxOf hl]
  exact nd_ix nd h1 h
theorem fnr_hookAbove (T : Txt K mg) (n : Nat) (HL : ∀ f, FnR P w K mg base CX0 (lvH n) f (spHL K n f)) : FnR P w K mg base CX0 (lvH n + 1) (ma K (kR K) "hook_above") (spHA K n) := by
  obtain ⟨fd, F⟩ := T.F_Record_hook_above
  obtain ⟨oc, od, kV, doc, pm, an, cdv, ct, osl, rfl, lk, hcd⟩ := F.ex
  obtain ⟨fdH, FH, bH⟩ := can_findHook (P := P) (w := w) (base := base) T
  have FP := can_place (P := P) (w := w) (base := base) T
  have l1 : 1 ≤ lvH n := by unfold lvH; omega
  have l2 : 2 ≤ lvH n := by unfold lvH; omega
  refine (StX.fn_star (ps := ["self", "kind"]) (pv := "values") (sp := fun vs H Q E => ∃ (tv : Addr) (ws : List V), vs = ws ++ [V.ref tv] ∧ H tv = some (.tup []) ∧ spHA K n ws H Q E) lk hcd sc_Record_hook_above StX.cxUp_none (fun us rest hl => match us, rest, hl with | [_, _], [], _ => rfl | [_, _], _ :: _, _ => rfl) (fun A outer s H vs Q E hr h => ?_)).imp fun vs H Q E h => ?_
  · obtain ⟨tv, ws, rfl, htv, r, k, b, md, lg, as, xi, ki, l, p, L, rfl, hrc, W, hl, hkm, hb, hlen, hlg, hL, fin⟩ := h
    have nd := sc_Record_hook_above.nd
    refine ⟨_, pss_cons (ps_set (i := 3) nd rfl (.inl rfl) (pe_meth (SlX.pe_sl (pv 0)) T.cls T.m_find_hook FH (hr.mono l1) bH .nil pass0 (pa_cons (SlX.pe_methSl (pv 0) T.rS T.rm__place_behind FP (hr.mono l2) pass0 (pa_cons (pv 1) pa_nil)) pa_nil)))
      (pss_one (ps_if (pt_cmp (pc_notN (pv 3))) (pss_cons (ps_set (i := 4) nd rfl (.inl rfl) (pe_fld (pv 3) rfl))
        (pss_one (ps_expr (pe_callKS (i := 4) (G := fun f => some (spHL K n f)) (fun f sp q => by cases q; exact HL f) hr pass0 rfl (.inl rfl) (pa_cons (pv 0) (StX.pa_star (pv 2) pa_nil)))))) pss_nil)), ?_⟩
    have bm : b ∈ l := List.mem_of_getElem? hb
    have hkx := W.kx k hkm
    have hlx : ∀ c, c ∈ l → KO (kC K) (del H lg) c := fun c hc => (W.kx c hc).ko
    have ix := idx_at W.nd hb
    have pl : p < l.length := (List.getElem?_eq_some_iff.mp hb).1
    have d0 : Ex (del H lg) H := del_ex
    refine q_asgE ?_
    refine ev_kind T (ev_var rfl) (hrc.ex d0) H (Ex.refl _) _ fun H1 e1 => ?_
    have d1 := d0.trans e1
    obtain ⟨dx, q, dd, mdd, fs, g1, g2, _⟩ := id (hkx.ex d1)
    refine ⟨k, dx, fs, rfl, g1, g2 _ (by simp [noKeys]), ?_⟩
    refine ⟨_, rfl, ?_⟩
    obtain ⟨dxr, vr, s1, s2⟩ := hrc.ex d1
    refine ⟨r, dxr, vr, rfl, s1, _, rfl, r, k, b, xi k, rfl, hrc.ex d1, hkx.ex d1, (by rw [← hl]; exact fun c hc => (hlx c hc).ex d1), (by rw [← hl]; exact bm), fun H2 e2 => ?_⟩
    have d2 := d1.trans e2
    rw [← hl, ix]
    refine ⟨k, p + 1, xi, rfl, hkx.ex d2, (by rw [← hl]; exact W.kx.ex d2), (by rw [← hl]; omega), fun H3 e3 => ?_⟩
    rw [← hl]
    have d3 := d2.trans e3
    have e03 := (e1.trans e2).trans e3
    rcases fhk_split (xi := xi) (ki := ki) (l := l.drop (p + 1)) with ⟨h1, h2⟩ | ⟨j, b', h', h1, h2, h3, h4⟩
    · rw [h1]
      refine s_when (b := false) (et_is (et_notN (x := .non) (ev_var rfl)) rfl) (fun h => by cases h) fun _ H4 e4 => ?_
      have := fin H4 (ex_frb (e03.trans e4))
      rw [h2, List.append_nil] at this
      exact this ((e03.trans e4) _ _ hlg)
    · rw [h3]
      refine s_when (b := true) (et_is (et_notN (x := .ref h') (ev_var rfl)) rfl) (fun _ H4 e4 => ?_) fun h => by cases h
      have e04 := e03.trans e4
      rw [List.getElem?_drop] at h1
      have b'm : b' ∈ l := List.mem_of_getElem? h1
      obtain ⟨f, hh, hf⟩ := (W.lm b' b'm).hook h' h2
      obtain ⟨dxh, fsh, q1, q2⟩ := id hh
      refine q_asg (v := .ref f) (ev_fld (ev_var rfl) (e04 _ _ (d0 _ _ q1)) T.cH_cls T.cH_a_function q2) fun H5 e5 => ?_
      have e05 := e04.trans e5
      have dd5 : Ex (del H lg) (del H5 lg) := del_mono e05
      obtain ⟨c', q3, q4⟩ := id hf
      refine ⟨f, hkF (ki b').cl c', lamE hkL, spHL K n f, rfl, rfl, _, rfl, _, rfl, tv, [], rfl, .inl (st_of (e05 _ _ htv)), ?_⟩
      refine ⟨e05 _ _ (d0 _ _ q3), r, k, b', h', md, lg, as, xi, ki, l, p + 1 + j, L, rfl, hrc.ex dd5, (W.later (by omega)).ex dd5, hl, hkm, h1, by omega, h2, hh.ex dd5, hf.ex dd5, e05 _ _ hlg, by omega, fun H6 f6 k6 => ?_⟩
      have : hkN xi ki (l.drop (p + 1)) = hkN xi ki (l.drop (p + 1 + j)) := by rw [h4, List.drop_drop]
      rw [← this] at k6
      exact fin H6 (FrB.trans (ex_frb e05) f6) k6
  · obtain ⟨r, k, b, md, lg, as, xi, ki, l, p, L, rfl, hrc, W, hl, hkm, hb, hlen, hlg, hL, fin⟩ := h
    refine ⟨[.ref r, .ref b], [], rfl, rfl, Nat.zero_le _, fun q hq => ⟨q, [.ref r, .ref b], rfl, upd_same, r, k, b, md, lg, as, xi, ki, l, p, L, rfl, ?_⟩⟩
    have e := Ex.new (o := .tup []) hq
    have dd : Ex (del H lg) (del (upd H q (.tup [])) lg) := del_mono e
    exact ⟨hrc.ex dd, W.ex dd, hl, hkm, hb, hlen, e _ _ hlg, hL, fun H' f' k' => fin H' (FrB.trans (ex_frb e) f') k'⟩
/-- _law_hooked -/
def spHooked (K : PySem.W.Frag) (n : Nat) : Sp := fun vs H Q _ => ∃ (r k b md lg : Addr) (as : List Addr) (xi : Xi) (ki : Ks_) (l : List Addr) (p : Nat) (L : List V), vs = [.ref md, .ref lg, .int ((ki b).i : Nat), .ref r] ∧ RcAt K (del H lg) r k ∧ Wd K (del H lg) md lg as xi ki l (p + 1) ∧ l = (xi k).line ∧ k ∈ l ∧ l[p]? = some b ∧ l.length ≤ p + 1 + n ∧
  H lg = some (.lst L) ∧ L.length + l.length ≤ 1000 + p ∧ ∀ H', FrB lg H H' → H' lg = some (.lst (L ++ .int ((ki b).i : Nat) :: hkN xi ki (l.drop (p + 1)))) → Q .non H'
theorem can_hooked (T : Txt K mg) (n : Nat) (HL : ∀ f, FnR P w K mg base CX0 (lvH n) f (spHL K n f)) : Can P w K mg base CX0 (lvH n + 2) "_law_hooked" ["made", "log", "n", "record"] (spHooked K n) := by
  have FA := fnr_hookAbove T n HL
  refine can_of T.g__law_hooked T.F__law_hooked (fun fd F => ?_) (fun _ _ _ _ _ _ us hl => match us, hl with | [_, _, _, _], _ => rfl)
  refine F.ok sc__law_hooked (fun vs H Q E h => ?_) (fun cdv A outer s H vs Q E hr h => ?_)
  · obtain ⟨r, k, b, md, lg, as, xi, ki, l, p, L, rfl, _⟩ := h
    rfl
  · obtain ⟨r, k, b, md, lg, as, xi, ki, l, p, L, rfl, hrc, W, hl, hkm, hb, hlen, hlg, hL, fin⟩ := h
    refine ⟨_, pss_cons (ps_expr (pe_bm PySem.F.plainAttrs_list PySem.F.slot_list_append PySem.F.type_list_append mt_append (pv 1) (pa_cons (pv 2) pa_nil)))
      (pss_one (ps_if (pt_cmp (pc_notN (SlX.pe_methSl (pv 3) T.rS T.rm_hook_above FA hr pass0 (pa_cons (pe_ix ix_list (pv 0) (pv 2) (fun _ _ => rfl)) pa_nil)))) (pss_one ps_never) pss_nil)), ?_⟩
    have pl : p < l.length := (List.getElem?_eq_some_iff.mp hb).1
    have bm : b ∈ l := List.mem_of_getElem? hb
    refine q_app hlg (ev_var rfl) (ev_var rfl) (by omega) fun H1 e1 => ?_
    have d1 : Ex (del H lg) (del (upd H1 lg (.lst (L ++ [.int ((ki b).i : Nat)]))) lg) := fun c o h => by
      by_cases q : c = lg
      · subst q; rw [del_same] at h; cases h
      · rw [del_ne q] at h ⊢
        rw [upd_ne q]
        exact e1 _ _ h
    have f1 : FrB lg H (upd H1 lg (.lst (L ++ [.int ((ki b).i : Nat)]))) := fun c o h hc => by rw [upd_ne hc]; exact e1 _ _ h
    have k1 : upd H1 lg (.lst (L ++ [.int ((ki b).i : Nat)])) lg = some (.lst (L ++ [.int ((ki b).i : Nat)])) := upd_same
    generalize upd H1 lg (.lst (L ++ [.int ((ki b).i : Nat)])) = H2 at *
    have W2 := W.ex d1
    have rc2 := hrc.ex d1
    have c2 : Ex (del H2 lg) H2 := del_ex
    obtain ⟨dxr, vr, s1, s2⟩ := id rc2
    have hbi : atI (refs as) ((ki b).i : Nat) = some (.ref b) := at_of (j := (ki b).i) rfl (by unfold refs; rw [List.getElem?_map, W.num b bm]; rfl)
    refine ⟨_, rfl, r, dxr, vr, rfl, slt_ex c2 s1, ?_⟩
    refine ev_op (x := .ref md) (y := .int ((ki b).i : Nat)) (z := .ref b) (ev_var rfl) (ev_var rfl) (rv_ixL (sq_of (c2 _ _ W2.made)) hbi) H2 (Ex.refl _) _ fun H3 e3 => ?_
    have d3 : Ex (del H2 lg) (del H3 lg) := del_mono e3
    refine ⟨r, k, b, md, lg, as, xi, ki, l, p, _, rfl, rc2.ex d3, W2.ex d3, hl, hkm, hb, hlen, e3 _ _ k1, by rw [List.length_append]; show L.length + 1 + l.length ≤ _; omega, fun H4 f4 k4 => ⟨_, rfl, ?_⟩⟩
    rw [List.append_assoc] at k4
    exact fin H4 (FrB.trans (FrB.trans f1 (ex_frb e3)) f4) k4
/-- THE HOOKS of a line -/
theorem fnr_hooks (T : Txt K mg) : ∀ (n : Nat) (f : Addr), FnR P w K mg base CX0 (lvH n) f (spHL K n f)
  | 0, f => fun A outer s H us vs Q E hr e0 rv h => by
    obtain ⟨r, k, b, hk, md, lg, as, xi, ki, l, p, L, _, _, _, _, _, hb, hlen, _⟩ := h
    have := (List.getElem?_eq_some_iff.mp hb).1
    omega
  | n + 1, f => fun A outer s H us vs Q E hr e0 rv h => by
    have HL : ∀ f, FnR P w K mg base CX0 (lvH n) f (spHL K n f) := fun f => fnr_hooks T n f
    have CH := can_hooked (P := P) (w := w) (base := base) T n HL
    obtain ⟨r, k, b, hk, md, lg, as, xi, ki, l, p, L, rfl, hrc, W, hl, hkm, hb, hlen, hhk, hh, hf, hlg, hL, fin⟩ := h
    obtain ⟨C, W'⟩ := W.body e0.hok hb
    have rc' := rc_del e0.hok C hrc
    have bm : b ∈ l := List.mem_of_getElem? hb
    have CO := W.cvo b bm
    obtain ⟨c', q1, q2⟩ := id hf
    have lv : lvH (n + 1) = (lvH n + 2) + 1 := by unfold lvH; omega
    rw [lv] at hr
    refine fnr_lam (N := ["record", "made", "log", "n"]) (F := hkF (ki b).cl c') (e := lamE hkL) (cv := (ki b).cv) (k := lvH n + 2) (sp := fun vs' H' Q' _ => vs' = [.ref r] ∧ H' = H ∧ Q' = Q) (hk_scope _ _) (hk_bind _ _) (fun vs' H' Q' E' z => by obtain ⟨rfl, _⟩ := z; rfl) (fun vs' H' Q' E' z => ?_) (fun A' outer' s' H' vs' Q' E' hr' z => ?_) A outer s H us _ Q E hr e0 rv ⟨rfl, rfl, rfl⟩
    · obtain ⟨_, rfl, _⟩ := z
      exact ⟨del_ex _ _ q1, del_ex _ _ q2, CO.st, C⟩
    · obtain ⟨rfl, rfl, rfl⟩ := z
      refine ⟨_, pe_can CH hr' pass0 (pa_cons (pv 1) (pa_cons (pv 2) (pa_cons (pv 3) (pa_cons (pv 0) pa_nil)))) (Nat.le_refl _), ?_⟩
      have es : NdefX.startF ["record", "made", "log", "n"] [V.ref r] ((ki b).cv.map fun p => some p.2) = [some (.ref r), some (.ref md), some (.ref lg), some (.int ((ki b).i : Nat))] := by
        have : ((ki b).cv.map fun p => some p.2) = ((ki b).cv.map Prod.snd).map some := by rw [List.map_map]; rfl
        rw [this, CO.at_]
        rfl
      rw [es]
      have hlg' : delC (ki b).cv H' lg = some (.lst L) := delC_keep C hlg fun v z => by unfold CellO at z; cases z
      refine ⟨_, rfl, _, rfl, _, rfl, _, rfl, r, k, b, md, lg, as, xi, ki, l, p, L, rfl, rc', W', hl, hkm, hb, by omega, hlg', by omega, fun H2 f2 k2 _ => ?_⟩
      obtain ⟨f3, k3⟩ := fr_back C hlg f2
      refine fin _ f3 ?_
      rw [k3, k2]
      have : l.drop p = b :: l.drop (p + 1) := drop_at hb
      rw [this]
      unfold hkN
      rw [List.filter_cons, hhk]
      rfl
end
end K17
end

section
set_option Elab.async false
set_option linter.all false
set_option maxRecDepth 100000
set_option maxHeartbeats 2000000
/-! errors with one field; what is no text; o.m(e) whose errors leave by the slots as they stand -/
namespace L2
open PySem PySem.Spec PyProof.Rows
section
variable {X : Cx} {CX : CXT} {k : Nat} {f C : Addr} {fd : FuncData} {ps : List Str} {sp : Sp} {E : St → XK} {m : Str} {pos apos : Pos} {e o : Expr} {es : List Expr} {ta : TE} {t : TA}
def tMethAt (C : Addr) (m : Str) (sp : Sp) (E : St → XK) (ta : TE) (t : TA) : TE := fun σ H Q => ta σ H fun x H1 => ∃ a dx fs, x = .ref a ∧ H1 a = some (.ins C dx fs) ∧ fs.lookup m = none ∧ t σ H1 fun vs H2 => sp (.ref a :: vs) H2 Q (E σ)
theorem pe_methAt {pl : Sem Bool} (he : PE X o ta) (c : Cls X.K C) (hm : Meth X.K C m f) (F : FnOk X.prog X.w X.K X.mg X.base CX k f fd ps sp) (hr : Room k X.A) (hb : Binds X.K fd ps []) (hx : ∀ σ, PassesAt CX X σ (E σ)) (ha : PA X (e :: es) t)
    (hst : starEach (e :: es) X.env = (false, eval e X.env) :: starEach es X.env := by rfl) (hpl : (backTo pos (starEach es X.env)).any (·.1) = false := by rfl)
    (ht : eval (.Call (.Attribute o m apos) (e :: es) [] pos) X.env = (do
      let ov ← eval o X.env
      standAt apos.atName
      let (f, first) ← holding [ov] (getMethod ov m pl)
      callWith pos f first (backTo pos (starEach (e :: es) X.env)) (backToKw pos (keywordEach [] X.env))) := by rfl) :
    PE X (.Call (.Attribute o m apos) (e :: es) [] pos) (tMethAt C m sp E ta t) := by
  refine ⟨fun pins s σ H Q I h => ?_⟩
  refine PySem.W.methodCall_KW (pl := pl) (thn (he.run pins s σ H _ I h) fun u s1 ⟨x, H1, I1, rx, a, dx, fs, ex, ea, l, q⟩ => ?_) ht
  subst ex
  obtain rfl : u = Value.ref a := rx
  refine getmeth_ok I1 ea c hm l ?_
  refine PySem.W.callWith_K (first := [.ref a]) (h₀ := X.base) I.ok.mod.kin hm.kp (thn (ha.run pos pins s1 σ H1 _ I1 q) fun us s2 ⟨vs, H2, I2, r, q2⟩ => ⟨I2.kIn, ?_⟩) hst hpl
  exact run_fnS (us := .ref a :: us) (vs := .ref a :: vs) F hr hb (hx σ) I2 (.cons rfl r) q2
end
end L2
namespace Erx
open PySem PySem.Spec PyProof.Rows L2 Cn Evl
/-- what an error's __init__ with one field comes to -/
def spIX (C : Addr) (f : Str) : Sp := fun vs H Q _ => ∃ (a : Addr) (it : V), vs = [.ref a, it] ∧ H a = some (exo a C none) ∧
  ∀ (d : Addr) (H' : Hp), H d = none → d ≠ a → H' a = some (exo a C (some d)) → H' d = some (exd d [(f, it)]) → (∀ b o, H b = some o → b ≠ a → H' b = some o) → Q .non H'
theorem ix_then {C : Addr} {f : Str} {H1 : Hp} {it : V} {Q : XK} (k : ∀ (d : Addr) (H' : Hp), H1 d = none → Ex H1 H' → H' d = some (.xd [(f, it)]) → Q (.ref C) (some d) H') :
    ([it] : List V).length ≤ 1000 ∧ ∀ a, H1 a = none → spIX C f (.ref a :: ([it] ++ [])) (upd H1 a (exo a C none))
      (fun v H2 => v = .non ∧ ∃ (d : Addr) (fs : List (Str × V)), H2 a = some (exo a C (some d)) ∧ H2 d = some (exd d fs) ∧ H1 d = none ∧ Q (.ref C) (some d) (upd (del H2 a) d (.xd fs))) (fun _ _ _ => False) := by
  refine ⟨by show 1 ≤ 1000; decide, fun a ha => ⟨a, it, rfl, upd_same, fun d H' hd hda ha' hd' fr => ⟨rfl, d, _, ha', hd', ?_, ?_⟩⟩⟩
  · rw [upd_ne hda] at hd
    exact hd
  · rw [upd_ne hda] at hd
    refine k d _ hd (fun b o e => ?_) upd_same
    rw [upd_ne (ne_of_none e hd), del_ne (ne_of_none e ha)]
    refine fr b o ?_ (ne_of_none e ha)
    rw [upd_ne (ne_of_none e ha)]
    exact e
/-- the error of the class at C whose field f holds it -/
def XErr (C : Addr) (f : Str) (H : Hp) (it : V) (E : XK) : Prop := ∀ (d : Addr) (H' : Hp), H d = none → Ex H H' → H' d = some (.xd [(f, it)]) → E (.ref C) (some d) H'
theorem XErr.mono {C : Addr} {f : Str} {H H' : Hp} {it : V} {E : XK} (e : Ex H H') (h : XErr C f H it E) : XErr C f H' it E := fun d H2 hd e2 h2 => h d H2 (fresh_back e hd) (e.trans e2) h2
/-- what is no text -/
inductive NoS (H : Hp) : V → Prop
  | non : NoS H .non
  | bl (b : Bool) : NoS H (.bl b)
  | int (i : Int) : NoS H (.int i)
  | lst {p : Addr} {xs : List V} (h : H p = some (.lst xs)) : NoS H (.ref p)
  | tup {p : Addr} {xs : List V} (h : H p = some (.tup xs)) : NoS H (.ref p)
  | dK {p : Addr} {kvs : List (L2.Key × V)} (h : H p = some (.dK kvs)) : NoS H (.ref p)
theorem NoS.ex {H H' : Hp} {x : V} (e : Ex H H') (h : NoS H x) : NoS H' x := by
  cases h with
  | non => exact .non
  | bl b => exact .bl b
  | int i => exact .int i
  | lst h => exact .lst (e _ _ h)
  | tup h => exact .tup (e _ _ h)
  | dK h => exact .dK (e _ _ h)
theorem nos_ty {K : PySem.W.Frag} {H : Hp} {x : V} (h : NoS H x) : ∃ t : String, TyX K H x (.type t) ∧ PySem.W.kitOne K (.type t) (.type "str") = some false := by
  cases h with
  | non => exact ⟨"NoneType", .base .non, kit_ty (by decide +kernel)⟩
  | bl b => exact ⟨"bool", .base (.bl b), kit_ty (by decide +kernel)⟩
  | int i => exact ⟨"int", .base (.int i), kit_ty (by decide +kernel)⟩
  | lst h => exact ⟨"list", .base (.lst h), kit_ty (by decide +kernel)⟩
  | tup h => exact ⟨"tuple", .base (.tup h), kit_ty (by decide +kernel)⟩
  | dK h => exact ⟨"dict", .base (.dK h), kit_ty (by decide +kernel)⟩
theorem ev_noS {K : PySem.W.Frag} {σ : L2.St} {H : Hp} {ta : TE} {x : V} (h : Ev ta σ H x) (hk : NoS H x) : Ev (tCB (rIsi K) (tCons ta (tCons (tC (.ty "str")) tNil))) σ H (.bl false) :=
  ev_cb (ea_cons h (ea_cons ev_c ea_nil)) fun H1 e Q q => by
    obtain ⟨t, ty, k⟩ := nos_ty (K := K) (hk.ex e)
    exact ⟨x, .ty "str", .type t, .type "str", false, rfl, .ty _, ty, k, q H1 (Ex.refl H1)⟩
theorem ev_isS {K : PySem.W.Frag} {σ : L2.St} {H : Hp} {ta : TE} {z : Str} (h : Ev ta σ H (.str z)) : Ev (tCB (rIsi K) (tCons ta (tCons (tC (.ty "str")) tNil))) σ H (.bl true) :=
  ev_cb (ea_cons h (ea_cons ev_c ea_nil)) fun H1 e Q q => ⟨.str z, .ty "str", .type "str", .type "str", true, rfl, .ty _, .base (.str z), kit_ty (by decide +kernel), q H1 (Ex.refl H1)⟩
end Erx
end

section
set_option Elab.async false
set_option linter.all false
set_option maxRecDepth 100000
set_option maxHeartbeats 4000000
namespace L2
open PySem PySem.Spec PyProof.Rows
section
variable {X : Cx} {CX : CXT} {k : Nat} {f C : Addr} {sp : Sp} {E : St → XK} {m : Str} {pos apos : Pos} {e o : Expr} {es : List Expr} {ta : TE} {t : TA}
/-- o.m(e, ..), o an instance with slots, whose errors leave by the slots -/
def tMethSlAt (C : Addr) (sp : Sp) (E : St → XK) (ta : TE) (t : TA) : TE := fun σ H Q => ta σ H fun x H1 => ∃ a dx vs, x = .ref a ∧ SlX.Slt H1 a C dx vs ∧ t σ H1 fun ws H2 => sp (x :: ws) H2 Q (E σ)
theorem pe_methSlAt {pl : Sem Bool} (he : PE X o ta) (c : SlX.SCls X.K C) (hm : Meth X.K C m f) (F : FnR X.prog X.w X.K X.mg X.base CX k f sp) (hr : Room k X.A) (hx : ∀ σ, PassesAt CX X σ (E σ)) (ha : PA X (e :: es) t)
    (hst : starEach (e :: es) X.env = (false, eval e X.env) :: starEach es X.env := by rfl) (hpl : (backTo pos (starEach es X.env)).any (·.1) = false := by rfl)
    (ht : eval (.Call (.Attribute o m apos) (e :: es) [] pos) X.env = (do
      let ov ← eval o X.env
      standAt apos.atName
      let (f, first) ← holding [ov] (getMethod ov m pl)
      callWith pos f first (backTo pos (starEach (e :: es) X.env)) (backToKw pos (keywordEach [] X.env))) := by rfl) :
    PE X (.Call (.Attribute o m apos) (e :: es) [] pos) (tMethSlAt C sp E ta t) := by
  refine ⟨fun pins s σ H Q I h => ?_⟩
  refine PySem.W.methodCall_KW (pl := pl) (thn (he.run pins s σ H _ I h) fun u s1 ⟨x, H1, I1, rx, a, dx, vs, ex, hsl, q⟩ => ?_) ht
  subst ex
  obtain rfl : u = Value.ref a := rx
  refine SlX.getmethsl_ok I1 hsl c hm ?_
  refine PySem.W.callWith_K (first := [.ref a]) (h₀ := X.base) I.ok.mod.kin hm.kp (thn (ha.run pos pins s1 σ H1 _ I1 q) fun us s2 ⟨ws, H2, I2, r, q2⟩ => ⟨I2.kIn, ?_⟩) hst hpl
  refine wpAny_call (codeAny_mono (F X.A X.stack s2 H2 (.ref a :: us) (.ref a :: ws) Q (E σ) hr I2.env0 (.cons rfl r) q2) fun r s' hq => ?_)
  cases r with
  | error e => exact hx σ pins H2 s2 e s' I2 hq
  | ok fl =>
    cases fl with
    | ret u => exact I2.after hq
    | next => exact False.elim hq
    | brk => exact False.elim hq
    | cont => exact False.elim hq
end
end L2
namespace K17
open PySem PySem.Spec PyProof.Rows L2 He Cn Evl KeL Erx
/-! ### methods that go on -/
def goers (xi : Xi) (l : List Addr) : List Addr := l.filter fun b => (xi b).mt.isSome
def prs (ki : Ks_) : List Addr → Int → List (Nat × Int)
  | [], _ => []
  | b :: r, st => ((ki b).i, st) :: prs ki r (st + 1)
def TsAt (H : Hp) (ts : List Addr) (es : List (Nat × Int)) : Prop := ts.length = es.length ∧ ∀ (j : Nat) (t : Addr) (e : Nat × Int), ts[j]? = some t → es[j]? = some e → H t = some (.tup [.int (e.1 : Nat), .int e.2])
theorem TsAt.fr {lg : Addr} {H H' : Hp} {L : List V} {ts : List Addr} {es : List (Nat × Int)} (hl : H lg = some (.lst L)) (f : FrB lg H H') (h : TsAt H ts es) : TsAt H' ts es :=
  ⟨h.1, fun j t e a b => f _ _ (h.2 j t e a b) (ne_of (h.2 j t e a b) hl (by intro z; cases z))⟩
theorem TsAt.cons {H : Hp} {t : Addr} {ts : List Addr} {e : Nat × Int} {es : List (Nat × Int)} (h : H t = some (.tup [.int (e.1 : Nat), .int e.2])) (hs : TsAt H ts es) : TsAt H (t :: ts) (e :: es) := by
  refine ⟨by simp [hs.1], fun j t' e' a b => ?_⟩
  cases j with
  | zero =>
    obtain rfl : t = t' := by simpa using a
    obtain rfl : e = e' := by simpa using b
    exact h
  | succ j => exact hs.2 j t' e' (by simpa using a) (by simpa using b)
theorem fmt_split {xi : Xi} : ∀ {l : List Addr}, (fmt xi l = none ∧ goers xi l = []) ∨ ∃ (j : Nat) (b m : Addr) (gs : List Addr), l[j]? = some b ∧ (xi b).mt = some m ∧ fmt xi l = some m ∧ goers xi l = b :: gs ∧ goers xi (l.drop j) = b :: gs
  | [] => .inl ⟨rfl, rfl⟩
  | a :: r => by
    cases q : (xi a).mt with
    | some m =>
      have e : goers xi (a :: r) = a :: goers xi r := by unfold goers; rw [List.filter_cons, q]; rfl
      exact .inr ⟨0, a, m, goers xi r, rfl, q, by unfold fmt; rw [List.findSome?_cons, q], e, e⟩
    | none =>
      have e1 : fmt xi (a :: r) = fmt xi r := by unfold fmt; rw [List.findSome?_cons, q]
      have e2 : goers xi (a :: r) = goers xi r := by unfold goers; rw [List.filter_cons, q]; rfl
      rcases fmt_split (xi := xi) (l := r) with ⟨h1, h2⟩ | ⟨j, b, m, gs, h1, h2, h3, h4, h5⟩
      · exact .inl ⟨e1.trans h1, e2.trans h2⟩
      · exact .inr ⟨j + 1, b, m, gs, by simpa using h1, h2, e1.trans h3, e2.trans h4, h5⟩
section
variable {P : Program} {w : World} {K : PySem.W.Frag} {mg : Str → Option Value} {base : Heap}
theorem ok_NoMethod (T : Txt K mg) : ∃ fd, FnOk P w K mg base CX0 1 (ma K (kN K) "__init__") fd ["self", "name"] (spIX (kN K) "name") ∧ Binds K fd ["self", "name"] [] := by
  obtain ⟨fd, F⟩ := T.F_NoMethod_init
  refine ⟨fd, F.ok sc_NoMethod_init (fun vs H Q E h => ?_) (fun cdv A outer s H vs Q E hr h => ?_), F.binds fun _ _ _ _ _ _ us hl => match us, hl with | [_, _], _ => rfl⟩
  · obtain ⟨a, it, rfl, _⟩ := h
    rfl
  · obtain ⟨a, it, rfl, ha, k⟩ := h
    refine ⟨_, pss_one (ps_ost (pv 0) (pv 1)), ?_⟩
    refine ⟨_, rfl, _, rfl, a, kN K, rfl, T.oex_NoMethod, T.ea_NoMethod, .inl ⟨ha, fun d hd hda => ?_⟩⟩
    refine k d _ hd hda upd_same (by rw [upd_ne hda, upd_same]) fun b o e hb => ?_
    rw [upd_ne hb, upd_ne (ne_of_none e hd)]
    exact e
/-- a method's lambda -/
def spML (K : PySem.W.Frag) (n : Nat) (f : Addr) : Sp := fun vs H Q _ => ∃ (r k b m md lg : Addr) (as : List Addr) (xi : Xi) (ki : Ks_) (l : List Addr) (p : Nat) (L : List V) (st : Int), vs = [.ref r, .int st] ∧ RcAt K (del H lg) r k ∧ Wd K (del H lg) md lg as xi ki l p ∧ l = (xi k).line ∧ k ∈ l ∧ l[p]? = some b ∧ l.length ≤ p + n ∧
  (xi b).mt = some m ∧ FnAt_ (del H lg) (mtF (ki b).cl) (lamE mtL) f ∧ H lg = some (.lst L) ∧ L.length + l.length ≤ 1000 + p ∧ ∀ ts H', FrB lg H H' → H' lg = some (.lst (L ++ refs ts)) → TsAt H' ts (prs ki (goers xi (l.drop p)) st) → Q (.int ((ki b).i : Nat)) H'
/-- what calling the first method from a place on comes to -/
def MQ (K : PySem.W.Frag) (H : Hp) (lg : Addr) (xi : Xi) (ki : Ks_) (L : List V) (l : List Addr) (st : Int) (Q : VK) (E : XK) : Prop := (goers xi l = [] → XErr (kN K) "name" H (.str "go") E) ∧
  ∀ b gs, goers xi l = b :: gs → ∀ ts H', FrB lg H H' → H' lg = some (.lst (L ++ refs ts)) → TsAt H' ts (prs ki (b :: gs) st) → Q (.int ((ki b).i : Nat)) H'
theorem MQ.ex {H H1 : Hp} {lg : Addr} {xi : Xi} {ki : Ks_} {L : List V} {l : List Addr} {st : Int} {Q : VK} {E : XK} (e : Ex H H1) (h : MQ K H lg xi ki L l st Q E) : MQ K H1 lg xi ki L l st Q E :=
  ⟨fun q => XErr.mono e (h.1 q), fun b gs q ts H' f => h.2 b gs q ts H' (FrB.trans (ex_frb e) f)⟩
def spCF (K : PySem.W.Frag) (n : Nat) : Sp := fun vs H Q E => ∃ (r k tv md lg : Addr) (as : List Addr) (xi : Xi) (ki : Ks_) (l : List Addr) (p : Nat) (L : List V) (st : Int), vs = [.ref r, .int (p : Nat), .str "go", .ref tv] ∧ RcAt K (del H lg) r k ∧ Wd K (del H lg) md lg as xi ki l p ∧ l = (xi k).line ∧ k ∈ l ∧ p ≤ l.length ∧ l.length ≤ p + n ∧
  SqT K H tv [.int st] ∧ H lg = some (.lst L) ∧ L.length + l.length ≤ 1000 + p ∧ MQ K H lg xi ki L (l.drop p) st Q E
def lvM (n : Nat) : Nat := 4 * n + 4
theorem fnr_callFrom (T : Txt K mg) (n : Nat) (ML : ∀ f, FnR P w K mg base CX0 (lvM n) f (spML K n f)) : FnR P w K mg base (L2.CX P w) (lvM n + 1) (ma K (kR K) "_call_from") (spCF K n) := by
  obtain ⟨fd, F⟩ := T.F_Record__call_from
  obtain ⟨fdM, FM, bM⟩ := can_findMethod (P := P) (w := w) (base := base) T
  obtain ⟨fdI, FI, bI⟩ := ok_NoMethod (P := P) (w := w) (base := base) T
  have l1 : 1 ≤ lvM n := by unfold lvM; omega
  have l2 : 2 ≤ lvM n := by unfold lvM; omega
  have FO : FnOk P w K mg base (L2.CX P w) (lvM n + 1) (ma K (kR K) "_call_from") fd ["self", "place", "name", "values"] (spCF K n) := by
    refine F.okX sc_Record__call_from (fun vs H Q E h => ?_) (fun cdv A outer s H vs Q E hr h => ?_)
    · obtain ⟨r, k, tv, md, lg, as, xi, ki, l, p, L, st, rfl, _⟩ := h
      rfl
    · obtain ⟨r, k, tv, md, lg, as, xi, ki, l, p, L, st, rfl, hrc, W, hl, hkm, hp, hlen, htv, hlg, hL, hQ⟩ := h
      have nd := sc_Record__call_from.nd
      refine ⟨_, pss_cons (ps_set (i := 4) nd rfl (.inl rfl) (pe_meth (SlX.pe_sl (pv 0)) T.cls T.m_find_method FM (hr.mono l1) bM .nil pass0 (pa_cons (pv 1) (pa_cons (pv 2) pa_nil))))
        (pss_cons (ps_if (pt_cmp (pc_isN (pv 4))) (pss_one (ps_raise rfl (takes_of rfl rfl rfl rfl) (pmk_oex T.oex_NoMethod T.mI_NoMethod.at_ T.tI_NoMethod FI (hr.mono l2) bI .nil pass0 rfl T.g_NoMethod (pa_cons (pv 2) pa_nil)))) pss_nil)
        (pss_cons (ps_set (i := 5) nd rfl (.inl rfl) (pe_fld (pv 4) rfl))
        (pss_one (ps_ret (pe_callKS (i := 5) (G := fun f => some (spML K n f)) (fun f sp q => by cases q; exact ML f) hr pass0 rfl (.inl rfl) (pa_cons (pv 0) (StX.pa_star (pv 3) pa_nil))))))), ?_⟩
      have d0 : Ex (del H lg) H := del_ex
      have hkx := W.kx k hkm
      refine q_asgE ?_
      refine ev_kind T (ev_var rfl) (hrc.ex d0) H (Ex.refl _) _ fun H1 e1 => ?_
      have d1 := d0.trans e1
      obtain ⟨dx, q, dd, mdd, fs, g1, g2, _⟩ := id (hkx.ex d1)
      refine ⟨k, dx, fs, rfl, g1, g2 _ (by simp [noKeys]), _, rfl, _, rfl, k, p, xi, rfl, hkx.ex d1, (by rw [← hl]; exact W.kx.ex d1), (by rw [← hl]; exact hp), fun H3 e3 => ?_⟩
      rw [← hl]
      have e03 := e1.trans e3
      rcases fmt_split (xi := xi) (l := l.drop p) with ⟨h1, h2⟩ | ⟨j, b', m', gs, h1, h2, h3, h4, h5⟩
      · rw [h1]
        refine q_when (b := true) (et_is (et_isN (x := .non) (ev_var rfl)) rfl) (fun _ H4 e4 => ?_) fun h => by cases h
        have err := hQ.1 h2
        exact ⟨_, rfl, ix_then fun d H7 hd e7 h7 => err d H7 (fresh_back (e03.trans e4) hd) ((e03.trans e4).trans e7) h7⟩
      · rw [h3]
        refine q_when (b := false) (et_is (et_isN (x := .ref m') (ev_var rfl)) rfl) (fun h => by cases h) fun _ H4 e4 => ?_
        have e04 := e03.trans e4
        rw [List.getElem?_drop] at h1
        have b'm : b' ∈ l := List.mem_of_getElem? h1
        obtain ⟨f, hh, hf⟩ := (W.lm b' b'm).meth m' h2
        refine q_asg (v := .ref f) (ev_matt T (ev_var rfl) (hh.ex (d0.trans e04)) (.tail _ (.head _))) fun H5 e5 => ?_
        have e05 := e04.trans e5
        have dd5 : Ex (del H lg) (del H5 lg) := del_mono e05
        obtain ⟨c', q3, q4⟩ := id hf
        refine ⟨f, mtF (ki b').cl c', lamE mtL, spML K n f, rfl, rfl, _, rfl, _, rfl, tv, [.int st], rfl, .inl (ex_t e05 htv), ?_⟩
        refine ⟨e05 _ _ (d0 _ _ q3), r, k, b', m', md, lg, as, xi, ki, l, p + j, L, st, rfl, hrc.ex dd5, (W.later (by omega)).ex dd5, hl, hkm, h1, by omega, h2, hf.ex dd5, e05 _ _ hlg, by omega, fun ts H6 f6 k6 t6 => ?_⟩
        rw [← List.drop_drop, h5] at t6
        exact hQ.2 b' gs h4 ts H6 (FrB.trans (ex_frb e05) f6) k6 t6
  refine (FO.raw (F.binds (ps := ["self", "place", "name", "values"]) fun _ _ _ _ _ _ us hl => match us, hl with | [_, _, _, _], _ => rfl) .nil).imp fun vs H Q E h => ?_
  rw [List.append_nil]
  exact h
/-- record.call_above(kind, "go", st) -/
def spCA (K : PySem.W.Frag) (n : Nat) : Sp := fun vs H Q E => ∃ (r k b md lg : Addr) (as : List Addr) (xi : Xi) (ki : Ks_) (l : List Addr) (p : Nat) (L : List V) (st : Int), vs = [.ref r, .ref b, .str "go", .int st] ∧ RcAt K (del H lg) r k ∧ Wd K (del H lg) md lg as xi ki l (p + 1) ∧ l = (xi k).line ∧ k ∈ l ∧ l[p]? = some b ∧ l.length ≤ p + 1 + n ∧
  H lg = some (.lst L) ∧ L.length + l.length ≤ 1000 + p + 1 ∧ MQ K H lg xi ki L (l.drop (p + 1)) st Q E
theorem fnr_callAbove (T : Txt K mg) (n : Nat) (ML : ∀ f, FnR P w K mg base CX0 (lvM n) f (spML K n f)) : FnR P w K mg base (L2.CX P w) (lvM n + 2) (ma K (kR K) "call_above") (spCA K n) := by
  obtain ⟨fd, F⟩ := T.F_Record_call_above
  obtain ⟨oc, od, kV, doc, pm, an, cdv, ct, osl, rfl, lk, hcd⟩ := F.ex
  have FP := can_place (P := P) (w := w) (base := base) T
  have FC := fnr_callFrom T n ML
  have l2 : 2 ≤ lvM n + 1 := by unfold lvM; omega
  refine (StX.fn_star (ps := ["self", "kind", "name"]) (pv := "values") (sp := fun vs H Q E => ∃ (r k b tv md lg : Addr) (as : List Addr) (xi : Xi) (ki : Ks_) (l : List Addr) (p : Nat) (L : List V) (st : Int), vs = [.ref r, .ref b, .str "go", .ref tv] ∧ H tv = some (.tup [.int st]) ∧ spCA K n [.ref r, .ref b, .str "go", .int st] H Q E) lk hcd sc_Record_call_above StX.cxUp (fun us rest hl => match us, rest, hl with | [_, _, _], [], _ => rfl | [_, _, _], _ :: _, _ => rfl) (fun A outer s H vs Q E hr h => ?_)).imp fun vs H Q E h => ?_
  · obtain ⟨r0, k0, b0, tv, _, _, _, _, _, _, _, _, st0, rfl, htv, r, k, b, md, lg, as, xi, ki, l, p, L, st, ev, hrc, W, hl, hkm, hb, hlen, hlg, hL, hQ⟩ := h
    simp only [List.cons.injEq, V.ref.injEq, V.int.injEq, and_true, true_and] at ev
    obtain ⟨rfl, rfl, rfl⟩ := ev
    have nd := sc_Record_call_above.nd
    refine ⟨_, pss_one (ps_ret (SlX.pe_methSl (pv 0) T.rS T.rm__call_from FC hr (passes_call (takes_of rfl rfl rfl rfl) fun _ _ _ _ h => h) (pa_cons (SlX.pe_methSl (pv 0) T.rS T.rm__place_behind FP (hr.mono l2) pass0 (pa_cons (pv 1) pa_nil)) (pa_cons (pv 2) (pa_cons (pv 3) pa_nil))))), ?_⟩
    have bm : b0 ∈ l := List.mem_of_getElem? hb
    have hkx := W.kx k hkm
    have hlx : ∀ c, c ∈ l → KO (kC K) (del H lg) c := fun c hc => (W.kx c hc).ko
    have ix := idx_at W.nd hb
    have pl : p < l.length := (List.getElem?_eq_some_iff.mp hb).1
    have d0 : Ex (del H lg) H := del_ex
    obtain ⟨dxr, vr, s1, s2⟩ := hrc.ex d0
    refine ⟨_, rfl, r0, dxr, vr, rfl, s1, _, rfl, r0, dxr, vr, rfl, s1, _, rfl, r0, k, b0, xi k, rfl, hrc.ex d0, hkx.ex d0, (by rw [← hl]; exact fun c hc => (hlx c hc).ex d0), (by rw [← hl]; exact bm), fun H2 e2 => ?_⟩
    rw [← hl, ix]
    have dd2 : Ex (del H lg) (del H2 lg) := del_mono e2
    exact ⟨_, rfl, _, rfl, r0, k, tv, md, lg, as, xi, ki, l, p + 1, L, st0, rfl, hrc.ex dd2, W.ex dd2, hl, hkm, by omega, hlen, st_of (e2 _ _ htv), e2 _ _ hlg, by omega, hQ.ex e2⟩
  · obtain ⟨r, k, b, md, lg, as, xi, ki, l, p, L, st, rfl, hrc, W, hl, hkm, hb, hlen, hlg, hL, hQ⟩ := h
    refine ⟨[.ref r, .ref b, .str "go"], [.int st], rfl, rfl, by show 1 ≤ sizeLine; decide, fun q hq => ⟨r, k, b, q, md, lg, as, xi, ki, l, p, L, st, rfl, upd_same, r, k, b, md, lg, as, xi, ki, l, p, L, st, rfl, ?_⟩⟩
    have e := Ex.new (o := .tup [.int st]) hq
    have dd : Ex (del H lg) (del (upd H q (.tup [.int st])) lg) := del_mono e
    exact ⟨hrc.ex dd, W.ex dd, hl, hkm, hb, hlen, e _ _ hlg, hL, hQ.ex e⟩
end
end K17
end

section
set_option Elab.async false
set_option linter.all false
set_option maxRecDepth 100000
set_option maxHeartbeats 4000000
namespace K17
open PySem PySem.Spec PyProof.Rows L2 He Cn Evl KeL Erx
section
variable {P : Program} {w : World} {K : PySem.W.Frag} {mg : Str → Option Value} {base : Heap}
theorem refs_cons (a : Addr) (l : List Addr) : refs (a :: l) = .ref a :: refs l := rfl
/-- _law_gone -/
def spGone (K : PySem.W.Frag) (n : Nat) : Sp := fun vs H Q _ => ∃ (r k b m md lg : Addr) (as : List Addr) (xi : Xi) (ki : Ks_) (l : List Addr) (p : Nat) (L : List V) (st : Int), vs = [.ref md, .ref lg, .int ((ki b).i : Nat), .ref r, .int st] ∧ RcAt K (del H lg) r k ∧ Wd K (del H lg) md lg as xi ki l (p + 1) ∧ l = (xi k).line ∧ k ∈ l ∧ l[p]? = some b ∧ l.length ≤ p + 1 + n ∧
  (xi b).mt = some m ∧ H lg = some (.lst L) ∧ L.length + l.length ≤ 1000 + p ∧ ∀ ts H', FrB lg H H' → H' lg = some (.lst (L ++ refs ts)) → TsAt H' ts (prs ki (b :: goers xi (l.drop (p + 1))) st) → Q (.int ((ki b).i : Nat)) H'
theorem can_gone (T : Txt K mg) (n : Nat) (ML : ∀ f, FnR P w K mg base CX0 (lvM n) f (spML K n f)) : Can P w K mg base CX0 (lvM n + 3) "_law_gone" ["made", "log", "n", "record", "step"] (spGone K n) := by
  have FA := fnr_callAbove T n ML
  refine can_of T.g__law_gone T.F__law_gone (fun fd F => ?_) (fun _ _ _ _ _ _ us hl => match us, hl with | [_, _, _, _, _], _ => rfl)
  refine F.ok sc__law_gone (fun vs H Q E h => ?_) (fun cdv A outer s H vs Q E hr h => ?_)
  · obtain ⟨r, k, b, m, md, lg, as, xi, ki, l, p, L, st, rfl, _⟩ := h
    rfl
  · obtain ⟨r, k, b, m, md, lg, as, xi, ki, l, p, L, st, rfl, hrc, W, hl, hkm, hb, hlen, hm, hlg, hL, fin⟩ := h
    have nd := sc__law_gone.nd
    refine ⟨_, pss_cons (ps_expr (pe_bm PySem.F.plainAttrs_list PySem.F.slot_list_append PySem.F.type_list_append mt_append (pv 1) (pa_cons (pe_tup (pa_cons (pv 2) (pa_cons (pv 4) pa_nil))) pa_nil)))
      (pss_cons (ps_set (i := 5) nd rfl (.inl rfl) pe_non)
      (pss_try_track (i := 6) (X := (cxOf CX0 P w K mg base ["made", "log", "n", "record", "step", "error", "e"] "_law_gone" (defScope s__law_gone) (ga K "_law_gone") cdv A outer s H E).nox)
        rfl rfl nd rfl rfl ⟨rfl, by decide, .inl T.g_NoMethod⟩ LamX.takes0
        (fun W pn xe tk _ => pss_one (ps_expr (pe_methSlAt (pv 3) T.rS T.rm_call_above FA hr (fun σ => passAt tk σ) (pa_cons (pe_ix (r := rIxL K) ix_list (pv 0) (pv 2) (fun _ _ => rfl)) (pa_cons pe_str (pa_cons (pe_op (r := rI0 fun i j => .int (i + j)) op_add (pv 4) pe_int) pa_nil))))))
        (fun a oe cls d pn hz hf => pss_one (ps_set (i := 5) nd rfl (.inl rfl) (pv 6)))
        (pss_one (ps_ret (pe_ifExp (PW.pt (pw_or (pt_cmp (pc_isN (pv 5))) (pw_or1 (pt_cmpR op_eq (pe_xfT T.xf_NoMethod T.ea_NoMethod (pv 5)) pe_str (nomark _))))) (pv 2) pe_non))) rfl)), ?_⟩
    have pl : p < l.length := (List.getElem?_eq_some_iff.mp hb).1
    have bm : b ∈ l := List.mem_of_getElem? hb
    have hnl : ∀ {G : Hp} {t : Addr}, G t = none → G lg = some (.lst L) → lg ≠ t := fun h1 h2 => ne_of_none h2 h1
    -- log.append((n, step))
    refine q_appU hlg (ev_var rfl) (eu_tup (ea_cons (ev_var rfl) (ea_cons (ev_var rfl) ea_nil)) (by show 2 ≤ 100000; decide)) (by omega) fun t H1 ht e1 h1 => ?_
    have htl : t ≠ lg := (ne_of_none hlg ht).symm
    have f1 : FrB lg H (upd H1 lg (.lst (L ++ [.ref t]))) := fun c o h hc => by rw [upd_ne hc]; exact e1 _ _ h
    have k1 : upd H1 lg (.lst (L ++ [.ref t])) lg = some (.lst (L ++ [.ref t])) := upd_same
    have t1 : upd H1 lg (.lst (L ++ [.ref t])) t = some (.tup [.int ((ki b).i : Nat), .int st]) := by rw [upd_ne htl]; exact h1
    generalize upd H1 lg (.lst (L ++ [.ref t])) = H2 at *
    have d1 := fr_del f1
    have W2 := W.ex d1
    have rc2 := hrc.ex d1
    have c2 : Ex (del H2 lg) H2 := del_ex
    obtain ⟨dxr, vr, s1, s2⟩ := id rc2
    refine q_asg (v := .non) ev_c fun H3 e3 => ?_
    have e3d : Ex (del H2 lg) (del H3 lg) := del_mono e3
    have W3 := W2.ex e3d
    have rc3 := rc2.ex e3d
    have c3 : Ex (del H3 lg) H3 := del_ex
    have hbi : atI (refs as) ((ki b).i : Nat) = some (.ref b) := at_of (j := (ki b).i) rfl (by unfold refs; rw [List.getElem?_map, W.num b bm]; rfl)
    refine ⟨_, rfl, r, dxr, vr, rfl, slt_ex (e3d.trans c3) s1, ?_⟩
    refine ev_op (x := .ref md) (y := .int ((ki b).i : Nat)) (z := .ref b) (ev_var rfl) (ev_var rfl) (rv_ixL (sq_of (c3 _ _ W3.made)) hbi) H3 (Ex.refl _) _ fun H4 e4 => ?_
    refine ⟨_, rfl, st, 1, rfl, rfl, ?_⟩
    have e24 := e3.trans e4
    have e4d : Ex (del H2 lg) (del H4 lg) := del_mono e24
    have f4 : FrB lg H H4 := FrB.trans f1 (ex_frb e24)
    have t4 := e24 _ _ t1
    refine ⟨r, k, b, md, lg, as, xi, ki, l, p, L ++ [.ref t], st + 1, rfl, rc2.ex e4d, W2.ex e4d, hl, hkm, hb, hlen, e24 _ _ k1, by rw [List.length_append]; show L.length + 1 + l.length ≤ _; omega, fun hno dd H5 hdd e5 h5 => ?_, fun b' gs hgs ts H5 f5 k5 t5 => ?_⟩
    · refine ⟨true, T.exm_NoMethod_NoMethod, fun _ a ha => ⟨_, rfl, fun na => ?_⟩, fun q => by cases q⟩
      have e6 : Ex H5 (upd H5 a (CxO (.ref (kN K)) (some dd) a)) := Ex.new na
      have ha2 : upd H5 a (CxO (.ref (kN K)) (some dd) a) a = some (CxO (.ref (kN K)) (some dd) a) := upd_same
      generalize upd H5 a (CxO (.ref (kN K)) (some dd) a) = H6 at *
      have hx6 := e6 _ _ h5
      have e46 := e5.trans e6
      refine s_ret (v := .int ((ki b).i : Nat)) (ev_if (b := true) (et_is (et_or (a := false) (b := true) (et_is (et_isN (x := .ref a) (ev_var rfl)) rfl) fun _ => et_is (et_test (ev_op (x := .str "go") (y := .str "go") (fun H7 e7 Q' q' => ⟨_, rfl, a, dd, _, _, rfl, e7 _ _ ha2, e7 _ _ hx6, by simp [List.lookup], q' H7 (Ex.refl _)⟩) ev_c (rv_eq rfl))) (by simp)) rfl) (fun _ => ev_var rfl) fun h => by cases h) fun H7 e7 => ?_
      have f7 := FrB.trans f4 (ex_frb (e46.trans e7))
      refine fin [t] H7 f7 ((e46.trans e7) _ _ (e24 _ _ k1)) ?_
      rw [hno]
      exact TsAt.cons (e := ((ki b).i, st)) ((e46.trans e7) _ _ t4) ⟨rfl, fun j t e a => by simp at a⟩
    · have f6 := FrB.trans f4 f5
      have ht5 : H5 t = some (.tup [.int ((ki b).i : Nat), .int st]) := f5 _ _ t4 htl
      refine s_ret (D := { nx := fun _ H' => Q .non H', rt := Q }) (v := .int ((ki b).i : Nat)) (ev_if (b := true) (et_is (et_or (a := true) (b := true) (et_is (et_isN (x := .non) (ev_var rfl)) rfl) fun h => by cases h) rfl) (fun _ => ev_var rfl) fun h => by cases h) fun H7 e7 => ?_
      refine fin (t :: ts) H7 (FrB.trans f6 (ex_frb e7)) ?_ ?_
      · have := e7 _ _ k5
        rw [List.append_assoc] at this
        exact this
      · refine TsAt.cons (e := ((ki b).i, st)) (e7 _ _ ht5) ?_
        have h0 : goers xi (l.drop (p + 1)) = b' :: gs := hgs
        rw [h0]
        exact TsAt.fr k5 (ex_frb e7) t5
end
end K17
end

section
set_option Elab.async false
set_option linter.all false
set_option maxRecDepth 100000
set_option maxHeartbeats 4000000
namespace K17
open PySem PySem.Spec PyProof.Rows L2 He Cn Evl KeL Erx
section
variable {P : Program} {w : World} {K : PySem.W.Frag} {mg : Str → Option Value} {base : Heap}
/-- THE METHODS of a line -/
theorem fnr_meths (T : Txt K mg) : ∀ (n : Nat) (f : Addr), FnR P w K mg base CX0 (lvM n) f (spML K n f)
  | 0, f => fun A outer s H us vs Q E hr e0 rv h => by
    obtain ⟨r, k, b, m, md, lg, as, xi, ki, l, p, L, st, _, _, _, _, _, hb, hlen, _⟩ := h
    have := (List.getElem?_eq_some_iff.mp hb).1
    omega
  | n + 1, f => fun A outer s H us vs Q E hr e0 rv h => by
    have ML : ∀ f, FnR P w K mg base CX0 (lvM n) f (spML K n f) := fun f => fnr_meths T n f
    have CG := can_gone (P := P) (w := w) (base := base) T n ML
    obtain ⟨r, k, b, m, md, lg, as, xi, ki, l, p, L, st, rfl, hrc, W, hl, hkm, hb, hlen, hmm, hf, hlg, hL, fin⟩ := h
    obtain ⟨C, W'⟩ := W.body e0.hok hb
    have rc' := rc_del e0.hok C hrc
    have bm : b ∈ l := List.mem_of_getElem? hb
    have CO := W.cvo b bm
    obtain ⟨c', q1, q2⟩ := id hf
    have lv : lvM (n + 1) = (lvM n + 3) + 1 := by unfold lvM; omega
    rw [lv] at hr
    refine fnr_lam (N := ["record", "step", "made", "log", "n"]) (F := mtF (ki b).cl c') (e := lamE mtL) (cv := (ki b).cv) (k := lvM n + 3) (sp := fun vs' H' Q' _ => vs' = [.ref r, .int st] ∧ H' = H ∧ Q' = Q) (mt_scope _ _) (mt_bind _ _) (fun vs' H' Q' E' z => by obtain ⟨rfl, _⟩ := z; rfl) (fun vs' H' Q' E' z => ?_) (fun A' outer' s' H' vs' Q' E' hr' z => ?_) A outer s H us _ Q E hr e0 rv ⟨rfl, rfl, rfl⟩
    · obtain ⟨_, rfl, _⟩ := z
      exact ⟨del_ex _ _ q1, del_ex _ _ q2, CO.st, C⟩
    · obtain ⟨rfl, rfl, rfl⟩ := z
      refine ⟨_, pe_can CG hr' pass0 (pa_cons (pv 2) (pa_cons (pv 3) (pa_cons (pv 4) (pa_cons (pv 0) (pa_cons (pv 1) pa_nil))))) (Nat.le_refl _), ?_⟩
      have es : NdefX.startF ["record", "step", "made", "log", "n"] [V.ref r, V.int st] ((ki b).cv.map fun p => some p.2) = [some (.ref r), some (.int st), some (.ref md), some (.ref lg), some (.int ((ki b).i : Nat))] := by
        have : ((ki b).cv.map fun p => some p.2) = ((ki b).cv.map Prod.snd).map some := by rw [List.map_map]; rfl
        rw [this, CO.at_]
        rfl
      rw [es]
      have hlg' : delC (ki b).cv H' lg = some (.lst L) := delC_keep C hlg fun v z => by unfold CellO at z; cases z
      have hd : l.drop p = b :: l.drop (p + 1) := drop_at hb
      have hg : goers xi (l.drop p) = b :: goers xi (l.drop (p + 1)) := by
        rw [hd]
        unfold goers
        rw [List.filter_cons, hmm]
        rfl
      refine ⟨_, rfl, _, rfl, _, rfl, _, rfl, _, rfl, r, k, b, m, md, lg, as, xi, ki, l, p, L, st, rfl, rc', W', hl, hkm, hb, by omega, hmm, hlg', by omega, fun ts H2 f2 k2 t2 nc => ?_⟩
      obtain ⟨f3, k3⟩ := fr_back C hlg f2
      refine fin ts _ f3 (k3.trans k2) ?_
      rw [hg]
      refine ⟨t2.1, fun j t e a b' => ?_⟩
      have hh := t2.2 j t e a b'
      cases q : (ki b).cv.lookup t with
      | none => rw [putC_out q]; exact hh
      | some v =>
        rw [nc t v q] at hh
        cases hh
end
end K17
end

section
set_option Elab.async false
set_option linter.all false
set_option maxRecDepth 100000
set_option maxHeartbeats 2000000
/-! zip of a list and a tuple -/
namespace MxI
open PySem PySem.Spec PyProof.Rows L2
def ItzM (K : PySem.W.Frag) (a b : Addr) : It :=
  ⟨fun i H => ∃ (xs ys : List V) (x y : V), SqL K H a xs ∧ SqT K H b ys ∧ xs[i]? = some x ∧ ys[i]? = some y,
    fun i H v H' => ∃ T x y, v = .ref T ∧ H T = none ∧ H' = upd H T (.tup [x, y]) ∧ (∀ xs, SqL K H a xs → xs[i]? = some x) ∧ ∀ ys, SqT K H b ys → ys[i]? = some y,
    fun i H => ∃ xs ys : List V, SqL K H a xs ∧ SqT K H b ys ∧ i ≤ xs.length ∧ i ≤ ys.length ∧ (i = xs.length ∨ i = ys.length)⟩
/-- what stands of a zip under way -/
def ZmSt (a b z TI TO i1 i2 : Addr) (i : Nat) (h : Heap) : Prop :=
  IsZip h z TI TO .none ∧ IsTupOf2 h TI (.ref i1) (.ref i2) ∧ (∃ x y, IsTupOf2 h TO x y) ∧ h.IsListIter i1 a i ∧ h.IsTupleIter i2 b i
def zmC (z TI TO i1 i2 : Addr) : List Addr := [z, TI, TO, i1, i2]
theorem ZmSt.there {a b z TI TO i1 i2 : Addr} {i : Nat} {h : Heap} (st : ZmSt a b z TI TO i1 i2 i h) : ∀ c, c ∈ zmC z TI TO i1 i2 → ∃ o, h.get? c = some o ∧ ∀ v, o.data ≠ .cell v := by
  obtain ⟨q1, q2, ⟨x, y, q3⟩, ⟨o1, e1, _, d1⟩, ⟨o2, e2, _, d2⟩⟩ := st
  have hne : ∀ (o : Obj) (vs : Array Value), o.data = .fields vs → ∀ v, o.data ≠ .cell v := fun o vs h v q => by
    rw [h] at q
    cases q
  intro c hc
  unfold zmC at hc
  simp only [List.mem_cons, List.not_mem_nil, or_false] at hc
  rcases hc with rfl | rfl | rfl | rfl | rfl
  · exact ⟨_, q1, hne _ _ rfl⟩
  · exact ⟨_, q2, fun v q => nomatch q⟩
  · exact ⟨_, q3, fun v q => nomatch q⟩
  · exact ⟨o1, e1, hne _ _ d1⟩
  · exact ⟨o2, e2, hne _ _ d2⟩
theorem ZmSt.lt {a b z TI TO i1 i2 : Addr} {i : Nat} {h : Heap} (st : ZmSt a b z TI TO i1 i2 i h) {c : Addr} (hc : c ∈ zmC z TI TO i1 i2) : c < h.objs.size := by
  obtain ⟨o, ho, _⟩ := st.there c hc
  exact Heap.lt_size ho
theorem ZmSt.keep {a b z TI TO i1 i2 : Addr} {i : Nat} {h h' : Heap} (st : ZmSt a b z TI TO i1 i2 i h) (k : ∀ c, c ∈ zmC z TI TO i1 i2 → ∀ o, h.get? c = some o → h'.get? c = some o) : ZmSt a b z TI TO i1 i2 i h' := by
  obtain ⟨q1, q2, ⟨x, y, q3⟩, q4, q5⟩ := st
  unfold zmC at k
  refine ⟨k z (by simp) _ q1, k TI (by simp) _ q2, ⟨x, y, k TO (by simp) _ q3⟩, ?_, ?_⟩
  · exact q4.at fun o e => k i1 (by simp) o e
  · exact q5.at fun o e => k i2 (by simp) o e
theorem nin {c : Addr} {l : List Addr} (h : c ∉ l) {d : Addr} (hd : d ∈ l) : c ≠ d := fun e => h (e ▸ hd)
theorem turn_zipM {P : Program} {w : World} {K : PySem.W.Frag} {elts : List Expr} {kk : Nat} {tpos : Pos} {a b z TI TO i1 i2 : Addr} (S : ZipSep2 z TI TO i1 i2 [i1, a] [i2, b]) (ha : a ≠ i1) (hb : b ≠ i2) :
    Turn P w K (.Tuple elts kk tpos) (ItzM K a b) (zmC z TI TO i1 i2) z (ZmSt a b z TI TO i1 i2) where
  mem := List.mem_cons_self ..
  obj := fun i h st => st.there
  keep := fun i h h' st k => st.keep k
  self := fun A i s Q E st h => wpAny_pyIter_zip st.1 h
  item := by
    intro X hP hw hK hc i pins s σ H E I hf st hg
    subst hP hw hK
    obtain ⟨xs, ys, x, y, hqx, hqy, hx, hy⟩ := hg
    obtain ⟨its, rv, p, _⟩ := I.list hqx
    obtain ⟨its2, rv2, p2, _⟩ := I.tuple hqy
    have st0 := id st
    obtain ⟨q1, q2, ⟨x0, y0, q3⟩, q4, q5⟩ := st
    have hx2 := (List.getElem?_eq_some_iff.mp hx).1
    have hy2 := (List.getElem?_eq_some_iff.mp hy).1
    have l1 := rv.length
    have l2 := rv2.length
    have hh : X.A.in1.handled = none := I.ok.hd hc
    refine wpAny_pyNext_zipD2_item S (Draws.list hh i1 a ha its.toArray) (Draws.tuple hh i2 b hb its2.toArray) q1 q2 q3 ⟨q4, p.isList⟩ ⟨q5, p2⟩ (by rw [List.size_toArray]; omega) (by rw [List.size_toArray]; omega)
      fun x1 x2 h' tk e1 e2 r1 r2 r3 r4 r5 hsz hk => ?_
    obtain ⟨u, hu, ru⟩ := rv.get hx
    obtain ⟨u2, hu2, ru2⟩ := rv2.get hy
    obtain rfl : x1 = u := by
      have e1 : its.toArray[i]? = some x1 := e1
      rw [List.getElem?_toArray, hu] at e1
      exact (Option.some.inj e1).symm
    obtain rfl : x2 = u2 := by
      have e2 : its2.toArray[i]? = some x2 := e2
      rw [List.getElem?_toArray, hu2] at e2
      exact (Option.some.inj e2).symm
    refine ⟨_, rfl, wpAny_letOwnedTupleGo_zip (s := { s with heap := h', toks := tk }) r1 fun h2 z2 sb => ?_⟩
    have off : ∀ c, c ∈ zmC z TI TO i1 i2 → c ≠ s.heap.objs.size := fun c hc => Nat.ne_of_lt (st0.lt hc)
    have zz := off z (List.mem_cons_self ..)
    have pair : h2.get? s.heap.objs.size = some { cls := .type "tuple", data := .seq #[x1, x2] } := (sb.2 _ zz.symm).trans r5
    have new : ObjOk X.prog X.w (upd H s.heap.objs.size (.tup [x, y])) h2 s.heap.objs.size (.tup [x, y]) :=
      ⟨by show 2 ≤ sizeLine; decide, [x1, x2], .cons ru (.cons ru2 .nil), ⟨_, pair, rfl, _, rfl⟩⟩
    have I1 : Inv X pins σ (upd H s.heap.objs.size (.tup [x, y])) { s with heap := h2, toks := tk } :=
      I.turnedNew (ch := zmC z TI TO i1 i2) (fun c o hb q => (sb.2 c (nin hb (by simp [zmC]))).trans (hk c o (nin hb (by simp [zmC])) (nin hb (by simp [zmC])) (nin hb (by simp [zmC])) (nin hb (by simp [zmC])) q)) hf (Nat.le_refl _) new
    refine ⟨.ref s.heap.objs.size, _, I1, rfl, ⟨_, x, y, rfl, I.hok.fresh (Nat.le_refl _), rfl, fun l hl => by rw [I.list_inj hl hqx]; exact hx, fun l hl => by rw [I.tuple_inj hl hqy]; exact hy⟩, ?_, fun c hc => ?_⟩
    · refine ⟨z2, (sb.2 _ S.TIz).trans (hk _ _ S.TIz S.TITO S.TIi1 S.TIi2 q2), ⟨_, _, (sb.2 _ S.TOz).trans r2⟩, ?_, ?_⟩
      · exact r3.1.at fun o q => (sb.2 _ S.zi1.symm).trans q
      · exact r4.1.at fun o q => (sb.2 _ S.zi2.symm).trans q
    · rw [upd_ne (off c hc)]
      exact (hf c hc).1
  done := by
    intro X hP hw hK hc i pins s σ H E I hf st hg
    subst hP hw hK
    obtain ⟨xs, ys, hqx, hqy, h1, h2, h3⟩ := hg
    obtain ⟨its, rv, p, _⟩ := I.list hqx
    obtain ⟨its2, rv2, p2, _⟩ := I.tuple hqy
    obtain ⟨q1, q2, ⟨x0, y0, q3⟩, q4, q5⟩ := st
    have l1 := rv.length
    have l2 := rv2.length
    have hh : X.A.in1.handled = none := I.ok.hd hc
    refine wpAny_pyNext_zipD2_end S (Draws.list hh i1 a ha its.toArray) (Draws.tuple hh i2 b hb its2.toArray) q1 q2 q3 ⟨q4, p.isList⟩ ⟨q5, p2⟩ (by rw [List.size_toArray]; omega) (by rw [List.size_toArray]; omega)
      (by rw [List.size_toArray, List.size_toArray]; omega) fun h' tk hk => ⟨rfl, I.turnedL (ch := zmC z TI TO i1 i2) (fun c o hb q => hk c o (nin hb (by simp [zmC])) (nin hb (by simp [zmC])) (nin hb (by simp [zmC])) (nin hb (by simp [zmC])) q) hf⟩
def iZipM (K : PySem.W.Frag) (ta : TA) : TI := fun σ H R => ta σ H fun vs H1 => ∃ a b xs ys, vs = [.ref a, .ref b] ∧ SqL K H1 a xs ∧ SqT K H1 b ys ∧ R (ItzM K a b) H1
theorem pi_zipM {X : Cx} {e e2 : Expr} {ta : TA} {p pos tpos : Pos} {elts : List Expr} {kk : Nat} (hg : Gl X "zip") (hm : X.mg "zip" = none) (ha : PA X [e, e2] ta)
    (hs : starEach [e, e2] X.env = (false, eval e X.env) :: starEach [e2] X.env := by rfl) (hpl : (backTo pos (starEach [e2] X.env)).any (·.1) = false := by rfl) :
    PI X (.Tuple elts kk tpos) (.Call (.Name "zip" p) [e, e2] [] pos) (iZipM X.K ta) := by
  refine ⟨fun pins s σ H R I h => Call_ (ld_blt I hg hm PyProof.Rows.boot_zip (PyProof.Rows.callWith_type1 (thn (ha.run pos pins s σ H _ I h) fun us s1 ⟨vs, H1, I1, r1, q1⟩ => ?_) hs hpl))⟩
  obtain ⟨a, b, xs, ys, rfl, hqx, hqy, q⟩ := q1
  obtain ⟨u1, u2, rfl, r1, r2⟩ := vals2 r1
  obtain rfl : u1 = Value.ref a := r1
  obtain rfl : u2 = Value.ref b := r2
  obtain ⟨its, rv, p1, _⟩ := I1.list hqx
  obtain ⟨its2, rv2, p2, _⟩ := I1.tuple hqy
  have la : a < s1.heap.objs.size := p1.lt
  have lb : b < s1.heap.objs.size := p2.lt
  refine zip_begins2 (begins_list a its.toArray) (begins_tuple b its2.toArray) p1.isList p2 fun h' z1 z2 z3 z4 z5 hsz hk => wpAny_pyIter_zip z1 ?_
  refine ⟨s1.heap.objs.size + 4, zmC _ _ _ _ _, _, _, H1, rfl, I1.kept (t' := s1.toks) hk, turn_zipM (zip_sep2 (N := s1.heap.objs.size) (fp1 := [a]) (fp2 := [b]) (by simpa using la) (by simpa using lb)) (Nat.ne_of_lt la) (Nat.ne_of_lt (Nat.lt_succ_of_lt lb)),
    ⟨z1, z2, ⟨_, _, z3⟩, ⟨_, z4, rfl, rfl⟩, ⟨_, z5, rfl, rfl⟩⟩, fun c hc => ?_, q⟩
  have hle : s1.heap.objs.size ≤ c := by
    unfold zmC at hc
    simp only [List.mem_cons, List.not_mem_nil, or_false] at hc
    rcases hc with rfl | rfl | rfl | rfl | rfl
    · exact Nat.le_add_right _ _
    · exact Nat.le_add_right _ _
    · exact Nat.le_add_right _ _
    · exact Nat.le_refl _
    · exact Nat.le_add_right _ _
  exact I1.fpOk hle (I1.hok.fresh hle)
theorem walk_zipM {K : PySem.W.Frag} {a b : Addr} {xs ys : List V} {n : Nat} (hn : n = min xs.length ys.length) : Walk (ItzM K a b) n (fun H => SqL K H a xs ∧ SqT K H b ys) (YPair (fun i => xs[i]?) (fun i => ys[i]?)) := by
  subst hn
  refine ⟨fun i _ hi q => ?_, fun _ q => ⟨xs, ys, q.1, q.2, by omega, by omega, by omega⟩, fun i H v H' _ q y => ?_⟩
  · have h1 : i < xs.length := by omega
    have h2 : i < ys.length := by omega
    exact ⟨xs, ys, xs[i], ys[i], q.1, q.2, List.getElem?_eq_getElem h1, List.getElem?_eq_getElem h2⟩
  · obtain ⟨T, x, z, h1, h2, h3, h4, h5⟩ := y
    exact ⟨T, x, z, h1, h2, h3, h4 xs q.1, h5 ys q.2⟩
/-- a dict comprehension over a walk -/
theorem dc_it {J : It} {n : Nat} {G : Hp → Prop} {Y : Nat → Hp → V → Hp → Prop} (w : Walk J n G Y) {g : TG} {t : TT} {tk tv : TE} {vs : List Nat} {σ : L2.St} {H0 : Hp} {D : Addr} {Fin : Hp → Prop} (P : Nat → Hp → Prop) (start : P 0 (upd H0 D (.dK []))) (good : ∀ i H, i ≤ n → P i H → G H)
    (step : ∀ i x H H', i < n → P i H → Y i H x H' → g x (wipe σ vs) H' fun σ2 H2 => wipe σ2 vs = wipe σ vs ∧ t σ2 H2 fun b H3 =>
      if b = true then tk σ2 H3 fun y H4 => tv σ2 H4 fun z H5 => ∃ kvs k, y = kV k ∧ H5 D = some (.dK kvs) ∧ kvs.length < sizeLine ∧ P (i + 1) (upd H5 D (.dK (putK kvs k z))) else P (i + 1) H3) (last : ∀ H, P n H → Fin H) :
    ∃ W : Nat → Nat → Hp → Prop, (∃ m, W 0 m (upd H0 D (.dK []))) ∧ ∀ i m H, W i m H →
      (J.stop i H ∧ Fin H) ∨ (J.go i H ∧ ∃ N : Hp → Prop, (∀ H', N H' → ∃ m', m' < m ∧ W (i + 1) m' H') ∧ ∀ x H', J.yld i H x H' → g x (wipe σ vs) H' fun σ2 H2 => wipe σ2 vs = wipe σ vs ∧ t σ2 H2 fun b H3 =>
        if b = true then tk σ2 H3 fun y H4 => tv σ2 H4 fun z H5 => ∃ kvs k, y = kV k ∧ H5 D = some (.dK kvs) ∧ kvs.length < sizeLine ∧ N (upd H5 D (.dK (putK kvs k z))) else N H3) :=
  ⟨fun i m H => i + m = n ∧ P i H, ⟨n, by omega, start⟩, fun i m H ⟨hm, p⟩ => by
    have q := good i H (by omega) p
    cases m with
    | zero =>
      obtain rfl : i = n := by omega
      exact .inl ⟨w.stops H q, last H p⟩
    | succ m =>
      have hi : i < n := by omega
      exact .inr ⟨w.goes i H hi q, P (i + 1), fun H' p' => ⟨m, by omega, by omega, p'⟩, fun x H' y => step i x H H' hi p (w.yields i H x H' hi q y)⟩⟩
/-- a statement run when a dict that was locked is let go: for a raise that leaves the loop -/
def tUnl (d : Addr) (t : TS) : TS := fun D σ H => ∃ od kvs, H d = some (.frz od (.dK kvs)) ∧ t D σ (upd H d (.dK kvs))
theorem ps_unl {X : Cx} {d : Addr} {st : Stmt} {t : TS} (hn : ∀ o u, X.H_0 d ≠ some (.frz o u)) (h : PS X st t) : PS X st (tUnl d t) :=
  ⟨fun pins s σ H D I ⟨_, _, hd, q⟩ => h.run pins s σ _ D (I.unlock hd hn) q⟩
end MxI
end

section
set_option Elab.async false
set_option linter.all false
set_option maxRecDepth 100000
set_option maxHeartbeats 4000000
namespace K17
open PySem PySem.Spec PyProof.Rows L2 He Cn Evl KeL Erx MxI
section
variable {P : Program} {w : World} {K : PySem.W.Frag} {mg : Str → Option Value} {base : Heap}
/-! ### a record is made -/
def spRecInit (K : PySem.W.Frag) : Sp := fun vs H Q _ => ∃ (r k vd dx : Addr) (kvs : Kvs), vs = [.ref r, .ref k, .ref vd] ∧ H r = some (.ins (kR K) dx []) ∧ dx ≠ r ∧ H dx = some (.own r) ∧ H vd = some (.dK kvs) ∧
  ∀ (H' : Hp) (vs' : List (Option V)), SlX.Slt H' r (kR K) dx vs' → vs'[1]? = some (some (.ref k)) → (∀ b o, H b = some o → b ≠ r → b ≠ dx → H' b = some o) → Q .non H'
theorem fnr_recInit (T : Txt K mg) : FnR P w K mg base CX0 1 (ma K (kR K) "__init__") (spRecInit K) := by
  obtain ⟨fd, F⟩ := T.F_Record_init
  have FO : FnOk P w K mg base CX0 1 (ma K (kR K) "__init__") fd ["self", "kind", "values"] (spRecInit K) := by
    refine F.ok sc_Record_init (fun vs H Q E h => ?_) (fun cdv A outer s H vs Q E hr h => ?_)
    · obtain ⟨r, k, vd, dx, kvs, rfl, _⟩ := h
      rfl
    · obtain ⟨r, k, vd, dx, kvs, rfl, hr0, hne, hdx, hvd, fin⟩ := h
      refine ⟨_, pss_cons (SlX.ps_sl (pv 0) (pv 1)) (pss_cons (SlX.ps_sl (pv 0) (pe_callTy call_dictD (by rfl) T.n_dict (by decide +kernel) (pa_cons (pv 2) pa_nil))) (pss_one (SlX.ps_sl (pv 0) pe_bl))), ?_⟩
      have vr : vd ≠ r := ne_of hvd hr0 (by intro z; cases z)
      have vx : vd ≠ dx := ne_of hvd hdx (by intro z; cases z)
      refine ⟨_, rfl, _, rfl, r, kR K, dx, _, [], 1, rfl, .inl ⟨hr0, rfl⟩, T.rS, T.rS_kind, ?_⟩
      refine ⟨_, rfl, vd, kvs, rfl, .inl (by rw [SlX.slH_ne vr vx]; exact hvd), fun p hp => ?_⟩
      have pr : r ≠ p := fun z => by
        rw [← z] at hp
        unfold SlX.slH at hp
        rw [upd_same] at hp
        cases hp
      have px : dx ≠ p := fun z => by
        rw [← z] at hp
        unfold SlX.slH at hp
        rw [upd_ne hne, upd_same] at hp
        cases hp
      have s1 : SlX.Slt (upd (SlX.slH H r (kR K) dx (SlX.putS 1 (.ref k) [])) p (.dK kvs)) r (kR K) dx (SlX.putS 1 (.ref k) []) := by
        rcases SlX.slH_slt (H := H) (a := r) (C := kR K) (vs := SlX.putS 1 (.ref k) []) hne with ⟨_, q⟩ | ⟨q1, q2⟩
        · exact absurd (congrArg List.length q) (by simp [SlX.putS])
        · exact .inr ⟨by rw [upd_ne pr]; exact q1, by rw [upd_ne px]; exact q2⟩
      refine ⟨_, rfl, r, kR K, dx, _, _, 2, rfl, s1, T.rS, T.rS_values, ?_⟩
      refine ⟨_, rfl, r, kR K, dx, _, _, 0, rfl, SlX.slH_slt hne, T.rS, T.rS_is_made, ?_⟩
      refine fin _ _ (SlX.slH_slt hne) ?_ fun b o hb h1 h2 => ?_
      · rw [SlX.putS_ne (by decide), SlX.putS_ne (by decide)]
        exact SlX.putS_get _ _ _
      · have hbp : b ≠ p := fun z => by
          rw [← z, SlX.slH_ne h1 h2, hb] at hp
          cases hp
        rw [SlX.slH_ne h1 h2, SlX.slH_ne h1 h2, upd_ne hbp, SlX.slH_ne h1 h2]
        exact hb
  refine (FO.raw (F.binds (ps := ["self", "kind", "values"]) fun _ _ _ _ _ _ us hl => match us, hl with | [_, _, _], _ => rfl) .nil).imp fun vs H Q E h => ?_
  rw [List.append_nil]
  exact h
def spSeal (K : PySem.W.Frag) : Sp := fun vs H Q _ => ∃ (r k dx : Addr) (ss : List (Option V)), vs = [.ref r] ∧ SlX.Slt H r (kR K) dx ss ∧ dx ≠ r ∧ ss[1]? = some (some (.ref k)) ∧
  ∀ H', RcAt K H' r k → (∀ b o, H b = some o → b ≠ r → b ≠ dx → H' b = some o) → Q .non H'
theorem fnr_seal (T : Txt K mg) : FnR P w K mg base CX0 1 (ma K (kR K) "seal") (spSeal K) := by
  obtain ⟨fd, F⟩ := T.F_Record_seal
  have FO : FnOk P w K mg base CX0 1 (ma K (kR K) "seal") fd ["self"] (spSeal K) := by
    refine F.ok sc_Record_seal (fun vs H Q E h => ?_) (fun cdv A outer s H vs Q E hr h => ?_)
    · obtain ⟨r, k, dx, ss, rfl, _⟩ := h
      rfl
    · obtain ⟨r, k, dx, ss, rfl, hs, hne, hk, fin⟩ := h
      refine ⟨_, pss_one (SlX.ps_sl (pv 0) pe_bl), ?_⟩
      refine ⟨_, rfl, r, kR K, dx, _, _, 0, rfl, hs, T.rS, T.rS_is_made, ?_⟩
      refine fin _ ⟨dx, _, SlX.slH_slt hne, ?_⟩ fun b o hb h1 h2 => by rw [SlX.slH_ne h1 h2]; exact hb
      rw [SlX.putS_ne (by decide)]
      exact hk
  refine (FO.raw (F.binds (ps := ["self"]) fun _ _ _ _ _ _ us hl => match us, hl with | [_], _ => rfl) .nil).imp fun vs H Q E h => ?_
  rw [List.append_nil]
  exact h
/-! ### a kind without parameters: nothing is bound -/
def spMiss0 (K : PySem.W.Frag) : Sp := fun vs H Q _ => ∃ (a gd : Addr) (x : KX), vs = [.ref a, .ref gd] ∧ KXAt K H a x ∧ ∀ H', Ex H H' → Q .non H'
theorem can_miss0 (T : Txt K mg) : ∃ fd, FnOk P w K mg base CX0 1 (ma K (kC K) "_check_missing") fd ["self", "given"] (spMiss0 K) ∧ Binds K fd ["self", "given"] [] := by
  obtain ⟨fd, F⟩ := T.F_Kind__check_missing
  refine ⟨fd, F.ok sc_Kind__check_missing (fun vs H Q E h => by obtain ⟨a, gd, x, rfl, _⟩ := h; rfl) (fun cdv A outer s H vs Q E hr h => ?_), F.binds fun _ _ _ _ _ _ us hl => match us, hl with | [_, _], _ => rfl⟩
  obtain ⟨a, gd, x, rfl, ⟨dx, q, d, md, fs, h1, h2, h3, h4, h5, h6, h7, h8, h9, p1, p2, p3, p4, p5, a1, b1, a2, b2, a3, b3, a4, b4, a5, b5⟩, fin⟩ := h
  have nd := sc_Kind__check_missing.nd
  have hu := hu_of hr
  refine ⟨_, pss_cons (ps_setLc (i := 2) (own := [("member", 4)]) (wi := iList K (tFld K (tVar 0) "_parameters")) (g := gName 4) (tt := tNoT) (te := tVar 4) rfl nd rfl rfl (sw_true rfl rfl rfl (by decide +kernel)) (pi_list (pe_fld (pv 0) rfl)) (blkOk_by (N := ["self", "given", "needed", "missing", "member"]) (sc := defScope s_Kind__check_missing) (by decide +kernel)) (fun _ _ _ _ _ => pg_name (i := 4) nd rfl (.inl rfl)) (fun _ _ _ _ _ => pts_one pt_no) (fun _ _ _ _ _ => pv 4))
    (pss_cons (ps_set (i := 3) nd rfl (.inl rfl) (pe_callTy call_tuple_of (by rfl) T.n_tuple (by decide +kernel) (pa_cons (pe_lc (own := [("member", 4)]) (wi := iList K (tVar 2)) (g := gName 4) (tt := tNoT) (te := tFld K (tVar 4) "name") rfl nd (pi_list (pv 2)) (blkOk_by (N := ["self", "given", "needed", "missing", "member"]) (sc := defScope s_Kind__check_missing) (by decide +kernel)) (fun _ _ _ _ _ => pg_name (i := 4) nd rfl (.inl rfl)) (fun _ _ _ _ _ => pts_one pt_no) (fun _ _ _ _ _ => pe_fld (pv 4) rfl)) pa_nil)))
    (pss_one (ps_if (pt_truth (pv 3) (by intro _; rfl)) (pss_one ps_never) pss_nil))), ?_⟩
  refine q_asgL (en_list (K := K) (ev_fld (ev_var rfl) h1 T.cls T.a__parameters a2) (sq_of b2)) fun pn H1 hpn e1 hn1 => ?_
  refine q_asgU (en_tupOf (en_list (K := K) (ev_var rfl) (sq_of hn1))) fun pt H2 hpt e2 hn2 => ?_
  exact s_when (b := false) (et_tru (ev_var rfl) fun H3 e3 => .inr (.inl ⟨[], st_of (e3 _ _ hn2), rfl⟩)) (fun h => by cases h) fun _ H3 e3 => fin H3 ((e1.trans e2).trans e3)
end
end K17
end

section
set_option Elab.async false
set_option linter.all false
set_option maxRecDepth 100000
set_option maxHeartbeats 4000000
namespace K17
open PySem PySem.Spec PyProof.Rows L2 He Cn Evl KeL Erx MxI
theorem dcz_E {K : PySem.W.Frag} {ta : TA} {xv : List V} {g : TG} {t : TT} {tk tv : TE} {vs : List Nat} {σ : L2.St} {H : Hp} {Q : VK} (h : EvA ta σ H xv) (k : ∀ H1, Ex H H1 → ∃ a b xs ys, xv = [.ref a, .ref b] ∧ SqL K H1 a xs ∧ SqT K H1 b ys ∧ tDc (fun _ H R => R (ItzM K a b) H) g t tk tv vs σ H1 Q) : tDc (iZipM K ta) g t tk tv vs σ H Q := h H (Ex.refl H) _ k
section
variable {P : Program} {w : World} {K : PySem.W.Frag} {mg : Str → Option Value} {base : Heap}
def spBind0 (K : PySem.W.Frag) : Sp := fun vs H Q _ => ∃ (a tv nd : Addr) (x : KX), vs = [.ref a, .ref tv, .ref nd] ∧ KXAt K H a x ∧ H tv = some (.tup []) ∧ H nd = some (.dK []) ∧ ∀ d H', H d = none → Ex H H' → H' d = some (.dK []) → Q (.ref d) H'
theorem can_bind0 (T : Txt K mg) : ∃ fd, FnOk P w K mg base CX0 2 (ma K (kC K) "bind") fd ["self", "values", "named"] (spBind0 K) ∧ Binds K fd ["self", "values", "named"] [] := by
  obtain ⟨fd, F⟩ := T.F_Kind_bind
  obtain ⟨fdM, FM, bM⟩ := can_miss0 (P := P) (w := w) (base := base) T
  refine ⟨fd, F.ok sc_Kind_bind (fun vs H Q E h => by obtain ⟨a, tv, nd, x, rfl, _⟩ := h; rfl) (fun cdv A outer s H vs Q E hr h => ?_), F.binds fun _ _ _ _ _ _ us hl => match us, hl with | [_, _, _], _ => rfl⟩
  obtain ⟨a, tt, xd, x, rfl, hk, htt, hxd, fin⟩ := h
  have nd := sc_Kind_bind.nd
  have hu := hu_of hr
  refine ⟨_, pss_cons (ps_if (pt_cmpR op_gt (pe_callB call_len_seq (by rfl) T.n_len PySem.boot_len (pa_cons (pv 1) pa_nil)) (pe_callB call_len_seq (by rfl) T.n_len PySem.boot_len (pa_cons (pe_fld (pv 0) rfl) pa_nil)) (nomark _)) (pss_one ps_never) pss_nil)
    (pss_cons (ps_set (i := 3) nd rfl (.inr rfl) (pe_dc (own := [("member", 5), ("value", 6)]) (wi := iZipM K (tCons (tFld K (tVar 0) "_by_position") (tCons (tVar 1) tNil))) (g := gP K 5 6) (tt := tYes) (tk := tFld K (tVar 5) "name") (tv := tVar 6) rfl nd (pi_zipM (by rfl) T.n_zip (pa_cons (pe_fld (pv 0) rfl) (pa_cons (pv 1) pa_nil))) (blkOk_by (N := ["self", "values", "named", "given", "name", "member", "value"]) (sc := defScope s_Kind_bind) (by decide +kernel)) (fun _ _ _ _ _ => pg_tup rfl (pgs_cons (pg_name (i := 5) nd rfl (.inl rfl)) (pgs_cons (pg_name (i := 6) nd rfl (.inl rfl)) pgs_nil))) (fun _ _ _ _ _ => pts_nil) (fun _ _ _ _ _ => pe_fld (pv 5) rfl) (fun _ _ _ _ _ => pv 6)))
    (pss_cons (ps_lock (ps_for PassesOwn.never rfl (pi_keys (pv 2)) (pg_name (i := 4) nd rfl (.inl rfl)) pss_never))
    (pss_cons (ps_expr (pe_meth (pv 0) T.cls T.m__check_missing FM hr bM .nil pass0 (pa_cons (pv 3) pa_nil)))
    (pss_one (ps_ret (pe_dc (own := [("name", 4)]) (wi := iList K (tFld K (tVar 0) "_parameter_names")) (g := gName 4) (tt := tB (tDIn (tVar 4) (tVar 3))) (tk := tVar 4) (tv := tDGet (tVar 3) (tVar 4)) rfl nd (pi_list (pe_fld (pv 0) rfl)) (blkOk_by (N := ["self", "values", "named", "given", "name", "member", "value"]) (sc := defScope s_Kind_bind) (by decide +kernel)) (fun _ _ _ _ _ => pg_name (i := 4) nd rfl (.inl rfl)) (fun _ _ _ _ _ => pts_one (pt_cmp (pc_din hu (pv 4) (pv 3)))) (fun _ _ _ _ _ => pv 4) (fun _ _ _ _ _ => pe_dget hu (pv 3) (pv 4) (fun _ _ => rfl)))))))), ?_⟩
  have hk0 := hk
  obtain ⟨dx, q, d, md, fs, h1, h2, h3, h4, h5, h6, h7, h8, h9, p1, p2, p3, p4, p5, a1, b1, a2, b2, a3, b3, a4, b4, a5, b5⟩ := hk
  have hlv : Ev (tCB (Evl.rLenS K) (tCons (tVar 1) tNil)) [some (.ref a), some (.ref tt), some (.ref xd), none, none, none, none] H (.int ((0 : Nat) : Int)) := ev_lenT (xs := []) (ev_var rfl) (st_of htt)
  have hln : Ev (tCB (Evl.rLenS K) (tCons (tFld K (tVar 0) "_by_position") tNil)) [some (.ref a), some (.ref tt), some (.ref xd), none, none, none, none] H (.int ((0 : Nat) : Int)) := Evl.ev_len (K := K) (xs := []) (ev_fld (ev_var rfl) h1 T.cls T.a__by_position a1) (sq_of b1)
  refine q_when (b := false) (et_is (et_test (ev_op hlv hln rv_I0)) (by simp)) (fun hb => by cases hb) fun _ H1 e1 => ?_
  refine q_asgE (dcz_E (xv := [.ref p1, .ref tt]) (ea_cons (ev_fld (ev_var rfl) (e1 _ _ h1) T.cls T.a__by_position a1) (ea_cons (ev_var rfl) ea_nil)) fun H2 e2 => ⟨p1, tt, [], [], rfl, sq_of (e2 _ _ (e1 _ _ b1)), st_of (e2 _ _ (e1 _ _ htt)), fun gd hgd => ?_⟩)
  have e12 := e1.trans e2
  refine dc_it (walk_zipM (n := 0) rfl) (fun i H' => H' gd = some (.dK []) ∧ Ex H2 H') ⟨upd_same, Ex.new hgd⟩ (fun i H' _ q => ⟨sq_of (q.2 _ _ (e12 _ _ b1)), st_of (q.2 _ _ (e12 _ _ htt))⟩) (fun i x H3 H4 hi => by omega) ?_
  rintro H3 ⟨k1, e23⟩
  have e03 := e12.trans e23
  have hgx : gd ≠ xd := (ne_of_none hxd (fresh_back e12 hgd)).symm
  refine q_keys (i := 2) (j := 4) rfl (e03 _ _ hxd) (fun i σ' H' => (∃ v4 : Option V, σ' = [some (.ref a), some (.ref tt), some (.ref xd), some (.ref gd), v4, none, none]) ∧ Ex (del H3 xd) H' ∧ H' gd = some (.dK [])) (fun od => ⟨⟨none, rfl⟩, fun b o hb => ?_, by rw [upd_ne hgx]; exact k1⟩) (fun od n k v σ' H' hk => by simp at hk) ?_
  · by_cases q : b = xd
    · rw [q, del_same] at hb
      cases hb
    · rw [del_ne q] at hb
      rw [upd_ne q]
      exact hb
  · rintro od σ' H' ⟨⟨v4, rfl⟩, eD, hg⟩ hfz
    have e36 : Ex H3 (upd H' xd (.dK [])) := ex_unlock (e03 _ _ hxd) eD
    have hg6 : upd H' xd (.dK []) gd = some (.dK []) := by rw [upd_ne hgx]; exact hg
    generalize upd H' xd (.dK []) = H6 at *
    have e06 := e03.trans e36
    have hk6 := hk0.ex e06
    refine q_drop (v := .non) (fun H7 e7 Q' q' => ⟨_, rfl, a, dx, fs, rfl, (e06.trans e7) _ _ h1, h2 _ (by simp [noKeys]), _, rfl, a, gd, x, rfl, hk6.ex e7, fun H8 e8 => q' H8 e8⟩) fun H7 e7 => ?_
    have e07 := e06.trans e7
    refine (en_dcL (K := K) (q := p3) (ev_fld (ev_var rfl) (e07 _ _ h1) T.cls T.a__parameter_names a3) (sq_of (e07 _ _ b3))) H7 (Ex.refl _) _ fun p H8 hp e8 h8 => ?_
    exact fin p H8 (fresh_back e07 hp) (e07.trans e8) h8
def spFirst0 (K : PySem.W.Frag) : Sp := fun vs H Q _ => ∃ (a gd : Addr) (x : KX), vs = [.ref a, .ref gd] ∧ KXAt K H a x ∧ ∀ d H', H d = none → Ex H H' → H' d = some (.dK []) → Q (.ref d) H'
theorem can_first0 (T : Txt K mg) : ∃ fd, FnOk P w K mg base CX0 1 (ma K (kC K) "_first_values") fd ["self", "given"] (spFirst0 K) ∧ Binds K fd ["self", "given"] [] := by
  obtain ⟨fd, F⟩ := T.F_Kind__first_values
  refine ⟨fd, F.ok sc_Kind__first_values (fun vs H Q E h => by obtain ⟨a, gd, x, rfl, _⟩ := h; rfl) (fun cdv A outer s H vs Q E hr h => ?_), F.binds fun _ _ _ _ _ _ us hl => match us, hl with | [_, _], _ => rfl⟩
  obtain ⟨a, gd, x, rfl, ⟨dx, q, d, md, fs, h1, h2, h3, h4, h5, h6, h7, h8, h9, p1, p2, p3, p4, p5, a1, b1, a2, b2, a3, b3, a4, b4, a5, b5⟩, fin⟩ := h
  have nd := sc_Kind__first_values.nd
  refine ⟨_, pss_cons (ps_set (i := 2) nd rfl (.inl rfl) pe_dnewK) (pss_cons (ps_for PassesOwn.never rfl (pi_tup (pe_fld (pv 0) rfl)) (pg_name (i := 3) nd rfl (.inl rfl)) pss_never) (pss_one (ps_ret (pv 2)))), ?_⟩
  intro p hp
  have e1 : Ex H (upd H p (.dK [])) := Ex.new hp
  have k1 : upd H p (.dK []) p = some (.dK []) := upd_same
  generalize upd H p (.dK []) = H1 at *
  refine s_forT (K := K) (xs := []) (ev_fld (ev_var rfl) (e1 _ _ h1) T.cls T.a_fields a4) (st_of (e1 _ _ b4)) (fun i σ' H' => (∃ v, σ' = [some (.ref a), some (.ref gd), some (.ref p), v, none]) ∧ Ex H1 H') (fun H2 e2 => ⟨⟨_, rfl⟩, e2⟩) (fun i σ' H' _ q => st_of ((e1.trans q.2) _ _ b4)) (fun i x σ' H' hx => by simp at hx) ?_
  rintro σ' H' ⟨⟨v, rfl⟩, e⟩
  show tRet (tVar 2) { nx := fun _ H' => Q .non H', rt := Q } [some (.ref a), some (.ref gd), some (.ref p), v, none] H'
  exact ⟨_, rfl, fin p H' hp (e1.trans e) (e _ _ k1)⟩
end
end K17
end

section
set_option Elab.async false
set_option linter.all false
set_option maxRecDepth 100000
set_option maxHeartbeats 4000000
namespace K17
open PySem PySem.Spec PyProof.Rows L2 He Cn Evl KeL Erx MxI
section
variable {P : Program} {w : World} {K : PySem.W.Frag} {mg : Str → Option Value} {base : Heap}
theorem rc_lg {H : Hp} {lg r k : Addr} {L : List V} (h : RcAt K H r k) (hl : H lg = some (.lst L)) : RcAt K (del H lg) r k := by
  obtain ⟨dx, vs, (⟨h1, h2⟩ | ⟨h1, h2⟩), h3⟩ := h
  · exact ⟨dx, vs, .inl ⟨by rw [del_ne (ne_of h1 hl (by intro z; cases z))]; exact h1, h2⟩, h3⟩
  · exact ⟨dx, vs, .inr ⟨by rw [del_ne (ne_of h1 hl (by intro z; unfold SlX.SlO at z; cases z))]; exact h1, by rw [del_ne (ne_of h2 hl (by intro z; cases z))]; exact h2⟩, h3⟩
/-- kind.build((), {}) -/
def spBuild (K : PySem.W.Frag) : Sp := fun vs H Q _ => ∃ (a tv nd md lg : Addr) (as : List Addr) (xi : Xi) (ki : Ks_) (l : List Addr) (L : List V), vs = [.ref a, .ref tv, .ref nd] ∧ Wd K (del H lg) md lg as xi ki l 0 ∧ l = (xi a).line ∧ l[0]? = some a ∧ l.length ≤ 8 ∧ H tv = some (.tup []) ∧ H nd = some (.dK []) ∧
  H lg = some (.lst L) ∧ L.length + l.length ≤ 1000 ∧ ∀ r H', H r = none → RcAt K (del H' lg) r a → FrB lg H H' → H' lg = some (.lst (L ++ hkN xi ki l)) → Q (.ref r) H'
theorem can_build (T : Txt K mg) : ∃ fd, FnOk P w K mg base CX0 (lvH 8 + 1) (ma K (kC K) "build") fd ["self", "values", "named"] (spBuild K) ∧ Binds K fd ["self", "values", "named"] [] := by
  obtain ⟨fd, F⟩ := T.F_Kind_build
  obtain ⟨fdB, FB, bB⟩ := can_bind0 (P := P) (w := w) (base := base) T
  obtain ⟨fdF, FF, bF⟩ := can_first0 (P := P) (w := w) (base := base) T
  obtain ⟨fdH, FH, bH⟩ := can_findHook (P := P) (w := w) (base := base) T
  have FI := fnr_recInit (P := P) (w := w) (base := base) T
  have FS := fnr_seal (P := P) (w := w) (base := base) T
  have HL := fnr_hooks (P := P) (w := w) (base := base) T 8
  refine ⟨fd, F.ok sc_Kind_build (fun vs H Q E h => by obtain ⟨a, tv, nd, _, _, _, _, _, _, _, rfl, _⟩ := h; rfl) (fun cdv A outer s H vs Q E hr h => ?_), F.binds fun _ _ _ _ _ _ us hl => match us, hl with | [_, _, _], _ => rfl⟩
  obtain ⟨a, tv, nd_, md, lg, as, xi, ki, l, L, rfl, W, hl, h0, hlen, htv, hnd, hlg, hL, fin⟩ := h
  have nd := sc_Kind_build.nd
  have r1 : Room 1 _ := hr.mono (show 1 ≤ lvH 8 by decide)
  have r2 : Room 2 _ := hr.mono (show 2 ≤ lvH 8 by decide)
  refine ⟨_, pss_cons (ps_set (i := 3) nd rfl (.inr rfl) (pe_meth (pv 0) T.cls T.m_bind FB r2 bB .nil pass0 (pa_cons (pv 1) (pa_cons (pv 2) pa_nil))))
    (pss_cons (ps_set (i := 4) nd rfl (.inl rfl) (StX.pe_makeR T.rmk FI r2 (by rfl) T.g_Record pass0 (pa_cons (pv 0) (pa_cons (pe_meth (pv 0) T.cls T.m__first_values FF r1 bF .nil pass0 (pa_cons (pv 3) pa_nil)) pa_nil))))
    (pss_cons (ps_set (i := 5) nd rfl (.inl rfl) (pe_meth (pv 0) T.cls T.m_find_hook FH r1 bH .nil pass0 (pa_cons pe_int pa_nil)))
    (pss_cons (ps_if (pt_cmp (pc_notN (pv 5))) (pss_cons (ps_setLc (i := 6) (own := [("member", 8)]) (wi := iList K (tFld K (tVar 0) "_init_only")) (g := gName 8) (tt := tYes) rfl nd rfl rfl (sw_true rfl rfl rfl (by decide +kernel)) (pi_list (pe_fld (pv 0) rfl)) (blkOk_by (N := ["self", "values", "named", "given", "record", "hook", "extras", "function", "member"]) (sc := defScope s_Kind_build) (by decide +kernel)) (fun _ _ _ _ _ => pg_name (i := 8) nd rfl (.inl rfl)) (fun _ _ _ _ _ => pts_nil) (fun _ _ _ _ _ => pe_never))
        (pss_cons (ps_set (i := 7) nd rfl (.inl rfl) (pe_fld (pv 5) rfl))
        (pss_one (ps_expr (pe_callKS (i := 7) (G := fun f => some (spHL K 8 f)) (fun f sp q => by cases q; exact HL f) hr pass0 rfl (.inl rfl) (pa_cons (pv 4) (StX.pa_star (pv 6) pa_nil))))))) pss_nil)
    (pss_cons (ps_expr (SlX.pe_methSl0 (pv 4) T.rS T.rm_seal FS r1 pass0))
    (pss_one (ps_ret (pv 4))))))), ?_⟩
  have am : a ∈ l := List.mem_of_getElem? h0
  have hkx := W.kx a am
  have d0 : Ex (del H lg) H := del_ex
  obtain ⟨dx, q, d, mdd, fs, h1, h2, h3, h4, h5, h6, h7, h8, h9, p1, p2, p3, p4, p5, a1, b1, a2, b2, a3, b3, a4, b4, a5, b5⟩ := id hkx
  -- given
  refine q_asgE ?_
  refine ⟨_, rfl, a, dx, fs, rfl, d0 _ _ h1, h2 _ (by simp [noKeys]), _, rfl, _, rfl, a, tv, nd_, xi a, rfl, hkx.ex d0, htv, hnd, fun gd H1 hgd e1 hg1 => ?_⟩
  have d1 := d0.trans e1
  -- record
  refine q_asgE ?_
  refine ⟨_, rfl, _, rfl, a, dx, fs, rfl, d1 _ _ h1, h2 _ (by simp [noKeys]), _, rfl, a, gd, xi a, rfl, hkx.ex d1, fun vd H2 hvd e2 hv2 => ?_⟩
  have e02 := e1.trans e2
  have d2 := d0.trans e02
  intro r rx hrn hrx hne
  have hrH : H r = none := fresh_back e02 hrn
  have hrxH : H rx = none := fresh_back e02 hrx
  have e3 : Ex H2 (upd (upd H2 rx (.own r)) r (.ins (kR K) rx [])) := fun b o hb => by rw [upd_ne (ne_of_none hb hrn), upd_ne (ne_of_none hb hrx)]; exact hb
  have hr3 : upd (upd H2 rx (.own r)) r (.ins (kR K) rx []) r = some (.ins (kR K) rx []) := upd_same
  have hx3 : upd (upd H2 rx (.own r)) r (.ins (kR K) rx []) rx = some (.own r) := by rw [upd_ne hne, upd_same]
  generalize upd (upd H2 rx (.own r)) r (.ins (kR K) rx []) = H3 at *
  refine ⟨r, a, vd, rx, [], rfl, hr3, hne, hx3, e3 _ _ hv2, fun H4 vs' hs4 hk4 f4 => ⟨rfl, ?_⟩⟩
  have e04 : Ex H H4 := fun b o hb => f4 b o (e3 _ _ (e02 _ _ hb)) (ne_of_none hb hrH) (ne_of_none hb hrxH)
  have d4 := d0.trans e04
  have dd4 : Ex (del H lg) (del H4 lg) := del_mono e04
  have lr : lg ≠ r := ne_of_none hlg hrH
  have lx : lg ≠ rx := ne_of_none hlg hrxH
  -- hook
  refine q_asgE ?_
  refine ⟨_, rfl, a, dx, fs, rfl, d4 _ _ h1, h2 _ (by simp [noKeys]), a, 0, xi, rfl, hkx.ex d4, (by rw [← hl]; exact W.kx.ex d4), Nat.zero_le _, fun H5 e5 => ?_⟩
  rw [← hl, List.drop_zero]
  have hs5 := slt_ex e5 hs4
  have e05 := e04.trans e5
  -- behind the hooks
  have last : ∀ {H6 : Hp} {v5 v6 v7 : Option V}, FrB lg H5 H6 → H6 lg = some (.lst (L ++ hkN xi ki l)) → tSeq (tDrop (SlX.tMethSl (kR K) (spSeal K) E0 (tVar 4) tNil)) (tRet (tVar 4)) { nx := fun _ H' => Q .non H', rt := Q } [some (.ref a), some (.ref tv), some (.ref nd_), some (.ref gd), some (.ref r), v5, v6, v7, none] H6 := fun {H6 v5 v6 v7} f6 k6 => by
    have hs6 : SlX.Slt H6 r (kR K) rx vs' := by
      rcases hs5 with ⟨q1, q2⟩ | ⟨q1, q2⟩
      · exact .inl ⟨f6 _ _ q1 lr.symm, q2⟩
      · exact .inr ⟨f6 _ _ q1 lr.symm, f6 _ _ q2 lx.symm⟩
    refine ⟨_, rfl, r, rx, vs', rfl, hs6, r, a, rx, vs', rfl, hs6, hne, hk4, fun H7 rc7 f7 => ?_⟩
    refine ⟨_, rfl, fin r H7 hrH ?_ (fun b o hb hb2 => ?_) ?_⟩
    · exact rc_lg rc7 (f7 _ _ k6 lr lx)
    · exact f7 b o (f6 b o (e05 _ _ hb) hb2) (ne_of_none hb hrH) (ne_of_none hb hrxH)
    · exact f7 _ _ k6 lr lx
  rcases fhk_split (xi := xi) (ki := ki) (l := l) with ⟨g1, g2⟩ | ⟨j, b', h', g1, g2, g3, g4⟩
  · rw [g1]
    refine q_when (b := false) (et_is (et_notN (x := .non) (ev_var rfl)) rfl) (fun h => by cases h) fun _ H6 e6 => ?_
    refine last (ex_frb e6) ?_
    rw [g2, List.append_nil]
    exact (e05.trans e6) _ _ hlg
  · rw [g3]
    refine q_when (b := true) (et_is (et_notN (x := .ref h') (ev_var rfl)) rfl) (fun _ H6 e6 => ?_) fun h => by cases h
    have e06 := e05.trans e6
    have d6 := d0.trans e06
    refine q_asgL (en_list (K := K) (ev_fld (ev_var rfl) (d6 _ _ h1) T.cls T.a__init_only a5) (sq_of (d6 _ _ b5))) fun px H7 hpx e7 h7 => ?_
    have e07 := e06.trans e7
    have b'm : b' ∈ l := List.mem_of_getElem? g1
    obtain ⟨f, hh, hf⟩ := (W.lm b' b'm).hook h' g2
    obtain ⟨dxh, fsh, q1, q2⟩ := id hh
    refine q_asg (v := .ref f) (ev_fld (ev_var rfl) (e07 _ _ (d0 _ _ q1)) T.cH_cls T.cH_a_function q2) fun H8 e8 => ?_
    have e08 := e07.trans e8
    have dd8 : Ex (del H lg) (del H8 lg) := del_mono e08
    obtain ⟨c', q3, q4⟩ := id hf
    have rc8 : RcAt K (del H8 lg) r a := rc_lg ⟨rx, vs', slt_ex ((e6.trans e7).trans e8) hs5, hk4⟩ (e08 _ _ hlg)
    refine ⟨f, hkF (ki b').cl c', lamE hkL, spHL K 8 f, rfl, rfl, _, rfl, _, rfl, px, [], rfl, .inr (sq_of (e8 _ _ h7)), ?_⟩
    refine ⟨e08 _ _ (d0 _ _ q3), r, a, b', h', md, lg, as, xi, ki, l, j, L, rfl, rc8, (W.later (Nat.zero_le _)).ex dd8, hl, am, g1, by omega, g2, hh.ex dd8, hf.ex dd8, e08 _ _ hlg, by omega, fun H9 f9 k9 => ?_⟩
    rw [← g4] at k9
    exact last (FrB.trans (ex_frb ((e6.trans e7).trans e8)) f9) k9
/-- kind.make() -/
def spMake (K : PySem.W.Frag) : Sp := fun vs H Q _ => ∃ (a md lg : Addr) (as : List Addr) (xi : Xi) (ki : Ks_) (l : List Addr) (L : List V), vs = [.ref a] ∧ Wd K (del H lg) md lg as xi ki l 0 ∧ l = (xi a).line ∧ l[0]? = some a ∧ l.length ≤ 8 ∧
  H lg = some (.lst L) ∧ L.length + l.length ≤ 1000 ∧ ∀ r H', H r = none → RcAt K (del H' lg) r a → FrB lg H H' → H' lg = some (.lst (L ++ hkN xi ki l)) → Q (.ref r) H'
theorem fnr_make (T : Txt K mg) : FnR P w K mg base CX0 (lvH 8 + 2) (ma K (kC K) "make") (spMake K) := by
  obtain ⟨fd, F⟩ := T.F_Kind_make
  obtain ⟨oc, od, kV, doc, pm, an, cdv, ct, osl, rfl, lk, hcd⟩ := F.ex
  obtain ⟨fdB, FB, bB⟩ := can_build (P := P) (w := w) (base := base) T
  refine (StX.fn_starkw (ps := ["self"]) (pv := "values") (pd := "named") (sp := fun vs H Q E => ∃ (a tv nd : Addr), vs = [.ref a, .ref tv, .ref nd] ∧ H tv = some (.tup []) ∧ H nd = some (.dK []) ∧ spMake K [.ref a] H Q E) lk hcd sc_Kind_make StX.cxUp_none (fun us rest hl => match us, rest, hl with | [_], [], _ => rfl | [_], _ :: _, _ => rfl) (fun A outer s H vs Q E hr h => ?_)).imp fun vs H Q E h => ?_
  · obtain ⟨a0, tv, nd_, rfl, htv, hnd, a, md, lg, as, xi, ki, l, L, ev, W, hl, h0, hlen, hlg, hL, fin⟩ := h
    simp only [List.cons.injEq, V.ref.injEq, and_true] at ev
    subst ev
    refine ⟨_, pss_one (ps_ret (pe_meth (pv 0) T.cls T.m_build FB hr bB .nil pass0 (pa_cons (pv 1) (pa_cons (pv 2) pa_nil)))), ?_⟩
    have am : a0 ∈ l := List.mem_of_getElem? h0
    obtain ⟨dx, q, d, md', fs, h1, h2, _⟩ := id (W.kx a0 am)
    exact ⟨_, rfl, a0, dx, fs, rfl, del_ex _ _ h1, h2 _ (by simp [noKeys]), _, rfl, _, rfl, a0, tv, nd_, md, lg, as, xi, ki, l, L, rfl, W, hl, h0, hlen, htv, hnd, hlg, hL, fin⟩
  · obtain ⟨a, md, lg, as, xi, ki, l, L, rfl, W, hl, h0, hlen, hlg, hL, fin⟩ := h
    refine ⟨[.ref a], [], rfl, rfl, Nat.zero_le _, fun p d hp hd hne => ⟨a, p, d, rfl, by rw [upd_ne hne.symm, upd_same], upd_same, a, md, lg, as, xi, ki, l, L, rfl, ?_⟩⟩
    have e : Ex H (upd (upd H p (.tup [])) d (.dK [])) := ex_two hp hd hne
    exact ⟨W.ex (del_mono e), hl, h0, hlen, e _ _ hlg, hL, fun r H' hr rc f k => fin r H' (fresh_back e hr) rc (FrB.trans (ex_frb e) f) k⟩
end
end K17
end

section
set_option Elab.async false
set_option linter.all false
set_option maxRecDepth 100000
set_option maxHeartbeats 4000000
namespace K17
open PySem PySem.Spec PyProof.Rows L2 He Cn Evl KeL Erx MxI
section
variable {P : Program} {w : World} {K : PySem.W.Frag} {mg : Str → Option Value} {base : Heap}
/-- record.call("go", st) -/
def spCall (K : PySem.W.Frag) (n : Nat) : Sp := fun vs H Q E => ∃ (r k md lg : Addr) (as : List Addr) (xi : Xi) (ki : Ks_) (l : List Addr) (L : List V) (st : Int), vs = [.ref r, .str "go", .int st] ∧ RcAt K (del H lg) r k ∧ Wd K (del H lg) md lg as xi ki l 0 ∧ l = (xi k).line ∧ k ∈ l ∧ l.length ≤ n ∧
  H lg = some (.lst L) ∧ L.length + l.length ≤ 1000 ∧ MQ K H lg xi ki L l st Q E
theorem fnr_call (T : Txt K mg) (n : Nat) : FnR P w K mg base (L2.CX P w) (lvM n + 2) (ma K (kR K) "call") (spCall K n) := by
  obtain ⟨fd, F⟩ := T.F_Record_call
  obtain ⟨oc, od, kV, doc, pm, an, cdv, ct, osl, rfl, lk, hcd⟩ := F.ex
  have FC := fnr_callFrom (P := P) (w := w) (base := base) T n (fnr_meths T n)
  refine (StX.fn_star (ps := ["self", "name"]) (pv := "values") (sp := fun vs H Q E => ∃ (r tv : Addr) (st : Int), vs = [.ref r, .str "go", .ref tv] ∧ H tv = some (.tup [.int st]) ∧ spCall K n [.ref r, .str "go", .int st] H Q E) lk hcd sc_Record_call StX.cxUp (fun us rest hl => match us, rest, hl with | [_, _], [], _ => rfl | [_, _], _ :: _, _ => rfl) (fun A outer s H vs Q E hr h => ?_)).imp fun vs H Q E h => ?_
  · obtain ⟨r0, tv, st0, rfl, htv, r, k, md, lg, as, xi, ki, l, L, st, ev, hrc, W, hl, hkm, hlen, hlg, hL, hQ⟩ := h
    simp only [List.cons.injEq, V.ref.injEq, V.int.injEq, and_true, true_and] at ev
    obtain ⟨rfl, rfl⟩ := ev
    refine ⟨_, pss_one (ps_ret (SlX.pe_methSl (pv 0) T.rS T.rm__call_from FC hr (passes_call (takes_of rfl rfl rfl rfl) fun _ _ _ _ h => h) (pa_cons pe_int (pa_cons (pv 1) (pa_cons (pv 2) pa_nil))))), ?_⟩
    have d0 : Ex (del H lg) H := del_ex
    obtain ⟨dxr, vr, s1, s2⟩ := hrc.ex d0
    exact ⟨_, rfl, r0, dxr, vr, rfl, s1, _, rfl, _, rfl, r0, k, tv, md, lg, as, xi, ki, l, 0, L, st0, rfl, hrc, W, hl, hkm, Nat.zero_le _, by omega, st_of htv, hlg, by omega, hQ⟩
  · obtain ⟨r, k, md, lg, as, xi, ki, l, L, st, rfl, hrc, W, hl, hkm, hlen, hlg, hL, hQ⟩ := h
    refine ⟨[.ref r, .str "go"], [.int st], rfl, rfl, by show 1 ≤ sizeLine; decide, fun q hq => ⟨r, q, st, rfl, upd_same, r, k, md, lg, as, xi, ki, l, L, st, rfl, ?_⟩⟩
    have e := Ex.new (o := .tup [.int st]) hq
    have dd : Ex (del H lg) (del (upd H q (.tup [.int st])) lg) := del_mono e
    exact ⟨hrc.ex dd, W.ex dd, hl, hkm, hlen, e _ _ hlg, hL, hQ.ex e⟩
def spLost (K : PySem.W.Frag) : Sp := fun vs H Q _ => ∃ (r k md lg : Addr) (as : List Addr) (xi : Xi) (ki : Ks_) (l : List Addr) (L : List V), vs = [.ref r] ∧ RcAt K (del H lg) r k ∧ Wd K (del H lg) md lg as xi ki l 0 ∧ l = (xi k).line ∧ k ∈ l ∧ l.length ≤ 8 ∧
  H lg = some (.lst L) ∧ L.length + l.length ≤ 1000 ∧ goers xi l = [] ∧ ∀ H', Ex H H' → Q (.bl true) H'
theorem ev_notN' {σ : L2.St} {H : Hp} {te : TE} {x : V} (h : Ev te σ H x) : Ev (tNotN te) σ H (.bl (!decide (x = .non))) := fun H1 e Q q => h H1 e _ fun H2 e2 => q H2 e2
theorem can_lost (T : Txt K mg) : Can P w K mg base CX0 (lvM 8 + 3) "_law_is_lost" ["record"] (spLost K) := by
  have FA := fnr_call (P := P) (w := w) (base := base) T 8
  refine can_of T.g__law_is_lost T.F__law_is_lost (fun fd F => ?_) (fun _ _ _ _ _ _ us hl => match us, hl with | [_], _ => rfl)
  refine F.ok sc__law_is_lost (fun vs H Q E h => ?_) (fun cdv A outer s H vs Q E hr h => ?_)
  · obtain ⟨r, k, md, lg, as, xi, ki, l, L, rfl, _⟩ := h
    rfl
  · obtain ⟨r, k, md, lg, as, xi, ki, l, L, rfl, hrc, W, hl, hkm, hlen, hlg, hL, hno, fin⟩ := h
    have nd := sc__law_is_lost.nd
    refine ⟨_, pss_cons (ps_set (i := 1) nd rfl (.inl rfl) pe_non)
      (pss_try_track (i := 2) (X := (cxOf CX0 P w K mg base ["record", "error", "e"] "_law_is_lost" (defScope s__law_is_lost) (ga K "_law_is_lost") cdv A outer s H E).nox)
        rfl rfl nd rfl rfl ⟨rfl, by decide, .inl T.g_NoMethod⟩ LamX.takes0
        (fun W pn xe tk _ => pss_one (ps_expr (pe_methSlAt (pv 0) T.rS T.rm_call FA hr (fun σ => passAt tk σ) (pa_cons pe_str (pa_cons pe_int pa_nil)))))
        (fun a oe cls d pn hz hf => pss_one (ps_set (i := 1) nd rfl (.inl rfl) (pv 2)))
        (pss_one (ps_ret (pe_and (pe_cmp (pc_notN (pv 1))) (pe_one (pe_cmpR op_eq (pe_xfT T.xf_NoMethod T.ea_NoMethod (pv 1)) pe_str (nomark _)))))) rfl), ?_⟩
    have d0 : Ex (del H lg) H := del_ex
    refine q_asg (v := .non) ev_c fun H1 e1 => ?_
    have dd1 : Ex (del H lg) (del H1 lg) := del_mono e1
    obtain ⟨dxr, vr, s1, s2⟩ := hrc.ex (d0.trans e1)
    refine ⟨_, rfl, r, dxr, vr, rfl, s1, r, k, md, lg, as, xi, ki, l, L, 0, rfl, hrc.ex dd1, W.ex dd1, hl, hkm, hlen, e1 _ _ hlg, hL, fun _ dd H5 hdd e5 h5 => ?_, fun b' gs hgs => ?_⟩
    · refine ⟨true, T.exm_NoMethod_NoMethod, fun _ a ha => ⟨_, rfl, fun na => ?_⟩, fun q => by cases q⟩
      have e6 : Ex H5 (upd H5 a (CxO (.ref (kN K)) (some dd) a)) := Ex.new na
      have ha2 : upd H5 a (CxO (.ref (kN K)) (some dd) a) a = some (CxO (.ref (kN K)) (some dd) a) := upd_same
      generalize upd H5 a (CxO (.ref (kN K)) (some dd) a) = H6 at *
      have hx6 := e6 _ _ h5
      refine s_ret (v := .bl true) (ev_is (ev_andV (a := true) (b := true) (ev_notN' (x := .ref a) (ev_var rfl)) fun _ => ev_is (ev_op (x := .str "go") (y := .str "go") (fun H7 e7 Q' q' => ⟨_, rfl, a, dd, _, _, rfl, e7 _ _ ha2, e7 _ _ hx6, by simp [List.lookup], q' H7 (Ex.refl _)⟩) ev_c (rv_eq rfl)) (by simp)) rfl) fun H7 e7 => fin H7 (((e1.trans e5).trans e6).trans e7)
    · rw [hno] at hgs
      cases hgs
end
end K17
end

section
set_option Elab.async false
set_option linter.all false
set_option maxRecDepth 100000
set_option maxHeartbeats 4000000
namespace K17
open PySem PySem.Spec PyProof.Rows L2 He Cn Evl
/-! ### the law's own merge, over numbers -/
def nts (r : List Nat) : List V := r.map fun (n : Nat) => V.int (n : Int)
theorem nts_at {r : List Nat} {i : Nat} {x : V} (h : (nts r)[i]? = some x) : ∃ n, r[i]? = some n ∧ x = .int (n : Int) := by
  unfold nts at h
  rw [List.getElem?_map] at h
  cases e : r[i]? with
  | none => rw [e] at h; cases h
  | some q => rw [e] at h; exact ⟨q, rfl, (Option.some.inj h).symm⟩
theorem at_nts {r : List Nat} {i n : Nat} (h : r[i]? = some n) : (nts r)[i]? = some (.int (n : Int)) := by
  unfold nts
  rw [List.getElem?_map, h]
  rfl
theorem nts_len (r : List Nat) : (nts r).length = r.length := by unfold nts; rw [List.length_map]
theorem flat_nts (r : List Nat) : (nts r).all flatV = true := by
  rw [List.all_eq_true]
  intro x hx
  obtain ⟨n, _, rfl⟩ := List.mem_map.mp hx
  rfl
theorem inV_nts (n : Nat) (r : List Nat) : inV (.int (n : Int)) (nts r) = decide (n ∈ r) := by
  unfold inV nts
  rw [List.any_map]
  induction r with
  | nil => rfl
  | cons a r ih =>
    rw [List.any_cons, ih]
    have e : ((fun y => eqV y (V.int (n : Int))) ∘ fun n : Nat => V.int (n : Int)) a = decide (n = a) := by
      show eqV (V.int (a : Int)) (V.int (n : Int)) = _
      unfold eqV
      by_cases q : n = a
      · subst q; simp
      · have : ¬ (a : Int) = (n : Int) := by omega
        simp [q, this]
    rw [e]
    by_cases q : n = a <;> simp [q]
/-- a list of lists of numbers -/
def RwI (K : PySem.W.Frag) (G : Hp) (p : Addr) (rows : List (List Nat)) : Prop := ∃ prs : List (Addr × List Nat), SqL K G p (refs (prs.map Prod.fst)) ∧ rows = prs.map Prod.snd ∧ ∀ x, x ∈ prs → SqL K G x.1 (nts x.2)
theorem RwI.ex {K : PySem.W.Frag} {G H : Hp} {p : Addr} {rows : List (List Nat)} (e : Ex G H) (h : RwI K G p rows) : RwI K H p rows := by
  obtain ⟨prs, h1, h2, h3⟩ := h
  exact ⟨prs, ex_l e h1, h2, fun x hx => ex_l e (h3 x hx)⟩
theorem prs_at {prs : List (Addr × List Nat)} {i : Nat} {x : V} (h : (refs (prs.map Prod.fst))[i]? = some x) : ∃ pr, prs[i]? = some pr ∧ x = .ref pr.1 := by
  obtain ⟨q, hq, rfl⟩ := refs_at h
  rw [List.getElem?_map] at hq
  cases e : prs[i]? with
  | none => rw [e] at hq; cases hq
  | some pr => rw [e] at hq; obtain rfl := Option.some.inj hq; exact ⟨pr, rfl, rfl⟩
section
variable {P : Program} {w : World} {K : PySem.W.Frag} {mg : Str → Option Value} {base : Heap}
theorem heads_filter (prs : List (Addr × List Nat)) : (prs.filter fun x => !x.2.isEmpty).map (fun x => V.int ((x.2.headD 0 : Nat) : Int)) = nts (Mg.heads (prs.map Prod.snd)) := by
  induction prs with
  | nil => rfl
  | cons a r ih =>
    obtain ⟨p, l⟩ := a
    cases l with
    | nil => exact ih
    | cons h t =>
      show V.int (h : Int) :: (r.filter fun x => !x.2.isEmpty).map (fun x => V.int ((x.2.headD 0 : Nat) : Int)) = V.int (h : Int) :: nts (Mg.heads (r.map Prod.snd))
      rw [ih]
theorem ev_neNil {σ : L2.St} {H : Hp} {te : TE} {q : Addr} {xs : List V} (h : Ev te σ H (.ref q)) (hs : SqL K H q xs) : EvT (tTest (tOp (rEqE K true) te (tLst tNil))) σ H (!xs.isEmpty) :=
  et_test (ev_opL h (el_lst ea_nil (by decide)) fun p H1 hp e => rv_eqE (ex_l e hs) (sq_of hp))
theorem el_heads {σ : L2.St} {G H : Hp} {p : Addr} {rows : List (List Nat)} (eG : Ex G H) (R : RwI K G p rows) (hz : rows.length ≤ 40) (h2 : σ[2]? = some (some (.ref p))) (h9 : σ.length = 9) :
    EvL (tLc (iList K (tVar 2)) (gName 4) (tTest (tOp (rEqE K true) (tVar 4) (tLst tNil))) (tOp (rIxL K) (tVar 4) (tC (.int 0))) [4]) σ H (nts (Mg.heads rows)) := by
  obtain ⟨prs, hp, rfl, hrow⟩ := R
  have lr : (refs (prs.map Prod.fst)).length = prs.length := by unfold refs; rw [List.length_map, List.length_map]
  rw [List.length_map] at hz
  have h := el_lcK (K := K) wk_list (tl := tVar 2) (σ := σ) (H := H) (j := 4) (t := tTest (tOp (rEqE K true) (tVar 4) (tLst tNil))) (te := tOp (rIxL K) (tVar 4) (tC (.int 0))) (vs := [4]) (ev_var h2) (ex_l eG hp) (fun i => match prs[i]? with | some a => !a.2.isEmpty | none => false) (fun i => match prs[i]? with | some a => V.int ((a.2.headD 0 : Nat) : Int) | none => .non) (by omega)
    (fun x => by
      match σ, h9 with
      | [a, b, c, d, e, f, g, h, i], _ => rfl)
    (fun i x H1 e hx => by
      obtain ⟨pr, hpr, rfl⟩ := prs_at hx
      have hS := ex_l (eG.trans e) (hrow pr (List.mem_of_getElem? hpr))
      have := ev_neNil (K := K) (σ := (wipe σ [4]).set 4 (some (.ref pr.1))) (te := tVar 4) (ev_var (by
        match σ, h9 with
        | [a, b, c, d, e, f, g, h, i], _ => rfl)) hS
      refine et_is this ?_
      rw [hpr]
      obtain ⟨p1, l1⟩ := pr
      cases l1 <;> rfl)
    (fun i x H1 e hx hf => by
      obtain ⟨pr, hpr, rfl⟩ := prs_at hx
      have hS := ex_l (eG.trans e) (hrow pr (List.mem_of_getElem? hpr))
      rw [hpr] at hf
      have : (match prs[i]? with | some a => V.int ((a.2.headD 0 : Nat) : Int) | none => .non) = V.int ((pr.2.headD 0 : Nat) : Int) := by rw [hpr]
      rw [this]
      obtain ⟨p1, l1⟩ := pr
      cases l1 with
      | nil => cases hf
      | cons h0 t0 =>
        refine ev_op (ev_var ?_) ev_c (rv_ixL hS (at_of (j := 0) rfl rfl))
        match σ, h9 with
        | [a, b, c, d, e, f, g, h, i], _ => rfl)
  rw [lr, given_filter prs (fun x => !x.2.isEmpty) (fun x => V.int ((x.2.headD 0 : Nat) : Int)) _ _ (fun i x hx => by rw [hx]) (fun i x hx => by rw [hx]), heads_filter] at h
  exact h
/-- [row for row in rows if at in row[1:]] -/
theorem el_behind {σ : L2.St} {G H : Hp} {p : Addr} {rows : List (List Nat)} {n : Nat} (eG : Ex G H) (R : RwI K G p rows) (hz : rows.length ≤ 40) (hrl : ∀ r, r ∈ rows → r.length ≤ 1000) (h2 : σ[2]? = some (some (.ref p))) (h3 : σ[3]? = some (some (.int (n : Int)))) (h9 : σ.length = 9) :
    ∃ qs : List V, (qs.isEmpty = Mg.isFree rows n) ∧ EvL (tLc (iList K (tVar 2)) (gName 4) (tTest (tOp (rIn K false) (tVar 3) (tSl (rSlL K) (tVar 4) (tPart (tC (.int 1))) tNoPart))) (tVar 4) [4]) σ H qs := by
  obtain ⟨prs, hp, rfl, hrow⟩ := R
  have lr : (refs (prs.map Prod.fst)).length = prs.length := by unfold refs; rw [List.length_map, List.length_map]
  rw [List.length_map] at hz
  refine ⟨(prs.filter fun x => decide (n ∈ x.2.tail)).map (fun x => V.ref x.1), ?_, ?_⟩
  · unfold Mg.isFree
    rw [List.all_map]
    clear hp hrow lr hz hrl
    induction prs with
    | nil => rfl
    | cons a r ih =>
      by_cases q : n ∈ a.2.tail
      · simp [q]
      · simp only [List.filter_cons, q, decide_false, Bool.false_eq_true, if_false, List.all_cons, Function.comp, not_false_eq_true, decide_true, Bool.true_and]
        exact ih
  have h := el_lcK (K := K) wk_list (tl := tVar 2) (σ := σ) (H := H) (j := 4) (t := tTest (tOp (rIn K false) (tVar 3) (tSl (rSlL K) (tVar 4) (tPart (tC (.int 1))) tNoPart))) (te := tVar 4) (vs := [4]) (ev_var h2) (ex_l eG hp) (fun i => match prs[i]? with | some a => decide (n ∈ a.2.tail) | none => false) (fun i => match prs[i]? with | some a => V.ref a.1 | none => .non) (by omega)
    (fun x => by
      match σ, h9 with
      | [a, b, c, d, e, f, g, h, i], _ => rfl)
    (fun i x H1 e hx => by
      obtain ⟨pr, hpr, rfl⟩ := prs_at hx
      have hS := ex_l (eG.trans e) (hrow pr (List.mem_of_getElem? hpr))
      have hsl := el_sl (K := K) (te := tVar 4) (σ := (wipe σ [4]).set 4 (some (.ref pr.1))) (H := H1) (xs := nts pr.2) (tl := tPart (tC (.int 1))) (th := tNoPart) (lo := some 1) (hi := none) (a := pr.1) (ev_var (by
        match σ, h9 with
        | [a, b, c, d, e, f, g, h, i], _ => rfl)) (eo_some ev_c) eo_none hS
      have e1 : cutV (nts pr.2) (some 1) none = nts pr.2.tail := by
        cases hp2 : pr.2 with
        | nil => rfl
        | cons h t =>
          rw [show (some (1 : Int)) = some ((1 : Nat) : Int) from rfl, cut_drop (by rw [nts_len]; simp)]
          rfl
      rw [e1] at hsl
      have := ev_opL (r := rIn K false) (σ := (wipe σ [4]).set 4 (some (.ref pr.1))) (H := H1) (ta := tVar 3) (x := .int (n : Int)) (z := .bl (decide (n ∈ pr.2.tail))) (ev_var (by
        match σ, h9, h3 with
        | [a, b, c, d, e, f, g, h, i], _, h3 => exact h3)) hsl fun q H2 hq e2 => by
          have := rv_isL (K := K) (sq_of hq) (x := .int (n : Int)) rfl (flat_nts pr.2.tail)
          rw [inV_nts] at this
          exact this
      refine et_is (et_test this) ?_
      rw [hpr])
    (fun i x H1 e hx hf => by
      obtain ⟨pr, hpr, rfl⟩ := prs_at hx
      have : (match prs[i]? with | some a => V.ref a.1 | none => .non) = V.ref pr.1 := by rw [hpr]
      rw [this]
      refine ev_var ?_
      match σ, h9 with
      | [a, b, c, d, e, f, g, h, i], _ => rfl)
  rw [lr, given_filter prs (fun x => decide (n ∈ x.2.tail)) (fun x => V.ref x.1) _ _ (fun i x hx => by rw [hx]) (fun i x hx => by rw [hx])] at h
  exact h
theorem el_frees {σ : L2.St} {G H : Hp} {p ph : Addr} {rows : List (List Nat)} (eG : Ex G H) (R : RwI K G p rows) (hz : rows.length ≤ 40) (hrl : ∀ r, r ∈ rows → r.length ≤ 1000) (h2 : σ[2]? = some (some (.ref p))) (h7 : σ[7]? = some (some (.ref ph))) (hh : H ph = some (.lst (nts (Mg.heads rows)))) (h9 : σ.length = 9) :
    EvL (tLc (iList K (tVar 7)) (gName 3) (tTest (tOp (rEqE K false) (tLc (iList K (tVar 2)) (gName 4) (tTest (tOp (rIn K false) (tVar 3) (tSl (rSlL K) (tVar 4) (tPart (tC (.int 1))) tNoPart))) (tVar 4) [4]) (tLst tNil))) (tVar 3) [3]) σ H (nts (Mg.frees rows)) := by
  have lh : (Mg.heads rows).length ≤ 40 := by
    have : (Mg.heads rows).length ≤ rows.length := List.length_filterMap_le _ _
    omega
  have h := el_lcK (K := K) wk_list (tl := tVar 7) (σ := σ) (H := H) (j := 3) (t := tTest (tOp (rEqE K false) (tLc (iList K (tVar 2)) (gName 4) (tTest (tOp (rIn K false) (tVar 3) (tSl (rSlL K) (tVar 4) (tPart (tC (.int 1))) tNoPart))) (tVar 4) [4]) (tLst tNil))) (te := tVar 3) (vs := [3]) (ev_var h7) (sq_of hh) (fun i => match (Mg.heads rows)[i]? with | some a => Mg.isFree rows a | none => false) (fun i => match (Mg.heads rows)[i]? with | some a => V.int ((a : Nat) : Int) | none => .non) (by rw [nts_len]; omega)
    (fun x => by
      match σ, h9 with
      | [a, b, c, d, e, f, g, h, i], _ => rfl)
    (fun i x H1 e hx => by
      obtain ⟨n, hn, rfl⟩ := nts_at hx
      obtain ⟨qs, hq1, hq2⟩ := el_behind (K := K) (σ := (wipe σ [3]).set 3 (some (.int (n : Int)))) (n := n) (eG.trans e) R hz hrl (by
        match σ, h9, h2 with
        | [a, b, c, d, e, f, g, h, i], _, h2 => exact h2) (by
        match σ, h9 with
        | [a, b, c, d, e, f, g, h, i], _ => rfl) (by rw [List.length_set]; exact (wipe_length σ [3]).trans h9)
      refine et_is (et_test (ev_opLL hq2 (el_lst ea_nil (by decide)) fun p q H2 hp hq e2 => rv_eqE (neg := false) (sq_of hp) (sq_of hq))) ?_
      rw [hn]
      exact hq1)
    (fun i x H1 e hx hf => by
      obtain ⟨n, hn, rfl⟩ := nts_at hx
      have : (match (Mg.heads rows)[i]? with | some a => V.int ((a : Nat) : Int) | none => .non) = V.int (n : Int) := by rw [hn]
      rw [this]
      refine ev_var ?_
      match σ, h9 with
      | [a, b, c, d, e, f, g, h, i], _ => rfl)
  rw [nts_len, given_filter (Mg.heads rows) (Mg.isFree rows) (fun (a : Nat) => V.int (a : Int)) _ _ (fun i x hx => by rw [hx]) (fun i x hx => by rw [hx])] at h
  exact h
theorem dp_nts {H : Hp} : ∀ (r : List Nat), DpAll K H (nts r) (r.map fun (n : Nat) => PyData.int (n : Int))
  | [] => .nil
  | n :: r => .cons (.int _) (dp_nts r)
theorem rv_eq1 {H : Hp} {p q : Addr} {r : List Nat} {h : Nat} (hp : SqL K H p (nts (r.take 1))) (hq : SqL K H q (nts [h])) : RV (rEqD K) (.ref p) (.ref q) H (.bl (decide (r.take 1 = [h]))) := fun H1 e Q k => by
  refine ⟨.list ((r.take 1).map fun (n : Nat) => PyData.int (n : Int)), .list (([h] : List Nat).map fun (n : Nat) => PyData.int (n : Int)), .lst (ex_l e hp) (dp_nts _), .lst (ex_l e hq) (dp_nts _), ?_, ?_, ?_⟩
  · cases r with
    | nil => rfl
    | cons a l => rfl
  · rfl
  · have : PyData.eqv (.list ((r.take 1).map fun (n : Nat) => PyData.int (n : Int))) (.list (([h] : List Nat).map fun (n : Nat) => PyData.int (n : Int))) = decide (r.take 1 = [h]) := by
      cases r with
      | nil => rfl
      | cons a l =>
        show (((a : Int) == (h : Int)) && true) = decide ([a] = [h])
        by_cases q : a = h
        · subst q; simp
        · have : ¬ (a : Int) = (h : Int) := by omega
          simp [q, this]
    rw [this]
    exact k H1 (Ex.refl H1)
theorem cut_take1 (r : List Nat) : cutV (nts r) none (some 1) = nts (r.take 1) := by
  unfold cutV
  rw [HT.sIx_none, show (some (1 : Int)) = some ((1 : Nat) : Int) from rfl, HT.sIx_nat, List.drop_zero, nts_len]
  cases r with
  | nil => rfl
  | cons a l =>
    rw [show min 1 (a :: l).length - 0 = 1 by simp]
    rfl
theorem cut_tail (r : List Nat) : cutV (nts r) (some 1) none = nts r.tail := by
  cases r with
  | nil => rfl
  | cons h t =>
    rw [show (some (1 : Int)) = some ((1 : Nat) : Int) from rfl, cut_drop (by rw [nts_len]; simp)]
    rfl
def tPopRows (K : PySem.W.Frag) : TE := tLc (iList K (tVar 2)) (gName 4) tYes (tIf (tTest (tOp (rEqD K) (tSl (rSlL K) (tVar 4) tNoPart (tPart (tC (.int 1)))) (tSl (rSlL K) (tVar 8) tNoPart (tPart (tC (.int 1)))))) (tSl (rSlL K) (tVar 4) (tPart (tC (.int 1))) tNoPart) (tVar 4)) [4]
theorem er_pop {σ : L2.St} {G H : Hp} {p pf : Addr} {rows : List (List Nat)} {h : Nat} {t : List Nat} (eG : Ex G H) (R : RwI K G p rows) (hz : rows.length ≤ 40) (h2 : σ[2]? = some (some (.ref p))) (h8 : σ[8]? = some (some (.ref pf))) (hf : H pf = some (.lst (nts (h :: t)))) (h9 : σ.length = 9) :
    ∀ H1, Ex H H1 → ∀ Q : VK, (∀ p' H2, H1 p' = none → Ex H1 H2 → (∀ G', Ex G G' → (∀ b o, H1 b = none → H2 b = some o → G' b = some o) → RwI K G' p' (Mg.pop h rows)) → Q (.ref p') H2) → tPopRows K σ H1 Q := fun H1 e1 Q q => by
  obtain ⟨prs, hp, rfl, hrow⟩ := R
  rw [List.length_map] at hz
  refine ⟨_, h2, p, rfl, ⟨_, ex_l (eG.trans e1) hp⟩, fun D hD => ?_⟩
  refine lc_list (xs := refs (prs.map Prod.fst)) (fun i H' => Ex H1 H' ∧ ∃ qrs : List (Addr × List Nat), H' D = some (.lst (refs (qrs.map Prod.fst))) ∧ qrs.map Prod.snd = ((prs.take i).map Prod.snd).map (fun r => if r.take 1 = [h] then r.tail else r) ∧
    (∀ x, x ∈ qrs → (H1 x.1 = none ∧ x.1 ≠ D ∧ H' x.1 = some (.lst (nts x.2))) ∨ SqL K G x.1 (nts x.2))) ⟨Ex.new hD, [], upd_same, by simp, fun x hx => by cases hx⟩
    (fun i H' _ ⟨e2, _⟩ => ex_l ((eG.trans e1).trans e2) hp) ?_ ?_
  · rintro i x H2 hx ⟨e2, qrs, hD2, hsnd, hqs⟩
    obtain ⟨pr, hpr, rfl⟩ := prs_at hx
    have e12 := e1.trans e2
    have hS0 := hrow pr (List.mem_of_getElem? hpr)
    have hS := ex_l (eG.trans e12) hS0
    have hi := (List.getElem?_eq_some_iff.mp hpr).1
    have hlen : qrs.length = i := by
      have := congrArg List.length hsnd
      rw [List.length_map, List.length_map, List.length_map, List.length_take] at this
      omega
    generalize hσ : (wipe σ [4]).set 4 (some (.ref pr.1)) = σ2
    have v4 : σ2[4]? = some (some (.ref pr.1)) := by
      rw [← hσ]
      match σ, h9 with
      | [a, b, c, d, e, f, g, h, i], _ => rfl
    have v8 : σ2[8]? = some (some (.ref pf)) := by
      rw [← hσ]
      match σ, h9, h8 with
      | [a, b, c, d, e, f, g, h, i], _, h8 => exact h8
    have lenq : (refs (qrs.map Prod.fst)).length < 100000 := by unfold refs; rw [List.length_map, List.length_map]; omega
    refine ⟨?_, yes_then ?_⟩
    · match σ, h9 with
      | [a, b, c, d, e, f, g, h, i], _ => rfl
    show tIf _ _ _ ((wipe σ [4]).set 4 (some (.ref pr.1))) H2 _
    rw [hσ]
    have hcond : EvT (tTest (tOp (rEqD K) (tSl (rSlL K) (tVar 4) tNoPart (tPart (tC (.int 1)))) (tSl (rSlL K) (tVar 8) tNoPart (tPart (tC (.int 1)))))) σ2 H2 (decide (pr.2.take 1 = [h])) := by
      have s1 := el_sl (K := K) (te := tVar 4) (σ := σ2) (H := H2) (tl := tNoPart) (th := tPart (tC (.int 1))) (lo := none) (hi := some 1) (ev_var v4) eo_none (eo_some ev_c) hS
      have s2 := el_sl (K := K) (te := tVar 8) (σ := σ2) (H := H2) (tl := tNoPart) (th := tPart (tC (.int 1))) (lo := none) (hi := some 1) (ev_var v8) eo_none (eo_some ev_c) (sq_of (e12 _ _ hf))
      rw [cut_take1] at s1 s2
      exact et_test (ev_opLL s1 s2 fun p q H3 hp hq e => rv_eq1 (sq_of hp) (sq_of hq))
    refine hcond H2 (Ex.refl H2) _ fun H3 e3 => ?_
    have fin : ∀ (y : Addr) (r' : List Nat) (H4 : Hp), Ex H3 H4 → (if pr.2.take 1 = [h] then pr.2.tail else pr.2) = r' → ((H1 y = none ∧ y ≠ D ∧ H4 y = some (.lst (nts r'))) ∨ SqL K G y (nts r')) → ∃ acc, H4 D = some (.lst acc) ∧ acc.length < sizeLine ∧ Ex H1 (upd H4 D (.lst (acc ++ [.ref y]))) ∧ ∃ qrs : List (Addr × List Nat), upd H4 D (.lst (acc ++ [.ref y])) D = some (.lst (refs (qrs.map Prod.fst))) ∧
        qrs.map Prod.snd = ((prs.take (i + 1)).map Prod.snd).map (fun r => if r.take 1 = [h] then r.tail else r) ∧ (∀ x, x ∈ qrs → (H1 x.1 = none ∧ x.1 ≠ D ∧ upd H4 D (.lst (acc ++ [.ref y])) x.1 = some (.lst (nts x.2))) ∨ SqL K G x.1 (nts x.2)) := fun y r' H4 e4 er hy => by
      have e24 := e3.trans e4
      refine ⟨refs (qrs.map Prod.fst), e24 _ _ hD2, sz_lt lenq, Ex.mut (e2.trans e24) hD, qrs ++ [(y, r')], ?_, ?_, fun x hx => ?_⟩
      · rw [upd_same]
        unfold refs
        simp
      · rw [List.map_append, hsnd, List.take_add_one, hpr]
        simp [er]
      · rcases List.mem_append.mp hx with hx | hx
        · rcases hqs x hx with ⟨n1, n2, n3⟩ | n
          · exact .inl ⟨n1, n2, by rw [upd_ne n2]; exact e24 _ _ n3⟩
          · exact .inr n
        · obtain rfl := List.mem_singleton.mp hx
          rcases hy with ⟨n1, n2, n3⟩ | n
          · exact .inl ⟨n1, n2, by rw [upd_ne n2]; exact n3⟩
          · exact .inr n
    by_cases hc : pr.2.take 1 = [h]
    · rw [decide_eq_true hc]
      refine iteT ?_
      have s1 := el_sl (K := K) (te := tVar 4) (σ := σ2) (H := H3) (tl := tPart (tC (.int 1))) (th := tNoPart) (lo := some 1) (hi := none) (ev_var v4) (eo_some ev_c) eo_none (ex_l e3 hS)
      rw [cut_tail] at s1
      refine s1 H3 (Ex.refl H3) _ fun y H4 hy e4 h4 => ?_
      have hD3 := e3 _ _ hD2
      exact fin y pr.2.tail H4 e4 (if_pos hc) (.inl ⟨fresh_back (e2.trans e3) hy, (ne_of_none hD3 hy).symm, h4⟩)
    · rw [decide_eq_false hc]
      refine iteF ?_
      exact ⟨_, v4, fin pr.1 pr.2 H3 (Ex.refl H3) (if_neg hc) (.inr hS0)⟩
  · rintro H2 ⟨e2, qrs, hD2, hsnd, hqs⟩
    have ll : (refs (prs.map Prod.fst)).length = prs.length := by unfold refs; rw [List.length_map, List.length_map]
    rw [ll, List.take_length] at hsnd
    refine q D H2 hD e2 fun G' eg hn => ⟨qrs, sq_of (hn _ _ hD hD2), hsnd.symm, fun x hx => ?_⟩
    rcases hqs x hx with ⟨n1, n2, n3⟩ | n
    · exact sq_of (hn _ _ n1 n3)
    · exact ex_l eg n
end
end K17
end

section
set_option Elab.async false
set_option linter.all false
set_option maxRecDepth 100000
set_option maxHeartbeats 4000000
namespace K17
open PySem PySem.Spec PyProof.Rows L2 He Cn Evl
/-! ### plans and their lines -/
def rowsOf (ls : List (List Nat)) (as : List Nat) : List (List Nat) := as.map (fun x => ls.getD x []) ++ [as]
structure OkAt (ab ls : List (List Nat)) (i : Nat) (as l : List Nat) : Prop where
  a : ab[i]? = some as
  s : ls[i]? = some (i :: l)
  lt : ∀ x, x ∈ as → x < i
  nd : as.Nodup
  len : as.length ≤ 4
  mg : Mg.merge 20 (rowsOf ls as) = some l
def GoodUp (ab ls : List (List Nat)) (n : Nat) : Prop := n ≤ 10 ∧ ∀ i, i < n → ∃ as l, OkAt ab ls i as l
theorem rows_mem {ls : List (List Nat)} {as : List Nat} {r : List Nat} (h : r ∈ rowsOf ls as) : r = as ∨ ∃ x, x ∈ as ∧ r = ls.getD x [] := by
  unfold rowsOf at h
  rcases List.mem_append.mp h with h | h
  · obtain ⟨x, hx, rfl⟩ := List.mem_map.mp h
    exact .inr ⟨x, hx, rfl⟩
  · exact .inl (List.mem_singleton.mp h)
theorem getD_of {ls : List (List Nat)} {x : Nat} {r : List Nat} (h : ls[x]? = some r) : ls.getD x [] = r := by
  rw [List.getD_eq_getElem?_getD, h]
  rfl
theorem good_mem {ab ls : List (List Nat)} {n : Nat} (g : GoodUp ab ls n) : ∀ i, i < n → ∀ r, ls[i]? = some r → r.Nodup ∧ ∀ y, y ∈ r → y ≤ i := by
  intro i
  induction i using Nat.strongRecOn with
  | _ i ih =>
    intro hi r hr
    obtain ⟨as, l, O⟩ := g.2 i hi
    obtain rfl : r = i :: l := Option.some.inj (hr.symm.trans O.s)
    obtain ⟨n1, n2⟩ := Mg.merge_nodup 20 _ _ O.mg
    have hl : ∀ y, y ∈ l → y < i := fun y hy => by
      obtain ⟨row, hrow, hyr⟩ := (n2 y).mp hy
      rcases rows_mem hrow with q | ⟨x, hx, q⟩
      · subst q
        exact O.lt y hyr
      · have hxi := O.lt x hx
        obtain ⟨as', l', O'⟩ := g.2 x (by omega)
        rw [q, getD_of O'.s] at hyr
        have := (ih x hxi (by omega) _ O'.s).2 y hyr
        omega
    refine ⟨List.nodup_cons.mpr ⟨fun q => Nat.lt_irrefl i (hl i q), n1⟩, fun y hy => ?_⟩
    rcases List.mem_cons.mp hy with q | q
    · omega
    · exact Nat.le_of_lt (hl y q)
theorem rows_ok {ab ls : List (List Nat)} {n : Nat} (g : GoodUp ab ls n) {as : List Nat} (lt : ∀ x, x ∈ as → x < n) (nd : as.Nodup) : Mg.Nd (rowsOf ls as) ∧ Mg.Within (List.range n) (rowsOf ls as) := by
  refine ⟨fun r hr => ?_, fun r hr y hy => ?_⟩
  · rcases rows_mem hr with q | ⟨x, hx, q⟩
    · rw [q]; exact nd
    · obtain ⟨as', l', O'⟩ := g.2 x (lt x hx)
      rw [q, getD_of O'.s]
      exact (good_mem g x (lt x hx) _ O'.s).1
  · rcases rows_mem hr with q | ⟨x, hx, q⟩
    · rw [q] at hy
      exact List.mem_range.mpr (lt y hy)
    · obtain ⟨as', l', O'⟩ := g.2 x (lt x hx)
      rw [q, getD_of O'.s] at hy
      have := (good_mem g x (lt x hx) _ O'.s).2 y hy
      have := lt x hx
      exact List.mem_range.mpr (by omega)
theorem cnt_rows {n : Nat} {rows : List (List Nat)} : Mg.cnt (List.range n) rows ≤ n := by
  have := Mg.cnt_le (List.range n) rows
  rw [List.length_range] at this
  exact this
theorem merge_fuel {ab ls : List (List Nat)} {n : Nat} (g : GoodUp ab ls n) {as : List Nat} (lt : ∀ x, x ∈ as → x < n) (nd : as.Nodup) {T : Nat} (hT : n < T) : Mg.merge T (rowsOf ls as) = Mg.merge 20 (rowsOf ls as) := by
  have h := (rows_ok g lt nd).2
  have c := cnt_rows (n := n) (rows := rowsOf ls as)
  have := g.1
  exact Mg.merge_more T 20 _ h (by omega) (by omega)
section
variable {P : Program} {w : World} {K : PySem.W.Frag} {mg : Str → Option Value} {base : Heap}
/-- the plans in the heap: of each the list of those above it -/
def PlAt (H : Hp) (p : Addr) (ab : List (List Nat)) : Prop := ∃ ds : List Addr, H p = some (.lst (refs ds)) ∧ ds.length = ab.length ∧ ∀ (i : Nat) (d : Addr) (as : List Nat), ds[i]? = some d → ab[i]? = some as →
  ∃ (kvs : List (L2.Key × V)) (la : Addr), H d = some (.dK kvs) ∧ valV kvs (.inr ("above" : Str)) = some (.ref la) ∧ H la = some (.lst (nts as))
theorem PlAt.ex {H H' : Hp} {p : Addr} {ab : List (List Nat)} (e : Ex H H') (h : PlAt H p ab) : PlAt H' p ab := by
  obtain ⟨ds, h1, h2, h3⟩ := h
  refine ⟨ds, e _ _ h1, h2, fun i d as a b => ?_⟩
  obtain ⟨kvs, la, q1, q2, q3⟩ := h3 i d as a b
  exact ⟨kvs, la, e _ _ q1, q2, e _ _ q3⟩
/-- plans[n]['above'] -/
theorem ev_above {σ : L2.St} {H : Hp} {p : Addr} {ab : List (List Nat)} {n : Nat} {as : List Nat} {tp tn : TE} (h : PlAt H p ab) (ha : ab[n]? = some as) (hp : Ev tp σ H (.ref p)) (hn : Ev tn σ H (.int (n : Int))) :
    ∃ la, H la = some (.lst (nts as)) ∧ Ev (tDGet (tOp (rIxL K) tp tn) (tC (.str "above"))) σ H (.ref la) := by
  obtain ⟨ds, h1, h2, h3⟩ := h
  obtain ⟨d, hd⟩ := at_some (l := ds) (i := n) (by have := (List.getElem?_eq_some_iff.mp ha).1; omega)
  obtain ⟨kvs, la, q1, q2, q3⟩ := h3 n d as hd ha
  exact ⟨la, q3, ev_dget (k := .inr "above") (ev_op hp hn (rv_ixL (sq_of h1) (at_of rfl (at_refs hd)))) ev_c q1 q2⟩
def spLine (N : Nat) : Sp := fun vs H Q _ => ∃ (p : Addr) (n : Nat) (ab ls : List (List Nat)) (as : List Nat), vs = [.ref p, .int (n : Int)] ∧ n ≤ N ∧ PlAt H p ab ∧ GoodUp ab ls n ∧ ab[n]? = some as ∧ (∀ x, x ∈ as → x < n) ∧ as.Nodup ∧ as.length ≤ 4 ∧ ab.length ≤ 11 ∧
  (Mg.merge 20 (rowsOf ls as) = none → ∀ H', Ex H H' → Q .non H') ∧ (∀ l, Mg.merge 20 (rowsOf ls as) = some l → ∀ q H', H q = none → Ex H H' → H' q = some (.lst (nts (n :: l))) → Q (.ref q) H')
/-- the scope of the comprehension of free ones -/
def scL1 : Scope := { kind := .function, names := [(".0", .local), ("at", .cell), ("rows", .cell)], isGenerator := false, isCoroutine := false }
/-- one turn of the merge -/
def tMerge (K : PySem.W.Frag) : TS := (tSeq (tAsg (tLc (iList K (tVar 2)) (gName 4) (tTest (tOp (rEqE K true) (tVar 4) (tLst tNil))) (tOp (rIxL K) (tVar 4) (tC (.int 0))) [4]) (gName 7)) (tSeq (tAsg (tLc (iList K (tVar 7)) (gName 3) (tTest (tOp (rEqE K false) (tLc (iList K (tVar 2)) (gName 4) (tTest (tOp (rIn K false) (tVar 3) (tSl (rSlL K) (tVar 4) (tPart (tC (.int 1))) tNoPart))) (tVar 4) [4]) (tLst tNil))) (tVar 3) [3]) (gName 8)) (tSeq (tIfS (tTest (tOp (rEqE K false) (tVar 7) (tLst tNil))) (tRet (tVar 5)) tNext) (tSeq (tIfS (tTest (tOp (rEqE K false) (tVar 8) (tLst tNil))) (tRet (tC .non)) tNext)
    (tSeq (tDrop (tBM K "list" rAppend (tVar 5) (tCons (tOp (rIxL K) (tVar 8) (tC (.int 0))) tNil))) (tAsg (tPopRows K) (gName 2)))))))
def tLine (K : PySem.W.Frag) (te : TE) : TS := tSeq (tAsg (tLst tNil) (gName 2)) (tSeq (tFor (iList K (tDGet (tOp (rIxL K) (tVar 0) (tVar 1)) (tC (.str "above")))) (gName 3) (tSeq (tAsg te (gName 4)) (tSeq (tIfS (tB (tIsN (tVar 4))) (tRet (tC .non)) tNext) (tDrop (tBM K "list" rAppend (tVar 2) (tCons (tVar 4) tNil))))))
    (tSeq (tDrop (tBM K "list" rAppend (tVar 2) (tCons (tDGet (tOp (rIxL K) (tVar 0) (tVar 1)) (tC (.str "above"))) tNil))) (tSeq (tAsg (tLst (tCons (tVar 1) tNil)) (gName 5)) (tSeq (tFor (iRng1 (tCons (tCB (rLenS K) (tCons (tVar 0) tNil)) tNil)) (gName 6) (tMerge K)) (tRet (tVar 5))))))
/-- the merge's turns, from rows in a part G of the heap that does not hold the list found -/
theorem rd_merge {D : Ends} {H0 : Hp} {p pf : Addr} {n T : Nat} {rows0 : List (List Nat)} {v6 : Option V} {pr : Addr} {G H : Hp} {va v3 v4 : Option V} (hT : T ≤ 20) (e0 : Ex H0 H) (hf0 : H0 pf = none) (eG : Ex G H) (hGf : G pf = none) (R : RwI K G pr rows0) (hf : H pf = some (.lst (nts [n]))) (nd0 : Mg.Nd rows0) (hz : rows0.length ≤ 40) (hrl : ∀ r, r ∈ rows0 → r.length ≤ 1000)
    (v : L2.St) (hv : v = [va, some (.int (n : Int)), some (.ref pr), v3, v4, some (.ref pf), none, none, none])
    (cs : List Nat) (hw : Mg.Within cs rows0) (hc : Mg.cnt cs rows0 < T) (hlen : va = some (.ref p)) (hpl : ∃ xs, H p = some (.lst xs) ∧ xs.length = T ∧ G p = some (.lst xs))
    (kn : Mg.merge T rows0 = none → ∀ H', Ex H0 H' → D.rt .non H') (ks : ∀ l, Mg.merge T rows0 = some l → ∀ H', Ex H0 H' → H' pf = some (.lst (nts (n :: l))) → D.rt (.ref pf) H') :
    tSeq (tFor (iRng1 (tCons (tCB (rLenS K) (tCons (tVar 0) tNil)) tNil)) (gName 6) (tMerge K)) (tRet (tVar 5)) D v H := by
  subst hv hlen
  obtain ⟨xs, hx, hxl, hxG⟩ := hpl
  refine q_forR1 (n := (T : Int)) (ea_cons (ev_is (ev_len (ev_var rfl) (sq_of hx)) (by rw [hxl])) ea_nil) ⟨by omega, by omega⟩
    (fun i σ H' => ∃ (rows : List (List Nat)) (acc : List Nat) (pr : Addr) (G : Hp) (w3 w4 w6 w7 w8 : Option V), σ = [some (.ref p), some (.int (n : Int)), some (.ref pr), w3, w4, some (.ref pf), w6, w7, w8] ∧ Ex H0 H' ∧ Ex G H' ∧ G pf = none ∧ RwI K G pr rows ∧ H' pf = some (.lst (nts (n :: acc))) ∧ Mg.Nd rows ∧ rows.length ≤ 40 ∧ (∀ r, r ∈ rows → r.length ≤ 1000) ∧
      Mg.Within cs rows ∧ Mg.cnt cs rows < T - i ∧ acc.length ≤ i ∧ Mg.merge T rows0 = (Mg.merge (T - i) rows).map (acc ++ ·)) ?_ ?_ ?_
  · intro H1 e1
    exact ⟨rows0, [], pr, G, _, _, _, _, _, rfl, e0.trans e1, eG.trans e1, hGf, R, e1 _ _ hf, nd0, hz, hrl, hw, by omega, Nat.zero_le _, by simp⟩
  · rintro i σ H' hi ⟨rows, acc, pr, G, w3, w4, w6, w7, w8, rfl, e1, eG, hGf, R, hf, nd, hz, hrl, hw, hc, ha, hm⟩
    obtain ⟨T', hT'⟩ : ∃ T', T - i = T' + 1 := ⟨T - i - 1, by omega⟩
    rw [hT'] at hc hm
    refine q_asgL (el_heads eG R hz rfl rfl) fun ph H1 hph e2 h1 => ?_
    refine q_asgL (el_frees (eG.trans e2) R hz hrl rfl rfl h1 rfl) fun pq H2 hpq e3 h2 => ?_
    have e12 := e2.trans e3
    refine q_when (et_test (ev_opL (ev_var rfl) (el_lst ea_nil (by decide)) fun q H3 hq e => rv_eqE (neg := false) (sq_of (e _ _ (e3 _ _ h1))) (sq_of hq))) (fun hb H3 e4 => ?_) (fun hb H3 e4 => ?_)
    · have hh : Mg.heads rows = [] := by
        cases q : Mg.heads rows with
        | nil => rfl
        | cons a l => rw [q] at hb; cases hb
      have em : Mg.merge (T' + 1) rows = some [] := by
        show (if Mg.heads rows = [] then some [] else _) = _
        rw [if_pos hh]
      rw [em] at hm
      exact s_ret (ev_var rfl) fun H4 e5 => ks acc (by rw [hm]; simp) H4 ((e1.trans e12).trans (e4.trans e5)) ((e12.trans (e4.trans e5)) _ _ hf)
    have hh : Mg.heads rows ≠ [] := fun q => by rw [q] at hb; cases hb
    refine q_when (et_test (ev_opL (ev_var rfl) (el_lst ea_nil (by decide)) fun q H3 hq e => rv_eqE (neg := false) (sq_of (e _ _ (e4 _ _ h2))) (sq_of hq))) (fun hb H4 e5 => ?_) (fun hb H4 e5 => ?_)
    · have hf0 : Mg.frees rows = [] := by
        cases q : Mg.frees rows with
        | nil => rfl
        | cons a l => rw [q] at hb; cases hb
      rw [Mg.merge_stuck hh hf0] at hm
      exact s_ret ev_c fun H5 e6 => kn (by rw [hm]; rfl) H5 ((e1.trans e12).trans (e4.trans (e5.trans e6)))
    obtain ⟨h, tl, htl⟩ : ∃ h tl, Mg.frees rows = h :: tl := by
      cases q : Mg.frees rows with
      | nil => rw [q] at hb; cases hb
      | cons a l => exact ⟨a, l, rfl⟩
    rw [htl] at h2
    have e14 := e12.trans (e4.trans e5)
    have h24 := (e4.trans e5) _ _ h2
    refine q_app (v := .int (h : Int)) (e14 _ _ hf) (ev_var rfl) (ev_op (ev_var rfl) ev_c (rv_ixL (sq_of h24) (at_of (j := 0) rfl rfl))) (by rw [nts_len, List.length_cons]; omega) fun H5 e6 => ?_
    have e16 := e14.trans e6
    have hG5 : Ex G (upd H5 pf (.lst (nts (n :: acc) ++ [.int (h : Int)]))) := Ex.mut (eG.trans e16) hGf
    have e05 : Ex H0 (upd H5 pf (.lst (nts (n :: acc) ++ [.int (h : Int)]))) := Ex.mut (e1.trans e16) hf0
    have hpqf : pq ≠ pf := (ne_of_none (e2 _ _ hf) hpq).symm
    have h25 : upd H5 pf (.lst (nts (n :: acc) ++ [.int (h : Int)])) pq = some (.lst (nts (h :: tl))) := by rw [upd_ne hpqf]; exact e6 _ _ h24
    refine er_pop hG5 R hz rfl rfl h25 rfl _ (Ex.refl _) _ fun p' H6 hp' e7 R' => ?_
    have hfr := Mg.frees_head htl
    have epop := Mg.pop_drop nd hfr.2
    rw [epop] at R'
    have hstep : Mg.merge (T' + 1) rows = (Mg.merge T' (Mg.drop h rows)).map (h :: ·) := by
      rw [Mg.merge_step htl]
      show (Mg.merge T' (Mg.full (Mg.drop h rows))).map (h :: ·) = _
      rw [Mg.merge_full]
    have hcd := Mg.cnt_drop hw hfr.1
    refine ⟨Mg.drop h rows, acc ++ [h], p', del H6 pf, _, _, _, _, _, rfl, e05.trans e7, del_ex, del_same, R' _ (fun b o q => ?_) (fun b o q q2 => ?_), e7 _ _ (by rw [upd_same]; unfold nts; simp), Mg.nd_drop nd h, ?_, fun r hr => ?_, Mg.within_drop hw h, by omega, by rw [List.length_append]; simp; omega, ?_⟩
    · have hb : b ≠ pf := fun z => by rw [z, hGf] at q; cases q
      rw [del_ne hb]
      exact e7 _ _ (hG5 _ _ q)
    · have hb : b ≠ pf := fun z => by rw [z, upd_same] at q; cases q
      rw [del_ne hb]
      exact q2
    · unfold Mg.drop
      rw [List.length_map]
      exact hz
    · obtain ⟨r', hr', rfl⟩ := List.mem_map.mp hr
      exact Nat.le_trans (List.length_filter_le _ _) (hrl r' hr')
    · rw [hm, hstep, show T - (i + 1) = T' by omega]
      cases Mg.merge T' (Mg.drop h rows) <;> simp
  · rintro σ H' ⟨rows, acc, pr, G, w3, w4, w6, w7, w8, rfl, e1, eG, hGf, R, hf, nd, hz, hrl, hw, hc, ha, hm⟩
    have := Int.toNat_natCast T
    omega
end
end K17
end

section
set_option Elab.async false
set_option linter.all false
set_option maxRecDepth 100000
set_option maxHeartbeats 4000000
namespace K17
open PySem PySem.Spec PyProof.Rows L2 He Cn Evl
section
variable {P : Program} {w : World} {K : PySem.W.Frag} {mg : Str → Option Value} {base : Heap}
theorem rd_line {te : TE} {D : Ends} {H : Hp} {p n : Nat} {ab ls : List (List Nat)} {as : List Nat} (hPl : PlAt H p ab) (g : GoodUp ab ls n) (ha : ab[n]? = some as) (lt : ∀ x, x ∈ as → x < n) (ndas : as.Nodup) (hl4 : as.length ≤ 4) (hab : ab.length ≤ 11)
    (hte : ∀ (σ : L2.St) (H1 : Hp) (x : Nat), x ∈ as → Ex H H1 → σ[0]? = some (some (.ref p)) → σ[3]? = some (some (.int (x : Int))) → EvL te σ H1 (nts (ls.getD x [])))
    (kn : Mg.merge 20 (rowsOf ls as) = none → ∀ H', Ex H H' → D.rt .non H') (ks : ∀ l, Mg.merge 20 (rowsOf ls as) = some l → ∀ q H', H q = none → Ex H H' → H' q = some (.lst (nts (n :: l))) → D.rt (.ref q) H') :
    tLine K te D [some (.ref p), some (.int (n : Int)), none, none, none, none, none, none, none] H := by
  have hnT : n < ab.length := (List.getElem?_eq_some_iff.mp ha).1
  have hrows := rows_ok g lt ndas
  have hrlen : ∀ r, r ∈ rowsOf ls as → r.length ≤ 1000 := fun r hr => by
    have := nodup_len r (List.range n) (hrows.1 r hr) (hrows.2 r hr)
    rw [List.length_range] at this
    omega
  have hzr : (rowsOf ls as).length ≤ 40 := by
    unfold rowsOf
    rw [List.length_append, List.length_map]
    simp
    omega
  refine q_asgL (el_lst ea_nil (by decide)) fun pr H1 hpr e1 h1 => ?_
  have abv : ∀ (w3 w4 : Option V), ∃ la, H la = some (.lst (nts as)) ∧ Ev (tDGet (tOp (rIxL K) (tVar 0) (tVar 1)) (tC (.str "above"))) [some (.ref p), some (.int (n : Int)), some (.ref pr), w3, w4, none, none, none, none] H (.ref la) := fun w3 w4 => ev_above hPl ha (ev_var rfl) (ev_var rfl)
  obtain ⟨la, hla, hev⟩ := abv none none
  refine q_forLn (xs := nts as) (hev.mono e1) (sq_of (e1 _ _ hla)) (fun i σ H' => ∃ (w3 w4 : Option V) (prs : List (Addr × List Nat)), σ = [some (.ref p), some (.int (n : Int)), some (.ref pr), w3, w4, none, none, none, none] ∧ Ex H H' ∧ H' pr = some (.lst (refs (prs.map Prod.fst))) ∧ prs.map Prod.snd = (as.take i).map (fun x => ls.getD x []) ∧
    ∀ x, x ∈ prs → x.1 ≠ pr ∧ H' x.1 = some (.lst (nts x.2))) ?_ ?_ ?_ ?_
  · intro H2 e2
    exact ⟨none, none, [], rfl, e1.trans e2, e2 _ _ h1, by simp, fun x hx => by cases hx⟩
  · rintro i σ H' _ ⟨w3, w4, prs, _, e, _⟩
    exact sq_of (e _ _ hla)
  · rintro i x σ H' hx ⟨w3, w4, prs, rfl, e, hp, hsnd, hrow⟩
    obtain ⟨m, hm, rfl⟩ := nts_at hx
    have hi := (List.getElem?_eq_some_iff.mp hm).1
    have hlen : prs.length = i := by
      have := congrArg List.length hsnd
      rw [List.length_map, List.length_map, List.length_take] at this
      omega
    refine q_asgL (hte _ H' m (List.mem_of_getElem? hm) e rfl rfl) fun pw H2 hpw e2 h2 => ?_
    refine q_when (b := false) (et_is (et_isN (x := .ref pw) (ev_var rfl)) rfl) (fun h => by cases h) fun _ H3 e3 => ?_
    have e23 := e2.trans e3
    have hpwr : pw ≠ pr := (ne_of_none hp hpw).symm
    refine s_app (e23 _ _ hp) (ev_var rfl) (v := .ref pw) (ev_var rfl) (by unfold refs; rw [List.length_map, List.length_map]; omega) fun H4 e4 => ?_
    refine ⟨_, _, prs ++ [(pw, ls.getD m [])], rfl, Ex.mut ((e.trans e23).trans e4) hpr, by rw [upd_same]; unfold refs; simp, ?_, fun x hx => ?_⟩
    · rw [List.map_append, hsnd, List.take_add_one, hm]
      simp
    · rcases List.mem_append.mp hx with hx | hx
      · obtain ⟨q1, q2⟩ := hrow x hx
        exact ⟨q1, by rw [upd_ne q1]; exact e4 _ _ (e23 _ _ q2)⟩
      · obtain rfl := List.mem_singleton.mp hx
        exact ⟨hpwr, by rw [upd_ne hpwr]; exact e4 _ _ (e3 _ _ h2)⟩
  · rintro σ H' ⟨w3, w4, prs, rfl, e, hp, hsnd, hrow⟩
    have hsnd : prs.map Prod.snd = as.map (fun x => ls.getD x []) := by
      rw [hsnd, nts_len, List.take_length]
    have hlen : prs.length = as.length := by
      have := congrArg List.length hsnd
      rw [List.length_map, List.length_map] at this
      exact this
    obtain ⟨la2, hla2, hev2⟩ := abv w3 w4
    have hlpr : la2 ≠ pr := ne_of_none hla2 hpr
    refine q_app hp (ev_var rfl) (v := .ref la2) (hev2.mono e) (by unfold refs; rw [List.length_map, List.length_map]; omega) fun H2 e2 => ?_
    have eH : Ex H (upd H2 pr (.lst (refs (prs.map Prod.fst) ++ [.ref la2]))) := Ex.mut (e.trans e2) hpr
    generalize hH5 : upd H2 pr (.lst (refs (prs.map Prod.fst) ++ [.ref la2])) = H5 at *
    have R : RwI K H5 pr (rowsOf ls as) := by
      refine ⟨prs ++ [(la2, as)], sq_of (by rw [← hH5, upd_same]; unfold refs; simp), ?_, fun x hx => ?_⟩
      · rw [List.map_append, hsnd]
        rfl
      · rcases List.mem_append.mp hx with hx | hx
        · obtain ⟨q1, q2⟩ := hrow x hx
          exact sq_of (by rw [← hH5, upd_ne q1]; exact e2 _ _ q2)
        · obtain rfl := List.mem_singleton.mp hx
          exact sq_of (eH _ _ hla2)
    refine q_asgL (xs := nts [n]) (el_lst (ea_cons (ev_var rfl) ea_nil) (by show 1 ≤ 100000; decide)) fun pf H6 hpf e6 h6 => ?_
    obtain ⟨ds, hds, hdl, _⟩ := id hPl
    have hpfH : H pf = none := fresh_back eH hpf
    have fuel := merge_fuel g lt ndas (T := ab.length) hnT
    refine rd_merge (v6 := none) (T := ab.length) (H0 := H) (p := p) (pf := pf) (G := H5) (by omega) (eH.trans e6) hpfH e6 hpf R h6 hrows.1 hzr hrlen _ rfl (List.range n) hrows.2 (by have := cnt_rows (n := n) (rows := rowsOf ls as); omega) rfl ⟨refs ds, (eH.trans e6) _ _ hds, by unfold refs; rw [List.length_map]; exact hdl, eH _ _ hds⟩ ?_ ?_
    · intro hn H7 e7
      rw [fuel] at hn
      exact kn hn H7 e7
    · intro l hl H7 e7 h7
      rw [fuel] at hl
      exact ks l hl pf H7 hpfH e7 h7
theorem can_line (T : Txt K mg) : ∀ N : Nat, N ≤ 10 → Can P w K mg base CX0 (N + 1) "_law_line" ["plans", "n"] (spLine N) := by
  intro N
  induction N with
  | zero =>
    intro _
    refine can_of T.g__law_line T.F__law_line (fun fd F => ?_) (fun _ _ _ _ _ _ us hl => match us, hl with | [_, _], _ => rfl)
    refine F.ok sc__law_line (fun vs H Q E h => ?_) (fun cdv A outer s H vs Q E hr h => ?_)
    · obtain ⟨p, n, ab, ls, as, rfl, _⟩ := h
      rfl
    · have nd := sc__law_line.nd
      have hu := hu_of hr
      refine ⟨_, pss_cons (ps_set (i := 2) nd rfl (.inr rfl) (pe_lst pa_nil))
      (pss_cons (ps_for PassesOwn.never rfl (pi_list (pe_dget hu (pe_ix ix_list (pv 0) (pv 1) (fun _ _ => rfl)) pe_str (fun _ _ => rfl))) (pg_name (i := 3) nd rfl (.inl rfl))
        (pss_cons (ps_set (i := 4) nd rfl (.inl rfl) pe_never)
        (pss_cons (ps_if (pt_cmp (pc_isN (pv 4))) (pss_one (ps_ret pe_non)) pss_nil)
        (pss_one (ps_expr (pe_bm PySem.F.plainAttrs_list PySem.F.slot_list_append PySem.F.type_list_append mt_append (pv 2) (pa_cons (pv 4) pa_nil)))))))
      (pss_cons (ps_expr (pe_bm PySem.F.plainAttrs_list PySem.F.slot_list_append PySem.F.type_list_append mt_append (pv 2) (pa_cons (pe_dget hu (pe_ix ix_list (pv 0) (pv 1) (fun _ _ => rfl)) pe_str (fun _ _ => rfl)) pa_nil)))
      (pss_cons (ps_set (i := 5) nd rfl (.inl rfl) (pe_lst (pa_cons (pv 1) pa_nil)))
      (pss_cons (ps_for PassesOwn.never rfl (pi_range1 rfl T.n_range (pa_cons (pe_callB call_len_seq (by rfl) T.n_len PySem.boot_len (pa_cons (pv 0) pa_nil)) pa_nil)) (pg_name (i := 6) nd rfl (.inl rfl))
        (pss_cons (ps_setLc (i := 7) (own := [("row", 4)]) (wi := iList K (tVar 2)) (g := gName 4) (tt := tTest (tOp (rEqE K true) (tVar 4) (tLst tNil))) (te := tOp (rIxL K) (tVar 4) (tC (.int 0))) rfl nd rfl rfl (sw_true rfl rfl rfl (by decide +kernel)) (pi_list (pv 2)) (blkOk_by (N := ["plans", "n", "rows", "at", "row", "found", "turn", "heads", "free"]) (sc := defScope s__law_line) (by decide +kernel)) (fun _ _ _ _ _ => pg_name (i := 4) nd rfl (.inl rfl)) (fun _ _ _ _ _ => pts_one (pt_cmpR (op_ne_nil hr) (pv 4) (pe_lst pa_nil) (nomark _))) (fun _ _ _ _ _ => pe_ix ix_list (pv 4) pe_int (fun _ _ => rfl)))
        (pss_cons (ps_set (i := 8) nd rfl (.inr rfl) (pe_lc (own := [("at", 3)]) (wi := iList K (tVar 7)) (g := gName 3) (tt := tTest (tOp (rEqE K false) (tLc (iList K (tVar 2)) (gName 4) (tTest (tOp (rIn K false) (tVar 3) (tSl (rSlL K) (tVar 4) (tPart (tC (.int 1))) tNoPart))) (tVar 4) [4]) (tLst tNil))) (te := tVar 3) rfl nd (pi_list (pv 7)) (blkOk_by (N := ["plans", "n", "rows", "at", "row", "found", "turn", "heads", "free"]) (sc := defScope s__law_line) (by decide +kernel)) (fun _ _ _ _ _ => pg_name (i := 3) nd rfl (.inr rfl)) (fun _ _ _ _ _ => pts_one (pt_cmpR (op_eq_nil hr) (pe_lc (own := [("row", 4)]) (wi := iList K (tVar 2)) (g := gName 4) (tt := (tTest (tOp (rIn K false) (tVar 3) (tSl (rSlL K) (tVar 4) (tPart (tC (.int 1))) tNoPart)))) (te := tVar 4) rfl nd (pi_list (pv 2)) (blkOk_by (N := ["plans", "n", "rows", "at", "row", "found", "turn", "heads", "free"]) (sc := scL1) (by decide +kernel)) (fun _ _ _ _ _ => pg_name (i := 4) nd rfl (.inl rfl)) (fun _ _ _ _ _ => pts_one (pt_cmpR op_in_seq (pv 3) (pe_slice sl_list (pv 4) (po_some pe_int) po_none) rfl)) (fun _ _ _ _ _ => pv 4)) (pe_lst pa_nil) (nomark _))) (fun _ _ _ _ _ => pv 3)))
        (pss_cons (ps_if (pt_cmpR (op_eq_nil hr) (pv 7) (pe_lst pa_nil) (nomark _)) (pss_one (ps_ret (pv 5))) pss_nil)
        (pss_cons (ps_if (pt_cmpR (op_eq_nil hr) (pv 8) (pe_lst pa_nil) (nomark _)) (pss_one (ps_ret pe_non)) pss_nil)
        (pss_cons (ps_expr (pe_bm PySem.F.plainAttrs_list PySem.F.slot_list_append PySem.F.type_list_append mt_append (pv 5) (pa_cons (pe_ix ix_list (pv 8) pe_int (fun _ _ => rfl)) pa_nil)))
        (pss_one (ps_set (i := 2) nd rfl (.inr rfl) (pe_lc (own := [("row", 4)]) (wi := iList K (tVar 2)) (g := gName 4) (tt := tYes) (te := tIf (tTest (tOp (rEqD K) (tSl (rSlL K) (tVar 4) tNoPart (tPart (tC (.int 1)))) (tSl (rSlL K) (tVar 8) tNoPart (tPart (tC (.int 1)))))) (tSl (rSlL K) (tVar 4) (tPart (tC (.int 1))) tNoPart) (tVar 4)) rfl nd (pi_list (pv 2)) (blkOk_by (N := ["plans", "n", "rows", "at", "row", "found", "turn", "heads", "free"]) (sc := defScope s__law_line) (by decide +kernel)) (fun _ _ _ _ _ => pg_name (i := 4) nd rfl (.inl rfl)) (fun _ _ _ _ _ => pts_nil) (fun _ _ _ _ _ => pe_ifExp (pt_cmpR (op_eqD hr.units) (pe_slice sl_list (pv 4) po_none (po_some pe_int)) (pe_slice sl_list (pv 8) po_none (po_some pe_int)) (nomark _)) (pe_slice sl_list (pv 4) (po_some pe_int) po_none) (pv 4)))))))))))
      (pss_one (ps_ret (pv 5))))))), ?_⟩
      obtain ⟨p, n, ab, ls, as, rfl, hn, hPl, g, ha, lt, ndas, hl4, hab, kn, ks⟩ := h
      exact rd_line hPl g ha lt ndas hl4 hab (fun σ H1 x hx => absurd (lt x hx) (by omega)) kn ks
  | succ M ih =>
    intro hM
    have ih := ih (by omega)
    refine can_of T.g__law_line T.F__law_line (fun fd F => ?_) (fun _ _ _ _ _ _ us hl => match us, hl with | [_, _], _ => rfl)
    refine F.ok sc__law_line (fun vs H Q E h => ?_) (fun cdv A outer s H vs Q E hr h => ?_)
    · obtain ⟨p, n, ab, ls, as, rfl, _⟩ := h
      rfl
    · have nd := sc__law_line.nd
      have hu := hu_of hr
      refine ⟨_, pss_cons (ps_set (i := 2) nd rfl (.inr rfl) (pe_lst pa_nil))
      (pss_cons (ps_for PassesOwn.never rfl (pi_list (pe_dget hu (pe_ix ix_list (pv 0) (pv 1) (fun _ _ => rfl)) pe_str (fun _ _ => rfl))) (pg_name (i := 3) nd rfl (.inl rfl))
        (pss_cons (ps_set (i := 4) nd rfl (.inl rfl) (pe_can ih hr pass0 (pa_cons (pv 0) (pa_cons (pv 3) pa_nil)) (hjk := Nat.le_refl _)))
        (pss_cons (ps_if (pt_cmp (pc_isN (pv 4))) (pss_one (ps_ret pe_non)) pss_nil)
        (pss_one (ps_expr (pe_bm PySem.F.plainAttrs_list PySem.F.slot_list_append PySem.F.type_list_append mt_append (pv 2) (pa_cons (pv 4) pa_nil)))))))
      (pss_cons (ps_expr (pe_bm PySem.F.plainAttrs_list PySem.F.slot_list_append PySem.F.type_list_append mt_append (pv 2) (pa_cons (pe_dget hu (pe_ix ix_list (pv 0) (pv 1) (fun _ _ => rfl)) pe_str (fun _ _ => rfl)) pa_nil)))
      (pss_cons (ps_set (i := 5) nd rfl (.inl rfl) (pe_lst (pa_cons (pv 1) pa_nil)))
      (pss_cons (ps_for PassesOwn.never rfl (pi_range1 rfl T.n_range (pa_cons (pe_callB call_len_seq (by rfl) T.n_len PySem.boot_len (pa_cons (pv 0) pa_nil)) pa_nil)) (pg_name (i := 6) nd rfl (.inl rfl))
        (pss_cons (ps_setLc (i := 7) (own := [("row", 4)]) (wi := iList K (tVar 2)) (g := gName 4) (tt := tTest (tOp (rEqE K true) (tVar 4) (tLst tNil))) (te := tOp (rIxL K) (tVar 4) (tC (.int 0))) rfl nd rfl rfl (sw_true rfl rfl rfl (by decide +kernel)) (pi_list (pv 2)) (blkOk_by (N := ["plans", "n", "rows", "at", "row", "found", "turn", "heads", "free"]) (sc := defScope s__law_line) (by decide +kernel)) (fun _ _ _ _ _ => pg_name (i := 4) nd rfl (.inl rfl)) (fun _ _ _ _ _ => pts_one (pt_cmpR (op_ne_nil hr) (pv 4) (pe_lst pa_nil) (nomark _))) (fun _ _ _ _ _ => pe_ix ix_list (pv 4) pe_int (fun _ _ => rfl)))
        (pss_cons (ps_set (i := 8) nd rfl (.inr rfl) (pe_lc (own := [("at", 3)]) (wi := iList K (tVar 7)) (g := gName 3) (tt := tTest (tOp (rEqE K false) (tLc (iList K (tVar 2)) (gName 4) (tTest (tOp (rIn K false) (tVar 3) (tSl (rSlL K) (tVar 4) (tPart (tC (.int 1))) tNoPart))) (tVar 4) [4]) (tLst tNil))) (te := tVar 3) rfl nd (pi_list (pv 7)) (blkOk_by (N := ["plans", "n", "rows", "at", "row", "found", "turn", "heads", "free"]) (sc := defScope s__law_line) (by decide +kernel)) (fun _ _ _ _ _ => pg_name (i := 3) nd rfl (.inr rfl)) (fun _ _ _ _ _ => pts_one (pt_cmpR (op_eq_nil hr) (pe_lc (own := [("row", 4)]) (wi := iList K (tVar 2)) (g := gName 4) (tt := (tTest (tOp (rIn K false) (tVar 3) (tSl (rSlL K) (tVar 4) (tPart (tC (.int 1))) tNoPart)))) (te := tVar 4) rfl nd (pi_list (pv 2)) (blkOk_by (N := ["plans", "n", "rows", "at", "row", "found", "turn", "heads", "free"]) (sc := scL1) (by decide +kernel)) (fun _ _ _ _ _ => pg_name (i := 4) nd rfl (.inl rfl)) (fun _ _ _ _ _ => pts_one (pt_cmpR op_in_seq (pv 3) (pe_slice sl_list (pv 4) (po_some pe_int) po_none) rfl)) (fun _ _ _ _ _ => pv 4)) (pe_lst pa_nil) (nomark _))) (fun _ _ _ _ _ => pv 3)))
        (pss_cons (ps_if (pt_cmpR (op_eq_nil hr) (pv 7) (pe_lst pa_nil) (nomark _)) (pss_one (ps_ret (pv 5))) pss_nil)
        (pss_cons (ps_if (pt_cmpR (op_eq_nil hr) (pv 8) (pe_lst pa_nil) (nomark _)) (pss_one (ps_ret pe_non)) pss_nil)
        (pss_cons (ps_expr (pe_bm PySem.F.plainAttrs_list PySem.F.slot_list_append PySem.F.type_list_append mt_append (pv 5) (pa_cons (pe_ix ix_list (pv 8) pe_int (fun _ _ => rfl)) pa_nil)))
        (pss_one (ps_set (i := 2) nd rfl (.inr rfl) (pe_lc (own := [("row", 4)]) (wi := iList K (tVar 2)) (g := gName 4) (tt := tYes) (te := tIf (tTest (tOp (rEqD K) (tSl (rSlL K) (tVar 4) tNoPart (tPart (tC (.int 1)))) (tSl (rSlL K) (tVar 8) tNoPart (tPart (tC (.int 1)))))) (tSl (rSlL K) (tVar 4) (tPart (tC (.int 1))) tNoPart) (tVar 4)) rfl nd (pi_list (pv 2)) (blkOk_by (N := ["plans", "n", "rows", "at", "row", "found", "turn", "heads", "free"]) (sc := defScope s__law_line) (by decide +kernel)) (fun _ _ _ _ _ => pg_name (i := 4) nd rfl (.inl rfl)) (fun _ _ _ _ _ => pts_nil) (fun _ _ _ _ _ => pe_ifExp (pt_cmpR (op_eqD hr.units) (pe_slice sl_list (pv 4) po_none (po_some pe_int)) (pe_slice sl_list (pv 8) po_none (po_some pe_int)) (nomark _)) (pe_slice sl_list (pv 4) (po_some pe_int) po_none) (pv 4)))))))))))
      (pss_one (ps_ret (pv 5))))))), ?_⟩
      obtain ⟨p, n, ab, ls, as, rfl, hn, hPl, g, ha, lt, ndas, hl4, hab, kn, ks⟩ := h
      refine rd_line hPl g ha lt ndas hl4 hab (fun σ H1 x hx e v0 v3 => ?_) kn ks
      have hx' := lt x hx
      obtain ⟨as', l', O⟩ := g.2 x hx'
      rw [getD_of O.s]
      have g' : GoodUp ab ls x := ⟨by have := g.1; omega, fun i hi => g.2 i (by omega)⟩
      refine el_call (ea_cons (ev_var v0) (ea_cons (ev_var v3) ea_nil)) fun H2 e2 Q q E => ⟨p, x, ab, ls, as', rfl, by omega, hPl.ex (e.trans e2), g', O.a, O.lt, O.nd, O.len, hab, (fun hn => by rw [O.mg] at hn; cases hn), fun l hl q' H' hq e' h' => ?_⟩
      rw [O.mg] at hl
      obtain rfl := Option.some.inj hl
      exact q q' H' hq e' h'
end
end K17
end

section
set_option Elab.async false
set_option linter.all false
set_option maxRecDepth 100000
set_option maxHeartbeats 4000000
namespace K17
open PySem PySem.Spec PyProof.Rows L2 He Cn Evl
/-- what stands apart from the state of the draws stays -/
def Fr2 (dm gm : Addr) (H H' : Hp) : Prop := ∀ b o, H b = some o → b ≠ dm → b ≠ gm → H' b = some o
theorem Fr2.trans {dm gm : Addr} {H H1 H2 : Hp} (h : Fr2 dm gm H H1) (k : Fr2 dm gm H1 H2) : Fr2 dm gm H H2 := fun b o e h1 h2 => k b o (h b o e h1 h2) h1 h2
theorem Fr2.ex {dm gm : Addr} {H H1 H2 : Hp} (h : Fr2 dm gm H H1) (e : Ex H1 H2) : Fr2 dm gm H H2 := fun b o e' h1 h2 => e _ _ (h b o e' h1 h2)
theorem Fr2.of {dm gm : Addr} {H H1 : Hp} (e : Ex H H1) : Fr2 dm gm H H1 := fun b o h _ _ => e b o h
theorem mat_ex {H H' : Hp} {dm c gm : Addr} {sp : Int} (e : Ex H H') (M : MAt H dm c gm sp) : MAt H' dm c gm sp := by
  obtain ⟨m1, ⟨cs, lc, bc, m2⟩, ⟨gs, gl, m3⟩, m4⟩ := M
  exact ⟨e _ _ m1, ⟨cs, lc, bc, e _ _ m2⟩, ⟨gs, gl, e _ _ m3⟩, m4⟩
theorem mat_nd {H : Hp} {dm c gm b : Addr} {sp : Int} (M : MAt H dm c gm sp) (h : H b = none) : b ≠ dm ∧ b ≠ gm ∧ b ≠ c := by
  obtain ⟨m1, ⟨cs, lc, bc, m2⟩, ⟨gs, gl, m3⟩, m4⟩ := M
  exact ⟨(ne_of_none m1 h).symm, (ne_of_none m3 h).symm, (ne_of_none m2 h).symm⟩
theorem fr2_fresh {H H' : Hp} {dm c gm b : Addr} {sp : Int} (f : Fr2 dm gm H H') (M : MAt H' dm c gm sp) (h : H' b = none) : H b = none := by
  obtain ⟨n1, n2, _⟩ := mat_nd M h
  cases q : H b with
  | none => rfl
  | some u => rw [f b u q n1 n2] at h; cases h
/-- a list that is new may be put -/
theorem mat_put {H : Hp} {dm c gm p : Addr} {sp : Int} {u : HO} (h1 : p ≠ dm) (h2 : p ≠ gm) (h3 : p ≠ c) (M : MAt H dm c gm sp) : MAt (upd H p u) dm c gm sp := by
  obtain ⟨m1, ⟨cs, lc, bc, m2⟩, ⟨gs, gl, m3⟩, m4⟩ := M
  exact ⟨by rw [upd_ne h1.symm]; exact m1, ⟨cs, lc, bc, by rw [upd_ne h3.symm]; exact m2⟩, ⟨gs, gl, by rw [upd_ne h2.symm]; exact m3⟩, m4⟩
theorem ret_op_E {r : R2} {ta tb : TE} {D : Ends} {σ : L2.St} {H : Hp} (h : ta σ H fun x H1 => tb σ H1 fun y H2 => r x y H2 D.rt) : tRet (tOp r ta tb) D σ H := h
/-- a promise of a def that draws at most n numbers -/
def DrQ (dm c gm : Addr) (n : Int) (sp : Int) (H : Hp) (p : V → Hp → Prop) (Q : VK) : Prop := ∀ v H' sp', sp ≤ sp' → sp' ≤ sp + n → MAt H' dm c gm sp' → Fr2 dm gm H H' → p v H' → Q v H'
section
variable {P : Program} {w : World} {K : PySem.W.Frag} {mg : Str → Option Value} {base : Heap}
end
end K17
end

section
set_option Elab.async false
set_option linter.all false
set_option maxRecDepth 100000
set_option maxHeartbeats 2000000
/-! list(range(n)) -/
namespace L2
open PySem PySem.Spec PyProof.Rows
variable {X : Cx}
theorem cr_range1 : CallR X (.type "range") (fun vs H Q => ∃ j, vs = [V.int j] ∧ ∀ p, H p = none → Q (.ref p) (upd H p (.rng 0 j))) := by
  intro pins s σ H vs us Q I r h
  obtain ⟨j, rfl, q⟩ := h
  obtain ⟨u1, rfl, t, rfl⟩ := vals1 r
  refine call_range_1 ⟨.ref s.heap.objs.size, upd H s.heap.objs.size (.rng 0 j), I.laid (t' := s.toks + 1 + 1) (fun b o e => Heap.get?_push_of_some _ e) (Nat.le_refl _) ?_, rfl, q _ (I.hok.fresh (Nat.le_refl _))⟩
  exact ⟨s.toks, t, s.toks + 1, Heap.get?_push_size _ rfl⟩
theorem vals_items : ∀ (n : Nat) (us : List Value), us.length = n → (∀ (i : Nat) (u : Value), us[i]? = some u → ∃ t, u = Value.int ((0 : Int) + (i : Int) * 1) t) → Vals ((List.range n).map fun (i : Nat) => V.int (i : Int)) us := by
  intro n us hl h
  have key : ∀ (k : Nat) (us : List Value), (∀ (i : Nat) (u : Value), us[i]? = some u → ∃ t, u = Value.int ((k : Int) + (i : Int)) t) → Vals ((List.range' k us.length).map fun (i : Nat) => V.int (i : Int)) us := by
    intro k us
    induction us generalizing k with
    | nil => intro _; exact .nil
    | cons u r ih =>
      intro h
      have h0 := h 0 u rfl
      obtain ⟨t, rfl⟩ := h0
      refine .cons ⟨t, ?_⟩ (ih (k + 1) fun i v hv => ?_)
      · simp
      · obtain ⟨t, e⟩ := h (i + 1) v (by simpa using hv)
        refine ⟨t, ?_⟩
        rw [e]
        congr 1
        push_cast
        omega
  have := key 0 us fun i u hu => by
    obtain ⟨t, e⟩ := h i u hu
    exact ⟨t, by rw [e]; congr 1; omega⟩
  rw [hl] at this
  rw [List.range_eq_range']
  exact this
theorem call_list_rng (hc : X.calm = true) : CallR X (.type "list") (fun xs H Q => ∃ (a : Addr) (n : Nat), xs = [.ref a] ∧ H a = some (.rng 0 (n : Int)) ∧ n ≤ 1000 ∧ ∀ l, H l = none → Q (.ref l) (upd H l (.lst ((List.range n).map fun (i : Nat) => V.int (i : Int))))) := by
  intro pins s σ H xs us Q I r h
  obtain ⟨a, n, rfl, ha, hn, q⟩ := h
  obtain ⟨u, rfl, rx⟩ := vals1 r
  cases rx
  obtain ⟨t, u, v, e⟩ := (show ∃ t u v, s.heap.get? a = some { cls := .type "range", data := .fields #[.int 0 t, .int (n : Int) u, .int 1 v] } from I.hok a _ ha)
  refine call_list_range (I.ok.hd hc) e (small_one (by decide) (by decide) (by omega) (by omega)) ?_ (n := n) (by omega) fun h' tk acc' c' kp he hit => ?_
  · unfold Builtin.Range.rangeSize
    rw [if_pos (by decide)]
    by_cases h0 : (0 : Int) < (n : Int)
    · rw [if_pos h0]
      omega
    · rw [if_neg h0]
      omega
  · obtain ⟨h1, h2⟩ := hit
    have rv := vals_items n acc'.toList (by rw [Array.length_toList]; exact h1) fun i u hu => h2 i u (by rw [← Array.getElem?_toList]; exact hu)
    have hlen : ((List.range n).map fun (i : Nat) => V.int (i : Int)).length ≤ sizeLine := by
      rw [List.length_map, List.length_range]
      exact Nat.le_trans hn (by decide)
    refine ⟨.ref s.heap.objs.size, _, I.laid (t' := tk) kp (Nat.le_refl _) (show ObjOk X.prog X.w _ h' _ (.lst ((List.range n).map fun (i : Nat) => V.int (i : Int))) from ⟨hlen, acc'.toList, c', rv, ?_⟩), rfl, q _ (I.hok.fresh (Nat.le_refl _))⟩
    rw [he]
end L2
end

section
set_option Elab.async false
set_option linter.all false
set_option maxRecDepth 100000
set_option maxHeartbeats 4000000
namespace K17
open PySem PySem.Spec PyProof.Rows L2 He Cn Evl
/-! ### a plan is written -/
def planK (z : Str) (lm la lo : Addr) : List (L2.Key × V) := [(.inr "name", .str z), (.inr "members", .ref lm), (.inr "above", .ref la), (.inr "options", .ref lo)]
theorem pne1 : ¬ (Sum.inr ("name" : Str) : L2.Key) = Sum.inr ("members" : Str) := by decide +kernel
theorem pne2 : ¬ (Sum.inr ("name" : Str) : L2.Key) = Sum.inr ("above" : Str) := by decide +kernel
theorem pne3 : ¬ (Sum.inr ("name" : Str) : L2.Key) = Sum.inr ("options" : Str) := by decide +kernel
theorem pne4 : ¬ (Sum.inr ("members" : Str) : L2.Key) = Sum.inr ("above" : Str) := by decide +kernel
theorem pne5 : ¬ (Sum.inr ("members" : Str) : L2.Key) = Sum.inr ("options" : Str) := by decide +kernel
theorem pne6 : ¬ (Sum.inr ("above" : Str) : L2.Key) = Sum.inr ("options" : Str) := by decide +kernel
theorem pne7 : ¬ (Sum.inr ("options" : Str) : L2.Key) = Sum.inr ("above" : Str) := by decide +kernel
theorem plan_name {z : Str} {lm la lo : Addr} : valV (planK z lm la lo) (.inr ("name" : Str)) = some (.str z) := valV_pos rfl
theorem plan_members {z : Str} {lm la lo : Addr} : valV (planK z lm la lo) (.inr ("members" : Str)) = some (.ref lm) := (valV_neg pne1).trans (valV_pos rfl)
theorem plan_above {z : Str} {lm la lo : Addr} : valV (planK z lm la lo) (.inr ("above" : Str)) = some (.ref la) := (valV_neg pne2).trans ((valV_neg pne4).trans (valV_pos rfl))
theorem plan_options {z : Str} {lm la lo : Addr} : valV (planK z lm la lo) (.inr ("options" : Str)) = some (.ref lo) := (valV_neg pne3).trans ((valV_neg pne5).trans ((valV_neg pne6).trans (valV_pos rfl)))
theorem plan_put {z : Str} {lm la lo lb : Addr} : putK (planK z lm la lo) (.inr ("above" : Str)) (.ref lb) = planK z lm lb lo := by
  unfold putK planK
  rw [if_pos (by simp)]
  simp only [List.map_cons, List.map_nil, pne2, pne4, pne7, if_false, if_true]
theorem plan_merge {z : Str} {lm la lo : Addr} : mergeK [] (planK z lm la lo) = planK z lm la lo := by
  have s1 : ¬ ("name" : Str) = "members" := by decide +kernel
  have s2 : ¬ ("name" : Str) = "above" := by decide +kernel
  have s3 : ¬ ("name" : Str) = "options" := by decide +kernel
  have s4 : ¬ ("members" : Str) = "above" := by decide +kernel
  have s5 : ¬ ("members" : Str) = "options" := by decide +kernel
  have s6 : ¬ ("above" : Str) = "options" := by decide +kernel
  unfold planK mergeK
  simp [putK, s1, s2, s3, s4, s5, s6]
def rAddS : R2 := fun x y H Q => ∃ i j, x = .str i ∧ y = .str j ∧ i.length + j.length ≤ sizeLine ∧ Q (.str (i ++ j)) H
def rStrI : List V → Hp → VK → Prop := fun xs H Q => ∃ i, xs = [.int i] ∧ i.natAbs.log2 < 1920 ∧ Q (.str (toString i)) H
def kname (n : Nat) : Str := ("K" : Str) ++ (Str.ofString (toString (n : Int)))
theorem good_kname {n : Nat} (h : n < 8) : goodName (kname n) = true := by
  match n, h with
  | 0, _ => decide +kernel
  | 1, _ => decide +kernel
  | 2, _ => decide +kernel
  | 3, _ => decide +kernel
  | 4, _ => decide +kernel
  | 5, _ => decide +kernel
  | 6, _ => decide +kernel
  | 7, _ => decide +kernel
theorem len_kname {n : Nat} (h : n < 8) : ("K" : Str).length + (Str.ofString (toString (n : Int))).length ≤ sizeLine := by
  match n, h with
  | 0, _ => decide +kernel
  | 1, _ => decide +kernel
  | 2, _ => decide +kernel
  | 3, _ => decide +kernel
  | 4, _ => decide +kernel
  | 5, _ => decide +kernel
  | 6, _ => decide +kernel
  | 7, _ => decide +kernel
def rLR : List V → Hp → VK → Prop := fun xs H Q => ∃ (a : Addr) (n : Nat), xs = [.ref a] ∧ H a = some (.rng 0 (n : Int)) ∧ n ≤ 1000 ∧ ∀ l, H l = none → Q (.ref l) (upd H l (.lst ((List.range n).map fun (i : Nat) => V.int (i : Int))))
def rR1 : List V → Hp → VK → Prop := fun vs H Q => ∃ j, vs = [V.int j] ∧ ∀ p, H p = none → Q (.ref p) (upd H p (.rng 0 j))
theorem perm_nts {ys : List V} {r : List Nat} (h : ys.Perm (nts r)) : ∃ zs, ys = nts zs ∧ zs.Perm r := by
  let f : V → Nat := fun v => match v with
    | .int i => i.toNat
    | _ => 0
  have e1 : (nts r).map f = r := by
    unfold nts
    rw [List.map_map]
    conv => rhs; rw [← List.map_id r]
    apply List.map_congr_left
    intro x _
    show ((x : Int)).toNat = x
    exact Int.toNat_natCast x
  refine ⟨ys.map f, ?_, ?_⟩
  · unfold nts
    rw [List.map_map]
    conv => lhs; rw [← List.map_id ys]
    apply List.map_congr_left
    intro v hv
    obtain ⟨n, _, rfl⟩ := List.mem_map.mp (h.mem_iff.mp hv)
    show V.int (n : Int) = V.int (((n : Int)).toNat : Int)
    rw [Int.toNat_natCast]
  · have := h.map f
    rw [e1] at this
    exact this
theorem cut_take {xs : List V} {k : Nat} : cutV xs none (some (k : Int)) = xs.take k := by
  unfold cutV
  rw [HT.sIx_none, HT.sIx_nat, List.drop_zero, Nat.sub_zero]
  by_cases h : k ≤ xs.length
  · rw [Nat.min_eq_left h]
  · rw [Nat.min_eq_right (by omega), List.take_of_length_le (Nat.le_refl _), List.take_of_length_le (by omega)]
end K17
end

section
set_option Elab.async false
set_option linter.all false
set_option maxRecDepth 100000
set_option maxHeartbeats 4000000
namespace InC
open PySem PySem.Spec PyProof.Rows L2 He StX
section
variable {X : Cx} {CX : CXT} {k i : Nat} {f C : Addr} {sp : Sp} {E : XK} {x : Str} {e : Expr} {es : List Expr} {t tk : TA} {p pos : Pos} {kws : List Keyword}
/-- C(e, ..), C a class by its global name, its __init__ known by what it promises -/
theorem pe_makeG (M : Mk X.K C f) (F : FnR X.prog X.w X.K X.mg X.base CX k f sp) (hr : Room (k + 1) X.A) (hg : Gl X x) (hm : X.mg x = some (.ref C)) (hx : Passes CX X E) (ha : PA X (e :: es) t) (hdb : (x == ("__debug__" : Str)) = false := by decide)
    (he : starEach (e :: es) X.env = (false, eval e X.env) :: starEach es X.env := by rfl) (hpl : (backTo pos (starEach es X.env)).any (·.1) = false := by rfl) :
    PE X (.Call (.Name x p) (e :: es) [] pos) (tMakeR C sp E t) := by
  refine ⟨fun pins s σ H Q I h => ?_⟩
  refine wpAny_Call_Name_kw (ld_glob I hg hm ?_ hdb)
  refine PySem.W.callWith_K (h₀ := X.base) I.ok.mod.kin M.kp (thn (ha.run pos pins s σ H _ I h) fun us s1 ⟨vs, H1, I1, r, q⟩ => ⟨I1.kIn, ?_⟩) he hpl
  exact run_makeR M F hr hx I1 r q
end
end InC
namespace K17
open PySem PySem.Spec PyProof.Rows L2 He Cn Evl KeL
def tabs (K : PySem.W.Frag) : List (Addr × Str) := [((HkQ.cP K fun K => ga K "_law_parts_of").2, qLam)]
structure TabsOk (K : PySem.W.Frag) (mg : Str → Option Value) (base : Heap) : Prop where
  r : LamX.TabB base mg (HkQ.cOf K (ga K "_law_parts_of")) (HkQ.cP K fun K => ga K "_law_parts_of").2
theorem tabs_one {K : PySem.W.Frag} : ((HkQ.cP K fun K => ga K "_law_parts_of").2, qLam) ∈ tabs K := List.mem_singleton.mpr rfl
theorem tabs_of {K : PySem.W.Frag} {p : Addr × Str} (hp : p ∈ tabs K) : p.2 = qLam := by
  rw [List.mem_singleton.mp hp]
/-! ### the cells of _law_parts_of -/
def nmP : List (Str × NameKind) := [("made", .cell), ("log", .cell), ("ways", .local), ("n", .cell), ("found", .local), ("Hook", .globalImplicit), ("Method", .globalImplicit), ("tuple", .globalImplicit)]
theorem nmP_is : (defScope s__law_parts_of).names = nmP := by decide +kernel
def nmH : List (Str × NameKind) := [("record", .local), ("log", .free), ("made", .free), ("n", .free), ("_law_hooked", .globalImplicit)]
theorem nmH_is : (lamSc hkL).names = nmH := by decide +kernel
def nmM : List (Str × NameKind) := [("record", .local), ("step", .local), ("log", .free), ("made", .free), ("n", .free), ("_law_gone", .globalImplicit)]
theorem nmM_is : (lamSc mtL).names = nmM := by decide +kernel
def clsP (b : Nat) : List (Str × Addr) := [("n", b + 1 + 1 + 1), ("log", b + 1 + 1), ("made", b + 1)]
theorem clsP_is (b : Nat) : cellsFrom (b + 1) (defScope s__law_parts_of).names [] = clsP b := by
  rw [nmP_is]
  rfl
def cloP (b : Nat) : List (Str × Addr) := [("n", b + 1 + 1 + 1), ("made", b + 1), ("log", b + 1 + 1)]
theorem cloH_is (b : Nat) : cloFrom (clsP b) (lamSc hkL).names [] = cloP b := by
  rw [nmH_is]
  rfl
theorem cloM_is (b : Nat) : cloFrom (clsP b) (lamSc mtL).names [] = cloP b := by
  rw [nmM_is]
  rfl
def cvP (b : Nat) (md lg : Addr) (n : Nat) : Cv := [(b + 1, .ref md), (b + 1 + 1, .ref lg), (b + 1 + 1 + 1, .int (n : Nat))]
theorem cvP_st (b : Nat) (md lg : Addr) (n : Nat) : CvOf md lg ⟨n, cloP b, cvP b md lg n⟩ where
  at_ := rfl
  st := {
    len := rfl
    nd := by
      show [b + 1, b + 1 + 1, b + 1 + 1 + 1].Nodup
      simp
    sub := fun y c h => by
      unfold cloP at h
      simp only [List.lookup_cons, List.lookup_nil] at h
      by_cases q1 : y = "n"
      · subst q1
        have : some (b + 1 + 1 + 1) = some c := h
        obtain rfl := Option.some.inj this
        exact ⟨2, _, rfl, rfl⟩
      · rw [show (y == ("n" : Str)) = false from beq_eq_false_iff_ne.mpr q1] at h
        by_cases q2 : y = "made"
        · subst q2
          have : some (b + 1) = some c := h
          obtain rfl := Option.some.inj this
          exact ⟨0, _, rfl, rfl⟩
        · rw [show (y == ("made" : Str)) = false from beq_eq_false_iff_ne.mpr q2] at h
          by_cases q3 : y = "log"
          · subst q3
            have : some (b + 1 + 1) = some c := h
            obtain rfl := Option.some.inj this
            exact ⟨1, _, rfl, rfl⟩
          · rw [show (y == ("log" : Str)) = false from beq_eq_false_iff_ne.mpr q3] at h
            cases h
    has := fun i y h => by
      match i, h with
      | 0, h =>
        obtain rfl : ("made" : Str) = y := Option.some.inj h
        exact ⟨b + 1, .ref md, by rfl, rfl⟩
      | 1, h =>
        obtain rfl : ("log" : Str) = y := Option.some.inj h
        exact ⟨b + 1 + 1, .ref lg, by rfl, rfl⟩
      | 2, h =>
        obtain rfl : ("n" : Str) = y := Option.some.inj h
        exact ⟨b + 1 + 1 + 1, .int (n : Nat), by rfl, rfl⟩ }
theorem cvP_cases {b : Nat} {md lg : Addr} {n : Nat} {c : Addr} {v : V} (h : (cvP b md lg n).lookup c = some v) : (c = b + 1 ∧ v = .ref md) ∨ (c = b + 1 + 1 ∧ v = .ref lg) ∨ (c = b + 1 + 1 + 1 ∧ v = .int (n : Nat)) := by
  have := look_at h
  unfold cvP at this
  simp only [List.mem_cons, List.not_mem_nil, or_false, Prod.mk.injEq] at this
  exact this
/-! ### Hook(function) -/
section
variable {P : Program} {w : World} {K : PySem.W.Frag} {mg : Str → Option Value} {base : Heap}
def spHookI (K : PySem.W.Frag) : Sp := fun vs H Q _ => ∃ (a dx : Addr) (v : V), vs = [.ref a, v] ∧ H a = some (.ins (kH K) dx []) ∧ ∀ H', H' a = some (.ins (kH K) dx (putF "function" v [])) → FrB a H H' → Q .non H'
theorem fnr_hook (T : Txt K mg) : FnR P w K mg base CX0 1 (ma K (kH K) "__init__") (spHookI K) := by
  obtain ⟨fd, F⟩ := T.F_Hook_init
  have FO : FnOk P w K mg base CX0 1 (ma K (kH K) "__init__") fd ["self", "function"] (spHookI K) := by
    refine F.ok sc_Hook_init (fun vs H Q E h => ?_) (fun cdv A outer s H vs Q E hr h => ?_)
    · obtain ⟨a, dx, v, rfl, _⟩ := h
      rfl
    · obtain ⟨a, dx, v, rfl, ha, fin⟩ := h
      refine ⟨_, pss_one (ps_fld (pv 0) (pv 1) rfl), ?_⟩
      exact s_putV (v := v) (ev_var rfl) (fun _ _ => ev_var rfl) ha T.cH_cls T.cH_a_function (by decide) fun H2 a2 f2 => fin H2 a2 f2
  refine (FO.raw (F.binds (ps := ["self", "function"]) fun _ _ _ _ _ _ us hl => match us, hl with | [_, _], _ => rfl) .nil).imp fun vs H Q E h => ?_
  rw [List.append_nil]
  exact h
end
/-! ### the parts of a kind -/
structure PartOk (K : PySem.W.Frag) (H : Hp) (its : Its) (hk mt : Option Addr) (k : KI) : Prop where
  sh : ∃ f : Addr, its = (hk.toList.map fun h => (h, none)) ++ (mt.toList.map fun m => (m, some (.mth "go" (.ref f))))
  at_ : ItsAt K H its
  lm : LmAt K H ⟨[], hk, mt⟩ k
theorem PartOk.ex {K : PySem.W.Frag} {H H' : Hp} {its : Its} {hk mt : Option Addr} {k : KI} (e : Ex H H') (h : PartOk K H its hk mt k) : PartOk K H' its hk mt k := ⟨h.sh, h.at_.ex e, h.lm.ex e⟩
end K17
end

section
set_option Elab.async false
set_option linter.all false
set_option maxRecDepth 100000
set_option maxHeartbeats 4000000
namespace K17
open PySem PySem.Spec PyProof.Rows L2 He Cn Evl KeL
theorem lk_name {at_ g : Str} {v : V} {z : Str} (h1 : g ≠ at_) (h2 : g ≠ "name") : (putF at_ v (putF "name" (.str z) [])).lookup g = none := by
  rw [lookup_putF, if_neg h1, lookup_putF, if_neg h2]
  rfl
/-- the new member made by Method(..) -/
theorem made_mem {K : PySem.W.Frag} {H H' : Hp} {b dx C : Addr} {at_ z : Str} {v : V} {mv : MemV} (hb : H b = none) (hdx : H dx = none) (a1 : H' b = some (.ins C dx (putF at_ v (putF "name" (.str z) [])))) (f1 : FrB b (upd (upd H dx (.own b)) b (.ins C dx [])) H')
    (hc : mv.cls K = C) (ho : mv.ok) (hat : mv.attrs = [(("name" : Str), V.str z), (at_, v)]) (hne : at_ ≠ "name") (hno : ∀ g, g ∈ memNo → g ≠ at_) : MemAt K H' b mv ∧ Ex H H' := by
  refine ⟨⟨ho, dx, _, by rw [hc]; exact a1, fun p hp => ?_, fun g hg => ?_⟩, made_ex hb hdx f1⟩
  · rw [hat] at hp
    rcases List.mem_cons.mp hp with q | q
    · subst q
      show (putF at_ v (putF "name" (.str z) [])).lookup ("name" : Str) = some (.str z)
      rw [lkNe hne.symm]
      exact lkEq
    · obtain rfl := List.mem_singleton.mp q
      exact lkEq
  · refine lk_name (hno g hg) ?_
    have : ∀ g, g ∈ memNo → g ≠ "name" := by decide +kernel
    exact this g hg
theorem xn_of {H H' : Hp} (e : Ex H H') : LamX.ExtN H H' := LamX.ExtN.of e
theorem sql_xn {K : PySem.W.Frag} {H H' : Hp} {a : Addr} {xs : List V} (e : LamX.ExtN H H') (h : SqL K H a xs) : SqL K H' a xs := by
  rcases h with (h | ⟨o, h⟩) | h
  · exact .inl (.inl (e _ _ h (fun _ z => nomatch z)))
  · exact .inl (.inr ⟨o, e _ _ h (fun _ z => nomatch z)⟩)
  · exact .inr h
theorem sqt_xn {K : PySem.W.Frag} {H H' : Hp} {a : Addr} {xs : List V} (e : LamX.ExtN H H') (h : SqT K H a xs) : SqT K H' a xs := by
  rcases h with (h | ⟨o, h⟩) | h
  · exact .inl (.inl (e _ _ h (fun _ z => nomatch z)))
  · exact .inl (.inr ⟨o, e _ _ h (fun _ z => nomatch z)⟩)
  · exact .inr h
/-- a list that is new may be put -/
theorem xn_mut {H0 H : Hp} {a : Addr} {u : HO} (x : LamX.ExtN H0 H) (h : H0 a = none) : LamX.ExtN H0 (upd H a u) := fun b o q n => by
  rw [upd_ne (ne_of_none q h)]
  exact x b o q n
theorem tabs_mut {T : List (Addr × Str)} {H : Hp} {a : Addr} {xs ys : List V} (h : H a = some (.lst xs)) (t : LamX.Tabs T H) : LamX.Tabs T (upd H a (.lst ys)) := fun p hp => by
  obtain ⟨tb, a1, a2, a3⟩ := t p hp
  refine ⟨tb, by rw [upd_ne (ne_of a1 h (by intro z; cases z))]; exact a1, a2, fun q cv hcv => ?_⟩
  obtain ⟨c0, e1, e2⟩ := a3 q cv hcv
  refine ⟨c0, e1, ?_⟩
  rw [upd_ne (ne_of e2 h (by intro z; cases z))]
  exact e2
theorem if_mid {t : TT} {tu : TS} {D : Ends} {σ : L2.St} {H : Hp} {b : Bool} (M : Hp → Prop) (h : EvT t σ H b) (h1 : b = true → ∀ H1, Ex H H1 → (∀ H', M H' → D.nx σ H') → tu D σ H1) (h2 : b = false → ∀ H1, Ex H H1 → M H1) (k : ∀ H', M H' → D.nx σ H') : tIfS t tu tNext D σ H :=
  s_when h (fun q H1 e => h1 q H1 e k) fun q H1 e => k _ (h2 q H1 e)
theorem lam_lst {f : Addr} {F : NdefX.NF} {e : Expr} {xs : List V} : LamO f F e ≠ .lst xs := fun z => by unfold LamO at z; cases z
theorem code_lst {f : Addr} {q : Str} {xs : List V} : LamX.CodeO f q ≠ .lst xs := fun z => by unfold LamX.CodeO at z; cases z
theorem lam_tbl {f : Addr} {F : NdefX.NF} {e : Expr} {xs : Array Value} : LamO f F e ≠ .tbl xs := fun z => by unfold LamO at z; cases z
theorem code_tbl {f : Addr} {q : Str} {xs : Array Value} : LamX.CodeO f q ≠ .tbl xs := fun z => by unfold LamX.CodeO at z; cases z
theorem HkAt.to {K : PySem.W.Frag} {H H' : Hp} {h f : Addr} (e : ∀ b o, H b = some o → (∀ xs, o ≠ .lst xs) → (∀ ps, o ≠ .tbl ps) → H' b = some o) (x : HkAt K H h f) : HkAt K H' h f := by
  obtain ⟨dx, fs, h1, h2⟩ := x
  exact ⟨dx, fs, e _ _ h1 (fun _ z => nomatch z) (fun _ z => nomatch z), h2⟩
theorem MemAt.to {K : PySem.W.Frag} {H H' : Hp} {a : Addr} {mv : MemV} (e : ∀ b o, H b = some o → (∀ xs, o ≠ .lst xs) → (∀ ps, o ≠ .tbl ps) → H' b = some o) (x : MemAt K H a mv) : MemAt K H' a mv := by
  obtain ⟨h0, dx, fs, h1, h2⟩ := x
  exact ⟨h0, dx, fs, e _ _ h1 (fun _ z => nomatch z) (fun _ z => nomatch z), h2⟩
theorem FnAt_.to {H H' : Hp} {F : Addr → NdefX.NF} {b : Expr} {f : Addr} (e : ∀ b o, H b = some o → (∀ xs, o ≠ .lst xs) → (∀ ps, o ≠ .tbl ps) → H' b = some o) (x : FnAt_ H F b f) : FnAt_ H' F b f := by
  obtain ⟨c', h1, h2⟩ := x
  exact ⟨c', e _ _ h1 (fun _ => lam_lst) (fun _ => lam_tbl), e _ _ h2 (fun _ => code_lst) (fun _ => code_tbl)⟩
def spLPartsOf (K : PySem.W.Frag) : Sp := fun vs H Q _ => ∃ (md lg wl tp : Addr) (n : Nat) (ws : List V) (a b : Bool), vs = [.ref md, .ref lg, .ref wl, .int (n : Nat)] ∧ SqL K H wl ws ∧ ws[n]? = some (.ref tp) ∧ SqT K H tp [.bl a, .bl b] ∧ LamX.Tabs (tabs K) H ∧
  ∀ (t : Addr) (hk mt : Option Addr) (its : Its) (k : KI) (H' : Hp), LamX.ExtN H H' → LamX.Tabs (tabs K) H' → H' t = some (.tup (refs (iaddr its))) → PartOk K H' its hk mt k → hk.isSome = a → mt.isSome = b → k.i = n → CvOf md lg k → CvAt k.cv H' → (∀ c v, k.cv.lookup c = some v → H c = none) → Q (.ref t) H'
section
variable {P : Program} {w : World} {K : PySem.W.Frag} {mg : Str → Option Value} {base : Heap}
theorem can_lpartsOf (T : Txt K mg) (TB : TabsOk K mg base) (hP : ProgOk P) : Can P w K mg base CX0 6 "_law_parts_of" ["made", "log", "ways", "n"] (spLPartsOf K) := by
  have FH := fnr_hook (P := P) (w := w) (base := base) T
  have FM := fnr_method (P := P) (w := w) (base := base) T hP
  refine can_of T.g__law_parts_of T.F__law_parts_of (fun fd F => ?_) (fun _ _ _ _ _ _ us hl => match us, hl with | [_, _, _, _], _ => rfl)
  refine okC F sc__law_parts_of (fun vs H Q E h => ?_) (fun A outer s H vs Q E hr h => ?_)
  · obtain ⟨md, lg, wl, tp, n, ws, a, b, rfl, _⟩ := h
    rfl
  · obtain ⟨md, lg, wl, tp, n, ws, a, b, rfl, hwl, hws, htp, hT, fin⟩ := h
    have nd := sc__law_parts_of.nd
    refine ⟨_, psc_cons (ps_set (i := 4) nd rfl (.inl rfl) (pe_lst pa_nil))
      (psc_cons (ps_if (pt_val (pe_ix ix_tup (pe_ix ix_list (pv 2) (pv 3) (fun _ _ => rfl)) pe_int (fun _ _ => rfl))) (pss_one (ps_expr (pe_bm PySem.F.plainAttrs_list PySem.F.slot_list_append PySem.F.type_list_append mt_append (pv 4) (pa_cons (InC.pe_makeG T.cH_mk FH (hr.mono (by decide)) rfl T.g_Hook pass0 (pa_cons (pe_lamK (T := tabs K) TB.r rfl (List.mem_singleton.mpr (congrArg (Prod.mk _) (by rfl))) (fun p hp _ => tabs_of hp) (free1_by (sc := defScope s__law_parts_of) (by decide +kernel)) rfl) pa_nil)) pa_nil)))) pss_nil)
      (psc_cons (ps_if (pt_val (pe_ix ix_tup (pe_ix ix_list (pv 2) (pv 3) (fun _ _ => rfl)) pe_int (fun _ _ => rfl))) (pss_one (ps_expr (pe_bm PySem.F.plainAttrs_list PySem.F.slot_list_append PySem.F.type_list_append mt_append (pv 4) (pa_cons (InC.pe_makeG T.cM_mk FM (hr.mono (by decide)) rfl T.g_Method pass0 (pa_cons pe_str (pa_cons (pe_lamK (T := tabs K) TB.r rfl (List.mem_singleton.mpr (congrArg (Prod.mk _) (by rfl))) (fun p hp _ => tabs_of hp) (free1_by (sc := defScope s__law_parts_of) (by decide +kernel)) rfl) pa_nil))) pa_nil)))) pss_nil)
      (psc_ret (pe_callTy call_tuple_of (by rfl) T.n_tuple (by decide +kernel) (pa_cons (pv 4) pa_nil))))), ?_⟩
    refine s_asgL (el_lst ea_nil (by decide)) fun fl H1 hfl e1 h1 => ?_
    have way : ∀ {H' : Hp} {i : Nat} {x : Bool}, LamX.ExtN H H' → ([V.bl a, V.bl b] : List V)[i]? = some (.bl x) → EvT (tB (tOp (rIxT K) (tOp (rIxL K) (tVar 2) (tVar 3)) (tC (.int (i : Nat))))) [some (.ref md), some (.ref lg), some (.ref wl), some (.int (n : Nat)), some (.ref fl)] H' x := fun {H' i x} e hx =>
      et_B (ev_op (ev_op (ev_var rfl) (ev_var rfl) (rv_ixL (sql_xn e hwl) (at_of rfl hws))) ev_c (rv_ixT (sqt_xn e htp) (at_of rfl hx)))
    have key : ∀ {H2 H3 H4 : Hp} {ys zs : List V}, LamX.ExtN H H2 → LamX.ExtN H2 H3 → Ex H3 H4 → LamX.Tabs (tabs K) H3 → H2 fl = some (.lst ys) → LamX.ExtN H (upd H4 fl (.lst zs)) ∧ LamX.Tabs (tabs K) (upd H4 fl (.lst zs)) ∧ H4 fl = some (.lst ys) ∧ ∀ b o, H4 b = some o → (∀ xs, o ≠ .lst xs) → (∀ ps, o ≠ .tbl ps) → upd H4 fl (.lst zs) b = some o := fun {H2 H3 H4 ys zs} x2 x3 e4 T3 h2 => by
      have h4 := e4 _ _ (x3 _ _ h2 (fun _ z => nomatch z))
      refine ⟨xn_mut ((x2.trans x3).trans (xn_of e4)) hfl, tabs_mut h4 (T3.ext e4), h4, fun c o q n1 _ => ?_⟩
      rw [upd_ne (fun z => by rw [z, h4] at q; exact n1 _ (Option.some.inj q).symm)]
      exact q
    refine if_mid (b := a) (fun H' => ∃ hk : Option Addr, hk.isSome = a ∧ LamX.ExtN H H' ∧ LamX.Tabs (tabs K) H' ∧ H' fl = some (.lst (refs hk.toList)) ∧ ∀ h, hk = some h → ∃ f, HkAt K H' h f ∧ FnAt_ H' (hkF (cloP s.heap.objs.size)) (lamE hkL) f) (way (i := 0) (xn_of e1) rfl) (fun ha H2 e2 nx => ?_) (fun ha H2 e2 => ⟨none, ha.symm, xn_of (e1.trans e2), hT.ext (e1.trans e2), e2 _ _ h1, fun h z => nomatch z⟩) ?_
    · refine ⟨_, rfl, .inl ⟨rfl, _, sq_of (e2 _ _ h1)⟩, ?_⟩
      refine ⟨hT.ext (e1.trans e2), fun f c' H3 x3 T3 hf hl hc => fun x dx hx hdx hne => ⟨x, dx, .ref f, rfl, upd_same, fun H4 a4 f4 => ⟨rfl, ?_⟩⟩⟩
      have e4 : Ex H3 H4 := made_ex hx hdx f4
      obtain ⟨k1, k2, k3, k4⟩ := key (zs := [] ++ [V.ref x]) (xn_of (e1.trans e2)) x3 e4 T3 (e2 _ _ h1)
      have hl' : H3 f = some (LamO f (hkF (cloP s.heap.objs.size) c') (lamE hkL)) := by
        rw [← cloH_is, ← clsP_is]
        exact hl
      refine ⟨fl, [], .ref x, rfl, rfl, k3, by decide, nx _ ⟨some x, ha.symm, k1, k2, upd_same, fun h z => ?_⟩⟩
      obtain rfl := Option.some.inj z
      exact ⟨f, HkAt.to k4 ⟨dx, _, a4, lkEq⟩, FnAt_.to k4 ⟨c', e4 _ _ hl', e4 _ _ hc⟩⟩
    rintro H2 ⟨hk, hka, x2, T2, h2, hh⟩
    refine if_mid (b := b) (fun H' => ∃ (mt : Option Addr) (f : Addr), mt.isSome = b ∧ LamX.ExtN H H' ∧ LamX.Tabs (tabs K) H' ∧ H' fl = some (.lst (refs (hk.toList ++ mt.toList))) ∧ (∀ h, hk = some h → ∃ f, HkAt K H' h f ∧ FnAt_ H' (hkF (cloP s.heap.objs.size)) (lamE hkL) f) ∧ ∀ m, mt = some m → MemAt K H' m (.mth "go" (.ref f)) ∧ FnAt_ H' (mtF (cloP s.heap.objs.size)) (lamE mtL) f) (way (i := 1) x2 rfl) (fun hb H3 e3 nx => ?_) (fun hb H3 e3 => ⟨none, 0, hb.symm, x2.trans (xn_of e3), T2.ext e3, e3 _ _ (by rw [h2]; simp), fun h z => by
      obtain ⟨f, q1, q2⟩ := hh h z
      exact ⟨f, q1.ex e3, q2.ex e3⟩, fun m z => nomatch z⟩) ?_
    · refine ⟨_, rfl, .inl ⟨rfl, _, sq_of (e3 _ _ h2)⟩, ?_⟩
      refine ⟨T2.ext e3, fun f c' H4 x4 T4 hf hl hc => fun x dx hx hdx hne => ⟨x, dx, "go", .ref f, rfl, by decide +kernel, upd_same, fun H5 a5 f5 => ⟨rfl, ?_⟩⟩⟩
      obtain ⟨m1, e5⟩ := made_mem (K := K) (mv := .mth "go" (.ref f)) hx hdx a5 f5 rfl (show goodName "go" = true by decide +kernel) rfl (by decide +kernel) (by decide +kernel)
      obtain ⟨k1, k2, k3, k4⟩ := key (zs := refs hk.toList ++ [V.ref x]) (x2.trans (xn_of e3)) x4 e5 T4 (e3 _ _ h2)
      have hl' : H4 f = some (LamO f (mtF (cloP s.heap.objs.size) c') (lamE mtL)) := by
        rw [← cloM_is, ← clsP_is]
        exact hl
      have up : ∀ b o, H2 b = some o → (∀ xs, o ≠ .lst xs) → (∀ ps, o ≠ .tbl ps) → upd H5 fl (.lst (refs hk.toList ++ [V.ref x])) b = some o := fun c o q n1 n2 => k4 c o (e5 _ _ (x4 _ _ (e3 _ _ q) n2)) n1 n2
      refine ⟨fl, _, .ref x, rfl, rfl, k3, sz_lt (by cases hk <;> simp [refs]), nx _ ⟨some x, f, hb.symm, k1, k2, by rw [upd_same]; unfold refs; simp, fun h z => ?_, fun m z => ?_⟩⟩
      · obtain ⟨g, q1, q2⟩ := hh h z
        exact ⟨g, q1.to up, q2.to up⟩
      · obtain rfl := Option.some.inj z
        exact ⟨m1.to k4, FnAt_.to k4 ⟨c', e5 _ _ hl', e5 _ _ hc⟩⟩
    rintro H3 ⟨mt, f, hmb, x3, T3, h3, hh3, hm3⟩
    refine ⟨_, rfl, fl, _, rfl, .inl ⟨sq_of h3, fun t ht => ⟨cvP s.heap.objs.size md lg n, fun c v q => ?_, fun hn => ?_⟩⟩⟩
    · have cel : ∀ y, (cxOf CX0 P w K mg base ["made", "log", "ways", "n", "found"] "_law_parts_of" (defScope s__law_parts_of) (ga K "_law_parts_of") (.ref (HkQ.cOf K (ga K "_law_parts_of"))) A outer s H E).env.cells.lookup y = (clsP s.heap.objs.size).lookup y := fun y => by
        rw [← clsP_is]
        rfl
      have scp : ∀ y, (defScope s__law_parts_of).names.lookup y = nmP.lookup y := fun y => by rw [nmP_is]
      rcases cvP_cases q with ⟨rfl, rfl⟩ | ⟨rfl, rfl⟩ | ⟨rfl, rfl⟩
      · exact ⟨0, "made", (cel _).trans (by rfl), rfl, rfl, (scp _).trans (by rfl)⟩
      · exact ⟨1, "log", (cel _).trans (by rfl), rfl, rfl, (scp _).trans (by rfl)⟩
      · exact ⟨3, "n", (cel _).trans (by rfl), rfl, rfl, (scp _).trans (by rfl)⟩
    · have e4 : Ex H3 (putC (cvP s.heap.objs.size md lg n) (upd H3 t (.tup (refs (hk.toList ++ mt.toList))))) := fun c o q => by
        have h : upd H3 t (.tup (refs (hk.toList ++ mt.toList))) c = some o := by rw [upd_ne (ne_of_none q ht)]; exact q
        cases l : (cvP s.heap.objs.size md lg n).lookup c with
        | some v => rw [(hn c v l).2] at h; cases h
        | none => rw [putC_out l]; exact h
      have t4 : putC (cvP s.heap.objs.size md lg n) (upd H3 t (.tup (refs (hk.toList ++ mt.toList)))) t = some (.tup (refs (hk.toList ++ mt.toList))) := by
        cases l : (cvP s.heap.objs.size md lg n).lookup t with
        | some v =>
          have := (hn t v l).2
          rw [upd_same] at this
          cases this
        | none => rw [putC_out l, upd_same]
      have h4 := cvAt_put (cvP s.heap.objs.size md lg n) (upd H3 t (.tup (refs (hk.toList ++ mt.toList))))
      generalize putC (cvP s.heap.objs.size md lg n) (upd H3 t (.tup (refs (hk.toList ++ mt.toList)))) = H4 at *
      have ia : iaddr ((hk.toList.map fun h => (h, none)) ++ (mt.toList.map fun m => (m, some (.mth "go" (.ref f))))) = hk.toList ++ mt.toList := by
        unfold iaddr
        rw [List.map_append, List.map_map, List.map_map]
        have i1 : ∀ (l : List Addr), List.map ((fun x : Addr × Option MemV => x.1) ∘ fun h => (h, none)) l = l := fun l => by
          induction l with
          | nil => rfl
          | cons a r ih => rw [List.map_cons, ih]; rfl
        have i2 : ∀ (l : List Addr), List.map ((fun x : Addr × Option MemV => x.1) ∘ fun m => (m, some (.mth "go" (.ref f)))) l = l := fun l => by
          induction l with
          | nil => rfl
          | cons a r ih => rw [List.map_cons, ih]; rfl
        rw [i1, i2]
      refine fin t hk mt _ ⟨n, cloP s.heap.objs.size, cvP s.heap.objs.size md lg n⟩ H4 (x3.trans (xn_of e4)) (T3.ext e4) (by rw [ia]; exact t4) ⟨⟨f, rfl⟩, fun x hx => ?_, fun h z => ?_, fun m z => ?_⟩ hka hmb rfl (cvP_st _ _ _ _) h4 fun c v l => (hn c v l).1
      · rcases List.mem_append.mp hx with hx | hx
        · obtain ⟨h, hh1, rfl⟩ := List.mem_map.mp hx
          obtain ⟨g, ⟨dx, fs, q1, _⟩, _⟩ := hh3 h (Option.mem_toList.mp hh1)
          exact ⟨dx, fs, e4 _ _ q1⟩
        · obtain ⟨m, hm1, rfl⟩ := List.mem_map.mp hx
          exact (hm3 m (Option.mem_toList.mp hm1)).1.ex e4
      · obtain ⟨g, q1, q2⟩ := hh3 h z
        exact ⟨g, q1.ex e4, q2.ex e4⟩
      · obtain ⟨q1, q2⟩ := hm3 m z
        exact ⟨f, q1.ex e4, q2.ex e4⟩
end
end K17
end

section
set_option Elab.async false
set_option linter.all false
set_option maxRecDepth 100000
set_option maxHeartbeats 4000000
namespace K17
open PySem PySem.Spec PyProof.Rows L2 He Cn Evl KeL
/-! ### a part of the heap that stands still -/
def prt (bad : List Addr) (H : Hp) : Hp := fun b => if b ∈ bad then none else match H b with
  | some (.tbl _) => none
  | o => o
theorem prt_at {bad : List Addr} {H : Hp} {b : Addr} {o : HO} (hb : b ∉ bad) (h : H b = some o) (hn : ∀ ps, o ≠ .tbl ps) : prt bad H b = some o := by
  unfold prt
  rw [if_neg hb, h]
  cases o with
  | tbl ps => exact absurd rfl (hn ps)
  | _ => rfl
theorem prt_ex {bad : List Addr} {H : Hp} : Ex (prt bad H) H := fun b o h => by
  unfold prt at h
  split at h
  · cases h
  · split at h
    · cases h
    · exact h
theorem prt_ne {bad : List Addr} {H : Hp} {b : Addr} {o : HO} (h : prt bad H b = some o) : b ∉ bad := by
  unfold prt at h
  split at h
  · cases h
  · assumption
theorem prt_nt {bad : List Addr} {H : Hp} {b : Addr} {o : HO} (h : prt bad H b = some o) : ∀ ps, o ≠ .tbl ps := fun ps e => by
  subst e
  have h1 := prt_ex _ _ h
  unfold prt at h
  rw [if_neg (prt_ne (by unfold prt; exact h)), h1] at h
  cases h
theorem prt_bad {bad : List Addr} {H : Hp} {b : Addr} (h : b ∈ bad) : prt bad H b = none := by
  unfold prt
  rw [if_pos h]
theorem prt_mono {bad : List Addr} {H H' : Hp} (f : ∀ b o, H b = some o → b ∉ bad → (∀ ps, o ≠ .tbl ps) → H' b = some o) : Ex (prt bad H) (prt bad H') := fun b o h => prt_at (prt_ne h) (f b o (prt_ex _ _ h) (prt_ne h) (prt_nt h)) (prt_nt h)
theorem prt_sub {bad bad' : List Addr} {H : Hp} (f : ∀ b, b ∈ bad' → b ∈ bad) : Ex (prt bad H) (prt bad' H) := fun b o h => prt_at (fun q => prt_ne h (f b q)) (prt_ex _ _ h) (prt_nt h)
theorem prt_add {bad : List Addr} {H : Hp} {b p : Addr} {o u : HO} (h : prt bad H b = some o) (hp : H p = some u) (hne : o ≠ u) : prt (p :: bad) H b = some o := prt_at (fun q => by
  rcases List.mem_cons.mp q with q | q
  · rw [q] at h
    have := prt_ex _ _ h
    rw [hp] at this
    exact hne (Option.some.inj this).symm
  · exact prt_ne h q) (prt_ex _ _ h) (prt_nt h)
/-- a part may stand without something that it does not hold -/
theorem prt_no {bad : List Addr} {G H : Hp} (e : Ex G H) (hb : ∀ b, b ∈ bad → G b = none) (hn : ∀ b ps, G b ≠ some (.tbl ps)) : Ex G (prt bad H) := fun b o h => prt_at (fun q => by rw [hb b q] at h; cases h) (e b o h) fun ps z => hn b ps (by rw [h, z])
/-- the address of the x-th kind -/
def kf (ka : List Addr) (x : Nat) : Addr := ka.getD x 0
theorem kf_at {ka : List Addr} {x : Nat} {a : Addr} (h : ka[x]? = some a) : kf ka x = a := by
  unfold kf
  rw [List.getD_eq_getElem?_getD, h]
  rfl
theorem kf_mem {ka : List Addr} {x : Nat} (h : x < ka.length) : ka[x]? = some (kf ka x) := by
  obtain ⟨a, ha⟩ := at_some h
  rw [kf_at ha]
  exact ha
theorem kf_app {ka : List Addr} {a : Addr} {x : Nat} (h : x < ka.length) : kf (ka ++ [a]) x = kf ka x := kf_at (by rw [List.getElem?_append_left h]; exact kf_mem h)
theorem kf_inj {ka : List Addr} (nd : ka.Nodup) {x y : Nat} (hx : x < ka.length) (hy : y < ka.length) (e : kf ka x = kf ka y) : x = y := nd_ix nd (kf_mem hx) (by rw [e]; exact kf_mem hy)
theorem kf_app_len {ka : List Addr} {a : Addr} : kf (ka ++ [a]) ka.length = a := kf_at (by rw [List.getElem?_append_right (Nat.le_refl _)]; simp)

/-! ### kinds without data -/
def AllM (ms : Mems) : Prop := ∀ x, x ∈ ms → ∃ f, x.2 = .mth "go" f
theorem fold_mem {es : List WE} : ∀ {W : List WE} {x : WE}, x ∈ es.foldl putW W → x ∈ W ∨ x ∈ es := by
  induction es with
  | nil => intro W x h; exact .inl h
  | cons e r ih =>
    intro W x h
    rcases ih h with q | q
    · rcases putW_mem q with q | q
      · exact .inl q
      · exact .inr (by rw [q]; exact List.mem_cons_self ..)
    · exact .inr (List.mem_cons_of_mem _ q)
theorem whole_m {ki : Ki} {line : List Addr} (h : ∀ b, b ∈ line → AllM (ki b).mems) : ∀ e, e ∈ wholeOf ki line → ∃ f, e.mv = .mth "go" f := fun e he => by
  unfold wholeOf at he
  rcases fold_mem he with q | q
  · cases q
  · obtain ⟨b, hb, h2⟩ := List.mem_flatMap.mp q
    unfold entsOf at h2
    obtain ⟨x, hx, rfl⟩ := List.mem_map.mp h2
    exact h b (List.mem_reverse.mp hb) x hx
theorem data_nil {W : List WE} (h : ∀ e, e ∈ W → ∃ f, e.mv = .mth "go" f) : dataOf W = [] := by
  unfold dataOf
  rw [List.filter_eq_nil_iff]
  intro e he
  obtain ⟨f, q⟩ := h e he
  rw [q]
  show ¬ false = true
  decide
theorem empty_of {H0 H : Hp} {fs : List (Str × V)} {ki : Ki} {W : List WE} (h : WhAt H0 H fs ki W) (hd : dataOf W = []) : EmptyAt H fs := by
  have h1 : posOf ki W = [] := by unfold posOf; rw [hd]; rfl
  have h2 : namOf ki W = [] := by unfold namOf; rw [hd]; rfl
  have h3 : fldsOf W = [] := by unfold fldsOf; rw [hd]; rfl
  obtain ⟨p1, a1, _, b1⟩ := h.bypos
  obtain ⟨p2, a2, _, b2⟩ := h.params
  obtain ⟨p3, a3, _, b3⟩ := h.pnames
  obtain ⟨p4, a4, _, b4⟩ := h.fields
  obtain ⟨p5, a5, _, b5⟩ := h.initonly
  rw [h1] at b1
  rw [h1, h2] at b2 b3
  rw [h3] at b4
  rw [hd] at b5
  exact ⟨p1, p2, p3, p4, p5, a1, b1, a2, b2, a3, b3, a4, b4, a5, b5⟩
theorem kx_of {K : PySem.W.Frag} {H0 H : Hp} {a dx : Addr} {n : Nat} {kd : KdV} {hk mt : Option Addr} {ki : Ki} {W : List WE} (h : Made K H0 H a dx n kd hk ki W) (hd : dataOf W = []) (hm : mthOf kd.mems "go" = mt) (hl : kd.line.length ≤ 50) : KXAt K H a ⟨kd.line, hk, mt⟩ := by
  obtain ⟨⟨dx1, d, md, fs1, g1, g2, g3, g4, g5⟩, ⟨dx2, q, m, t, fs2, k1, k2, k3, _⟩, fs0, f1, f2, f3, f4⟩ := h
  rw [f1] at g1 k1
  cases Option.some.inj g1
  cases Option.some.inj k1
  exact ⟨_, q, d, md, _, f1, f2, k2, k3, g2, g3, g4, by rw [g5.2, hm], hl, empty_of f4 hd⟩
/-! ### the items of a declaration -/
theorem parts_ok {its : Its} {hk mt : Option Addr} (h : ∃ f : Addr, its = (hk.toList.map fun h => (h, none)) ++ (mt.toList.map fun m => (m, some (.mth "go" (.ref f))))) : AllM (msOf its) ∧ hkOf its = hk ∧ (inames its).Nodup ∧ mthOf (msOf its) "go" = mt ∧ its.length ≤ 2 := by
  obtain ⟨f, rfl⟩ := h
  have d1 : decide ((MemV.mth "go" (V.ref f)).sort = ("method" : Str)) = true := by show decide (("method" : Str) = "method") = true; decide +kernel
  have d2 : decide ((MemV.mth "go" (V.ref f)).name = ("go" : Str)) = true := by show decide (("go" : Str) = "go") = true; decide +kernel
  cases hk with
  | none =>
    cases mt with
    | none => exact ⟨(fun x h => nomatch h), rfl, List.nodup_nil, rfl, Nat.zero_le _⟩
    | some m =>
      refine ⟨fun x h => ?_, rfl, ?_, ?_, by simp⟩
      · obtain rfl := List.mem_singleton.mp h
        exact ⟨_, rfl⟩
      · show [nmI (some (.mth "go" (.ref f)))].Nodup
        simp
      · show (([(m, MemV.mth "go" (V.ref f))] : Mems).find? fun x => decide (x.2.sort = ("method" : Str)) && decide (x.2.name = ("go" : Str))).map (·.1) = some m
        simp only [List.find?_cons, d1, d2]
        rfl
  | some h =>
    cases mt with
    | none =>
      refine ⟨(fun x h => nomatch h), rfl, ?_, rfl, by simp⟩
      show [nmI none].Nodup
      simp
    | some m =>
      refine ⟨fun x h => ?_, rfl, ?_, ?_, by simp⟩
      · obtain rfl := List.mem_singleton.mp h
        exact ⟨_, rfl⟩
      · show [nmI none, nmI (some (.mth "go" (.ref f)))].Nodup
        refine List.nodup_cons.mpr ⟨fun z => ?_, by simp⟩
        have z : V.non = V.str _ := List.mem_singleton.mp z
        cases z
      · show (([(m, MemV.mth "go" (V.ref f))] : Mems).find? fun x => decide (x.2.sort = ("method" : Str)) && decide (x.2.name = ("go" : Str))).map (·.1) = some m
        simp only [List.find?_cons, d1, d2]
        rfl
/-! ### the kinds of the law -/
structure KOne (K : PySem.W.Frag) (G : Hp) (md lg : Addr) (ka : List Addr) (ki : Ki) (xi : Xi) (kj : Ks_) (ls : List (List Nat)) (ways : List (Bool × Bool)) (x : Nat) : Prop where
  kd : KdAt K G (kf ka x) (ki (kf ka x))
  line : (ki (kf ka x)).line = (ls.getD x []).map (kf ka)
  mem : AllM (ki (kf ka x)).mems
  frz : (ki (kf ka x)).frz = false
  kx : KXAt K G (kf ka x) (xi (kf ka x))
  xl : (xi (kf ka x)).line = (ls.getD x []).map (kf ka)
  lm : LmAt K G (xi (kf ka x)) (kj (kf ka x))
  num : (kj (kf ka x)).i = x
  cvo : CvOf md lg (kj (kf ka x))
  cells : CvAt (kj (kf ka x)).cv G
  way : ways[x]? = some ((xi (kf ka x)).hk.isSome, (xi (kf ka x)).mt.isSome)
theorem KOne.ex {K : PySem.W.Frag} {G G' : Hp} {md lg : Addr} {ka : List Addr} {ki : Ki} {xi : Xi} {kj : Ks_} {ls : List (List Nat)} {ways : List (Bool × Bool)} {x : Nat} (e : Ex G G') (h : KOne K G md lg ka ki xi kj ls ways x) : KOne K G' md lg ka ki xi kj ls ways x :=
  ⟨h.kd.ex e, h.line, h.mem, h.frz, h.kx.ex e, h.xl, h.lm.ex e, h.num, h.cvo, CvAt.ex e h.cells, h.way⟩
structure KOk (K : PySem.W.Frag) (G : Hp) (md lg : Addr) (ka : List Addr) (ki : Ki) (xi : Xi) (kj : Ks_) (ls : List (List Nat)) (ways : List (Bool × Bool)) : Prop where
  nd : ka.Nodup
  one : ∀ x, x < ka.length → KOne K G md lg ka ki xi kj ls ways x
  dj : ∀ x, x < ka.length → ∀ y, y < ka.length → x ≠ y → ∀ c v, (kj (kf ka x)).cv.lookup c = some v → (kj (kf ka y)).cv.lookup c = none
theorem KOk.ex {K : PySem.W.Frag} {G G' : Hp} {md lg : Addr} {ka : List Addr} {ki : Ki} {xi : Xi} {kj : Ks_} {ls : List (List Nat)} {ways : List (Bool × Bool)} (e : Ex G G') (h : KOk K G md lg ka ki xi kj ls ways) : KOk K G' md lg ka ki xi kj ls ways := ⟨h.nd, fun x hx => (h.one x hx).ex e, h.dj⟩
section
variable {P : Program} {w : World} {K : PySem.W.Frag} {mg : Str → Option Value} {base : Heap}
theorem merge_of {ka : List Addr} {ab ls : List (List Nat)} {as : List Nat} (nda : ka.Nodup) (g : GoodUp ab ls ka.length) (lt : ∀ x, x ∈ as → x < ka.length) (nd : as.Nodup) :
    Mg.merge 20 ((as.map fun x => (ls.getD x []).map (kf ka)) ++ [as.map (kf ka)]) = (Mg.merge 20 (rowsOf ls as)).map (List.map (kf ka)) := by
  have hr := rows_ok g lt nd
  have e : (as.map fun x => (ls.getD x []).map (kf ka)) ++ [as.map (kf ka)] = Mg.mapR (kf ka) (rowsOf ls as) := by
    unfold Mg.mapR rowsOf
    rw [List.map_append, List.map_map]
    rfl
  rw [e]
  exact Mg.merge_map (cs := List.range ka.length) (fun x hx y hy e => kf_inj nda (List.mem_range.mp hx) (List.mem_range.mp hy) e) 20 hr.2
/-- the declaration of the next kind breaks no rule -/
theorem dcl_of {G : Hp} {m t d md lg : Addr} {its : Its} {ka : List Addr} {ki : Ki} {xi : Xi} {kj : Ks_} {ab ls : List (List Nat)} {ways : List (Bool × Bool)} {as l : List Nat} {hk mt : Option Addr} {k : KI} (hK : KOk K G md lg ka ki xi kj ls ways) (g : GoodUp ab ls ka.length) (lt : ∀ x, x ∈ as → x < ka.length) (nd : as.Nodup) (al : as.length ≤ 4)
    (hm : Mg.merge 20 (rowsOf ls as) = some l) (hl : l.length ≤ 10) (hlt : ∀ y, y ∈ l → y < ka.length) (hp : PartOk K G its hk mt k) (h1 : SqT K G m (refs (iaddr its))) (ht : SqT K G t (refs (as.map (kf ka)))) (hd : G d = some (.dK [])) :
    Dcl K G m t d its (msOf its) [] (as.map (kf ka)) ka (l.map (kf ka)) (as.map fun x => (ls.getD x []).map (kf ka)) 20 ki (fun _ => "method") := by
  have hr := rows_ok g lt nd
  obtain ⟨p1, p2, p3, p4, p5⟩ := parts_ok hp.sh
  have e : (as.map fun x => (ls.getD x []).map (kf ka)) ++ [as.map (kf ka)] = Mg.mapR (kf ka) (rowsOf ls as) := by
    unfold Mg.mapR rowsOf
    rw [List.map_append, List.map_map]
    rfl
  have hin : ∀ r, r ∈ Mg.mapR (kf ka) (rowsOf ls as) → ∃ r', r' ∈ rowsOf ls as ∧ r = r'.map (kf ka) := fun r hr => by
    obtain ⟨r', h1, h2⟩ := List.mem_map.mp hr
    exact ⟨r', h1, h2.symm⟩
  have inj : ∀ x, x < ka.length → ∀ y, y < ka.length → kf ka x = kf ka y → x = y := fun x hx y hy e => kf_inj hK.nd hx hy e
  have hltr : ∀ r', r' ∈ rowsOf ls as → ∀ y, y ∈ r' → y < ka.length := fun r' hr' y hy => List.mem_range.mp (hr.2 r' hr' y hy)
  have ndm : ∀ (l : List Nat), (∀ x, x ∈ l → x < ka.length) → l.Nodup → (l.map (kf ka)).Nodup := fun l hl nd => by
    induction l with
    | nil => exact List.nodup_nil
    | cons a l ih =>
      obtain ⟨n1, n2⟩ := List.nodup_cons.mp nd
      refine List.nodup_cons.mpr ⟨fun q => ?_, ih (fun x hx => hl x (List.mem_cons_of_mem _ hx)) n2⟩
      obtain ⟨b, hb, e⟩ := List.mem_map.mp q
      have := inj b (hl b (List.mem_cons_of_mem _ hb)) a (hl a (List.mem_cons_self ..)) e
      exact n1 (this ▸ hb)
  have len : ∀ r', r' ∈ rowsOf ls as → r'.length ≤ 10 := fun r' hr' => by
    have := nodup_len r' (List.range ka.length) (hr.1 r' hr') (hr.2 r' hr')
    rw [List.length_range] at this
    have := g.1
    omega
  have kml : ∀ b, b ∈ l.map (kf ka) → ∃ y, y < ka.length ∧ b = kf ka y := fun b hb => by
    obtain ⟨y, hy, rfl⟩ := List.mem_map.mp hb
    exact ⟨y, hlt y hy, rfl⟩
  have hall : ∀ a, a ∉ l.map (kf ka) → ∀ b, b ∈ a :: l.map (kf ka) → AllM (kiW ki a (kdOf (msOf its) [] (as.map (kf ka)) a (l.map (kf ka))) b).mems := fun a ha b hb => by
    rcases List.mem_cons.mp hb with q | q
    · rw [q, kiW_at]
      exact p1
    · obtain ⟨y, hy, rfl⟩ := kml b q
      rw [kiW_ne (fun z => ha (by rw [← z]; exact q))]
      exact (hK.one y hy).mem
  have hmg := merge_of hK.nd g lt nd
  rw [hm] at hmg
  exact {
    em := rfl
    mt := h1
    ma := hp.at_
    mn := p3
    ml := by omega
    tp := ⟨ht, by rw [List.length_map, List.length_map], fun i a l ha hl => by
      rw [List.getElem?_map] at ha hl
      cases q : as[i]? with
      | none => rw [q] at ha; cases ha
      | some x =>
        rw [q] at ha hl
        obtain rfl := Option.some.inj ha
        obtain rfl := Option.some.inj hl
        have := hK.one x (lt x (List.mem_of_getElem? q))
        show LnAt K G (kf ka x) ((ls.getD x []).map (kf ka))
        rw [← this.line]
        exact this.kd.ln⟩
    op := hd
    ok := fun k v h => by cases h
    nd := ndm as lt nd
    len := by rw [List.length_map]; omega
    ndr := by
      rw [e]
      intro r hr'
      obtain ⟨r', h1, rfl⟩ := hin r hr'
      exact ndm r' (hltr r' h1) (hr.1 r' h1)
    ll := fun l hl => by
      obtain ⟨x, hx, rfl⟩ := List.mem_map.mp hl
      rw [List.length_map]
      have : ls.getD x [] ∈ rowsOf ls as := by
        unfold rowsOf
        exact List.mem_append_left _ (List.mem_map_of_mem hx)
      have := len _ this
      omega
    kd := by
      rw [e]
      intro r hr' b hb
      obtain ⟨r', h1, rfl⟩ := hin r hr'
      obtain ⟨y, hy, rfl⟩ := List.mem_map.mp hb
      exact (hK.one y (hltr r' h1 y hy)).kd
    wi := by
      rw [e]
      intro r hr' b hb
      obtain ⟨r', h1, rfl⟩ := hin r hr'
      obtain ⟨y, hy, rfl⟩ := List.mem_map.mp hb
      exact List.mem_of_getElem? (kf_mem (hltr r' h1 y hy))
    ct := by
      rw [e]
      have := Mg.cnt_le ka (Mg.mapR (kf ka) (rowsOf ls as))
      have := g.1
      omega
    kl := by decide
    mg := hmg
    l11 := by rw [List.length_map]; omega
    s1 := fun x hx => by
      obtain ⟨f, q⟩ := p1 x hx
      rw [q]
      rfl
    s2 := fun b hb x hx => by
      obtain ⟨y, hy, rfl⟩ := kml b hb
      obtain ⟨f, q⟩ := (hK.one y hy).mem x hx
      rw [q]
      rfl
    fz := fun b hb => by
      obtain ⟨y, hy, rfl⟩ := kml b hb
      rw [(hK.one y hy).frz]
      rfl
    eq := rfl
    sz := fun a ha => by
      rw [show dataOf (wholeAt ki (msOf its) [] (as.map (kf ka)) a (l.map (kf ka))) = [] from data_nil (whole_m (hall a ha))]
      exact Nat.zero_le _
    df := fun a ha => by
      have h0 : dataOf (wholeAt ki (msOf its) [] (as.map (kf ka)) a (l.map (kf ka))) = [] := data_nil (whole_m (hall a ha))
      unfold posOf
      rw [h0]
      intro i j x y hx
      have hx : ([] : Mems)[i]? = some x := hx
      simp at hx }
end
end K17
end

section
set_option Elab.async false
set_option linter.all false
set_option maxRecDepth 100000
set_option maxHeartbeats 4000000
namespace K17
open PySem PySem.Spec PyProof.Rows L2 He Cn Evl KeL
theorem mat_xn {H H' : Hp} {d c g : Addr} {sp : Int} (x : LamX.ExtN H H') (M : MAt H d c g sp) : MAt H' d c g sp := by
  obtain ⟨q1, ⟨cs, lc, bc, q2⟩, ⟨ys, ly, q3⟩, q4⟩ := M
  exact ⟨x _ _ q1 (fun _ z => nomatch z), ⟨cs, lc, bc, x _ _ q2 (fun _ z => nomatch z)⟩, ⟨ys, ly, x _ _ q3 (fun _ z => nomatch z)⟩, q4⟩
/-- the tables stand through a draw -/
theorem tabs_fr {T : List (Addr × Str)} {H H' : Hp} {dm c gm : Addr} {sp : Int} (M : MAt H dm c gm sp) (f : Fr2 dm gm H H') (t : LamX.Tabs T H) : LamX.Tabs T H' := by
  obtain ⟨q1, _, ⟨ys, _, q3⟩, _⟩ := M
  have keep : ∀ b o, H b = some o → (∀ kvs, o ≠ .dK kvs) → (∀ xs, o ≠ .lst xs) → H' b = some o := fun b o h h1 h2 => f b o h
    (fun z => by rw [z, q1] at h; exact h1 _ (Option.some.inj h).symm) (fun z => by rw [z, q3] at h; exact h2 _ (Option.some.inj h).symm)
  intro pr hpr
  obtain ⟨ps, h1, h2, h3⟩ := t pr hpr
  refine ⟨ps, keep _ _ h1 (fun _ z => nomatch z) (fun _ z => nomatch z), h2, fun pos cv hc => ?_⟩
  obtain ⟨c, ec, hcc⟩ := h3 pos cv hc
  exact ⟨c, ec, keep _ _ hcc (fun _ z => nomatch z) (fun _ z => nomatch z)⟩
/-- dicts and lists may change -/
def TbK (H H' : Hp) : Prop := ∀ b o, H b = some o → (∀ kvs, o ≠ .dK kvs) → (∀ xs, o ≠ .lst xs) → H' b = some o
theorem tabs_k {T : List (Addr × Str)} {H H' : Hp} (keep : TbK H H') (t : LamX.Tabs T H) : LamX.Tabs T H' := by
  intro pr hpr
  obtain ⟨ps, h1, h2, h3⟩ := t pr hpr
  refine ⟨ps, keep _ _ h1 (fun _ z => nomatch z) (fun _ z => nomatch z), h2, fun pos cv hc => ?_⟩
  obtain ⟨c, ec, hcc⟩ := h3 pos cv hc
  exact ⟨c, ec, keep _ _ hcc (fun _ z => nomatch z) (fun _ z => nomatch z)⟩
theorem tbk_lst {H : Hp} {p : Addr} {xs : List V} {u : HO} (h : H p = some (.lst xs)) : TbK H (upd H p u) := fun b o hb _ h2 => by
  rw [upd_ne (fun z => by rw [z, h] at hb; exact h2 _ (Option.some.inj hb).symm)]
  exact hb
theorem tbk_dk {H : Hp} {p : Addr} {xs : List (L2.Key × V)} {u : HO} (h : H p = some (.dK xs)) : TbK H (upd H p u) := fun b o hb h1 _ => by
  rw [upd_ne (fun z => by rw [z, h] at hb; exact h1 _ (Option.some.inj hb).symm)]
  exact hb
theorem take_1 {as : List Nat} (h : as ≠ []) : ∃ x, as.take 1 = [x] ∧ x ∈ as := by
  cases as with
  | nil => exact absurd rfl h
  | cons x r => exact ⟨x, rfl, List.mem_cons_self ..⟩
/-- one line above: the merge goes through -/
theorem one_above {ab ls : List (List Nat)} {n x : Nat} (g : GoodUp ab ls n) (hx : x < n) : ∃ l, Mg.merge 20 (rowsOf ls [x]) = some l := by
  obtain ⟨as, l, O⟩ := g.2 x hx
  have hm := good_mem g x hx _ O.s
  refine ⟨x :: l, ?_⟩
  unfold rowsOf
  rw [List.map_cons, List.map_nil, getD_of O.s]
  have := nodup_len (x :: l) (List.range n) hm.1 fun y hy => List.mem_range.mpr (by have := hm.2 y hy; omega)
  rw [List.length_range] at this
  have := g.1
  exact Mg.merge_top x l 20 hm.1 (by omega)
/-- the next plan stands -/
theorem good_next {ab ls : List (List Nat)} {as l : List Nat} (g : GoodUp ab ls ab.length) (hl : ls.length = ab.length) (h9 : ab.length < 10) (lt : ∀ x, x ∈ as → x < ab.length) (nd : as.Nodup) (h4 : as.length ≤ 4) (hm : Mg.merge 20 (rowsOf ls as) = some l) : GoodUp (ab ++ [as]) (ls ++ [ab.length :: l]) (ab ++ [as]).length := by
  have re : ∀ (bs : List Nat), (∀ x, x ∈ bs → x < ab.length) → rowsOf (ls ++ [ab.length :: l]) bs = rowsOf ls bs := fun bs hb => by
    unfold rowsOf
    congr 1
    apply List.map_congr_left
    intro x hx
    rw [List.getD_eq_getElem?_getD, List.getD_eq_getElem?_getD, List.getElem?_append_left (by have := hb x hx; omega)]
  refine ⟨by rw [List.length_append]; show _ + 1 ≤ 10; omega, fun i hi => ?_⟩
  rw [List.length_append] at hi
  have hi : i < ab.length + 1 := hi
  by_cases hia : i < ab.length
  · obtain ⟨bs, l', O⟩ := g.2 i hia
    exact ⟨bs, l', by rw [List.getElem?_append_left hia]; exact O.a, by rw [List.getElem?_append_left (by omega)]; exact O.s, O.lt, O.nd, O.len, by rw [re bs fun x hx => by have := O.lt x hx; omega]; exact O.mg⟩
  · have : i = ab.length := by omega
    subst this
    exact ⟨as, l, by rw [List.getElem?_append_right (Nat.le_refl _)]; simp, by rw [List.getElem?_append_right (by omega), hl]; simp, lt, nd, h4, by rw [re as lt]; exact hm⟩
section
variable {dm c gm : Addr} {G G' H H1 H2 : Hp} {sp sp' : Int}
theorem fr2_ex (e : Ex H H1) : Fr2 dm gm H H1 := fun b o h _ _ => e b o h
theorem Fr2.g (f : Fr2 dm gm H H1) (eG : Ex G H) (gd : G dm = none) (gg : G gm = none) : Ex G H1 := fun b o h =>
  f b o (eG b o h) (fun q => by rw [q, gd] at h; cases h) (fun q => by rw [q, gg] at h; cases h)
theorem fresh_m {p : Addr} (M : MAt H1 dm c gm sp) (f : Fr2 dm gm H H1) (hp : H1 p = none) : H p = none := by
  cases q : H p with
  | none => rfl
  | some u =>
    by_cases z1 : p = dm
    · rw [z1, M.ob] at hp; cases hp
    · by_cases z2 : p = gm
      · obtain ⟨gs', _, q5⟩ := M.great
        rw [z2, q5] at hp; cases hp
      · rw [f p u q z1 z2] at hp; cases hp
theorem MAt.dm_ne {p : Addr} (M : MAt H dm c gm sp) (hp : H p = none) : p ≠ dm := fun q => by rw [q, M.ob] at hp; cases hp
theorem MAt.gm_ne {p : Addr} (M : MAt H dm c gm sp) (hp : H p = none) : p ≠ gm := fun q => by
  obtain ⟨gs', _, q5⟩ := M.great
  rw [q, q5] at hp; cases hp
theorem Fr2.mut {p : Addr} {o : HO} (f : Fr2 dm gm H H1) (hp : H p = none) : Fr2 dm gm H (upd H1 p o) := fun b u h h1 h2 => by
  rw [upd_ne (ne_of_none h hp)]
  exact f b u h h1 h2
theorem MAt.mut {p : Addr} {o : HO} (M : MAt H dm c gm sp) (h1 : p ≠ dm) (h2 : p ≠ gm) (h3 : p ≠ c) : MAt (upd H p o) dm c gm sp := by
  obtain ⟨q1, ⟨cs, lc, bc, q2⟩, ⟨ys, ly, q3⟩, q4⟩ := M
  exact ⟨by rw [upd_ne h1.symm]; exact q1, ⟨cs, lc, bc, by rw [upd_ne h3.symm]; exact q2⟩, ⟨ys, ly, by rw [upd_ne h2.symm]; exact q3⟩, q4⟩
theorem MAt.c_ne {p : Addr} (M : MAt H dm c gm sp) (hp : H p = none) : p ≠ c := fun q => by
  obtain ⟨gs', _, _, q5⟩ := M.cells
  rw [q, q5] at hp; cases hp
end
section
variable {K : PySem.W.Frag} {dm c gm p q lg wl : Addr} {ds ka wt : List Addr} {ab ls : List (List Nat)} {ways : List (Bool × Bool)} {ki : Ki} {xi : Xi} {kj : Ks_} {G G' H H' : Hp} {sp sp' : Int}
/-- the plans written so far -/
def PlsAt (G : Hp) (ds : List Addr) (ab : List (List Nat)) : Prop := ∀ (i : Nat) (d : Addr) (as : List Nat), ds[i]? = some d → ab[i]? = some as →
  ∃ (kvs : List (L2.Key × V)) (la : Addr), G d = some (.dK kvs) ∧ valV kvs (.inr ("above" : Str)) = some (.ref la) ∧ G la = some (.lst (nts as))
theorem PlsAt.ex (e : Ex G G') (h : PlsAt G ds ab) : PlsAt G' ds ab := fun i d as a b => by
  obtain ⟨kvs, la, q1, q2, q3⟩ := h i d as a b
  exact ⟨kvs, la, e _ _ q1, q2, e _ _ q3⟩
/-- which of them shall have a hook, a method -/
def WysAt (K : PySem.W.Frag) (G : Hp) (wt : List Addr) (ways : List (Bool × Bool)) : Prop := ∀ (i : Nat) (t : Addr) (w : Bool × Bool), wt[i]? = some t → ways[i]? = some w → SqT K G t [.bl w.1, .bl w.2]
theorem WysAt.ex (e : Ex G G') (h : WysAt K G wt ways) : WysAt K G' wt ways := fun i t w a b => ex_t e (h i t w a b)
abbrev bads (dm gm p q lg wl : Addr) : List Addr := [dm, gm, p, q, lg, wl]
/-- while the plans are written and the kinds are made -/
structure Bl (K : PySem.W.Frag) (dm gm p q lg wl : Addr) (ds ka wt : List Addr) (ab ls : List (List Nat)) (ways : List (Bool × Bool)) (ki : Ki) (xi : Xi) (kj : Ks_) (G H : Hp) : Prop where
  ex : Ex G H
  bd : ∀ b, b ∈ bads dm gm p q lg wl → G b = none
  gt : ∀ b ps, G b ≠ some (.tbl ps)
  hp : H p = some (.lst (refs ds))
  hq : H q = some (.lst (refs ka))
  hl : H lg = some (.lst [])
  hw : H wl = some (.lst (refs wt))
  len : ds.length = ab.length
  lls : ls.length = ab.length
  lwy : wt.length = ways.length
  good : GoodUp ab ls ab.length
  pl : PlsAt G ds ab
  wy : WysAt K G wt ways
  kk : KOk K G q lg ka ki xi kj ls ways
/-- the names apart -/
structure Ap (dm c gm p q lg wl : Addr) : Prop where
  ap : p ≠ dm ∧ p ≠ c ∧ p ≠ gm
  aq : q ≠ dm ∧ q ≠ c ∧ q ≠ gm
  al : lg ≠ dm ∧ lg ≠ c ∧ lg ≠ gm
  aw : wl ≠ dm ∧ wl ≠ c ∧ wl ≠ gm
  pq : p ≠ q
  pl : p ≠ lg
  pw : p ≠ wl
  ql : q ≠ lg
  qw : q ≠ wl
  lw : lg ≠ wl
theorem Bl.e (B : Bl K dm gm p q lg wl ds ka wt ab ls ways ki xi kj G H) (e : Ex H H') : Bl K dm gm p q lg wl ds ka wt ab ls ways ki xi kj G H' := ⟨B.ex.trans e, B.bd, B.gt, e _ _ B.hp, e _ _ B.hq, e _ _ B.hl, e _ _ B.hw, B.len, B.lls, B.lwy, B.good, B.pl, B.wy, B.kk⟩
theorem Bl.xn (B : Bl K dm gm p q lg wl ds ka wt ab ls ways ki xi kj G H) (x : LamX.ExtN H H') : Bl K dm gm p q lg wl ds ka wt ab ls ways ki xi kj G H' :=
  ⟨fun b o h => x b o (B.ex b o h) fun ps z => B.gt b ps (z ▸ h), B.bd, B.gt, x _ _ B.hp (fun _ z => nomatch z), x _ _ B.hq (fun _ z => nomatch z), x _ _ B.hl (fun _ z => nomatch z), x _ _ B.hw (fun _ z => nomatch z), B.len, B.lls, B.lwy, B.good, B.pl, B.wy, B.kk⟩
theorem Bl.g1 (B : Bl K dm gm p q lg wl ds ka wt ab ls ways ki xi kj G H) : G dm = none := B.bd _ (by simp)
theorem Bl.g2 (B : Bl K dm gm p q lg wl ds ka wt ab ls ways ki xi kj G H) : G gm = none := B.bd _ (by simp)
theorem Bl.fr (B : Bl K dm gm p q lg wl ds ka wt ab ls ways ki xi kj G H) (A : Ap dm c gm p q lg wl) (f : Fr2 dm gm H H') : Bl K dm gm p q lg wl ds ka wt ab ls ways ki xi kj G H' :=
  ⟨f.g B.ex B.g1 B.g2, B.bd, B.gt, f _ _ B.hp A.ap.1 A.ap.2.2, f _ _ B.hq A.aq.1 A.aq.2.2, f _ _ B.hl A.al.1 A.al.2.2, f _ _ B.hw A.aw.1 A.aw.2.2, B.len, B.lls, B.lwy, B.good, B.pl, B.wy, B.kk⟩
/-- what G holds stands in any heap above it, the barred and the tables left out -/
theorem Bl.up (B : Bl K dm gm p q lg wl ds ka wt ab ls ways ki xi kj G H) (e : Ex G H') : Ex G (prt (bads dm gm p q lg wl) H') := prt_no e B.bd B.gt
theorem prt_gt {bad : List Addr} {b : Addr} {ps : Array Value} : prt bad H b ≠ some (.tbl ps) := fun z => prt_nt z ps rfl
def tTen (K : PySem.W.Frag) : TE := tOp (rIxL K) (tLst (tCons (tC (.int 0)) (tCons (tC (.int 1)) (tCons (tC (.int 2)) (tCons (tC (.int 3)) tNil))))) (tCall spDraw [] E0 (tCons (tVar 1) (tCons (tC (.int 4)) tNil)))
theorem rd_ten {σ : L2.St} (v1 : σ[1]? = some (some (.ref dm))) : ∀ H1 sp1, MAt H1 dm c gm sp1 → 0 ≤ sp1 → sp1 < 400000 → ∀ Q : VK, (∀ (j : Nat) H2, j ≤ 3 → MAt H2 dm c gm (sp1 + 1) → Fr2 dm gm H1 H2 → Q (.int (j : Int)) H2) → tTen K σ H1 Q := fun H1 sp1 M s0 s1 Q k => by
  refine ⟨by show 4 ≤ sizeLine; decide, fun l hl => ⟨_, v1, dm, c, gm, sp1, 4, rfl, mat_ex (Ex.new hl) M, s0, by omega, by decide, by decide, fun r H2 r0 r1 M2 f2 => ?_⟩⟩
  obtain ⟨j, rfl⟩ : ∃ j : Nat, r = (j : Int) := ⟨r.toNat, by omega⟩
  refine ⟨l, [.int 0, .int 1, .int 2, .int 3], (j : Int), .int (j : Int), rfl, rfl, sq_of (f2 l _ upd_same (M.dm_ne hl) (M.gm_ne hl)), ?_, k j H2 (by omega) M2 ((fr2_ex (Ex.new hl)).trans f2)⟩
  refine at_of (j := j) rfl ?_
  match j, r1 with
  | 0, _ => rfl
  | 1, _ => rfl
  | 2, _ => rfl
  | 3, _ => rfl
  | j + 4, h => exact absurd h (by omega)
def tCut (K : PySem.W.Frag) (tn te : TE) : TE := tSl (rSlL K) (tCall (spUp K) [] E0 (tCons (tVar 1) (tCons (tCB rLR (tCons (tCB rR1 (tCons tn tNil)) tNil)) tNil))) tNoPart (tPart te)
/-- _law_mixed_up(m, list(range(n)))[:..] -/
theorem rd_cut {σ : L2.St} {tn te : TE} {n b : Nat} {Q : VK} (v1 : σ[1]? = some (some (.ref dm))) (hn : Ev tn σ H (.int (n : Int))) (h10 : n ≤ 10) (M : MAt H dm c gm sp) (s0 : 0 ≤ sp) (s1 : sp < 300000)
    (he : ∀ H1 sp1, MAt H1 dm c gm sp1 → 0 ≤ sp1 → sp1 < 400000 → ∀ Q : VK, (∀ (j : Nat) H2, j ≤ b → MAt H2 dm c gm (sp1 + 1) → Fr2 dm gm H1 H2 → Q (.int (j : Int)) H2) → te σ H1 Q)
    (k : ∀ (pc : Addr) (as : List Nat) (H' : Hp) (sp' : Int), as.Nodup → (∀ x, x ∈ as → x < n) → as.length ≤ b → H pc = none → Fr2 dm gm H H' → MAt H' dm c gm sp' → sp ≤ sp' → sp' ≤ sp + 20 → H' pc = some (.lst (nts as)) → Q (.ref pc) H') : tCut K tn te σ H Q := by
  refine ⟨_, v1, ?_⟩
  refine hn H (Ex.refl H) _ fun H1 e1 => ⟨(n : Int), rfl, fun rg hrg => ⟨rg, n, rfl, upd_same, by omega, fun lg hlg => ?_⟩⟩
  have e2 : Ex H1 (upd H1 rg (.rng 0 (n : Int))) := Ex.new hrg
  have e3 : Ex (upd H1 rg (.rng 0 (n : Int))) (upd (upd H1 rg (.rng 0 (n : Int))) lg (.lst ((List.range n).map fun (i : Nat) => V.int (i : Int)))) := Ex.new hlg
  have e03 := (e1.trans e2).trans e3
  generalize hH3 : upd (upd H1 rg (.rng 0 (n : Int))) lg (.lst ((List.range n).map fun (i : Nat) => V.int (i : Int))) = H3 at *
  have hlg3 : H3 lg = some (.lst (nts (List.range n))) := by rw [← hH3, upd_same]; rfl
  refine ⟨dm, c, gm, lg, sp, nts (List.range n), rfl, mat_ex e03 M, s0, by omega, sq_of hlg3, by rw [nts_len, List.length_range]; omega, fun py ys H4 hperm hpy M4 h4 f4 => ?_⟩
  rw [nts_len, List.length_range] at M4
  obtain ⟨zs, rfl, hz⟩ := perm_nts hperm
  have hpydm : py ≠ dm := (mat_ex e03 M).dm_ne hpy
  have hpygm : py ≠ gm := (mat_ex e03 M).gm_ne hpy
  refine he H4 (sp + (n : Int)) M4 (by omega) (by omega) _ fun j H5 hj M5 f5 => ?_
  refine ⟨_, rfl, ?_⟩
  have h5 := f5 _ _ h4 hpydm hpygm
  refine ⟨py, nts zs, rfl, sq_of h5, fun pc hpc => ?_⟩
  have ec : cutV (nts zs) none (some (j : Int)) = nts (zs.take j) := by
    rw [cut_take]
    unfold nts
    rw [List.map_take]
  rw [ec]
  have fr : Fr2 dm gm H H5 := ((fr2_ex e03).trans f4).trans f5
  have pcH : H pc = none := fresh_m M5 fr hpc
  refine k pc (zs.take j) _ (sp + (n : Int) + 1) ?_ (fun x hx => ?_) ?_ pcH (fr.trans (fr2_ex (Ex.new hpc))) (mat_ex (Ex.new hpc) M5) (by omega) (by omega) upd_same
  · exact (hz.nodup_iff.mpr List.nodup_range).sublist (List.take_sublist _ _)
  · exact List.mem_range.mp (hz.mem_iff.mp (List.mem_of_mem_take hx))
  · rw [List.length_take]
    omega
def tPlanN : TE := tDisp [(tC (.str "name"), tOp rAddS (tC (.str "K")) (tCB rStrI (tCons (tVar 7) tNil))), (tC (.str "members"), tLst tNil), (tC (.str "above"), tVar 8), (tC (.str "options"), tDNewK)]
theorem rd_planN {σ : L2.St} {n : Nat} {la : Addr} (hn : n < 8) (v5 : σ[7]? = some (some (.int (n : Int)))) (v6 : σ[8]? = some (some (.ref la))) {Q : VK}
    (k : ∀ (dn lm lo : Addr) (H' : Hp), H dn = none → Ex H H' → H' dn = some (.dK (planK (kname n) lm la lo)) → Q (.ref dn) H') : tPlanN σ H Q := by
  intro dn hdn
  refine ⟨_, v5, (n : Int), rfl, ?_, _, _, rfl, rfl, len_kname hn, by show 0 ≤ sizeLine; decide, fun lm hlm => ⟨_, v6, fun lo hlo => ?_⟩⟩
  · have : (n : Int).natAbs = n := Int.natAbs_natCast n
    rw [this]
    have : n.log2 ≤ n := Nat.log2_le_self n
    omega
  have ed : Ex H (upd H dn (.dK [])) := Ex.new hdn
  have em : Ex (upd H dn (.dK [])) (upd (upd H dn (.dK [])) lm (.lst [])) := Ex.new hlm
  have eo : Ex (upd (upd H dn (.dK [])) lm (.lst [])) (upd (upd (upd H dn (.dK [])) lm (.lst [])) lo (.dK [])) := Ex.new hlo
  refine ⟨((em.trans eo)) _ _ upd_same, planK (kname n) lm la lo, rfl, by show 4 ≤ 15; decide, ?_⟩
  rw [plan_merge]
  exact k dn lm lo _ hdn (Ex.mut ((ed.trans em).trans eo) hdn) upd_same
end
end K17
end

section
set_option Elab.async false
set_option linter.all false
set_option maxRecDepth 100000
set_option maxHeartbeats 4000000
namespace K17
open PySem PySem.Spec PyProof.Rows L2 He Cn Evl KeL
section
variable {K : PySem.W.Frag} {dm c gm p q lg wl : Addr} {ds ka wt : List Addr} {ab ls : List (List Nat)} {ways : List (Bool × Bool)} {ki : Ki} {xi : Xi} {kj : Ks_} {G G' H H' : Hp} {sp sp' : Int}
theorem pls_app {dn lb : Addr} {bs : List Nat} {kvs : List (L2.Key × V)} (hl : ds.length = ab.length) (h : PlsAt G ds ab) (h1 : G dn = some (.dK kvs)) (h2 : valV kvs (.inr ("above" : Str)) = some (.ref lb)) (h3 : G lb = some (.lst (nts bs))) : PlsAt G (ds ++ [dn]) (ab ++ [bs]) := fun i d as hd has => by
  by_cases hi : i < ds.length
  · rw [List.getElem?_append_left hi] at hd
    rw [List.getElem?_append_left (by omega)] at has
    exact h i d as hd has
  · rw [List.getElem?_append_right (by omega)] at hd
    have ei : i - ds.length = 0 := by
      have := (List.getElem?_eq_some_iff.mp hd).1
      simp at this
      omega
    rw [ei] at hd
    obtain rfl : dn = d := by simpa using hd
    rw [List.getElem?_append_right (by omega), ← hl, ei] at has
    obtain rfl : bs = as := by simpa using has
    exact ⟨kvs, lb, h1, h2, h3⟩
theorem at_lastN {dn : Addr} (hl : ds.length = ab.length) : atI (refs (ds ++ [dn])) (ab.length : Int) = some (.ref dn) := at_of (j := ab.length) rfl (at_refs (by
  rw [List.getElem?_append_right (by omega)]
  simp [hl]))
theorem kk_ls {r : List Nat} {md lg : Addr} (hl : ka.length ≤ ls.length) (h : KOk K G md lg ka ki xi kj ls ways) : KOk K G md lg ka ki xi kj (ls ++ [r]) ways := ⟨h.nd, fun x hx => by
  have e : (ls ++ [r]).getD x [] = ls.getD x [] := by
    rw [List.getD_eq_getElem?_getD, List.getD_eq_getElem?_getD, List.getElem?_append_left (by omega)]
  have O := h.one x hx
  exact ⟨O.kd, by rw [e]; exact O.line, O.mem, O.frz, O.kx, by rw [e]; exact O.xl, O.lm, O.num, O.cvo, O.cells, O.way⟩, h.dj⟩
theorem kk_wy {r : Bool × Bool} {md lg : Addr} (hl : ka.length ≤ ways.length) (h : KOk K G md lg ka ki xi kj ls ways) : KOk K G md lg ka ki xi kj ls (ways ++ [r]) := ⟨h.nd, fun x hx => by
  have O := h.one x hx
  exact ⟨O.kd, O.line, O.mem, O.frz, O.kx, O.xl, O.lm, O.num, O.cvo, O.cells, by rw [List.getElem?_append_left (by omega)]; exact O.way⟩, h.dj⟩
theorem mat_dk {dn : Addr} {kvs : List (L2.Key × V)} {u : HO} (M : MAt H' dm c gm sp) (h0 : H dn = none) (M0 : MAt H dm c gm sp') (hd : H' dn = some (.dK kvs)) : MAt (upd H' dn u) dm c gm sp := by
  refine M.mut (M0.dm_ne h0) (M0.gm_ne h0) fun z => ?_
  obtain ⟨cs, _, _, q2⟩ := M.cells
  rw [z, q2] at hd
  cases hd
def tPut (K : PySem.W.Frag) : TS := tDrop (tBM K "list" rAppend (tVar 3) (tCons tPlanN tNil))
def tFix (K : PySem.W.Frag) : TS := tIfS (tB (tIsN (tCall (spLine 10) [] E0 (tCons (tVar 3) (tCons (tVar 7) tNil))))) (sDPut (tOp (rIxL K) (tVar 3) (tVar 7)) (tC (.str "above")) (tSl (rSlL K) (tVar 8) tNoPart (tPart (tC (.int 1))))) tNext
theorem rd_put {D : Ends} {tz : TS} {va v2 : Option V} {la : Addr} {as : List Nat} (B : Bl K dm gm p q lg wl ds ka wt ab ls ways ki xi kj G H) (A : Ap dm c gm p q lg wl) (hkl : ka.length = ab.length) (h8 : ab.length < 8) (M : MAt H dm c gm sp) (hT : LamX.Tabs (tabs K) H)
    (hnd : as.Nodup) (hlt : ∀ x, x ∈ as → x < ab.length) (hlen : as.length ≤ 3) (hla : H la = some (.lst (nts as))) (a0 : la ∉ bads dm gm p q lg wl)
    (k : ∀ (H' : Hp) (ds' : List Addr) (ab' ls' : List (List Nat)) (G' : Hp), Bl K dm gm p q lg wl ds' ka wt ab' ls' ways ki xi kj G' H' → ab'.length = ab.length + 1 → MAt H' dm c gm sp → LamX.Tabs (tabs K) H' → tz D [va, some (.ref dm), v2, some (.ref p), some (.ref q), some (.ref lg), some (.ref wl), some (.int (ab.length : Int)), some (.ref la), none] H') :
    tSeq (tPut K) (tSeq (tFix K) tz) D [va, some (.ref dm), v2, some (.ref p), some (.ref q), some (.ref lg), some (.ref wl), some (.int (ab.length : Int)), some (.ref la), none] H := by
  refine ⟨_, rfl, .inl ⟨rfl, _, sq_of B.hp⟩, ?_⟩
  refine rd_planN h8 rfl rfl fun dn lm lo H1 n1 e1 h1 => ⟨p, refs ds, .ref dn, rfl, rfl, e1 _ _ B.hp, sz_lt (by unfold refs; rw [List.length_map]; have := B.len; omega), ?_⟩
  have M1 := mat_ex e1 M
  have eds : refs ds ++ [.ref dn] = refs (ds ++ [dn]) := by unfold refs; simp
  rw [eds]
  have M2 : MAt (upd H1 p (.lst (refs (ds ++ [dn])))) dm c gm sp := M1.mut A.ap.1 A.ap.2.2 A.ap.2.1
  have T2 : LamX.Tabs (tabs K) (upd H1 p (.lst (refs (ds ++ [dn])))) := tabs_k (tbk_lst (e1 _ _ B.hp)) (hT.ext e1)
  have np : dn ≠ p := (ne_of_none B.hp n1).symm
  have nq : dn ≠ q := (ne_of_none B.hq n1).symm
  have nl : dn ≠ lg := (ne_of_none B.hl n1).symm
  have nw : dn ≠ wl := (ne_of_none B.hw n1).symm
  have nla : dn ≠ la := (ne_of_none hla n1).symm
  have a3 : la ≠ p := fun z => a0 (by simp [z])
  have ndn : dn ∉ bads dm gm p q lg wl := by
    have := M.dm_ne n1
    have := M.gm_ne n1
    simp [*]
  have eG2 : Ex G (upd H1 p (.lst (refs (ds ++ [dn])))) := Ex.mut (B.ex.trans e1) (B.bd _ (by simp))
  have hp2 : upd H1 p (.lst (refs (ds ++ [dn]))) p = some (.lst (refs (ds ++ [dn]))) := upd_same
  have hq2 : upd H1 p (.lst (refs (ds ++ [dn]))) q = some (.lst (refs ka)) := by rw [upd_ne A.pq.symm]; exact e1 _ _ B.hq
  have hl2 : upd H1 p (.lst (refs (ds ++ [dn]))) lg = some (.lst []) := by rw [upd_ne A.pl.symm]; exact e1 _ _ B.hl
  have hw2 : upd H1 p (.lst (refs (ds ++ [dn]))) wl = some (.lst (refs wt)) := by rw [upd_ne A.pw.symm]; exact e1 _ _ B.hw
  have d2 : upd H1 p (.lst (refs (ds ++ [dn]))) dn = some (.dK (planK (kname ab.length) lm la lo)) := by rw [upd_ne np]; exact h1
  have la2 : upd H1 p (.lst (refs (ds ++ [dn]))) la = some (.lst (nts as)) := by rw [upd_ne a3]; exact e1 _ _ hla
  have gdn : G dn = none := by
    cases z : G dn with
    | none => rfl
    | some u => rw [B.ex _ _ z] at n1; cases n1
  generalize upd H1 p (.lst (refs (ds ++ [dn]))) = H2 at *
  -- the state with a list of those above
  have made : ∀ (H' : Hp) (lb : Addr) (bs l : List Nat), Ex G H' → H' p = some (.lst (refs (ds ++ [dn]))) → H' q = some (.lst (refs ka)) → H' lg = some (.lst []) → H' wl = some (.lst (refs wt)) → H' dn = some (.dK (planK (kname ab.length) lm lb lo)) → H' lb = some (.lst (nts bs)) → lb ∉ bads dm gm p q lg wl →
      (∀ x, x ∈ bs → x < ab.length) → bs.Nodup → bs.length ≤ 4 → Mg.merge 20 (rowsOf ls bs) = some l → Bl K dm gm p q lg wl (ds ++ [dn]) ka wt (ab ++ [bs]) (ls ++ [ab.length :: l]) ways ki xi kj (prt (bads dm gm p q lg wl) H') H' := fun H' lb bs l eG hp hq hl hw hd hlb k1 lt nd len hm => by
    have up := B.up eG
    refine ⟨prt_ex, fun b hb => prt_bad hb, fun b ps => prt_gt, hp, hq, hl, hw, by rw [List.length_append, List.length_append, B.len]; rfl, by rw [List.length_append, List.length_append, B.lls]; rfl, B.lwy, good_next B.good B.lls (by omega) lt nd len hm,
      pls_app B.len (B.pl.ex up) (prt_at ndn hd (fun _ z => nomatch z)) plan_above (prt_at k1 hlb (fun _ z => nomatch z)), B.wy.ex up, kk_ls (by rw [B.lls, hkl]; exact Nat.le_refl _) (B.kk.ex up)⟩
  have hPl2 : PlAt H2 p (ab ++ [as]) := ⟨ds ++ [dn], hp2, by rw [List.length_append, List.length_append, B.len]; rfl, pls_app B.len (B.pl.ex eG2) d2 plan_above la2⟩
  have gA : GoodUp (ab ++ [as]) ls ab.length := ⟨B.good.1, fun i hi => by
    obtain ⟨bs, l, O⟩ := B.good.2 i hi
    exact ⟨bs, l, ⟨by rw [List.getElem?_append_left hi]; exact O.a, O.s, O.lt, O.nd, O.len, O.mg⟩⟩⟩
  have len1 : ∀ (bs : List Nat), (ab ++ [bs]).length = ab.length + 1 := fun bs => by rw [List.length_append]; rfl
  -- if _law_line(plans, n) is None
  cases hm : Mg.merge 20 (rowsOf ls as) with
  | some l =>
    refine ⟨_, rfl, _, rfl, p, ab.length, ab ++ [as], ls, as, rfl, by omega, hPl2, gA, by rw [List.getElem?_append_right (Nat.le_refl _)]; simp, hlt, hnd, by omega, by rw [len1]; omega, fun hn => (by rw [hm] at hn; cases hn), fun l' _ qq H5 _ e5 _ => ⟨_, rfl, ?_⟩⟩
    refine iteF ?_
    exact k H5 _ _ _ _ (made H5 la as l (eG2.trans e5) (e5 _ _ hp2) (e5 _ _ hq2) (e5 _ _ hl2) (e5 _ _ hw2) (e5 _ _ d2) (e5 _ _ la2) a0 hlt hnd (by omega) hm) (len1 as) (mat_ex e5 M2) (T2.ext e5)
  | none =>
    refine ⟨_, rfl, _, rfl, p, ab.length, ab ++ [as], ls, as, rfl, by omega, hPl2, gA, by rw [List.getElem?_append_right (Nat.le_refl _)]; simp, hlt, hnd, by omega, by rw [len1]; omega, fun _ H5 e5 => ⟨_, rfl, ?_⟩, fun l' hl' => (by rw [hm] at hl'; cases hl')⟩
    refine iteT ?_
    have asne : as ≠ [] := by
      intro z
      subst z
      have : Mg.merge 20 (rowsOf ls []) = some [] := rfl
      rw [this] at hm
      cases hm
    obtain ⟨x, hx1, hx2⟩ := take_1 asne
    obtain ⟨l, hl⟩ := one_above B.good (hlt x hx2)
    have la5 := e5 _ _ la2
    refine ⟨_, rfl, 1, rfl, la, nts as, rfl, sq_of la5, fun pe hpe => ?_⟩
    rw [cut_take1, hx1]
    have hp5 := e5 _ _ hp2
    have hq5 := e5 _ _ hq2
    have d5 := e5 _ _ d2
    have M5 := mat_ex e5 M2
    have hped : pe ≠ dn := (ne_of_none d5 hpe).symm
    have hpb : pe ∉ bads dm gm p q lg wl := by
      have b1 := (ne_of_none hp5 hpe).symm
      have b2 := (ne_of_none hq5 hpe).symm
      have b3 := (ne_of_none (e5 _ _ hl2) hpe).symm
      have b4 := (ne_of_none (e5 _ _ hw2) hpe).symm
      have b5 := M5.dm_ne hpe
      have b6 := M5.gm_ne hpe
      simp [b1, b2, b3, b4, b5, b6]
    have e6 : Ex H5 (upd H5 pe (.lst (nts [x]))) := Ex.new hpe
    have h6e : upd H5 pe (.lst (nts [x])) pe = some (.lst (nts [x])) := upd_same
    generalize upd H5 pe (.lst (nts [x])) = H6 at *
    have hp6 := e6 _ _ hp5
    have d6 := e6 _ _ d5
    refine ⟨_, rfl, _, rfl, p, _, _, .ref dn, rfl, rfl, sq_of hp6, at_lastN B.len, dn, _, rfl, DPut.k (k := .inr "above") d6 (by show 4 < sizeLine; decide), ?_⟩
    rw [plan_put]
    have e56 := e5.trans e6
    exact k _ _ _ _ _ (made _ pe [x] l (Ex.mut (eG2.trans e56) gdn) (by rw [upd_ne np.symm]; exact hp6) (by rw [upd_ne nq.symm]; exact e56 _ _ hq2) (by rw [upd_ne nl.symm]; exact e56 _ _ hl2) (by rw [upd_ne nw.symm]; exact e56 _ _ hw2) upd_same (by rw [upd_ne hped]; exact h6e) hpb (fun y hy => by rw [List.mem_singleton.mp hy]; exact hlt x hx2) (by simp) (by show 1 ≤ 4; decide) hl) (len1 [x]) (mat_dk (mat_ex e6 M5) n1 M d6) (tabs_k (tbk_dk d6) (T2.ext e56))
end
end K17
end

section
set_option Elab.async false
set_option linter.all false
set_option maxRecDepth 100000
set_option maxHeartbeats 4000000
namespace K17
open PySem PySem.Spec PyProof.Rows L2 He Cn Evl KeL
section
variable {K : PySem.W.Frag} {dm c gm p q lg wl : Addr} {ds ka wt : List Addr} {ab ls : List (List Nat)} {ways : List (Bool × Bool)} {ki : Ki} {xi : Xi} {kj : Ks_} {G G' H H' : Hp} {sp sp' : Int}
/-! ### the ways of a kind -/
def tGt (n : Int) : TE := tOp (rI0 fun i j => .bl (decide (j < i))) (tCall spDraw [] E0 (tCons (tVar 1) (tCons (tC (.int n)) tNil))) (tC (.int 0))
def tWays (K : PySem.W.Frag) : TS := tDrop (tBM K "list" rAppend (tVar 6) (tCons (tTup (tCons (tGt 3) (tCons (tGt 3) tNil))) tNil))
theorem rd_ways {D : Ends} {tz : TS} {va v2 v7 v8 : Option V} (B : Bl K dm gm p q lg wl ds ka wt ab ls ways ki xi kj G H) (A : Ap dm c gm p q lg wl) (hkl : ka.length ≤ ways.length) (h8 : ways.length < 8) (M : MAt H dm c gm sp) (s0 : 0 ≤ sp) (s1 : sp < 300000) (hT : LamX.Tabs (tabs K) H)
    (k : ∀ (H' : Hp) (wt' : List Addr) (w : Bool × Bool) (G' : Hp), Bl K dm gm p q lg wl ds ka wt' ab ls (ways ++ [w]) ki xi kj G' H' → MAt H' dm c gm (sp + 2) → LamX.Tabs (tabs K) H' → tz D [va, some (.ref dm), v2, some (.ref p), some (.ref q), some (.ref lg), some (.ref wl), v7, v8, none] H') :
    tSeq (tWays K) tz D [va, some (.ref dm), v2, some (.ref p), some (.ref q), some (.ref lg), some (.ref wl), v7, v8, none] H := by
  refine ⟨_, rfl, .inl ⟨rfl, _, sq_of B.hw⟩, ?_⟩
  refine ⟨_, rfl, dm, c, gm, sp, 3, rfl, M, s0, by omega, by decide, by decide, fun r H1 r0 r1 M1 f1 => ⟨r, 0, rfl, rfl, ?_⟩⟩
  refine ⟨_, rfl, dm, c, gm, sp + 1, 3, rfl, M1, by omega, by omega, by decide, by decide, fun r2 H2 r20 r21 M2 f2 => ⟨r2, 0, rfl, rfl, ?_⟩⟩
  refine ⟨by show 2 ≤ sizeLine; decide, fun t ht => ?_⟩
  have B2 := (B.fr A f1).fr A f2
  have e3 : Ex H2 (upd H2 t (.tup [V.bl (decide (0 < r)), V.bl (decide (0 < r2))])) := Ex.new ht
  have h3 : upd H2 t (.tup [V.bl (decide (0 < r)), V.bl (decide (0 < r2))]) t = some (.tup [V.bl (decide (0 < r)), V.bl (decide (0 < r2))]) := upd_same
  generalize upd H2 t (.tup [V.bl (decide (0 < r)), V.bl (decide (0 < r2))]) = H3 at *
  have B3 := B2.e e3
  have M3 := mat_ex e3 M2
  have T3 : LamX.Tabs (tabs K) H3 := (tabs_fr M1 f2 (tabs_fr M f1 hT)).ext e3
  refine ⟨wl, refs wt, .ref t, rfl, rfl, B3.hw, sz_lt (by unfold refs; rw [List.length_map, B.lwy]; omega), ?_⟩
  have eds : refs wt ++ [.ref t] = refs (wt ++ [t]) := by unfold refs; simp
  rw [eds]
  have eG : Ex G (upd H3 wl (.lst (refs (wt ++ [t])))) := Ex.mut B3.ex (B.bd _ (by simp))
  have up := B.up eG
  have htb : t ∉ bads dm gm p q lg wl := by
    have b1 := M2.dm_ne ht
    have b2 := M2.gm_ne ht
    have b3 := (ne_of_none B2.hp ht).symm
    have b4 := (ne_of_none B2.hq ht).symm
    have b5 := (ne_of_none B2.hl ht).symm
    have b6 := (ne_of_none B2.hw ht).symm
    simp [b1, b2, b3, b4, b5, b6]
  refine k _ (wt ++ [t]) (decide (0 < r), decide (0 < r2)) (prt (bads dm gm p q lg wl) (upd H3 wl (.lst (refs (wt ++ [t]))))) ⟨prt_ex, fun b hb => prt_bad hb, fun b ps => prt_gt, by rw [upd_ne A.pw]; exact B3.hp, by rw [upd_ne A.qw]; exact B3.hq, by rw [upd_ne A.lw]; exact B3.hl, upd_same, B.len, B.lls, by rw [List.length_append, List.length_append, B.lwy]; rfl, B.good, B.pl.ex up, fun i t' w' a b => ?_, kk_wy hkl (B.kk.ex up)⟩ ?_ (tabs_k (tbk_lst B3.hw) T3)
  · by_cases hi : i < wt.length
    · rw [List.getElem?_append_left hi] at a
      rw [List.getElem?_append_left (by have := B.lwy; omega)] at b
      exact (B.wy i t' w' a b |> ex_t up)
    · rw [List.getElem?_append_right (by omega)] at a
      have ei : i - wt.length = 0 := by
        have := (List.getElem?_eq_some_iff.mp a).1
        simp at this
        omega
      rw [ei] at a
      obtain rfl : t = t' := by simpa using a
      rw [List.getElem?_append_right (by have := B.lwy; omega), ← B.lwy, ei] at b
      obtain rfl : (decide (0 < r), decide (0 < r2)) = w' := by simpa using b
      refine st_of (prt_at htb ?_ (fun _ z => nomatch z))
      rw [upd_ne (fun z => htb (by simp [z]))]
      exact h3
  · have : sp + 1 + 1 = sp + 2 := by omega
    rw [← this]
    exact M3.mut A.aw.1 A.aw.2.2 A.aw.2.1
/-! ### a kind that was made stands -/
def BadK (H : Hp) (bd : List Addr) : Prop := ∀ b, b ∈ bd → (∃ xs, H b = some (.lst xs)) ∨ ∃ kvs : Kvs, H b = some (.dK kvs) ∧ 3 ≤ kvs.length
structure To (bd : List Addr) (H G' : Hp) : Prop where
  bk : BadK H bd
  to : ∀ b o, H b = some o → b ∉ bd → (∀ ps, o ≠ .tbl ps) → G' b = some o
theorem To.at_ {bd : List Addr} (t : To bd H G') {b : Addr} {o : HO} (h : H b = some o) (h1 : ∀ xs, o ≠ .lst xs) (h2 : ∀ kvs, o ≠ .dK kvs) (h3 : ∀ ps, o ≠ .tbl ps) : G' b = some o := t.to b o h (fun z => by
  rcases t.bk b z with ⟨xs, q⟩ | ⟨kvs, q, _⟩
  · rw [h] at q; exact h1 _ (Option.some.inj q)
  · rw [h] at q; exact h2 _ (Option.some.inj q)) h3
theorem To.sqt {bd : List Addr} (t : To bd H G') {a : Addr} {xs : List V} (h : SqT K H a xs) : SqT K G' a xs := by
  rcases h with (h | ⟨o, h⟩) | h
  · exact .inl (.inl (t.at_ h (fun _ z => nomatch z) (fun _ z => nomatch z) (fun _ z => nomatch z)))
  · exact .inl (.inr ⟨o, t.at_ h (fun _ z => nomatch z) (fun _ z => nomatch z) (fun _ z => nomatch z)⟩)
  · exact .inr h
theorem To.sqd {bd : List Addr} (t : To bd H G') {a : Addr} {xs : List V} (h : SqD K H a xs) : SqD K G' a xs := by
  refine ⟨t.sqt h.1, ?_⟩
  rcases h.2 with ⟨o, u, h1, h2⟩ | h
  · exact .inl ⟨o, u, t.at_ h1 (fun _ z => nomatch z) (fun _ z => nomatch z) (fun _ z => nomatch z), h2⟩
  · exact .inr h
theorem To.mem {bd : List Addr} (t : To bd H G') {a : Addr} {mv : MemV} (h : MemAt K H a mv) : MemAt K G' a mv := by
  obtain ⟨h0, dx, fs0, h1, h2⟩ := h
  exact ⟨h0, dx, fs0, t.at_ h1 (fun _ z => nomatch z) (fun _ z => nomatch z) (fun _ z => nomatch z), h2⟩
theorem To.kd {bd : List Addr} (t : To bd H G') {a : Addr} {kd : KdV} (h : KdAt K H a kd) : KdAt K G' a kd := by
  obtain ⟨dx, q, m, tt, fs0, h1, h2, h3, h4, h5, h6, h7, h8, h9, h10, h11, h12⟩ := h
  exact ⟨dx, q, m, tt, fs0, t.at_ h1 (fun _ z => nomatch z) (fun _ z => nomatch z) (fun _ z => nomatch z), h2, t.sqd h3, h4, t.sqt h5, fun x hx => t.mem (h6 x hx), h7, h8, h9, h10, t.sqt h11, h12⟩
theorem To.lm {bd : List Addr} (t : To bd H G') {x : KX} {k : KI} (h : LmAt K H x k) : LmAt K G' x k := by
  have fn : ∀ {F : Addr → NdefX.NF} {e : Expr} {f : Addr}, FnAt_ H F e f → FnAt_ G' F e f := fun h => by
    obtain ⟨c', h1, h2⟩ := h
    exact ⟨c', t.at_ h1 (fun _ => lam_lst) (fun _ z => by unfold LamO at z; cases z) (fun _ => lam_tbl), t.at_ h2 (fun _ => code_lst) (fun _ z => by unfold LamX.CodeO at z; cases z) (fun _ => code_tbl)⟩
  refine ⟨fun a ha => ?_, fun a ha => ?_⟩
  · obtain ⟨f, ⟨dx, fs0, q1, q2⟩, q3⟩ := h.hook a ha
    exact ⟨f, ⟨dx, fs0, t.at_ q1 (fun _ z => nomatch z) (fun _ z => nomatch z) (fun _ z => nomatch z), q2⟩, fn q3⟩
  · obtain ⟨f, q1, q2⟩ := h.meth a ha
    exact ⟨f, t.mem q1, fn q2⟩
theorem To.cv {bd : List Addr} (t : To bd H G') {cv : Cv} (h : CvAt cv H) : CvAt cv G' := fun c v q => t.at_ (h c v q) (fun _ z => by unfold CellO at z; cases z) (fun _ z => by unfold CellO at z; cases z) (fun _ z => by unfold CellO at z; cases z)
theorem To.kx {bd : List Addr} {H0 : Hp} (t : To bd H G') {a dx : Addr} {n : Nat} {kd : KdV} {hk mt : Option Addr} {ki : Ki} {W : List WE} (h : Made K H0 H a dx n kd hk ki W) (hb : ∀ b, b ∈ bd → H0 b ≠ none) (hd : dataOf W = []) (hm : mthOf kd.mems "go" = mt) (hl : kd.line.length ≤ 50) (hms : kd.mems.length ≤ 2) : KXAt K G' a ⟨kd.line, hk, mt⟩ := by
  obtain ⟨⟨dx1, d, md, fs1, g1, g2, g3, g4, g5⟩, ⟨dx2, q, m, tt, fs2, k1, k2, k3, _⟩, fs0, f1, f2, f3, f4⟩ := h
  have hw := f4
  rw [f1] at g1 k1
  cases Option.some.inj g1
  cases Option.some.inj k1
  have lst : ∀ {p : Addr} {o : HO}, H0 p = none → H p = some o → (∀ ps, o ≠ .tbl ps) → G' p = some o := fun {p o} h0 h1 hn => t.to p o h1 (fun z => hb p z h0) hn
  have hdb : G' d = some (.dK md) := t.to d _ g4 (fun z => by
    rcases t.bk d z with ⟨xs, y⟩ | ⟨kvs, y, yl⟩
    · rw [g4] at y; cases y
    · rw [g4] at y
      have : md = kvs := by
        have := Option.some.inj y
        injection this
      have := g5.1
      subst md
      omega) (fun _ z => nomatch z)
  have h1 : posOf ki W = [] := by unfold posOf; rw [hd]; rfl
  have h2 : namOf ki W = [] := by unfold namOf; rw [hd]; rfl
  have h3 : fldsOf W = [] := by unfold fldsOf; rw [hd]; rfl
  obtain ⟨p1, a1, z1, b1⟩ := hw.bypos
  obtain ⟨p2, a2, z2, b2⟩ := hw.params
  obtain ⟨p3, a3, z3, b3⟩ := hw.pnames
  obtain ⟨p4, a4, z4, b4⟩ := hw.fields
  obtain ⟨p5, a5, z5, b5⟩ := hw.initonly
  rw [h1] at b1
  rw [h1, h2] at b2 b3
  rw [h3] at b4
  rw [hd] at b5
  exact ⟨_, q, d, md, _, t.at_ f1 (fun _ z => nomatch z) (fun _ z => nomatch z) (fun _ z => nomatch z), f2, k2, t.sqd k3, g2, g3, hdb, by rw [g5.2, hm], hl, p1, p2, p3, p4, p5, a1, lst z1 b1 (fun _ z => nomatch z), a2, lst z2 b2 (fun _ z => nomatch z), a3, lst z3 b3 (fun _ z => nomatch z), a4, lst z4 b4 (fun _ z => nomatch z), a5, lst z5 b5 (fun _ z => nomatch z)⟩
end
end K17
end

section
set_option Elab.async false
set_option linter.all false
set_option maxRecDepth 100000
set_option maxHeartbeats 4000000
namespace K17
open PySem PySem.Spec PyProof.Rows L2 He Cn Evl KeL
section
variable {K : PySem.W.Frag} {dm c gm p q lg wl : Addr} {ds ka wt : List Addr} {ab ls : List (List Nat)} {ways : List (Bool × Bool)} {ki : Ki} {xi : Xi} {kj : Ks_} {G G' H H' : Hp} {sp sp' : Int}
def xiW (xi : Xi) (a : Addr) (v : KX) : Xi := fun b => if b = a then v else xi b
theorem xiW_at {a : Addr} {v : KX} : xiW xi a v a = v := if_pos rfl
theorem xiW_ne {a b : Addr} {v : KX} (h : b ≠ a) : xiW xi a v b = xi b := if_neg h
def kjW (kj : Ks_) (a : Addr) (v : KI) : Ks_ := fun b => if b = a then v else kj b
theorem kjW_at {a : Addr} {v : KI} : kjW kj a v a = v := if_pos rfl
theorem kjW_ne {a b : Addr} {v : KI} (h : b ≠ a) : kjW kj a v b = kj b := if_neg h
/-- the next kind stands -/
theorem kk_next {md lg a : Addr} {l : List Nat} {kd : KdV} {kx : KX} {k : KI} (h : KOk K G md lg ka ki xi kj ls ways) (e : Ex G G') (g : GoodUp ab ls ab.length) (hab : ka.length + 1 = ab.length) (hls : ls[ka.length]? = some (ka.length :: l)) (hna : a ∉ ka) (hlt : ∀ y, y ∈ l → y < ka.length)
    (h1 : KdAt K G' a kd) (h2 : kd.line = a :: l.map (kf ka)) (h3 : AllM kd.mems) (h4 : kd.frz = false) (h5 : KXAt K G' a kx) (h6 : kx.line = a :: l.map (kf ka)) (h7 : LmAt K G' kx k) (h8 : k.i = ka.length) (h9 : CvOf md lg k) (h10 : CvAt k.cv G') (h11 : ways[ka.length]? = some (kx.hk.isSome, kx.mt.isSome)) (hn : ∀ c v, k.cv.lookup c = some v → G c = none) :
    KOk K G' md lg (ka ++ [a]) (kiW ki a kd) (xiW xi a kx) (kjW kj a k) ls ways := by
  have mapeq : ∀ (r : List Nat), (∀ y, y ∈ r → y < ka.length) → r.map (kf (ka ++ [a])) = r.map (kf ka) := fun r hr => List.map_congr_left fun y hy => kf_app (hr y hy)
  have hne : ∀ x, x < ka.length → kf ka x ≠ a := fun x hx z => hna (by rw [← z]; exact List.mem_of_getElem? (kf_mem hx))
  have lenA : (ka ++ [a]).length = ka.length + 1 := by rw [List.length_append]; rfl
  refine ⟨List.nodup_append.mpr ⟨h.nd, by simp, fun x hx y hy => by
    obtain rfl := List.mem_singleton.mp hy
    exact fun z => hna (z ▸ hx)⟩, fun x hx => ?_, fun x hx y hy hxy c v hc => ?_⟩
  · rw [lenA] at hx
    by_cases hxi : x < ka.length
    · have O := h.one x hxi
      obtain ⟨as', l', O'⟩ := g.2 x (by omega)
      have hm := mapeq (ls.getD x []) fun y hy => by
        rw [getD_of O'.s] at hy
        have := (good_mem g x (by omega) _ O'.s).2 y hy
        omega
      have hn := hne x hxi
      have ek : kf (ka ++ [a]) x = kf ka x := kf_app hxi
      refine ⟨?_, ?_, ?_, ?_, ?_, ?_, ?_, ?_, ?_, ?_, ?_⟩ <;> simp only [ek, kiW_ne hn, xiW_ne hn, kjW_ne hn, hm]
      · exact O.kd.ex e
      · exact O.line
      · exact O.mem
      · exact O.frz
      · exact O.kx.ex e
      · exact O.xl
      · exact O.lm.ex e
      · exact O.num
      · exact O.cvo
      · exact CvAt.ex e O.cells
      · exact O.way
    · have hxe : x = ka.length := by omega
      subst hxe
      have hm : (ls.getD ka.length []).map (kf (ka ++ [a])) = a :: l.map (kf ka) := by
        rw [getD_of hls, List.map_cons, kf_app_len, mapeq l hlt]
      have ek : kf (ka ++ [a]) ka.length = a := kf_app_len
      refine ⟨?_, ?_, ?_, ?_, ?_, ?_, ?_, ?_, ?_, ?_, ?_⟩ <;> simp only [ek, kiW_at, xiW_at, kjW_at, hm]
      · exact h1
      · exact h2
      · exact h3
      · exact h4
      · exact h5
      · exact h6
      · exact h7
      · exact h8
      · exact h9
      · exact h10
      · exact h11
  · rw [lenA] at hx hy
    have old : ∀ x, x < ka.length → ∀ c v, (kj (kf ka x)).cv.lookup c = some v → k.cv.lookup c = none := fun x hx c v hc => by
      cases z : k.cv.lookup c with
      | none => rfl
      | some u =>
        have := hn c u z
        rw [(h.one x hx).cells c v hc] at this
        cases this
    by_cases hxi : x < ka.length
    · rw [kf_app hxi, kjW_ne (hne x hxi)] at hc
      by_cases hyi : y < ka.length
      · rw [kf_app hyi, kjW_ne (hne y hyi)]
        exact h.dj x hxi y hyi hxy c v hc
      · have hye : y = ka.length := by omega
        subst hye
        rw [kf_app_len, kjW_at]
        exact old x hxi c v hc
    · have hxe : x = ka.length := by omega
      subst hxe
      rw [kf_app_len, kjW_at] at hc
      have hyi : y < ka.length := by omega
      rw [kf_app hyi, kjW_ne (hne y hyi)]
      cases z : (kj (kf ka y)).cv.lookup c with
      | none => rfl
      | some u =>
        rw [old y hyi c u z] at hc
        cases hc
def tAbv (K : PySem.W.Frag) : TE := tLc (iList K (tDGet (tOp (rIxL K) (tVar 3) (tVar 7)) (tC (.str "above")))) (gName 9) tYes (tOp (rIxL K) (tVar 4) (tVar 9)) [9]
def tKof (K : PySem.W.Frag) : TE := ClX.tCMeth (kC K) (fun vs H Q E => spOfN K (vs ++ [V.non]) H Q E) E0 (tC (.ref (kC K))) (tCons (tOp rAddS (tC (.str "K")) (tCB rStrI (tCons (tVar 7) tNil))) (tCons (tCall (spLPartsOf K) [] E0 (tCons (tVar 4) (tCons (tVar 5) (tCons (tVar 6) (tCons (tVar 7) tNil))))) (tCons (tVar 8) tNil)))
def tMade (K : PySem.W.Frag) : TS := tDrop (tBM K "list" rAppend (tVar 4) (tCons (tKof K) tNil))
theorem rd_made {D : Ends} {va v2 v8 : Option V} (B : Bl K dm gm p q lg wl ds ka wt ab ls ways ki xi kj G H) (A : Ap dm c gm p q lg wl) (hkl : ka.length + 1 = ab.length) (hwl : ways.length = ab.length) (h8 : ab.length ≤ 8) (M : MAt H dm c gm sp) (hT : LamX.Tabs (tabs K) H)
    (k : ∀ (H' : Hp) (a : Addr) (ki' : Ki) (xi' : Xi) (kj' : Ks_) (G' : Hp) (w8 : Option V), Bl K dm gm p q lg wl ds (ka ++ [a]) wt ab ls ways ki' xi' kj' G' H' → MAt H' dm c gm sp → LamX.Tabs (tabs K) H' → D.nx [va, some (.ref dm), v2, some (.ref p), some (.ref q), some (.ref lg), some (.ref wl), some (.int (ka.length : Int)), w8, none] H') :
    tSeq (tAsg (tCB (rTupOf K) (tCons (tAbv K) tNil)) (gName 8)) (tMade K) D [va, some (.ref dm), v2, some (.ref p), some (.ref q), some (.ref lg), some (.ref wl), some (.int (ka.length : Int)), v8, none] H := by
  obtain ⟨as, l, O⟩ := B.good.2 ka.length (by omega)
  have g' : GoodUp ab ls ka.length := ⟨by have := B.good.1; omega, fun j hj => B.good.2 j (by omega)⟩
  obtain ⟨d, hd⟩ : ∃ d, ds[ka.length]? = some d := at_some (by have := B.len; omega)
  obtain ⟨kvs, la, q1, q4, q7⟩ := B.pl _ d as hd O.a
  obtain ⟨tp, htp⟩ : ∃ t, wt[ka.length]? = some t := at_some (by have := B.lwy; omega)
  obtain ⟨⟨w1, w2⟩, hww⟩ : ∃ w, ways[ka.length]? = some w := at_some (by omega)
  have hwy := B.wy _ tp (w1, w2) htp hww
  -- tops
  have hka : ∀ x, x < ka.length → (refs ka)[x]? = some (.ref (kf ka x)) := fun x hx => at_refs (kf_mem hx)
  have hL := el_lcK (K := K) wk_list (tl := tDGet (tOp (rIxL K) (tVar 3) (tVar 7)) (tC (.str "above"))) (σ := [va, some (.ref dm), v2, some (.ref p), some (.ref q), some (.ref lg), some (.ref wl), some (.int (ka.length : Int)), v8, none]) (H := H) (j := 9) (t := tYes) (te := tOp (rIxL K) (tVar 4) (tVar 9)) (vs := [9])
    (ev_dget (k := .inr "above") (ev_op (ev_var rfl) (ev_var rfl) (rv_ixL (sq_of B.hp) (at_of rfl (at_refs hd)))) ev_c (B.ex _ _ q1) q4) (sq_of (B.ex _ _ q7)) (fun _ => true) (fun i => match as[i]? with | some x => V.ref (kf ka x) | none => .non) (by rw [nts_len]; have := O.len; omega) (fun x => rfl)
    (fun i x H3 _ _ => fun H4 _ Q q => q H4 (Ex.refl H4))
    (fun i x H3 e3 hx _ => by
      obtain ⟨n, hn, rfl⟩ := nts_at hx
      have : (match as[i]? with | some x => V.ref (kf ka x) | none => .non) = V.ref (kf ka n) := by rw [hn]
      rw [this]
      exact ev_op (ev_var rfl) (ev_var rfl) (rv_ixL (sq_of (e3 _ _ B.hq)) (at_of rfl (hka n (O.lt n (List.mem_of_getElem? hn))))))
  have eL : given (nts as).length (fun _ => true) (fun i => match as[i]? with | some x => V.ref (kf ka x) | none => .non) = refs (as.map (kf ka)) := by
    rw [nts_len, given_filter as (fun _ => true) (fun x => V.ref (kf ka x)) _ _ (fun i x hx => rfl) (fun i x hx => by rw [hx]), List.filter_eq_self.mpr fun _ _ => rfl]
    unfold refs
    rw [List.map_map]
    rfl
  rw [eL] at hL
  refine q_asgU (en_tupOf (K := K) hL) fun pt H1 hpt e1 h1 => ?_
  have B1 := B.e e1
  -- found.append(Kind.of(..))
  refine ⟨_, rfl, .inl ⟨rfl, _, sq_of B1.hq⟩, ?_⟩
  refine ⟨rfl, _, rfl, (ka.length : Int), rfl, ?_, _, _, rfl, rfl, len_kname (by omega), ?_⟩
  · have : (ka.length : Int).natAbs = ka.length := Int.natAbs_natCast _
    rw [this]
    have : ka.length.log2 ≤ ka.length := Nat.log2_le_self _
    omega
  refine ⟨_, rfl, _, rfl, _, rfl, _, rfl, q, lg, wl, tp, ka.length, refs wt, w1, w2, rfl, sq_of B1.hw, at_refs htp, ex_t B1.ex hwy, hT.ext e1, fun t hk mt its k' H2 x2 T2 ht2 hpo hka1 hmt1 hki hcv hce hcn => ⟨_, rfl, ?_⟩⟩
  have B2 := B1.xn x2
  have hpt2 : H2 pt = some (.tup (refs (as.map (kf ka)))) := x2 _ _ h1 (fun _ z => nomatch z)
  have hgm := good_mem B.good ka.length (by omega) _ O.s
  have hlm : ∀ y, y ∈ l → y < ka.length := fun y hy => by
    have h1 := hgm.2 y (List.mem_cons_of_mem _ hy)
    have h2 : y ≠ ka.length := fun z => (List.nodup_cons.mp hgm.1).1 (z ▸ hy)
    omega
  have hl10 : l.length ≤ 10 := by
    have := nodup_len l (List.range ka.length) (List.nodup_cons.mp hgm.1).2 fun y hy => List.mem_range.mpr (hlm y hy)
    rw [List.length_range] at this
    have := B.good.1
    omega
  obtain ⟨pm, ph, pn, pg, pl2⟩ := parts_ok hpo.sh
  refine ⟨kname ka.length, t, pt, its, msOf its, as.map (kf ka), ka, l.map (kf ka), _, 20, ki, fun _ => "method", rfl, good_kname (by omega), ht2, fun dd G2 e2 hdd => dcl_of (B.kk.ex (B2.ex.trans e2)) g' O.lt O.nd O.len O.mg hl10 hlm (hpo.ex e2) (st_of (e2 _ _ ht2)) (st_of (e2 _ _ hpt2)) hdd, fun a dx H5 ha M5 e5 => ?_⟩
  have B5 := B2.e e5
  refine ⟨q, refs ka, .ref a, rfl, rfl, B5.hq, sz_lt (by unfold refs; rw [List.length_map]; omega), ?_⟩
  have Mx := mat_ex e5 (mat_xn x2 (mat_ex e1 M))
  have hnotin : a ∉ ka := fun z => by
    obtain ⟨j, hj⟩ := List.mem_iff_getElem?.mp z
    have hjl := (List.getElem?_eq_some_iff.mp hj).1
    obtain ⟨dx', fs', h'⟩ := ((B.kk.ex B2.ex).one j hjl).kx.ko
    rw [kf_at hj, ha] at h'
    cases h'
  have hT5 : To (bads dm gm p q lg wl) H5 (prt (bads dm gm p q lg wl) (upd H5 q (.lst (refs ka ++ [.ref a])))) := ⟨fun b hb => by
    simp only [List.mem_cons, List.not_mem_nil, or_false] at hb
    rcases hb with rfl | rfl | rfl | rfl | rfl | rfl
    · exact .inr ⟨_, Mx.ob, Nat.le_refl 3⟩
    · obtain ⟨ys, _, q3⟩ := Mx.great
      exact .inl ⟨_, q3⟩
    · exact .inl ⟨_, B5.hp⟩
    · exact .inl ⟨_, B5.hq⟩
    · exact .inl ⟨_, B5.hl⟩
    · exact .inl ⟨_, B5.hw⟩, fun b o h hb hn => prt_at hb (by rw [upd_ne (fun z => hb (by simp [z]))]; exact h) hn⟩
  have hb2 : ∀ b, b ∈ bads dm gm p q lg wl → H2 b ≠ none := fun b hb z => by
    have M2 := mat_xn x2 (mat_ex e1 M)
    simp only [List.mem_cons, List.not_mem_nil, or_false] at hb
    rcases hb with rfl | rfl | rfl | rfl | rfl | rfl
    · rw [M2.ob] at z; cases z
    · obtain ⟨ys, _, q3⟩ := M2.great
      rw [q3] at z; cases z
    · rw [B2.hp] at z; cases z
    · rw [B2.hq] at z; cases z
    · rw [B2.hl] at z; cases z
    · rw [B2.hw] at z; cases z
  have eG : Ex G (upd H5 q (.lst (refs ka ++ [.ref a]))) := Ex.mut B5.ex (B.bd _ (by simp))
  have up := B.up eG
  have hdn : dataOf (wholeAt ki (msOf its) [] (as.map (kf ka)) a (l.map (kf ka))) = [] := data_nil (whole_m fun b hb => by
    rcases List.mem_cons.mp hb with z | z
    · rw [z, kiW_at]
      exact pm
    · obtain ⟨y, hy, rfl⟩ := List.mem_map.mp z
      have hyl := hlm y hy
      rw [kiW_ne (fun z => hnotin (by rw [← z]; exact List.mem_of_getElem? (kf_mem hyl)))]
      exact (B.kk.one y hyl).mem)
  have kx := hT5.kx M5 hb2 hdn (show mthOf (msOf its) "go" = mt from pg) (by show (a :: l.map (kf ka)).length ≤ 50; rw [List.length_cons, List.length_map]; omega) (by show (msOf its).length ≤ 2; have := msOf_len its; omega)
  rw [ph] at kx
  have kk := kk_next (k := k') (B.kk) up B.good hkl O.s hnotin hlm (hT5.kd M5.kd) rfl pm rfl kx rfl (hT5.lm ⟨fun h z => (hpo.ex e5).lm.hook h z, fun m z => (hpo.ex e5).lm.meth m z⟩) hki hcv (hT5.cv (CvAt.ex e5 hce)) (by rw [hww, ← hka1, ← hmt1]) fun cc v z => by
    have hn := hcn cc v z
    cases y : G cc with
    | none => rfl
    | some u => rw [B1.ex _ _ y] at hn; cases hn
  refine k _ a _ _ _ (prt (bads dm gm p q lg wl) (upd H5 q (.lst (refs ka ++ [.ref a])))) _ ⟨prt_ex, fun b hb => prt_bad hb, fun b ps => prt_gt, by rw [upd_ne A.pq]; exact B5.hp, by rw [upd_same]; unfold refs; simp, by rw [upd_ne A.ql.symm]; exact B5.hl, by rw [upd_ne A.qw.symm]; exact B5.hw, B.len, B.lls, B.lwy, B.good, B.pl.ex up, B.wy.ex up, kk⟩ (Mx.mut A.aq.1 A.aq.2.2 A.aq.2.1) (tabs_k (tbk_lst B5.hq) (T2.ext e5))
end
end K17
end

section
set_option Elab.async false
set_option linter.all false
set_option maxRecDepth 100000
set_option maxHeartbeats 4000000
namespace K17
open PySem PySem.Spec PyProof.Rows L2 He Cn Evl KeL
/-! ### equality of the two logs -/
theorem shaped_nts (r : List Nat) : SeqAt.shaped (.list (r.map fun (n : Nat) => PyData.int (n : Int))) = true := by
  have h : PyData.canLayAll0 (r.map fun (n : Nat) => PyData.int (n : Int)) = true ∧ PyData.depthAll (r.map fun (n : Nat) => PyData.int (n : Int)) = 0 := by
    induction r with
    | nil => exact ⟨rfl, rfl⟩
    | cons a r ih =>
      rw [List.map_cons]
      unfold PyData.canLayAll0 PyData.depthAll
      rw [ih.1, ih.2]
      exact ⟨rfl, rfl⟩
  unfold SeqAt.shaped PyData.canLay0 PyData.depth
  rw [h.1, h.2]
  rfl
def dat : List Nat → Int → List PyData
  | [], _ => []
  | g :: r, st => .tuple [.int (g : Nat), .int st] :: dat r (st + 1)
theorem shaped_dat (r : List Nat) (st : Int) : SeqAt.shaped (.list (dat r st)) = true := by
  have h : ∀ (r : List Nat) (st : Int), PyData.canLayAll0 (dat r st) = true ∧ PyData.depthAll (dat r st) ≤ 1 := fun r => by
    induction r with
    | nil => exact fun st => ⟨rfl, Nat.zero_le _⟩
    | cons a r ih =>
      intro st
      obtain ⟨h1, h2⟩ := ih (st + 1)
      unfold dat PyData.canLayAll0 PyData.depthAll
      rw [h1]
      refine ⟨rfl, ?_⟩
      have : PyData.depth (.tuple [.int (a : Nat), .int st]) = 1 := rfl
      rw [this]
      exact Nat.max_le.mpr ⟨Nat.le_refl _, h2⟩
  obtain ⟨h1, h2⟩ := h r st
  unfold SeqAt.shaped PyData.canLay0 PyData.depth
  rw [h1, Bool.true_and, decide_eq_true_eq]
  omega
def TAt (H : Hp) (ts : List Addr) (gs : List Nat) (st : Int) : Prop := ts.length = gs.length ∧ ∀ (j : Nat) (t : Addr) (g : Nat), ts[j]? = some t → gs[j]? = some g → H t = some (.tup [.int (g : Nat), .int (st + (j : Nat))])
theorem TAt.ex {H H' : Hp} {ts : List Addr} {gs : List Nat} {st : Int} (e : Ex H H') (h : TAt H ts gs st) : TAt H' ts gs st := ⟨h.1, fun j t g a b => e _ _ (h.2 j t g a b)⟩
theorem dp_ts {K : PySem.W.Frag} {H : Hp} : ∀ (gs : List Nat) (ts : List Addr) (st : Int), TAt H ts gs st → DpAll K H (refs ts) (dat gs st)
  | [], [], _, _ => .nil
  | [], _ :: _, _, h => by cases h.1
  | _ :: _, [], _, h => by cases h.1
  | g :: gs, t :: ts, st, h => by
    refine .cons ?_ (dp_ts gs ts (st + 1) ⟨by have := h.1; simpa using this, fun j t' g' a b => ?_⟩)
    · have := h.2 0 t g rfl rfl
      rw [show st + ((0 : Nat) : Int) = st by omega] at this
      exact .tup (st_of this) (.cons (.int _) (.cons (.int _) .nil))
    · have := h.2 (j + 1) t' g' (by simpa using a) (by simpa using b)
      rw [show st + ((j + 1 : Nat) : Int) = st + 1 + (j : Nat) by omega] at this
      exact this
theorem dp_int {K : PySem.W.Frag} {H : Hp} : ∀ (r : List Nat), DpAll K H (nts r) (r.map fun (n : Nat) => PyData.int (n : Int))
  | [] => .nil
  | n :: r => .cons (.int _) (dp_int r)
theorem rv_neI {K : PySem.W.Frag} {H : Hp} {p q : Addr} {r : List Nat} (hp : SqL K H p (nts r)) (hq : SqL K H q (nts r)) : RV (rNeD K) (.ref p) (.ref q) H (.bl false) := fun H1 e Q k => by
  refine ⟨_, _, .lst (ex_l e hp) (dp_int r), .lst (ex_l e hq) (dp_int r), shaped_nts r, shaped_nts r, ?_⟩
  rw [SeqAt.eqv_refl _ (SeqAt.canLay_of_shaped (shaped_nts r))]
  exact k H1 (Ex.refl H1)
theorem rv_eqT {K : PySem.W.Frag} {H : Hp} {p q : Addr} {ts us : List Addr} {gs : List Nat} {st : Int} (hp : SqL K H p (refs ts)) (hq : SqL K H q (refs us)) (h1 : TAt H ts gs st) (h2 : TAt H us gs st) : RV (rEqD K) (.ref p) (.ref q) H (.bl true) := fun H1 e Q k => by
  refine ⟨_, _, .lst (ex_l e hp) (dp_ts gs ts st (h1.ex e)), .lst (ex_l e hq) (dp_ts gs us st (h2.ex e)), shaped_dat gs st, shaped_dat gs st, ?_⟩
  rw [SeqAt.eqv_refl _ (SeqAt.canLay_of_shaped (shaped_dat gs st))]
  exact k H1 (Ex.refl H1)
/-! ### what _law_right is given -/
structure Rt (K : PySem.W.Frag) (G : Hp) (p md wl lg : Addr) (ka wt : List Addr) (ab ls : List (List Nat)) (ways : List (Bool × Bool)) (ki : Ki) (xi : Xi) (kj : Ks_) : Prop where
  pl : PlAt G p ab
  good : GoodUp ab ls ab.length
  hmk : G md = some (.lst (refs ka))
  hwt : G wl = some (.lst (refs wt))
  wy : WysAt K G wt ways
  kk : KOk K G md lg ka ki xi kj ls ways
  kl : ka.length = ab.length
  tl : wt.length = ways.length
  hwl : ways.length = ab.length
  a8 : ab.length ≤ 8
section
variable {K : PySem.W.Frag} {G G' H H' : Hp} {p md wl lg : Addr} {ka wt : List Addr} {ab ls : List (List Nat)} {ways : List (Bool × Bool)} {ki : Ki} {xi : Xi} {kj : Ks_} {n : Nat} {l : List Nat}
theorem Rt.ex (e : Ex G G') (h : Rt K G p md wl lg ka wt ab ls ways ki xi kj) : Rt K G' p md wl lg ka wt ab ls ways ki xi kj := ⟨h.pl.ex e, h.good, e _ _ h.hmk, e _ _ h.hwt, h.wy.ex e, h.kk.ex e, h.kl, h.tl, h.hwl, h.a8⟩
def wayH (ways : List (Bool × Bool)) (y : Nat) : Bool := (ways.getD y (false, false)).1
def wayM (ways : List (Bool × Bool)) (y : Nat) : Bool := (ways.getD y (false, false)).2
theorem Rt.way (h : Rt K G p md wl lg ka wt ab ls ways ki xi kj) {y : Nat} (hy : y < ab.length) : (xi (kf ka y)).hk.isSome = wayH ways y ∧ (xi (kf ka y)).mt.isSome = wayM ways y := by
  have O := (h.kk.one y (by rw [h.kl]; exact hy)).way
  unfold wayH wayM
  rw [List.getD_eq_getElem?_getD, O]
  exact ⟨rfl, rfl⟩
/-- the line, in numbers and in kinds -/
theorem Rt.ln (h : Rt K G p md wl lg ka wt ab ls ways ki xi kj) (hn : n < ab.length) (hl : ls[n]? = some (n :: l)) : (n :: l).Nodup ∧ (∀ y, y ∈ n :: l → y < ab.length) ∧ (n :: l).length ≤ 8 ∧ (xi (kf ka n)).line = (n :: l).map (kf ka) := by
  obtain ⟨h1, h2⟩ := good_mem h.good n hn _ hl
  have hlt : ∀ y, y ∈ n :: l → y < ab.length := fun y hy => by have := h2 y hy; omega
  refine ⟨h1, hlt, ?_, ?_⟩
  · have := nodup_len (n :: l) (List.range ab.length) h1 fun y hy => List.mem_range.mpr (hlt y hy)
    rw [List.length_range] at this
    have := h.a8
    omega
  · have := (h.kk.one n (by rw [h.kl]; exact hn)).xl
    rw [getD_of hl] at this
    exact this
theorem Rt.wd (h : Rt K G p md wl lg ka wt ab ls ways ki xi kj) (hn : n < ab.length) (hl : ls[n]? = some (n :: l)) : Wd K G md lg ka xi kj ((n :: l).map (kf ka)) 0 := by
  obtain ⟨h1, h2, h3, h4⟩ := h.ln hn hl
  have mem : ∀ b, b ∈ (n :: l).map (kf ka) → ∃ y, y ∈ n :: l ∧ y < ka.length ∧ b = kf ka y := fun b hb => by
    obtain ⟨y, hy, rfl⟩ := List.mem_map.mp hb
    exact ⟨y, hy, by rw [h.kl]; exact h2 y hy, rfl⟩
  have := h.a8
  refine ⟨h.hmk, by rw [h.kl]; omega, fun b hb => ?_, fun b hb => ?_, fun b hb => ?_, fun b hb => ?_, ?_, by rw [List.length_map]; omega, fun b hb b' hb' hne c v q => ?_, fun b hb => ?_⟩
  · obtain ⟨y, _, hy, rfl⟩ := mem b hb
    exact (h.kk.one y hy).kx
  · obtain ⟨y, _, hy, rfl⟩ := mem b hb
    exact (h.kk.one y hy).lm
  · obtain ⟨y, _, hy, rfl⟩ := mem b hb
    rw [(h.kk.one y hy).num]
    exact kf_mem hy
  · obtain ⟨y, _, hy, rfl⟩ := mem b hb
    exact (h.kk.one y hy).cvo
  · have inj : ∀ (r : List Nat), r.Nodup → (∀ y, y ∈ r → y < ka.length) → (r.map (kf ka)).Nodup := fun r nd hr => by
      induction r with
      | nil => exact List.nodup_nil
      | cons a r ih =>
        obtain ⟨n1, n2⟩ := List.nodup_cons.mp nd
        refine List.nodup_cons.mpr ⟨fun q => ?_, ih n2 fun x hx => hr x (List.mem_cons_of_mem _ hx)⟩
        obtain ⟨b, hb, e⟩ := List.mem_map.mp q
        have := kf_inj h.kk.nd (hr b (List.mem_cons_of_mem _ hb)) (hr a (List.mem_cons_self ..)) e
        exact n1 (this ▸ hb)
    exact inj _ h1 fun y hy => by rw [h.kl]; exact h2 y hy
  · obtain ⟨y, _, hy, rfl⟩ := mem b hb
    obtain ⟨z, _, hz, rfl⟩ := mem b' hb'
    exact h.kk.dj y hy z hz (fun e => hne (by rw [e])) c v q
  · obtain ⟨y, _, hy, rfl⟩ := mem b (List.mem_of_mem_drop hb)
    exact (h.kk.one y hy).cells
theorem Rt.hooks (h : Rt K G p md wl lg ka wt ab ls ways ki xi kj) : ∀ (r : List Nat), (∀ y, y ∈ r → y < ab.length) → hkN xi kj (r.map (kf ka)) = nts (r.filter (wayH ways))
  | [], _ => rfl
  | y :: r, hr => by
    have hy := hr y (List.mem_cons_self ..)
    have ih := Rt.hooks h r fun x hx => hr x (List.mem_cons_of_mem _ hx)
    unfold hkN at ih ⊢
    rw [List.map_cons, List.filter_cons, List.filter_cons, (h.way hy).1]
    cases wayH ways y with
    | false => exact ih
    | true =>
      have e := (h.kk.one y (by rw [h.kl]; exact hy)).num
      show V.int ((kj (kf ka y)).i : Nat) :: _ = V.int (y : Int) :: nts (r.filter (wayH ways))
      rw [e, ih]
theorem Rt.goes (h : Rt K G p md wl lg ka wt ab ls ways ki xi kj) : ∀ (r : List Nat), (∀ y, y ∈ r → y < ab.length) → goers xi (r.map (kf ka)) = (r.filter (wayM ways)).map (kf ka)
  | [], _ => rfl
  | y :: r, hr => by
    have hy := hr y (List.mem_cons_self ..)
    have ih := Rt.goes h r fun x hx => hr x (List.mem_cons_of_mem _ hx)
    unfold goers at ih ⊢
    rw [List.map_cons, List.filter_cons, List.filter_cons, (h.way hy).2]
    cases wayM ways y with
    | false => exact ih
    | true =>
      show kf ka y :: _ = (y :: r.filter (wayM ways)).map (kf ka)
      rw [List.map_cons]
      congr 1
theorem prsK_at {ks : Ks_} : ∀ {r : List Addr} {st : Int} {j : Nat} {b : Addr}, r[j]? = some b → (prs ks r st)[j]? = some ((ks b).i, st + (j : Nat))
  | [], _, _, _, h => by simp at h
  | a :: r, st, 0, b, h => by
    obtain rfl : a = b := by simpa using h
    show some ((ks a).i, st) = some ((ks a).i, st + ((0 : Nat) : Int))
    rw [show st + ((0 : Nat) : Int) = st by omega]
  | a :: r, st, j + 1, b, h => by
    have := prsK_at (ks := ks) (r := r) (st := st + 1) (j := j) (b := b) (by simpa using h)
    show (prs ks r (st + 1))[j]? = _
    rw [this, show st + 1 + (j : Int) = st + ((j + 1 : Nat) : Int) by omega]
theorem prsK_len {ks : Ks_} : ∀ {r : List Addr} {st : Int}, (prs ks r st).length = r.length
  | [], _ => rfl
  | a :: r, st => by
    show (prs ks r (st + 1)).length + 1 = r.length + 1
    rw [prsK_len]
/-- the log of calls, in numbers -/
theorem Rt.calls (h : Rt K G p md wl lg ka wt ab ls ways ki xi kj) {gs : List Nat} {ts : List Addr} {st : Int} (hg : ∀ y, y ∈ gs → y < ab.length) (ht : TsAt H ts (prs kj (gs.map (kf ka)) st)) : TAt H ts gs st := by
  refine ⟨by have := ht.1; rw [prsK_len, List.length_map] at this; exact this, fun j t g a b => ?_⟩
  have h1 := ht.2 j t _ a (prsK_at (by rw [List.getElem?_map, b]; rfl))
  have e := (h.kk.one g (by rw [h.kl]; exact hg g (List.mem_of_getElem? b))).num
  rw [e] at h1
  exact h1
end
end K17
end

section
set_option Elab.async false
set_option linter.all false
set_option maxRecDepth 100000
set_option maxHeartbeats 4000000
namespace MR0
open PySem PySem.Spec PyProof.Rows L2
/-- o.m() by a positional promise -/
theorem pe_methR0 {X : Cx} {CX : CXT} {k : Nat} {C f : Addr} {m : Str} {sp : Sp} {E : XK} {o : Expr} {ta : TE} {apos pos : Pos} {pl : Sem Bool} (he : PE X o ta) (c : Cls X.K C) (hm : Meth X.K C m f)
    (F : FnR X.prog X.w X.K X.mg X.base CX k f sp) (hr : Room k X.A) (hx : Passes CX X E)
    (ht : eval (.Call (.Attribute o m apos) [] [] pos) X.env = (do
      let ov ← eval o X.env
      standAt apos.atName
      let (f, first) ← holding [ov] (getMethod ov m pl)
      callWith pos f first (backTo pos (starEach [] X.env)) (backToKw pos (keywordEach [] X.env))) := by rfl) :
    PE X (.Call (.Attribute o m apos) [] [] pos) (tMethR C m sp E ta tNil) := by
  refine ⟨fun pins s σ H Q I h => ?_⟩
  refine PySem.W.methodCall_KW (pl := pl) (thn (he.run pins s σ H _ I h) fun u s1 ⟨x, H1, I1, rx, a, dx, fs, ex, ea, l, q⟩ => ?_) ht
  subst ex
  obtain rfl : u = Value.ref a := rx
  refine getmeth_ok I1 ea c hm l ?_
  exact PySem.W.callWith_K0 (first := [.ref a]) I1.kIn hm.kp (wpAny_call (run_fnR (us := [.ref a]) (vs := [.ref a]) F hr hx I1 (.cons rfl .nil) q))
end MR0
namespace K17
open PySem PySem.Spec PyProof.Rows L2 He Cn Evl KeL Erx MxI
section
variable {P : Program} {w : World} {K : PySem.W.Frag} {mg : Str → Option Value} {base : Heap}
def spRight (K : PySem.W.Frag) : Sp := fun vs H Q _ => ∃ (p md wl lg : Addr) (n : Nat) (ka wt : List Addr) (ab ls : List (List Nat)) (ways : List (Bool × Bool)) (ki : Ki) (xi : Xi) (kj : Ks_) (L : List V), vs = [.ref p, .ref md, .ref wl, .ref lg, .int (n : Nat)] ∧ n < ab.length ∧ Rt K (del H lg) p md wl lg ka wt ab ls ways ki xi kj ∧ H lg = some (.lst L) ∧
  ∀ H' L', FrB lg H H' → H' lg = some (.lst L') → Q (.bl true) H'
/-- [at for at in line if ways[at][i]] -/
def tAll (K : PySem.W.Frag) (i : Int) : TE := tLc (iList K (tVar 5)) (gName 9) (tB (tOp (rIxT K) (tOp (rIxL K) (tVar 2) (tVar 9)) (tC (.int i)))) (tVar 9) [9]
/-- [(at, 5 + step) for step, at in enumerate(goers)] -/
def tPairs (K : PySem.W.Frag) : TE := tLc (iEnum K (tCons (tVar 7) tNil)) (gTup K 2 (gCons (gName 10) (gCons (gName 9) gNil))) tYes (tTup (tCons (tVar 9) (tCons (tOp (rI0 fun i j => .int (i + j)) (tC (.int 5)) (tVar 10)) tNil))) [10, 9]
abbrev sR (p md wl lg : Addr) (n : Nat) (q : Addr) (v6 v7 v8 : Option V) : L2.St := [some (.ref p), some (.ref md), some (.ref wl), some (.ref lg), some (.int (n : Nat)), some (.ref q), v6, v7, v8, none, none]
theorem q_clear {D : Ends} {tz : TS} {σ : L2.St} {H : Hp} {l : Addr} {xs : List V} {i : Nat} (hl : H l = some (.lst xs)) (ha : σ[i]? = some (some (.ref l))) (k : tz D σ (upd H l (.lst []))) : tSeq (tDrop (tBM0 K "list" rClear (tVar i))) tz D σ H := ⟨_, ha, .inl ⟨rfl, _, sq_of hl⟩, l, xs, rfl, rfl, hl, k⟩
theorem el_all {G H : Hp} {p md wl lg q : Addr} {ka wt : List Addr} {ab ls : List (List Nat)} {ways : List (Bool × Bool)} {ki : Ki} {xi : Xi} {kj : Ks_} {n j : Nat} {v6 v7 v8 : Option V} {r : List Nat} (R : Rt K G p md wl lg ka wt ab ls ways ki xi kj) (eG : Ex G H) (hq : SqL K H q (nts r)) (hr : ∀ y, y ∈ r → y < ab.length) (hl : r.length ≤ 8)
    (f : Nat → Bool) (hf : ∀ y w, ways[y]? = some w → ([V.bl w.1, V.bl w.2] : List V)[j]? = some (.bl (f y))) : EvL (tAll K (j : Nat)) (sR p md wl lg n q v6 v7 v8) H (nts (r.filter f)) := by
  have hL := el_lcK (K := K) wk_list (tl := tVar 5) (σ := sR p md wl lg n q v6 v7 v8) (H := H) (j := 9) (t := tB (tOp (rIxT K) (tOp (rIxL K) (tVar 2) (tVar 9)) (tC (.int (j : Nat))))) (te := tVar 9) (vs := [9])
    (ev_var rfl) hq (fun i => match r[i]? with | some x => f x | none => false) (fun i => match r[i]? with | some x => V.int (x : Int) | none => .non) (by rw [nts_len]; omega) (fun x => rfl)
    (fun i x H3 e3 hx => by
      obtain ⟨m, hm, rfl⟩ := nts_at hx
      rw [hm]
      have hlt := hr m (List.mem_of_getElem? hm)
      obtain ⟨w, hw⟩ : ∃ w, ways[m]? = some w := at_some (by rw [R.hwl]; exact hlt)
      obtain ⟨t, ht⟩ : ∃ t, wt[m]? = some t := at_some (by rw [R.tl, R.hwl]; exact hlt)
      have h1 := ex_t (eG.trans e3) (R.wy m t w ht hw)
      exact et_B (ev_op (ev_op (ev_var rfl) (ev_var rfl) (rv_ixL (sq_of (e3 _ _ (eG _ _ R.hwt))) (at_of rfl (at_refs ht)))) ev_c (rv_ixT h1 (at_of rfl (hf m w hw)))))
    (fun i x H3 e3 hx _ => by
      obtain ⟨m, hm, rfl⟩ := nts_at hx
      have : (match r[i]? with | some x => V.int (x : Int) | none => .non) = V.int (m : Int) := by rw [hm]
      rw [this]
      exact ev_var rfl)
  have eL : given (nts r).length (fun i => match r[i]? with | some x => f x | none => false) (fun i => match r[i]? with | some x => V.int (x : Int) | none => .non) = nts (r.filter f) := by
    rw [nts_len, given_filter r f (fun x => V.int (x : Int)) _ _ (fun i x hx => by rw [hx]) (fun i x hx => by rw [hx])]
    rfl
  rw [eL] at hL
  exact hL
theorem rd_pairs {H : Hp} {p md wl lg q gp : Addr} {n : Nat} {v6 v8 : Option V} {gs : List Nat} (hg : H gp = some (.lst (nts gs))) (hl : gs.length ≤ 8) {Q : VK} (k : ∀ (D : Addr) (us : List Addr) (H' : Hp), Ex H H' → H' D = some (.lst (refs us)) → TAt H' us gs 5 → Q (.ref D) H') :
    tPairs K (sR p md wl lg n q v6 (some (.ref gp)) v8) H Q := by
  refine ⟨_, rfl, gp, nts gs, rfl, sq_of hg, fun D hD => ?_⟩
  have hDg : gp ≠ D := ne_of_none hg hD
  refine lc_it (walk_enum (K := K)) (fun i H' => ∃ us : List Addr, Ex H H' ∧ H' D = some (.lst (refs us)) ∧ us.length = i ∧ ∀ (j : Nat) (t : Addr) (g : Nat), us[j]? = some t → gs[j]? = some g → H' t = some (.tup [.int (g : Nat), .int (5 + (j : Nat))])) ⟨[], Ex.new hD, upd_same, rfl, fun j t g h => by simp at h⟩ (fun i H' _ p => sq_of (p.choose_spec.1 _ _ hg)) ?_ ?_
  · rintro i x H1 H2 hi ⟨us, e1, h1, hlen, ht⟩ ⟨T, x1, y1, rfl, hT, rfl, h3, h4⟩
    obtain rfl := Option.some.inj h3
    obtain ⟨g, hg', rfl⟩ := nts_at h4
    rw [nts_len] at hi
    refine ⟨T, _, rfl, st_of upd_same, rfl, _, _, rfl, _, _, rfl, rfl, ?_⟩
    have e2 : Ex H1 (upd H1 T (.tup [.int (i : Nat), .int (g : Int)])) := Ex.new hT
    generalize upd H1 T (.tup [.int (i : Nat), .int (g : Int)]) = H2 at *
    refine ⟨rfl, yes_then ?_⟩
    refine ⟨_, rfl, _, rfl, 5, (i : Nat), rfl, rfl, by show 2 ≤ sizeLine; decide, fun t htn => ?_⟩
    have e3 : Ex H2 (upd H2 t (.tup [.int (g : Int), .int (5 + (i : Nat))])) := Ex.new htn
    have t3 : upd H2 t (.tup [.int (g : Int), .int (5 + (i : Nat))]) t = some (.tup [.int (g : Int), .int (5 + (i : Nat))]) := upd_same
    generalize upd H2 t (.tup [.int (g : Int), .int (5 + (i : Nat))]) = H3 at *
    have e13 := e2.trans e3
    refine ⟨refs us, e13 _ _ h1, sz_lt (by unfold refs; rw [List.length_map]; omega), us ++ [t], Ex.mut (e1.trans e13) hD, by rw [upd_same]; unfold refs; simp, by rw [List.length_append, hlen]; rfl, fun j t' g' a b => ?_⟩
    by_cases hj : j < us.length
    · rw [List.getElem?_append_left hj] at a
      have := e13 _ _ (ht j t' g' a b)
      rw [upd_ne (ne_of this (e13 _ _ h1) (by intro z; cases z))]
      exact this
    · rw [List.getElem?_append_right (by omega)] at a
      have ei : j - us.length = 0 := by
        have := (List.getElem?_eq_some_iff.mp a).1
        simp at this
        omega
      rw [ei] at a
      obtain rfl : t = t' := by simpa using a
      obtain rfl : j = i := by omega
      rw [hg'] at b
      obtain rfl := Option.some.inj b
      rw [upd_ne (ne_of t3 (e13 _ _ h1) (by intro z; cases z))]
      exact t3
  · rintro H1 ⟨us, e1, h1, hlen, ht⟩
    exact k D us H1 e1 h1 ⟨by rw [nts_len] at hlen; exact hlen, ht⟩
theorem can_right (T : Txt K mg) : Can P w K mg base CX0 (lvM 8 + 4) "_law_right" ["plans", "made", "ways", "log", "n"] (spRight K) := by
  have CL : Can P w K mg base CX0 11 "_law_line" ["plans", "n"] (spLine 10) := can_line T 10 (by decide)
  have FMk := fnr_make (P := P) (w := w) (base := base) T
  have FC := fnr_call (P := P) (w := w) (base := base) T 8
  have CX := can_lost (P := P) (w := w) (base := base) T
  refine can_of T.g__law_right T.F__law_right (fun fd F => ?_) (fun _ _ _ _ _ _ us hl => match us, hl with | [_, _, _, _, _], _ => rfl)
  refine F.ok sc__law_right (fun vs H Q E h => ?_) (fun cdv A outer s H vs Q E hr h => ?_)
  · obtain ⟨p, md, wl, lg, n, ka, wt, ab, ls, ways, ki, xi, kj, L, rfl, _⟩ := h
    rfl
  · obtain ⟨p, md, wl, lg, n, ka, wt, ab, ls, ways, ki, xi, kj, L, rfl, hn, R, hlg, fin⟩ := h
    have nd := sc__law_right.nd
    refine ⟨_, pss_cons (ps_set (i := 5) nd rfl (.inl rfl) (pe_can CL hr pass0 (pa_cons (pv 0) (pa_cons (pv 4) pa_nil)) (by decide)))
      (pss_cons (ps_expr (pe_bm0 PySem.F.plainAttrs_list PySem.F.slot_list_clear PySem.F.type_list_clear mt_clear (pv 3)))
      (pss_cons (ps_set (i := 6) nd rfl (.inl rfl) (MR0.pe_methR0 (pe_ix ix_list (pv 1) (pv 4) (fun _ _ => rfl)) T.cls T.m_make FMk (hr.mono (by decide)) pass0))
      (pss_cons (ps_if (pt_cmpR (op_neD hr.units) (pv 3) (?_ : PE _ _ (tAll K 0)) (nomark _)) (pss_one ps_never) pss_nil)
      (pss_cons (?_ : PS _ _ (tAsg (tAll K 1) (gName 7)))
      (pss_cons (ps_expr (pe_bm0 PySem.F.plainAttrs_list PySem.F.slot_list_clear PySem.F.type_list_clear mt_clear (pv 3)))
      (pss_cons (ps_if (pt_cmpR (op_eq_nil hr) (pv 7) (pe_lst pa_nil) (nomark _)) (pss_one (ps_ret (pe_and (pe_can CX hr pass0 (pa_cons (pv 6) pa_nil)) (pe_one (pe_cmpR (op_eq_nil hr) (pv 3) (pe_lst pa_nil) (nomark _)))))) pss_nil)
      (pss_cons (ps_set (i := 8) nd rfl (.inl rfl) (SlX.pe_methSl (pv 6) T.rS T.rm_call FC (hr.mono (by decide)) (passes_call LamX.takes0 fun _ _ _ _ h => h) (pa_cons pe_str (pa_cons pe_int pa_nil))))
      (pss_one (ps_ret (pe_and (pe_cmpR op_eq (pv 8) (pe_ix ix_list (pv 7) pe_int (fun _ _ => rfl)) (nomark _)) (pe_one (pe_cmpR (op_eqD hr.units) (pv 3) (?_ : PE _ _ (tPairs K)) (nomark _))))))))))))), ?_⟩
    · exact pe_lc (own := [("at", 9)]) (wi := iList K (tVar 5)) (g := gName 9) (tt := tB (tOp (rIxT K) (tOp (rIxL K) (tVar 2) (tVar 9)) (tC (.int 0)))) (te := tVar 9) rfl nd (pi_list (pv 5)) (blkOk_by (N := ["plans", "made", "ways", "log", "n", "line", "record", "goers", "told", "at", "step"]) (sc := defScope s__law_right) (by decide +kernel)) (fun _ _ _ _ _ => pg_name (i := 9) nd rfl (.inl rfl)) (fun _ _ _ _ _ => pts_one (pt_val (pe_ix ix_tup (pe_ix ix_list (pv 2) (pv 9) (fun _ _ => rfl)) pe_int (fun _ _ => rfl)))) (fun _ _ _ _ _ => pv 9)
    · exact ps_setLc (i := 7) (own := [("at", 9)]) (wi := iList K (tVar 5)) (g := gName 9) (tt := tB (tOp (rIxT K) (tOp (rIxL K) (tVar 2) (tVar 9)) (tC (.int 1)))) (te := tVar 9) rfl nd rfl rfl (sw_true rfl rfl rfl (by decide +kernel)) (pi_list (pv 5)) (blkOk_by (N := ["plans", "made", "ways", "log", "n", "line", "record", "goers", "told", "at", "step"]) (sc := defScope s__law_right) (by decide +kernel)) (fun _ _ _ _ _ => pg_name (i := 9) nd rfl (.inl rfl)) (fun _ _ _ _ _ => pts_one (pt_val (pe_ix ix_tup (pe_ix ix_list (pv 2) (pv 9) (fun _ _ => rfl)) pe_int (fun _ _ => rfl)))) (fun _ _ _ _ _ => pv 9)
    · exact pe_lc (own := [("step", 10), ("at", 9)]) (wi := iEnum K (tCons (tVar 7) tNil)) (g := gTup K 2 (gCons (gName 10) (gCons (gName 9) gNil))) (tt := tYes) (te := tTup (tCons (tVar 9) (tCons (tOp (rI0 fun i j => .int (i + j)) (tC (.int 5)) (tVar 10)) tNil))) rfl nd (pi_enum (by rfl) T.n_enumerate (pa_cons (pv 7) pa_nil)) (blkOk_by (N := ["plans", "made", "ways", "log", "n", "line", "record", "goers", "told", "at", "step"]) (sc := defScope s__law_right) (by decide +kernel)) (fun _ _ _ _ _ => pg_tup rfl (pgs_cons (pg_name (i := 10) nd rfl (.inl rfl)) (pgs_cons (pg_name (i := 9) nd rfl (.inl rfl)) pgs_nil))) (fun _ _ _ _ _ => pts_nil) (fun _ _ _ _ _ => pe_tup (pa_cons (pv 9) (pa_cons (pe_op op_add pe_int (pv 10)) pa_nil)))
    have d0 : Ex (del H lg) H := del_ex
    obtain ⟨as, l, O⟩ := R.good.2 n hn
    obtain ⟨n1, n2, n3, n4⟩ := R.ln hn O.s
    have a8 := R.a8
    have hnk : n < ka.length := by rw [R.kl]; exact hn
    -- line
    refine q_asgE ?_
    refine ⟨_, rfl, _, rfl, p, n, ab, ls, as, rfl, by omega, R.pl.ex d0, ⟨by omega, fun i hi => R.good.2 i (by omega)⟩, O.a, O.lt, O.nd, O.len, by omega, (fun z => by rw [O.mg] at z; cases z), fun l' hl' q H1 hq e1 h1 => ?_⟩
    rw [O.mg] at hl'
    obtain rfl := Option.some.inj hl'
    have hql : q ≠ lg := (ne_of_none hlg hq).symm
    -- log.clear()
    have hlg1 := e1 _ _ hlg
    refine q_clear hlg1 rfl ?_
    have f2 : FrB lg H (upd H1 lg (.lst [])) := fun b o h hb => by rw [upd_ne hb]; exact e1 _ _ h
    have k2 : upd H1 lg (.lst []) lg = some (.lst []) := upd_same
    have q2 : upd H1 lg (.lst []) q = some (.lst (nts (n :: l))) := by rw [upd_ne hql]; exact h1
    generalize upd H1 lg (.lst []) = H2 at *
    have R2 := R.ex (fr_del f2)
    have c2 : Ex (del H2 lg) H2 := del_ex
    -- record = made[n].make()
    refine q_asgE ?_
    refine ev_op (x := .ref md) (y := .int (n : Nat)) (z := .ref (kf ka n)) (ev_var rfl) (ev_var rfl) (rv_ixL (sq_of (c2 _ _ R2.hmk)) (at_of rfl (at_refs (kf_mem hnk)))) H2 (Ex.refl _) _ fun H3 e3 => ?_
    have R3 := R2.ex (del_mono (a := lg) e3)
    have c3 : Ex (del H3 lg) H3 := del_ex
    obtain ⟨dx, qx, d, md', fs0, g1, g2, _⟩ := id (R3.kk.one n hnk).kx
    refine ⟨kf ka n, dx, fs0, rfl, c3 _ _ g1, g2 _ (by simp [noKeys]), ?_⟩
    refine ⟨kf ka n, md, lg, ka, xi, kj, (n :: l).map (kf ka), [], rfl, R3.wd hn O.s, n4.symm, rfl, by rw [List.length_map]; exact n3, e3 _ _ k2, by rw [List.length_map]; show 0 + _ ≤ 1000; omega, fun r H4 hr rc f4 k4 => ?_⟩
    rw [List.nil_append, R3.hooks (n :: l) n2] at k4
    have R4 := R3.ex (fr_del f4)
    have c4 : Ex (del H4 lg) H4 := del_ex
    have q4 : H4 q = some (.lst (nts (n :: l))) := f4 _ _ (e3 _ _ q2) hql
    have f04 : FrB lg H H4 := FrB.trans (FrB.trans f2 (ex_frb e3)) f4
    have hrl : r ≠ lg := (ne_of_none (e3 _ _ k2) hr).symm
    -- if log != [..]
    have hA := el_all (n := n) (j := 0) (v6 := some (.ref r)) (v7 := none) (v8 := none) R4 c4 (sq_of q4) n2 n3 (wayH ways) (fun y w hw => by
      unfold wayH
      rw [List.getD_eq_getElem?_getD, hw]
      rfl)
    refine q_when (b := false) (et_test (ev_opL (ev_var (v := .ref lg) rfl) hA fun pp H5 hp5 e5 => rv_neI (ex_l e5 (sq_of k4)) (sq_of hp5))) (fun h => by cases h) fun _ H5 e5 => ?_
    have R5 := R4.ex (del_mono (a := lg) e5)
    have c5 : Ex (del H5 lg) H5 := del_ex
    -- goers
    have hB := el_all (n := n) (j := 1) (v6 := some (.ref r)) (v7 := none) (v8 := none) R5 c5 (sq_of (e5 _ _ q4)) n2 n3 (wayM ways) (fun y w hw => by
      unfold wayM
      rw [List.getD_eq_getElem?_getD, hw]
      rfl)
    refine q_asgL hB fun gp H6 hgp e6 h6 => ?_
    have hgl : gp ≠ lg := (ne_of_none (e5 _ _ k4) hgp).symm
    have k6 := e6 _ _ (e5 _ _ k4)
    -- log.clear()
    refine q_clear k6 rfl ?_
    have f7 : FrB lg H4 (upd H6 lg (.lst [])) := fun b o h hb => by rw [upd_ne hb]; exact e6 _ _ (e5 _ _ h)
    have k7 : upd H6 lg (.lst []) lg = some (.lst []) := upd_same
    have g7 : upd H6 lg (.lst []) gp = some (.lst (nts ((n :: l).filter (wayM ways)))) := by rw [upd_ne hgl]; exact h6
    generalize upd H6 lg (.lst []) = H7 at *
    have R7 := R4.ex (fr_del f7)
    have rc7 := rc.ex (fr_del f7)
    have f07 : FrB lg H H7 := FrB.trans f04 f7
    have hgo := R7.goes (n :: l) n2
    have hg8 : ((n :: l).filter (wayM ways)).length ≤ 8 := Nat.le_trans (List.length_filter_le _ _) n3
    have hgm : ∀ y, y ∈ (n :: l).filter (wayM ways) → y < ab.length := fun y hy => n2 y (List.mem_filter.mp hy).1
    have am : kf ka n ∈ (n :: l).map (kf ka) := List.mem_cons_self ..
    generalize hgs : (n :: l).filter (wayM ways) = gs at *
    refine q_when (b := (nts gs).isEmpty) (et_test (ev_opL (ev_var (v := .ref gp) rfl) (el_lst ea_nil (by decide)) fun pp H8 hp8 e8 => rv_eqE (neg := false) (ex_l e8 (sq_of g7)) (sq_of hp8))) (fun hb H8 e8 => ?_) (fun hb H8 e8 => ?_)
    · have ge : gs = [] := by
        cases gs with
        | nil => rfl
        | cons a r => cases hb
      rw [ge] at hgo
      have R8 := R7.ex (del_mono (a := lg) e8)
      refine s_ret (v := .bl true) (ev_is (ev_andV (a := true) (b := true) (ev_call (ea_cons (ev_var rfl) ea_nil) fun H9 e9 Q' q' E' => ⟨r, kf ka n, md, lg, ka, xi, kj, (n :: l).map (kf ka), [], rfl, rc7.ex (del_mono (e8.trans e9)), (R8.ex (del_mono (a := lg) e9)).wd hn O.s, n4.symm, am, by rw [List.length_map]; exact n3, (e8.trans e9) _ _ k7, by rw [List.length_map]; show 0 + _ ≤ 1000; omega, hgo, fun HA eA => q' HA eA⟩) fun _ => ev_is (ev_opL (ev_var (v := .ref lg) rfl) (el_lst ea_nil (by decide)) fun pp H9 hp9 e9 => rv_eqE (neg := false) (ex_l (e8.trans e9) (sq_of k7)) (sq_of hp9)) rfl) rfl) fun H9 e9 => ?_
      exact fin H9 [] (FrB.trans f07 (ex_frb (e8.trans e9))) ((e8.trans e9) _ _ k7)
    · obtain ⟨g, gr, ge⟩ : ∃ g gr, gs = g :: gr := by
        cases gs with
        | nil => cases hb
        | cons a r => exact ⟨a, r, rfl⟩
      have R8 := R7.ex (del_mono (a := lg) e8)
      have rc8 := rc7.ex (del_mono (a := lg) e8)
      obtain ⟨dxr, vr, s1, s2⟩ := rc8.ex del_ex
      -- told = record.call('go', 5)
      refine q_asgE ?_
      refine ⟨_, rfl, r, dxr, vr, rfl, s1, r, kf ka n, md, lg, ka, xi, kj, (n :: l).map (kf ka), [], 5, rfl, rc8, R8.wd hn O.s, n4.symm, am, by rw [List.length_map]; exact n3, e8 _ _ k7, by rw [List.length_map]; show 0 + _ ≤ 1000; omega, fun z => ?_, fun b bs hbs ts H9 f9 k9 t9 => ?_⟩
      · rw [hgo, ge] at z
        cases z
      · rw [List.nil_append] at k9
        rw [hgo, ge, List.map_cons] at hbs
        injection hbs with hb1 hb2
        subst hb1 hb2
        have hgi : ((kj (kf ka g)).i : Int) = (g : Int) := by
          rw [(R8.kk.one g (by rw [R.kl]; exact hgm g (by rw [ge]; exact List.mem_cons_self ..))).num]
        have T9 := R8.calls (gs := g :: gr) (fun y hy => hgm y (by rw [ge]; exact hy)) t9
        have g9 : H9 gp = some (.lst (nts (g :: gr))) := by
          rw [← ge]
          exact f9 _ _ (e8 _ _ g7) hgl
        refine s_ret (v := .bl true) (ev_is (ev_andV (a := true) (b := true) (ev_is (ev_op (x := .int ((kj (kf ka g)).i : Nat)) (y := .int (g : Nat)) (ev_var rfl) (ev_op (x := .ref gp) (y := .int 0) (ev_var rfl) ev_c (rv_ixL (sq_of g9) (at_of (j := 0) rfl rfl))) (rv_eq rfl)) (by simp [hgi])) fun _ => fun HA eA Q' q' => ⟨_, rfl, ?_⟩) rfl) fun HA eA => ?_
        · refine rd_pairs (gs := g :: gr) (eA _ _ g9) (by rw [← ge]; exact hg8) fun D us HB eB hD hT => ?_
          exact rv_eqT (ts := ts) (us := us) (gs := g :: gr) (st := 5) (sq_of (eB _ _ (eA _ _ k9))) (sq_of hD) (T9.ex (eA.trans eB)) hT HB (Ex.refl _) _ fun HC eC => q' HC (eB.trans eC)
        · exact fin HA _ (FrB.trans (FrB.trans f07 (ex_frb e8)) (FrB.trans f9 (ex_frb eA))) (eA _ _ k9)
end
end K17
end

section
set_option Elab.async false
set_option linter.all false
set_option maxRecDepth 100000
set_option maxHeartbeats 4000000
namespace K17
open PySem PySem.Spec PyProof.Rows L2 He Cn Evl KeL
section
variable {K : PySem.W.Frag} {dm c gm p q lg wl : Addr} {ds ka wt : List Addr} {ab ls : List (List Nat)} {ways : List (Bool × Bool)} {ki : Ki} {xi : Xi} {kj : Ks_} {G G' H H' : Hp} {sp sp' : Int}
def tStep (K : PySem.W.Frag) : TS := tSeq (tAsg (tCut K (tVar 7) (tTen K)) (gName 8)) (tSeq (tPut K) (tSeq (tFix K) (tSeq (tWays K) (tSeq (tAsg (tCB (rTupOf K) (tCons (tAbv K) tNil)) (gName 8)) (tMade K)))))
theorem rd_step {D : Ends} {va v2 v8 : Option V} {n : Nat} (hn : n = ab.length) (B : Bl K dm gm p q lg wl ds ka wt ab ls ways ki xi kj G H) (A : Ap dm c gm p q lg wl) (hkl : ka.length = ab.length) (hwl : ways.length = ab.length) (h8 : ab.length < 8) (M : MAt H dm c gm sp) (s0 : 0 ≤ sp) (s1 : sp < 200000) (hT : LamX.Tabs (tabs K) H)
    (k : ∀ (H' : Hp) (ds' ka' wt' : List Addr) (ab' ls' : List (List Nat)) (ways' : List (Bool × Bool)) (ki' : Ki) (xi' : Xi) (kj' : Ks_) (G' : Hp) (sp' : Int) (w8 : Option V), Bl K dm gm p q lg wl ds' ka' wt' ab' ls' ways' ki' xi' kj' G' H' → ka'.length = ab'.length → ways'.length = ab'.length → ab'.length = ab.length + 1 → MAt H' dm c gm sp' → sp ≤ sp' → sp' ≤ sp + 30 → LamX.Tabs (tabs K) H' → D.nx [va, some (.ref dm), v2, some (.ref p), some (.ref q), some (.ref lg), some (.ref wl), some (.int (n : Int)), w8, none] H') :
    tStep K D [va, some (.ref dm), v2, some (.ref p), some (.ref q), some (.ref lg), some (.ref wl), some (.int (n : Int)), v8, none] H := by
  subst hn
  unfold tStep
  refine q_asgE ?_
  refine rd_cut (n := ab.length) (b := 3) rfl (ev_var rfl) (by omega) M s0 (by omega) (rd_ten rfl) fun pc as H1 sp1 hnd hlt hlen hpc f1 M1 b1 b2 h1 => ?_
  have B1 := B.fr A f1
  have T1 : LamX.Tabs (tabs K) H1 := tabs_fr M f1 hT
  show tSeq (tPut K) _ D [va, some (.ref dm), v2, some (.ref p), some (.ref q), some (.ref lg), some (.ref wl), some (.int (ab.length : Int)), some (.ref pc), none] H1
  have a0 : pc ∉ bads dm gm p q lg wl := by
    have c1 := M.dm_ne hpc
    have c2 := M.gm_ne hpc
    have c3 := (ne_of_none B.hp hpc).symm
    have c4 := (ne_of_none B.hq hpc).symm
    have c5 := (ne_of_none B.hl hpc).symm
    have c6 := (ne_of_none B.hw hpc).symm
    simp [c1, c2, c3, c4, c5, c6]
  refine rd_put B1 A hkl h8 M1 T1 hnd hlt hlen h1 a0 fun H3 ds3 ab3 ls3 G3 B3 hab M3 T3 => ?_
  refine rd_ways B3 A (by omega) (by omega) M3 (by omega) (by omega) T3 fun H4 wt4 w G4 B4 M4 T4 => ?_
  have e0 : (ab.length : Int) = (ka.length : Int) := by rw [hkl]
  rw [e0]
  refine rd_made B4 A (by omega) (by rw [List.length_append, hwl, hab]; rfl) (by omega) M4 T4 fun H5 a ki5 xi5 kj5 G5 w8 B5 M5 T5 => ?_
  rw [← e0]
  exact k H5 _ _ _ _ _ _ ki5 xi5 kj5 G5 (sp1 + 2) w8 B5 (by rw [List.length_append]; show _ + 1 = _; omega) (by rw [List.length_append, hwl, hab]; rfl) hab M5 (by omega) (by omega) T5
def tBuild (K : PySem.W.Frag) : TS := tFor (iRng1 (tCons (tOp (rI0 fun i j => .int (i + j)) (tC (.int 3)) (tCall spDraw [] E0 (tCons (tVar 1) (tCons (tC (.int 5)) tNil)))) tNil)) (gName 7) (tStep K)
def tFour (K : PySem.W.Frag) : TS := tAsg (tTup (tCons (tLst tNil) (tCons (tLst tNil) (tCons (tLst tNil) (tCons (tLst tNil) tNil))))) (gTup K 4 (gCons (gName 3) (gCons (gName 4) (gCons (gName 5) (gCons (gName 6) gNil)))))
theorem rd_build {D : Ends} {tz : TS} {va v2 v3 v4 v5 v6 v7 v8 : Option V} (M : MAt H dm c gm sp) (s0 : 0 ≤ sp) (s1 : sp < 100000) (hT : LamX.Tabs (tabs K) H)
    (k : ∀ (p q lg wl : Addr) (ds ka wt : List Addr) (ab ls : List (List Nat)) (ways : List (Bool × Bool)) (ki : Ki) (xi : Xi) (kj : Ks_) (G H' : Hp) (sp' : Int) (w7 w8 : Option V), Ap dm c gm p q lg wl → Bl K dm gm p q lg wl ds ka wt ab ls ways ki xi kj G H' → ka.length = ab.length → ways.length = ab.length → ab.length ≤ 8 → MAt H' dm c gm sp' → sp ≤ sp' → sp' ≤ sp + 400 → LamX.Tabs (tabs K) H' → tz D [va, some (.ref dm), v2, some (.ref p), some (.ref q), some (.ref lg), some (.ref wl), w7, w8, none] H') :
    tSeq (tFour K) (tSeq (tBuild K) tz) D [va, some (.ref dm), v2, v3, v4, v5, v6, v7, v8, none] H := by
  unfold tFour
  refine q_asgE ?_
  refine ⟨by show 0 ≤ sizeLine; decide, fun p hp => ⟨by show 0 ≤ sizeLine; decide, fun q hq => ⟨by show 0 ≤ sizeLine; decide, fun lg hl => ⟨by show 0 ≤ sizeLine; decide, fun wl hw => ⟨by show 4 ≤ sizeLine; decide, fun tp htp => ⟨tp, _, rfl, st_of upd_same, rfl, _, _, rfl, _, _, rfl, _, _, rfl, _, _, rfl, rfl, ?_⟩⟩⟩⟩⟩⟩
  have e1 : Ex H (upd H p (.lst [])) := Ex.new hp
  have hp1 : upd H p (.lst []) p = some (.lst []) := upd_same
  generalize upd H p (.lst []) = H1 at *
  have M1 := mat_ex e1 M
  have e2 : Ex H1 (upd H1 q (.lst [])) := Ex.new hq
  have hq2 : upd H1 q (.lst []) q = some (.lst []) := upd_same
  generalize upd H1 q (.lst []) = H2 at *
  have M2 := mat_ex e2 M1
  have e3 : Ex H2 (upd H2 lg (.lst [])) := Ex.new hl
  have hl3 : upd H2 lg (.lst []) lg = some (.lst []) := upd_same
  generalize upd H2 lg (.lst []) = H3 at *
  have M3 := mat_ex e3 M2
  have e4 : Ex H3 (upd H3 wl (.lst [])) := Ex.new hw
  have hw4 : upd H3 wl (.lst []) wl = some (.lst []) := upd_same
  generalize upd H3 wl (.lst []) = H4 at *
  have M4 := mat_ex e4 M3
  have e5 : Ex H4 (upd H4 tp (.tup [.ref p, .ref q, .ref lg, .ref wl])) := Ex.new htp
  generalize upd H4 tp (.tup [.ref p, .ref q, .ref lg, .ref wl]) = H5 at *
  have A : Ap dm c gm p q lg wl := ⟨⟨M.dm_ne hp, M.c_ne hp, M.gm_ne hp⟩, ⟨M1.dm_ne hq, M1.c_ne hq, M1.gm_ne hq⟩, ⟨M2.dm_ne hl, M2.c_ne hl, M2.gm_ne hl⟩, ⟨M3.dm_ne hw, M3.c_ne hw, M3.gm_ne hw⟩, ne_of_none hp1 hq, ne_of_none (e2 _ _ hp1) hl, ne_of_none ((e2.trans e3) _ _ hp1) hw, ne_of_none hq2 hl, ne_of_none (e3 _ _ hq2) hw, ne_of_none hl3 hw⟩
  have e05 := (((e1.trans e2).trans e3).trans e4).trans e5
  have M5 := mat_ex e5 M4
  have B5 : Bl K dm gm p q lg wl [] [] [] [] [] [] (fun _ => ⟨[], [], [], false, false⟩) (fun _ => ⟨[], none, none⟩) (fun _ => ⟨0, [], []⟩) (fun _ => none) H5 := ⟨(fun b o h => nomatch h), (fun b _ => rfl), (fun b ps h => nomatch h), (((e2.trans e3).trans e4).trans e5) _ _ hp1, ((e3.trans e4).trans e5) _ _ hq2, (e4.trans e5) _ _ hl3, e5 _ _ hw4, rfl, rfl, rfl, ⟨by decide, fun i hi => absurd hi (Nat.not_lt_zero _)⟩, (fun i d as hd _ => by simp at hd), (fun i t w a _ => by simp at a), ⟨List.nodup_nil, (fun x hx => absurd hx (Nat.not_lt_zero _)), fun x hx => absurd hx (Nat.not_lt_zero _)⟩⟩
  have T5 := hT.ext e05
  show tSeq (tBuild K) tz D [va, some (.ref dm), v2, some (.ref p), some (.ref q), some (.ref lg), some (.ref wl), v7, v8, none] H5
  unfold tBuild
  refine ⟨_, rfl, dm, c, gm, sp, 5, rfl, M5, s0, by omega, by decide, by decide, fun r H6 hr0 hr1 M6 f6 => ?_⟩
  refine ⟨3, r, rfl, rfl, 3 + r, rfl, by omega, by omega, ?_⟩
  have B6 := B5.fr A f6
  have T6 : LamX.Tabs (tabs K) H6 := tabs_fr M5 f6 T5
  refine for_range (D := { D with nx := tz D }) (lo := 0) (n := (3 + r).toNat) (fun i σ H' => ∃ (w7 w8 : Option V) (ds ka wt : List Addr) (ab ls : List (List Nat)) (ways : List (Bool × Bool)) (ki : Ki) (xi : Xi) (kj : Ks_) (G : Hp) (sp' : Int), σ = [va, some (.ref dm), v2, some (.ref p), some (.ref q), some (.ref lg), some (.ref wl), w7, w8, none] ∧ Bl K dm gm p q lg wl ds ka wt ab ls ways ki xi kj G H' ∧ ka.length = ab.length ∧ ways.length = ab.length ∧ ab.length = i ∧ MAt H' dm c gm sp' ∧ sp + 1 ≤ sp' ∧ sp' ≤ sp + 1 + 30 * (i : Int) ∧ LamX.Tabs (tabs K) H') ⟨_, _, [], [], [], [], [], [], _, _, _, _, sp + 1, rfl, B6, rfl, rfl, rfl, M6, by omega, by omega, T6⟩ ?_ ?_
  · rintro i σ H7 hi ⟨w7, w8, ds, ka, wt, ab, ls, ways, ki, xi, kj, G, sp7, rfl, B7, hkl, hwl, hab, M7, a1, a2, T7⟩
    have e0 : (0 : Int) + (i : Int) = (i : Int) := Int.zero_add _
    show tStep K _ [va, some (.ref dm), v2, some (.ref p), some (.ref q), some (.ref lg), some (.ref wl), some (.int ((0 : Int) + (i : Int))), w8, none] H7
    rw [e0]
    refine rd_step hab.symm B7 A hkl hwl (by omega) M7 (by omega) (by omega) T7 fun H8 ds8 ka8 wt8 ab8 ls8 ways8 ki8 xi8 kj8 G8 sp8 w8' B8 h1 h2 h3 M8 b1 b2 T8 => ?_
    exact ⟨_, w8', ds8, ka8, wt8, ab8, ls8, ways8, ki8, xi8, kj8, G8, sp8, rfl, B8, h1, h2, by omega, M8, by omega, by omega, T8⟩
  · rintro σ H7 ⟨w7, w8, ds, ka, wt, ab, ls, ways, ki, xi, kj, G, sp7, rfl, B7, hkl, hwl, hab, M7, a1, a2, T7⟩
    exact k p q lg wl ds ka wt ab ls ways ki xi kj G H7 sp7 w7 w8 A B7 hkl hwl (by omega) M7 (by omega) (by omega) T7
end
end K17
end

section
set_option Elab.async false
set_option linter.all false
set_option maxRecDepth 100000
set_option maxHeartbeats 4000000
namespace K17
open PySem PySem.Spec PyProof.Rows L2 He Cn Evl KeL
section
variable {K : PySem.W.Frag} {dm c gm p q lg wl : Addr} {ds ka wt : List Addr} {ab ls : List (List Nat)} {ways : List (Bool × Bool)} {ki : Ki} {xi : Xi} {kj : Ks_} {G G' H H' : Hp} {sp sp' : Int}
def tAsk (K : PySem.W.Frag) : TS := tIfS (tNot (tB (tCall (spRight K) [] E0 (tCons (tVar 3) (tCons (tVar 4) (tCons (tVar 6) (tCons (tVar 5) (tCons (tVar 7) tNil)))))))) (tRet (tC (.bl false))) tNext
def tRound (K : PySem.W.Frag) : TS := tSeq (tFour K) (tSeq (tBuild K) (tFor (iRng1 (tCons (tCB (rLenS K) (tCons (tVar 3) tNil)) tNil)) (gName 7) (tAsk K)))
theorem mat_frb {H H' : Hp} (f : FrB lg H H') (A : lg ≠ dm ∧ lg ≠ c ∧ lg ≠ gm) (M : MAt H dm c gm sp) : MAt H' dm c gm sp := by
  obtain ⟨m1, ⟨cs, lc, bc, m2⟩, ⟨gs, gl, m3⟩, m4⟩ := M
  exact ⟨f _ _ m1 A.1.symm, ⟨cs, lc, bc, f _ _ m2 A.2.1.symm⟩, ⟨gs, gl, f _ _ m3 A.2.2.symm⟩, m4⟩
theorem tabs_frb {H H' : Hp} {L : List V} (f : FrB lg H H') (hl : H lg = some (.lst L)) (t : LamX.Tabs (tabs K) H) : LamX.Tabs (tabs K) H' :=
  tabs_k (fun b o h h1 h2 => f b o h fun z => by rw [z, hl] at h; exact h2 _ (Option.some.inj h).symm) t
theorem Bl.rt (B : Bl K dm gm p q lg wl ds ka wt ab ls ways ki xi kj G H) (A : Ap dm c gm p q lg wl) (hkl : ka.length = ab.length) (hwl : ways.length = ab.length) (h8 : ab.length ≤ 8) : Rt K (del H lg) p q wl lg ka wt ab ls ways ki xi kj := by
  have e : Ex G (del H lg) := ex_del B.ex (B.bd _ (by simp))
  exact ⟨⟨ds, by rw [del_ne A.pl]; exact B.hp, B.len, B.pl.ex e⟩, B.good, by rw [del_ne A.ql]; exact B.hq, by rw [del_ne A.lw.symm]; exact B.hw, B.wy.ex e, B.kk.ex e, hkl, B.lwy, hwl, h8⟩
theorem rd_round {D : Ends} {va v2 v3 v4 v5 v6 v7 v8 : Option V} (M : MAt H dm c gm sp) (s0 : 0 ≤ sp) (s1 : sp < 50000) (hT : LamX.Tabs (tabs K) H)
    (k : ∀ (w3 w4 w5 w6 w7 w8 : Option V) (H' : Hp) (sp' : Int), MAt H' dm c gm sp' → sp ≤ sp' → sp' ≤ sp + 2000 → LamX.Tabs (tabs K) H' → D.nx [va, some (.ref dm), v2, w3, w4, w5, w6, w7, w8, none] H') :
    tRound K D [va, some (.ref dm), v2, v3, v4, v5, v6, v7, v8, none] H := by
  unfold tRound
  refine rd_build M s0 (by omega) hT fun p q lg wl ds ka wt ab ls ways ki xi kj G H1 sp1 w7 w8 A B1 hkl hwl n8 M1 a1 a2 T1 => ?_
  have R1 := B1.rt A hkl hwl n8
  have lr : (refs ds).length = ab.length := by unfold refs; rw [List.length_map, B1.len]
  refine s_forR1 (n := (ab.length : Int)) (ea_cons (ev_is (Evl.ev_len (ev_var rfl) (sq_of B1.hp)) (by rw [lr])) ea_nil) (by omega) (fun i σ H' => ∃ (w7 : Option V) (L : List V), σ = [va, some (.ref dm), v2, some (.ref p), some (.ref q), some (.ref lg), some (.ref wl), w7, w8, none] ∧ FrB lg H1 H' ∧ H' lg = some (.lst L)) ?_ ?_ ?_
  · intro H2 e2
    exact ⟨_, _, rfl, ex_frb e2, e2 _ _ B1.hl⟩
  · rintro i σ H2 hi ⟨w7, L, rfl, f2, h2⟩
    refine ⟨_, rfl, _, rfl, _, rfl, _, rfl, _, rfl, p, q, wl, lg, i, ka, wt, ab, ls, ways, ki, xi, kj, L, rfl, by omega, R1.ex (fr_del f2), h2, fun H3 L' f3 h3 => ⟨true, rfl, ?_⟩⟩
    exact ⟨_, L', rfl, FrB.trans f2 f3, h3⟩
  · rintro σ H2 ⟨w7, L, rfl, f2, h2⟩
    exact k _ _ _ _ _ _ H2 sp1 (mat_frb f2 A.al M1) (by omega) (by omega) (tabs_frb f2 B1.hl T1)
def rMin2 : List V → Hp → VK → Prop := fun xs H Q => ∃ i j, xs = [V.int i, V.int j] ∧ Q (.int (if j < i then j else i)) H
theorem rd_law {D : Ends} {a : Addr} {ns : List Int} (S : SqL K H a (ns.map V.int)) (hlen : ns.length ≤ 63) (M : MAt H dm c gm 0) (hT : LamX.Tabs (tabs K) H) (fin : ∀ H', D.rt (.bl true) H') :
    tSeq (tFor (iRng1 (tCons (tOp (rI0 fun i j => .int (i + j)) (tC (.int 1)) (tCB rMin2 (tCons (tC (.int 2)) (tCons (tOp (rI CDiv fun i j => .int (i / j)) (tCB (rLenS K) (tCons (tVar 0) tNil)) (tC (.int 10))) tNil)))) tNil)) (gName 2) (tRound K)) (tRet (tC (.bl true))) D [some (.ref a), some (.ref dm), none, none, none, none, none, none, none, none] H := by
  have hb : (if ((ns.length : Int) / 10) < 2 then ((ns.length : Int) / 10) else 2) ≤ 2 ∧ 0 ≤ (if ((ns.length : Int) / 10) < 2 then ((ns.length : Int) / 10) else 2) := by
    split <;> omega
  refine q_forR1 (n := 1 + (if ((ns.length : Int) / 10) < 2 then ((ns.length : Int) / 10) else 2))
    (ea_cons (ev_op ev_c (ev_cb (ea_cons ev_c (ea_cons (ev_op (x := .int (ns.length : Int)) (ev_is (Evl.ev_len (ev_var rfl) S) (by rw [List.length_map])) ev_c (rv_I ⟨by decide, by decide⟩)) ea_nil)) fun H1 e Q q => ⟨2, _, rfl, q H1 (Ex.refl H1)⟩) rv_I0) ea_nil)
    ⟨by omega, by omega⟩ (fun i σ H' => ∃ (w2 w3 w4 w5 w6 w7 w8 : Option V) (sp' : Int), σ = [some (.ref a), some (.ref dm), w2, w3, w4, w5, w6, w7, w8, none] ∧ MAt H' dm c gm sp' ∧ 0 ≤ sp' ∧ sp' ≤ 2000 * (i : Int) ∧ LamX.Tabs (tabs K) H') ?_ ?_ ?_
  · intro H1 e1
    exact ⟨_, _, _, _, _, _, _, 0, rfl, mat_ex e1 M, by omega, by omega, hT.ext e1⟩
  · rintro i σ H1 hi ⟨w2, w3, w4, w5, w6, w7, w8, sp', rfl, M1, s0, s1, T1⟩
    refine rd_round M1 s0 (by omega) T1 fun w3 w4 w5 w6 w7 w8 H2 sp2 M2 b1 b2 T2 => ?_
    exact ⟨_, w3, w4, w5, w6, w7, w8, sp2, rfl, M2, by omega, by omega, T2⟩
  · rintro σ H1 _
    exact fin H1
end
section
variable {P : Program} {w : World} {K : PySem.W.Frag} {mg : Str → Option Value} {base : Heap}
def spLaw (K : PySem.W.Frag) : Sp := fun vs H Q _ => ∃ (a : Addr) (ns : List Int), vs = [.ref a] ∧ SqL K H a (ns.map V.int) ∧ ns.length ≤ 63 ∧ LamX.Tabs (tabs K) H ∧ ∀ H', Q (.bl true) H'
theorem ok_law (T : Txt K mg) (TB : TabsOk K mg base) (hP : ProgOk P) {fd : FuncData} (F : Fun K "law" "law" s_law (ga K "law") fd) : FnOk P w K mg base CX0 (lvM 8 + 5) (ga K "law") fd ["script"] (spLaw K) := by
  obtain ⟨fdO, FO, bO⟩ := ok_ofN (P := P) (w := w) (base := base) T
  have RO := FO.raw (dvs := [V.non]) bO (.cons rfl .nil)
  have CB : Can P w K mg base CX0 2 "_law_begun" ["script"] (spBegun K) := can_begun T
  have CD : Can P w K mg base CX0 2 "_law_draw" ["m", "top"] spDraw := can_draw T
  have CU : Can P w K mg base CX0 3 "_law_mixed_up" ["m", "things"] (spUp K) := can_up T
  have CL : Can P w K mg base CX0 11 "_law_line" ["plans", "n"] (spLine 10) := can_line T 10 (by decide)
  have CP : Can P w K mg base CX0 6 "_law_parts_of" ["made", "log", "ways", "n"] (spLPartsOf K) := can_lpartsOf T TB hP
  have CR : Can P w K mg base CX0 (lvM 8 + 4) "_law_right" ["plans", "made", "ways", "log", "n"] (spRight K) := can_right T
  refine F.ok sc_law (fun vs H Q E h => ?_) (fun cdv A outer s H vs Q E hr h => ?_)
  · obtain ⟨a, ns, rfl, _⟩ := h
    rfl
  · obtain ⟨a, ns, rfl, hS, hlen, hT, fin⟩ := h
    have nd := sc_law.nd
    have hu := hu_of hr
    refine ⟨_, pss_cons (ps_set (i := 1) nd rfl (.inl rfl) (pe_can CB hr pass0 (pa_cons (pv 0) pa_nil) (by decide)))
      (pss_cons (ps_for PassesOwn.never rfl (pi_range1 rfl T.n_range (pa_cons (pe_op op_add pe_int (pe_callB (call_min2 rfl) (by rfl) T.n_min (by decide +kernel) (pa_cons pe_int (pa_cons (pe_op op_fdiv (pe_callB call_len_seq (by rfl) T.n_len PySem.boot_len (pa_cons (pv 0) pa_nil)) pe_int) pa_nil)))) pa_nil)) (pg_name (i := 2) nd rfl (.inl rfl))
        (?_ : PSs _ _ (tRound K)))
      (pss_one (ps_ret pe_bl))), ?_⟩
    · refine pss_cons (ps_asg (pe_tup (pa_cons (pe_lst pa_nil) (pa_cons (pe_lst pa_nil) (pa_cons (pe_lst pa_nil) (pa_cons (pe_lst pa_nil) pa_nil))))) (pg_tup rfl (pgs_cons (pg_name (i := 3) nd rfl (.inl rfl)) (pgs_cons (pg_name (i := 4) nd rfl (.inr rfl)) (pgs_cons (pg_name (i := 5) nd rfl (.inl rfl)) (pgs_cons (pg_name (i := 6) nd rfl (.inl rfl)) pgs_nil))))))
        (pss_cons (ps_for PassesOwn.never rfl (pi_range1 rfl T.n_range (pa_cons (pe_op op_add pe_int (pe_can CD hr pass0 (pa_cons (pv 1) (pa_cons pe_int pa_nil)) (by decide))) pa_nil)) (pg_name (i := 7) nd rfl (.inl rfl)) (?_ : PSs _ _ (tStep K)))
        (pss_one (ps_for PassesOwn.never rfl (pi_range1 rfl T.n_range (pa_cons (pe_callB call_len_seq (by rfl) T.n_len PySem.boot_len (pa_cons (pv 3) pa_nil)) pa_nil)) (pg_name (i := 7) nd rfl (.inl rfl)) (?_ : PSs _ _ (tAsk K)))))
      · refine pss_cons (ps_set (i := 8) nd rfl (.inl rfl) (pe_slice sl_list (pe_can CU hr pass0 (pa_cons (pv 1) (pa_cons (pe_callTy (call_list_rng rfl) (by rfl) T.n_list (by decide +kernel) (pa_cons (pe_callTy cr_range1 (by rfl) T.n_range (by decide +kernel) (pa_cons (pv 7) pa_nil)) pa_nil)) pa_nil)) (by decide)) po_none (po_some (pe_ix ix_list (pe_lst (pa_cons pe_int (pa_cons pe_int (pa_cons pe_int (pa_cons pe_int pa_nil))))) (pe_can CD hr pass0 (pa_cons (pv 1) (pa_cons pe_int pa_nil)) (by decide)) (fun _ _ => rfl)))))
          (pss_cons (ps_expr (pe_bm PySem.F.plainAttrs_list PySem.F.slot_list_append PySem.F.type_list_append mt_append (pv 3) (pa_cons (pe_disp (pps_cons pe_str (pe_op op_add_str pe_str (pe_callTy call_str_int (by rfl) T.n_str (by decide +kernel) (pa_cons (pv 7) pa_nil))) (pps_cons pe_str (pe_lst pa_nil) (pps_cons pe_str (pv 8) (pps_cons pe_str pe_dnewK pps_nil)))) (by rfl) (by rfl) (fun z => by cases z) (by decide)) pa_nil)))
          (pss_cons (ps_if (pt_cmp (pc_isN (pe_can CL hr pass0 (pa_cons (pv 3) (pa_cons (pv 7) pa_nil)) (by decide)))) (pss_one (ps_dput hu (pe_ix ix_list (pv 3) (pv 7) (fun _ _ => rfl)) pe_str (pe_slice sl_list (pv 8) po_none (po_some pe_int)) rfl)) pss_nil)
          (pss_cons (ps_expr (pe_bm PySem.F.plainAttrs_list PySem.F.slot_list_append PySem.F.type_list_append mt_append (pv 6) (pa_cons (pe_tup (pa_cons (pe_cmpR op_gt (pe_can CD hr pass0 (pa_cons (pv 1) (pa_cons pe_int pa_nil)) (by decide)) pe_int (nomark _)) (pa_cons (pe_cmpR op_gt (pe_can CD hr pass0 (pa_cons (pv 1) (pa_cons pe_int pa_nil)) (by decide)) pe_int (nomark _)) pa_nil))) pa_nil)))
          (pss_cons (ps_set (i := 8) nd rfl (.inl rfl) (pe_callTy call_tuple_of (by rfl) T.n_tuple (by decide +kernel) (pa_cons (?_ : PE _ _ (tAbv K)) pa_nil)))
          (pss_one (ps_expr (pe_bm PySem.F.plainAttrs_list PySem.F.slot_list_append PySem.F.type_list_append mt_append (pv 4) (pa_cons (?_ : PE _ _ (tKof K)) pa_nil))))))))
        · exact pe_lc (own := [("at", 9)]) (wi := iList K (tDGet (tOp (rIxL K) (tVar 3) (tVar 7)) (tC (.str "above")))) (g := gName 9) (tt := tYes) (te := tOp (rIxL K) (tVar 4) (tVar 9)) rfl nd (pi_list (pe_dget hu (pe_ix ix_list (pv 3) (pv 7) (fun _ _ => rfl)) pe_str (fun _ _ => rfl))) (blkOk_by (N := ["script", "m", "again", "plans", "made", "log", "ways", "n", "tops", "at"]) (sc := defScope s_law) (by decide +kernel)) (fun _ _ _ _ _ => pg_name (i := 9) nd rfl (.inl rfl)) (fun _ _ _ _ _ => pts_nil) (fun _ _ _ _ _ => pe_ix ix_list (pv 4) (pv 9) (fun _ _ => rfl))
        · exact ClX.pe_cmeth (pe_glob rfl T.g_Kind (v := .ref (kC K)) rfl) T.cread T.cmet RO (hr.mono (by decide)) pass0 (pa_cons (pe_op op_add_str pe_str (pe_callTy call_str_int (by rfl) T.n_str (by decide +kernel) (pa_cons (pv 7) pa_nil))) (pa_cons (pe_can CP hr pass0 (pa_cons (pv 4) (pa_cons (pv 5) (pa_cons (pv 6) (pa_cons (pv 7) pa_nil)))) (by decide)) (pa_cons (pv 8) pa_nil)))
      · exact pss_one (ps_if (pt_not (pt_val (pe_can CR hr pass0 (pa_cons (pv 3) (pa_cons (pv 4) (pa_cons (pv 6) (pa_cons (pv 5) (pa_cons (pv 7) pa_nil)))))))) (pss_one (ps_ret pe_bl)) pss_nil)
    refine ⟨_, rfl, a, ns, rfl, hS, hlen, fun dm c gm H1 hd hc hg e1 M1 => ?_⟩
    have T1 := hT.ext e1
    have S1 : SqL K H1 a (ns.map V.int) := ex_l e1 hS
    exact rd_law S1 hlen M1 T1 fin
end
end K17
end

section
set_option Elab.async false
set_option linter.all false
set_option maxRecDepth 100000
set_option maxHeartbeats 4000000
namespace K17
open PySem PySem.Spec PyProof.Rows L2 He Cn Evl
abbrev lw : PySem.W.OpenLaw := PySem.Challenge.rw_recordcraft_k17_whole_cooperation
theorem prog_ok : ProgOk lw.prog := ⟨by kernel_rfl, by kernel_rfl⟩
theorem law_at (w : World) {K : PySem.W.Frag} {mg : Str → Option Value} {f : Addr} {h : Heap} (hK : K.In h) (c : HkS.SaysS fa fn fs tf exs h K) (G : h.Ns mainGlobals mg) (hmg : mg "law" = some (.ref f)) : LamX.LawAtS lw w K CX0 41 63 "script" mg f h := by
  have T : Txt K mg := txt_of hK G c
  obtain ⟨fd, F⟩ := T.F_law
  have ef : f = ga K "law" := by
    have q := T.g_law
    rw [hmg] at q
    have q' := Option.some.inj q
    injection q'
  subst ef
  have m1 : (fun K => ga K "_law_parts_of" : HkQ.TabF) ∈ tf := List.mem_singleton.mpr rfl
  have all1 : ∀ {C : Addr × Addr → Prop}, C (HkQ.cP K fun K => ga K "_law_parts_of") → ∀ p ∈ [HkQ.cP K fun K => ga K "_law_parts_of"], C p := fun a p hp => by
    rw [List.mem_singleton.mp hp]
    exact a
  refine ⟨fd, [HkQ.cP K fun K => ga K "_law_parts_of"], spLaw K, all1 (c.q.empty _ m1), all1 (c.q.out _ m1), all1 (PySem.W.codeHd_of_K hK (c.q.hd _ m1)), ?_, ?_, ?_⟩
  · intro s u
    obtain ⟨oc, od, kV, doc, pm, an, cdv, ct, osl, rfl, lk, hcd⟩ := F.ex
    exact .of_eq rfl
  · intro H a ns hl hb hT hS
    refine ⟨a, ns, rfl, hS, hl, fun p hp => ?_, fun _ => rfl⟩
    rw [List.mem_singleton.mp hp]
    exact LamX.TabS.nil (hT _ (List.mem_singleton.mpr rfl))
  · intro base hKb hG TB
    exact ok_law T ⟨TB _ (List.mem_singleton.mpr rfl)⟩ prog_ok F
theorem walk_law {d : DefRec} (hn : d.name = "law") (hd : d.params.defaults = []) : PySem.W.WalkO qv names (PySem.W.XL qv []) hk.says R.toRowW d [] fun f vs => PySem.call f vs :=
  LamX.walk_ofTsE (l := lw) (n := 63) (k := 41) (CX := fun _ => CX0) (x := "script") rfl (by decide) hd ⟨rfl, by decide, by decide⟩
    (fun w mg f h Y G hmg => by
      obtain ⟨K, hK, c⟩ := Y
      rw [hn] at hmg
      exact ⟨K, hK, law_at w hK c G hmg⟩) (fun _ _ _ _ _ h => h)
end K17
end

section
set_option Elab.async false
set_option linter.all false
set_option maxRecDepth 100000
set_option maxHeartbeats 0
open PySem PySem.W PySem.Calls PyProof.Rows
theorem PySem.Challenge.cw_recordcraft_k17_whole_cooperation_holds : PySem.Challenge.rw_recordcraft_k17_whole_cooperation.Holds := by
  w_on; o_law
  refine HandSHeadRun.head_any (r := OpenLaw.row PySem.Challenge.rw_recordcraft_k17_whole_cooperation) (q := K17.qv) (H := K17.hk) (ob := K17.ob) (M := 20000) (loose := K17.names) (kwd := []) K17.ob_eq (by kernel_rfl) (fun s => by kernel_rfl) K17.run (by rfl) (by rfl) (by rfl) (by rfl) (by first | assumption | decide +kernel) (by decide +kernel) ⟨rfl, rfl, rfl, rfl, rfl, by decide +kernel⟩ ?hw ?hc
  case hw => w_witness2
  case hc => exact K17.walk_law rfl rfl
end
