import PyProof.Rows.All
import Wide.All
import OpenK.AllK
import Wide.FinOn
import KE.KNest
import KE.KNestM
import HandS.Base
import HandS.Call
import HandS.List
import HandS.Dict
import HandS.More
import HandS.Exc
import HandS.ExcInit
import HandS.ExcField
import HandS.Defaults
import HandS.Lambda
import HandS.EndTab
import HandS.HeadHook1
import HandS.HeadHook2
import HandS.HeadHook3
import HandS.HeadHook4
import HandS.HeadNt
import HandS.HeadWalk
import HandS.Star
import PyProof.EqAt
import PyProof.EqKinds
import PyProof.NeKinds
import PyProof.InstEq
import PyProof.TupleCall
import HandS.Strs
import PyProof.DictValues
import KE.KDictList
import HandS.ListItems
import PyProof.ReprRoads
import PyProof.ReprLen
import HandS.ForMost
import HandS.Evl
import HandS.TryOnly
import HandS.WordsExc
import HandS.IsInst
import HandS.ClsMeth
import HandS.DictComp
import HandS.TupAny
import HandS.Walk
import HandS.Flow
import KE.GoesMore
import KE.GoesEnum
import HandS.Comp
import HandS.Iter
import HandS.Style
import KE.KStar
import KE.KCallOwn
import HandS.Slots
import HandS.Words
import PySem.Challenge.RW_recordcraft_k50_whole_plain_values
import KE.KStateDown
import Lean
import HandS.Head0
import HandS.Head1
import HandS.Head2
import HandS.Text
import PyProof.AutoSeq1
import KE.KSuper
import HandS.Zip
import HandS.WordsDict
import HandS.EndBits
section
set_option Elab.async false
set_option linter.all false
set_option maxRecDepth 100000
set_option maxHeartbeats 2000000
/-! a Hook that tells: facts, defs at any address, further Bools, empty tables of code objects that are left out -/
namespace HkQ
open PySem PySem.Spec PyProof.Rows L2 He
abbrev Frag := PySem.W.Frag
/-- the table of a code object at an address -/
abbrev TabF := Frag → Addr
def cOf (K : Frag) (a : Addr) : Addr := match K.lookup a with
  | some ⟨_, _, .func fd, _⟩ => (match fd.code with
    | .ref c => c
    | _ => 0)
  | _ => 0
theorem cOf_eq {K : Frag} {a : Addr} {oc : Value} {od : Option Addr} {osl : Array (Option Value)} {fd : FuncData} {c : Addr} (lk : K.lookup a = some ⟨oc, od, .func fd, osl⟩) (e : fd.code = .ref c) : cOf K a = c := by
  unfold cOf
  rw [lk]
  show (match fd.code with | .ref c => c | _ => 0) = c
  rw [e]
/-- the code object of the def at a, its table -/
def cP (K : Frag) (t : TabF) : Addr × Addr := (cOf K (t K), tabOf K (cOf K (t K)))
structure SaysQ (fa : List Fa) (fn : List He5.DefA) (tf : List TabF) (exs : List (Frag → Bool)) (h : Heap) (K : Frag) : Prop where
  a : He5.SaysA fa fn K
  more : (exs.all fun f => f K) = true
  hd : ∀ t ∈ tf, PySem.W.codeHdIn K (cP K t).1 (cP K t).2 = true
  out : ∀ t ∈ tf, K.lookup (cP K t).2 = none
  empty : ∀ t ∈ tf, h.get? (cP K t).2 = some { cls := .none, data := .fields #[] }
def tabsQ (g : Addr → Option Obj) (tf : List TabF) (K : Frag) : Bool := tf.all fun t => PySem.W.codeHdIn K (cP K t).1 (cP K t).2 && (match g (cP K t).2 with
  | some o => emptyTab o
  | none => false)
abbrev AlQ : Type := AlD × Bool
def obsQ (al : List Addr) (fa : List Fa) (fn : List He5.DefA) (tf : List TabF) (exs : List (Frag → Bool)) (g : Addr → Option Obj) : AlQ :=
  (He5.obsA fa fn (frT g al), (exs.all fun f => f (frT g al)) && tabsQ g tf (frT g al))
def valQ (fn : List He5.DefA) : AlQ := (He5.valA fn, true)
theorem saysQ_of {al : List Addr} {fa : List Fa} {fn : List He5.DefA} {tf : List TabF} {exs : List (Frag → Bool)} {h : Heap} (e : obsQ al fa fn tf exs h.get? = valQ fn) : SaysQ fa fn tf exs h (frT h.get? al) := by
  have e1 : He5.obsA fa fn (frT h.get? al) = He5.valA fn := congrArg (fun z : AlQ => z.1) e
  have e2 : ((exs.all fun f => f (frT h.get? al)) && tabsQ h.get? tf (frT h.get? al)) = true := congrArg (fun z : AlQ => z.2) e
  obtain ⟨h1, h2⟩ := He.ba e2
  have key : ∀ t ∈ tf, PySem.W.codeHdIn (frT h.get? al) (cP (frT h.get? al) t).1 (cP (frT h.get? al) t).2 = true ∧ ∃ o, h.get? (cP (frT h.get? al) t).2 = some o ∧ emptyTab o = true := fun t ht => by
    obtain ⟨h3, h4⟩ := He.ba (List.all_eq_true.mp h2 t ht)
    refine ⟨h3, ?_⟩
    cases q : h.get? (cP (frT h.get? al) t).2 with
    | none =>
      rw [q] at h4
      cases h4
    | some o =>
      rw [q] at h4
      exact ⟨o, rfl, h4⟩
  refine ⟨e1, h1, fun t ht => (key t ht).1, fun t ht => ?_, fun t ht => ?_⟩
  · obtain ⟨_, o, q, z⟩ := key t ht
    exact frT_none q z
  · obtain ⟨_, o, q, z⟩ := key t ht
    rw [q, emptyTab_eq z]
def hookQ (al : List Addr) (fa : List Fa) (fn : List He5.DefA) (tf : List TabF) (exs : List (Frag → Bool)) : PySem.W.Hook where
  α := AlQ
  obs := fun s => obsQ al fa fn tf exs s.heap.get?
  val := fun _ => valQ fn
  says := fun _ h => ∃ K : Frag, K.In h ∧ SaysQ fa fn tf exs h K
  of := fun _ _ e => ⟨_, frT_in, saysQ_of e⟩
  keeps := fun _ _ _ ⟨K, hK, c⟩ k => ⟨K, PySem.W.Frag.In.keeps hK k, ⟨c.a, c.more, c.hd, c.out, fun t ht => k _ _ (c.empty t ht)⟩⟩
theorem obsQ_eq {al : List Addr} {fa : List Fa} {fn : List He5.DefA} {tf : List TabF} {exs : List (Frag → Bool)} {g : Addr → Option Obj} {s : Shared} (h : ∀ a, g a = s.heap.get? a) : obsQ al fa fn tf exs g = (hookQ al fa fn tf exs).obs s := by
  have e : g = s.heap.get? := funext h
  rw [e] <;> rfl
theorem SaysQ.ex {fa : List Fa} {fn : List He5.DefA} {tf : List TabF} {exs : List (Frag → Bool)} {h : Heap} {K : Frag} (c : SaysQ fa fn tf exs h K) (i : Nat) {f : Frag → Bool} (e : exs[i]? = some f := by rfl) : f K = true :=
  List.all_eq_true.mp c.more f (List.mem_of_getElem? e)
/-! ### further Bools -/
/-- an own exception class over ValueError, with an __init__ of its own -/
def oexB (K : Frag) (C : Addr) : Bool := (match K.lookup C with
  | some ⟨.type "type", _, .cls cd, sl⟩ => (match cd.mro, sl.toList with
    | .ref C' :: bm, [_, _, _, _, some (.builtin n), _] => C' == C && (n == "ValueError.__new__" && (!cd.hasDel && (cd.hasDict && PySem.HandSPX.refsVE bm)))
    | _, _ => false)
  | _ => false) && (eqO (PySem.W.findIn K (.ref C) "__setattr__") (some (some (.builtin "object.__setattr__"))) && (decide (PySem.W.subIn K (.ref C) (.type "BaseException") = some true) && (decide (PySem.W.typeIn K (.ref C) = some (.type "type")) && PySem.W.keepIn K (.ref C))))
theorem oexB_ok {K : Frag} {C : Addr} (h : oexB K C = true) : OexC K C := by
  obtain ⟨q, h⟩ := He.ba h
  obtain ⟨h2, h⟩ := He.ba h
  obtain ⟨h3, h⟩ := He.ba h
  obtain ⟨h4, h5⟩ := He.ba h
  refine ⟨?_, eqO_ok h2, of_decide_eq_true h3, of_decide_eq_true h4, h5⟩
  split at q
  · rename_i dd cd sl ho
    split at q
    · rename_i C' bm k0 k1 k2 k3 n k5 hm hs
      obtain ⟨g1, q⟩ := He.ba q
      obtain ⟨g2, q⟩ := He.ba q
      obtain ⟨g3, q⟩ := He.ba q
      obtain ⟨g4, g5⟩ := He.ba q
      obtain rfl := eq_of_beq g1
      obtain rfl := eq_of_beq g2
      obtain ⟨nm, bs, mro, ns, qn, hd, sn, sub, ab, col, del⟩ := cd
      dsimp only at hm g3 g4
      have g3' : del = false := by simpa using g3
      subst hm g3' g4
      have hsl : sl = #[k0, k1, k2, k3, some (.builtin "ValueError.__new__"), k5] := by
        obtain ⟨l⟩ := sl
        simp only at hs
        rw [hs]
      subst hsl
      exact ⟨nm, qn, ns, bs, bm, sn, sub, ab, col, dd, k0, k1, k2, k3, k5, ho, g5⟩
    · cases q
  · cases q
end HkQ
end

section
set_option Elab.async false
set_option linter.all false
set_option maxRecDepth 100000
set_option maxHeartbeats 2000000
/-! x in o, o[x], len(o), o + x by the class's own __contains__, __getitem__, __len__, __add__ -/
namespace OwD
open PySem PySem.Spec PyProof.Rows L2
section
variable {X : Cx} {pins : List (Addr × Obj)} {σ : L2.St} {H : Hp} {s : Shared} {CX : CXT} {k : Nat} {C f : Addr} {sp : Sp} {E : XK} {Q : VK} {us : List Value} {vs : List V}
/-- the class has the name as a def of its own at f -/
structure DunC (K : PySem.W.Frag) (C : Addr) (n : Str) (f : Addr) : Prop where
  at_ : PySem.W.findIn K (.ref C) n = some (some (.ref f))
  fn : PySem.W.isFn K (.ref f) = true
def dunB (K : PySem.W.Frag) (C : Addr) (n : Str) (f : Addr) : Bool := decide (PySem.W.findIn K (.ref C) n = some (some (.ref f))) && PySem.W.isFn K (.ref f)
theorem dunB_ok {K : PySem.W.Frag} {C : Addr} {n : Str} {f : Addr} (h : dunB K C n f = true) : DunC K C n f := by
  obtain ⟨h1, h2⟩ := Bool.and_eq_true_iff.mp h
  exact ⟨of_decide_eq_true h1, h2⟩
theorem inst_of (I : Inv X pins σ H s) {a dx : Addr} {fs : List (Str × V)} (ha : H a = some (.ins C dx fs)) : ∃ ox od, PySem.W.InstAt s.heap a ox C od := by
  obtain ⟨mA, J, _⟩ := ins_get I.hok ha
  obtain ⟨od, J, _⟩ := J.look
  exact ⟨_, _, J⟩
theorem run_dun (F : FnR X.prog X.w X.K X.mg X.base CX k f sp) (hr : Room k X.A) (hx : Passes CX X E) (I : Inv X pins σ H s) (r : Vals vs us) (h : sp vs H Q E) :
    wpAny (model X.prog X.w) X.A (call (.ref f) us) (EP X pins σ Q) X.xe s := by
  refine wpAny_call (codeAny_mono (F X.A X.stack s H us vs Q E hr I.env0 r h) fun r s' hq => ?_)
  cases r with
  | error e => exact hx pins σ H s e s' I hq
  | ok fl =>
    cases fl with
    | ret u => exact I.after hq
    | next => exact False.elim hq
    | brk => exact False.elim hq
    | cont => exact False.elim hq
/-- x in o -/
def rInO (C : Addr) (sp : Sp) (E : XK) (neg : Bool) : R2 := fun x y H Q => ∃ a dx fs, y = .ref a ∧ H a = some (.ins C dx fs) ∧ sp [.ref a, x] H (fun v H' => ∃ b, v = .bl b ∧ Q (.bl (if neg then !b else b)) H') E
theorem op_inOwn (d : DunC X.K C "__contains__" f) (F : FnR X.prog X.w X.K X.mg X.base CX k f sp) (hr : Room k X.A) (hx : Passes CX X E) : OpR X (compareOp .In) (rInO C sp E false) := by
  intro pins s σ H x y v u Q I rx ry h
  obtain ⟨a, dx, fs, rfl, ha, q⟩ := h
  obtain rfl : u = Value.ref a := ry
  obtain ⟨ox, od, J⟩ := inst_of I ha
  obtain ⟨m, hF⟩ := I.fr
  refine PySem.W.in_K hF I.ok.mod.kin J d.at_ d.fn (thn (run_dun F hr hx I (.cons (show RelV (.ref a) (.ref a) from rfl) (.cons rx .nil)) q) fun r s1 ⟨w, H1, I1, rw1, b, eb, q1⟩ => ?_)
  subst eb
  obtain rfl : r = Value.bool b := rw1
  exact wpAny_truthy_bool ⟨.bl b, H1, I1, rfl, q1⟩
theorem op_notInOwn (d : DunC X.K C "__contains__" f) (F : FnR X.prog X.w X.K X.mg X.base CX k f sp) (hr : Room k X.A) (hx : Passes CX X E) : OpR X (compareOp .NotIn) (rInO C sp E true) := by
  intro pins s σ H x y v u Q I rx ry h
  obtain ⟨a, dx, fs, rfl, ha, q⟩ := h
  obtain rfl : u = Value.ref a := ry
  obtain ⟨ox, od, J⟩ := inst_of I ha
  obtain ⟨m, hF⟩ := I.fr
  refine PySem.W.notIn_K hF I.ok.mod.kin J d.at_ d.fn (thn (run_dun F hr hx I (.cons (show RelV (.ref a) (.ref a) from rfl) (.cons rx .nil)) q) fun r s1 ⟨w, H1, I1, rw1, b, eb, q1⟩ => ?_)
  subst eb
  obtain rfl : r = Value.bool b := rw1
  exact wpAny_truthy_bool ⟨.bl (!b), H1, I1, rfl, q1⟩
/-- len(o) -/
def rLenO (C : Addr) (sp : Sp) (E : XK) : List V → Hp → VK → Prop := fun xs H Q => ∃ a dx fs, xs = [.ref a] ∧ H a = some (.ins C dx fs) ∧ sp [.ref a] H (fun v H' => ∃ i : Int, v = .int i ∧ 0 ≤ i ∧ i < 2 ^ 63 ∧ Q (.int i) H') E
theorem call_lenOwn (d : DunC X.K C "__len__" f) (F : FnR X.prog X.w X.K X.mg X.base CX k f sp) (hr : Room (k + 1) X.A) (hx : Passes CX X E) : CallR X (.builtin "len") (rLenO C sp E) := by
  intro pins s σ H xs us Q I r h
  obtain ⟨a, dx, fs, rfl, ha, q⟩ := h
  obtain ⟨u, rfl, ru⟩ := vals1 r
  obtain rfl : u = Value.ref a := ru
  obtain ⟨ox, od, J⟩ := inst_of I ha
  obtain ⟨m, hF⟩ := I.fr
  refine PySem.W.len_K hF I.ok.mod.kin J d.at_ d.fn ?_
  have e0 : Env0 X.prog X.w X.K X.mg X.base X.A.in1 X.stack s H := I.env0.in1
  refine wpAny_call (codeAny_mono (F X.A.in1 X.stack s H [.ref a] [.ref a] _ E hr.in1 e0 (.cons (show RelV (.ref a) (.ref a) from rfl) .nil) q) fun r s' hq => ?_)
  cases r with
  | error e => exact hx pins σ H s e s' I hq
  | ok fl =>
    cases fl with
    | ret u =>
      obtain ⟨w, H1, I1, rw1, i, eb, i0, i1, q1⟩ := I.after hq
      subst eb
      obtain ⟨t, rfl⟩ := rw1
      exact ⟨⟨i0, i1⟩, .int i, H1, I1.tok _, ⟨_, rfl⟩, q1⟩
    | next => exact False.elim hq
    | brk => exact False.elim hq
    | cont => exact False.elim hq
/-- o[x] -/
def rSubO (C : Addr) (sp : Sp) (E : XK) : R2 := fun x y H Q => ∃ a dx fs, x = .ref a ∧ H a = some (.ins C dx fs) ∧ sp [.ref a, y] H Q E
theorem ix_own (d : DunC X.K C "__getitem__" f) (hfn : PySem.W.fnIn X.K f = true) (F : FnR X.prog X.w X.K X.mg X.base CX k f sp) (hr : Room (k + 1) X.A) (hx : Passes CX X E) {value slice : Expr}
    (hsl : ∀ v u, subscripted slice true v u = runValue (.builtin "lifetime.subscript" ⟨[v, u], []⟩)) {ta tb : TE} {pos : Pos} (ha : PE X value ta) (hb : PE X slice tb) :
    PE X (.Subscript value slice pos) (tOp (rSubO C sp E) ta tb) := by
  refine ⟨fun pins s σ H Q I h => ?_⟩
  refine Subscript_ (binT ha hb I h fun v u s2 x y H2 I2 rx ry q => ?_)
  obtain ⟨a, dx, fs, rfl, hA, q⟩ := q
  obtain rfl : v = Value.ref a := rx
  obtain ⟨ox, od, J⟩ := inst_of I2 hA
  obtain ⟨m, hF⟩ := I2.fr
  refine PySem.W.sub_K hF I2.ok.mod.kin J d.at_ hfn d.fn ?_ (hsl _ _)
  have e0 : Env0 X.prog X.w X.K X.mg X.base X.A.in1 X.stack s2 H2 := I2.env0.in1
  refine wpAny_call (codeAny_mono (F X.A.in1 X.stack s2 H2 [.ref a, u] [.ref a, y] _ E hr.in1 e0 (.cons (show RelV (.ref a) (.ref a) from rfl) (.cons ry .nil)) q) fun r s' hq => ?_)
  cases r with
  | error e => exact hx pins σ H2 s2 e s' I2 hq
  | ok fl =>
    cases fl with
    | ret u => exact I2.after hq
    | next => exact False.elim hq
    | brk => exact False.elim hq
    | cont => exact False.elim hq
/-- o + x, both of the class -/
def rAddO (C : Addr) (sp : Sp) (E : XK) : R2 := fun x y H Q => ∃ a dx fs b dy gs, x = .ref a ∧ y = .ref b ∧ H a = some (.ins C dx fs) ∧ H b = some (.ins C dy gs) ∧ sp [.ref a, .ref b] H (fun v H' => (∃ r, v = .ref r) ∧ Q v H') E
theorem op_addOwn (d : DunC X.K C "__add__" f) (hc : PySem.W.selfFirst X.K C = true) (F : FnR X.prog X.w X.K X.mg X.base CX k f sp) (hr : Room k X.A) (hx : Passes CX X E) : OpR X (binaryOp .Add) (rAddO C sp E) := by
  intro pins s σ H x y v u Q I rx ry h
  obtain ⟨a, dx, fs, b, dy, gs, rfl, rfl, ha, hb, q⟩ := h
  obtain rfl : v = Value.ref a := rx
  obtain rfl : u = Value.ref b := ry
  obtain ⟨ox, od, J⟩ := inst_of I ha
  obtain ⟨oy, od', J'⟩ := inst_of I hb
  obtain ⟨m, hF⟩ := I.fr
  refine PySem.W.binop_K hF I.ok.mod.kin J J'.type hc d.at_ d.fn (thn (run_dun F hr hx I (.cons (show RelV (.ref a) (.ref a) from rfl) (.cons (show RelV (.ref b) (.ref b) from rfl) .nil)) q) fun r s1 ⟨w, H1, I1, rw1, ⟨p, ep⟩, q1⟩ => ?_)
  subst ep
  obtain rfl : r = Value.ref p := rw1
  exact ⟨.ref p, H1, I1, rfl, q1⟩
end
end OwD
end

section
set_option Elab.async false
set_option linter.all false
set_option maxRecDepth 100000
set_option maxHeartbeats 2000000
/-! Instances of a class without an own __eq__: ==, !=, in, index, by identity. -/
namespace IdQ
open PySem PySem.Spec PyProof.Rows PySem.SeqAt
section
variable {M : Model} {prog : Program} {w : World} {A : Around} {E : Value → Shared → Prop} {s : Shared} {K : PySem.W.Frag} {x y C : Addr} {ox oy : Obj} {od oe : Option Obj}
/-- the class has object's own == and != -/
structure IdC (K : PySem.W.Frag) (C : Addr) : Prop where
  ob : PySem.W.mroIn K C (.type "object") = some true
  eq : PySem.W.findIn K (.ref C) "__eq__" = some (some (.builtin "object.__eq__"))
  ne : PySem.W.findIn K (.ref C) "__ne__" = some (some (.builtin "object.__ne__"))
  nn : PySem.W.mroIn K C (.type "NoneType") = some false
def neV : Value → Value
  | .bool b => .bool (!b)
  | v => v
theorem entry_eq_other {Q : Fin → Shared → Prop} (hxy : x ≠ y) (hx : s.heap.get? x = some ox) (hy : s.heap.get? y = some oy) (hnt : ox.cls ≠ .type "tuple")
    (hq : Q (.done (.ret .notImplemented)) s) : wpAny M A (Builtin.«object.__eq__» ⟨[.ref x, .ref y], []⟩) Q E s := objEq_entry_other hxy hx hy hnt hq
theorem call_eq_other {Q : Value → Shared → Prop} (X : K.In s.heap) (I : PySem.W.InstAt s.heap x ox C od) (c : IdC K C) (hxy : x ≠ y) (hy : s.heap.get? y = some oy) (hq : Q .notImplemented s) :
    wpAny (model prog w) A (call (.builtin "object.__eq__") [.ref x, .ref y]) Q E s :=
  wpAny_call (codeAny_call_builtin F.cmp_object.eq.plain F.cmpEntry_eq (PySem.W.check_slot F.cmpKind_eq F.cmpSplit_eq (I.type.andThen (PySem.W.looks_mroIn X c.ob)) (F.cmpArgs_eq _ _)
    (entry_eq_other hxy I.at_ hy (by rw [I.cls]; intro z; cases z) hq)))
theorem call_eq_same {Q : Value → Shared → Prop} (X : K.In s.heap) (I : PySem.W.InstAt s.heap x ox C od) (c : IdC K C) (hq : Q (.bool true) s) :
    wpAny (model prog w) A (call (.builtin "object.__eq__") [.ref x, .ref x]) Q E s :=
  wpAny_call (codeAny_call_builtin F.cmp_object.eq.plain F.cmpEntry_eq (PySem.W.check_slot F.cmpKind_eq F.cmpSplit_eq (I.type.andThen (PySem.W.looks_mroIn X c.ob)) (F.cmpArgs_eq _ _) (objEq_entry_same hq)))
theorem sp_eq_other {Q : Option Value → Shared → Prop} (X : K.In s.heap) (I : PySem.W.InstAt s.heap x ox C od) (c : IdC K C) (hxy : x ≠ y) (hy : s.heap.get? y = some oy) (hq : Q (some .notImplemented) s) :
    wpAny (model prog w) A (callSpecialIfBound? (.ref x) "__eq__" [.ref y]) Q E s := HN.ifBound_objEq X I c.eq (call_eq_other X I c hxy hy hq)
theorem sp_eq_same {Q : Option Value → Shared → Prop} (X : K.In s.heap) (I : PySem.W.InstAt s.heap x ox C od) (c : IdC K C) (hq : Q (some (.bool true)) s) :
    wpAny (model prog w) A (callSpecialIfBound? (.ref x) "__eq__" [.ref x]) Q E s := HN.ifBound_objEq X I c.eq (call_eq_same X I c hq)
theorem sp_eq_none {Q : Option Value → Shared → Prop} (X : K.In s.heap) (I : PySem.W.InstAt s.heap x ox C od) (c : IdC K C) (hq : Q (some .notImplemented) s) :
    wpAny (model prog w) A (callSpecialIfBound? (.ref x) "__eq__" [.none]) Q E s := HN.ifBound_objEq X I c.eq (HN.call_objEq X I c.ob hq)
/-- the same for != -/
theorem ifBound_objNe {args : List Value} {Q : Option Value → Shared → Prop} (X : K.In s.heap) (I : PySem.W.InstAt s.heap x ox C od) (hs : PySem.W.findIn K (.ref C) "__ne__" = some (some (.builtin "object.__ne__")))
    (h : wpAny M A (call (.builtin "object.__ne__") (.ref x :: args)) (fun v => Q (some v)) E s) : wpAny M A (callSpecialIfBound? (.ref x) "__ne__" args) Q E s := by
  simp only [callSpecialIfBound?, bindSpecialIfBound?]
  refine wpAny_holding (wpAny_bind (wpAny_bind (wpAny_bind (I.type.here ((PySem.W.looks_findIn X hs).here ?_)))))
  refine wpAny_bind (wpAny_askSetting (wpAny_ite ?_))
  have fin : wpAny M A (call (.builtin "object.__ne__") ([.ref x] ++ args) >>= fun v => pure (some v)) Q E s := wpAny_bind (wpAny_mono h (fun v s' h' => wpAny_pure h') fun _ _ h' => h')
  split
  · exact wpAny_bind (wpAny_of_eq (F.cmp_object.ne.bind _) (wpAny_pure (by exact fin)))
  · exact wpAny_tryCatch (wpAny_bind (wpAny_of_eq (F.cmp_object.ne.bind _) (wpAny_pure (by exact fin))))
theorem entry_ne {z : Value} {r : Value} {Q : Fin → Shared → Prop} (hu : A.units < cLine)
    (h : ∀ Q' : Option Value → Shared → Prop, Q' (some r) s → wpAny M A (callSpecialIfBound? (.ref x) "__eq__" [z]) Q' E s)
    (hq : Q (.done (.ret (neV r))) s) (hr : r = .notImplemented ∨ ∃ b, r = .bool b) : wpAny M A (Builtin.«object.__ne__» ⟨[.ref x, z], []⟩) Q E s := by
  rcases hr with rfl | ⟨b, rfl⟩
  · unfold Builtin.«object.__ne__»
    repeat (first | with_reducible refine wpAny_cRoomFor hu ?_ | with_reducible refine h _ ?_ | wp_step)
    exact hq
  · unfold Builtin.«object.__ne__»
    repeat (first | with_reducible refine wpAny_cRoomFor hu ?_ | with_reducible refine h _ ?_ | wp_step)
    exact hq
theorem call_ne {z : Value} {r : Value} {Q : Value → Shared → Prop} (X : K.In s.heap) (I : PySem.W.InstAt s.heap x ox C od) (c : IdC K C) (hu : A.units + 1 < cLine)
    (h : ∀ Q' : Option Value → Shared → Prop, Q' (some r) s → wpAny (model prog w) A.in1 (callSpecialIfBound? (.ref x) "__eq__" [z]) Q' (fun e s' => E e s') s) (hr : r = .notImplemented ∨ ∃ b, r = .bool b)
    (hq : Q (neV r) s) : wpAny (model prog w) A (call (.builtin "object.__ne__") [.ref x, z]) Q E s :=
  wpAny_call (codeAny_call_builtin F.cmp_object.ne.plain F.cmpEntry_ne (PySem.W.check_slot F.cmpKind_ne F.cmpSplit_ne (I.type.andThen (PySem.W.looks_mroIn X c.ob)) (F.cmpArgs_ne _ _)
    (entry_ne (A := A.in1) (r := r) hu h hq hr)))
theorem tail_ne {Q : Value → Shared → Prop} {b : Bool} {m : Sem Bool} (h : Q (.bool (!b)) s) (hm : wpAny (model prog w) A m (fun r s' => r = b ∧ s' = s) E s) :
    wpAny (model prog w) A (do rule "compare.ne-identity"; return Value.bool (!(← m))) Q E s :=
  wpAny_bind (wpAny_rule (wpAny_bind (wpAny_mono hm (fun r s' z => by obtain ⟨z1, z2⟩ := z; subst z1; subst z2; exact wpAny_pure h) fun _ _ z => z)))
/-- x == y, both of C, two objects -/
theorem rc_other (hu : A.units < cLine) (X : K.In s.heap) (I : PySem.W.InstAt s.heap x ox C od) (J : PySem.W.InstAt s.heap y oy C oe) (c : IdC K C) (hxy : x ≠ y) : RcAt A s (.ref x) (.ref y) false := fun prog w E Q h => by
  have one : wpAny (model prog w) A (tryCompare (.ref x) "__eq__" (.ref y)) (fun r s' => r = none ∧ s' = s) E s := by
    unfold tryCompare
    exact wpAny_bind (sp_eq_other X I c hxy J.at_ (wpAny_pure ⟨rfl, rfl⟩))
  have two : wpAny (model prog w) A (tryCompare (.ref y) "__eq__" (.ref x)) (fun r s' => r = none ∧ s' = s) E s := by
    unfold tryCompare
    exact wpAny_bind (sp_eq_other X J c (fun e => hxy e.symm) I.at_ (wpAny_pure ⟨rfl, rfl⟩))
  simp only [richCompare, cmpInfo_Eq, oneThing_ref]
  refine wpAny_holding (wpAny_bind (wpAny_cRoomFor hu ?_))
  refine wpAny_bind (I.type.here ?_)
  refine wpAny_bind (J.type.here ?_)
  split
  · rename_i q
    exact absurd q (by simp)
  · refine wpAny_bind (wpAny_pure ?_)
    simp only [Bool.false_eq_true, if_false, Bool.not_false, if_true]
    refine wpAny_bind (m := tryCompare (.ref x) _ (.ref y)) (wpAny_mono one (fun r s1 z => ?_) fun _ _ e => e)
    obtain ⟨z1, z2⟩ := z
    subst z1
    subst z2
    refine wpAny_bind (m := tryCompare (.ref y) _ (.ref x)) (wpAny_mono two (fun r s2 z => ?_) fun _ _ e => e)
    obtain ⟨z1, z2⟩ := z
    subst z1
    subst z2
    exact wpAny_bind (wpAny_rule (wpAny_bind (wpAny_isSame_ref_other hxy I.at_ J.at_ (by rw [I.cls]; intro z; cases z) (wpAny_pure h))))
theorem none_ref_eq (hu : A.units < cLine) (X : K.In s.heap) (I : PySem.W.InstAt s.heap x ox C od) (c : IdC K C) : RcAt A s .none (.ref x) false := fun prog w E Q h => by
  have one : wpAny (model prog w) A (tryCompare (.ref x) "__eq__" .none) (fun r s' => r = none ∧ s' = s) E s := by
    unfold tryCompare
    exact wpAny_bind (sp_eq_none X I c (wpAny_pure ⟨rfl, rfl⟩))
  have two : wpAny (model prog w) A (tryCompare .none "__eq__" (.ref x)) (fun r s' => r = none ∧ s' = s) E s :=
    wpAny_tryCompare_declines (show s.TypeIs .none "NoneType" from rfl) F.slot_NoneType_eq_refl (call_gives F.slot_NoneType_eq_refl rfl F.entry_NoneType_eq (F.args_NoneType_eq_2 _ _) (NoneType___eq___none_ref_0 x) ⟨rfl, rfl, rfl⟩)
  have e0 : oneThing? .Eq .none (.ref x) = none := rfl
  simp only [richCompare, cmpInfo_Eq, e0]
  refine wpAny_holding (wpAny_bind (wpAny_cRoomFor hu ?_))
  refine wpAny_bind (wpAny_typeOf (show s.TypeIs .none "NoneType" from rfl) ?_)
  refine wpAny_bind (I.type.here ?_)
  have sb : PySem.W.Looks (model prog w) s.heap (isSubtype (.ref C) (.type "NoneType")) false := PySem.W.looks_mroIn X c.nn
  split
  · refine wpAny_bind (sb.here ?_)
    simp only [Bool.false_eq_true, if_false, Bool.not_false, if_true]
    refine wpAny_bind (m := tryCompare .none _ (.ref x)) (wpAny_mono two (fun r s1 z => ?_) fun _ _ e => e)
    obtain ⟨z1, z2⟩ := z
    subst z1
    subst z2
    refine wpAny_bind (m := tryCompare (.ref x) _ .none) (wpAny_mono one (fun r s2 z => ?_) fun _ _ e => e)
    obtain ⟨z1, z2⟩ := z
    subst z1
    subst z2
    exact wpAny_bind (wpAny_rule (wpAny_bind (wpAny_of_eq (rfl : isSame .none (.ref x) = pure false) (wpAny_pure h))))
  · rename_i q
    exact absurd (by simp) q
/-- x != z, x of C, z of C too or None; r: what x's == says of it -/
theorem rc_ne {z : Value} {r : Value} {b : Bool} (hu : A.units + 1 < cLine) (X : K.In s.heap) (I : PySem.W.InstAt s.heap x ox C od) (c : IdC K C) (hz : z = .none ∨ ∃ y oy oe, z = .ref y ∧ PySem.W.InstAt s.heap y oy C oe)
    (e : z = .ref x → b = false) (n : z ≠ .ref x → b = true) : ∀ (prog : Program) (w : World) (E : Value → Shared → Prop) (Q : Value → Shared → Prop), Q (.bool b) s → wpAny (model prog w) A (richCompare .NotEq (.ref x) z) Q E s := fun prog w E Q h => by
  have hu0 : A.units < cLine := Nat.lt_of_succ_lt hu
  have key : ∀ (z : Value) (r : Value) (a : Option Value) (y : Addr) (oy : Obj) (oe : Option Obj), PySem.W.InstAt s.heap y oy C oe → (∀ (A : Around) (E : Value → Shared → Prop) (Q' : Option Value → Shared → Prop), Q' (some r) s → wpAny (model prog w) A (callSpecialIfBound? (.ref y) "__eq__" [z]) Q' E s) →
      ((r = .notImplemented ∧ a = none) ∨ ∃ b, r = .bool b ∧ a = some (.bool (!b))) →
      wpAny (model prog w) A (tryCompare (.ref y) "__ne__" z) (fun r s' => r = a ∧ s' = s) E s := fun z r a y oy oe J hh hr => by
    unfold tryCompare
    rcases hr with ⟨rfl, rfl⟩ | ⟨b, rfl, rfl⟩
    · exact wpAny_bind (ifBound_objNe X J c.ne (call_ne (r := .notImplemented) X J c hu (fun Q' q => hh _ _ Q' q) (.inl rfl) (wpAny_pure ⟨rfl, rfl⟩)))
    · exact wpAny_bind (ifBound_objNe X J c.ne (call_ne (r := .bool b) X J c hu (fun Q' q => hh _ _ Q' q) (.inr ⟨b, rfl⟩) (wpAny_pure ⟨rfl, rfl⟩)))
  simp only [richCompare, cmpInfo_NotEq, oneThing_ref]
  refine wpAny_holding (wpAny_bind (wpAny_cRoomFor hu0 ?_))
  refine wpAny_bind (I.type.here ?_)
  rcases hz with rfl | ⟨y, oy, oe, rfl, J⟩
  · obtain rfl : b = true := n (fun q => nomatch q)
    have one := key .none .notImplemented none x ox od I (fun A E Q' q => sp_eq_none X I c q) (.inl ⟨rfl, rfl⟩)
    have two : wpAny (model prog w) A (tryCompare .none "__ne__" (.ref x)) (fun r s' => r = none ∧ s' = s) E s :=
      wpAny_tryCompare_declines (show s.TypeIs .none "NoneType" from rfl) F.slot_NoneType_ne_refl (call_gives F.slot_NoneType_ne_refl rfl F.entry_NoneType_ne (F.args_NoneType_ne_2 _ _) (NoneType___ne___none_ref_0 x) ⟨rfl, rfl, rfl⟩)
    refine wpAny_bind (wpAny_typeOf (show s.TypeIs .none "NoneType" from rfl) ?_)
    split
    · refine wpAny_bind ((PySem.W.looks_subIn X HN.sub_none).here ?_)
      simp only [Bool.false_eq_true, if_false, Bool.not_false, if_true]
      refine wpAny_bind (m := tryCompare (.ref x) _ .none) (wpAny_mono one (fun r s1 z => ?_) fun _ _ e => e)
      obtain ⟨z1, z2⟩ := z
      subst z1
      subst z2
      refine wpAny_bind (m := tryCompare .none _ (.ref x)) (wpAny_mono two (fun r s2 z => ?_) fun _ _ e => e)
      obtain ⟨z1, z2⟩ := z
      subst z1
      subst z2
      exact wpAny_bind (wpAny_rule (wpAny_bind (wpAny_of_eq (rfl : isSame (.ref x) .none = pure false) (wpAny_pure h))))
    · rename_i q
      exact absurd (by simp) q
  · refine wpAny_bind (J.type.here ?_)
    split
    · rename_i q
      exact absurd q (by simp)
    · refine wpAny_bind (wpAny_pure ?_)
      simp only [Bool.false_eq_true, if_false, Bool.not_false, if_true]
      by_cases hxy : x = y
      · subst hxy
        obtain rfl : b = false := e rfl
        have one := key (.ref x) (.bool true) (some (.bool false)) x ox od I (fun A E Q' q => sp_eq_same X I c q) (.inr ⟨true, rfl, rfl⟩)
        refine wpAny_bind (m := tryCompare (.ref x) _ (.ref x)) (wpAny_mono one (fun r s1 z => ?_) fun _ _ e => e)
        obtain ⟨z1, z2⟩ := z
        subst z1
        subst z2
        exact wpAny_pure h
      · obtain rfl : b = true := n (fun q => hxy (by injection q with q; exact q.symm))
        have one := key (.ref y) .notImplemented none x ox od I (fun A E Q' q => sp_eq_other X I c hxy J.at_ q) (.inl ⟨rfl, rfl⟩)
        have two := key (.ref x) .notImplemented none y oy oe J (fun A E Q' q => sp_eq_other X J c (fun e => hxy e.symm) I.at_ q) (.inl ⟨rfl, rfl⟩)
        refine wpAny_bind (m := tryCompare (.ref x) _ (.ref y)) (wpAny_mono one (fun r s1 z => ?_) fun _ _ e => e)
        obtain ⟨z1, z2⟩ := z
        subst z1
        subst z2
        refine wpAny_bind (m := tryCompare (.ref y) _ (.ref x)) (wpAny_mono two (fun r s2 z => ?_) fun _ _ e => e)
        obtain ⟨z1, z2⟩ := z
        subst z1
        subst z2
        exact wpAny_bind (wpAny_rule (wpAny_bind (wpAny_isSame_ref_other hxy I.at_ J.at_ (by rw [I.cls]; intro z; cases z) (wpAny_pure h))))
theorem eqAt_rn (hu : A.units < cLine) (X : K.In s.heap) (I : PySem.W.InstAt s.heap x ox C od) (c : IdC K C) : EqAt A s (.ref x) .none false := HN.eqAt_none hu X I c.ob c.eq
theorem eqAt_nr (hu : A.units < cLine) (X : K.In s.heap) (I : PySem.W.InstAt s.heap x ox C od) (c : IdC K C) : EqAt A s .none (.ref x) false := fun prog w E Q h => by
  unfold eqBool
  refine wpAny_holding ?_
  refine wpAny_ite_split (fun hab => absurd (eq_of_beq hab) nofun) (fun _ => ?_)
  exact wpAny_bind (none_ref_eq hu X I c prog w E _ (wpAny_truthy_bool h))
end
end IdQ

namespace L2
open PySem PySem.Spec PyProof.Rows IdQ
/-- None, or an instance of C -/
def IdV (C : Addr) (H : Hp) (z : V) : Prop := z = .non ∨ ∃ a dx fs, z = .ref a ∧ H a = some (.ins C dx fs)
/-- == of two such values, read off the values -/
def sameU (x : V) (u : Value) : Bool := match u with
  | .none => decide (V.non = x)
  | .ref a => decide (V.ref a = x)
  | _ => false
section
variable {X : Cx} {C : Addr} {pins : List (Addr × Obj)} {σ : St} {H : Hp} {s : Shared} {A : Around}
theorem idv_at {a dx : Addr} {fs : List (Str × V)} (I : Inv X pins σ H s) (h : H a = some (.ins C dx fs)) : ∃ ox od, PySem.W.InstAt s.heap a ox C od := by
  obtain ⟨mA, O, _⟩ := ins_get I.hok h
  obtain ⟨od, J, _⟩ := O.look
  exact ⟨_, _, J⟩
theorem sameU_of {C : Addr} {H : Hp} {x y : V} {u : Value} (r : RelV y u) (f : IdV C H y) : sameU x u = decide (y = x) := by
  rcases f with rfl | ⟨a, dx, fs, rfl, _⟩
  · cases r; rfl
  · cases r; rfl
theorem eqAt_id (I : Inv X pins σ H s) (c : IdC X.K C) (hu : A.units < cLine) {x y : V} {u v : Value} (ry : RelV y u) (rx : RelV x v) (fy : IdV C H y) (fx : IdV C H x) : SeqAt.EqAt A s u v (decide (y = x)) := by
  rcases fy with rfl | ⟨a, dx, fs, rfl, ha⟩
  · cases ry
    rcases fx with rfl | ⟨b, dy, gs, rfl, hb⟩
    · cases rx
      exact SeqAt.EqAt.same _
    · cases rx
      obtain ⟨ox, od, J⟩ := idv_at I hb
      exact eqAt_nr hu I.kIn J c
  · cases ry
    obtain ⟨ox, od, J⟩ := idv_at I ha
    rcases fx with rfl | ⟨b, dy, gs, rfl, hb⟩
    · cases rx
      exact eqAt_rn hu I.kIn J c
    · cases rx
      obtain ⟨oy, oe, J'⟩ := idv_at I hb
      by_cases e : a = b
      · subst e
        rw [decide_eq_true rfl]
        exact SeqAt.EqAt.same _
      · rw [decide_eq_false (fun q => e (V.ref.inj q))]
        exact SeqAt.EqAt.of_refs e (rc_other hu I.kIn J J' c e)
theorem any_id {x : V} : ∀ {xs : List V} {us : List Value}, Vals xs us → (∀ z ∈ xs, IdV C H z) → us.any (sameU x) = decide (x ∈ xs)
  | _, _, .nil, _ => by simp
  | y :: xs, u :: us, .cons r t, f => by
    rw [List.any_cons, sameU_of r (f y (List.mem_cons_self ..)), any_id t fun z hz => f z (List.mem_cons_of_mem _ hz)]
    by_cases e : y = x
    · subst e
      simp
    · have e' : ¬ x = y := fun q => e q.symm
      simp [e, e']
theorem mem_id (I : Inv X pins σ H s) (c : IdC X.K C) (hu : A.units < cLine) {x : V} {v : Value} (rx : RelV x v) (fx : IdV C H x) : ∀ {xs : List V} {us : List Value}, Vals xs us → (∀ z ∈ xs, IdV C H z) → ∀ u ∈ us, SeqAt.EqAt A s u v (sameU x u)
  | _, _, .nil, _ => fun u hu => by cases hu
  | y :: xs, u :: us, .cons r t, f => fun u' hu' => by
    rcases List.mem_cons.mp hu' with rfl | hu'
    · rw [sameU_of r (f y (List.mem_cons_self ..))]
      exact eqAt_id I c hu r rx (f y (List.mem_cons_self ..)) fx
    · exact mem_id I c hu rx fx t (fun z hz => f z (List.mem_cons_of_mem _ hz)) u' hu'
end
/-- x in a list or tuple of such -/
def rInI (K : PySem.W.Frag) (C : Addr) (neg : Bool) : R2 := fun x y H Q => ∃ p xs, y = .ref p ∧ (SqL K H p xs ∨ SqT K H p xs) ∧ IdV C H x ∧ (∀ z ∈ xs, IdV C H z) ∧ Q (.bl (if neg then !decide (x ∈ xs) else decide (x ∈ xs))) H
section
variable {X : Cx} {C : Addr}
theorem in1_lt {k : Nat} (hr : Room k X.A) : X.A.in1.units < cLine := by
  have := hr.units
  show X.A.units + 1 < cLine
  omega
theorem op_in_id {k : Nat} (hr : Room k X.A) (c : IdC X.K C) : OpR X (compareOp .In) (rInI X.K C false) := by
  intro pins s σ H x y v u Q I rx ry h
  obtain ⟨p, xs, rfl, hq, fx, fs, q⟩ := h
  cases ry
  rcases hq with hq | hq
  · obtain ⟨its, r, pl, hz⟩ := I.list hq
    refine SeqAt.in_listAt (sameU x) pl.isList (fun w hw => mem_id I c (in1_lt hr) rx fx r fs w (by simpa using hw)) ⟨.bl _, H, I, rfl, ?_⟩
    rw [show its.toArray.any (sameU x) = its.any (sameU x) by simp, any_id r fs]
    exact q
  · obtain ⟨its, r, pl, hz⟩ := I.tuple hq
    refine SeqAt.in_tupleAt (sameU x) pl (fun w hw => mem_id I c (in1_lt hr) rx fx r fs w (by simpa using hw)) ⟨.bl _, H, I, rfl, ?_⟩
    rw [show its.toArray.any (sameU x) = its.any (sameU x) by simp, any_id r fs]
    exact q
theorem op_notIn_id {k : Nat} (hr : Room k X.A) (c : IdC X.K C) : OpR X (compareOp .NotIn) (rInI X.K C true) := by
  intro pins s σ H x y v u Q I rx ry h
  obtain ⟨p, xs, rfl, hq, fx, fs, q⟩ := h
  cases ry
  rcases hq with hq | hq
  · obtain ⟨its, r, pl, hz⟩ := I.list hq
    refine SeqAt.notIn_listAt (sameU x) pl.isList (fun w hw => mem_id I c (in1_lt hr) rx fx r fs w (by simpa using hw)) ⟨.bl _, H, I, rfl, ?_⟩
    rw [show its.toArray.any (sameU x) = its.any (sameU x) by simp, any_id r fs]
    exact q
  · obtain ⟨its, r, pl, hz⟩ := I.tuple hq
    refine SeqAt.notIn_tupleAt (sameU x) pl (fun w hw => mem_id I c (in1_lt hr) rx fx r fs w (by simpa using hw)) ⟨.bl _, H, I, rfl, ?_⟩
    rw [show its.toArray.any (sameU x) = its.any (sameU x) by simp, any_id r fs]
    exact q
/-- x != y, x an instance of C, y such or None -/
def rNeI (C : Addr) : R2 := fun x y H Q => (∃ a dx fs, x = .ref a ∧ H a = some (.ins C dx fs)) ∧ IdV C H y ∧ Q (.bl (!decide (x = y))) H
theorem op_ne_id {k : Nat} (hr : Room k X.A) (c : IdC X.K C) : OpR X (compareOp .NotEq) (rNeI C) := by
  intro pins s σ H x y v u Q I rx ry h
  obtain ⟨⟨a, dx, fs, rfl, ha⟩, fy, q⟩ := h
  cases rx
  obtain ⟨ox, od, J⟩ := idv_at I ha
  have hu : X.A.units + 1 < cLine := by
    have := hr.units
    omega
  rcases fy with rfl | ⟨b, dy, gs, rfl, hb⟩
  · cases ry
    refine rc_ne (r := .none) (b := true) hu I.kIn J c (.inl rfl) (fun q => nomatch q) (fun _ => rfl) _ _ _ _ ⟨.bl _, H, I, rfl, ?_⟩
    exact q
  · cases ry
    obtain ⟨oy, oe, J'⟩ := idv_at I hb
    by_cases e : a = b
    · subst e
      rw [decide_eq_true rfl] at q
      exact rc_ne (r := .none) (b := false) hu I.kIn J c (.inr ⟨_, _, _, rfl, J'⟩) (fun _ => rfl) (fun q => absurd rfl q) _ _ _ _ ⟨.bl _, H, I, rfl, q⟩
    · rw [decide_eq_false (fun q => e (V.ref.inj q))] at q
      exact rc_ne (r := .none) (b := true) hu I.kIn J c (.inr ⟨_, _, _, rfl, J'⟩) (fun q => absurd (by injection q with q; exact q.symm) e) (fun _ => rfl) _ _ _ _ ⟨.bl _, H, I, rfl, q⟩
/-- l.index(x), t.index(x): x is there -/
def rIndexI (C : Addr) (S : Hp → Addr → List V → Prop) : V → List V → Hp → VK → Prop := fun x xs H Q => ∃ (a : Addr) (y : V) (ys : List V), x = V.ref a ∧ xs = [y] ∧ S H a ys ∧ IdV C H y ∧ (∀ z ∈ ys, IdV C H z) ∧ y ∈ ys ∧ Q (.int (ys.idxOf y : Nat)) H
theorem ix_hit {ys : List V} {y : V} (hm : y ∈ ys) : ys[ys.idxOf y]? = some y := by
  have hl : ys.idxOf y < ys.length := List.idxOf_lt_length_of_mem hm
  rw [List.getElem?_eq_getElem hl, List.getElem_idxOf hl]
theorem ix_miss {ys : List V} {y z : V} {m : Nat} (hm : m < ys.idxOf y) (h : ys[m]? = some z) : z ≠ y := by
  intro e
  subst e
  have h1 : m < ys.length := (List.getElem?_eq_some_iff.mp h).1
  have h2 : ys[m] = z := (List.getElem?_eq_some_iff.mp h).2
  have h3 := List.not_of_lt_findIdx (p := (· == z)) (xs := ys) (i := m) hm
  rw [h2] at h3
  simp at h3
theorem mt_index_id {k : Nat} (hr : Room k X.A) (c : IdC X.K C) : MtR X "list.index" (rIndexI C (SqL X.K)) := by
  intro pins s σ H x xs v us Q I rx rs h
  obtain ⟨p, y, ys, rfl, rfl, hq, fy, fs, hm, q⟩ := h
  cases rx
  obtain ⟨u, rfl, ry⟩ := vals1 rs
  obtain ⟨its, r, pl, hz⟩ := I.list hq
  obtain ⟨⟨cls, dd, dt, sl⟩, ho, hc, n, hd⟩ := pl.isList
  simp only at hc hd
  subst hc
  subst hd
  have hsl := sizeLine_eq
  have hl : its.toArray.size = ys.length := by rw [List.size_toArray, ← r.length]
  have hjl : ys.idxOf y < ys.length := List.idxOf_lt_length_of_mem hm
  have hj : ys.idxOf y < its.toArray.size := by rw [hl]; exact hjl
  have at' : ∀ (m : Nat) (hm : m < its.toArray.size), ∃ z, ys[m]? = some z ∧ RelV z its.toArray[m] := fun m hm => by
    have hm' : m < ys.length := by rw [← hl]; exact hm
    obtain ⟨w, hw, hr⟩ := r.get (i := m) (x := ys[m]) (by simp [hm'])
    refine ⟨ys[m], List.getElem?_eq_getElem hm', ?_⟩
    have e := (List.getElem?_eq_some_iff.mp hw).2
    have e2 : its.toArray[m] = w := by simpa using e
    rw [e2]
    exact hr
  refine call_meets PySem.F.slot_list_index ⟨_, ho, rfl⟩ PySem.F.entry_list_index (PySem.F.args_list_index_2 _ _) (SeqAt.list_indexAt p its.toArray n dd sl u (sameU y) (ys.idxOf y) hj (by omega) ?_ ?_)
    ⟨ho, fun w hw => mem_id I c (in1_lt hr) ry fy r fs w (by simpa using hw), ⟨.int (ys.idxOf y : Nat), H, I.tok _, ⟨_, rfl⟩, q⟩⟩
  · obtain ⟨z, h1, h2⟩ := at' _ hj
    rw [ix_hit hm] at h1
    cases h1
    rw [sameU_of h2 fy]
    exact decide_eq_true rfl
  · intro m hm' hmj
    obtain ⟨z, h1, h2⟩ := at' m hm'
    rw [sameU_of h2 (fs z (List.mem_of_getElem? h1))]
    exact decide_eq_false (ix_miss hmj h1)
theorem mt_tindex_id {k : Nat} (hr : Room k X.A) (c : IdC X.K C) : MtR X "tuple.index" (rIndexI C (SqT X.K)) := by
  intro pins s σ H x xs v us Q I rx rs h
  obtain ⟨p, y, ys, rfl, rfl, hq, fy, fs, hm, q⟩ := h
  cases rx
  obtain ⟨u, rfl, ry⟩ := vals1 rs
  obtain ⟨its, r, pl, hz⟩ := I.tuple hq
  obtain ⟨⟨cls, dd, dt, sl⟩, ho, hc, n, hd⟩ := pl
  simp only at hc hd
  subst hc
  subst hd
  have hl : its.toArray.size = ys.length := by rw [List.size_toArray, ← r.length]
  have hjl : ys.idxOf y < ys.length := List.idxOf_lt_length_of_mem hm
  have hj : ys.idxOf y < its.toArray.size := by rw [hl]; exact hjl
  have at' : ∀ (m : Nat) (hm : m < its.toArray.size), ∃ z, ys[m]? = some z ∧ RelV z its.toArray[m] := fun m hm => by
    have hm' : m < ys.length := by rw [← hl]; exact hm
    obtain ⟨w, hw, hr⟩ := r.get (i := m) (x := ys[m]) (by simp [hm'])
    refine ⟨ys[m], List.getElem?_eq_getElem hm', ?_⟩
    have e := (List.getElem?_eq_some_iff.mp hw).2
    have e2 : its.toArray[m] = w := by simpa using e
    rw [e2]
    exact hr
  refine call_meets PySem.F.slot_tuple_index ⟨_, ho, rfl⟩ PySem.F.entry_tuple_index (PySem.F.args_tuple_index_2 _ _) (TI.tuple_indexAt p its.toArray n dd sl u (sameU y) (ys.idxOf y) hj ?_ ?_)
    ⟨ho, fun w hw => mem_id I c (in1_lt hr) ry fy r fs w (by simpa using hw), ⟨.int (ys.idxOf y : Nat), H, I.tok _, ⟨_, rfl⟩, q⟩⟩
  · obtain ⟨z, h1, h2⟩ := at' _ hj
    rw [ix_hit hm] at h1
    cases h1
    rw [sameU_of h2 fy]
    exact decide_eq_true rfl
  · intro m hm' hmj
    obtain ⟨z, h1, h2⟩ := at' m hm'
    rw [sameU_of h2 (fs z (List.mem_of_getElem? h1))]
    exact decide_eq_false (ix_miss hmj h1)
/-- == of two lists of such -/
def rEqLI (K : PySem.W.Frag) (C : Addr) : R2 := fun x y H Q => ∃ p q xs ys, x = .ref p ∧ y = .ref q ∧ p ≠ q ∧ SqL K H p xs ∧ SqL K H q ys ∧ (∀ z ∈ xs, IdV C H z) ∧ (∀ z ∈ ys, IdV C H z) ∧ Q (.bl (decide (xs = ys))) H
theorem all_range_eq {xs ys : List V} (hl : xs.length = ys.length) : (List.range xs.length).all (fun j => decide (xs[j]? = ys[j]?)) = decide (xs = ys) := by
  by_cases e : xs = ys
  · subst e
    simp
  · rw [decide_eq_false e]
    cases h : (List.range xs.length).all (fun j => decide (xs[j]? = ys[j]?)) with
    | false => rfl
    | true =>
      exfalso
      apply e
      apply List.ext_getElem? fun i => ?_
      by_cases hi : i < xs.length
      · have := List.all_eq_true.mp h i (List.mem_range.mpr hi)
        exact of_decide_eq_true this
      · rw [List.getElem?_eq_none (by omega), List.getElem?_eq_none (by omega)]
theorem op_eq_lid {k : Nat} (hr : Room k X.A) (c : IdC X.K C) : OpR X (compareOp .Eq) (rEqLI X.K C) := by
  intro pins s σ H x y v u Q I rx ry h
  obtain ⟨p, q, xs, ys, rfl, rfl, hne, hx, hy, fx, fy, qq⟩ := h
  cases rx
  cases ry
  obtain ⟨its, r, pl, hz⟩ := I.list hx
  obtain ⟨its2, r2, pl2, hz2⟩ := I.list hy
  have hu : X.A.units < cLine := hr.units0
  by_cases hl : xs.length = ys.length
  · have hsz : its.toArray.size = its2.toArray.size := by rw [List.size_toArray, List.size_toArray, ← r.length, ← r2.length, hl]
    refine SeqAt.RcAt.lists (e := fun j => decide (xs[j]? = ys[j]?)) pl.isList pl2.isList hsz hu (fun j h1 h2 => ?_) _ _ _ _ ⟨.bl _, H, I, rfl, ?_⟩
    · have g1 : j < xs.length := by rw [r.length]; simpa using h1
      have g2 : j < ys.length := by rw [r2.length]; simpa using h2
      obtain ⟨w1, hw1, rr1⟩ := r.get (i := j) (x := xs[j]) (by simp [g1])
      obtain ⟨w2, hw2, rr2⟩ := r2.get (i := j) (x := ys[j]) (by simp [g2])
      have e1 : its.toArray[j] = w1 := by simpa using (List.getElem?_eq_some_iff.mp hw1).2
      have e2 : its2.toArray[j] = w2 := by simpa using (List.getElem?_eq_some_iff.mp hw2).2
      have ed : decide (xs[j]? = ys[j]?) = decide (xs[j] = ys[j]) := by simp [g1, g2]
      rw [e1, e2, ed]
      exact eqAt_id I c (in1_lt hr) rr1 rr2 (fx _ (List.getElem_mem g1)) (fy _ (List.getElem_mem g2))
    · have es : its.toArray.size = xs.length := by rw [List.size_toArray, ← r.length]
      rw [es, all_range_eq hl]
      exact qq
  · have hsz : (its.toArray.size != its2.toArray.size) = true := by
      rw [List.size_toArray, List.size_toArray, ← r.length, ← r2.length]
      simpa using hl
    refine SeqAt.RcAt.lists_lengths pl.isList pl2.isList hsz hu _ _ _ _ ⟨.bl _, H, I, rfl, ?_⟩
    rw [decide_eq_false (fun e => hl (by rw [e]))] at qq
    exact qq
end
end L2
end

section
set_option Elab.async false
set_option linter.all false
set_option maxRecDepth 100000
set_option maxHeartbeats 2000000
/-! xs == [], xs != []; list(d.values()); a lambda as a value -/
namespace L2
open PySem PySem.Spec PyProof.Rows
section
variable {X : Cx}
/-- == [] and != [], whatever the items are -/
def rEqE (K : PySem.W.Frag) (neg : Bool) : R2 := fun x y H Q => ∃ p q xs, x = .ref p ∧ y = .ref q ∧ SqL K H p xs ∧ SqL K H q [] ∧ Q (.bl (if neg then !xs.isEmpty else xs.isEmpty)) H
theorem op_eq_nil {k : Nat} (hr : Room k X.A) : OpR X (compareOp .Eq) (rEqE X.K false) := by
  intro pins s σ H x y v u Q I rx ry h
  obtain ⟨p, q, xs, rfl, rfl, hx, hy, qq⟩ := h
  cases rx
  cases ry
  obtain ⟨its, r, pl, hz⟩ := I.list hx
  obtain ⟨its2, r2, pl2, hz2⟩ := I.list hy
  have hu : X.A.units < cLine := hr.units0
  have e2 : its2 = [] := by
    cases r2
    rfl
  subst e2
  cases xs with
  | nil =>
    have e1 : its = [] := by
      cases r
      rfl
    subst e1
    refine SeqAt.RcAt.lists (e := fun _ => true) pl.isList pl2.isList rfl hu (fun j h1 h2 => absurd h1 (by simp)) _ _ _ _ ⟨.bl _, H, I, rfl, ?_⟩
    exact qq
  | cons y ys =>
    have hl := r.length
    refine SeqAt.RcAt.lists_lengths pl.isList pl2.isList ?_ hu _ _ _ _ ⟨.bl _, H, I, rfl, qq⟩
    rw [List.size_toArray, List.size_toArray, ← hl]
    simp
theorem op_ne_nil {k : Nat} (hr : Room k X.A) : OpR X (compareOp .NotEq) (rEqE X.K true) := by
  intro pins s σ H x y v u Q I rx ry h
  obtain ⟨p, q, xs, rfl, rfl, hx, hy, qq⟩ := h
  cases rx
  cases ry
  obtain ⟨its, r, pl, hz⟩ := I.list hx
  obtain ⟨its2, r2, pl2, hz2⟩ := I.list hy
  have hu : X.A.units < cLine := hr.units0
  have e2 : its2 = [] := by
    cases r2
    rfl
  subst e2
  cases xs with
  | nil =>
    have e1 : its = [] := by
      cases r
      rfl
    subst e1
    refine SeqAt.RcNeAt.lists (e := fun _ => true) pl.isList pl2.isList rfl hu (fun j h1 h2 => absurd h1 (by simp)) _ _ _ _ ⟨.bl _, H, I, rfl, ?_⟩
    exact qq
  | cons y ys =>
    have hl := r.length
    refine SeqAt.RcNeAt.lists_lengths pl.isList pl2.isList ?_ hu _ _ _ _ ⟨.bl _, H, I, rfl, qq⟩
    rw [List.size_toArray, List.size_toArray, ← hl]
    simp
/-! ### list(d.values()) -/
def tListVals (te : TE) : TE := fun σ H Q => te σ H fun x H1 => ∃ d kvs, x = .ref d ∧ H1 d = some (.dK kvs) ∧ ∀ p, H1 p = none → Q (.ref p) (upd H1 p (.lst (kvs.map (·.2))))
theorem kv_vals {κ : Type} : ∀ {kvs : List (κ × V)} {vs : List (κ × Value)}, KV kvs vs → Vals (kvs.map (·.2)) (vs.map (·.2))
  | _, _, .nil => .nil
  | _, _, .cons h t => .cons h.2 (kv_vals t)
theorem pe_listVals {e : Expr} {te : TE} {p apos cpos pos : Pos} (hc : X.calm = true) (he : PE X e te) (hg : Gl X "list") (hm : X.mg "list" = none) (hv : bootBuiltins "list" = some (.type "list")) (hbase : attributeBase e "values" X.env (eval e X.env) = eval e X.env := by rfl) (hline : (apos.endLine == cpos.line) = true := by rfl)
    (hs : starEach [.Call (.Attribute e "values" apos) [] [] cpos] X.env = (false, eval (.Call (.Attribute e "values" apos) [] [] cpos) X.env) :: starEach [] X.env := by rfl) :
    PE X (.Call (.Name "list" p) [.Call (.Attribute e "values" apos) [] [] cpos] [] pos) (tListVals te) := by
  refine ⟨fun pins s σ H Q I hq => ?_⟩
  refine wpAny_Call_Name_kw (ld_blt I hg hm hv ?_)
  refine PyProof.Rows.callWith_type1 ?_ hs rfl
  rw [hs]
  show wpAny _ _ (spliced ((false, eval (.Call (.Attribute e "values" apos) [] [] cpos) X.env) :: backTo pos (starEach [] X.env))) _ _ s
  refine Calls.spliced_cons ?_
  refine wpAny_Call_method (T := "dict") (id := "dict.values") hbase rfl hline F.plainAttrs_dict F.slot_dict_values F.type_dict_values (thn (he.run pins s σ H _ I hq) fun u s1 ⟨x, H1, I1, rx, d, kvs, ex, hd, q⟩ => ?_)
  subst ex
  obtain rfl : u = Value.ref d := rx
  obtain ⟨hz, hs0, vs, kv, hdo⟩ := I1.hok d _ hd
  obtain ⟨ep, hat⟩ := hdo.dictAt
  have lk : kvs.length = vs.length := Paired.length kv
  have I2 : Inv X pins σ H1 { s1 with heap := s1.heap.push { cls := .type "dict_values", data := .fields #[.ref d] } } := I1.kept (t' := s1.toks) fun b ob q => Heap.get?_push_of_some _ q
  refine ⟨hdo.typeIs, hdo.mapOf.noDict, ?_⟩
  show wpAny _ _ (callWith cpos (.builtin "dict.values") [.ref d] [] []) _ X.xe s1
  refine method_meetsIn F.slot_dict_values F.entry_dict_values rfl (PySem.evalArgs_none ⟨rfl, hdo.typeIs, F.args_dict_values_1 _, _, meets_dict_values (mixKind X.prog X.w) d hs0, ⟨vs, hdo⟩, ?_⟩)
  refine Calls.spliced_nil ?_
  refine PySem.W.kdl_call (PySem.W.kdl_values (knd := mixKind X.prog X.w) (kvs := vs) (ep := ep)) (I1.ok.hd hc) ⟨⟨_, Heap.get?_push_size _ rfl, rfl, rfl⟩, hat.push _⟩ (by omega) fun h' tk acc c hk hS hacc => ?_
  have hS' := hS
  have hle : s1.heap.objs.size ≤ (s1.heap.push { cls := .type "dict_values", data := .fields #[.ref d] }).objs.size := by
    rw [Heap.size_push]
    exact Nat.le_succ _
  have eacc : acc.toList = vs.map (·.2) := PySem.W.kdl_vals_eq acc.toList (by rw [Array.length_toList]; exact hacc.1) fun j v e => hacc.2 j v (by rw [← Array.getElem?_toList]; exact e)
  refine ⟨.ref _, _, I2.laid (t' := tk) (o := .lst (kvs.map (·.2))) hk (Nat.le_refl _) ?_, rfl, q _ (I2.hok.fresh (Nat.le_refl _))⟩
  refine ⟨by rw [List.length_map]; omega, acc.toList, c, by rw [eacc]; exact kv_vals kv, ?_⟩
  rw [Array.toArray_toList]
  exact hS'
end
end L2
namespace LamX
open PySem PySem.Spec PyProof.Rows L2
section
variable {X : Cx}
/-- a lambda as a value: a new function, nothing told of it -/
def tLamV (T : List (Addr × Str)) : TE := fun _ H Q => Tabs T H ∧ ∀ (H1 : Hp) (f : Addr), ExtN H H1 → Tabs T H1 → Q (.ref f) H1
theorem pe_lamV {T : List (Addr × Str)} {c P : Addr} {params : Arguments} {body : Expr} {scope : Scope} {pos : Pos} (TB : TabB X.base X.mg c P) (hcode : X.env.code = .ref c) (hmT : (P, X.env.qual ++ "<lambda>") ∈ T) (hu : ∀ p ∈ T, p.1 = P → p.2 = X.env.qual ++ "<lambda>")
    (L : LamS X.env.scope scope) (hdef : defaultsOf params X.env = ([], [])) : PE X (.Lambda params body scope pos) (tLamV T) := by
  refine ⟨fun pins s σ H Q I h => ?_⟩
  obtain ⟨hT, h⟩ := h
  exact lam_make2 I TB hcode hmT hu hT hdef (L.has I.ok) fun f c' pm ctv H1 s' I1 eN T1 hf hfn hfr hco => ⟨.ref f, H1, I1, rfl, h H1 f eN T1⟩
end
end LamX
end

section
set_option Elab.async false
set_option linter.all false
set_option maxRecDepth 100000
set_option maxHeartbeats 2000000
/-! lists of instances: !=, count; repr of a list of bools where no repr is under way -/
namespace L2
open PySem PySem.Spec PyProof.Rows IdQ
section
variable {X : Cx} {pins : List (Addr × Obj)} {s : Shared} {σ : L2.St} {H : Hp} {C : Addr}
theorem count_id {y : V} : ∀ {xs : List V} {us : List Value}, Vals xs us → (∀ z ∈ xs, IdV C H z) → us.countP (sameU y) = xs.count y
  | _, _, .nil, _ => rfl
  | x :: xs, u :: us, .cons r t, f => by
    rw [List.countP_cons, List.count_cons, count_id t fun z hz => f z (List.mem_cons_of_mem _ hz), sameU_of r (f x (List.mem_cons_self ..))]
    by_cases e : x = y <;> simp [e]
def rCountI (C : Addr) (S : Hp → Addr → List V → Prop) : V → List V → Hp → VK → Prop := fun x xs H Q => ∃ (a : Addr) (y : V) (ys : List V), x = V.ref a ∧ xs = [y] ∧ S H a ys ∧ IdV C H y ∧ (∀ z ∈ ys, IdV C H z) ∧ Q (.int (ys.count y : Nat)) H
theorem mt_count_id {k : Nat} (hr : Room k X.A) (c : IdC X.K C) : MtR X "list.count" (rCountI C (SqL X.K)) := by
  intro pins s σ H x xs v us Q I rx rs h
  obtain ⟨p, y, ys, rfl, rfl, hq, fy, fs, q⟩ := h
  cases rx
  obtain ⟨u, rfl, ry⟩ := vals1 rs
  obtain ⟨its, r, pl, hz⟩ := I.list hq
  obtain ⟨⟨cls, dd, dt, sl⟩, ho, hc, n, hd⟩ := pl.isList
  simp only at hc hd
  subst hc
  subst hd
  refine call_meets PySem.F.slot_list_count ⟨_, ho, rfl⟩ PySem.F.entry_list_count (PySem.F.args_list_count_2 _ _) (SeqAt.list_countAt p its.toArray n dd sl u (sameU y))
    ⟨ho, fun w hw => mem_id I c (in1_lt hr) ry fy r fs w (by simpa using hw), ⟨.int (ys.count y : Nat), H, I.tok _, ⟨s.toks, ?_⟩, q⟩⟩
  rw [List.toList_toArray, count_id r fs]
def rNeLI (K : PySem.W.Frag) (C : Addr) : R2 := fun x y H Q => ∃ p q xs ys, x = .ref p ∧ y = .ref q ∧ p ≠ q ∧ SqL K H p xs ∧ SqL K H q ys ∧ (∀ z ∈ xs, IdV C H z) ∧ (∀ z ∈ ys, IdV C H z) ∧ Q (.bl (!decide (xs = ys))) H
theorem op_ne_lid {k : Nat} (hr : Room k X.A) (c : IdC X.K C) : OpR X (compareOp .NotEq) (rNeLI X.K C) := by
  intro pins s σ H x y v u Q I rx ry h
  obtain ⟨p, q, xs, ys, rfl, rfl, hne, hx, hy, fx, fy, qq⟩ := h
  cases rx
  cases ry
  obtain ⟨its, r, pl, hz⟩ := I.list hx
  obtain ⟨its2, r2, pl2, hz2⟩ := I.list hy
  have hu : X.A.units < cLine := hr.units0
  by_cases hl : xs.length = ys.length
  · have hsz : its.toArray.size = its2.toArray.size := by rw [List.size_toArray, List.size_toArray, ← r.length, ← r2.length, hl]
    refine SeqAt.RcNeAt.lists (e := fun j => decide (xs[j]? = ys[j]?)) pl.isList pl2.isList hsz hu (fun j h1 h2 => ?_) _ _ _ _ ⟨.bl _, H, I, rfl, ?_⟩
    · have g1 : j < xs.length := by rw [r.length]; simpa using h1
      have g2 : j < ys.length := by rw [r2.length]; simpa using h2
      obtain ⟨w1, hw1, rr1⟩ := r.get (i := j) (x := xs[j]) (by simp [g1])
      obtain ⟨w2, hw2, rr2⟩ := r2.get (i := j) (x := ys[j]) (by simp [g2])
      have e1 : its.toArray[j] = w1 := by simpa using (List.getElem?_eq_some_iff.mp hw1).2
      have e2 : its2.toArray[j] = w2 := by simpa using (List.getElem?_eq_some_iff.mp hw2).2
      have ed : decide (xs[j]? = ys[j]?) = decide (xs[j] = ys[j]) := by simp [g1, g2]
      rw [e1, e2, ed]
      exact eqAt_id I c (in1_lt hr) rr1 rr2 (fx _ (List.getElem_mem g1)) (fy _ (List.getElem_mem g2))
    · have es : its.toArray.size = xs.length := by rw [List.size_toArray, ← r.length]
      rw [es, all_range_eq hl]
      exact qq
  · have hsz : (its.toArray.size != its2.toArray.size) = true := by
      rw [List.size_toArray, List.size_toArray, ← r.length, ← r2.length]
      simpa using hl
    refine SeqAt.RcNeAt.lists_lengths pl.isList pl2.isList hsz hu _ _ _ _ ⟨.bl _, H, I, rfl, ?_⟩
    rw [decide_eq_false (fun e => hl (by rw [e]))] at qq
    exact qq
/-- the text of a list of bools -/
def showB (bs : List Bool) : Str := (PyData.list (bs.map PyData.bool)).shown
def rReprB (K : PySem.W.Frag) : List V → Hp → VK → Prop := fun xs H Q => ∃ (a : Addr) (bs : List Bool), xs = [.ref a] ∧ SqL K H a (bs.map V.bl) ∧ bs.length ≤ 1000 ∧ Q (.str (showB bs)) H
theorem bools_all {h : Heap} : ∀ {bs : List Bool} {us : List Value}, Vals (bs.map V.bl) us → ReadsAll h us (bs.map PyData.bool) []
  | [], [], .nil => .nil
  | b :: bs, u :: us, .cons r t => by
    obtain rfl : u = Value.bool b := r
    exact ReadsAll.cons (as := []) (bs := []) (.bool b) (bools_all t)
theorem bools_show : ∀ bs : List Bool, PyData.showableAll (bs.map PyData.bool) = true
  | [] => rfl
  | b :: bs => by
    show (PyData.showable (.bool b) && PyData.showableAll (bs.map PyData.bool)) = true
    rw [bools_show bs]
    rfl
theorem bools_dict : ∀ bs : List Bool, PyData.hasDictAll (bs.map PyData.bool) = false
  | [] => rfl
  | b :: bs => by
    show (PyData.hasDict (.bool b) || PyData.hasDictAll (bs.map PyData.bool)) = false
    rw [bools_dict bs]
    rfl
theorem bools_depth : ∀ bs : List Bool, PyData.depthAll (bs.map PyData.bool) = 0
  | [] => rfl
  | b :: bs => by
    show max (PyData.depth (.bool b)) (PyData.depthAll (bs.map PyData.bool)) = 0
    rw [bools_depth bs]
    rfl
theorem bools_len : ∀ bs : List Bool, ((PyData.shownAll (bs.map PyData.bool)).map (·.length)).sum ≤ 5 * bs.length ∧ (PyData.shownAll (bs.map PyData.bool)).length = bs.length
  | [] => ⟨Nat.le_refl _, rfl⟩
  | b :: bs => by
    obtain ⟨h1, h2⟩ := bools_len bs
    refine ⟨?_, ?_⟩
    · show (PyData.shown (.bool b)).length + ((PyData.shownAll (bs.map PyData.bool)).map (·.length)).sum ≤ 5 * (bs.length + 1)
      have : (PyData.shown (.bool b)).length ≤ 5 := by cases b <;> decide +kernel
      omega
    · show (PyData.shownAll (bs.map PyData.bool)).length + 1 = bs.length + 1
      omega
theorem showB_len {bs : List Bool} (h : bs.length ≤ 1000) : (showB bs).length ≤ sizeLine := by
  have e : showB bs = listText (PyData.shownAll (bs.map PyData.bool)) := by
    unfold showB
    rw [PyData.shown]
  rw [e]
  have h1 := listText_len_le (PyData.shownAll (bs.map PyData.bool))
  obtain ⟨h2, h3⟩ := bools_len bs
  have := sizeLine_eq
  omega
theorem call_repr_bools (hg : X.A.guards = some []) (hu : X.A.units + 2 < cLine) : CallR X (.builtin "repr") (rReprB X.K) := by
  intro pins s σ H xs us Q I r h
  obtain ⟨a, bs, rfl, hq, hl, q⟩ := h
  obtain ⟨u, rfl, ru⟩ := vals1 r
  cases ru
  obtain ⟨its, rv, pl, hz⟩ := I.list hq
  obtain ⟨⟨cls, dd, dt, sl⟩, ho, hc, n, hd⟩ := pl.isList
  have rd : Reads s.heap (.ref a) (.list (bs.map PyData.bool)) (a :: []) := .list ho hc hd (by rw [List.toList_toArray]; exact bools_all rv)
  have hsz : (PyData.list (bs.map PyData.bool)).shown.length ≤ sizeLine := showB_len hl
  refine repr_of_reads' rd (by rw [PyData.showable]; exact bools_show bs) (PyData.noDict_hsm (by rw [PyData.hasDict]; exact bools_dict bs)) hg (by rw [PyData.depth, bools_depth]; omega) (fun _ _ e => e) (fun h' u tk hk => ?_) hsz
  exact ⟨.str (showB bs), H, I.kept hk, ⟨u, rfl⟩, q⟩
end
end L2
end

section
set_option Elab.async false
set_option linter.all false
set_option maxRecDepth 100000
set_option maxHeartbeats 2000000
/-! a def by its global name, with its promise and how it binds -/
namespace Cn
open PySem L2
structure Can (P : Program) (w : World) (K : PySem.W.Frag) (mg : Str → Option Value) (base : Heap) (CX : CXT) (k : Nat) (x : Str) (ps : List Str) (sp : Sp) : Prop where
  ex : ∃ f fd, mg x = some (.ref f) ∧ FnOk P w K mg base CX k f fd ps sp ∧ PySem.W.keepIn K (.ref f) = true ∧ Binds K fd ps []
section
variable {X : Cx} {CX : CXT} {k j : Nat} {ps : List Str} {sp : Sp} {E : XK} {x : Str} {p pos : Pos} {e : Expr} {es : List Expr} {t : TA}
theorem room_le {A : Around} (h : j ≤ k) (hr : Room k A) : Room j A := hr.mono h
theorem pe_can (C : Can X.prog X.w X.K X.mg X.base CX j x ps sp) (hr : Room k X.A) (hx : Passes CX X E) (ha : PA X (e :: es) t) (hjk : j ≤ k := by decide) (hg : Gl X x := by rfl)
    (hdb : (x == ("__debug__" : Str)) = false := by decide) (he : starEach (e :: es) X.env = (false, eval e X.env) :: starEach es X.env := by rfl) (hpl : (backTo pos (starEach es X.env)).any (·.1) = false := by rfl) :
    PE X (.Call (.Name x p) (e :: es) [] pos) (tCall sp [] E t) := by
  obtain ⟨f, fd, hm, F, kp, b⟩ := C.ex
  exact pe_call F (hr.mono hjk) hg hm kp b .nil hx ha hdb he hpl
end
theorem can_of {P : Program} {w : World} {K : PySem.W.Frag} {mg : Str → Option Value} {base : Heap} {CX : CXT} {k : Nat} {x qual : Str} {ps : List Str} {sp : Sp} {st : Stmt} {f : Addr} (hm : mg x = some (.ref f)) (F : ∃ fd, Fun K x qual st f fd)
    (h : ∀ fd, Fun K x qual st f fd → FnOk P w K mg base CX k f fd ps sp)
    (hb : ∀ (kV doc pm : Value) (an : Option Addr) (cdv ct : Value) (us : List Value), us.length = ps.length → bindArgs (PySem.W.fnOf x qual (defArgs st) (defBody st) (defScope st) .none kV doc pm an cdv ct) ⟨us, []⟩ = pure (ps.zip us)) : Can P w K mg base CX k x ps sp := by
  obtain ⟨fd, F⟩ := F
  exact ⟨f, fd, hm, h fd F, F.kp, F.binds hb⟩
end Cn
end

section
set_option Elab.async false
set_option linter.all false
set_option maxRecDepth 100000
set_option maxHeartbeats 2000000
/-! repr of a value that is data (None, bools, ints, texts, lists and tuples of them), where no repr is under way -/
namespace RpV
open PySem PySem.Spec PyProof.Rows L2 Cn Evl
inductive DatV (K : PySem.W.Frag) (H : Hp) : V → PyData → Prop
  | non : DatV K H .non .none
  | bl (b : Bool) : DatV K H (.bl b) (.bool b)
  | int (i : Int) : DatV K H (.int i) (.int i)
  | str (z : Str) : DatV K H (.str z) (.str z)
  | lst {a : Addr} {xs : List V} {ds : List PyData} : SqL K H a xs → xs.length = ds.length → (∀ (i : Nat) (x : V) (d : PyData), xs[i]? = some x → ds[i]? = some d → DatV K H x d) → DatV K H (.ref a) (.list ds)
  | tup {a : Addr} {xs : List V} {ds : List PyData} : SqT K H a xs → xs.length = ds.length → (∀ (i : Nat) (x : V) (d : PyData), xs[i]? = some x → ds[i]? = some d → DatV K H x d) → DatV K H (.ref a) (.tuple ds)
theorem DatV.ex {K : PySem.W.Frag} {H H' : Hp} (e : Ex H H') {v : V} {d : PyData} (h : DatV K H v d) : DatV K H' v d := by
  induction h with
  | non => exact .non
  | bl b => exact .bl b
  | int i => exact .int i
  | str z => exact .str z
  | lst h1 h2 _ ih => exact .lst (ex_l e h1) h2 ih
  | tup h1 h2 _ ih => exact .tup (ex_t e h1) h2 ih
/-- data that is small enough to be shown -/
def okD (d : PyData) : Bool := d.leavesShort 24 && decide (d.weight ≤ 100000) && decide (d.depth ≤ 4) && d.showable && !d.hasDict
theorem okD_len {d : PyData} (h : okD d = true) : d.shown.length ≤ sizeLine := by
  unfold okD at h
  simp only [Bool.and_eq_true, decide_eq_true_eq] at h
  have h1 := PyData.shown_le 24 (by decide) d h.1.1.1.1
  have := sizeLine_eq
  have h2 := h.1.1.1.2
  omega
theorem okD_show {d : PyData} (h : okD d = true) : d.showable = true := by
  unfold okD at h
  simp only [Bool.and_eq_true, decide_eq_true_eq] at h
  exact h.1.2
theorem okD_depth {d : PyData} (h : okD d = true) : d.depth ≤ 4 := by
  unfold okD at h
  simp only [Bool.and_eq_true, decide_eq_true_eq] at h
  exact h.1.1.2
theorem okD_dict {d : PyData} (h : okD d = true) : d.hasDict = false := by
  unfold okD at h
  simp only [Bool.and_eq_true, decide_eq_true_eq, Bool.not_eq_true'] at h
  exact h.2
/-- leaves that are small -/
def leafB : PyData → Bool
  | .none | .bool _ => true
  | .int i => decide (i.natAbs ≤ 10 ^ 20)
  | .str z => decide (z.length ≤ 100) && z.cps.toList.all fun c => decide (c < 16 ^ 8)
  | _ => false
theorem leaf_ok {d : PyData} (h : leafB d = true) : d.leavesShort 24 = true ∧ d.weight ≤ 100 ∧ d.depth = 0 ∧ d.showable = true ∧ d.hasDict = false := by
  cases d with
  | none => exact ⟨rfl, by decide, rfl, rfl, rfl⟩
  | bool b => exact ⟨rfl, by show (0 : Nat) ≤ 100; decide, rfl, rfl, rfl⟩
  | int i =>
    have hi : i.natAbs ≤ 10 ^ 20 := by simpa [leafB] using h
    have h21 : i.natAbs < 10 ^ 21 := Nat.lt_of_le_of_lt hi (by decide)
    have hl : i.natAbs.log2 < 70 := by
      by_cases q : i.natAbs = 0
      · rw [q]; decide
      · exact (Nat.log2_lt q).mpr (Nat.lt_of_lt_of_le h21 (by decide))
    refine ⟨?_, ?_, rfl, ?_, rfl⟩
    · simp only [PyData.leavesShort, decide_eq_true_eq]
      have e := int_text_length_le10 (k := 21) (by decide) h21
      show (Str.ofString (toString i)).length ≤ 24
      rw [PySem.ofString_length]
      omega
    · simp only [PyData.weight]
      split <;> omega
    · simp only [PyData.showable, decide_eq_true_eq]
      omega
  | str z =>
    simp only [leafB, Bool.and_eq_true, decide_eq_true_eq] at h
    refine ⟨by simp only [PyData.leavesShort]; exact h.2, ?_, rfl, rfl, rfl⟩
    simp only [PyData.weight]
    exact h.1
  | list xs => cases h
  | tuple xs => cases h
  | dict kvs => cases h
theorem leafs_ok : ∀ {ds : List PyData}, (∀ d, d ∈ ds → leafB d = true) → PyData.leavesShortAll 24 ds = true ∧ PyData.weightAll ds ≤ 101 * ds.length ∧ PyData.depthAll ds = 0 ∧ PyData.showableAll ds = true ∧ PyData.hasDictAll ds = false
  | [], _ => ⟨rfl, Nat.le_refl _, rfl, rfl, rfl⟩
  | d :: r, h => by
    obtain ⟨a1, a2, a3, a4, a5⟩ := leaf_ok (h d (List.mem_cons_self ..))
    obtain ⟨b1, b2, b3, b4, b5⟩ := leafs_ok (ds := r) fun x hx => h x (List.mem_cons_of_mem _ hx)
    refine ⟨?_, ?_, ?_, ?_, ?_⟩
    · simp only [PyData.leavesShortAll, a1, b1, Bool.and_self]
    · simp only [PyData.weightAll, List.length_cons]
      omega
    · simp only [PyData.depthAll, a3, b3]
      rfl
    · simp only [PyData.showableAll, a4, b4, Bool.and_self]
    · simp only [PyData.hasDictAll, a5, b5, Bool.or_self]
theorem okD_leaf {d : PyData} (h : leafB d = true) : okD d = true := by
  obtain ⟨a1, a2, a3, a4, a5⟩ := leaf_ok h
  unfold okD
  rw [a1, a3, a4, a5]
  simp
  omega
theorem okD_list {ds : List PyData} (h : ∀ d, d ∈ ds → leafB d = true) (hl : ds.length ≤ 900) : okD (.list ds) = true := by
  obtain ⟨b1, b2, b3, b4, b5⟩ := leafs_ok h
  have e1 : (PyData.list ds).leavesShort 24 = true := b1
  have e2 : (PyData.list ds).weight ≤ 100000 := Nat.le_trans b2 (by omega)
  have e3 : (PyData.list ds).depth ≤ 4 := by
    have : (PyData.list ds).depth = PyData.depthAll ds + 1 := rfl
    omega
  have e4 : (PyData.list ds).showable = true := b4
  have e5 : (PyData.list ds).hasDict = false := b5
  unfold okD
  rw [e1, e4, e5, decide_eq_true e2, decide_eq_true e3]
  rfl
theorem okD_tuple {ds : List PyData} (h : ∀ d, d ∈ ds → leafB d = true) (hl : ds.length ≤ 900) : okD (.tuple ds) = true := by
  obtain ⟨b1, b2, b3, b4, b5⟩ := leafs_ok h
  have e1 : (PyData.tuple ds).leavesShort 24 = true := b1
  have e2 : (PyData.tuple ds).weight ≤ 100000 := Nat.le_trans b2 (by omega)
  have e3 : (PyData.tuple ds).depth ≤ 4 := by
    have : (PyData.tuple ds).depth = PyData.depthAll ds + 1 := rfl
    omega
  have e4 : (PyData.tuple ds).showable = true := b4
  have e5 : (PyData.tuple ds).hasDict = false := b5
  unfold okD
  rw [e1, e4, e5, decide_eq_true e2, decide_eq_true e3]
  rfl
/-- a leaf as data -/
def datOf : V → PyData
  | .bl b => .bool b | .int i => .int i | .str z => .str z | _ => .none
def isLeaf : V → Bool
  | .non => true | .bl _ => true | .int i => leafB (.int i) | .str z => leafB (.str z) | _ => false
theorem isLeaf_ok {v : V} (h : isLeaf v = true) : leafB (datOf v) = true := by
  cases v <;> first | rfl | exact h | cases h
theorem dat_leaf {K : PySem.W.Frag} {H : Hp} {v : V} (h : isLeaf v = true) : DatV K H v (datOf v) := by
  cases v with
  | non => exact .non
  | bl b => exact .bl b
  | int i => exact .int i
  | str z => exact .str z
  | _ => cases h
theorem dat_map {xs : List V} {i : Nat} {x : V} {d : PyData} (h1 : xs[i]? = some x) (h2 : (xs.map datOf)[i]? = some d) : d = datOf x := by
  rw [List.getElem?_map, h1] at h2
  exact (Option.some.inj h2).symm
theorem dat_lst {K : PySem.W.Frag} {H : Hp} {a : Addr} {xs : List V} (hs : SqL K H a xs) (h : ∀ x, x ∈ xs → isLeaf x = true) : DatV K H (.ref a) (.list (xs.map datOf)) :=
  .lst hs (by rw [List.length_map]) fun i x d h1 h2 => by rw [dat_map h1 h2]; exact dat_leaf (h x (List.mem_of_getElem? h1))
theorem dat_tup {K : PySem.W.Frag} {H : Hp} {a : Addr} {xs : List V} (hs : SqT K H a xs) (h : ∀ x, x ∈ xs → isLeaf x = true) : DatV K H (.ref a) (.tuple (xs.map datOf)) :=
  .tup hs (by rw [List.length_map]) fun i x d h1 h2 => by rw [dat_map h1 h2]; exact dat_leaf (h x (List.mem_of_getElem? h1))
theorem ok_lst {xs : List V} (h : ∀ x, x ∈ xs → isLeaf x = true) (hl : xs.length ≤ 900) : okD (.list (xs.map datOf)) = true := okD_list (fun d hd => by
  obtain ⟨x, hx, rfl⟩ := List.mem_map.mp hd
  exact isLeaf_ok (h x hx)) (by rw [List.length_map]; exact hl)
theorem ok_tup {xs : List V} (h : ∀ x, x ∈ xs → isLeaf x = true) (hl : xs.length ≤ 900) : okD (.tuple (xs.map datOf)) = true := okD_tuple (fun d hd => by
  obtain ⟨x, hx, rfl⟩ := List.mem_map.mp hd
  exact isLeaf_ok (h x hx)) (by rw [List.length_map]; exact hl)
section
variable {X : Cx} {pins : List (Addr × Obj)} {s : Shared} {σ : L2.St} {H : Hp}
theorem readsAll_of {h : Heap} : ∀ {us : List Value} {xs : List V} {ds : List PyData}, Vals xs us → xs.length = ds.length → (∀ (i : Nat) (x : V) (d : PyData), xs[i]? = some x → ds[i]? = some d → ∀ u, RelV x u → ∃ as, Reads h u d as) → ∃ as, ReadsAll h us ds as
  | [], [], [], .nil, _, _ => ⟨[], .nil⟩
  | [], [], _ :: _, .nil, hl, _ => by cases hl
  | u :: us, x :: xs, [], .cons _ _, hl, _ => by cases hl
  | u :: us, x :: xs, d :: ds, .cons r t, hl, k => by
    obtain ⟨as, h1⟩ := k 0 x d rfl rfl u r
    obtain ⟨bs, h2⟩ := readsAll_of (us := us) (xs := xs) (ds := ds) t (by simpa using hl) fun i y e hy he => k (i + 1) y e (by simpa using hy) (by simpa using he)
    exact ⟨as ++ bs, .cons h1 h2⟩
theorem reads_of {v : V} {d : PyData} (I : Inv X pins σ H s) (h : DatV X.K H v d) : ∀ u, RelV v u → ∃ as, Reads s.heap u d as := by
  induction h with
  | non =>
    intro u r
    obtain rfl : u = Value.none := r
    exact ⟨_, .none⟩
  | bl b =>
    intro u r
    obtain rfl : u = Value.bool b := r
    exact ⟨_, .bool b⟩
  | int i =>
    intro u r
    obtain ⟨t, rfl⟩ := r
    exact ⟨_, .int i t⟩
  | str z =>
    intro u r
    obtain ⟨t, rfl⟩ := r
    exact ⟨_, .str z t⟩
  | lst h1 h2 _ ih =>
    intro u r
    obtain rfl : u = Value.ref _ := r
    obtain ⟨its, rv, pl, _⟩ := I.list h1
    obtain ⟨o, ho, hc, n, hd⟩ := pl.isList
    obtain ⟨as, ha⟩ := readsAll_of rv h2 ih
    exact ⟨_, .list ho hc hd (by rw [List.toList_toArray]; exact ha)⟩
  | tup h1 h2 _ ih =>
    intro u r
    obtain rfl : u = Value.ref _ := r
    obtain ⟨its, rv, ⟨o, ho, hc, n, hd⟩, _⟩ := I.tuple h1
    obtain ⟨as, ha⟩ := readsAll_of rv h2 ih
    exact ⟨_, .tuple ho hc hd (by rw [List.toList_toArray]; exact ha)⟩
def rRepr (K : PySem.W.Frag) : List V → Hp → VK → Prop := fun xs H Q => ∃ (v : V) (d : PyData), xs = [v] ∧ DatV K H v d ∧ okD d = true ∧ Q (.str d.shown) H
theorem call_repr_dat (hg : X.A.guards = some []) (hu : X.A.units + 6 < cLine) : CallR X (.builtin "repr") (rRepr X.K) := by
  intro pins s σ H xs us Q I r h
  obtain ⟨v, d, rfl, hd, hok, q⟩ := h
  obtain ⟨u, rfl, ru⟩ := vals1 r
  have go : ∀ {a : Addr}, u = .ref a → wpAny (model X.prog X.w) X.A (call (.builtin "repr") [u]) (EP X pins σ Q) X.xe s := fun {a} e => by
    subst e
    obtain ⟨as, rd⟩ := reads_of I hd _ ru
    have h4 := okD_depth hok
    exact repr_of_reads' rd (okD_show hok) (PyData.noDict_hsm (okD_dict hok)) hg (by omega) (fun _ _ e => e) (fun h' u tk hk => ⟨.str d.shown, H, I.kept hk, ⟨u, rfl⟩, q⟩) (okD_len hok)
  cases hd with
  | non =>
    obtain rfl : u = Value.none := ru
    exact PySem.P.repr_of_none ⟨.str (PyData.shown .none), H, I.tok _, ⟨_, rfl⟩, q⟩
  | bl b =>
    obtain rfl : u = Value.bool b := ru
    refine PySem.P.repr_of_bool ⟨.str (PyData.shown (.bool b)), H, I.tok _, ⟨s.toks, ?_⟩, q⟩
    cases b <;> rfl
  | int i =>
    obtain ⟨t, rfl⟩ := ru
    have hs : i.natAbs.log2 < 1920 := by simpa [PyData.showable] using okD_show hok
    exact PySem.P.repr_of_int hs ⟨.str (PyData.shown (.int i)), H, I.tok _, ⟨_, rfl⟩, q⟩
  | str z =>
    obtain ⟨t, rfl⟩ := ru
    exact PySem.P.repr_of_str ⟨.str (PyData.shown (.str z)), H, I.tok _, ⟨_, rfl⟩, q⟩ (okD_len hok)
  | lst h1 h2 h3 => exact go ru
  | tup h1 h2 h3 => exact go ru
end
section
variable {K : PySem.W.Frag} {σ : L2.St} {H : Hp} {te : TE}
theorem ev_repr {v : V} {d : PyData} (h : Ev te σ H v) (hd : DatV K H v d) (hok : okD d = true) : Ev (tCB (rRepr K) (tCons te tNil)) σ H (.str d.shown) := fun H1 e Q q =>
  h H1 e _ fun H2 e2 => ⟨v, d, rfl, hd.ex (e.trans e2), hok, q H2 e2⟩
theorem ev_reprL {xs : List V} (h : EvL te σ H xs) (hx : ∀ x, x ∈ xs → isLeaf x = true) (hl : xs.length ≤ 900) : Ev (tCB (rRepr K) (tCons te tNil)) σ H (.str (PyData.list (xs.map datOf)).shown) := fun H1 e Q q =>
  h H1 e _ fun p H2 hp e2 h2 => ⟨.ref p, _, rfl, dat_lst (.inl (.inl h2)) hx, ok_lst hx hl, q H2 e2⟩
theorem ev_reprU {xs : List V} (h : EvU te σ H xs) (hx : ∀ x, x ∈ xs → isLeaf x = true) (hl : xs.length ≤ 900) : Ev (tCB (rRepr K) (tCons te tNil)) σ H (.str (PyData.tuple (xs.map datOf)).shown) := fun H1 e Q q =>
  h H1 e _ fun p H2 hp e2 h2 => ⟨.ref p, _, rfl, dat_tup (.inl (.inl h2)) hx, ok_tup hx hl, q H2 e2⟩
end
end RpV
end

section
set_option Elab.async false
set_option linter.all false
set_option maxRecDepth 100000
set_option maxHeartbeats 2000000
/-! repr of a value that is data, dicts of ints and texts among it, where no repr is under way -/
namespace RpD
open PySem PySem.Spec PyProof.Rows L2 Cn Evl RpV
def keyD : L2.Key → PyData
  | .inl i => .int i
  | .inr z => .str z
inductive DatW (K : PySem.W.Frag) (H : Hp) : V → PyData → Prop
  | non : DatW K H .non .none
  | bl (b : Bool) : DatW K H (.bl b) (.bool b)
  | int (i : Int) : DatW K H (.int i) (.int i)
  | str (z : Str) : DatW K H (.str z) (.str z)
  | lst {a : Addr} {xs : List V} {ds : List PyData} (h1 : SqL K H a xs) (h2 : xs.length = ds.length) (h3 : ∀ (i : Nat) (x : V) (d : PyData), xs[i]? = some x → ds[i]? = some d → DatW K H x d) : DatW K H (.ref a) (.list ds)
  | tup {a : Addr} {xs : List V} {ds : List PyData} (h1 : SqT K H a xs) (h2 : xs.length = ds.length) (h3 : ∀ (i : Nat) (x : V) (d : PyData), xs[i]? = some x → ds[i]? = some d → DatW K H x d) : DatW K H (.ref a) (.tuple ds)
  | dct {a : Addr} {kvs : List (L2.Key × V)} {ds : List (PyData × PyData)} (h1 : Rd H a (.dK kvs)) (h2 : ds.map Prod.fst = kvs.map fun p => keyD p.1) (h3 : ∀ (i : Nat) (x : L2.Key × V) (d : PyData × PyData), kvs[i]? = some x → ds[i]? = some d → DatW K H x.2 d.2) : DatW K H (.ref a) (.dict ds)
theorem rd_ex {H H' : Hp} (e : Ex H H') {a : Addr} {o : HO} (h : Rd H a o) : Rd H' a o := by
  rcases h with h | ⟨ob, h⟩
  · exact .inl (e _ _ h)
  · exact .inr ⟨ob, e _ _ h⟩
theorem DatW.ex {K : PySem.W.Frag} {H H' : Hp} (e : Ex H H') {v : V} {d : PyData} (h : DatW K H v d) : DatW K H' v d := by
  induction h with
  | non => exact .non
  | bl b => exact .bl b
  | int i => exact .int i
  | str z => exact .str z
  | lst h1 h2 _ ih => exact .lst (ex_l e h1) h2 ih
  | tup h1 h2 _ ih => exact .tup (ex_t e h1) h2 ih
  | dct h1 h2 _ ih => exact .dct (rd_ex e h1) h2 ih
theorem dat_w {K : PySem.W.Frag} {H : Hp} {v : V} (h : isLeaf v = true) : DatW K H v (datOf v) := by
  cases v with
  | non => exact .non
  | bl b => exact .bl b
  | int i => exact .int i
  | str z => exact .str z
  | _ => cases h
/-- data of few parts: n levels of at most ten -/
inductive Few : Nat → PyData → Prop
  | leaf {n : Nat} {d : PyData} (h : leafB d = true) : Few n d
  | lst {n : Nat} {ds : List PyData} (h : ∀ d, d ∈ ds → Few n d) (hl : ds.length ≤ 10) : Few (n + 1) (.list ds)
  | tup {n : Nat} {ds : List PyData} (h : ∀ d, d ∈ ds → Few n d) (hl : ds.length ≤ 10) : Few (n + 1) (.tuple ds)
  | dct {n : Nat} {ds : List (PyData × PyData)} (h : ∀ d, d ∈ ds → leafB d.1 = true) (h' : ∀ d, d ∈ ds → Few n d.2) (hl : ds.length ≤ 10) : Few (n + 1) (.dict ds)
theorem Few.up {n : Nat} {d : PyData} (h : Few n d) : ∀ {m : Nat}, n ≤ m → Few m d := by
  induction h with
  | leaf h => exact fun _ => .leaf h
  | lst h hl ih =>
    intro m hm
    obtain ⟨k, rfl⟩ : ∃ k, m = k + 1 := ⟨m - 1, by omega⟩
    exact .lst (fun d hd => ih d hd (by omega)) hl
  | tup h hl ih =>
    intro m hm
    obtain ⟨k, rfl⟩ : ∃ k, m = k + 1 := ⟨m - 1, by omega⟩
    exact .tup (fun d hd => ih d hd (by omega)) hl
  | dct h h' hl ih =>
    intro m hm
    obtain ⟨k, rfl⟩ : ∃ k, m = k + 1 := ⟨m - 1, by omega⟩
    exact .dct h (fun d hd => ih d hd (by omega)) hl
/-- how heavy such data can be -/
def heavy : Nat → Nat
  | 0 => 100
  | n + 1 => 10 * (heavy n + 102)
theorem heavy_up (n : Nat) : 100 ≤ heavy n := by
  induction n with
  | zero => exact Nat.le_refl _
  | succ n ih =>
    show 100 ≤ 10 * (heavy n + 102)
    omega
structure FewOk (n : Nat) (d : PyData) : Prop where
  sh : d.leavesShort 24 = true
  wt : d.weight ≤ heavy n
  dp : d.depth ≤ n
  sw : d.showable = true
theorem few_all {n : Nat} : ∀ {ds : List PyData}, (∀ d, d ∈ ds → FewOk n d) → PyData.leavesShortAll 24 ds = true ∧ PyData.weightAll ds ≤ ds.length * (heavy n + 1) ∧ PyData.depthAll ds ≤ n ∧ PyData.showableAll ds = true
  | [], _ => ⟨rfl, Nat.zero_le _, Nat.zero_le _, rfl⟩
  | d :: r, h => by
    have a := h d (List.mem_cons_self ..)
    obtain ⟨b1, b2, b3, b4⟩ := few_all (ds := r) fun x hx => h x (List.mem_cons_of_mem _ hx)
    refine ⟨by simp only [PyData.leavesShortAll, a.sh, b1, Bool.and_self], ?_, ?_, by simp only [PyData.showableAll, a.sw, b4, Bool.and_self]⟩
    · have := a.wt
      simp only [PyData.weightAll, List.length_cons, Nat.succ_mul]
      omega
    · have := a.dp
      simp only [PyData.depthAll]
      omega
theorem few_kv {n : Nat} : ∀ {ds : List (PyData × PyData)}, (∀ d, d ∈ ds → leafB d.1 = true) → (∀ d, d ∈ ds → FewOk n d.2) → PyData.leavesShortKv 24 ds = true ∧ PyData.weightKv ds ≤ ds.length * (heavy n + 102) ∧ PyData.depthKv ds ≤ n ∧ PyData.showableKv ds = true
  | [], _, _ => ⟨rfl, Nat.zero_le _, Nat.zero_le _, rfl⟩
  | (k, v) :: r, h, h' => by
    obtain ⟨c1, c2, c3, c4, _⟩ := leaf_ok (h (k, v) (List.mem_cons_self ..))
    have a := h' (k, v) (List.mem_cons_self ..)
    obtain ⟨b1, b2, b3, b4⟩ := few_kv (ds := r) (fun x hx => h x (List.mem_cons_of_mem _ hx)) fun x hx => h' x (List.mem_cons_of_mem _ hx)
    have a1 : v.leavesShort 24 = true := a.sh
    have a4 : v.showable = true := a.sw
    refine ⟨by simp only [PyData.leavesShortKv, c1, a1, b1, Bool.and_self], ?_, ?_, by simp only [PyData.showableKv, c4, a4, b4, Bool.and_self]⟩
    · have a2 : v.weight ≤ heavy n := a.wt
      have c2 : k.weight ≤ 100 := c2
      simp only [PyData.weightKv, List.length_cons, Nat.succ_mul]
      omega
    · have a3 : v.depth ≤ n := a.dp
      have c3 : k.depth = 0 := c3
      simp only [PyData.depthKv, c3]
      omega
theorem ten_le {a b c : Nat} (h : a ≤ b * c) (hb : b ≤ 10) : a ≤ 10 * c := Nat.le_trans h (Nat.mul_le_mul_right c hb)
theorem Few.ok {n : Nat} {d : PyData} (h : Few n d) : FewOk n d := by
  induction h with
  | @leaf n d h =>
    obtain ⟨c1, c2, c3, c4, _⟩ := leaf_ok h
    have := heavy_up n
    exact ⟨c1, by omega, by omega, c4⟩
  | @lst n ds h hl ih =>
    obtain ⟨b1, b2, b3, b4⟩ := few_all ih
    have b2' := ten_le b2 hl
    exact ⟨b1, by show PyData.weightAll ds ≤ 10 * (heavy n + 102); omega, Nat.succ_le_succ b3, b4⟩
  | @tup n ds h hl ih =>
    obtain ⟨b1, b2, b3, b4⟩ := few_all ih
    have b2' := ten_le b2 hl
    exact ⟨b1, by show PyData.weightAll ds ≤ 10 * (heavy n + 102); omega, Nat.succ_le_succ b3, b4⟩
  | @dct n ds h h' hl ih =>
    obtain ⟨b1, b2, b3, b4⟩ := few_kv h ih
    have b2' := ten_le b2 hl
    exact ⟨b1, b2', Nat.succ_le_succ b3, b4⟩
theorem few_len {n : Nat} (hn : n ≤ 3) {d : PyData} (h : Few n d) : d.shown.length ≤ sizeLine := by
  have o := (h.up hn).ok
  have h1 := PyData.shown_le 24 (by decide) d o.sh
  have := sizeLine_eq
  have h2 : d.weight ≤ 213220 := o.wt
  omega
/-- no dict of modules stands where a list or a dict of data stands -/
def SysD (K : PySem.W.Frag) : Prop := ∃ o, K.lookup sysModules = some o ∧ o.cls = .type "dict"
def sysB (K : PySem.W.Frag) : Bool := match K.lookup sysModules with
  | some o => decide (o.cls = .type "dict")
  | none => false
theorem sysB_ok {K : PySem.W.Frag} (h : sysB K = true) : SysD K := by
  unfold sysB at h
  cases e : K.lookup sysModules with
  | none => rw [e] at h; cases h
  | some o =>
    rw [e] at h
    exact ⟨o, e, of_decide_eq_true h⟩
section
variable {X : Cx} {pins : List (Addr × Obj)} {s : Shared} {σ : L2.St} {H : Hp}
theorem readsAll_w {h : Heap} {bad : Addr} : ∀ {us : List Value} {xs : List V} {ds : List PyData}, Vals xs us → xs.length = ds.length → (∀ (i : Nat) (x : V) (d : PyData), xs[i]? = some x → ds[i]? = some d → ∀ u, RelV x u → ∃ as, Reads h u d as ∧ bad ∉ as) → ∃ as, ReadsAll h us ds as ∧ bad ∉ as
  | [], [], [], .nil, _, _ => ⟨[], .nil, fun z => nomatch z⟩
  | [], [], _ :: _, .nil, hl, _ => by cases hl
  | u :: us, x :: xs, [], .cons _ _, hl, _ => by cases hl
  | u :: us, x :: xs, d :: ds, .cons r t, hl, k => by
    obtain ⟨as, h1, n1⟩ := k 0 x d rfl rfl u r
    obtain ⟨bs, h2, n2⟩ := readsAll_w (us := us) (xs := xs) (ds := ds) t (by simpa using hl) fun i y e hy he => k (i + 1) y e (by simpa using hy) (by simpa using he)
    exact ⟨as ++ bs, .cons h1 h2, fun z => (List.mem_append.mp z).elim n1 n2⟩
theorem key_reads {k : L2.Key} {u : Value} (h : (mixKind X.prog X.w).is k u = true) : Reads s.heap u (keyD k) [] := by
  rcases keyIs_shape h with ⟨i, t, rfl, rfl⟩ | ⟨z, t, rfl, rfl⟩
  · exact .int i t
  · exact .str z t
theorem keys_read {X : Cx} {s : Shared} : ∀ {es : List DictEntry} {vs : List (L2.Key × Value)}, Pairs (mixKind X.prog X.w) es vs → ReadsAll s.heap (es.map (·.key)) (vs.map fun p => keyD p.1) []
  | [], [], .nil => .nil
  | e :: es, v :: vs, .cons h1 h2 t => ReadsAll.cons (as := []) (bs := []) (key_reads h1) (keys_read t)
theorem vals_are {X : Cx} : ∀ {es : List DictEntry} {vs : List (L2.Key × Value)}, Pairs (mixKind X.prog X.w) es vs → es.map (·.val) = vs.map Prod.snd
  | [], [], .nil => rfl
  | e :: es, v :: vs, .cons h1 h2 t => by rw [List.map_cons, List.map_cons, vals_are t, h2]
theorem kv_vals : ∀ {kvs : List (L2.Key × V)} {vs : List (L2.Key × Value)}, KV kvs vs → Vals (kvs.map Prod.snd) (vs.map Prod.snd)
  | [], [], .nil => .nil
  | _ :: _, _ :: _, .cons r t => .cons r.2 (kv_vals t)
theorem kv_keys : ∀ {kvs : List (L2.Key × V)} {vs : List (L2.Key × Value)}, KV kvs vs → (kvs.map fun p => keyD p.1) = vs.map fun p => keyD p.1
  | [], [], .nil => rfl
  | _ :: _, _ :: _, .cons r t => by rw [List.map_cons, List.map_cons, kv_keys t, r.1]
theorem reads_w (I : Inv X pins σ H s) (hS : SysD X.K) {v : V} {d : PyData} (h : DatW X.K H v d) : ∀ u, RelV v u → ∃ as, Reads s.heap u d as ∧ sysModules ∉ as := by
  obtain ⟨os, e1, e2⟩ := hS
  have hs := I.kIn _ _ e1
  induction h with
  | non =>
    intro u r
    obtain rfl : u = Value.none := r
    exact ⟨_, .none, fun z => nomatch z⟩
  | bl b =>
    intro u r
    obtain rfl : u = Value.bool b := r
    exact ⟨_, .bool b, fun z => nomatch z⟩
  | int i =>
    intro u r
    obtain ⟨t, rfl⟩ := r
    exact ⟨_, .int i t, fun z => nomatch z⟩
  | str z =>
    intro u r
    obtain ⟨t, rfl⟩ := r
    exact ⟨_, .str z t, fun z => nomatch z⟩
  | @lst a xs ds h1 h2 _ ih =>
    intro u r
    obtain rfl : u = Value.ref _ := r
    obtain ⟨its, rv, pl, _⟩ := I.list h1
    obtain ⟨o, ho, hc, n, hd⟩ := pl.isList
    obtain ⟨as, ha, na⟩ := readsAll_w rv h2 ih
    refine ⟨_, .list ho hc hd (by rw [List.toList_toArray]; exact ha), fun z => ?_⟩
    rcases List.mem_cons.mp z with q | q
    · rw [q, ho] at hs
      obtain rfl := Option.some.inj hs
      rw [hc] at e2
      injection e2 with e3
      exact absurd e3 (by decide)
    · exact na q
  | tup h1 h2 _ ih =>
    intro u r
    obtain rfl : u = Value.ref _ := r
    obtain ⟨its, rv, ⟨o, ho, hc, n, hd⟩, _⟩ := I.tuple h1
    obtain ⟨as, ha, na⟩ := readsAll_w rv h2 ih
    exact ⟨_, .tuple ho hc hd (by rw [List.toList_toArray]; exact ha), na⟩
  | @dct a kvs ds h1 h2 _ ih =>
    intro u r
    obtain rfl : u = Value.ref _ := r
    obtain ⟨_, hn, vs, kv, o, es, ep, ho, hx, hd, _, pr, _⟩ := dk_rd I.hok h1
    have hlen : (kvs.map Prod.snd).length = (ds.map Prod.snd).length := by
      have := congrArg List.length h2
      simp only [List.length_map] at this ⊢
      exact this.symm
    obtain ⟨as, ha, na⟩ := readsAll_w (h := s.heap) (bad := sysModules) (ds := ds.map Prod.snd) (kv_vals kv) hlen fun i x d hx hd u ru => by
      rw [List.getElem?_map] at hx hd
      cases ex : kvs[i]? with
      | none => rw [ex] at hx; cases hx
      | some p =>
        cases ed : ds[i]? with
        | none => rw [ed] at hd; cases hd
        | some q =>
          rw [ex] at hx
          rw [ed] at hd
          obtain rfl := Option.some.inj hx
          obtain rfl := Option.some.inj hd
          exact ih i p q ex ed u ru
    have hk : ReadsAll s.heap (es.toList.map (·.key)) (ds.map Prod.fst) [] := by
      rw [h2, kv_keys kv]
      exact keys_read pr
    refine ⟨_, .dict ho hx.1 hd hk (by rw [vals_are pr]; exact ha), fun z => ?_⟩
    rcases List.mem_cons.mp z with q | q
    · rw [q] at hn
      simp at hn
    · exact na (by simpa using q)
def rReprD (K : PySem.W.Frag) : List V → Hp → VK → Prop := fun xs H Q => ∃ (v : V) (d : PyData), xs = [v] ∧ DatW K H v d ∧ Few 3 d ∧ Q (.str d.shown) H
theorem call_repr_few (hg : X.A.guards = some []) (hu : X.A.units + 5 < cLine) (hS : SysD X.K) : CallR X (.builtin "repr") (rReprD X.K) := by
  intro pins s σ H xs us Q I r h
  obtain ⟨v, d, rfl, hd, hok, q⟩ := h
  obtain ⟨u, rfl, ru⟩ := vals1 r
  have go : ∀ {a : Addr}, u = .ref a → wpAny (model X.prog X.w) X.A (call (.builtin "repr") [u]) (EP X pins σ Q) X.xe s := fun {a} e => by
    subst e
    obtain ⟨as, rd, na⟩ := reads_w I hS hd _ ru
    have h4 := hok.ok.dp
    exact repr_of_reads' rd hok.ok.sw (fun _ => na) hg (by omega) (fun _ _ e => e) (fun h' u tk hk => ⟨.str d.shown, H, I.kept hk, ⟨u, rfl⟩, q⟩) (few_len (by decide) hok)
  cases hd with
  | non =>
    obtain rfl : u = Value.none := ru
    exact PySem.P.repr_of_none ⟨.str (PyData.shown .none), H, I.tok _, ⟨_, rfl⟩, q⟩
  | bl b =>
    obtain rfl : u = Value.bool b := ru
    refine PySem.P.repr_of_bool ⟨.str (PyData.shown (.bool b)), H, I.tok _, ⟨s.toks, ?_⟩, q⟩
    cases b <;> rfl
  | int i =>
    obtain ⟨t, rfl⟩ := ru
    have hs : i.natAbs.log2 < 1920 := by simpa [PyData.showable] using hok.ok.sw
    exact PySem.P.repr_of_int hs ⟨.str (PyData.shown (.int i)), H, I.tok _, ⟨_, rfl⟩, q⟩
  | str z =>
    obtain ⟨t, rfl⟩ := ru
    exact PySem.P.repr_of_str ⟨.str (PyData.shown (.str z)), H, I.tok _, ⟨_, rfl⟩, q⟩ (few_len (by decide) hok)
  | lst h1 h2 h3 => exact go ru
  | tup h1 h2 h3 => exact go ru
  | dct h1 h2 h3 => exact go ru
end
section
variable {K : PySem.W.Frag} {σ : L2.St} {H : Hp} {te : TE}
theorem ev_reprD {v : V} {d : PyData} (h : Ev te σ H v) (hd : DatW K H v d) (hok : Few 3 d) : Ev (tCB (rReprD K) (tCons te tNil)) σ H (.str d.shown) := fun H1 e Q q =>
  h H1 e _ fun H2 e2 => ⟨v, d, rfl, hd.ex (e.trans e2), hok, q H2 e2⟩
end
end RpD
end

section
set_option Elab.async false
set_option linter.all false
set_option maxRecDepth 100000
set_option maxHeartbeats 2000000
/-! what is never reached; t[::-1] of a tuple; enumerate(t) of a tuple -/
namespace HT
open PySem PySem.Spec PyProof.Rows
section
variable {prog : Program} {w : World} {A : Around} {E : Value → Shared → Prop} {s : Shared}
theorem adjust_rev (n : Nat) : Builtin.Slice.sliceAdjust none none (-1) (n : Int) = ((n : Int) - 1, -1) := by
  unfold Builtin.Slice.sliceAdjust
  rfl
theorem places_rev (n : Nat) : Builtin.Slice.slicePlaces ((n : Int) - 1) (-1) (-1) = n := by
  unfold Builtin.Slice.slicePlaces
  have h1 : ¬ (-1 : Int) > 0 := by omega
  simp only [h1, if_false, Int.neg_neg, Int.ediv_one]
  split <;> omega
theorem sliceApplied_rev {sl : Addr} {vs : Value} {n : Nat} {Q : Int × Int × Nat → Shared → Prop} (hs : s.heap.IsSliceOf sl .none .none vs) (ps : IsPart vs (some (-1)))
    (h : Q ((n : Int) - 1, -1, n) s) : wpAny (model prog w) A (Builtin.Slice.sliceApplied (.ref sl) (pure (n : Int))) Q E s := by
  obtain ⟨os, hos, hcs, hds⟩ := id hs
  unfold Builtin.Slice.sliceApplied Builtin.Slice.sliceFields
  refine wpAny_bind (wpAny_bind (wpAny_field hos hds (x := .none) rfl (wpAny_bind (wpAny_field hos hds (x := .none) rfl (wpAny_bind (wpAny_field hos hds (x := vs) rfl (wpAny_pure ?_)))))))
  refine wpAny_bind (slicePart_ ps ?_)
  show wpAny _ _ (if ((-1 : Int) == 0) = true then _ else _) _ _ s
  rw [if_neg (by decide)]
  refine wpAny_bind (slicePart_none (wpAny_bind (slicePart_none (wpAny_bind (wpAny_pure ?_)))))
  show wpAny _ _ (match Builtin.Slice.sliceAdjust none none (-1) (n : Int) with | (lo, hi) => pure (lo, (-1 : Int), Builtin.Slice.slicePlaces lo hi (-1))) _ _ s
  rw [adjust_rev n]
  show wpAny _ _ (pure ((n : Int) - 1, (-1 : Int), Builtin.Slice.slicePlaces ((n : Int) - 1) (-1) (-1))) _ _ s
  rw [places_rev]
  exact wpAny_pure h
theorem pick_rev (xs : Array Value) : ((List.range xs.size).filterMap fun (m : Nat) => xs[(((xs.size : Int) - 1) + (m : Int) * (-1)).toNat]?).toArray = xs.toList.reverse.toArray := by
  congr 1
  have e : (fun (m : Nat) => xs[(((xs.size : Int) - 1) + (m : Int) * (-1)).toNat]?) = fun m => if m < xs.size then xs[xs.size - 1 - m]? else xs[0]? := by
    funext m
    by_cases hm : m < xs.size
    · rw [if_pos hm]
      have : (((xs.size : Int) - 1) + (m : Int) * (-1)).toNat = xs.size - 1 - m := by omega
      rw [this]
    · rw [if_neg hm]
      have : (((xs.size : Int) - 1) + (m : Int) * (-1)).toNat = 0 := by omega
      rw [this]
  rw [e]
  have e2 : (List.range xs.size).filterMap (fun m => if m < xs.size then xs[xs.size - 1 - m]? else xs[0]?) = (List.range xs.size).filterMap (fun m => xs[xs.size - 1 - m]?) := by
    have key : ∀ l : List Nat, (∀ m ∈ l, m < xs.size) → l.filterMap (fun m => if m < xs.size then xs[xs.size - 1 - m]? else xs[0]?) = l.filterMap (fun m => xs[xs.size - 1 - m]?) := by
      intro l
      induction l with
      | nil => intro _; rfl
      | cons m l ih =>
        intro h
        rw [List.filterMap_cons, List.filterMap_cons, if_pos (h m List.mem_cons_self), ih fun k hk => h k (List.mem_cons_of_mem _ hk)]
    exact key _ fun m hm => List.mem_range.mp hm
  have e3 := PySem.W.krv_range xs.size
  have e4 : (List.range xs.size).filterMap (fun m => xs[xs.size - 1 - m]?) = ((List.range xs.size).map (fun k => xs.size - 1 - k)).filterMap (xs[·]?) := by
    rw [List.filterMap_map]
    rfl
  rw [e2, e4, e3, List.filterMap_reverse, PySem.W.krv_all]
theorem getItem_tuple_rev {t sl : Addr} {items : Array Value} {vs : Value} {Q : Value → Shared → Prop} (ht : IsTup s.heap t items) (hs : s.heap.IsSliceOf sl .none .none vs) (ps : IsPart vs (some (-1)))
    (h : Q (.ref s.heap.objs.size) { s with heap := s.heap.push { cls := .type "tuple", data := .seq items.toList.reverse.toArray } })
    (hsz : items.size ≤ sizeLine) : wpAny (model prog w) A (getItem (.ref t) (.ref sl)) Q E s := by
  have htake : sizeOk (.seq items.toList.reverse.toArray) := by
    show items.toList.reverse.toArray.size ≤ sizeLine
    rw [List.size_toArray, List.length_reverse, Array.length_toList]
    omega
  obtain ⟨os, hos, hcs, hds⟩ := id hs
  have hTs : s.TypeIs (.ref sl) "slice" := ⟨os, hos, hcs⟩
  unfold getItem
  try with_reducible refine wpAny_holding ?_
  first | refine wpAny_bind (wpAny_pure ?_) | skip
  refine wpAny_bind (wpAny_sequenceKey ht.typeIs (by decide) ?_)
  refine wpAny_bind (wpAny_callSpecial?_slot (name := Str.ofString "__getitem__") ht.typeIs PyProof.Rows.slot_tuple_getitem
    (wpAny_call_entry PyProof.Rows.slot_tuple_getitem ht.typeIs entry_tuple_getitem ?_ (args_tuple_getitem _ _)))
  show wpAny _ _ (Builtin.Tuple.tupleItemsOf (.ref t) >>= _) _ _ s
  refine wpAny_bind (tupleItemsOf_ ht ?_)
  refine wpAny_bind (wpAny_typeOf hTs ?_)
  rw [if_pos (by decide)]
  refine wpAny_bind (sliceApplied_rev hs ps ?_)
  have hno : ¬ ((((items.size : Int) - 1) == 0 && (-1 : Int) == 1 && items.size == items.size) = true) := by
    intro q
    rw [Bool.and_eq_true, Bool.and_eq_true] at q
    exact absurd (eq_of_beq q.1.2) (by decide)
  show wpAny _ _ (if (((items.size : Int) - 1) == 0 && (-1 : Int) == 1 && items.size == items.size) = true then _ else _) _ _ s
  rw [if_neg hno, pick_rev]
  first
    | exact wpAny_bind (m := Builtin.Tuple.tupleExact _) (wpAny_newObj_type (wpAny_pure ⟨_, rfl, wpAny_pure h⟩) htake)
    | exact wpAny_bind (m := Builtin.Tuple.tupleExact _) (wpAny_newObj_type (wpAny_bind (wpAny_pure (wpAny_pure ⟨_, rfl, wpAny_pure h⟩))) htake)
    | exact wpAny_bind (wpAny_bind (m := Builtin.Tuple.tupleExact _) (wpAny_newObj_type (wpAny_pure (wpAny_pure ⟨_, rfl, wpAny_pure h⟩)) htake))
    | exact wpAny_bind (wpAny_bind (m := Builtin.Tuple.tupleExact _) (wpAny_newObj_type (wpAny_pure ⟨_, rfl, wpAny_pure h⟩) htake))
end
end HT
namespace L2
open PySem PySem.Spec PyProof.Rows
section
variable {X : Cx} {e : Expr} {es : List Expr} {st : Stmt} {ss : List Stmt}
/-- what is never reached -/
def tNoE : TE := fun _ _ _ => False
theorem pe_never : PE X e tNoE := ⟨fun _ _ _ _ _ _ h => h.elim⟩
theorem pt_never : PT X e (fun _ _ _ => False) := ⟨fun _ _ _ _ _ _ h => h.elim⟩
theorem pa_never : PA X es (fun _ _ _ => False) := ⟨fun _ _ _ _ _ _ _ h => h.elim⟩
theorem pg_never : PG X e (fun _ _ _ _ => False) := ⟨fun _ _ _ _ _ _ _ _ _ h => h.elim⟩
def tRevT (K : PySem.W.Frag) (te : TE) : TE := fun σ H Q => te σ H fun x H1 => ∃ a xs, x = .ref a ∧ SqT K H1 a xs ∧ ∀ p, H1 p = none → Q (.ref p) (upd H1 p (.tup xs.reverse))
theorem pe_revT {te : TE} {k : Nat} {p1 p2 p3 pos : Pos} (he : PE X e te) : PE X (.Subscript e (.Slice none none (some (.UnaryOp .USub (.Constant (.int 1) k p1) p2)) p3) pos) (tRevT X.K te) := by
  refine ⟨fun pins s σ H Q I h => ?_⟩
  refine Subscript_ (thn (he.run pins s σ H _ I h) fun v s1 ⟨x, H1, I1, r1, q1⟩ => ?_)
  obtain ⟨a, xs, ex, hx, q⟩ := q1
  subst ex
  cases r1
  have hst : PO X (some (.UnaryOp .USub (.Constant (.int 1) k p1) p2)) (tPart (tUn (rU fun i => .int (-i)) (tC (.int 1)))) := po_some (pe_un un_neg pe_int)
  refine wpAny_Slice (thn (po_none.run pins s1 σ H1 (fun o H2 => o = none ∧ H2 = H1) I1 ⟨rfl, rfl⟩) fun vl s2 ⟨l, H2, I2, pl, el, e2⟩ => ?_)
  subst el e2
  refine thn (po_none.run pins s2 σ H2 (fun o H3 => o = none ∧ H3 = H2) I2 ⟨rfl, rfl⟩) fun vu s3 ⟨u, H3, I3, pu, eu, e3⟩ => ?_
  subst eu e3
  refine thn (hst.run pins s3 σ H3 (fun o H4 => o = some (-1) ∧ H4 = H3) I3 ⟨1, rfl, -1, rfl, rfl, rfl⟩) fun vs s4 ⟨o, H4, I4, ps, eo, e4⟩ => ?_
  subst eo e4
  have I5 : Inv X pins σ H4 { s4 with heap := s4.heap.push { cls := .type "slice", data := .fields #[vl, vu, vs] } } := I4.kept (t' := s4.toks) fun b ob q => Heap.get?_push_of_some _ q
  obtain ⟨its, r, ht, hz⟩ := I5.tuple hx
  have hlen := r.length
  cases pl
  cases pu
  show wpAny (model X.prog X.w) X.A (subscriptTail e (.Slice none none (some (.UnaryOp .USub (.Constant (.int 1) k p1) p2)) p3) (.ref a) (.ref s4.heap.objs.size)) (EP X pins σ Q) X.xe { s4 with heap := s4.heap.push { cls := .type "slice", data := .fields #[.none, .none, vs] } }
  refine tail_any (ops := [.ref a, .ref s4.heap.objs.size]) ht.typeIs (PyProof.Rows.slot_tuple_getitem.lookup) ?_ (by with_unfolding_all rfl)
  refine HT.getItem_tuple_rev ht (Heap.IsSliceOf.new _ .none .none vs) ps ?_ (by rw [List.size_toArray]; omega)
  refine ⟨.ref _, _, I5.laid (t' := s4.toks) (o := .tup xs.reverse) (fun b ob q => Heap.get?_push_of_some _ q) (Nat.le_refl _) ?_, rfl, q _ (I5.hok.fresh (Nat.le_refl _))⟩
  refine ⟨by rw [List.length_reverse]; exact hz, _, r.reverse, ?_⟩
  have e1 : its.toArray.toList.reverse.toArray = its.reverse.toArray := by simp
  rw [e1]
  exact PyProof.Rows.IsTup.new _ _

/-! ### enumerate(tuple) -/
def IteT (K : PySem.W.Frag) (a : Addr) : It :=
  ⟨fun i H => ∃ (xs : List V) (x : V), SqT K H a xs ∧ xs[i]? = some x, fun i H v H' => ∃ T x, v = .ref T ∧ H T = none ∧ H' = upd H T (.tup [.int (i : Nat), x]) ∧ ∀ xs, SqT K H a xs → xs[i]? = some x, fun i H => ∃ xs : List V, SqT K H a xs ∧ xs.length ≤ i⟩
theorem turn_enumT {P : Program} {w : World} {K : PySem.W.Frag} {elts : List Expr} {kk : Nat} {tpos : Pos} (a e it : Addr) :
    Turn P w K (.Tuple elts kk tpos) (IteT K a) [e, it] e (fun i h => (∃ old, IsEnum h e it ((i : Nat) : Int) old) ∧ h.IsTupleIter it a i ∧ e ≠ it) where
  mem := by simp
  obj := fun i h st b hb => by
    obtain ⟨⟨old, he⟩, ⟨o, ho, hc, hd⟩, _⟩ := st
    have e' : b = e ∨ b = it := by simpa using hb
    rcases e' with z | z
    · rw [z]; exact ⟨_, he, fun v q => nomatch q⟩
    · rw [z]; exact ⟨o, ho, fun v q => by rw [hd] at q; cases q⟩
  keep := fun i h h' st k => let ⟨⟨old, he⟩, hi, hne⟩ := st; ⟨⟨old, k e (by simp) _ he⟩, hi.at fun o q => k it (by simp) o q, hne⟩
  item := by
    intro X hP hw hK hc i pins s σ H E I hf st hg
    subst hP hw hK
    obtain ⟨⟨old, he⟩, hit, hne⟩ := st
    obtain ⟨xs, x, hq, hx⟩ := hg
    obtain ⟨its, rv, p, hz⟩ := I.tuple hq
    obtain ⟨u, hu, ru⟩ := rv.get hx
    have hel : e < s.heap.objs.size := Heap.lt_size he
    have hil : it < s.heap.objs.size := by obtain ⟨_, q, _⟩ := hit; exact Heap.lt_size q
    have hai : a ≠ it := fun z => by
      obtain ⟨o1, q1, c1, _⟩ := hit
      obtain ⟨o2, q2, c2, _⟩ := p
      rw [z] at q2
      rw [Option.some.inj (q2.symm.trans q1), c1] at c2
      exact absurd c2 (by simp)
    have hae : e ∉ [it, a] := fun z => by
      have z' : e = it ∨ e = a := by simpa using z
      rcases z' with z | z
      · exact hne z
      · obtain ⟨o2, q2, c2, _⟩ := p
        rw [← z] at q2
        have q1 : s.heap.get? e = some _ := he
        rw [← Option.some.inj (q1.symm.trans q2)] at c2
        exact absurd c2 (by simp)
    have hlt : i < its.toArray.size := by
      have := (List.getElem?_eq_some_iff.mp hu).1
      simpa using this
    have hux : its.toArray[i]? = some u := by simpa using hu
    refine wpAny_pyNext_enum_itemD (Draws.tuple (A := X.A.in1) (by exact I.ok.hd hc) it a hai its.toArray) he ⟨hit, p⟩ hlt hne hae fun x' h' tk hP ho hst hT hsz hk => ?_
    have ex : x' = u := Option.some.inj (hP.symm.trans hux)
    subst ex
    refine ⟨_, rfl, wpAny_letOwnedTupleGo_enum (s := { s with heap := h', toks := tk + 1 }) ho fun h'' he' sb => ?_⟩
    have hT2 : h''.get? s.heap.objs.size = some { cls := .type "tuple", data := .seq #[.int i tk, x'] } := (sb.2 _ (Nat.ne_of_gt hel)).trans hT
    have new : ObjOk X.prog X.w (upd H s.heap.objs.size (.tup [.int (i : Nat), x])) h'' s.heap.objs.size (.tup [.int (i : Nat), x]) :=
      ⟨by show 2 ≤ sizeLine; decide, [.int i tk, x'], .cons ⟨_, rfl⟩ (.cons ru .nil), ⟨_, hT2, rfl, _, rfl⟩⟩
    have I1 : Inv X pins σ (upd H s.heap.objs.size (.tup [.int (i : Nat), x])) { s with heap := h'', toks := tk + 1 } :=
      I.turnedNew (ch := [e, it]) (fun b ob hb q => (sb.2 b (fun z => hb (by simp [z]))).trans (hk b ob (fun z => hb (by simp [z])) (fun z => hb (by simp [z])) q)) hf (Nat.le_refl _) new
    refine ⟨.ref s.heap.objs.size, _, I1, rfl, ⟨_, x, rfl, I.hok.fresh (Nat.le_refl _), rfl, fun ys hy => by rw [I.tuple_inj hy hq]; exact hx⟩, ⟨⟨x', ?_⟩, hst.1.at fun o q => (sb.2 it (Ne.symm hne)).trans q, hne⟩, fun b hb => ?_⟩
    · have e1 : ((i + 1 : Nat) : Int) = (i : Int) + 1 := by omega
      rw [e1]; exact he'
    · have hb' : b < s.heap.objs.size := by
        have e' : b = e ∨ b = it := by simpa using hb
        rcases e' with z | z
        · rw [z]; exact hel
        · rw [z]; exact hil
      rw [upd_ne (Nat.ne_of_lt hb')]
      exact (hf b hb).1
  done := by
    intro X hP hw hK hc i pins s σ H E I hf st hg
    subst hP hw hK
    obtain ⟨⟨old, he⟩, hit, hne⟩ := st
    obtain ⟨xs, hq, hx⟩ := hg
    obtain ⟨its, rv, p, hz⟩ := I.tuple hq
    obtain ⟨f0, f1, f2, f3, f4, f5⟩ := hf it (by simp)
    have hl := rv.length
    have hh : X.A.handled = none := I.ok.hd hc
    have hT : s.TypeIs (.ref e) "enumerate" := ⟨_, he, rfl⟩
    have hend : its.toArray[i]? = none := by simp; omega
    unfold pyNext
    refine wpAny_bind (wpAny_attempt (wpAny_callSpecial?_slot (name := Str.ofString "__next__") hT F.slot_enumerate_next
      (wpAny_call_entry F.slot_enumerate_next hT F.entry_enumerate_next ?_ (F.args_enumerate_next_1 _))))
    show wpAny _ _ (field (.ref e) 2 >>= _) _ _ _
    refine wpAny_bind (wpAny_field he rfl (x := .ref it) rfl ?_)
    refine wpAny_bind (wpAny_nextOf_tuple_end (A := X.A.in1) hh hit p hend fun h' x he' hx' => ?_)
    obtain ⟨o, ho, hc⟩ := hx'
    refine wpAny_bind (wpAny_isInstance (T := "StopIteration") (b := true) ⟨o, ho, hc⟩ isSubtype_stop ?_)
    exact wpAny_pure ⟨rfl, I.turned (t' := s.toks) (fun b o hb q => he' b o hb q) f0 f1 f3 f4 f5⟩
  self := fun A i s Q E st h => let ⟨⟨_, he⟩, _⟩ := st; wpAny_pyIter_enum he h
theorem meets_enumerate_newT (l : Addr) (items : Array Value) (o : Obj) :
    Meets (Builtin.«enumerate.__new__» ⟨[.type "enumerate", .ref l], []⟩) (fun _ R s => s.heap.IsTuple l items ∧
      R (.ok (.ret (.ref (s.heap.push { cls := .type "tuple_iterator", data := .fields #[.ref l, .int 0 0] }).objs.size)))
        { s with heap := (s.heap.push { cls := .type "tuple_iterator", data := .fields #[.ref l, .int 0 0] }).push { cls := .type "enumerate", data := .fields #[.none, .bool false, .ref s.heap.objs.size, rawInt 0, .none, .none] } }) :=
  .of_wp fun prog w A R s h => by
    obtain ⟨hp, g, d, tk, os⟩ := s; obtain ⟨hl, h⟩ := h
    have hsub := sub_enumerate
    have q1 : ∀ {A' : Around} {E : Value → Shared → Prop} {Q : Value → Shared → Prop}, Q (.ref hp.objs.size) ⟨hp.push { cls := .type "tuple_iterator", data := .fields #[.ref l, .int 0 0] }, g, d, tk, os⟩ → wpAny (model prog w) A' (pyIter (.ref l)) Q E ⟨hp, g, d, tk, os⟩ :=
      fun q => wpAny_pyIter_tuple hl q
    wp_walk using q1
    refine wpAny_stack_any fun st => wpAny_pure ?_
    split
    · rename_i c _ _ _ _ _
      cases (c == Value.type "enumerate")
      · wp_walk using q1
        exact ⟨_, rfl, h⟩
      · wp_walk using q1
        exact ⟨_, rfl, h⟩
    · wp_walk using q1
      exact ⟨_, rfl, h⟩
theorem call_enumerate_tuple {prog : Program} {w : World} {A : Around} {E : Value → Shared → Prop} {s : Shared} {l : Addr} {items : Array Value} {Q : Value → Shared → Prop} (hL : s.heap.IsTuple l items)
    (h : ∀ h', IsEnum h' (s.heap.objs.size + 1) s.heap.objs.size 0 .none → h'.IsTupleIter s.heap.objs.size l 0 → h'.objs.size = s.heap.objs.size + 2 →
      (∀ b o, s.heap.get? b = some o → h'.get? b = some o) → Q (.ref (s.heap.objs.size + 1)) { s with heap := h' }) :
    wpAny (model prog w) A (call (.type "enumerate") [.ref l]) Q E s := by
  refine callType_new F.called_enumerate (by decide) (F.typeCall_enumerate_1 _) (F.newCall_enumerate_1 _) (fun obj => F.args_object_init_2 obj _) F.entry_enumerate_new
    (meets_enumerate_newT l items default) ⟨hL, ?_⟩
  have hz : (s.heap.push { cls := .type "tuple_iterator", data := .fields #[.ref l, .int 0 0] }).objs.size = s.heap.objs.size + 1 := Heap.size_push ..
  show _ ∧ _
  rw [hz]
  have he : IsEnum ((s.heap.push { cls := .type "tuple_iterator", data := .fields #[.ref l, .int 0 0] }).push
      { cls := .type "enumerate", data := .fields #[.none, .bool false, .ref s.heap.objs.size, rawInt 0, .none, .none] }) (s.heap.objs.size + 1) s.heap.objs.size 0 .none := by
    have := Heap.get?_push_size (s.heap.push { cls := .type "tuple_iterator", data := .fields #[.ref l, .int 0 0] }) (o := { cls := .type "enumerate", data := .fields #[.none, .bool false, .ref s.heap.objs.size, rawInt 0, .none, .none] }) rfl
    rw [hz] at this; exact this
  refine ⟨⟨_, he, rfl⟩, h _ he ⟨_, Heap.get?_push_of_some _ (Heap.get?_push_size _ rfl), rfl, rfl⟩ (by rw [Heap.size_push, hz]) fun b o x => Heap.get?_push_of_some _ (Heap.get?_push_of_some _ x)⟩
def iEnumT (K : PySem.W.Frag) (ta : TA) : TI := fun σ H R => ta σ H fun vs H1 => ∃ a xs, vs = [.ref a] ∧ SqT K H1 a xs ∧ R (IteT K a) H1
theorem pi_enumT {X : Cx} {e : Expr} {ta : TA} {p pos tpos : Pos} {elts : List Expr} {kk : Nat} (hg : Gl X "enumerate") (hm : X.mg "enumerate" = none) (ha : PA X [e] ta) (hs : starEach [e] X.env = [(false, eval e X.env)] := by rfl) :
    PI X (.Tuple elts kk tpos) (.Call (.Name "enumerate" p) [e] [] pos) (iEnumT X.K ta) := by
  refine ⟨fun pins s σ H R I h => ?_⟩
  refine Call_ (ld_blt I hg hm boot_enumerate (PyProof.Rows.callWith_type1 (thn (ha.run pos pins s σ H _ I h) fun us s1 ⟨vs, H1, I1, r1, q1⟩ => ?_) hs rfl))
  obtain ⟨a, xs, ex, hq, q⟩ := q1
  subst ex
  cases r1 with
  | cons r rr =>
    cases rr
    cases r
    obtain ⟨its, rv, p', hz⟩ := I1.tuple hq
    refine call_enumerate_tuple p' fun h' he hit hsz hk => wpAny_pyIter_enum he ?_
    have I2 : Inv X pins σ H1 { s1 with heap := h' } := I1.kept (t' := s1.toks) hk
    refine ⟨s1.heap.objs.size + 1, [s1.heap.objs.size + 1, s1.heap.objs.size], _, _, H1, rfl, I2, turn_enumT a (s1.heap.objs.size + 1) s1.heap.objs.size, ⟨⟨.none, he⟩, hit, Nat.succ_ne_self _⟩, fun b hb => ?_, q⟩
    have e' : b = s1.heap.objs.size + 1 ∨ b = s1.heap.objs.size := by simpa using hb
    have hle : s1.heap.objs.size ≤ b := by
      rcases e' with z | z
      · rw [z]; exact Nat.le_add_right _ _
      · rw [z]; exact Nat.le_refl _
    exact I1.fpOk hle (I1.hok.fresh hle)
theorem walk_enumT {K : PySem.W.Frag} {a : Addr} {xs : List V} : Walk (IteT K a) xs.length (fun H => SqT K H a xs) (YPair (fun i => some (.int (i : Nat))) (fun i => xs[i]?)) := by
  refine ⟨fun i _ hi q => ⟨xs, xs[i], q, by simp [hi]⟩, fun _ q => ⟨xs, q, Nat.le_refl _⟩, fun i H v H' _ q y => ?_⟩
  obtain ⟨T, x, h1, h2, h3, h4⟩ := y
  exact ⟨T, .int (i : Nat), x, h1, h2, h3, rfl, h4 xs q⟩
end
end L2
end

section
set_option Elab.async false
set_option linter.all false
set_option maxRecDepth 100000
set_option maxHeartbeats 2000000
/-! a def (a, b, *v, c=.., **d): called with a, b alone, or with a, b and c by name; a class called by a local name -/
namespace InC
open PySem PySem.Spec PyProof.Rows L2 StX
/-- what binding comes to: nothing left over, no further keywords -/
def BndOk (K : PySem.W.Frag) (fd : FuncData) (args : Args) (l : List (Str × Value)) (pv pd : Str) : Prop :=
  ∀ (M : Model) (A : Around) (Q : List (Str × Value) → Shared → Prop) (E : Value → Shared → Prop) (s : Shared), K.In s.heap →
    wpAny M A (newTuple [] >>= fun t => (alloc ({ cls := .type "dict", data := .dict #[] } : Obj) : Sem Addr) >>= fun d => pure (l ++ [(pv, t), (pd, Value.ref d)])) Q E s → wpAny M A (bindArgs fd args) Q E s
section
variable {CX : CXT} {P : Program} {w : World} {K : PySem.W.Frag} {mg : Str → Option Value} {base : Heap} {k : Nat} {f : Addr} {name qual : Str} {params : Arguments} {body : List Stmt} {scope : Scope} {dV kV doc pm cdv ct oc : Value} {an od : Option Addr}
  {osl : Array (Option Value)} {N ps : List Str} {sp : Sp} {pv pd : Str}
theorem run_in {A : Around} {outer : List Env} {s : Shared} {H : Hp} {args : Args} {us : List Value} {vs : List V} {Q : VK} {E : XK} (lk : K.lookup f = some ⟨oc, od, .func (PySem.W.fnOf name qual params body scope dV kV doc pm an cdv ct), osl⟩) (hcd : PySem.W.codeIn K cdv qual = true)
    (S : FnScope N (ps ++ [pv, pd]) scope) (hCX : CXUp CX) (hr : Room (k + 1) A) (e0 : Env0 P w K mg base A outer s H) (hb : BndOk K (PySem.W.fnOf name qual params body scope dV kV doc pm an cdv ct) args (ps.zip us) pv pd) (r : Vals vs us) (hl : vs.length = ps.length)
    (hbody : ∀ (A : Around) (outer : List Env) (s : Shared) (H : Hp) (vs : List V) (Q : VK) (E : XK), Room k (A.deeper (envOfC qual scope s.heap.objs.size f cdv)) → sp vs H Q E →
      ∃ t, PSs (cxOf CX P w K mg base N qual scope f cdv A outer s H E) body t ∧ t { nx := fun _ H' => Q .non H', rt := Q } (start N vs) H)
    (hq : ∀ p d, H p = Option.none → H d = Option.none → d ≠ p → sp (vs ++ [V.ref p, V.ref d]) (upd (upd H p (.tup [])) d (.dK [])) Q E) :
    codeAny (model P w) A (.call (.ref f) args) (CR CX outer P w H s Q E) s := by
  have hn : H s.heap.objs.size = Option.none := e0.hok.fresh (Nat.le_refl _)
  have hl1 : us.length = ps.length := by rw [← r.length]; exact hl
  have KX : K.In s.heap := e0.mod.kin.keeps fun b o e => (e0.bs b o e).1
  refine run_bnd lk hcd S hr e0 (G := fun xs H2 => ∃ p d, H p = Option.none ∧ H d = Option.none ∧ d ≠ p ∧ xs = vs ++ [V.ref p, V.ref d] ∧ H2 = upd (upd H p (.tup [])) d (.dK [])) (fun A' Ex Q' h => ?_) fun s2 H2 xs ⟨p, d, hp, hd, hne, ex, eH⟩ hr' => ?_
  · refine hb _ _ _ _ _ KX ?_
    refine wpAny_bind (wpAny_newTuple (wpAny_bind (wpAny_alloc (wpAny_pure ?_))) (by show 0 ≤ sizeLine; exact Nat.zero_le _))
    have new : ObjOk P w (upd H s.heap.objs.size (.tup [])) (s.heap.push ({ cls := .type "tuple", data := .seq ([] : List Value).toArray } : Obj)) s.heap.objs.size (.tup []) := ⟨Nat.zero_le _, [], .nil, ⟨_, Heap.get?_push_size _ rfl, rfl, _, rfl⟩⟩
    have e1 := env0_laid e0 new
    have un1 := un_laid (fs := frs outer) (s := s) (o := ({ cls := .type "tuple", data := .seq ([] : List Value).toArray } : Obj)) (u := .tup []) hn
    have hn2 := e1.hok.fresh (Nat.le_refl _)
    have e2 := env0_laid (u := .dK []) (o := ({ cls := .type "dict", data := .dict #[] } : Obj)) e1 (dk_empty _ (env0_big e1))
    have un2 := un1.trans (un_laid (fs := frs outer) (s := { s with heap := s.heap.push ({ cls := .type "tuple", data := .seq ([] : List Value).toArray } : Obj) }) (o := ({ cls := .type "dict", data := .dict #[] } : Obj)) (u := .dK []) hn2)
    have sz : (s.heap.push ({ cls := .type "tuple", data := .seq ([] : List Value).toArray } : Obj)).objs.size = s.heap.objs.size + 1 := Heap.size_push _ _
    have ne : (s.heap.push ({ cls := .type "tuple", data := .seq ([] : List Value).toArray } : Obj)).objs.size ≠ s.heap.objs.size := by
      rw [sz]
      exact Nat.succ_ne_self _
    have hd : H (s.heap.push ({ cls := .type "tuple", data := .seq ([] : List Value).toArray } : Obj)).objs.size = Option.none := e0.hok.fresh (by rw [sz]; exact Nat.le_succ _)
    have z := h _ _ (vs ++ [V.ref s.heap.objs.size, V.ref (s.heap.push ({ cls := .type "tuple", data := .seq ([] : List Value).toArray } : Obj)).objs.size]) (us ++ [Value.ref s.heap.objs.size, Value.ref (s.heap.push ({ cls := .type "tuple", data := .seq ([] : List Value).toArray } : Obj)).objs.size]) e2 un2 rfl
      (fun e s' => hCX outer s H _ _ E e s' un2 (fun b o q => Heap.get?_push_of_some _ (Heap.get?_push_of_some _ q)) rfl) (r.append (.cons rfl (.cons rfl .nil))) (by rw [List.length_append, List.length_append, hl] <;> rfl) ⟨_, _, hn, hd, ne, rfl, rfl⟩
    rw [List.zip_append hl1.symm] at z
    exact z
  · subst ex eH
    exact hbody A outer s2 _ _ Q E hr' (hq p d hp hd hne)
end
/-- with one keyword-only default that is looked up (the name c) -/
theorem bnd_dflt {K : PySem.W.Frag} {fd : FuncData} {args : Args} {l : List (Str × Value)} {pv pd c : Str} {D : Addr} {av : Value} (hk : PySem.W.nsIn K D c = some (some av))
    (h : ∃ (β γ : Type) (k1 : Option Value → Sem β) (k2 : β → Sem γ) (k3 : γ → Sem (List (Str × Value))) (a : β), bindArgs fd args = ((nsGet D c >>= k1) >>= k2) >>= k3 ∧ k1 (some av) = pure a ∧
      (k2 a >>= k3) = (newTuple [] >>= fun t => (alloc ({ cls := .type "dict", data := .dict #[] } : Obj) : Sem Addr) >>= fun d => pure (l ++ [(pv, t), (pd, Value.ref d)]))) : BndOk K fd args l pv pd := fun M A Q E s X q => by
  obtain ⟨β, γ, k1, k2, k3, a, e1, e2, e3⟩ := h
  have l1 : PySem.W.Looks M s.heap (nsGet D c >>= k1) a := (PySem.W.looks_nsIn X hk).andThen (PySem.W.Looks.of_pure e2)
  rw [e1, bind_assoc]
  refine wpAny_bind (l1.here ?_)
  rw [e3]
  exact q
theorem bnd_all {K : PySem.W.Frag} {fd : FuncData} {args : Args} {l : List (Str × Value)} {pv pd : Str}
    (h : bindArgs fd args = (newTuple [] >>= fun t => (alloc ({ cls := .type "dict", data := .dict #[] } : Obj) : Sem Addr) >>= fun d => pure (l ++ [(pv, t), (pd, Value.ref d)]))) : BndOk K fd args l pv pd := fun M A Q E s X q => by
  rw [h]
  exact q

/-! ### making an instance by a local name, and by keywords -/
section
variable {X : Cx} {CX : CXT} {k i : Nat} {f C : Addr} {sp : Sp} {E : XK} {x : Str} {e : Expr} {es : List Expr} {t tk : TA} {p pos : Pos} {kws : List Keyword}
/-- c(e, ..), c the def's own name that holds the class at C -/
theorem pe_makeL (M : Mk X.K C f) (F : FnR X.prog X.w X.K X.mg X.base CX k f sp) (hr : Room (k + 1) X.A) (hN : X.N[i]? = some x) (hv : Vis X.env.scope x) (hx : Passes CX X E) (ha : PA X (e :: es) t) (hd : (x == ("__debug__" : Str)) = false := by decide)
    (hcd : (x == ("__classdict__" : Str)) = false := by decide)
    (he : starEach (e :: es) X.env = (false, eval e X.env) :: starEach es X.env := by rfl) (hpl : (backTo pos (starEach es X.env)).any (·.1) = false := by rfl) :
    PE X (.Call (.Name x p) (e :: es) [] pos) (fun σ H Q => σ[i]? = some (some (.ref C)) ∧ tMakeR C sp E t σ H Q) := by
  refine ⟨fun pins s σ H Q I h => ?_⟩
  obtain ⟨hs, h⟩ := h
  refine wpAny_Call_Name_kw (thn ((pe_var (pos := p) (i := i) hN hv hd hcd).run pins s σ H (fun v H1 => v = .ref C ∧ H1 = H) I ⟨.ref C, hs, rfl, rfl⟩) fun u s1 ⟨v, H1, I1, r1, q1⟩ => ?_)
  obtain ⟨ev, eH⟩ := q1
  subst ev
  subst eH
  obtain rfl : u = Value.ref C := r1
  refine PySem.W.callWith_K (h₀ := X.base) I.ok.mod.kin M.kp (thn (ha.run pos pins s1 σ H1 _ I1 h) fun us s1 ⟨vs, H1, I1, r, q⟩ => ⟨I1.kIn, ?_⟩) he hpl
  exact run_makeR M F hr hx I1 r q
/-- a promise of a call with keywords: the positional values, the keywords' values (names ks) -/
def FnKw (P : Program) (w : World) (K : PySem.W.Frag) (mg : Str → Option Value) (base : Heap) (CX : CXT) (k : Nat) (f : Addr) (ks : List Str) (sp : List V → List V → Hp → VK → XK → Prop) : Prop :=
  ∀ (A : Around) (outer : List Env) (s : Shared) (H : Hp) (us ws : List Value) (vs zs : List V) (Q : VK) (E : XK), Room k A → Env0 P w K mg base A outer s H → Vals vs us → Vals zs ws → zs.length = ks.length → sp vs zs H Q E →
    codeAny (model P w) A (.call (.ref f) ⟨us, ks.zip ws⟩) (CR CX outer P w H s Q E) s
def tMakeKw (C : Addr) (m : Nat) (sp : List V → List V → Hp → VK → XK → Prop) (E : XK) (t tk : TA) : TE := fun σ H Q => t σ H fun vs H1 => tk σ H1 fun zs H2 => zs.length = m ∧ ∀ x dx, H2 x = Option.none → H2 dx = Option.none → dx ≠ x →
  sp (V.ref x :: vs) zs (upd (upd H2 dx (.own x)) x (.ins C dx [])) (fun v H3 => v = .non ∧ Q (.ref x) H3) E
/-- C(e, .., k = v, ..) -/
theorem pe_makeKw {ks : List Str} {sp : List V → List V → Hp → VK → XK → Prop} (M : Mk X.K C f) (F : FnKw X.prog X.w X.K X.mg X.base CX k f ks sp) (hr : Room (k + 1) X.A) (hg : Gl X x) (hm : X.mg x = some (.ref C)) (hx : Passes CX X E) (ha : PA X (e :: es) t) (hkw : PK X kws tk)
    (hall : (backToKw pos (keywordEach kws X.env)).all (·.1.isSome) = true := by rfl) (hks : (backToKw pos (keywordEach kws X.env)).filterMap (·.1) = ks := by rfl) (hdb : (x == ("__debug__" : Str)) = false := by decide)
    (he : starEach (e :: es) X.env = (false, eval e X.env) :: starEach es X.env := by rfl) (hpl : ((backTo pos (starEach (e :: es) X.env)).any (·.1) || (backToKw pos (keywordEach kws X.env)).any (·.1.isNone)) = false := by rfl) :
    PE X (.Call (.Name x p) (e :: es) kws pos) (tMakeKw C ks.length sp E t tk) := by
  refine ⟨fun pins s σ H Q I h => ?_⟩
  refine wpAny_Call_Name_kw (ld_glob I hg hm ?_ hdb)
  refine PySem.W.callWith_KW (h₀ := X.base) I.ok.mod.kin M.kp hall (thn (ha.run pos pins s σ H _ I h) fun us s1 ⟨vs, H1, I1, r, q⟩ => ?_) hpl he
  refine thn (hkw.run pos pins s1 σ H1 _ I1 q) fun ws s2 ⟨zs, H2, I2, rz, l3, q2⟩ => ⟨I2.kIn, ?_⟩
  rw [hks]
  have hq := q2 (s2.heap.objs.size + 1) s2.heap.objs.size (I2.hok.fresh (Nat.le_succ _)) (I2.hok.fresh (Nat.le_refl _)) (Nat.ne_of_lt (Nat.lt_succ_self _))
  have I3 := Inv.made (C := C) I2
  have r2 : Vals (V.ref (s2.heap.objs.size + 1) :: vs) (Value.ref (s2.heap.objs.size + 1) :: us) := .cons rfl r
  refine wpAny_call (make_map (f := f) I2.kIn M.makes M.init (beq_iff_eq.mp M.fn) (codeAny_mono (F _ X.stack _ _ (Value.ref (s2.heap.objs.size + 1) :: us) ws _ zs _ E (hr.make C us (ks.zip ws)) (I3.env0.make C us (ks.zip ws)) r2 rz l3 hq) fun r s' hq' => ?_))
  cases r with
  | error e => exact hx pins σ _ _ e s' I3 hq'
  | ok fl =>
    cases fl with
    | ret u =>
      obtain ⟨v, H', I4, rv, ev, q3⟩ := I3.after hq'
      subst ev
      exact ⟨rv, ⟨V.ref (s2.heap.objs.size + 1), H', I4, rfl, q3⟩⟩
    | next => exact False.elim hq'
    | brk => exact False.elim hq'
    | cont => exact False.elim hq'
end
end InC
end

section
/-! The merge of rows: heads, free heads, what is left; a ring where it stops. Core Lean alone. -/
set_option linter.all false
namespace Mg
variable {α : Type} [DecidableEq α]
def heads (rows : List (List α)) : List α := rows.filterMap List.head?
def isFree (rows : List (List α)) (h : α) : Bool := rows.all fun r => decide (h ∉ r.tail)
def frees (rows : List (List α)) : List α := (heads rows).filter (isFree rows)
def drop (h : α) (rows : List (List α)) : List (List α) := rows.map fun r => r.filter fun x => decide (x ≠ h)
def pop (h : α) (rows : List (List α)) : List (List α) := rows.map fun r => if r.take 1 = [h] then r.tail else r
def full (rows : List (List α)) : List (List α) := rows.filter fun r => !r.isEmpty
/-- the merge with so many turns; none: it stops | the turns do not suffice -/
def merge : Nat → List (List α) → Option (List α)
  | 0, _ => none
  | k + 1, rows => if heads rows = [] then some [] else match frees rows with
    | [] => none
    | h :: _ => (merge k (drop h rows)).map (h :: ·)
/-- every row has no item twice -/
def Nd (rows : List (List α)) : Prop := ∀ r ∈ rows, r.Nodup
theorem heads_nil {rows : List (List α)} : heads rows = [] ↔ full rows = [] := by
  unfold heads full
  rw [List.filterMap_eq_nil_iff, List.filter_eq_nil_iff]
  constructor
  · intro h r hr
    have := h r hr
    cases r with
    | nil => simp
    | cons a t => simp at this
  · intro h r hr
    have := h r hr
    cases r with
    | nil => rfl
    | cons a t => simp at this
theorem heads_full (rows : List (List α)) : heads (full rows) = heads rows := by
  unfold heads full
  induction rows with
  | nil => rfl
  | cons r rows ih =>
    cases r with
    | nil =>
      rw [List.filterMap_cons_none (by rfl), List.filter_cons, if_neg (by simp)]
      exact ih
    | cons a t =>
      rw [List.filterMap_cons_some (b := a) (by rfl), List.filter_cons, if_pos (by simp), List.filterMap_cons_some (b := a) (by rfl), ih]
theorem isFree_full (rows : List (List α)) (h : α) : isFree (full rows) h = isFree rows h := by
  unfold isFree full
  induction rows with
  | nil => rfl
  | cons r rows ih =>
    cases r with
    | nil => simpa using ih
    | cons a t => simp only [List.filter_cons, List.isEmpty_cons, Bool.not_false, if_true, List.all_cons, ih]
theorem frees_full (rows : List (List α)) : frees (full rows) = frees rows := by
  unfold frees
  rw [heads_full]
  congr 1
  funext h
  exact isFree_full rows h
theorem full_drop (h : α) (rows : List (List α)) : full (drop h (full rows)) = full (drop h rows) := by
  unfold full drop
  induction rows with
  | nil => rfl
  | cons r rows ih =>
    cases r with
    | nil => simpa using ih
    | cons a t =>
      have e1 : ((a :: t) :: rows).filter (fun r => !r.isEmpty) = (a :: t) :: rows.filter (fun r => !r.isEmpty) := by rw [List.filter_cons, if_pos (by simp)]
      rw [e1, List.map_cons, List.map_cons]
      generalize (a :: t).filter (fun x => decide (x ≠ h)) = z
      rw [List.filter_cons, List.filter_cons, ih]
theorem nd_drop {rows : List (List α)} (h : Nd rows) (x : α) : Nd (drop x rows) := by
  intro r hr
  obtain ⟨r', hr', rfl⟩ := List.mem_map.mp hr
  exact (h r' hr').filter _
theorem nd_full {rows : List (List α)} (h : Nd rows) : Nd (full rows) := fun r hr => h r (List.mem_filter.mp hr).1
theorem mem_drop {x y : α} {rows : List (List α)} : (∃ r ∈ drop x rows, y ∈ r) ↔ (y ≠ x ∧ ∃ r ∈ rows, y ∈ r) := by
  unfold drop
  constructor
  · rintro ⟨r, hr, hy⟩
    obtain ⟨r', hr', rfl⟩ := List.mem_map.mp hr
    obtain ⟨h1, h2⟩ := List.mem_filter.mp hy
    exact ⟨of_decide_eq_true h2, r', hr', h1⟩
  · rintro ⟨hn, r, hr, hy⟩
    exact ⟨_, List.mem_map.mpr ⟨r, hr, rfl⟩, List.mem_filter.mpr ⟨hy, decide_eq_true hn⟩⟩
/-- a free head stands nowhere but at heads: taking it off the heads is taking it away -/
theorem pop_drop {rows : List (List α)} (nd : Nd rows) {h : α} (hf : isFree rows h = true) : pop h rows = drop h rows := by
  unfold pop drop
  apply List.map_congr_left
  intro r hr
  have h1 : h ∉ r.tail := of_decide_eq_true (List.all_eq_true.mp hf r hr)
  cases r with
  | nil => simp
  | cons a t =>
    have ht : t.filter (fun x => decide (x ≠ h)) = t := List.filter_eq_self.mpr fun x hx => decide_eq_true fun e => h1 (by rw [← e]; exact hx)
    by_cases e : a = h
    · subst e
      rw [if_pos (by simp), List.filter_cons, if_neg (by simp), ht]
      rfl
    · have e2 : ¬ (a :: t).take 1 = [h] := by
        intro q
        have q2 : a = h := by simpa using q
        exact e q2
      rw [if_neg e2, List.filter_cons, if_pos (decide_eq_true e), ht]
theorem mem_frees {rows : List (List α)} {h : α} : h ∈ frees rows ↔ h ∈ heads rows ∧ isFree rows h = true := by
  unfold frees
  exact List.mem_filter
theorem mem_heads {rows : List (List α)} {h : α} : h ∈ heads rows ↔ ∃ t, (h :: t) ∈ rows := by
  unfold heads
  rw [List.mem_filterMap]
  constructor
  · rintro ⟨r, hr, e⟩
    cases r with
    | nil => cases e
    | cons a t =>
      have e2 : a = h := Option.some.inj e
      subst e2
      exact ⟨t, hr⟩
  · rintro ⟨t, ht⟩
    exact ⟨_, ht, rfl⟩
/-! ### the turns suffice -/
/-- how many of the candidates occur -/
def cnt (cs : List α) (rows : List (List α)) : Nat := (cs.filter fun x => rows.any fun r => decide (x ∈ r)).length
def Within (cs : List α) (rows : List (List α)) : Prop := ∀ r ∈ rows, ∀ x ∈ r, x ∈ cs
theorem within_drop {cs : List α} {rows : List (List α)} (h : Within cs rows) (x : α) : Within cs (drop x rows) := by
  intro r hr y hy
  obtain ⟨r', hr', rfl⟩ := List.mem_map.mp hr
  exact h r' hr' y (List.mem_filter.mp hy).1
theorem any_iff {rows : List (List α)} {x : α} : (rows.any fun r => decide (x ∈ r)) = true ↔ ∃ r ∈ rows, x ∈ r := by
  rw [List.any_eq_true]
  constructor
  · rintro ⟨r, hr, h⟩
    exact ⟨r, hr, of_decide_eq_true h⟩
  · rintro ⟨r, hr, h⟩
    exact ⟨r, hr, decide_eq_true h⟩
theorem filter_lt {p q : α → Bool} {l : List α} {x : α} (hx : x ∈ l) (hp : p x = true) (hq : q x = false) (h : ∀ y, q y = true → p y = true) : (l.filter q).length < (l.filter p).length := by
  induction l with
  | nil => cases hx
  | cons a l ih =>
    have le : ∀ l : List α, (l.filter q).length ≤ (l.filter p).length := by
      intro l
      induction l with
      | nil => exact Nat.le_refl _
      | cons b l ih2 =>
        rw [List.filter_cons, List.filter_cons]
        by_cases hb : q b = true
        · rw [if_pos hb, if_pos (h b hb), List.length_cons, List.length_cons]
          omega
        · rw [if_neg hb]
          split
          · rw [List.length_cons]
            omega
          · exact ih2
    rw [List.filter_cons, List.filter_cons]
    by_cases ha : x = a
    · subst ha
      have h1 := le l
      rw [if_pos hp, hq]
      simp only [Bool.false_eq_true, if_false, List.length_cons]
      omega
    · have hx' : x ∈ l := by
        rcases List.mem_cons.mp hx with e | e
        · exact absurd e ha
        · exact e
      have h2 := ih hx'
      by_cases hb : q a = true
      · rw [if_pos hb, if_pos (h a hb), List.length_cons, List.length_cons]
        omega
      · rw [if_neg hb]
        split
        · rw [List.length_cons]
          omega
        · exact h2
theorem cnt_drop {cs : List α} {rows : List (List α)} {h : α} (hw : Within cs rows) (hh : h ∈ heads rows) : cnt cs (drop h rows) < cnt cs rows := by
  obtain ⟨t, ht⟩ := mem_heads.mp hh
  unfold cnt
  refine filter_lt (x := h) (hw _ ht h (List.mem_cons_self ..)) (any_iff.mpr ⟨_, ht, List.mem_cons_self ..⟩) ?_ fun y hy => ?_
  · cases q : (drop h rows).any fun r => decide (h ∈ r) with
    | false => rfl
    | true => exact absurd rfl (mem_drop.mp (any_iff.mp q)).1
  · exact any_iff.mpr (mem_drop.mp (any_iff.mp hy)).2
theorem frees_head {rows : List (List α)} {h : α} {t : List α} (e : frees rows = h :: t) : h ∈ heads rows ∧ isFree rows h = true := mem_frees.mp (by rw [e]; exact List.mem_cons_self ..)
/-- more turns change nothing -/
theorem merge_more {cs : List α} : ∀ (k j : Nat) (rows : List (List α)), Within cs rows → cnt cs rows < k → cnt cs rows < j → merge k rows = merge j rows
  | 0, _, _, _, h, _ => absurd h (Nat.not_lt_zero _)
  | _, 0, _, _, _, h => absurd h (Nat.not_lt_zero _)
  | k + 1, j + 1, rows, hw, h1, h2 => by
    unfold merge
    split
    · rfl
    · cases e : frees rows with
      | nil => rfl
      | cons h t =>
        have hl := cnt_drop hw (frees_head e).1
        simp only
        rw [merge_more k j (drop h rows) (within_drop hw h) (by omega) (by omega)]
theorem cnt_le (cs : List α) (rows : List (List α)) : cnt cs rows ≤ cs.length := List.length_filter_le _ _
/-- what the merge gives: no item twice, just the items of the rows, each one behind those ahead of it in a row -/
theorem merge_nodup : ∀ (k : Nat) (rows : List (List α)) (l : List α), merge k rows = some l → l.Nodup ∧ ∀ x, x ∈ l ↔ ∃ r ∈ rows, x ∈ r
  | 0, _, _, h => by cases h
  | k + 1, rows, l, h => by
    unfold merge at h
    split at h
    · rename_i hn
      cases h
      refine ⟨List.nodup_nil, fun x => ⟨(fun q => by cases q), ?_⟩⟩
      rintro ⟨r, hr, hx⟩
      have hf := heads_nil.mp hn
      have : r ∈ full rows := List.mem_filter.mpr ⟨hr, by cases r with | nil => cases hx | cons a t => rfl⟩
      rw [hf] at this
      cases this
    · cases e : frees rows with
      | nil =>
        rw [e] at h
        cases h
      | cons a t =>
        rw [e] at h
        simp only at h
        cases q : merge k (drop a rows) with
        | none =>
          rw [q] at h
          cases h
        | some l' =>
          rw [q] at h
          have el : a :: l' = l := Option.some.inj h
          subst el
          obtain ⟨n1, n2⟩ := merge_nodup k _ _ q
          obtain ⟨hh, _⟩ := frees_head e
          obtain ⟨t', ht'⟩ := mem_heads.mp hh
          refine ⟨List.nodup_cons.mpr ⟨fun hm => absurd rfl (mem_drop.mp ((n2 a).mp hm)).1, n1⟩, fun x => ?_⟩
          rw [List.mem_cons, n2 x, mem_drop]
          constructor
          · rintro (rfl | ⟨_, hx⟩)
            · exact ⟨_, ht', List.mem_cons_self ..⟩
            · exact hx
          · intro hx
            by_cases hxa : x = a
            · exact .inl hxa
            · exact .inr ⟨hxa, hx⟩
/-! ### names in the place of numbers -/
section
variable {β : Type} [DecidableEq β] {f : α → β}
def mapR (f : α → β) (rows : List (List α)) : List (List β) := rows.map (List.map f)
theorem heads_map (rows : List (List α)) : heads (mapR f rows) = (heads rows).map f := by
  unfold heads mapR
  induction rows with
  | nil => rfl
  | cons r rows ih =>
    cases r with
    | nil =>
      rw [List.map_cons, List.filterMap_cons_none (by rfl), List.filterMap_cons_none (by rfl)]
      exact ih
    | cons a t =>
      rw [List.map_cons, List.filterMap_cons_some (b := f a) (by rfl), List.filterMap_cons_some (b := a) (by rfl), List.map_cons, ih]
theorem mem_inj {cs : List α} (hi : ∀ x ∈ cs, ∀ y ∈ cs, f x = f y → x = y) {x : α} (hx : x ∈ cs) {r : List α} (hr : ∀ y ∈ r, y ∈ cs) : f x ∈ r.map f ↔ x ∈ r := by
  constructor
  · intro h
    obtain ⟨y, hy, e⟩ := List.mem_map.mp h
    rw [hi x hx y (hr y hy) e.symm]
    exact hy
  · exact fun h => List.mem_map.mpr ⟨x, h, rfl⟩
theorem isFree_map {cs : List α} (hi : ∀ x ∈ cs, ∀ y ∈ cs, f x = f y → x = y) {rows : List (List α)} (hw : Within cs rows) {h : α} (hh : h ∈ cs) : isFree (mapR f rows) (f h) = isFree rows h := by
  unfold isFree mapR
  rw [List.all_map]
  have : ∀ r ∈ rows, ((fun r : List β => decide (f h ∉ r.tail)) ∘ List.map f) r = decide (h ∉ r.tail) := by
    intro r hr
    show decide (f h ∉ (r.map f).tail) = _
    rw [← List.map_tail]
    have := mem_inj hi hh (r := r.tail) fun y hy => hw r hr y (List.mem_of_mem_tail hy)
    exact decide_eq_decide.mpr (not_congr this)
  rw [Bool.eq_iff_iff, List.all_eq_true, List.all_eq_true]
  constructor
  · intro h r hr
    rw [← this r hr]
    exact h r hr
  · intro h r hr
    rw [this r hr]
    exact h r hr
theorem frees_map {cs : List α} (hi : ∀ x ∈ cs, ∀ y ∈ cs, f x = f y → x = y) {rows : List (List α)} (hw : Within cs rows) : frees (mapR f rows) = (frees rows).map f := by
  unfold frees
  rw [heads_map, List.filter_map]
  congr 1
  apply List.filter_congr
  intro x hx
  obtain ⟨t, ht⟩ := mem_heads.mp hx
  exact isFree_map hi hw (hw _ ht x (List.mem_cons_self ..))
theorem drop_map {cs : List α} (hi : ∀ x ∈ cs, ∀ y ∈ cs, f x = f y → x = y) {rows : List (List α)} (hw : Within cs rows) {h : α} (hh : h ∈ cs) : drop (f h) (mapR f rows) = mapR f (drop h rows) := by
  unfold drop mapR
  rw [List.map_map, List.map_map]
  apply List.map_congr_left
  intro r hr
  show (r.map f).filter _ = (r.filter _).map f
  rw [List.filter_map]
  congr 1
  apply List.filter_congr
  intro x hx
  show decide (f x ≠ f h) = decide (x ≠ h)
  exact decide_eq_decide.mpr (not_congr ⟨fun e => hi x (hw r hr x hx) h hh e, fun e => by rw [e]⟩)
theorem merge_map {cs : List α} (hi : ∀ x ∈ cs, ∀ y ∈ cs, f x = f y → x = y) : ∀ (k : Nat) {rows : List (List α)}, Within cs rows → merge k (mapR f rows) = (merge k rows).map (List.map f)
  | 0, _, _ => rfl
  | k + 1, rows, hw => by
    unfold merge
    rw [heads_map, frees_map hi hw]
    by_cases e : heads rows = []
    · rw [if_pos e, if_pos (by rw [e]; rfl)]
      rfl
    · rw [if_neg e, if_neg (by simpa using e)]
      cases q : frees rows with
      | nil => rfl
      | cons a t =>
        obtain ⟨hh, _⟩ := frees_head q
        obtain ⟨t', ht'⟩ := mem_heads.mp hh
        have ha : a ∈ cs := hw _ ht' a (List.mem_cons_self ..)
        show (merge k (drop (f a) (mapR f rows))).map (f a :: ·) = ((merge k (drop a rows)).map (a :: ·)).map (List.map f)
        rw [drop_map hi hw ha, merge_map hi k (within_drop hw a)]
        cases merge k (drop a rows) <;> rfl
end
/-! ### one row above: no ring -/
theorem merge_one : ∀ (l : List α) (k : Nat), l.Nodup → l.length < k → merge k [l] = some l
  | [], 0, _, h => absurd h (Nat.not_lt_zero _)
  | [], k + 1, _, _ => by
    unfold merge
    rw [if_pos (show heads [[]] = ([] : List α) from rfl)]
  | a :: l, 0, _, h => absurd h (Nat.not_lt_zero _)
  | a :: l, k + 1, nd, h => by
    obtain ⟨n1, n2⟩ := List.nodup_cons.mp nd
    unfold merge
    have e1 : heads [a :: l] = [a] := rfl
    have e2 : isFree [a :: l] a = true := by
      show (decide (a ∉ l) && true) = true
      rw [decide_eq_true n1]
      rfl
    have e3 : frees [a :: l] = [a] := by
      unfold frees
      rw [e1, List.filter_cons, if_pos e2]
      rfl
    rw [e1, if_neg (by simp), e3]
    have e4 : drop a [a :: l] = [l] := by
      show [(a :: l).filter _] = [l]
      rw [List.filter_cons, if_neg (by simp)]
      congr 1
      exact List.filter_eq_self.mpr fun x hx => decide_eq_true fun e => n1 (by rw [← e]; exact hx)
    show (merge k (drop a [a :: l])).map (a :: ·) = some (a :: l)
    rw [e4, merge_one l k n2 (by rw [List.length_cons] at h; omega)]
    rfl
/-- a line and the one kind that it is of -/
theorem merge_top (a : α) (l : List α) (k : Nat) (nd : (a :: l).Nodup) (h : (a :: l).length < k) : merge k [a :: l, [a]] = some (a :: l) := by
  obtain ⟨n1, n2⟩ := List.nodup_cons.mp nd
  cases k with
  | zero => exact absurd h (Nat.not_lt_zero _)
  | succ k =>
    unfold merge
    have e1 : heads [a :: l, [a]] = [a, a] := rfl
    have e2 : isFree [a :: l, [a]] a = true := by
      show (decide (a ∉ l) && (decide (a ∉ ([] : List α)) && true)) = true
      rw [decide_eq_true n1, decide_eq_true (by simp)]
      rfl
    have e3 : frees [a :: l, [a]] = [a, a] := by
      unfold frees
      rw [e1, List.filter_cons, if_pos e2, List.filter_cons, if_pos e2]
      rfl
    rw [e1, if_neg (by simp), e3]
    have e4 : drop a [a :: l, [a]] = [l, []] := by
      show [(a :: l).filter _, [a].filter _] = [l, []]
      have q1 : (a :: l).filter (fun x => decide (x ≠ a)) = l := by
        rw [List.filter_cons, if_neg (by simp)]
        exact List.filter_eq_self.mpr fun x hx => decide_eq_true fun e => n1 (by rw [← e]; exact hx)
      have q2 : [a].filter (fun x => decide (x ≠ a)) = [] := by
        rw [List.filter_cons, if_neg (by simp)]
        rfl
      rw [q1, q2]
    show (merge k (drop a [a :: l, [a]])).map (a :: ·) = some (a :: l)
    have e5 : ∀ (k : Nat) (l : List α), merge k [l, []] = merge k [l] := by
      intro k
      induction k with
      | zero => intro l; rfl
      | succ k ih =>
        intro l
        unfold merge
        have f1 : full [l, []] = full [l] := by
          unfold full
          cases l <;> rfl
        have h1 : heads [l, []] = heads [l] := by rw [← heads_full [l, []], f1, heads_full]
        have h2 : frees [l, []] = frees [l] := by rw [← frees_full [l, []], f1, frees_full]
        rw [h1, h2]
        have h3 : ∀ x, merge k (drop x [l, []]) = merge k (drop x [l]) := fun x => ih (l.filter _)
        simp only [h3]
    rw [e4, e5, merge_one l k n2 (by rw [List.length_cons] at h; omega)]
    rfl
/-! ### rings -/
/-- x stands before y in some row -/
def Before (rows : List (List α)) (x y : α) : Prop := ∃ r ∈ rows, x ∈ r ∧ y ∈ r ∧ r.idxOf x < r.idxOf y
/-- each one stands before the next one, the last one before the first one -/
structure Ring (rows : List (List α)) (ring : List α) : Prop where
  two : 2 ≤ ring.length
  nxt : ∀ (i : Nat) (x y : α), ring[i]? = some x → ring[i + 1]? = some y → Before rows x y
  lst : ∀ (x y : α), ring[ring.length - 1]? = some x → ring[0]? = some y → Before rows x y
theorem idx_ne {a x : α} (h : ¬ a = x) (l : List α) : (a :: l).idxOf x = l.idxOf x + 1 := by
  rw [List.idxOf_cons]
  have e : (a == x) = false := by simpa using h
  rw [e]
  rfl
theorem before_drop {rows : List (List α)} (nd : Nd rows) {h x y : α} (b : Before (drop h rows) x y) : Before rows x y := by
  obtain ⟨r, hr, hx, hy, hlt⟩ := b
  obtain ⟨r', hr', rfl⟩ := List.mem_map.mp hr
  have hx' := (List.mem_filter.mp hx).1
  have hy' := (List.mem_filter.mp hy).1
  have px := (List.mem_filter.mp hx).2
  have py := (List.mem_filter.mp hy).2
  refine ⟨r', hr', hx', hy', ?_⟩
  have hne : x ≠ y := fun e => by rw [e] at hlt; exact Nat.lt_irrefl _ hlt
  clear hr hr' nd
  induction r' with
  | nil => cases hx'
  | cons a t ih =>
    by_cases hax : a = x
    · subst hax
      rw [List.idxOf_cons_self, idx_ne hne]
      omega
    · by_cases hay : a = y
      · exfalso
        subst hay
        rw [List.filter_cons, if_pos py, List.idxOf_cons_self] at hlt
        exact Nat.not_lt_zero _ hlt
      · have hx2 : x ∈ t := by
          rcases List.mem_cons.mp hx' with e | e
          · exact absurd e.symm hax
          · exact e
        have hy2 : y ∈ t := by
          rcases List.mem_cons.mp hy' with e | e
          · exact absurd e.symm hay
          · exact e
        rw [idx_ne hax, idx_ne hay]
        have : t.idxOf x < t.idxOf y := by
          refine ih (List.mem_filter.mpr ⟨hx2, px⟩) (List.mem_filter.mpr ⟨hy2, py⟩) ?_ hx2 hy2
          rw [List.filter_cons] at hlt
          split at hlt
          · rw [idx_ne hax, idx_ne hay] at hlt
            omega
          · exact hlt
        omega
theorem before_full {rows : List (List α)} {x y : α} (b : Before (full rows) x y) : Before rows x y := by
  obtain ⟨r, hr, h⟩ := b
  exact ⟨r, (List.mem_filter.mp hr).1, h⟩
theorem Ring.imp {rows rows' : List (List α)} {ring : List α} (R : Ring rows ring) (h : ∀ x y, Before rows x y → Before rows' x y) : Ring rows' ring :=
  ⟨R.two, fun i x y a b => h _ _ (R.nxt i x y a b), fun x y a b => h _ _ (R.lst x y a b)⟩
/-- the head of a row stands before what stands behind it -/
theorem before_head {rows : List (List α)} {h x : α} {t : List α} (hr : (h :: t) ∈ rows) (hx : x ∈ h :: t) (hne : x ≠ h) : Before rows h x := by
  refine ⟨_, hr, List.mem_cons_self .., hx, ?_⟩
  rw [List.idxOf_cons_self, idx_ne (fun e => hne e.symm)]
  omega
/-- a path along «the head of the first row in which it stands behind the head»: from where it comes back, it is a ring the other way round -/
theorem ring_of {rows : List (List α)} {path : List α} {i : Nat} {h : α} (chain : ∀ (j : Nat) (x y : α), path[j]? = some x → path[j + 1]? = some y → Before rows y x) (hl : ∀ x, path[path.length - 1]? = some x → Before rows h x)
    (hi : path[i]? = some h) (hne : ∀ x, path[path.length - 1]? = some x → x ≠ h) : Ring rows (path.drop i).reverse := by
  have hlt : i < path.length := (List.getElem?_eq_some_iff.mp hi).1
  have hn : i ≠ path.length - 1 := fun e => by
    rw [e] at hi
    exact hne h hi rfl
  have hlen : (path.drop i).reverse.length = path.length - i := by simp
  have at_ : ∀ j, j < path.length - i → (path.drop i).reverse[j]? = path[path.length - 1 - j]? := fun j hj => by
    rw [List.getElem?_reverse (by simpa using hj), List.getElem?_drop, List.length_drop]
    congr 1
    omega
  refine ⟨by rw [hlen]; omega, fun j x y hx hy => ?_, fun x y hx hy => ?_⟩
  · have hj : j + 1 < path.length - i := by
      have := (List.getElem?_eq_some_iff.mp hy).1
      rw [hlen] at this
      exact this
    rw [at_ j (by omega)] at hx
    rw [at_ (j + 1) hj] at hy
    refine chain (path.length - 1 - (j + 1)) y x hy ?_
    rw [← hx]
    congr 1
    omega
  · rw [hlen, at_ (path.length - i - 1) (by omega)] at hx
    rw [at_ 0 (by omega)] at hy
    have e1 : path.length - 1 - (path.length - i - 1) = i := by omega
    rw [e1, hi] at hx
    cases hx
    exact hl y (by rw [← hy]; congr 1)
/-- where nothing is free, every head stands behind the head of another row -/
theorem stuck {rows : List (List α)} (nd : Nd rows) (h0 : frees rows = []) {h : α} (hh : h ∈ heads rows) : ∃ a t, (a :: t) ∈ rows ∧ h ∈ a :: t ∧ h ≠ a := by
  have hf : isFree rows h = false := by
    cases q : isFree rows h with
    | false => rfl
    | true =>
      have : h ∈ frees rows := mem_frees.mpr ⟨hh, q⟩
      rw [h0] at this
      cases this
  unfold isFree at hf
  rw [List.all_eq_false] at hf
  obtain ⟨r, hr, hd⟩ := hf
  have hm : h ∈ r.tail := by simpa using hd
  cases r with
  | nil => cases hm
  | cons a t =>
    refine ⟨a, t, hr, List.mem_cons_of_mem _ hm, fun e => ?_⟩
    rw [e] at hm
    exact (List.nodup_cons.mp (nd _ hr)).1 hm
end Mg
end

section
set_option Elab.async false
set_option linter.all false
set_option maxRecDepth 100000
set_option maxHeartbeats 4000000
namespace K50
open PySem PySem.Spec PyProof.Rows L2 He
/-! ### the text by places -/
def top (i : Nat) : Stmt := PySem.Challenge.pw_recordcraft_k50_whole_plain_values.main.body.getD i (.Pass ⟨0, 0, 0, 0⟩)
abbrev s_sort_of : Stmt := top 34
theorem sc_sort_of : FnScope [("value" : Str)] [("value" : Str)] (defScope s_sort_of) := ⟨rfl, rfl, rfl, by decide +kernel, rfl, by decide +kernel, by decide +kernel⟩
abbrev s__sort_of_others : Stmt := top 35
theorem sc__sort_of_others : FnScope [("value" : Str)] [("value" : Str)] (defScope s__sort_of_others) := ⟨rfl, rfl, rfl, by decide +kernel, rfl, by decide +kernel, by decide +kernel⟩
abbrev s_check_depth : Stmt := top 36
theorem sc_check_depth : FnScope [("value" : Str), ("parts" : Str), ("part" : Str)] [("value" : Str)] (defScope s_check_depth) := ⟨rfl, rfl, rfl, by decide +kernel, rfl, by decide +kernel, by decide +kernel⟩
abbrev s__check_levels : Stmt := top 37
theorem sc__check_levels : FnScope [("level" : Str), ("many" : Str), ("number" : Str), ("found" : Str), ("part" : Str), ("row" : Str)] [("level" : Str), ("many" : Str)] (defScope s__check_levels) := ⟨rfl, rfl, rfl, by decide +kernel, rfl, by decide +kernel, by decide +kernel⟩
abbrev s__check_first_parts : Stmt := top 38
theorem sc__check_first_parts : FnScope [("level" : Str), ("number" : Str), ("_" : Str)] [("level" : Str), ("number" : Str)] (defScope s__check_first_parts) := ⟨rfl, rfl, rfl, by decide +kernel, rfl, by decide +kernel, by decide +kernel⟩
abbrev s__parts_of : Stmt := top 39
theorem sc__parts_of : FnScope [("value" : Str)] [("value" : Str)] (defScope s__parts_of) := ⟨rfl, rfl, rfl, by decide +kernel, rfl, by decide +kernel, by decide +kernel⟩
abbrev s_is_equal : Stmt := top 46
theorem sc_is_equal : FnScope [("one" : Str), ("other" : Str), ("sort" : Str)] [("one" : Str), ("other" : Str)] (defScope s_is_equal) := ⟨rfl, rfl, rfl, by decide +kernel, rfl, by decide +kernel, by decide +kernel⟩
abbrev s__are_items_equal : Stmt := top 50
theorem sc__are_items_equal : FnScope [("one" : Str), ("other" : Str), ("first" : Str), ("second" : Str)] [("one" : Str), ("other" : Str)] (defScope s__are_items_equal) := ⟨rfl, rfl, rfl, by decide +kernel, rfl, by decide +kernel, by decide +kernel⟩
abbrev s__are_dicts_equal : Stmt := top 51
theorem sc__are_dicts_equal : FnScope [("one" : Str), ("other" : Str), ("key" : Str)] [("one" : Str), ("other" : Str)] (defScope s__are_dicts_equal) := ⟨rfl, rfl, rfl, by decide +kernel, rfl, by decide +kernel, by decide +kernel⟩
abbrev s_are_equal : Stmt := top 55
theorem sc_are_equal : FnScope [("one" : Str), ("other" : Str)] [("one" : Str), ("other" : Str)] (defScope s_are_equal) := ⟨rfl, rfl, rfl, by decide +kernel, rfl, by decide +kernel, by decide +kernel⟩
abbrev s_plain : Stmt := top 82
theorem sc_plain : FnScope [("value" : Str)] [("value" : Str)] (defScope s_plain) := ⟨rfl, rfl, rfl, by decide +kernel, rfl, by decide +kernel, by decide +kernel⟩
abbrev s__plain_of : Stmt := top 86
theorem sc__plain_of : FnScope [("value" : Str), ("sort" : Str), ("item" : Str), ("key" : Str), ("name" : Str), ("part" : Str)] [("value" : Str)] (defScope s__plain_of) := ⟨rfl, rfl, rfl, by decide +kernel, rfl, by decide +kernel, by decide +kernel⟩
abbrev s__by_names : Stmt := top 84
theorem sc__by_names : FnScope [("kinds" : Str), ("found" : Str), ("spot" : Str), ("kind" : Str)] [("kinds" : Str)] (defScope s__by_names) := ⟨rfl, rfl, rfl, by decide +kernel, rfl, by decide +kernel, by decide +kernel⟩
abbrev s__word_of : Stmt := top 85
theorem sc__word_of : FnScope [("data" : Str)] [("data" : Str)] (defScope s__word_of) := ⟨rfl, rfl, rfl, by decide +kernel, rfl, by decide +kernel, by decide +kernel⟩
abbrev s_Book_init : Stmt := inClass (top 83) 0
theorem sc_Book_init : FnScope [("self" : Str), ("kinds" : Str)] [("self" : Str), ("kinds" : Str)] (defScope s_Book_init) := ⟨rfl, rfl, rfl, by decide +kernel, rfl, by decide +kernel, by decide +kernel⟩
abbrev s_Book_read : Stmt := inClass (top 83) 2
theorem sc_Book_read : FnScope [("self" : Str), ("data" : Str)] [("self" : Str), ("data" : Str)] (defScope s_Book_read) := ⟨rfl, rfl, rfl, by decide +kernel, rfl, by decide +kernel, by decide +kernel⟩
abbrev s_Book__read_value : Stmt := inClass (top 83) 3
theorem sc_Book__read_value : FnScope [("self" : Str), ("data" : Str), ("path" : Str), ("word" : Str)] [("self" : Str), ("data" : Str), ("path" : Str)] (defScope s_Book__read_value) := ⟨rfl, rfl, rfl, by decide +kernel, rfl, by decide +kernel, by decide +kernel⟩
abbrev s_Book__read_items : Stmt := inClass (top 83) 4
theorem sc_Book__read_items : FnScope [("self" : Str), ("data" : Str), ("path" : Str), ("items" : Str), ("place" : Str), ("item" : Str)] [("self" : Str), ("data" : Str), ("path" : Str)] (defScope s_Book__read_items) := ⟨rfl, rfl, rfl, by decide +kernel, rfl, by decide +kernel, by decide +kernel⟩
abbrev s_Book__read_entries : Stmt := inClass (top 83) 5
theorem sc_Book__read_entries : FnScope [("self" : Str), ("data" : Str), ("start" : Str), ("names" : Str), ("path" : Str), ("values" : Str), ("place" : Str), ("entry" : Str), ("key" : Str)] [("self" : Str), ("data" : Str), ("start" : Str), ("names" : Str), ("path" : Str)] (defScope s_Book__read_entries) := ⟨rfl, rfl, rfl, by decide +kernel, rfl, by decide +kernel, by decide +kernel⟩
abbrev s__law_mixed : Stmt := top 88
theorem sc__law_mixed : FnScope [("cell" : Str), ("n" : Str), ("turned" : Str)] [("cell" : Str), ("n" : Str)] (defScope s__law_mixed) := ⟨rfl, rfl, rfl, by decide +kernel, rfl, by decide +kernel, by decide +kernel⟩
abbrev s__law_folded : Stmt := top 89
theorem sc__law_folded : FnScope [("script" : Str), ("n" : Str), ("found" : Str), ("cell" : Str)] [("script" : Str)] (defScope s__law_folded) := ⟨rfl, rfl, rfl, by decide +kernel, rfl, by decide +kernel, by decide +kernel⟩
abbrev s__law_draw : Stmt := top 90
theorem sc__law_draw : FnScope [("m" : Str), ("top" : Str), ("n" : Str), ("at" : Str), ("cell" : Str)] [("m" : Str), ("top" : Str)] (defScope s__law_draw) := ⟨rfl, rfl, rfl, by decide +kernel, rfl, by decide +kernel, by decide +kernel⟩
abbrev s__law_begun : Stmt := top 91
theorem sc__law_begun : FnScope [("script" : Str), ("m" : Str), ("cell" : Str)] [("script" : Str)] (defScope s__law_begun) := ⟨rfl, rfl, rfl, by decide +kernel, rfl, by decide +kernel, by decide +kernel⟩
abbrev s__law_scalar : Stmt := top 92
theorem sc__law_scalar : FnScope [("m" : Str), ("way" : Str)] [("m" : Str)] (defScope s__law_scalar) := ⟨rfl, rfl, rfl, by decide +kernel, rfl, by decide +kernel, by decide +kernel⟩
abbrev s__law_value : Stmt := top 93
theorem sc__law_value : FnScope [("m" : Str), ("deep" : Str), ("way" : Str), ("n" : Str), ("things" : Str), ("found" : Str), ("part" : Str)] [("m" : Str), ("deep" : Str)] (defScope s__law_value) := ⟨rfl, rfl, rfl, by decide +kernel, rfl, by decide +kernel, by decide +kernel⟩
abbrev s__law_sort : Stmt := top 94
theorem sc__law_sort : FnScope [("part" : Str)] [("part" : Str)] (defScope s__law_sort) := ⟨rfl, rfl, rfl, by decide +kernel, rfl, by decide +kernel, by decide +kernel⟩
abbrev s__law_same : Stmt := top 95
theorem sc__law_same : FnScope [("near" : Str), ("far" : Str), ("sort" : Str), ("key" : Str), ("n" : Str)] [("near" : Str), ("far" : Str)] (defScope s__law_same) := ⟨rfl, rfl, rfl, by decide +kernel, rfl, by decide +kernel, by decide +kernel⟩
abbrev s__law_data : Stmt := top 96
theorem sc__law_data : FnScope [("part" : Str), ("sort" : Str), ("thing" : Str), ("key" : Str)] [("part" : Str)] (defScope s__law_data) := ⟨rfl, rfl, rfl, by decide +kernel, rfl, by decide +kernel, by decide +kernel⟩
abbrev s__law_spoilt : Stmt := top 97
theorem sc__law_spoilt : FnScope [("data" : Str), ("part" : Str)] [("data" : Str)] (defScope s__law_spoilt) := ⟨rfl, rfl, rfl, by decide +kernel, rfl, by decide +kernel, by decide +kernel⟩
abbrev s__law_twice_right : Stmt := top 98
theorem sc__law_twice_right : FnScope [("same" : Str), ("told" : Str), ("due" : Str), ("back" : Str)] [] (defScope s__law_twice_right) := ⟨rfl, rfl, rfl, by decide +kernel, rfl, by decide +kernel, by decide +kernel⟩
abbrev s_law : Stmt := top 99
theorem sc_law : FnScope [("script" : Str), ("m" : Str), ("book" : Str), ("bout" : Str), ("thing" : Str), ("due" : Str), ("before" : Str), ("told" : Str), ("back" : Str)] [("script" : Str)] (defScope s_law) := ⟨rfl, rfl, rfl, by decide +kernel, rfl, by decide +kernel, by decide +kernel⟩
abbrev kB (K : PySem.W.Frag) : Addr := ga K "Book"
abbrev kFd (K : PySem.W.Frag) : Addr := ga K "Fielded"
def simpleSorts : List Str := ["none", "truth", "integer", "text"]
def fdTys : List String := ["NoneType", "bool", "int", "str", "list", "tuple", "dict"]
def fdB (K : PySem.W.Frag) : Bool := fdTys.all fun t => decide (PySem.W.kitOne K (.type t) (.ref (kFd K)) = some false)
theorem fdB_ok {K : PySem.W.Frag} (h : fdB K = true) : ∀ t, t ∈ fdTys → PySem.W.kitOne K (.type t) (.ref (kFd K)) = some false := fun t ht => of_decide_eq_true (List.all_eq_true.mp h t ht)

/-! ### what is asked of the head -/
def d_sort_of : He5.DefA := ⟨fun K => ga K "sort_of", "sort_of", "sort_of", defArgs s_sort_of, defBody s_sort_of, defScope s_sort_of, [], []⟩
def d__sort_of_others : He5.DefA := ⟨fun K => ga K "_sort_of_others", "_sort_of_others", "_sort_of_others", defArgs s__sort_of_others, defBody s__sort_of_others, defScope s__sort_of_others, [], []⟩
def d_check_depth : He5.DefA := ⟨fun K => ga K "check_depth", "check_depth", "check_depth", defArgs s_check_depth, defBody s_check_depth, defScope s_check_depth, [], []⟩
def d__check_levels : He5.DefA := ⟨fun K => ga K "_check_levels", "_check_levels", "_check_levels", defArgs s__check_levels, defBody s__check_levels, defScope s__check_levels, [], []⟩
def d__check_first_parts : He5.DefA := ⟨fun K => ga K "_check_first_parts", "_check_first_parts", "_check_first_parts", defArgs s__check_first_parts, defBody s__check_first_parts, defScope s__check_first_parts, [], []⟩
def d__parts_of : He5.DefA := ⟨fun K => ga K "_parts_of", "_parts_of", "_parts_of", defArgs s__parts_of, defBody s__parts_of, defScope s__parts_of, [], []⟩
def d_is_equal : He5.DefA := ⟨fun K => ga K "is_equal", "is_equal", "is_equal", defArgs s_is_equal, defBody s_is_equal, defScope s_is_equal, [], []⟩
def d__are_items_equal : He5.DefA := ⟨fun K => ga K "_are_items_equal", "_are_items_equal", "_are_items_equal", defArgs s__are_items_equal, defBody s__are_items_equal, defScope s__are_items_equal, [], []⟩
def d__are_dicts_equal : He5.DefA := ⟨fun K => ga K "_are_dicts_equal", "_are_dicts_equal", "_are_dicts_equal", defArgs s__are_dicts_equal, defBody s__are_dicts_equal, defScope s__are_dicts_equal, [], []⟩
def d_are_equal : He5.DefA := ⟨fun K => ga K "are_equal", "are_equal", "are_equal", defArgs s_are_equal, defBody s_are_equal, defScope s_are_equal, [], []⟩
def d_plain : He5.DefA := ⟨fun K => ga K "plain", "plain", "plain", defArgs s_plain, defBody s_plain, defScope s_plain, [], []⟩
def d__plain_of : He5.DefA := ⟨fun K => ga K "_plain_of", "_plain_of", "_plain_of", defArgs s__plain_of, defBody s__plain_of, defScope s__plain_of, [], []⟩
def d__by_names : He5.DefA := ⟨fun K => ga K "_by_names", "_by_names", "_by_names", defArgs s__by_names, defBody s__by_names, defScope s__by_names, [], []⟩
def d__word_of : He5.DefA := ⟨fun K => ga K "_word_of", "_word_of", "_word_of", defArgs s__word_of, defBody s__word_of, defScope s__word_of, [], []⟩
def d_Book_init : He5.DefA := ⟨fun K => ma K (ga K "Book") "__init__", "__init__", "Book.__init__", defArgs s_Book_init, defBody s_Book_init, defScope s_Book_init, [], []⟩
def d_Book_read : He5.DefA := ⟨fun K => ma K (ga K "Book") "read", "read", "Book.read", defArgs s_Book_read, defBody s_Book_read, defScope s_Book_read, [], []⟩
def d_Book__read_value : He5.DefA := ⟨fun K => ma K (ga K "Book") "_read_value", "_read_value", "Book._read_value", defArgs s_Book__read_value, defBody s_Book__read_value, defScope s_Book__read_value, [], []⟩
def d_Book__read_items : He5.DefA := ⟨fun K => ma K (ga K "Book") "_read_items", "_read_items", "Book._read_items", defArgs s_Book__read_items, defBody s_Book__read_items, defScope s_Book__read_items, [], []⟩
def d_Book__read_entries : He5.DefA := ⟨fun K => ma K (ga K "Book") "_read_entries", "_read_entries", "Book._read_entries", defArgs s_Book__read_entries, defBody s_Book__read_entries, defScope s_Book__read_entries, [], []⟩
def d__law_mixed : He5.DefA := ⟨fun K => ga K "_law_mixed", "_law_mixed", "_law_mixed", defArgs s__law_mixed, defBody s__law_mixed, defScope s__law_mixed, [], []⟩
def d__law_folded : He5.DefA := ⟨fun K => ga K "_law_folded", "_law_folded", "_law_folded", defArgs s__law_folded, defBody s__law_folded, defScope s__law_folded, [], []⟩
def d__law_draw : He5.DefA := ⟨fun K => ga K "_law_draw", "_law_draw", "_law_draw", defArgs s__law_draw, defBody s__law_draw, defScope s__law_draw, [], []⟩
def d__law_begun : He5.DefA := ⟨fun K => ga K "_law_begun", "_law_begun", "_law_begun", defArgs s__law_begun, defBody s__law_begun, defScope s__law_begun, [], []⟩
def d__law_scalar : He5.DefA := ⟨fun K => ga K "_law_scalar", "_law_scalar", "_law_scalar", defArgs s__law_scalar, defBody s__law_scalar, defScope s__law_scalar, [], []⟩
def d__law_value : He5.DefA := ⟨fun K => ga K "_law_value", "_law_value", "_law_value", defArgs s__law_value, defBody s__law_value, defScope s__law_value, [], []⟩
def d__law_sort : He5.DefA := ⟨fun K => ga K "_law_sort", "_law_sort", "_law_sort", defArgs s__law_sort, defBody s__law_sort, defScope s__law_sort, [], []⟩
def d__law_same : He5.DefA := ⟨fun K => ga K "_law_same", "_law_same", "_law_same", defArgs s__law_same, defBody s__law_same, defScope s__law_same, [], []⟩
def d__law_data : He5.DefA := ⟨fun K => ga K "_law_data", "_law_data", "_law_data", defArgs s__law_data, defBody s__law_data, defScope s__law_data, [], []⟩
def d__law_spoilt : He5.DefA := ⟨fun K => ga K "_law_spoilt", "_law_spoilt", "_law_spoilt", defArgs s__law_spoilt, defBody s__law_spoilt, defScope s__law_spoilt, [], []⟩
def d__law_twice_right : He5.DefA := ⟨fun K => ga K "_law_twice_right", "_law_twice_right", "_law_twice_right", defArgs s__law_twice_right, defBody s__law_twice_right, defScope s__law_twice_right, [], []⟩
def d_law : He5.DefA := ⟨fun K => ga K "law", "law", "law", defArgs s_law, defBody s_law, defScope s_law, [], []⟩
def fn0 : List He5.DefA := [d_sort_of, d__sort_of_others, d_check_depth, d__check_levels, d__check_first_parts, d__parts_of, d_is_equal, d__are_items_equal, d__are_dicts_equal, d_are_equal, d_plain, d__plain_of]
def fn1 : List He5.DefA := [d__by_names, d__word_of, d_Book_init, d_Book_read, d_Book__read_value, d_Book__read_items, d_Book__read_entries, d__law_mixed, d__law_folded, d__law_draw, d__law_begun, d__law_scalar]
def fn2 : List He5.DefA := [d__law_value, d__law_sort, d__law_same, d__law_data, d__law_spoilt, d__law_twice_right, d_law]
def fn : List He5.DefA := fn0 ++ fn1 ++ fn2
def fa0 : List Fa := [.glo "sort_of", .glo "_sort_of_others", .glo "check_depth", .glo "_check_levels", .glo "_check_first_parts", .glo "_parts_of", .glo "is_equal", .glo "_are_items_equal", .glo "_are_dicts_equal", .glo "are_equal", .glo "plain", .glo "_plain_of"]
def fa1 : List Fa := [.glo "_by_names", .glo "_word_of", .glo "_law_mixed", .glo "_law_folded", .glo "_law_draw", .glo "_law_begun", .glo "_law_scalar", .glo "_law_value", .glo "_law_sort", .glo "_law_same", .glo "_law_data", .glo "_law_spoilt"]
def fa2 : List Fa := [.glo "_law_twice_right", .glo "law", .glo "Fielded", .glo "Book", .glo "Kind", .glo "SIMPLE_SORTS", .free "len", .free "isinstance", .free "tuple", .free "list", .free "range", .free "enumerate"]
def fa3 : List Fa := [.free "str", .free "min", .free "bool", .free "repr", .free "int", .free "type", .free "zip", .free "dict", .int "MAX_VALUES" 5000, .int "MAX_LEVELS" 50, .int "WIDE" 50, .cls "Book"]
def fa4 : List Fa := [.noat "Book" "_kinds", .meth "Book" "read", .meth "Book" "_read_value", .meth "Book" "_read_items", .meth "Book" "_read_entries", .mkr "Book"]
def fa : List Fa := fa0 ++ fa1 ++ fa2 ++ fa3 ++ fa4
def x0 : PySem.W.Frag → Bool := fun K => tupB K "SIMPLE_SORTS" (simpleSorts.map He.Dv.str)
def x1 : PySem.W.Frag → Bool := fdB
def x2 : PySem.W.Frag → Bool := RpD.sysB
def exs : List (PySem.W.Frag → Bool) := [x0, x1, x2]
def tf : List HkQ.TabF := []
/-- what the walk knows of the program as the top left it -/
structure Txt (K : PySem.W.Frag) (mg : Str → Option Value) : Prop where
  g_sort_of : mg "sort_of" = some (.ref (ga K "sort_of"))
  g__sort_of_others : mg "_sort_of_others" = some (.ref (ga K "_sort_of_others"))
  g_check_depth : mg "check_depth" = some (.ref (ga K "check_depth"))
  g__check_levels : mg "_check_levels" = some (.ref (ga K "_check_levels"))
  g__check_first_parts : mg "_check_first_parts" = some (.ref (ga K "_check_first_parts"))
  g__parts_of : mg "_parts_of" = some (.ref (ga K "_parts_of"))
  g_is_equal : mg "is_equal" = some (.ref (ga K "is_equal"))
  g__are_items_equal : mg "_are_items_equal" = some (.ref (ga K "_are_items_equal"))
  g__are_dicts_equal : mg "_are_dicts_equal" = some (.ref (ga K "_are_dicts_equal"))
  g_are_equal : mg "are_equal" = some (.ref (ga K "are_equal"))
  g_plain : mg "plain" = some (.ref (ga K "plain"))
  g__plain_of : mg "_plain_of" = some (.ref (ga K "_plain_of"))
  g__by_names : mg "_by_names" = some (.ref (ga K "_by_names"))
  g__word_of : mg "_word_of" = some (.ref (ga K "_word_of"))
  g__law_mixed : mg "_law_mixed" = some (.ref (ga K "_law_mixed"))
  g__law_folded : mg "_law_folded" = some (.ref (ga K "_law_folded"))
  g__law_draw : mg "_law_draw" = some (.ref (ga K "_law_draw"))
  g__law_begun : mg "_law_begun" = some (.ref (ga K "_law_begun"))
  g__law_scalar : mg "_law_scalar" = some (.ref (ga K "_law_scalar"))
  g__law_value : mg "_law_value" = some (.ref (ga K "_law_value"))
  g__law_sort : mg "_law_sort" = some (.ref (ga K "_law_sort"))
  g__law_same : mg "_law_same" = some (.ref (ga K "_law_same"))
  g__law_data : mg "_law_data" = some (.ref (ga K "_law_data"))
  g__law_spoilt : mg "_law_spoilt" = some (.ref (ga K "_law_spoilt"))
  g__law_twice_right : mg "_law_twice_right" = some (.ref (ga K "_law_twice_right"))
  g_law : mg "law" = some (.ref (ga K "law"))
  g_Fielded : mg "Fielded" = some (.ref (ga K "Fielded"))
  g_Book : mg "Book" = some (.ref (ga K "Book"))
  g_Kind : mg "Kind" = some (.ref (ga K "Kind"))
  g_SIMPLE_SORTS : mg "SIMPLE_SORTS" = some (.ref (ga K "SIMPLE_SORTS"))
  n_len : mg "len" = none
  n_isinstance : mg "isinstance" = none
  n_tuple : mg "tuple" = none
  n_list : mg "list" = none
  n_range : mg "range" = none
  n_enumerate : mg "enumerate" = none
  n_str : mg "str" = none
  n_min : mg "min" = none
  n_bool : mg "bool" = none
  n_repr : mg "repr" = none
  n_int : mg "int" = none
  n_type : mg "type" = none
  n_zip : mg "zip" = none
  n_dict : mg "dict" = none
  i_MAX_VALUES : ∃ t, mg "MAX_VALUES" = some (.int 5000 t)
  i_MAX_LEVELS : ∃ t, mg "MAX_LEVELS" = some (.int 50 t)
  i_WIDE : ∃ t, mg "WIDE" = some (.int 50 t)
  cls : Cls K (kB K)
  a__kinds : NoAttr K (kB K) "_kinds"
  m_read : Meth K (kB K) "read" (ma K (kB K) "read")
  m__read_value : Meth K (kB K) "_read_value" (ma K (kB K) "_read_value")
  m__read_items : Meth K (kB K) "_read_items" (ma K (kB K) "_read_items")
  m__read_entries : Meth K (kB K) "_read_entries" (ma K (kB K) "_read_entries")
  bmk : Mk K (kB K) (ma K (kB K) "__init__")
  simpleSorts : ∀ H : Hp, SqT K H (ga K "SIMPLE_SORTS") (simpleSorts.map V.str)
  fd : ∀ t, t ∈ fdTys → PySem.W.kitOne K (.type t) (.ref (kFd K)) = some false
  sysd : RpD.SysD K
  F_sort_of : ∃ fd, Fun K "sort_of" "sort_of" s_sort_of (ga K "sort_of") fd
  F__sort_of_others : ∃ fd, Fun K "_sort_of_others" "_sort_of_others" s__sort_of_others (ga K "_sort_of_others") fd
  F_check_depth : ∃ fd, Fun K "check_depth" "check_depth" s_check_depth (ga K "check_depth") fd
  F__check_levels : ∃ fd, Fun K "_check_levels" "_check_levels" s__check_levels (ga K "_check_levels") fd
  F__check_first_parts : ∃ fd, Fun K "_check_first_parts" "_check_first_parts" s__check_first_parts (ga K "_check_first_parts") fd
  F__parts_of : ∃ fd, Fun K "_parts_of" "_parts_of" s__parts_of (ga K "_parts_of") fd
  F_is_equal : ∃ fd, Fun K "is_equal" "is_equal" s_is_equal (ga K "is_equal") fd
  F__are_items_equal : ∃ fd, Fun K "_are_items_equal" "_are_items_equal" s__are_items_equal (ga K "_are_items_equal") fd
  F__are_dicts_equal : ∃ fd, Fun K "_are_dicts_equal" "_are_dicts_equal" s__are_dicts_equal (ga K "_are_dicts_equal") fd
  F_are_equal : ∃ fd, Fun K "are_equal" "are_equal" s_are_equal (ga K "are_equal") fd
  F_plain : ∃ fd, Fun K "plain" "plain" s_plain (ga K "plain") fd
  F__plain_of : ∃ fd, Fun K "_plain_of" "_plain_of" s__plain_of (ga K "_plain_of") fd
  F__by_names : ∃ fd, Fun K "_by_names" "_by_names" s__by_names (ga K "_by_names") fd
  F__word_of : ∃ fd, Fun K "_word_of" "_word_of" s__word_of (ga K "_word_of") fd
  F_Book_init : ∃ fd, Fun K "__init__" "Book.__init__" s_Book_init (ma K (ga K "Book") "__init__") fd
  F_Book_read : ∃ fd, Fun K "read" "Book.read" s_Book_read (ma K (ga K "Book") "read") fd
  F_Book__read_value : ∃ fd, Fun K "_read_value" "Book._read_value" s_Book__read_value (ma K (ga K "Book") "_read_value") fd
  F_Book__read_items : ∃ fd, Fun K "_read_items" "Book._read_items" s_Book__read_items (ma K (ga K "Book") "_read_items") fd
  F_Book__read_entries : ∃ fd, Fun K "_read_entries" "Book._read_entries" s_Book__read_entries (ma K (ga K "Book") "_read_entries") fd
  F__law_mixed : ∃ fd, Fun K "_law_mixed" "_law_mixed" s__law_mixed (ga K "_law_mixed") fd
  F__law_folded : ∃ fd, Fun K "_law_folded" "_law_folded" s__law_folded (ga K "_law_folded") fd
  F__law_draw : ∃ fd, Fun K "_law_draw" "_law_draw" s__law_draw (ga K "_law_draw") fd
  F__law_begun : ∃ fd, Fun K "_law_begun" "_law_begun" s__law_begun (ga K "_law_begun") fd
  F__law_scalar : ∃ fd, Fun K "_law_scalar" "_law_scalar" s__law_scalar (ga K "_law_scalar") fd
  F__law_value : ∃ fd, Fun K "_law_value" "_law_value" s__law_value (ga K "_law_value") fd
  F__law_sort : ∃ fd, Fun K "_law_sort" "_law_sort" s__law_sort (ga K "_law_sort") fd
  F__law_same : ∃ fd, Fun K "_law_same" "_law_same" s__law_same (ga K "_law_same") fd
  F__law_data : ∃ fd, Fun K "_law_data" "_law_data" s__law_data (ga K "_law_data") fd
  F__law_spoilt : ∃ fd, Fun K "_law_spoilt" "_law_spoilt" s__law_spoilt (ga K "_law_spoilt") fd
  F__law_twice_right : ∃ fd, Fun K "_law_twice_right" "_law_twice_right" s__law_twice_right (ga K "_law_twice_right") fd
  F_law : ∃ fd, Fun K "law" "law" s_law (ga K "law") fd
theorem txt_of {K : PySem.W.Frag} {mg : Str → Option Value} {h h0 : Heap} (X : K.In h) (G : h.Ns mainGlobals mg) (c : HkQ.SaysQ fa fn tf exs h0 K) : Txt K mg := by
  refine {
    g_sort_of := glo_ok X G (c.a.fact 0 (f := .glo "sort_of") rfl)
    g__sort_of_others := glo_ok X G (c.a.fact 1 (f := .glo "_sort_of_others") rfl)
    g_check_depth := glo_ok X G (c.a.fact 2 (f := .glo "check_depth") rfl)
    g__check_levels := glo_ok X G (c.a.fact 3 (f := .glo "_check_levels") rfl)
    g__check_first_parts := glo_ok X G (c.a.fact 4 (f := .glo "_check_first_parts") rfl)
    g__parts_of := glo_ok X G (c.a.fact 5 (f := .glo "_parts_of") rfl)
    g_is_equal := glo_ok X G (c.a.fact 6 (f := .glo "is_equal") rfl)
    g__are_items_equal := glo_ok X G (c.a.fact 7 (f := .glo "_are_items_equal") rfl)
    g__are_dicts_equal := glo_ok X G (c.a.fact 8 (f := .glo "_are_dicts_equal") rfl)
    g_are_equal := glo_ok X G (c.a.fact 9 (f := .glo "are_equal") rfl)
    g_plain := glo_ok X G (c.a.fact 10 (f := .glo "plain") rfl)
    g__plain_of := glo_ok X G (c.a.fact 11 (f := .glo "_plain_of") rfl)
    g__by_names := glo_ok X G (c.a.fact 12 (f := .glo "_by_names") rfl)
    g__word_of := glo_ok X G (c.a.fact 13 (f := .glo "_word_of") rfl)
    g__law_mixed := glo_ok X G (c.a.fact 14 (f := .glo "_law_mixed") rfl)
    g__law_folded := glo_ok X G (c.a.fact 15 (f := .glo "_law_folded") rfl)
    g__law_draw := glo_ok X G (c.a.fact 16 (f := .glo "_law_draw") rfl)
    g__law_begun := glo_ok X G (c.a.fact 17 (f := .glo "_law_begun") rfl)
    g__law_scalar := glo_ok X G (c.a.fact 18 (f := .glo "_law_scalar") rfl)
    g__law_value := glo_ok X G (c.a.fact 19 (f := .glo "_law_value") rfl)
    g__law_sort := glo_ok X G (c.a.fact 20 (f := .glo "_law_sort") rfl)
    g__law_same := glo_ok X G (c.a.fact 21 (f := .glo "_law_same") rfl)
    g__law_data := glo_ok X G (c.a.fact 22 (f := .glo "_law_data") rfl)
    g__law_spoilt := glo_ok X G (c.a.fact 23 (f := .glo "_law_spoilt") rfl)
    g__law_twice_right := glo_ok X G (c.a.fact 24 (f := .glo "_law_twice_right") rfl)
    g_law := glo_ok X G (c.a.fact 25 (f := .glo "law") rfl)
    g_Fielded := glo_ok X G (c.a.fact 26 (f := .glo "Fielded") rfl)
    g_Book := glo_ok X G (c.a.fact 27 (f := .glo "Book") rfl)
    g_Kind := glo_ok X G (c.a.fact 28 (f := .glo "Kind") rfl)
    g_SIMPLE_SORTS := glo_ok X G (c.a.fact 29 (f := .glo "SIMPLE_SORTS") rfl)
    n_len := free_ok X G (c.a.fact 30 (f := .free "len") rfl)
    n_isinstance := free_ok X G (c.a.fact 31 (f := .free "isinstance") rfl)
    n_tuple := free_ok X G (c.a.fact 32 (f := .free "tuple") rfl)
    n_list := free_ok X G (c.a.fact 33 (f := .free "list") rfl)
    n_range := free_ok X G (c.a.fact 34 (f := .free "range") rfl)
    n_enumerate := free_ok X G (c.a.fact 35 (f := .free "enumerate") rfl)
    n_str := free_ok X G (c.a.fact 36 (f := .free "str") rfl)
    n_min := free_ok X G (c.a.fact 37 (f := .free "min") rfl)
    n_bool := free_ok X G (c.a.fact 38 (f := .free "bool") rfl)
    n_repr := free_ok X G (c.a.fact 39 (f := .free "repr") rfl)
    n_int := free_ok X G (c.a.fact 40 (f := .free "int") rfl)
    n_type := free_ok X G (c.a.fact 41 (f := .free "type") rfl)
    n_zip := free_ok X G (c.a.fact 42 (f := .free "zip") rfl)
    n_dict := free_ok X G (c.a.fact 43 (f := .free "dict") rfl)
    i_MAX_VALUES := int_ok X G (c.a.fact 44 (f := .int "MAX_VALUES" 5000) rfl)
    i_MAX_LEVELS := int_ok X G (c.a.fact 45 (f := .int "MAX_LEVELS" 50) rfl)
    i_WIDE := int_ok X G (c.a.fact 46 (f := .int "WIDE" 50) rfl)
    cls := cls_ok (c.a.fact 47 (f := .cls "Book") rfl)
    a__kinds := noat_ok (c.a.fact 48 (f := .noat "Book" "_kinds") rfl)
    m_read := meth_ok (c.a.fact 49 (f := .meth "Book" "read") rfl)
    m__read_value := meth_ok (c.a.fact 50 (f := .meth "Book" "_read_value") rfl)
    m__read_items := meth_ok (c.a.fact 51 (f := .meth "Book" "_read_items") rfl)
    m__read_entries := meth_ok (c.a.fact 52 (f := .meth "Book" "_read_entries") rfl)
    bmk := mkr_ok (c.a.fact 53 (f := .mkr "Book") rfl)
    simpleSorts := fun H => tupB_ok (x := "SIMPLE_SORTS") (vs := simpleSorts.map He.Dv.str) (c.ex 0 (f := x0) rfl) H
    fd := fdB_ok (c.ex 1 (f := x1) rfl)
    sysd := RpD.sysB_ok (c.ex 2 (f := x2) rfl)
    F_sort_of := (c.a.def_ 0 (d := d_sort_of) rfl).imp fun fd F => He5.fun_of F
    F__sort_of_others := (c.a.def_ 1 (d := d__sort_of_others) rfl).imp fun fd F => He5.fun_of F
    F_check_depth := (c.a.def_ 2 (d := d_check_depth) rfl).imp fun fd F => He5.fun_of F
    F__check_levels := (c.a.def_ 3 (d := d__check_levels) rfl).imp fun fd F => He5.fun_of F
    F__check_first_parts := (c.a.def_ 4 (d := d__check_first_parts) rfl).imp fun fd F => He5.fun_of F
    F__parts_of := (c.a.def_ 5 (d := d__parts_of) rfl).imp fun fd F => He5.fun_of F
    F_is_equal := (c.a.def_ 6 (d := d_is_equal) rfl).imp fun fd F => He5.fun_of F
    F__are_items_equal := (c.a.def_ 7 (d := d__are_items_equal) rfl).imp fun fd F => He5.fun_of F
    F__are_dicts_equal := (c.a.def_ 8 (d := d__are_dicts_equal) rfl).imp fun fd F => He5.fun_of F
    F_are_equal := (c.a.def_ 9 (d := d_are_equal) rfl).imp fun fd F => He5.fun_of F
    F_plain := (c.a.def_ 10 (d := d_plain) rfl).imp fun fd F => He5.fun_of F
    F__plain_of := (c.a.def_ 11 (d := d__plain_of) rfl).imp fun fd F => He5.fun_of F
    F__by_names := (c.a.def_ 12 (d := d__by_names) rfl).imp fun fd F => He5.fun_of F
    F__word_of := (c.a.def_ 13 (d := d__word_of) rfl).imp fun fd F => He5.fun_of F
    F_Book_init := (c.a.def_ 14 (d := d_Book_init) rfl).imp fun fd F => He5.fun_of F
    F_Book_read := (c.a.def_ 15 (d := d_Book_read) rfl).imp fun fd F => He5.fun_of F
    F_Book__read_value := (c.a.def_ 16 (d := d_Book__read_value) rfl).imp fun fd F => He5.fun_of F
    F_Book__read_items := (c.a.def_ 17 (d := d_Book__read_items) rfl).imp fun fd F => He5.fun_of F
    F_Book__read_entries := (c.a.def_ 18 (d := d_Book__read_entries) rfl).imp fun fd F => He5.fun_of F
    F__law_mixed := (c.a.def_ 19 (d := d__law_mixed) rfl).imp fun fd F => He5.fun_of F
    F__law_folded := (c.a.def_ 20 (d := d__law_folded) rfl).imp fun fd F => He5.fun_of F
    F__law_draw := (c.a.def_ 21 (d := d__law_draw) rfl).imp fun fd F => He5.fun_of F
    F__law_begun := (c.a.def_ 22 (d := d__law_begun) rfl).imp fun fd F => He5.fun_of F
    F__law_scalar := (c.a.def_ 23 (d := d__law_scalar) rfl).imp fun fd F => He5.fun_of F
    F__law_value := (c.a.def_ 24 (d := d__law_value) rfl).imp fun fd F => He5.fun_of F
    F__law_sort := (c.a.def_ 25 (d := d__law_sort) rfl).imp fun fd F => He5.fun_of F
    F__law_same := (c.a.def_ 26 (d := d__law_same) rfl).imp fun fd F => He5.fun_of F
    F__law_data := (c.a.def_ 27 (d := d__law_data) rfl).imp fun fd F => He5.fun_of F
    F__law_spoilt := (c.a.def_ 28 (d := d__law_spoilt) rfl).imp fun fd F => He5.fun_of F
    F__law_twice_right := (c.a.def_ 29 (d := d__law_twice_right) rfl).imp fun fd F => He5.fun_of F
    F_law := (c.a.def_ 30 (d := d_law) rfl).imp fun fd F => He5.fun_of F }
end K50
end

section
set_option Elab.async false
set_option linter.all false
set_option maxRecDepth 100000
set_option maxHeartbeats 0
namespace K50
open PySem PySem.Spec PyProof.Rows L2 He
abbrev R : PySem.W.OpenRow := PySem.W.OpenLaw.row PySem.Challenge.rw_recordcraft_k50_whole_plain_values
abbrev qv : Program := PySem.W.view R.prog [99]
def names0 : List PySem.Str := [("_wall" : PySem.Str), ("__name__" : PySem.Str), ("RecordcraftError" : PySem.Str), ("InvalidMember" : PySem.Str), ("InvalidKind" : PySem.Str), ("NoField" : PySem.Str), ("Unset" : PySem.Str), ("Frozen" : PySem.Str), ("NoShared" : PySem.Str), ("NotOrdered" : PySem.Str)]
def names1 : List PySem.Str := [("TooDeep" : PySem.Str), ("InvalidBook" : PySem.Str), ("NoKind" : PySem.Str), ("InvalidData" : PySem.Str), ("Lined" : PySem.Str), ("line_above" : PySem.Str), ("_rows_of" : PySem.Str), ("_free_head" : PySem.Str), ("_head_of_row_with" : PySem.Str), ("_without" : PySem.Str)]
def names2 : List PySem.Str := [("_ring_in" : PySem.Str), ("MAX_LENGTH" : PySem.Str), ("DIGITS" : PySem.Str), ("NAME_SIGNS" : PySem.Str), ("BARRED_WORDS" : PySem.Str), ("is_name" : PySem.Str), ("MAX_LEVELS" : PySem.Str), ("MAX_VALUES" : PySem.Str), ("WIDE" : PySem.Str), ("SIMPLE_SORTS" : PySem.Str)]
def names3 : List PySem.Str := [("Fielded" : PySem.Str), ("sort_of" : PySem.Str), ("_sort_of_others" : PySem.Str), ("check_depth" : PySem.Str), ("_check_levels" : PySem.Str), ("_check_first_parts" : PySem.Str), ("_parts_of" : PySem.Str), ("can_be_key" : PySem.Str), ("_can_all_be_keys" : PySem.Str), ("_can_record_be_key" : PySem.Str)]
def names4 : List PySem.Str := [("ORDERED_SORTS" : PySem.Str), ("is_equal" : PySem.Str), ("are_records_equal" : PySem.Str), ("order_of" : PySem.Str), ("order_of_records" : PySem.Str), ("_are_items_equal" : PySem.Str), ("_are_dicts_equal" : PySem.Str), ("_order_of_items" : PySem.Str), ("Record" : PySem.Str), ("are_equal" : PySem.Str)]
def names5 : List PySem.Str := [("is_keyable" : PySem.Str), ("_order_of_records" : PySem.Str), ("FIELD_OPTIONS" : PySem.Str), ("INIT_ONLY_OPTIONS" : PySem.Str), ("Member" : PySem.Str), ("Field" : PySem.Str), ("InitOnly" : PySem.Str), ("Hook" : PySem.Str), ("_check_option" : PySem.Str), ("_is_allowed" : PySem.Str)]
def names6 : List PySem.Str := [("KIND_OPTIONS" : PySem.Str), ("check_members" : PySem.Str), ("_name_of" : PySem.Str), ("check_options" : PySem.Str), ("check_above" : PySem.Str), ("check_mixture" : PySem.Str), ("check_frozen" : PySem.Str), ("declares_fields" : PySem.Str), ("check_defaults" : PySem.Str), ("whole_members" : PySem.Str)]
def names7 : List PySem.Str := [("is_only_named" : PySem.Str), ("Kind" : PySem.Str), ("plain" : PySem.Str), ("Book" : PySem.Str), ("_by_names" : PySem.Str), ("_word_of" : PySem.Str), ("_plain_of" : PySem.Str), ("_law_mixed" : PySem.Str), ("_law_folded" : PySem.Str), ("_law_draw" : PySem.Str)]
def names8 : List PySem.Str := [("_law_begun" : PySem.Str), ("_law_scalar" : PySem.Str), ("_law_value" : PySem.Str), ("_law_sort" : PySem.Str), ("_law_same" : PySem.Str), ("_law_data" : PySem.Str), ("_law_spoilt" : PySem.Str), ("_law_twice_right" : PySem.Str)]
def names : List PySem.Str := names0 ++ names1 ++ names2 ++ names3 ++ names4 ++ names5 ++ names6 ++ names7 ++ names8
def al0 : List Addr := [1, 3, 292, 304, 312, 313, 319, 320, 326, 327, 333, 334, 340, 341, 347, 348, 376, 377, 404, 405]
def al1 : List Addr := [411, 412, 621, 622, 1014, 1015, 1028, 1029, 1043, 1044, 1050, 1051, 1057, 1058, 1064, 1065, 1109, 1110, 1120, 1121]
def al2 : List Addr := [1127, 1128, 1132, 1133, 1139, 1140, 1144, 1145, 1151, 1152, 1156, 1157, 1163, 1164, 1168, 1169, 1175, 1176, 1180, 1181]
def al3 : List Addr := [1185, 1186, 1192, 1193, 1199, 1200, 1206, 1207]
def al : List Addr := al0 ++ al1 ++ al2 ++ al3
abbrev hk : PySem.W.Hook := HkQ.hookQ al fa fn tf exs
def ob (s : PySem.W.SharedT) : HkQ.AlQ := HkQ.obsQ al fa fn tf exs (HandSHeadRun.getT s)
theorem ob_eq (s : PySem.W.SharedT) : ob s = hk.obs s.abs := HkQ.obsQ_eq (HandSHeadRun.getT_eq s)
theorem run (w : World) : HandSHeadRun.RunEq R qv hk ob 20000 names w := by
  intro os
  kernel_rfl
end K50
end

section
set_option Elab.async false
set_option linter.all false
set_option maxRecDepth 100000
set_option maxHeartbeats 4000000
namespace K50
open PySem PySem.Spec PyProof.Rows L2 He Cn Evl
section
variable {P : Program} {w : World} {K : PySem.W.Frag} {mg : Str → Option Value} {base : Heap}
/-! ### the law's numbers -/
def spMixed : Sp := fun vs H Q _ => ∃ c n : Int, vs = [.int c, .int n] ∧ 0 ≤ n ∧ n < 1000000 ∧ ∀ r : Int, 0 ≤ r → r < 2147483647 → Q (.int r) H
theorem can_mixed (T : Txt K mg) : Can P w K mg base CX0 1 "_law_mixed" ["cell", "n"] spMixed := by
  refine can_of T.g__law_mixed T.F__law_mixed (fun fd F => ?_) (fun _ _ _ _ _ _ us hl => match us, hl with | [_, _], _ => rfl)
  refine F.ok sc__law_mixed (fun vs H Q E h => ?_) (fun cdv A outer s H vs Q E hr h => ?_)
  · obtain ⟨c, n, rfl, _⟩ := h
    rfl
  · obtain ⟨c, n, rfl, h0, h1, k⟩ := h
    refine ⟨_, pss_cons (ps_set (i := 2) sc__law_mixed.nd rfl (.inl rfl) (pe_op op_add (pe_op op_add (pe_op op_mod (pe_op op_mul (pe_op op_mul (pv 0) (pe_op op_add pe_int (pe_op op_mul pe_int (pv 1)))) pe_int) pe_int) (pe_op op_mul (pe_op op_mul pe_int (pv 1)) (pv 1))) (pe_op op_mul pe_int (pv 1))))
      (pss_one (ps_ret (pe_op op_fdiv (pe_op op_mod (pe_op op_mul (pv 2) pe_int) pe_int) pe_int))), ?_⟩
    have n64 : -(2 ^ 64) < n ∧ n < 2 ^ 64 := ⟨by omega, by omega⟩
    refine ⟨_, rfl, _, rfl, _, _, rfl, rfl, .inr n64, _, _, rfl, rfl, _, _, rfl, rfl, .inr ⟨by omega, by omega⟩, _, _, rfl, rfl, .inr ⟨by decide, by decide⟩, _, _, rfl, rfl, (by show (0 : Int) < 2147483647; decide),
      _, rfl, _, _, rfl, rfl, .inl ⟨by decide, by decide⟩, _, rfl, _, _, rfl, rfl, .inr n64, _, _, rfl, rfl, _, rfl, _, _, rfl, rfl, .inl ⟨by decide, by decide⟩, _, _, rfl, rfl, ?_⟩
    refine ⟨_, rfl, _, _, rfl, rfl, .inr ⟨by decide, by decide⟩, _, _, rfl, rfl, (by show (0 : Int) < 2147483629; decide), _, _, rfl, rfl, ⟨by decide, by decide⟩, ?_⟩
    exact k _ (by omega) (by omega)
/-- 64 numbers below 2147483647 -/
def FoldAt (H : Hp) (p : Addr) : Prop := ∃ xs : List Int, xs.length = 64 ∧ (∀ x, x ∈ xs → 0 ≤ x ∧ x < 2147483647) ∧ H p = some (.lst (xs.map V.int))
def spFolded (K : PySem.W.Frag) : Sp := fun vs H Q _ => ∃ (a : Addr) (ns : List Int), vs = [.ref a] ∧ SqL K H a (ns.map V.int) ∧ ns.length ≤ 63 ∧ ∀ p H', H p = none → Ex H H' → FoldAt H' p → Q (.ref p) H'
theorem fold_at {xs : List Int} (h : xs.length = 64) {j : Nat} (hj : j < 64) : ∃ x, xs[j]? = some x := ⟨xs[j]'(by omega), List.getElem?_eq_getElem (by omega)⟩
theorem map_at {xs : List Int} {j : Nat} {x : Int} (h : xs[j]? = some x) : (xs.map V.int)[j]? = some (V.int x) := by rw [List.getElem?_map, h] <;> rfl
theorem fold_set {xs : List Int} {j : Nat} {y : Int} (h : ∀ x, x ∈ xs → 0 ≤ x ∧ x < 2147483647) (hy : 0 ≤ y ∧ y < 2147483647) : ∀ x, x ∈ xs.set j y → 0 ≤ x ∧ x < 2147483647 := fun x hx => by
  rcases List.mem_or_eq_of_mem_set hx with q | q
  · exact h x q
  · rw [q]; exact hy
theorem can_folded (T : Txt K mg) : Can P w K mg base CX0 1 "_law_folded" ["script"] (spFolded K) := by
  refine can_of T.g__law_folded T.F__law_folded (fun fd F => ?_) (fun _ _ _ _ _ _ us hl => match us, hl with | [_], _ => rfl)
  refine F.ok sc__law_folded (fun vs H Q E h => ?_) (fun cdv A outer s H vs Q E hr h => ?_)
  · obtain ⟨c, n, rfl, _⟩ := h
    rfl
  · obtain ⟨a, ns, rfl, hS, hlen, k⟩ := h
    have nd := sc__law_folded.nd
    refine ⟨_, pss_cons (ps_setLc (i := 2) (own := [("n", 1)]) (g := gName 1) (tt := tYes) rfl nd rfl rfl (sw_true rfl rfl rfl (by decide +kernel)) (pi_range1 rfl T.n_range (pa_cons pe_int pa_nil)) (blkOk_by (N := ["script", "n", "found", "cell"]) (sc := defScope s__law_folded) (by decide +kernel)) (fun _ _ _ _ _ => pg_name (i := 1) nd rfl (.inl rfl)) (fun _ _ _ _ _ => pts_nil) (fun _ _ _ _ _ => pe_op op_add pe_int (pv 1)))
      (pss_cons (ps_for PassesOwn.never rfl (pi_enum (by rfl) T.n_enumerate (pa_cons (pv 0) pa_nil)) (pg_tup rfl (pgs_cons (pg_name (i := 1) nd rfl (.inl rfl)) (pgs_cons (pg_name (i := 3) nd rfl (.inl rfl)) pgs_nil)))
        (pss_one (ps_asg (pe_op op_mod (pe_op op_add (pe_op op_mul (pe_ix ix_list (pv 2) (pe_op op_mod (pv 1) pe_int) (fun _ _ => rfl)) pe_int) (pv 3)) pe_int) (pg_sub (pv 2) (pe_op op_mod (pv 1) pe_int) set_list))))
      (pss_cons (ps_for PassesOwn.never rfl (pi_range2 rfl T.n_range (pa_cons pe_int (pa_cons pe_int pa_nil))) (pg_name (i := 1) nd rfl (.inl rfl))
        (pss_one (ps_asg (pe_op op_mod (pe_op op_add (pe_ix ix_list (pv 2) (pv 1) (fun _ _ => rfl)) (pe_op op_mul (pe_ix ix_list (pv 2) (pe_op op_sub (pv 1) pe_int) (fun _ _ => rfl)) pe_int)) pe_int) (pg_sub (pv 2) (pv 1) set_list))))
      (pss_one (ps_ret (pv 2))))), ?_⟩
    refine q_asgL (el_lcR1 (n := 64) (fun _ => true) (fun i => .int (17 + (i : Int))) (ea_cons ev_c ea_nil) (by decide) (fun x => rfl) (fun i H1 _ _ => ?_) (fun i H1 _ _ _ => ev_op ev_c (ev_var rfl) rv_I0)) fun p H1 hp e1 h1 => ?_
    · exact fun H2 _ Q q => q H2 (Ex.refl H2)
    have f1 : FoldAt H1 p := ⟨(List.range 64).map (fun (i : Nat) => 17 + (i : Int)), by simp, fun x hx => by
      obtain ⟨i, hi, rfl⟩ := List.mem_map.mp hx
      have := List.mem_range.mp hi
      omega, by rw [h1, List.map_map] <;> rfl⟩
    have keep : ∀ {H2 : Hp} {xs : List Int} {j : Nat} {y : Int}, Ex H H2 → xs.length = 64 → (∀ x, x ∈ xs → 0 ≤ x ∧ x < 2147483647) → (0 ≤ y ∧ y < 2147483647) → Ex H (upd H2 p (.lst ((xs.map V.int).set j (.int y)))) ∧ FoldAt (upd H2 p (.lst ((xs.map V.int).set j (.int y)))) p := fun {H2 xs j y} e l b hy => by
      refine ⟨Ex.mut e hp, xs.set j y, by rw [List.length_set]; exact l, fold_set b hy, ?_⟩
      rw [upd_same, List.map_set]
    have ix : ∀ {H2 : Hp} {xs : List Int} {σ : L2.St} {j : Nat} {x : Int} {tb : TE}, H2 p = some (.lst (xs.map V.int)) → σ[2]? = some (some (.ref p)) → Ev tb σ H2 (.int (j : Int)) → xs[j]? = some x → Ev (tOp (rIxL K) (tVar 2) tb) σ H2 (.int x) := fun h hv ht hx =>
      ev_op (ev_var hv) ht (rv_ixL (sq_of h) (at_of rfl (map_at hx)))
    refine ⟨_, rfl, a, _, rfl, ex_l e1 hS, for_it walk_enum (fun i σ H2 => Ex H H2 ∧ FoldAt H2 p ∧ ∃ v1 v3, σ = [some (.ref a), v1, some (.ref p), v3]) ⟨e1, f1, _, _, rfl⟩ (fun i σ H2 _ q => ex_l q.1 hS) ?_ ?_⟩
    · rintro i x σ H2 H3 hi ⟨e2, ⟨xs, lx, bx, hx⟩, v1, v3, rfl⟩ ⟨T, y, z, rfl, hT, rfl, hy, hz⟩
      obtain rfl := Option.some.inj hy
      obtain ⟨c, hc, rfl⟩ : ∃ c, ns[i]? = some c ∧ V.int c = z := by
        have hz : (ns.map V.int)[i]? = some z := hz
        rw [List.getElem?_map] at hz
        cases e : ns[i]? with
        | none => rw [e] at hz; cases hz
        | some c => rw [e] at hz; exact ⟨c, rfl, Option.some.inj hz⟩
      have hi64 : i < 64 := by rw [List.length_map] at hi; omega
      obtain ⟨x0, hx0⟩ := fold_at lx hi64
      have bx0 := bx x0 (List.mem_of_getElem? hx0)
      have hp3 : upd H2 T (.tup [.int (i : Nat), .int c]) p = some (.lst (xs.map V.int)) := by rw [upd_ne (ne_of_none hx hT)]; exact hx
      have e3 : Ex H (upd H2 T (.tup [.int (i : Nat), .int c])) := e2.trans (Ex.new hT)
      have hm : ∀ {H4 : Hp}, Ev (tOp (rI (fun _ j => 0 < j) fun i j => .int (i % j)) (tVar 1) (tC (.int 64))) [some (.ref a), some (.int (i : Nat)), some (.ref p), some (.int c)] H4 (.int ((i : Nat) : Int)) := fun {H4} =>
        ev_is (ev_op (ev_var rfl) ev_c (rv_I (by show (0 : Int) < 64; decide))) (by show V.int ((i : Int) % 64) = _; rw [Int.emod_eq_of_lt (by omega) (by omega)])
      refine ⟨T, _, rfl, st_of upd_same, rfl, _, _, rfl, _, _, rfl, rfl, ?_⟩
      refine s_setL (xs := xs.map V.int) (j := i) (v := .int ((x0 * 48271 + c) % 2147483647)) hp3 (ev_op (ev_op (ev_op (ix hp3 rfl hm hx0) ev_c (rv_I (.inr ⟨by decide, by decide⟩))) (ev_var rfl) rv_I0) ev_c (rv_I (by show (0 : Int) < 2147483647; decide))) (ev_var rfl) hm (by rw [List.length_map]; omega) fun H4 e4 => ?_
      have e5 := keep (H2 := H4) (xs := xs) (j := i) (y := (x0 * 48271 + c) % 2147483647) (e3.trans e4) lx bx ⟨by omega, by omega⟩
      exact ⟨e5.1, e5.2, _, _, rfl⟩
    · rintro σ H2 ⟨e2, f2, v1, v3, rfl⟩
      refine q_forR2 (lo := 1) (n := 64) (ea_cons ev_c (ea_cons ev_c ea_nil)) (by decide) (fun i σ H3 => Ex H H3 ∧ FoldAt H3 p ∧ ∃ v1 v3, σ = [some (.ref a), v1, some (.ref p), v3]) (fun H3 e3 => ⟨e2.trans e3, ?_, _, _, rfl⟩) ?_ ?_
      · obtain ⟨xs, lx, bx, hx⟩ := f2
        exact ⟨xs, lx, bx, e3 _ _ hx⟩
      · rintro i σ H3 hi ⟨e3, ⟨xs, lx, bx, hx⟩, v1, v3, rfl⟩
        obtain ⟨x1, hx1⟩ := fold_at lx (j := i + 1) (by omega)
        obtain ⟨x0, hx0⟩ := fold_at lx (j := i) (by omega)
        have ei : (1 : Int) + (i : Int) = ((i + 1 : Nat) : Int) := by omega
        show tAsg _ _ _ [some (.ref a), some (.int ((1 : Int) + (i : Int))), some (.ref p), v3] H3
        rw [ei]
        refine s_setL (xs := xs.map V.int) (j := i + 1) (v := .int ((x1 + x0 * 16807) % 2147483647)) hx (ev_op (ev_op (ix hx rfl (ev_var rfl) hx1) (ev_op (ix hx rfl (ev_is (ev_op (ev_var rfl) ev_c rv_I0) (by show V.int (((i + 1 : Nat) : Int) - 1) = _; congr 1; omega)) hx0) ev_c (rv_I (.inr ⟨by decide, by decide⟩))) rv_I0) ev_c (rv_I (by show (0 : Int) < 2147483647; decide))) (ev_var rfl) (ev_var rfl) (by rw [List.length_map]; omega) fun H4 e4 => ?_
        have e5 := keep (H2 := H4) (xs := xs) (j := i + 1) (y := (x1 + x0 * 16807) % 2147483647) (e3.trans e4) lx bx ⟨by omega, by omega⟩
        exact ⟨e5.1, e5.2, _, _, rfl⟩
      · rintro σ H3 ⟨e3, f3, v1, v3, rfl⟩
        exact s_ret (ev_var rfl) fun H4 e4 => k p H4 hp (e3.trans e4) (by
          obtain ⟨xs, lx, bx, hx⟩ := f3
          exact ⟨xs, lx, bx, e4 _ _ hx⟩)
/-! ### the dict m of the law -/
theorem ev_dget {σ : L2.St} {H : Hp} {td ty : TE} {d : Addr} {k : L2.Key} {kvs : List (L2.Key × V)} {v : V} (ha : Ev td σ H (.ref d)) (hk : Ev ty σ H (kV k)) (hd : H d = some (.dK kvs)) (hv : valV kvs k = some v) : Ev (tDGet td ty) σ H v := fun H1 e Q q =>
  ha H1 e _ fun H2 e2 => hk H2 (e.trans e2) _ fun H3 e3 => ⟨d, v, rfl, by
    have := DGet.k (k := k) (((e.trans e2).trans e3) d _ hd)
    rw [hv] at this
    exact this, q H3 (e2.trans e3)⟩
theorem rv_eqE {H : Hp} {neg : Bool} {p q : Addr} {xs : List V} (hx : SqL K H p xs) (hy : SqL K H q []) : RV (rEqE K neg) (.ref p) (.ref q) H (.bl (if neg then !xs.isEmpty else xs.isEmpty)) := fun H1 e _ k =>
  ⟨p, q, xs, rfl, rfl, ex_l e hx, ex_l e hy, k H1 (Ex.refl H1)⟩
def mK (c g : Addr) (sp : Int) : List (L2.Key × V) := [(.inr "cells", .ref c), (.inr "great", .ref g), (.inr "spot", .int sp)]
structure MAt (H : Hp) (d c g : Addr) (sp : Int) : Prop where
  ob : H d = some (.dK (mK c g sp))
  cells : FoldAt H c
  great : ∃ ys : List Int, ys.length ≤ 63 ∧ H g = some (.lst (ys.map V.int))
  ne : c ≠ g
theorem mK_cells {c g : Addr} {sp : Int} : valV (mK c g sp) (.inr "cells") = some (.ref c) := valV_pos rfl
theorem mK_great {c g : Addr} {sp : Int} : valV (mK c g sp) (.inr "great") = some (.ref g) := (valV_neg (by show ¬ (Sum.inr ("cells" : Str) : L2.Key) = Sum.inr ("great" : Str); decide +kernel)).trans (valV_pos rfl)
theorem mK_spot {c g : Addr} {sp : Int} : valV (mK c g sp) (.inr "spot") = some (.int sp) := (valV_neg (by show ¬ (Sum.inr ("cells" : Str) : L2.Key) = Sum.inr ("spot" : Str); decide +kernel)).trans ((valV_neg (by show ¬ (Sum.inr ("great" : Str) : L2.Key) = Sum.inr ("spot" : Str); decide +kernel)).trans (valV_pos rfl))
theorem kne1 : ¬ (Sum.inr ("cells" : Str) : L2.Key) = Sum.inr ("spot" : Str) := by decide +kernel
theorem kne2 : ¬ (Sum.inr ("great" : Str) : L2.Key) = Sum.inr ("spot" : Str) := by decide +kernel
theorem kne3 : ¬ (Sum.inr ("cells" : Str) : L2.Key) = Sum.inr ("great" : Str) := by decide +kernel
theorem kne4 : ¬ (Sum.inr ("spot" : Str) : L2.Key) = Sum.inr ("great" : Str) := by decide +kernel
theorem mK_put {c g : Addr} {sp y : Int} : putK (mK c g sp) (.inr "spot") (.int y) = mK c g y := by
  unfold putK mK
  rw [if_pos (by simp)]
  simp only [List.map_cons, List.map_nil, kne1, kne2, if_false, if_true]
theorem mK_putG {c g g' : Addr} {sp : Int} : putK (mK c g sp) (.inr "great") (.ref g') = mK c g' sp := by
  unfold putK mK
  rw [if_pos (by simp)]
  simp only [List.map_cons, List.map_nil, kne3, kne4, if_false, if_true]
theorem mK_merge {c g : Addr} {sp : Int} : mergeK [] (mK c g sp) = mK c g sp := by
  have s1 : ¬ ("cells" : Str) = "great" := by decide +kernel
  have s2 : ¬ ("cells" : Str) = "spot" := by decide +kernel
  have s3 : ¬ ("great" : Str) = "spot" := by decide +kernel
  unfold mK mergeK
  simp [putK, s1, s2, s3]
/-- what evaluates to something of which P holds -/
def EvP (te : TE) (σ : L2.St) (H : Hp) (p : V → Prop) : Prop := ∀ H1, Ex H H1 → ∀ Q : VK, (∀ v H2, p v → Ex H1 H2 → Q v H2) → te σ H1 Q
def IsI (v : V) : Prop := ∃ i : Int, v = .int i
theorem ep_of {te : TE} {σ : L2.St} {H : Hp} {v : V} {p : V → Prop} (h : Ev te σ H v) (hp : p v) : EvP te σ H p := fun H1 e Q q => h H1 e Q fun H2 e2 => q v H2 hp e2
theorem ep_mixed {ta tb : TE} {σ : L2.St} {H : Hp} {n : Int} (ha : EvP ta σ H IsI) (hb : Ev tb σ H (.int n)) (h0 : 0 ≤ n) (h1 : n < 1000000) : EvP (tCall spMixed [] E0 (tCons ta (tCons tb tNil))) σ H IsI := fun H1 e Q q =>
  ha H1 e _ fun v H2 ⟨i, ei⟩ e2 => hb H2 (e.trans e2) _ fun H3 e3 => ⟨i, n, by rw [ei] <;> rfl, h0, h1, fun r _ _ => q (.int r) H3 ⟨r, rfl⟩ (e2.trans e3)⟩
def spDraw : Sp := fun vs H Q _ => ∃ (d c g : Addr) (sp top : Int), vs = [.ref d, .int top] ∧ MAt H d c g sp ∧ 0 ≤ sp ∧ sp < 500000 ∧ 0 < top ∧ top < 1000000 ∧
  ∀ (r : Int) (H' : Hp), 0 ≤ r → r < top → MAt H' d c g (sp + 1) → (∀ b o, H b = some o → b ≠ d → b ≠ g → H' b = some o) → Q (.int r) H'
theorem can_draw (T : Txt K mg) : Can P w K mg base CX0 2 "_law_draw" ["m", "top"] spDraw := by
  have CM : Can P w K mg base CX0 1 "_law_mixed" ["cell", "n"] spMixed := can_mixed T
  refine can_of T.g__law_draw T.F__law_draw (fun fd F => ?_) (fun _ _ _ _ _ _ us hl => match us, hl with | [_, _], _ => rfl)
  refine F.ok sc__law_draw (fun vs H Q E h => ?_) (fun cdv A outer s H vs Q E hr h => ?_)
  · obtain ⟨d, c, g, sp, top, rfl, _⟩ := h
    rfl
  · obtain ⟨d, c, g, sp, top, rfl, M, h0, h1, t0, t1, k⟩ := h
    have nd := sc__law_draw.nd
    have hu := hu_of hr
    refine ⟨_, pss_cons (ps_set (i := 2) nd rfl (.inl rfl) (pe_dget hu (pv 0) pe_str (fun _ _ => rfl)))
      (pss_cons (ps_dput hu (pv 0) pe_str (pe_op op_add (pv 2) pe_int) rfl)
      (pss_cons (ps_if (pt_cmpR (op_ne_nil hr) (pe_dget hu (pv 0) pe_str (fun _ _ => rfl)) (pe_lst pa_nil) (nomark _))
        (pss_cons (ps_set (i := 3) nd rfl (.inl rfl) (pe_op op_mod (pv 2) (pe_callB call_len_seq (by rfl) T.n_len PySem.boot_len (pa_cons (pe_dget hu (pv 0) pe_str (fun _ _ => rfl)) pa_nil))))
        (pss_cons (ps_set (i := 4) nd rfl (.inl rfl) (pe_ix ix_list (pe_dget hu (pv 0) pe_str (fun _ _ => rfl)) (pv 3) (fun _ _ => rfl)))
        (pss_one (ps_if (pt_cmpR op_gt (pv 4) pe_int (nomark _))
          (pss_cons (ps_asg (pe_op op_fdiv (pv 4) (pv 1)) (pg_sub (pe_dget hu (pv 0) pe_str (fun _ _ => rfl)) (pv 3) set_list))
          (pss_one (ps_ret (pe_op op_mod (pv 4) (pv 1))))) pss_nil)))) pss_nil)
      (pss_one (ps_ret (pe_op op_mod (pe_can CM hr pass0 (pa_cons (pe_can CM hr pass0 (pa_cons (pe_op op_add (pe_ix ix_list (pe_dget hu (pv 0) pe_str (fun _ _ => rfl)) (pe_op op_mod (pv 2) pe_int) (fun _ _ => rfl)) (pe_op op_mul pe_int (pe_op op_fdiv (pv 2) pe_int))) (pa_cons (pv 2) pa_nil))) (pa_cons (pe_op op_add (pv 2) pe_int) pa_nil))) (pv 1)))))), ?_⟩
    refine q_asg (ev_dget (k := .inr "spot") (ev_var rfl) ev_c M.ob mK_spot) fun H1 e1 => ?_
    have hd1 : H1 d = some (.dK (mK c g sp)) := e1 _ _ M.ob
    refine ⟨_, rfl, _, _, rfl, rfl, _, rfl, d, _, rfl, DPut.k (k := .inr "spot") hd1 (by show 3 < sizeLine; decide), ?_⟩
    rw [mK_put]
    have cg := M.ne
    obtain ⟨cs, lc, bc, hc⟩ := M.cells
    obtain ⟨ys, ly, hg⟩ := M.great
    have dc : c ≠ d := ne_of hc M.ob (by intro z; cases z)
    have dg : g ≠ d := ne_of hg M.ob (by intro z; cases z)
    generalize hH2 : upd H1 d (.dK (mK c g (sp + 1))) = H2
    have hd2 : H2 d = some (.dK (mK c g (sp + 1))) := by rw [← hH2, upd_same]
    have hc2 : H2 c = some (.lst (cs.map V.int)) := by rw [← hH2, upd_ne dc]; exact e1 _ _ hc
    have hg2 : H2 g = some (.lst (ys.map V.int)) := by rw [← hH2, upd_ne dg]; exact e1 _ _ hg
    have fr2 : ∀ b o, H b = some o → b ≠ d → H2 b = some o := fun b o e hb => by rw [← hH2, upd_ne hb]; exact e1 _ _ e
    have M2 : MAt H2 d c g (sp + 1) := ⟨hd2, ⟨cs, lc, bc, hc2⟩, ⟨ys, ly, hg2⟩, cg⟩
    have gg : ∀ {H3 : Hp} {σ : L2.St}, Ex H2 H3 → σ[0]? = some (some (.ref d)) → Ev (tDGet (tVar 0) (tC (.str "great"))) σ H3 (.ref g) := fun e hv => ev_dget (k := .inr "great") (ev_var hv) ev_c (e _ _ hd2) mK_great
    -- the end: drawn from the cells
    have last : ∀ (σ : L2.St) (H3 : Hp) (D : Ends), Ex H2 H3 → σ[0]? = some (some (.ref d)) → σ[1]? = some (some (.int top)) → σ[2]? = some (some (.int sp)) → D.rt = Q →
        tRet (tOp (rI (fun _ j => 0 < j) fun i j => .int (i % j)) (tCall spMixed [] E0 (tCons (tCall spMixed [] E0 (tCons (tOp (rI0 fun i j => .int (i + j)) (tOp (rIxL K) (tDGet (tVar 0) (tC (.str "cells"))) (tOp (rI (fun _ j => 0 < j) fun i j => .int (i % j)) (tVar 2) (tC (.int 64)))) (tOp (rI CMul fun i j => .int (i * j)) (tC (.int 31)) (tOp (rI CDiv fun i j => .int (i / j)) (tVar 2) (tC (.int 64))))) (tCons (tVar 2) tNil))) (tCons (tOp (rI0 fun i j => .int (i + j)) (tVar 2) (tC (.int 7))) tNil))) (tVar 1)) D σ H3 := fun σ H3 D e3 v0 v1 v2 eD => by
      obtain ⟨j, ej⟩ : ∃ j : Nat, sp % 64 = (j : Int) := ⟨(sp % 64).toNat, by omega⟩
      obtain ⟨x0, hx0⟩ := fold_at lc (j := j) (by omega)
      have hcell : Ev (tOp (rI0 fun i j => .int (i + j)) (tOp (rIxL K) (tDGet (tVar 0) (tC (.str "cells"))) (tOp (rI (fun _ j => 0 < j) fun i j => .int (i % j)) (tVar 2) (tC (.int 64)))) (tOp (rI CMul fun i j => .int (i * j)) (tC (.int 31)) (tOp (rI CDiv fun i j => .int (i / j)) (tVar 2) (tC (.int 64))))) σ H3 (.int (x0 + 31 * (sp / 64))) :=
        ev_op (ev_op (ev_dget (k := .inr "cells") (ev_var v0) ev_c (e3 _ _ hd2) mK_cells) (ev_op (ev_var v2) ev_c (rv_I (by show (0 : Int) < 64; decide))) (rv_ixL (sq_of (e3 _ _ hc2)) (at_of ej (map_at hx0)))) (ev_op ev_c (ev_op (ev_var v2) ev_c (rv_I ⟨by decide, by decide⟩)) (rv_I (.inl ⟨by decide, by decide⟩))) rv_I0
      refine ep_mixed (ep_mixed (ep_of hcell ⟨_, rfl⟩) (ev_var v2) h0 (by omega)) (ev_op (ev_var v2) ev_c rv_I0) (by omega) (by omega) H3 (Ex.refl H3) _ fun v H4 ⟨r2, er⟩ e4 => ?_
      refine ⟨_, v1, r2, top, er, rfl, t0, ?_⟩
      have e5 := e3.trans e4
      show D.rt _ _
      rw [eD]
      refine k _ _ (Int.emod_nonneg _ (by omega)) (Int.emod_lt_of_pos _ t0) ⟨e5 _ _ hd2, ⟨cs, lc, bc, e5 _ _ hc2⟩, ⟨ys, ly, e5 _ _ hg2⟩, cg⟩ fun b o e hb _ => e5 _ _ (fr2 b o e hb)
    refine q_if (et_test (ev_opL (gg (Ex.refl _) rfl) (el_lst ea_nil (by decide)) fun p H3 hp e3 => rv_eqE (sq_of (e3 _ _ hg2)) (sq_of hp))) (fun hb H3 e3 => ?_) (fun hb H3 e3 => last _ H3 _ e3 rfl rfl rfl rfl)
    have hpos : 0 < ys.length := by
      cases ys with
      | nil => cases hb
      | cons a r => exact Nat.succ_pos _
    obtain ⟨j, ej⟩ : ∃ j : Nat, sp % (ys.length : Int) = (j : Int) := ⟨(sp % (ys.length : Int)).toNat, by have := Int.emod_nonneg sp (b := (ys.length : Int)) (by omega); omega⟩
    have hj : j < ys.length := by
      have := Int.emod_lt_of_pos sp (b := (ys.length : Int)) (by omega)
      omega
    obtain ⟨x0, hx0⟩ : ∃ x, ys[j]? = some x := ⟨ys[j], List.getElem?_eq_getElem hj⟩
    refine q_asg (v := .int (j : Int)) ?_ fun H4 e4 => ?_
    · refine ev_is (ev_op (ev_var rfl) (ev_cb (z := .int (ys.length : Int)) (ea_cons (gg e3 rfl) ea_nil) ?_) (rv_I (by show (0 : Int) < _; omega))) (by show V.int (sp % (ys.length : Int)) = _; rw [ej])
      exact fun H5 e5 Q q => ⟨g, _, rfl, .inl (ex_l e5 (sq_of (e3 _ _ hg2))), by rw [List.length_map]; exact q H5 (Ex.refl H5)⟩
    have e24 := e3.trans e4
    refine q_asg (v := .int x0) (ev_op (gg e24 rfl) (ev_var rfl) (rv_ixL (sq_of (e24 _ _ hg2)) (at_of rfl (map_at hx0)))) fun H5 e5 => ?_
    have e25 := e24.trans e5
    refine s_if (et_test (ev_op (ev_var rfl) ev_c rv_I0)) (fun hb H6 e6 => ?_) (fun hb H6 e6 => ?_)
    · have e26 := e25.trans e6
      refine q_setL (xs := ys.map V.int) (j := j) (v := .int (x0 / top)) (e26 _ _ hg2) (ev_op (ev_var rfl) (ev_var rfl) (rv_I ⟨t0, by omega⟩)) (gg e26 rfl) (ev_var rfl) (by rw [List.length_map]; exact hj) fun H7 e7 => ?_
      have e27 := e26.trans e7
      refine s_ret (ev_op (ev_var rfl) (ev_var rfl) (rv_I t0)) fun H8 e8 => ?_
      refine k _ _ (Int.emod_nonneg _ (by omega)) (Int.emod_lt_of_pos _ t0) ⟨e8 _ _ (by rw [upd_ne (Ne.symm dg)]; exact e27 _ _ hd2), ⟨cs, lc, bc, e8 _ _ (by rw [upd_ne cg]; exact e27 _ _ hc2)⟩, ⟨ys.set j (x0 / top), by rw [List.length_set]; exact ly, e8 _ _ (by rw [upd_same, List.map_set])⟩, cg⟩ fun b o e hb hg => e8 _ _ (by rw [upd_ne hg]; exact e27 _ _ (fr2 b o e hb))
    · exact last _ H6 _ (e25.trans e6) rfl rfl rfl rfl
theorem q_dputL {σ : L2.St} {H : Hp} {te td ty : TE} {tz : TS} {D : Ends} {xs : List V} (h : EvL te σ H xs) (k : ∀ p H1, H p = none → Ex H H1 → H1 p = some (.lst xs) → td σ H1 fun x H2 => ty σ H2 fun y H3 => ∃ a H4, x = .ref a ∧ DPut H3 a y (.ref p) H4 ∧ tz D σ H4) :
    tSeq (sDPut td ty te) tz D σ H := h H (Ex.refl H) _ k
theorem given_all {n : Nat} {v : Nat → V} : given n (fun _ => true) v = (List.range n).map v := by
  unfold given
  rw [List.filter_eq_self.mpr fun _ _ => rfl]
def spBegun (K : PySem.W.Frag) : Sp := fun vs H Q _ => ∃ (a : Addr) (ns : List Int), vs = [.ref a] ∧ SqL K H a (ns.map V.int) ∧ ns.length ≤ 63 ∧
  ∀ (d c g : Addr) (H' : Hp), H d = none → H c = none → H g = none → Ex H H' → MAt H' d c g 0 → Q (.ref d) H'
theorem can_begun (T : Txt K mg) : Can P w K mg base CX0 2 "_law_begun" ["script"] (spBegun K) := by
  have CF : Can P w K mg base CX0 1 "_law_folded" ["script"] (spFolded K) := can_folded T
  refine can_of T.g__law_begun T.F__law_begun (fun fd F => ?_) (fun _ _ _ _ _ _ us hl => match us, hl with | [_], _ => rfl)
  refine F.ok sc__law_begun (fun vs H Q E h => ?_) (fun cdv A outer s H vs Q E hr h => ?_)
  · obtain ⟨a, ns, rfl, _⟩ := h
    rfl
  · obtain ⟨a, ns, rfl, hS, hlen, k⟩ := h
    have nd := sc__law_begun.nd
    have hu := hu_of hr
    refine ⟨_, pss_cons (ps_set (i := 1) nd rfl (.inl rfl) (pe_disp (pps_cons pe_str (pe_can CF hr pass0 (pa_cons (pv 0) pa_nil)) (pps_cons pe_str (pe_lst pa_nil) (pps_cons pe_str pe_int pps_nil))) (by rfl) (by rfl) (fun z => by cases z) (by decide)))
      (pss_cons (ps_dput hu (pv 1) pe_str (pe_lc (own := [("cell", 2)]) (g := gName 2) (tt := tYes) rfl nd (pi_list (pv 0)) (blkOk_by (N := ["script", "m", "cell"]) (sc := defScope s__law_begun) (by decide +kernel)) (fun _ _ _ _ _ => pg_name (i := 2) nd rfl (.inl rfl)) (fun _ _ _ _ _ => pts_nil)
        (fun _ _ _ _ _ => pe_ifExp (pt_cmpR op_ge (pv 2) (pe_op op_pow pe_int pe_int) (nomark _)) (pv 2) pe_int)) rfl)
      (pss_one (ps_ret (pv 1)))), ?_⟩
    intro d hd
    refine ⟨_, rfl, a, ns, rfl, ex_l (Ex.new hd) hS, hlen, fun c H1 hc e1 f1 => ?_⟩
    refine ⟨by decide, fun g hg => ?_⟩
    have hd1 : H1 d = some (.dK []) := e1 _ _ upd_same
    have e0 : Ex H H1 := (Ex.new hd).trans e1
    have dg : d ≠ g := ne_of_none hd1 hg
    refine ⟨by rw [upd_ne dg]; exact hd1, mK c g 0, rfl, (by show 3 ≤ 15; decide), ?_⟩
    rw [mK_merge]
    have cd : c ≠ d := fun q => by
      rw [q, upd_same] at hc
      cases hc
    have cH : H c = none := by
      rw [upd_ne cd] at hc
      exact hc
    obtain ⟨cs, lc, bc, hcs⟩ := f1
    have cg : c ≠ g := ne_of_none hcs hg
    generalize hH2 : upd (upd H1 g (.lst [])) d (.dK (mK c g 0)) = H2
    have e2 : Ex H H2 := by
      rw [← hH2]
      exact Ex.mut (e0.trans (Ex.new hg)) hd
    have hd2 : H2 d = some (.dK (mK c g 0)) := by rw [← hH2, upd_same]
    have hc2 : H2 c = some (.lst (cs.map V.int)) := by rw [← hH2, upd_ne cd, upd_ne cg]; exact hcs
    -- m['great'] = [..]
    refine q_dputL (el_lcL (xs := ns.map V.int) (fun _ => true) (fun i => .int (((ns.map fun c => if (10 ^ 18 : Int) ≤ c then c else 0)[i]?).getD 0)) (ev_var rfl) (ex_l e2 hS) (by rw [List.length_map]; omega) (fun x => ?_) (fun i x H3 _ _ => ?_) (fun i x H3 e3 hx _ => ?_)) fun g2 H3 hg2 e3 hq => ?_
    · rfl
    · exact fun H4 _ Q q => q H4 (Ex.refl H4)
    · obtain ⟨z, hz, rfl⟩ : ∃ z, ns[i]? = some z ∧ V.int z = x := by
        rw [List.getElem?_map] at hx
        cases e : ns[i]? with
        | none => rw [e] at hx; cases hx
        | some c => rw [e] at hx; exact ⟨c, rfl, Option.some.inj hx⟩
      have ez : ((ns.map fun c => if (10 ^ 18 : Int) ≤ c then c else 0)[i]?).getD 0 = if (10 ^ 18 : Int) ≤ z then z else 0 := by
        rw [List.getElem?_map, hz]
        rfl
      rw [ez]
      refine ev_if (b := decide ((10 : Int) ^ (18 : Int).toNat ≤ z)) (et_test (ev_op (ev_var rfl) (ev_op ev_c ev_c (rv_I ⟨by decide, by decide, by decide⟩)) rv_I0)) (fun hb => ?_) (fun hb => ?_)
      · have hb : (10 : Int) ^ 18 ≤ z := of_decide_eq_true hb
        rw [if_pos hb]
        exact ev_var rfl
      · have hb : ¬ (10 : Int) ^ 18 ≤ z := of_decide_eq_false hb
        rw [if_neg hb]
        exact ev_c
    rw [given_all] at hq
    refine ⟨_, rfl, d, _, rfl, DPut.k (k := .inr "great") (e3 _ _ hd2) (by show 3 < sizeLine; decide), ?_⟩
    rw [mK_putG]
    have gc2 : c ≠ g2 := ne_of_none hc2 hg2
    have gd2 : d ≠ g2 := ne_of_none hd2 hg2
    refine ⟨_, rfl, ?_⟩
    refine k d c g2 _ hd cH (fresh_back e2 hg2) (Ex.mut (e2.trans e3) hd) ⟨upd_same, ⟨cs, lc, bc, by rw [upd_ne cd]; exact e3 _ _ hc2⟩, ⟨(List.range ns.length).map fun i => (((ns.map fun c => if (10 ^ 18 : Int) ≤ c then c else 0)[i]?).getD 0), by rw [List.length_map, List.length_range]; exact hlen, ?_⟩, gc2⟩
    rw [upd_ne gd2.symm, hq, List.map_map, List.length_map]
    rfl
theorem erase_permQ {α : Type} : ∀ (l : List α) (i : Nat) (y : α), l[i]? = some y → (y :: l.eraseIdx i).Perm l
  | [], i, y, h => by simp at h
  | a :: r, 0, y, h => by
    obtain rfl : a = y := by simpa using h
    exact List.Perm.refl _
  | a :: r, i + 1, y, h => by
    have h' : r[i]? = some y := by simpa using h
    exact (List.Perm.swap a y _).trans ((erase_permQ r i y h').cons a)
end
end K50
end

section
set_option Elab.async false
set_option linter.all false
set_option maxRecDepth 100000
set_option maxHeartbeats 4000000
namespace K50
open PySem PySem.Spec PyProof.Rows L2 He Cn Evl
/-- a text of codes that repr shows in few signs -/
def loS (z : Str) : Bool := z.cps.toList.all fun c => decide (c < 16 ^ 8)
theorem loS_cut {z : Str} (h : loS z = true) (lo hi : Option Int) : loS (cutS z lo hi) = true := by
  unfold loS at h ⊢
  rw [List.all_eq_true] at h ⊢
  intro c hc
  unfold cutS at hc
  exact h c (List.mem_of_mem_drop (List.mem_of_mem_take (by simpa using hc)))
/-- a value without parts, as the law draws it -/
def ScV (v : V) : Prop := v = .non ∨ (∃ b : Bool, v = .bl b) ∨ (∃ i : Int, v = .int i ∧ i.natAbs ≤ 10 ^ 20) ∨ ∃ s : Str, v = .str s ∧ s.length ≤ 20 ∧ loS s = true
def rIsTyR : R2 := fun x y H Q => ∃ a b, x = .ty a ∧ y = .ty b ∧ Q (.bl (decide (a = b))) H
def rNoTyR : R2 := fun x y H Q => ∃ a b, x = .ty a ∧ y = .ty b ∧ Q (.bl (!decide (a = b))) H
theorem op_isTyR {X : Cx} : OpR X (compareOp .Is) rIsTyR := op_isTyB
theorem op_notTyR {X : Cx} : OpR X (compareOp .IsNot) rNoTyR := op_notTyB
theorem rv_isTy {H : Hp} {a b : String} : RV rIsTyR (.ty a) (.ty b) H (.bl (decide (a = b))) := fun H1 _ _ q => ⟨a, b, rfl, rfl, q H1 (Ex.refl H1)⟩
theorem rv_noTy {H : Hp} {a b : String} : RV rNoTyR (.ty a) (.ty b) H (.bl (!decide (a = b))) := fun H1 _ _ q => ⟨a, b, rfl, rfl, q H1 (Ex.refl H1)⟩
/-- what stands apart from the state of the draws stays -/
def Fr2 (dm gm : Addr) (H H' : Hp) : Prop := ∀ b o, H b = some o → b ≠ dm → b ≠ gm → H' b = some o
theorem Fr2.trans {dm gm : Addr} {H H1 H2 : Hp} (h : Fr2 dm gm H H1) (k : Fr2 dm gm H1 H2) : Fr2 dm gm H H2 := fun b o e h1 h2 => k b o (h b o e h1 h2) h1 h2
theorem Fr2.ex {dm gm : Addr} {H H1 H2 : Hp} (h : Fr2 dm gm H H1) (e : Ex H1 H2) : Fr2 dm gm H H2 := fun b o e' h1 h2 => e _ _ (h b o e' h1 h2)
theorem Fr2.of {dm gm : Addr} {H H1 : Hp} (e : Ex H H1) : Fr2 dm gm H H1 := fun b o h _ _ => e b o h
theorem mat_ex {H H' : Hp} {dm c gm : Addr} {sp : Int} (e : Ex H H') (M : MAt H dm c gm sp) : MAt H' dm c gm sp := by
  obtain ⟨m1, ⟨cs, lc, bc, m2⟩, ⟨gs, gl, m3⟩, m4⟩ := M
  exact ⟨e _ _ m1, ⟨cs, lc, bc, e _ _ m2⟩, ⟨gs, gl, e _ _ m3⟩, m4⟩
theorem mat_nd {H : Hp} {dm c gm b : Addr} {sp : Int} (M : MAt H dm c gm sp) (h : H b = none) : b ≠ dm ∧ b ≠ gm ∧ b ≠ c := by
  obtain ⟨m1, ⟨cs, lc, bc, m2⟩, ⟨gs, gl, m3⟩, m4⟩ := M
  exact ⟨(ne_of_none m1 h).symm, (ne_of_none m3 h).symm, (ne_of_none m2 h).symm⟩
theorem fr2_fresh {H H' : Hp} {dm c gm b : Addr} {sp : Int} (f : Fr2 dm gm H H') (M : MAt H' dm c gm sp) (h : H' b = none) : H b = none := by
  obtain ⟨n1, n2, _⟩ := mat_nd M h
  cases q : H b with
  | none => rfl
  | some u => rw [f b u q n1 n2] at h; cases h
/-- a list that is new may be put -/
theorem mat_put {H : Hp} {dm c gm p : Addr} {sp : Int} {u : HO} (h1 : p ≠ dm) (h2 : p ≠ gm) (h3 : p ≠ c) (M : MAt H dm c gm sp) : MAt (upd H p u) dm c gm sp := by
  obtain ⟨m1, ⟨cs, lc, bc, m2⟩, ⟨gs, gl, m3⟩, m4⟩ := M
  exact ⟨by rw [upd_ne h1.symm]; exact m1, ⟨cs, lc, bc, by rw [upd_ne h3.symm]; exact m2⟩, ⟨gs, gl, by rw [upd_ne h2.symm]; exact m3⟩, m4⟩
theorem ret_op_E {r : R2} {ta tb : TE} {D : Ends} {σ : L2.St} {H : Hp} (h : ta σ H fun x H1 => tb σ H1 fun y H2 => r x y H2 D.rt) : tRet (tOp r ta tb) D σ H := h
/-- a promise of a def that draws at most n numbers -/
def DrQ (dm c gm : Addr) (n : Int) (sp : Int) (H : Hp) (p : V → Hp → Prop) (Q : VK) : Prop := ∀ v H' sp', sp ≤ sp' → sp' ≤ sp + n → MAt H' dm c gm sp' → Fr2 dm gm H H' → p v H' → Q v H'
section
variable {P : Program} {w : World} {K : PySem.W.Frag} {mg : Str → Option Value} {base : Heap}
def spScalar : Sp := fun vs H Q _ => ∃ (d c g : Addr) (sp : Int), vs = [.ref d] ∧ MAt H d c g sp ∧ 0 ≤ sp ∧ sp < 400000 ∧ DrQ d c g 3 sp H (fun v _ => ScV v) Q
theorem can_scalar (T : Txt K mg) : Can P w K mg base CX0 3 "_law_scalar" ["m"] spScalar := by
  have CD : Can P w K mg base CX0 2 "_law_draw" ["m", "top"] spDraw := can_draw T
  refine can_of T.g__law_scalar T.F__law_scalar (fun fd F => ?_) (fun _ _ _ _ _ _ us hl => match us, hl with | [_], _ => rfl)
  refine F.ok sc__law_scalar (fun vs H Q E h => ?_) (fun cdv A outer s H vs Q E hr h => ?_)
  · obtain ⟨d, c, g, sp, rfl, _⟩ := h
    rfl
  · obtain ⟨d, c, g, sp, rfl, M, h0, h1, fin⟩ := h
    have nd := sc__law_scalar.nd
    refine ⟨_, pss_cons (ps_set (i := 1) nd rfl (.inl rfl) (pe_can CD hr pass0 (pa_cons (pv 0) (pa_cons pe_int pa_nil))))
      (pss_cons (ps_if (pt_cmpR op_eq (pv 1) pe_int (nomark _)) (pss_one (ps_ret pe_non)) pss_nil)
      (pss_cons (ps_if (pt_cmpR op_eq (pv 1) pe_int (nomark _)) (pss_one (ps_ret (pe_cmpR op_eq (pe_can CD hr pass0 (pa_cons (pv 0) (pa_cons pe_int pa_nil))) pe_int (nomark _)))) pss_nil)
      (pss_cons (ps_if (pt_cmpR op_eq (pv 1) pe_int (nomark _)) (pss_one (ps_ret (pe_slice sl_str (pe_slice sl_str pe_str (po_some (pe_can CD hr pass0 (pa_cons (pv 0) (pa_cons pe_int pa_nil)))) po_none) po_none (po_some (pe_can CD hr pass0 (pa_cons (pv 0) (pa_cons pe_int pa_nil))))))) pss_nil)
      (pss_one (ps_ret (pe_ix ix_list (pe_lst (pa_cons pe_int (pa_cons pe_int (pa_cons pe_int (pa_cons pe_int (pa_cons (pe_op op_sub pe_int pe_int) (pa_cons (pe_op op_pow pe_int pe_int) pa_nil))))))) (pe_can CD hr pass0 (pa_cons (pv 0) (pa_cons pe_int pa_nil))) (fun _ _ => rfl))))))), ?_⟩
    refine ⟨_, rfl, d, c, g, sp, 6, rfl, M, h0, by omega, by decide, by decide, fun r H1 r0 r1 M1 f1 => ?_⟩
    refine q_when (b := decide (r = 0)) (et_is (et_test (ev_op (ev_var rfl) ev_c (rv_eq rfl))) (by simp)) (fun _ H2 e2 => ?_) (fun _ H2 e2 => ?_)
    · exact s_ret ev_c fun H3 e3 => fin _ H3 (sp + 1) (by omega) (by omega) (mat_ex (e2.trans e3) M1) (Fr2.ex (Fr2.ex f1 e2) e3) (.inl rfl)
    have M2 := mat_ex e2 M1
    have f2 : Fr2 d g H H2 := Fr2.ex f1 e2
    refine q_when (b := decide (r = 1)) (et_is (et_test (ev_op (ev_var rfl) ev_c (rv_eq rfl))) (by simp)) (fun _ H3 e3 => ?_) (fun _ H3 e3 => ?_)
    · have M3 := mat_ex e3 M2
      refine ⟨_, rfl, d, c, g, sp + 1, 2, rfl, M3, by omega, by omega, by decide, by decide, fun q H4 q0 q1 M4 f4 => ?_⟩
      exact rv_eq rfl H4 (Ex.refl _) _ fun H5 e5 => fin _ H5 (sp + 1 + 1) (by omega) (by omega) (mat_ex e5 M4) (Fr2.ex (Fr2.trans (Fr2.ex f2 e3) f4) e5) (.inr (.inl ⟨_, rfl⟩))
    have M3 := mat_ex e3 M2
    have f3 : Fr2 d g H H3 := Fr2.ex f2 e3
    refine q_when (b := decide (r = 2)) (et_is (et_test (ev_op (ev_var rfl) ev_c (rv_eq rfl))) (by simp)) (fun _ H4 e4 => ?_) (fun _ H4 e4 => ?_)
    · have M4 := mat_ex e4 M3
      have f4 : Fr2 d g H H4 := Fr2.ex f3 e4
      refine ⟨_, rfl, d, c, g, sp + 1, 8, rfl, M4, by omega, by omega, by decide, by decide, fun q H5 q0 q1 M5 f5 => ?_⟩
      refine ⟨_, rfl, _, rfl, by decide +kernel, _, rfl, d, c, g, sp + 1 + 1, 4, rfl, M5, by omega, by omega, by decide, by decide, fun q' H6 q0 q1 M6 f6 => ?_⟩
      refine ⟨_, rfl, _, rfl, Nat.le_trans (cutS_length _ _ _) (by decide +kernel), fin _ H6 (sp + 1 + 1 + 1) (by omega) (by omega) M6 (Fr2.trans (Fr2.trans f4 f5) f6) (.inr (.inr (.inr ⟨_, rfl, Nat.le_trans (cutS_length _ _ _) (Nat.le_trans (cutS_length _ _ _) (by decide +kernel)), loS_cut (loS_cut (by decide +kernel) _ _) _ _⟩)))⟩
    have M4 := mat_ex e4 M3
    have f4 : Fr2 d g H H4 := Fr2.ex f3 e4
    refine ret_op_E ?_
    refine el_lst (vs := [.int 0, .int 1, .int 2, .int 7, .int (0 - 3), .int (10 ^ 20)]) (ea_cons ev_c (ea_cons ev_c (ea_cons ev_c (ea_cons ev_c (ea_cons (ev_op (r := rI0 fun i j => .int (i - j)) (x := .int 0) (y := .int 3) (z := .int (0 - 3)) ev_c ev_c fun H1 e Q q => ⟨0, 3, rfl, rfl, q H1 (Ex.refl H1)⟩) (ea_cons (ev_op (r := rI CPow fun i j => .int (i ^ j.toNat)) (x := .int 10) (y := .int 20) (z := .int (10 ^ 20)) ev_c ev_c fun H1 e Q q => ⟨10, 20, rfl, rfl, ⟨by decide, by decide, by decide⟩, q H1 (Ex.refl H1)⟩) ea_nil)))))) (by show 6 ≤ 100000; decide) H4 (Ex.refl _) _ fun p H5 hp e5 h5 => ?_
    obtain ⟨n1, n2, _⟩ := mat_nd M4 hp
    refine ⟨_, rfl, d, c, g, sp + 1, 6, rfl, mat_ex e5 M4, by omega, by omega, by decide, by decide, fun q H6 q0 q1 M6 f6 => ?_⟩
    obtain ⟨x, hx, hsc⟩ : ∃ x, atI [V.int 0, V.int 1, V.int 2, V.int 7, V.int (0 - 3), V.int (10 ^ 20)] q = some x ∧ ScV x := by
      obtain ⟨j, rfl⟩ : ∃ j : Nat, q = (j : Int) := ⟨q.toNat, by omega⟩
      have : j < 6 := by omega
      match j, this with
      | 0, _ => exact ⟨_, rfl, .inr (.inr (.inl ⟨_, rfl, by decide +kernel⟩))⟩
      | 1, _ => exact ⟨_, rfl, .inr (.inr (.inl ⟨_, rfl, by decide +kernel⟩))⟩
      | 2, _ => exact ⟨_, rfl, .inr (.inr (.inl ⟨_, rfl, by decide +kernel⟩))⟩
      | 3, _ => exact ⟨_, rfl, .inr (.inr (.inl ⟨_, rfl, by decide +kernel⟩))⟩
      | 4, _ => exact ⟨_, rfl, .inr (.inr (.inl ⟨_, rfl, by decide +kernel⟩))⟩
      | 5, _ => exact ⟨_, rfl, .inr (.inr (.inl ⟨_, rfl, by decide +kernel⟩))⟩
    exact rv_ixL (sq_of (f6 _ _ h5 n1 n2)) hx H6 (Ex.refl _) _ fun H7 e7 => fin _ H7 (sp + 1 + 1) (by omega) (by omega) (mat_ex e7 M6) (Fr2.ex (Fr2.trans (Fr2.ex f4 e5) f6) e7) hsc
end
end K50
end

section
set_option Elab.async false
set_option linter.all false
set_option maxRecDepth 100000
set_option maxHeartbeats 4000000
/-! data in the heap: lists, tuples, dicts, none of them locked -/
namespace DtU
open PySem PySem.Spec PyProof.Rows L2 Cn Evl RpV RpD
/-- what is new -/
def nw (H H' : Hp) : Hp := fun b => match H b with
  | none => H' b
  | some _ => none
theorem nw_at {H H' : Hp} {b : Addr} {o : HO} (h : H b = none) (h' : H' b = some o) : nw H H' b = some o := by
  unfold nw
  rw [h]
  exact h'
theorem nw_some {H H' : Hp} {b : Addr} {o : HO} (h : nw H H' b = some o) : H b = none ∧ H' b = some o := by
  unfold nw at h
  cases q : H b with
  | none => rw [q] at h; exact ⟨rfl, h⟩
  | some u => rw [q] at h; cases h
theorem nw_ex {H H' : Hp} : Ex (nw H H') H' := fun b o h => (nw_some h).2
theorem nw_up {H H1 H2 : Hp} (e : Ex H1 H2) : Ex (nw H H1) (nw H H2) := fun b o h => nw_at (nw_some h).1 (e _ _ (nw_some h).2)
theorem nw_low {H0 H1 H2 : Hp} (e : Ex H0 H1) : Ex (nw H1 H2) (nw H0 H2) := fun b o h => nw_at (fresh_back e (nw_some h).1) (nw_some h).2
/-- v is the data d; told in G -/
inductive Du (G : Hp) : V → PyData → Prop
  | leaf {v : V} (h : isLeaf v = true) : Du G v (datOf v)
  | lst {a : Addr} {xs : List V} {ds : List PyData} (h1 : G a = some (.lst xs)) (h2 : xs.length = ds.length) (h3 : ∀ (i : Nat) (x : V) (d : PyData), xs[i]? = some x → ds[i]? = some d → Du G x d) : Du G (.ref a) (.list ds)
  | tup {a : Addr} {xs : List V} {ds : List PyData} (h1 : G a = some (.tup xs)) (h2 : xs.length = ds.length) (h3 : ∀ (i : Nat) (x : V) (d : PyData), xs[i]? = some x → ds[i]? = some d → Du G x d) : Du G (.ref a) (.tuple ds)
  | dct {a : Addr} {kvs : List (L2.Key × V)} {ds : List (PyData × PyData)} (h1 : G a = some (.dK kvs)) (h2 : ds.map Prod.fst = kvs.map fun p => keyD p.1) (h3 : ∀ (i : Nat) (x : L2.Key × V) (d : PyData × PyData), kvs[i]? = some x → ds[i]? = some d → Du G x.2 d.2) : Du G (.ref a) (.dict ds)
theorem Du.ex {G H : Hp} (e : Ex G H) {v : V} {d : PyData} (h : Du G v d) : Du H v d := by
  induction h with
  | leaf h => exact .leaf h
  | lst h1 h2 _ ih => exact .lst (e _ _ h1) h2 ih
  | tup h1 h2 _ ih => exact .tup (e _ _ h1) h2 ih
  | dct h1 h2 _ ih => exact .dct (e _ _ h1) h2 ih
theorem Du.w {K : PySem.W.Frag} {G : Hp} {v : V} {d : PyData} (h : Du G v d) : DatW K G v d := by
  induction h with
  | leaf h => exact dat_w h
  | lst h1 h2 _ ih => exact .lst (sq_of h1) h2 ih
  | tup h1 h2 _ ih => exact .tup (st_of h1) h2 ih
  | dct h1 h2 _ ih => exact .dct (.inl h1) h2 ih
theorem ext_at {α β : Type} {R : α → β → Prop} {P : α → β → Prop} : ∀ {xs : List α} {ds es : List β}, xs.length = ds.length → xs.length = es.length → (∀ (i : Nat) (x : α) (d e : β), xs[i]? = some x → ds[i]? = some d → es[i]? = some e → d = e) → ds = es
  | [], [], [], _, _, _ => rfl
  | [], [], _ :: _, _, h, _ => by cases h
  | [], _ :: _, _, h, _, _ => by cases h
  | _ :: _, [], _, h, _, _ => by cases h
  | _ :: _, _ :: _, [], _, h, _ => by cases h
  | x :: xs, d :: ds, e :: es, h1, h2, k => by
    rw [k 0 x d e rfl rfl rfl, ext_at (R := R) (P := P) (xs := xs) (ds := ds) (es := es) (by simpa using h1) (by simpa using h2) fun i y a b p q r => k (i + 1) y a b (by simpa using p) (by simpa using q) (by simpa using r)]
theorem leaf_ref {a : Addr} : isLeaf (.ref a) = true → False := fun h => by cases h
/-- a value is one data -/
theorem Du.uniq {G : Hp} {v : V} {d : PyData} (h : Du G v d) : ∀ {e : PyData}, Du G v e → d = e := by
  induction h with
  | @leaf v h =>
    intro e k
    cases k with
    | leaf _ => rfl
    | lst _ _ _ => exact (leaf_ref h).elim
    | tup _ _ _ => exact (leaf_ref h).elim
    | dct _ _ _ => exact (leaf_ref h).elim
  | @lst a xs ds h1 h2 _ ih =>
    intro e k
    cases k with
    | leaf h => exact (leaf_ref h).elim
    | @lst _ ys es k1 k2 k3 =>
      rw [h1] at k1
      injection Option.some.inj k1 with q
      subst q
      rw [ext_at (R := fun _ _ => True) (P := fun _ _ => True) h2 k2 fun i x d e p q r => ih i x d p q (k3 i x e p r)]
    | tup k1 _ _ => rw [h1] at k1; cases k1
    | dct k1 _ _ => rw [h1] at k1; cases k1
  | @tup a xs ds h1 h2 _ ih =>
    intro e k
    cases k with
    | leaf h => exact (leaf_ref h).elim
    | lst k1 _ _ => rw [h1] at k1; cases k1
    | @tup _ ys es k1 k2 k3 =>
      rw [h1] at k1
      injection Option.some.inj k1 with q
      subst q
      rw [ext_at (R := fun _ _ => True) (P := fun _ _ => True) h2 k2 fun i x d e p q r => ih i x d p q (k3 i x e p r)]
    | dct k1 _ _ => rw [h1] at k1; cases k1
  | @dct a kvs ds h1 h2 _ ih =>
    intro e k
    cases k with
    | leaf h => exact (leaf_ref h).elim
    | lst k1 _ _ => rw [h1] at k1; cases k1
    | tup k1 _ _ => rw [h1] at k1; cases k1
    | @dct _ ys es k1 k2 k3 =>
      rw [h1] at k1
      injection Option.some.inj k1 with q
      subst q
      have l1 : kvs.length = ds.length := by have := congrArg List.length h2; simpa using this.symm
      have l2 : kvs.length = es.length := by have := congrArg List.length k2; simpa using this.symm
      rw [ext_at (R := fun _ _ => True) (P := fun _ _ => True) l1 l2 fun i x d e p q r => Prod.ext ?_ (ih i x d p q (k3 i x e p r))]
      have e1 : (ds.map Prod.fst)[i]? = some d.1 := by rw [List.getElem?_map, q]; rfl
      have e2 : (es.map Prod.fst)[i]? = some e.1 := by rw [List.getElem?_map, r]; rfl
      rw [h2, ← k2, e2] at e1
      exact (Option.some.inj e1).symm
theorem depth_mem {d : PyData} : ∀ {ds : List PyData}, d ∈ ds → d.depth ≤ PyData.depthAll ds
  | [], h => nomatch h
  | x :: r, h => by
    unfold PyData.depthAll
    rcases List.mem_cons.mp h with q | q
    · rw [q]; exact Nat.le_max_left _ _
    · exact Nat.le_trans (depth_mem q) (Nat.le_max_right _ _)
theorem depth_kv {d : PyData × PyData} : ∀ {ds : List (PyData × PyData)}, d ∈ ds → d.2.depth ≤ PyData.depthKv ds
  | [], h => nomatch h
  | (a, b) :: r, h => by
    unfold PyData.depthKv
    rcases List.mem_cons.mp h with q | q
    · rw [q]; exact Nat.le_trans (Nat.le_max_right _ _) (Nat.le_max_left _ _)
    · exact Nat.le_trans (depth_kv q) (Nat.le_max_right _ _)
def wo (G : Hp) (p : Addr) : Hp := fun b => if b = p then none else G b
theorem wo_ne {G : Hp} {p b : Addr} (h : b ≠ p) : wo G p b = G b := if_neg h
theorem wo_same {G : Hp} {p : Addr} : wo G p p = none := if_pos rfl
theorem wo_some {G : Hp} {p b : Addr} {o : HO} (h : wo G p b = some o) : b ≠ p ∧ G b = some o := by
  by_cases q : b = p
  · rw [q, wo_same] at h; cases h
  · exact ⟨q, by rw [wo_ne q] at h; exact h⟩
/-- data of less depth stands without what is deeper -/
theorem Du.wo {G : Hp} {p : Addr} {e : PyData} (h0 : Du G (.ref p) e) {v : V} {d : PyData} (h : Du G v d) : d.depth < e.depth → Du (wo G p) v d := by
  induction h with
  | leaf h => exact fun _ => .leaf h
  | @lst a xs ds h1 h2 h3 ih =>
    intro hd
    have hd : PyData.depthAll ds + 1 < e.depth := hd
    have ne : a ≠ p := fun q => by
      subst q
      rw [Du.uniq h0 (.lst h1 h2 h3)] at hd
      exact Nat.lt_irrefl _ hd
    refine .lst (by rw [wo_ne ne]; exact h1) h2 fun i x d p q => ih i x d p q ?_
    have := depth_mem (List.mem_of_getElem? q)
    omega
  | @tup a xs ds h1 h2 h3 ih =>
    intro hd
    have hd : PyData.depthAll ds + 1 < e.depth := hd
    have ne : a ≠ p := fun q => by
      subst q
      rw [Du.uniq h0 (.tup h1 h2 h3)] at hd
      exact Nat.lt_irrefl _ hd
    refine .tup (by rw [wo_ne ne]; exact h1) h2 fun i x d p q => ih i x d p q ?_
    have := depth_mem (List.mem_of_getElem? q)
    omega
  | @dct a kvs ds h1 h2 h3 ih =>
    intro hd
    have hd : PyData.depthKv ds + 1 < e.depth := hd
    have ne : a ≠ p := fun q => by
      subst q
      rw [Du.uniq h0 (.dct h1 h2 h3)] at hd
      exact Nat.lt_irrefl _ hd
    refine .dct (by rw [wo_ne ne]; exact h1) h2 fun i x d p q => ih i x d p q ?_
    have := depth_kv (List.mem_of_getElem? q)
    omega
/-! ### its type -/
def tyD : PyData → String
  | .none => "NoneType" | .bool _ => "bool" | .int _ => "int" | .str _ => "str" | .list _ => "list" | .tuple _ => "tuple" | .dict _ => "dict"
theorem Du.ty {K : PySem.W.Frag} {G : Hp} {v : V} {d : PyData} (h : Du G v d) : TyB K G v (tyD d) := by
  cases h with
  | leaf h =>
    cases v with
    | non => exact .non
    | bl b => exact .bl b
    | int i => exact .int i
    | str s => exact .str s
    | _ => cases h
  | lst h1 _ _ => exact .lst (sq_of h1)
  | tup h1 _ _ => exact .tup (st_of h1)
  | dct h1 _ _ => exact .dK h1
/-- data of few parts: n levels of at most three; a dict's keys are texts, each once -/
inductive Val : Nat → PyData → Prop
  | leaf {n : Nat} {d : PyData} (h : leafB d = true) : Val n d
  | lst {n : Nat} {ds : List PyData} (h : ∀ d, d ∈ ds → Val n d) (hl : ds.length ≤ 3) : Val (n + 1) (.list ds)
  | tup {n : Nat} {ds : List PyData} (h : ∀ d, d ∈ ds → Val n d) (hl : ds.length ≤ 3) : Val (n + 1) (.tuple ds)
  | dct {n : Nat} {ds : List (PyData × PyData)} (hk : ∀ p, p ∈ ds → ∃ z : Str, p.1 = .str z ∧ leafB p.1 = true) (hn : (ds.map Prod.fst).Nodup) (h : ∀ p, p ∈ ds → Val n p.2) (hl : ds.length ≤ 3) : Val (n + 1) (.dict ds)
theorem Val.few {n : Nat} {d : PyData} (h : Val n d) : Few n d := by
  induction h with
  | leaf h => exact .leaf h
  | lst _ hl ih => exact .lst ih (by omega)
  | tup _ hl ih => exact .tup ih (by omega)
  | dct hk _ _ hl ih => exact .dct (fun p hp => (hk p hp).choose_spec.2) ih (by omega)
theorem Val.up {n m : Nat} (hm : n ≤ m) {d : PyData} (h : Val n d) : Val m d := by
  induction h generalizing m with
  | leaf h => exact .leaf h
  | lst _ hl ih =>
    obtain ⟨k, rfl⟩ : ∃ k, m = k + 1 := ⟨m - 1, by omega⟩
    exact .lst (fun d hd => ih d hd (by omega)) hl
  | tup _ hl ih =>
    obtain ⟨k, rfl⟩ : ∃ k, m = k + 1 := ⟨m - 1, by omega⟩
    exact .tup (fun d hd => ih d hd (by omega)) hl
  | dct hk hn _ hl ih =>
    obtain ⟨k, rfl⟩ : ∃ k, m = k + 1 := ⟨m - 1, by omega⟩
    exact .dct hk hn (fun d hd => ih d hd (by omega)) hl
/-! ### its plain form -/
mutual
def pl : PyData → PyData
  | .tuple ds => .list (.str "tuple" :: plAll ds)
  | .list ds => .list (.str "list" :: plAll ds)
  | .dict kvs => .list (.str "dict" :: plKv kvs)
  | .none => .none | .bool b => .bool b | .int i => .int i | .str z => .str z
def plAll : List PyData → List PyData
  | [] => []
  | d :: r => pl d :: plAll r
def plKv : List (PyData × PyData) → List PyData
  | [] => []
  | (k, v) :: r => .list [k, pl v] :: plKv r
end
theorem plAll_map : ∀ ds : List PyData, plAll ds = ds.map pl
  | [] => rfl
  | d :: r => by unfold plAll; rw [plAll_map r]; rfl
theorem plKv_map : ∀ ds : List (PyData × PyData), plKv ds = ds.map fun p => .list [p.1, pl p.2]
  | [] => rfl
  | (k, v) :: r => by unfold plKv; rw [plKv_map r]; rfl
/-! ### the parts of data, how many there are -/
def parts : PyData → List PyData
  | .list ds => ds
  | .tuple ds => ds
  | .dict kvs => kvs.map Prod.snd
  | _ => []
mutual
def nod : PyData → Nat
  | .list ds => nodAll ds
  | .tuple ds => nodAll ds
  | .dict kvs => nodKv kvs
  | .none => 0 | .bool _ => 0 | .int _ => 0 | .str _ => 0
def nodAll : List PyData → Nat
  | [] => 0
  | d :: r => 1 + nod d + nodAll r
def nodKv : List (PyData × PyData) → Nat
  | [] => 0
  | (_, v) :: r => 1 + nod v + nodKv r
end
end DtU
end

section
set_option Elab.async false
set_option linter.all false
set_option maxRecDepth 100000
set_option maxHeartbeats 2000000
/-! list(d.values()) -/
namespace LsV
open PySem PySem.Spec PyProof.Rows L2 Cn Evl RpD
section
variable {X : Cx} {e : Expr} {te : TE} {p apos cpos pos : Pos}
def tListVals (te : TE) : TE := fun σ H Q => te σ H fun x H1 => ∃ d kvs, x = .ref d ∧ H1 d = some (.dK kvs) ∧ ∀ l, H1 l = none → Q (.ref l) (upd H1 l (.lst (kvs.map Prod.snd)))
theorem pe_listVals (hc : X.calm = true) (he : PE X e te) (hg : Gl X "list") (hm : X.mg "list" = none) (hv : bootBuiltins "list" = some (.type "list")) (hbase : attributeBase e "values" X.env (eval e X.env) = eval e X.env := by rfl) (hline : (apos.endLine == cpos.line) = true := by rfl)
    (hs : starEach [.Call (.Attribute e "values" apos) [] [] cpos] X.env = (false, eval (.Call (.Attribute e "values" apos) [] [] cpos) X.env) :: starEach [] X.env := by rfl) :
    PE X (.Call (.Name "list" p) [.Call (.Attribute e "values" apos) [] [] cpos] [] pos) (tListVals te) := by
  refine ⟨fun pins s σ H Q I hq => ?_⟩
  refine wpAny_Call_Name_kw (ld_blt I hg hm hv ?_)
  refine PyProof.Rows.callWith_type1 ?_ hs rfl
  rw [hs]
  show wpAny _ _ (spliced ((false, eval (.Call (.Attribute e "values" apos) [] [] cpos) X.env) :: backTo pos (starEach [] X.env))) _ _ s
  refine Calls.spliced_cons ?_
  refine wpAny_Call_method (T := "dict") (id := "dict.values") hbase rfl hline F.plainAttrs_dict F.slot_dict_values F.type_dict_values (thn (he.run pins s σ H _ I hq) fun u s1 ⟨x, H1, I1, rx, d, kvs, ex, hd, q⟩ => ?_)
  subst ex
  obtain rfl : u = Value.ref d := rx
  obtain ⟨hz, hs0, vs, kv, hdo⟩ := I1.hok d _ hd
  obtain ⟨ep, hat⟩ := hdo.dictAt
  have lk : kvs.length = vs.length := Paired.length kv
  have I2 : Inv X pins σ H1 { s1 with heap := s1.heap.push { cls := .type "dict_values", data := .fields #[.ref d] } } := I1.kept (t' := s1.toks) fun b ob q => Heap.get?_push_of_some _ q
  refine ⟨hdo.typeIs, hdo.mapOf.noDict, ?_⟩
  show wpAny _ _ (callWith cpos (.builtin "dict.values") [.ref d] [] []) _ X.xe s1
  refine method_meetsIn F.slot_dict_values F.entry_dict_values rfl (PySem.evalArgs_none ⟨rfl, hdo.typeIs, F.args_dict_values_1 _, _, meets_dict_values (mixKind X.prog X.w) d hs0, ⟨vs, hdo⟩, ?_⟩)
  refine Calls.spliced_nil ?_
  refine PySem.W.kdl_call (PySem.W.kdl_values (knd := mixKind X.prog X.w) (kvs := vs) (ep := ep)) (I1.ok.hd hc) ⟨⟨_, Heap.get?_push_size _ rfl, rfl, rfl⟩, hat.push _⟩ (by omega) fun h' tk acc c hk hS hacc => ?_
  have eA : acc.toList = vs.map (·.2) := PySem.W.kdl_vals_eq acc.toList (by rw [Array.length_toList]; exact hacc.1) fun j v hj => hacc.2 j v (by rw [← Array.getElem?_toList]; exact hj)
  have nf : H1 (s1.heap.push { cls := .type "dict_values", data := .fields #[.ref d] }).objs.size = none := I2.hok.fresh (Nat.le_refl _)
  refine ⟨.ref _, _, I2.laid (o := .lst (kvs.map Prod.snd)) (t' := tk) hk (Nat.le_refl _) ⟨by rw [List.length_map]; exact hz, vs.map (·.2), c, RpD.kv_vals kv, ?_⟩, rfl, q _ nf⟩
  rw [← eA, Array.toArray_toList]
  exact hS
end
end LsV
end

section
set_option Elab.async false
set_option linter.all false
set_option maxRecDepth 100000
set_option maxHeartbeats 2000000
/-! l.extend(t), t a list or a tuple -/
namespace ExT
open PySem PySem.Spec PyProof.Rows L2
theorem meets_extT (l b : Addr) (xs ys : Array Value) (n k : Nat) (od : Option Addr) (sl : Array (Option Value)) (h0 : ¬(!xs.isEmpty && Builtin.List.listTooLong (xs.size + ys.size)) = true) (h1 : xs.size ≤ sizeLine) (h2 : xs.size + ys.size ≤ sizeLine + 1) :
    Meets (Builtin.«list.extend» ⟨[.ref l, .ref b], []⟩) (fun _ R s => s.heap.get? l = some ⟨.type "list", none, .seq xs n, #[]⟩ ∧ s.heap.get? b = some ⟨.type "tuple", od, .seq ys k, sl⟩ ∧ R (.ok (.ret Value.none)) { s with heap := s.heap.update l (Obj.mapSeq fun x => x ++ ys), toks := s.toks }) :=
  .of_wp fun prog w A R s ⟨hl, hb, h⟩ => by
    obtain ⟨hp, g, d, tk, os⟩ := s
    have q1 := AutoSeq1.idx_int
    have q2 := AutoSeq1.sub_tuple_tuple
    have q3 := AutoSeq1.sub_list_list
    have q4 := AutoSeq1.sub_tuple_list
    have q5 := AutoSeq1.sub_list_tuple
    have hz : (xs ++ ys).size ≤ sizeLine + 1 := by rw [Array.size_append]; exact h2
    wp_walk using (wpAny_updateSeq hl rfl (hz := h1) (_hz' := hz)), AutoSeq1.wpAny_loadPart' hl, AutoSeq1.wpAny_loadPart' hb
    exact ⟨_, rfl, h⟩
section
variable {X : Cx}
def rExtAny : V → List V → Hp → VK → Prop := fun x vs H Q => ∃ l b xs zs, x = .ref l ∧ vs = [.ref b] ∧ H l = some (.lst xs) ∧ (H b = some (.lst zs) ∨ H b = some (.tup zs)) ∧ xs.length + zs.length ≤ sizeLine ∧ Q .non (upd H l (.lst (xs ++ zs)))
theorem mt_extAny : MtM X "list.extend" rExtAny := by
  intro pins s σ H x vs v us Q I rx rv h
  obtain ⟨l, b, xs, zs, rfl, rfl, hH, hB, hz, q⟩ := h
  rcases hB with hB | hB
  · exact mt_extend pins s σ H _ _ v us Q I rx rv ⟨l, b, xs, zs, rfl, rfl, hH, hB, hz, q⟩
  · cases rx
    obtain ⟨u, rfl, ru⟩ := rv.one
    cases ru
    obtain ⟨z, its, n, r, hl, e⟩ := I.lstM hH
    obtain ⟨z2, its2, r2, ⟨o, ho, hc, n2, hd⟩⟩ := I.hok b _ hB
    obtain ⟨oc, od, dt, sl⟩ := o
    obtain rfl : oc = .type "tuple" := hc
    obtain rfl : dt = .seq its2.toArray n2 := hd
    have l2 := r2.length
    have hsz : its.toArray.size + its2.toArray.size ≤ sizeLine := by rw [List.size_toArray, List.size_toArray]; omega
    have hlong : ¬ (!its.toArray.isEmpty && Builtin.List.listTooLong (its.toArray.size + its2.toArray.size)) = true := by
      rw [notLongL hsz, Bool.and_false]
      exact Bool.false_ne_true
    refine call_meets F.slot_list_extend ⟨_, e, rfl⟩ F.entry_list_extend (F.args_list_extend_2 _ _) (meets_extT l b its.toArray its2.toArray n n2 od sl hlong (by rw [List.size_toArray]; omega) (by omega)) ⟨e, ho, ?_⟩
    refine ⟨.non, _, I.lset (its' := its ++ its2) hH e (by simp) (r.append r2) ?_, rfl, q⟩
    rw [List.length_append]
    omega
end
end ExT
end

section
set_option Elab.async false
set_option linter.all false
set_option maxRecDepth 100000
set_option maxHeartbeats 4000000
namespace K50
open PySem PySem.Spec PyProof.Rows L2 He Cn Evl DtU RpV RpD
theorem et_isN {σ : L2.St} {H : Hp} {te : TE} {x : V} (h : Ev te σ H x) : EvT (tB (tIsN te)) σ H (decide (x = .non)) := fun H1 e Q q => h H1 e _ fun H2 e2 => ⟨_, rfl, q H2 e2⟩
theorem et_notN {σ : L2.St} {H : Hp} {te : TE} {x : V} (h : Ev te σ H x) : EvT (tB (tNotN te)) σ H (!decide (x = .non)) := fun H1 e Q q => h H1 e _ fun H2 e2 => ⟨_, rfl, q H2 e2⟩
theorem bnT : bootBuiltins ("tuple" : Str) = some (.type "tuple") := by decide +kernel
def sortD : PyData → Str
  | .none => "none" | .bool _ => "truth" | .int _ => "integer" | .str _ => "text" | .list _ => "list" | .tuple _ => "tuple" | .dict _ => "dict"
/-- is of this built-in class -/
def subB (a c : String) : Bool := decide (a = c) || (decide (a = "bool") && decide (c = "int"))
def isTys : List String := ["bool", "int", "str", "dict", "list", "tuple"]
section
variable {P : Program} {w : World} {K : PySem.W.Frag} {mg : Str → Option Value} {base : Heap} {σ : L2.St} {H G : Hp} {te : TE} {v : V} {d : PyData}
theorem kit_all : ∀ t, t ∈ fdTys → ∀ c, c ∈ isTys → kitB t c = some (subB t c) := by decide +kernel
theorem ty_fd (d : PyData) : tyD d ∈ fdTys := by cases d <;> simp [tyD, fdTys]
theorem kit_sub {c : String} (hc : c ∈ isTys) (d : PyData) : PySem.W.kitOne K (.type (tyD d)) (.type c) = some (subB (tyD d) c) := kit_ty (kit_all _ (ty_fd d) c hc)
theorem Du.tyOf {H : Hp} {v : V} {d : PyData} (h : Du H v d) : TyOf K H v (.type (tyD d)) := by
  cases h with
  | leaf h =>
    cases v with
    | non => exact .non
    | bl b => exact .bl b
    | int i => exact .int i
    | str s => exact .str s
    | _ => cases h
  | lst h1 _ _ => exact .lst h1
  | tup h1 _ _ => exact .tup h1
  | dct h1 _ _ => exact .dK h1
theorem ev_isB {c : String} (hc : c ∈ isTys) (h : Ev te σ H v) (hd : Du H v d) : Ev (tCB (rIsi K) (tCons te (tCons (tC (.ty c)) tNil))) σ H (.bl (subB (tyD d) c)) :=
  ev_cb (ea_cons h (ea_cons ev_c ea_nil)) fun H5 e Q q => ⟨v, .ty c, .type (tyD d), .type c, subB (tyD d) c, rfl, .ty _, .base (Du.tyOf (hd.ex e)), kit_sub hc d, q H5 (Ex.refl H5)⟩
theorem ev_isFd (T : Txt K mg) (h : Ev te σ H v) (hd : Du H v d) : Ev (tCB (rIsi K) (tCons te (tCons (tC (.ref (ga K "Fielded"))) tNil))) σ H (.bl false) :=
  ev_cb (ea_cons h (ea_cons ev_c ea_nil)) fun H5 e Q q => ⟨v, .ref (ga K "Fielded"), .type (tyD d), .ref (ga K "Fielded"), false, rfl, .own _, .base (Du.tyOf (hd.ex e)), T.fd (tyD d) (ty_fd d), q H5 (Ex.refl H5)⟩
theorem ev_typeD (h : Ev te σ H v) (hd : Du H v d) : Ev (tCB (rTyp K) (tCons te tNil)) σ H (.ty (tyD d)) :=
  ev_cb (ea_cons h ea_nil) fun H5 e _ q => ⟨v, tyD d, rfl, (hd.ex e).ty, q H5 (Ex.refl H5)⟩
theorem et_tyD {c : String} (h : Ev te σ H v) (hd : Du H v d) : EvT (tTest (tOp rIsTyR (tCB (rTyp K) (tCons te tNil)) (tC (.ty c)))) σ H (decide (tyD d = c)) :=
  et_test (ev_op (ev_typeD h hd) ev_c rv_isTy)
theorem et_ntyD {c : String} (h : Ev te σ H v) (hd : Du H v d) : EvT (tTest (tOp rNoTyR (tCB (rTyp K) (tCons te tNil)) (tC (.ty c)))) σ H (!decide (tyD d = c)) :=
  et_test (ev_op (ev_typeD h hd) ev_c rv_noTy)
theorem Du.non_ (hd : Du H v d) : decide (v = .non) = decide (tyD d = "NoneType") := by
  cases hd with
  | leaf h => cases v <;> first | rfl | cases h
  | _ => rfl
/-! ### sort_of -/
def spSortO : Sp := fun vs H Q _ => ∃ (v : V) (d : PyData), vs = [v] ∧ Du H v d ∧ tyD d = "dict" ∧ ∀ H', Ex H H' → Q (.str (sortD d)) H'
theorem can_sortO (T : Txt K mg) : Can P w K mg base CX0 1 "_sort_of_others" ["value"] spSortO := by
  refine can_of T.g__sort_of_others T.F__sort_of_others (fun fd F => ?_) (fun _ _ _ _ _ _ us hl => match us, hl with | [_], _ => rfl)
  refine F.ok sc__sort_of_others (fun vs H Q E h => ?_) (fun cdv A outer s H vs Q E hr h => ?_)
  · obtain ⟨v, d, rfl, _⟩ := h
    rfl
  · obtain ⟨v, d, rfl, hd, hs, fin⟩ := h
    refine ⟨_, pss_cons (ps_if (pt_val (pe_callB call_isi (by rfl) T.n_isinstance (by decide +kernel) (pa_cons (pv 0) (pa_cons (pe_bltn rfl T.n_dict (v := .ty "dict") (by decide +kernel) rfl) pa_nil)))) (pss_one (ps_ret pe_str)) pss_nil)
      (pss_cons ps_never (pss_cons ps_never (pss_one ps_never))), ?_⟩
    refine q_when (b := true) (et_is (et_B (ev_isB (c := "dict") (by decide) (ev_var rfl) hd)) (by rw [hs]; decide)) (fun _ H1 e1 => s_ret ev_c fun H2 e2 => ?_) (fun h => by cases h)
    have : sortD d = "dict" := by cases d <;> first | rfl | (simp [tyD] at hs)
    rw [← this]
    exact fin H2 (e1.trans e2)
def spSortD : Sp := fun vs H Q _ => ∃ (v : V) (d : PyData), vs = [v] ∧ Du H v d ∧ ∀ H', Ex H H' → Q (.str (sortD d)) H'
theorem can_sortD (T : Txt K mg) : Can P w K mg base CX0 2 "sort_of" ["value"] spSortD := by
  have CO : Can P w K mg base CX0 1 "_sort_of_others" ["value"] spSortO := can_sortO T
  refine can_of T.g_sort_of T.F_sort_of (fun fd F => ?_) (fun _ _ _ _ _ _ us hl => match us, hl with | [_], _ => rfl)
  refine F.ok sc_sort_of (fun vs H Q E h => ?_) (fun cdv A outer s H vs Q E hr h => ?_)
  · obtain ⟨v, d, rfl, _⟩ := h
    rfl
  · obtain ⟨v, d, rfl, hd, fin⟩ := h
    refine ⟨_, (pss_cons (ps_if (pt_cmpR op_isTyR (pe_callTy call_type1 (by rfl) T.n_type (by decide +kernel) (pa_cons (pv 0) pa_nil)) (pe_bltn rfl T.n_tuple (v := .ty "tuple") (by decide +kernel) rfl) (nomark _)) (pss_one (ps_ret pe_str)) pss_nil)
      (pss_cons (ps_if (pt_cmpR op_isTyR (pe_callTy call_type1 (by rfl) T.n_type (by decide +kernel) (pa_cons (pv 0) pa_nil)) (pe_bltn rfl T.n_list (v := .ty "list") (by decide +kernel) rfl) (nomark _)) (pss_one (ps_ret pe_str)) pss_nil)
      (pss_cons (ps_if (pt_val (pe_callB call_isi (by rfl) T.n_isinstance (by decide +kernel) (pa_cons (pv 0) (pa_cons (pe_glob rfl T.g_Fielded (v := .ref (ga K "Fielded")) rfl) pa_nil)))) (pss_one ps_never) pss_nil)
      (pss_cons (ps_if (pt_cmp (pc_isN (pv 0))) (pss_one (ps_ret pe_str)) pss_nil)
      (pss_cons (ps_if (pt_val (pe_callB call_isi (by rfl) T.n_isinstance (by decide +kernel) (pa_cons (pv 0) (pa_cons (pe_bltn rfl T.n_bool (v := .ty "bool") (by decide +kernel) rfl) pa_nil)))) (pss_one (ps_ret pe_str)) pss_nil)
      (pss_cons (ps_if (pt_val (pe_callB call_isi (by rfl) T.n_isinstance (by decide +kernel) (pa_cons (pv 0) (pa_cons (pe_bltn rfl T.n_int (v := .ty "int") (by decide +kernel) rfl) pa_nil)))) (pss_one (ps_ret pe_str)) pss_nil)
      (pss_cons (ps_if (pt_val (pe_callB call_isi (by rfl) T.n_isinstance (by decide +kernel) (pa_cons (pv 0) (pa_cons (pe_bltn rfl T.n_str (v := .ty "str") (by decide +kernel) rfl) pa_nil)))) (pss_one (ps_ret pe_str)) pss_nil)
      (pss_one (ps_ret (pe_can CO hr pass0 (pa_cons (pv 0) pa_nil))))))))))), ?_⟩
    refine q_when (b := decide (tyD d = "tuple")) (et_tyD (ev_var rfl) hd) (fun hb H1 e1 => s_ret ev_c fun H2 e2 => ?_) fun b1 H1 e1 => ?_
    · have : sortD d = "tuple" := by cases d <;> first | rfl | (simp [tyD] at hb)
      rw [← this]
      exact fin H2 (e1.trans e2)
    have hd1 := hd.ex e1
    refine q_when (b := decide (tyD d = "list")) (et_tyD (ev_var rfl) hd1) (fun hb H2 e2 => s_ret ev_c fun H3 e3 => ?_) fun b2 H2 e2 => ?_
    · have : sortD d = "list" := by cases d <;> first | rfl | (simp [tyD] at hb)
      rw [← this]
      exact fin H3 ((e1.trans e2).trans e3)
    have hd2 := hd1.ex e2
    refine q_when (b := false) (et_B (ev_isFd T (ev_var rfl) hd2)) (fun h => by cases h) fun _ H3 e3 => ?_
    have hd3 := hd2.ex e3
    have e03 := (e1.trans e2).trans e3
    refine q_when (b := decide (tyD d = "NoneType")) (et_is (et_isN (ev_var rfl)) (Du.non_ hd3)) (fun hb H4 e4 => s_ret ev_c fun H5 e5 => ?_) fun b4 H4 e4 => ?_
    · have : sortD d = "none" := by cases d <;> first | rfl | (simp [tyD] at hb)
      rw [← this]
      exact fin H5 ((e03.trans e4).trans e5)
    have hd4 := hd3.ex e4
    have e04 := e03.trans e4
    refine q_when (b := subB (tyD d) "bool") (et_B (ev_isB (c := "bool") (by decide) (ev_var rfl) hd4)) (fun hb H5 e5 => s_ret ev_c fun H6 e6 => ?_) fun b5 H5 e5 => ?_
    · have : sortD d = "truth" := by cases d <;> first | rfl | (simp [subB, tyD] at hb)
      rw [← this]
      exact fin H6 ((e04.trans e5).trans e6)
    have hd5 := hd4.ex e5
    have e05 := e04.trans e5
    refine q_when (b := subB (tyD d) "int") (et_B (ev_isB (c := "int") (by decide) (ev_var rfl) hd5)) (fun hb H6 e6 => s_ret ev_c fun H7 e7 => ?_) fun b6 H6 e6 => ?_
    · have : sortD d = "integer" := by
        cases d with
        | bool b => simp [subB, tyD] at b5
        | int i => rfl
        | _ => simp [subB, tyD] at hb
      rw [← this]
      exact fin H7 ((e05.trans e6).trans e7)
    have hd6 := hd5.ex e6
    have e06 := e05.trans e6
    refine q_when (b := subB (tyD d) "str") (et_B (ev_isB (c := "str") (by decide) (ev_var rfl) hd6)) (fun hb H7 e7 => s_ret ev_c fun H8 e8 => ?_) fun b7 H7 e7 => ?_
    · have : sortD d = "text" := by cases d <;> first | rfl | (simp [subB, tyD] at hb)
      rw [← this]
      exact fin H8 ((e06.trans e7).trans e8)
    refine ⟨_, rfl, v, d, rfl, hd6.ex e7, ?_, fun H8 e8 => fin H8 ((e06.trans e7).trans e8)⟩
    cases d with
    | none => simp [subB, tyD] at b4
    | bool b => simp [subB, tyD] at b5
    | int i => simp [subB, tyD] at b6
    | str z => simp [subB, tyD] at b7
    | list ds => simp [subB, tyD] at b2
    | tuple ds => simp [subB, tyD] at b1
    | dict ds => rfl
end
end K50
end

section
set_option Elab.async false
set_option linter.all false
set_option maxRecDepth 100000
set_option maxHeartbeats 2000000
/-! for x in s, s a list or a tuple -/
namespace SqI
open PySem PySem.Spec PyProof.Rows L2 Cn Evl
def iSeq (K : PySem.W.Frag) (tl : TE) : TI := fun σ H R => tl σ H fun x H1 => ∃ a, x = .ref a ∧ (((∃ xs, SqL K H1 a xs) ∧ R (Itl K a) H1) ∨ ((∃ xs, SqT K H1 a xs) ∧ R (Itt K a) H1))
theorem pi_seq {X : Cx} {tg l : Expr} {tl : TE} (hl : PE X l tl) : PI X tg l (iSeq X.K tl) := by
  refine ⟨fun ps s σ H R I h => thn (hl.run ps s σ H _ I h) fun v s2 ⟨x, H2, I2, r2, a, hx, q⟩ => ?_⟩
  subst hx
  cases r2
  have new : ∀ b, b ∈ [s2.heap.objs.size] → _ := fun b hb => by
    obtain rfl : b = s2.heap.objs.size := List.mem_singleton.mp hb
    exact I2.fpOk (Nat.le_refl _) (I2.hok.fresh (Nat.le_refl _))
  rcases q with ⟨⟨xs, hs⟩, q⟩ | ⟨⟨xs, hs⟩, q⟩
  · obtain ⟨us, _, g, _⟩ := I2.list hs
    exact wpAny_pyIter_list g.isList ⟨_, [s2.heap.objs.size], _, _, H2, rfl, I2.kept (t' := s2.toks) fun c o k => Heap.get?_push_of_some _ k, turn_list a _, ⟨_, Heap.get?_push_size _ rfl, rfl, rfl⟩, new, q⟩
  · obtain ⟨us, _, g, _⟩ := I2.tuple hs
    exact wpAny_pyIter_tuple (show Heap.IsTuple s2.heap a us.toArray from g) ⟨_, [s2.heap.objs.size], _, _, H2, rfl, I2.kept (t' := s2.toks) fun c o k => Heap.get?_push_of_some _ k, turn_tuple a _, ⟨_, Heap.get?_push_size _ rfl, rfl, rfl⟩, new, q⟩
/-- the items of a list or a tuple -/
def Its2 (H : Hp) (a : Addr) (xs : List V) : Prop := H a = some (.lst xs) ∨ H a = some (.tup xs)
theorem Its2.ex {H H' : Hp} {a : Addr} {xs : List V} (e : Ex H H') (h : Its2 H a xs) : Its2 H' a xs := h.elim (fun q => .inl (e _ _ q)) fun q => .inr (e _ _ q)
theorem s_forSq {K : PySem.W.Frag} {σ : L2.St} {H : Hp} {a : Addr} {xs : List V} {tl : TE} {g : TG} {tu : TS} {D : Ends} (h : Ev tl σ H (.ref a)) (hx : Its2 H a xs) (Pv : Nat → L2.St → Hp → Prop) (h0 : ∀ H1, Ex H H1 → Pv 0 σ H1) (hl : ∀ i σ' H', Pv i σ' H' → ∀ o, H a = some o → H' a = some o)
    (hs : ∀ i x σ' H', xs[i]? = some x → Pv i σ' H' → g x σ' H' fun σ2 H2 => tu { D with nx := Pv (i + 1), ct := Pv (i + 1), bk := D.nx } σ2 H2) (hd : ∀ σ' H', Pv xs.length σ' H' → D.nx σ' H') : tFor (iSeq K tl) g tu D σ H :=
  h H (Ex.refl H) _ fun H1 e => ⟨a, rfl, hx.elim
    (fun q => .inl ⟨⟨xs, sq_of (e _ _ q)⟩, for_list Pv (h0 H1 e) (fun i σ' H' _ p => sq_of (hl i σ' H' p _ q)) hs hd⟩)
    fun q => .inr ⟨⟨xs, st_of (e _ _ q)⟩, for_tup Pv (h0 H1 e) (fun i σ' H' _ p => st_of (hl i σ' H' p _ q)) hs hd⟩⟩
theorem q_forSq {K : PySem.W.Frag} {σ : L2.St} {H : Hp} {a : Addr} {xs : List V} {tl : TE} {g : TG} {tu tz : TS} {D : Ends} (h : Ev tl σ H (.ref a)) (hx : Its2 H a xs) (Pv : Nat → L2.St → Hp → Prop) (h0 : ∀ H1, Ex H H1 → Pv 0 σ H1) (hl : ∀ i σ' H', Pv i σ' H' → ∀ o, H a = some o → H' a = some o)
    (hs : ∀ i x σ' H', xs[i]? = some x → Pv i σ' H' → g x σ' H' fun σ2 H2 => tu { D with nx := Pv (i + 1), ct := Pv (i + 1), bk := tz D } σ2 H2) (hd : ∀ σ' H', Pv xs.length σ' H' → tz D σ' H') : tSeq (tFor (iSeq K tl) g tu) tz D σ H :=
  s_forSq (D := { D with nx := tz D }) h hx Pv h0 hl hs hd
end SqI
end

section
set_option Elab.async false
set_option linter.all false
set_option maxRecDepth 100000
set_option maxHeartbeats 4000000
namespace K50
open PySem PySem.Spec PyProof.Rows L2 He Cn Evl DtU RpV RpD SqI LsV ExT
/-- a list or a tuple of this data -/
def Ps (H : Hp) (a : Addr) (ds : List PyData) : Prop := ∃ xs, Its2 H a xs ∧ xs.length = ds.length ∧ ∀ (i : Nat) (x : V) (d : PyData), xs[i]? = some x → ds[i]? = some d → Du H x d
theorem Ps.ex {H H' : Hp} {a : Addr} {ds : List PyData} (e : Ex H H') (h : Ps H a ds) : Ps H' a ds := by
  obtain ⟨xs, h1, h2, h3⟩ := h
  exact ⟨xs, h1.ex e, h2, fun i x d p q => (h3 i x d p q).ex e⟩
section
variable {P : Program} {w : World} {K : PySem.W.Frag} {mg : Str → Option Value} {base : Heap}
def spPartsD : Sp := fun vs H Q _ => ∃ (v : V) (d : PyData), vs = [v] ∧ Du H v d ∧ ∀ a H', Ex H H' → Ps H' a (parts d) → Q (.ref a) H'
theorem kit_any (d : PyData) (h : tyD d ≠ "list" ∧ tyD d ≠ "tuple") : PySem.W.kitAny K (.type (tyD d)) [.type "tuple", .type "list"] = some false :=
  kitAny_cons (b := false) (r := false) (by
    rw [kit_sub (c := "tuple") (by decide) d]
    cases d <;> first | rfl | exact absurd rfl h.2) (fun _ => kitAny_cons (b := false) (r := false) (by
    rw [kit_sub (c := "list") (by decide) d]
    cases d <;> first | rfl | exact absurd rfl h.1) (fun _ => kitAny_nil) fun z => nomatch z) fun z => nomatch z
theorem can_partsD (T : Txt K mg) : Can P w K mg base CX0 1 "_parts_of" ["value"] spPartsD := by
  refine can_of T.g__parts_of T.F__parts_of (fun fd F => ?_) (fun _ _ _ _ _ _ us hl => match us, hl with | [_], _ => rfl)
  refine F.ok sc__parts_of (fun vs H Q E h => ?_) (fun cdv A outer s H vs Q E hr h => ?_)
  · obtain ⟨v, d, rfl, _⟩ := h
    rfl
  · obtain ⟨v, d, rfl, hd, fin⟩ := h
    refine ⟨_, pss_cons (ps_if (PW.pt (pw_or (pt_cmpR op_isTyR (pe_callTy call_type1 (by rfl) T.n_type (by decide +kernel) (pa_cons (pv 0) pa_nil)) (pe_bltn rfl T.n_list (v := .ty "list") (by decide +kernel) rfl) (nomark _)) (pw_or1 (pt_cmpR op_isTyR (pe_callTy call_type1 (by rfl) T.n_type (by decide +kernel) (pa_cons (pv 0) pa_nil)) (pe_bltn rfl T.n_tuple (v := .ty "tuple") (by decide +kernel) rfl) (nomark _))))) (pss_one (ps_ret (pv 0))) pss_nil)
      (pss_cons (ps_if (pt_val (pe_callB call_isi (by rfl) T.n_isinstance (by decide +kernel) (pa_cons (pv 0) (pa_cons (pe_glob rfl T.g_Fielded (v := .ref (ga K "Fielded")) rfl) pa_nil)))) (pss_one ps_never) pss_nil)
      (pss_cons (ps_if (pt_val (pe_callB call_isi (by rfl) T.n_isinstance (by decide +kernel) (pa_cons (pv 0) (pa_cons (pe_bltn rfl T.n_dict (v := .ty "dict") (by decide +kernel) rfl) pa_nil)))) (pss_one (ps_ret (LsV.pe_listVals rfl (pv 0) (by rfl) T.n_list (by decide +kernel)))) pss_nil)
      (pss_cons (ps_if (pt_val (pe_callB call_isiT (by rfl) T.n_isinstance (by decide +kernel) (pa_cons (pv 0) (pa_cons (pe_tup (pa_cons (pe_bltn rfl T.n_tuple (v := .ty "tuple") (by decide +kernel) rfl) (pa_cons (pe_bltn rfl T.n_list (v := .ty "list") (by decide +kernel) rfl) pa_nil))) pa_nil)))) (pss_one ps_never) pss_nil)
      (pss_one (ps_ret (pe_tup pa_nil)))))), ?_⟩
    refine q_when (b := decide (tyD d = "list") || decide (tyD d = "tuple")) (et_or (et_tyD (ev_var rfl) hd) fun _ => et_tyD (ev_var rfl) hd) (fun hb H1 e1 => s_ret (ev_var rfl) fun H2 e2 => ?_) fun hb H1 e1 => ?_
    · have e := e1.trans e2
      cases hd.ex e with
      | leaf h => cases v <;> first | (simp [tyD, datOf] at hb) | cases h
      | lst k1 k2 k3 => exact fin _ H2 e ⟨_, .inl k1, k2, k3⟩
      | tup k1 k2 k3 => exact fin _ H2 e ⟨_, .inr k1, k2, k3⟩
      | dct k1 k2 k3 => simp [tyD] at hb
    have hd1 := hd.ex e1
    refine q_when (b := false) (et_B (ev_isFd T (ev_var rfl) hd1)) (fun h => by cases h) fun _ H2 e2 => ?_
    have hd2 := hd1.ex e2
    refine q_when (b := subB (tyD d) "dict") (et_B (ev_isB (c := "dict") (by decide) (ev_var rfl) hd2)) (fun hb2 H3 e3 => ?_) fun hb2 H3 e3 => ?_
    · have e := (e1.trans e2).trans e3
      cases hd2.ex e3 with
      | leaf h => cases v <;> first | (simp [tyD, datOf, subB] at hb2) | cases h
      | lst k1 k2 k3 => simp [tyD] at hb
      | tup k1 k2 k3 => simp [tyD] at hb
      | @dct a kvs ds k1 k2 k3 =>
        refine ⟨_, rfl, a, kvs, rfl, k1, fun l hl => ?_⟩
        have l1 : kvs.length = ds.length := by have := congrArg List.length k2; simpa using this.symm
        have e4 := Ex.new (o := .lst (kvs.map Prod.snd)) hl
        refine fin l _ (e.trans e4) ⟨_, .inl upd_same, by unfold parts; rw [List.length_map, List.length_map]; exact l1, fun i x d p q => ?_⟩
        have q : (ds.map Prod.snd)[i]? = some d := q
        rw [List.getElem?_map] at p q
        cases z1 : kvs[i]? with
        | none => rw [z1] at p; cases p
        | some y =>
          cases z2 : ds[i]? with
          | none => rw [z2] at q; cases q
          | some g =>
            rw [z1] at p
            rw [z2] at q
            obtain rfl := Option.some.inj p
            obtain rfl := Option.some.inj q
            exact (k3 i y g z1 z2).ex e4
    have hd3 := hd2.ex e3
    have e03 := (e1.trans e2).trans e3
    have hn : tyD d ≠ "list" ∧ tyD d ≠ "tuple" := by simpa using hb
    have ht : EvT (tB (tCB (rIsiT K) (tCons (tVar 0) (tCons (tTup (tCons (tC (.ty "tuple")) (tCons (tC (.ty "list")) tNil))) tNil)))) ([some v] : L2.St) H3 false := fun H4 e4 Q q => by
      refine ⟨_, rfl, by show 2 ≤ sizeLine; decide, fun tp htp => ?_⟩
      have e5 := Ex.new (o := .tup [.ty "tuple", .ty "list"]) htp
      exact ⟨v, tp, [.ty "tuple", .ty "list"], .type (tyD d), [.type "tuple", .type "list"], false, rfl, upd_same, .cons (.ty _) (.cons (.ty _) .nil), .base (Du.tyOf (hd3.ex (e4.trans e5))), kit_any d hn, false, rfl, q _ e5⟩
    refine q_when (b := false) ht (fun h => by cases h) fun _ H4 e4 => ?_
    refine ⟨by show 0 ≤ sizeLine; decide, fun t ht => fin t _ ((e03.trans e4).trans (Ex.new ht)) ⟨[], .inr upd_same, ?_, fun i x d p => by simp at p⟩⟩
    cases d with
    | list ds => exact absurd rfl hn.1
    | tuple ds => exact absurd rfl hn.2
    | dict ds => simp [tyD, subB] at hb2
    | _ => rfl
end
end K50
end

section
set_option Elab.async false
set_option linter.all false
set_option maxRecDepth 100000
set_option maxHeartbeats 4000000
namespace K50
open PySem PySem.Spec PyProof.Rows L2 He Cn Evl DtU RpV RpD SqI ExT
theorem q_asgE {te : TE} {g : TG} {tz : TS} {D : Ends} {σ : L2.St} {H : Hp} (h : te σ H fun v H1 => g v σ H1 fun σ2 H2 => tz D σ2 H2) : tSeq (tAsg te g) tz D σ H := h
theorem ev_lenA {K : PySem.W.Frag} {σ : L2.St} {H : Hp} {te : TE} {a : Addr} {xs : List V} (h : Ev te σ H (.ref a)) (hx : Its2 H a xs) : Ev (tCB (rLenS K) (tCons te tNil)) σ H (.int (xs.length : Int)) :=
  ev_cb (ea_cons h ea_nil) fun H5 e Q q => ⟨a, xs, rfl, (hx.ex e).elim (fun z => .inl (sq_of z)) (fun z => .inr (st_of z)), q H5 (Ex.refl H5)⟩
theorem rv_ixA {K : PySem.W.Frag} {H : Hp} {a : Addr} {xs : List V} {i : Int} {v : V} (hx : Its2 H a xs) (hi : atI xs i = some v) : RV (rIx K) (.ref a) (.int i) H v := fun H1 e Q q => by
  rcases hx.ex e with z | z
  · exact .inl ⟨a, xs, i, v, rfl, rfl, sq_of z, hi, q H1 (Ex.refl H1)⟩
  · exact .inr (.inl ⟨a, xs, i, v, rfl, rfl, st_of z, hi, q H1 (Ex.refl H1)⟩)
theorem depth_parts {d : PyData} (h : parts d ≠ []) : PyData.depthAll (parts d) + 1 ≤ d.depth := by
  cases d with
  | list ds => exact Nat.le_refl _
  | tuple ds => exact Nat.le_refl _
  | dict ds =>
    show PyData.depthAll (ds.map Prod.snd) + 1 ≤ PyData.depthKv ds + 1
    have : ∀ ds : List (PyData × PyData), PyData.depthAll (ds.map Prod.snd) ≤ PyData.depthKv ds := fun ds => by
      induction ds with
      | nil => exact Nat.le_refl _
      | cons p r ih =>
        obtain ⟨a, b⟩ := p
        rw [List.map_cons]
        unfold PyData.depthAll PyData.depthKv
        exact Nat.max_le.mpr ⟨Nat.le_trans (Nat.le_max_right _ _) (Nat.le_max_left _ _), Nat.le_trans ih (Nat.le_max_right _ _)⟩
    have := this ds
    omega
  | _ => exact absurd rfl h
section
variable {P : Program} {w : World} {K : PySem.W.Frag} {mg : Str → Option Value} {base : Heap}
def spFirst : Sp := fun vs H Q _ => ∃ (a : Addr) (ds : List PyData) (n : Nat), vs = [.ref a, .int (n : Int)] ∧ Ps H a ds ∧ ds ≠ [] ∧ n + PyData.depthAll ds ≤ 50 ∧ ∀ H', Ex H H' → Q .non H'
theorem can_first (T : Txt K mg) : Can P w K mg base CX0 2 "_check_first_parts" ["level", "number"] spFirst := by
  have CP : Can P w K mg base CX0 1 "_parts_of" ["value"] spPartsD := can_partsD T
  obtain ⟨tl, hml⟩ := T.i_MAX_LEVELS
  refine can_of T.g__check_first_parts T.F__check_first_parts (fun fd F => ?_) (fun _ _ _ _ _ _ us hl => match us, hl with | [_, _], _ => rfl)
  refine F.ok sc__check_first_parts (fun vs H Q E h => ?_) (fun cdv A outer s H vs Q E hr h => ?_)
  · obtain ⟨a, ds, n, rfl, _⟩ := h
    rfl
  · obtain ⟨a, ds, n, rfl, hp, hne, hd, fin⟩ := h
    have nd := sc__check_first_parts.nd
    refine ⟨_, pss_cons (ps_for PassesOwn.never rfl (pi_range2 rfl T.n_range (pa_cons (pv 1) (pa_cons (pe_op op_add (pe_glob rfl hml (v := .int 50) ⟨_, rfl⟩) pe_int) pa_nil))) (pg_name (i := 2) nd rfl (.inl rfl))
        (pss_cons (ps_set (i := 0) nd rfl (.inl rfl) (pe_can CP hr pass0 (pa_cons (pe_ix ix_seq (pv 0) pe_int (fun _ _ => rfl)) pa_nil)))
        (pss_one (ps_if (pt_cmpR op_eq (pe_callB call_len_seq (by rfl) T.n_len PySem.boot_len (pa_cons (pv 0) pa_nil)) pe_int (nomark _)) (pss_one ps_retN) pss_nil)))) (pss_one ps_never), ?_⟩
    refine q_forR2 (lo := (n : Int)) (n := 51) (ea_cons (ev_var rfl) (ea_cons (ev_op ev_c ev_c rv_I0) ea_nil)) ⟨by omega, by omega, by omega, by omega⟩ (fun i σ' H' => ∃ (a : Addr) (ds : List PyData) (v : Option V), σ' = [some (.ref a), some (.int (n : Int)), v] ∧ Ex H H' ∧ Ps H' a ds ∧ ds ≠ [] ∧ n + i + PyData.depthAll ds ≤ 50) (fun H1 e1 => ⟨a, ds, _, rfl, e1, hp.ex e1, hne, by omega⟩) ?_ ?_
    · rintro i σ' H1 hi ⟨a, ds, v, rfl, e1, ⟨xs, hx, hl, hxd⟩, hne, hd⟩
      obtain ⟨d0, dr, rfl⟩ : ∃ d0 dr, ds = d0 :: dr := by
        cases ds with
        | nil => exact absurd rfl hne
        | cons a r => exact ⟨a, r, rfl⟩
      obtain ⟨x0, xr, rfl⟩ : ∃ x0 xr, xs = x0 :: xr := by
        cases xs with
        | nil => cases hl
        | cons a r => exact ⟨a, r, rfl⟩
      have h0 := hxd 0 x0 d0 rfl rfl
      refine q_asgE ?_
      refine ev_op (x := .ref a) (y := .int 0) (ev_var rfl) ev_c (rv_ixA hx (at_of (j := 0) rfl rfl)) H1 (Ex.refl _) _ fun H2 e2 => ⟨x0, d0, rfl, h0.ex e2, fun a2 H3 e3 hp3 => ?_⟩
      obtain ⟨ys, hy, hly, hyd⟩ := id hp3
      have hdm : d0.depth ≤ PyData.depthAll (d0 :: dr) := depth_mem (List.mem_cons_self ..)
      refine s_when (b := decide ((ys.length : Int) = 0)) (et_is (et_test (ev_op (ev_lenA (ev_var rfl) hy) ev_c (rv_eq rfl))) (by simp)) (fun _ H4 e4 => fin H4 (((e1.trans e2).trans e3).trans e4)) fun hb H4 e4 => ?_
      have hb : ¬ (ys.length : Int) = 0 := of_decide_eq_false hb
      have hpn : parts d0 ≠ [] := fun z => hb (by rw [hly, z]; rfl)
      have := depth_parts hpn
      exact ⟨a2, parts d0, _, rfl, ((e1.trans e2).trans e3).trans e4, hp3.ex e4, hpn, by omega⟩
    · rintro σ' H1 ⟨a, ds, v, rfl, e1, hp1, hne1, hd1⟩
      exfalso
      have : ((51 : Int) - (n : Int)).toNat + n = 51 := by omega
      omega
end
end K50
end

section
set_option Elab.async false
set_option linter.all false
set_option maxRecDepth 100000
set_option maxHeartbeats 4000000
namespace K50
open PySem PySem.Spec PyProof.Rows L2 He Cn Evl DtU RpV RpD SqI ExT
theorem at_some {α : Type} {l : List α} {i : Nat} (h : i < l.length) : ∃ x, l[i]? = some x := ⟨l[i], List.getElem?_eq_getElem h⟩
/-! ### how many values there are -/
def sub (ds : List PyData) : Nat := (ds.map nod).sum
theorem nodAll_is : ∀ ds : List PyData, nodAll ds = ds.length + sub ds
  | [] => rfl
  | d :: r => by
    unfold nodAll sub
    have := nodAll_is r
    unfold sub at this
    rw [List.map_cons, List.sum_cons, List.length_cons]
    omega
theorem nodKv_is : ∀ ds : List (PyData × PyData), nodKv ds = nodAll (ds.map Prod.snd)
  | [] => rfl
  | (a, b) :: r => by
    unfold nodKv
    rw [nodKv_is r]
    rfl
theorem nod_is (d : PyData) : nod d = (parts d).length + sub (parts d) := by
  cases d with
  | list ds => exact nodAll_is ds
  | tuple ds => exact nodAll_is ds
  | dict ds =>
    show nodKv ds = _
    rw [nodKv_is, nodAll_is]
    rfl
  | _ => rfl
theorem sub_cons (d : PyData) (r : List PyData) : sub (d :: r) = nod d + sub r := by
  unfold sub
  rw [List.map_cons, List.sum_cons]
theorem sub_app (a b : List PyData) : sub (a ++ b) = sub a + sub b := by
  unfold sub
  rw [List.map_append, List.sum_append]
/-- a level down -/
theorem sub_next : ∀ ds : List PyData, (ds.flatMap parts).length + sub (ds.flatMap parts) = sub ds
  | [] => rfl
  | d :: r => by
    have := sub_next r
    rw [List.flatMap_cons, List.length_append, sub_app, sub_cons, nod_is d]
    omega
theorem depthAll_le {k : Nat} : ∀ {ds : List PyData}, (∀ d, d ∈ ds → d.depth ≤ k) → PyData.depthAll ds ≤ k
  | [], _ => Nat.zero_le _
  | d :: r, h => by
    unfold PyData.depthAll
    exact Nat.max_le.mpr ⟨h d (List.mem_cons_self ..), depthAll_le fun x hx => h x (List.mem_cons_of_mem _ hx)⟩
theorem depth_next {ds : List PyData} (h : ds.flatMap parts ≠ []) : PyData.depthAll (ds.flatMap parts) + 1 ≤ PyData.depthAll ds := by
  have key : ∀ e, e ∈ ds.flatMap parts → e.depth + 1 ≤ PyData.depthAll ds := fun e he => by
    obtain ⟨d, hd, hed⟩ := List.mem_flatMap.mp he
    have h1 := depth_mem hed
    have h2 := depth_parts (d := d) (fun z => by rw [z] at hed; cases hed)
    have h3 := depth_mem hd
    omega
  obtain ⟨e, he⟩ := List.exists_mem_of_ne_nil _ h
  have := key e he
  have := depthAll_le (k := PyData.depthAll ds - 1) fun e he => by have := key e he; omega
  omega
theorem take_flat {ds : List PyData} {j : Nat} {d : PyData} (h : ds[j]? = some d) : (ds.take (j + 1)).flatMap parts = (ds.take j).flatMap parts ++ parts d := by
  rw [List.take_add_one, h, List.flatMap_append]
  simp
theorem take_len (ds : List PyData) (j : Nat) : ((ds.take j).flatMap parts).length ≤ (ds.flatMap parts).length := by
  conv => rhs; rw [← List.take_append_drop j ds, List.flatMap_append, List.length_append]
  exact Nat.le_add_right _ _
/-- these values are these data -/
def Pz (G : Hp) (xs : List V) (ds : List PyData) : Prop := xs.length = ds.length ∧ ∀ (i : Nat) (x : V) (d : PyData), xs[i]? = some x → ds[i]? = some d → Du G x d
theorem Pz.app {G : Hp} {xs ys : List V} {ds es : List PyData} (h : Pz G xs ds) (k : Pz G ys es) : Pz G (xs ++ ys) (ds ++ es) := by
  refine ⟨by rw [List.length_append, List.length_append, h.1, k.1], fun i x d p q => ?_⟩
  by_cases hi : i < xs.length
  · rw [List.getElem?_append_left hi] at p
    rw [List.getElem?_append_left (by have := h.1; omega)] at q
    exact h.2 i x d p q
  · rw [List.getElem?_append_right (by omega)] at p
    rw [List.getElem?_append_right (by have := h.1; omega), ← h.1] at q
    exact k.2 _ x d p q
theorem Pz.ps {G H : Hp} {a : Addr} {xs : List V} {ds : List PyData} (h : Pz G xs ds) (e : Ex G H) (hx : Its2 H a xs) : Ps H a ds := ⟨xs, hx, h.1, fun i x d p q => (h.2 i x d p q).ex e⟩
/-- the items of what holds data -/
theorem Du.row {G : Hp} {v : V} {d : PyData} (h : Du G v d) : (∃ b zs, v = .ref b ∧ Its2 G b zs ∧ Pz G zs (parts d) ∧ (tyD d = "list" ∨ tyD d = "tuple")) ∨ (∃ b kvs, v = .ref b ∧ G b = some (.dK kvs) ∧ Pz G (kvs.map Prod.snd) (parts d) ∧ tyD d = "dict") ∨ (parts d = [] ∧ tyD d ∈ ["int", "str", "NoneType", "bool"]) := by
  cases h with
  | leaf h => exact .inr (.inr (by cases v <;> first | exact ⟨rfl, by simp [tyD, datOf]⟩ | cases h))
  | lst h1 h2 h3 => exact .inl ⟨_, _, rfl, .inl h1, ⟨h2, h3⟩, .inl rfl⟩
  | tup h1 h2 h3 => exact .inl ⟨_, _, rfl, .inr h1, ⟨h2, h3⟩, .inr rfl⟩
  | @dct a kvs ds h1 h2 h3 =>
    refine .inr (.inl ⟨_, _, rfl, h1, ⟨?_, fun i x d p q => ?_⟩, rfl⟩)
    · have := congrArg List.length h2
      show (kvs.map Prod.snd).length = (ds.map Prod.snd).length
      simpa using this.symm
    · have q : (ds.map Prod.snd)[i]? = some d := q
      rw [List.getElem?_map] at p q
      cases z1 : kvs[i]? with
      | none => rw [z1] at p; cases p
      | some y =>
        cases z2 : ds[i]? with
        | none => rw [z2] at q; cases q
        | some g =>
          rw [z1] at p
          rw [z2] at q
          obtain rfl := Option.some.inj p
          obtain rfl := Option.some.inj q
          exact h3 i y g z1 z2
end K50
end

section
set_option Elab.async false
set_option linter.all false
set_option maxRecDepth 100000
set_option maxHeartbeats 4000000
namespace K50
open PySem PySem.Spec PyProof.Rows L2 He Cn Evl DtU RpV RpD SqI ExT
section
variable {P : Program} {w : World} {K : PySem.W.Frag} {mg : Str → Option Value} {base : Heap}
abbrev tTy (K : PySem.W.Frag) (i : Nat) (c : String) : TT := tTest (tOp rIsTyR (tCB (rTyp K) (tCons (tVar i) tNil)) (tC (.ty c)))
/-- the part's row; a value without parts is passed over -/
def tRow (K : PySem.W.Frag) : TS := tIfS (tOr (tTy K 4 "list") (tTy K 4 "tuple")) (tAsg (tVar 4) (gName 5)) (tIfS (tTy K 4 "dict") (tAsg (LsV.tListVals (tVar 4)) (gName 5)) (tIfS (tOr (tTy K 4 "int") (tOr (tTy K 4 "str") (tOr (tB (tIsN (tVar 4))) (tTy K 4 "bool")))) tCont tNever))
def tAdd (K : PySem.W.Frag) : TS := tSeq (tRow K) (tSeq (tAsg (tOp (rI0 fun i j => .int (i + j)) (tVar 1) (tCB (rLenS K) (tCons (tVar 5) tNil))) (gName 1)) (tSeq (tIfS (tTest (tOp (rI0 fun i j => .bl (decide (j < i))) (tVar 1) (tC (.int 5000)))) tNever tNext) (tDrop (tBM K "list" rExtAny (tVar 3) (tCons (tVar 5) tNil)))))
abbrev sL (a : Addr) (m : Nat) (n : Int) (fl : Addr) (v4 v5 : Option V) : L2.St := [some (.ref a), some (.int (m : Int)), some (.int n), some (.ref fl), v4, v5]
theorem rd_add {D : Ends} {H0 H : Hp} {a fl : Addr} {m : Nat} {n : Int} {x : V} {d : PyData} {v5 : Option V} {ys : List V} {es : List PyData} (e0 : Ex H0 H) (hd : Du H0 x d) (hfl : H fl = some (.lst ys)) (hf0 : H0 fl = none) (hm : m + (parts d).length ≤ 5000) (hy : ys.length ≤ 5000) (hz : Pz H0 ys es)
    (k : ∀ (H' : Hp) (m' : Nat) (v5' : Option V) (zs : List V), Ex H0 H' → (∀ b o, H b = some o → b ≠ fl → H' b = some o) → H' fl = some (.lst (ys ++ zs)) → Pz H0 zs (parts d) → m' = m + zs.length → D.nx (sL a m' n fl (some x) v5') H' ∧ D.ct (sL a m' n fl (some x) v5') H') :
    tAdd K D (sL a m n fl (some x) v5) H := by
  have hd1 := hd.ex e0
  -- behind the row
  have rest : ∀ (H1 : Hp) (b : Addr) (zs : List V), Ex H0 H1 → (∀ b o, H b = some o → b ≠ fl → H1 b = some o) → H1 fl = some (.lst ys) → Its2 H1 b zs → Pz H0 zs (parts d) →
      tSeq (tAsg (tOp (rI0 fun i j => .int (i + j)) (tVar 1) (tCB (rLenS K) (tCons (tVar 5) tNil))) (gName 1)) (tSeq (tIfS (tTest (tOp (rI0 fun i j => .bl (decide (j < i))) (tVar 1) (tC (.int 5000)))) tNever tNext) (tDrop (tBM K "list" rExtAny (tVar 3) (tCons (tVar 5) tNil)))) D (sL a m n fl (some x) (some (.ref b))) H1 := fun H1 b zs e1 f1 h1 hb hp => by
    have lz : zs.length = (parts d).length := hp.1
    refine q_asg (v := .int ((m + zs.length : Nat) : Int)) (ev_is (ev_op (x := .int (m : Int)) (y := .int (zs.length : Int)) (ev_var rfl) (ev_lenA (ev_var rfl) hb) rv_I0) (by simp)) fun H2 e2 => ?_
    refine q_when (b := false) (et_is (et_test (ev_op (x := .int ((m + zs.length : Nat) : Int)) (ev_var rfl) ev_c rv_I0)) (by simp; omega)) (fun h => by cases h) fun _ H3 e3 => ?_
    have e13 := e2.trans e3
    have h3 := e13 _ _ h1
    refine ⟨_, rfl, .inl ⟨rfl, _, sq_of h3⟩, _, rfl, fl, b, ys, zs, rfl, rfl, h3, hb.ex e13, sz_of (by omega), ?_⟩
    refine (k (upd H3 fl (.lst (ys ++ zs))) (m + zs.length) _ zs (Ex.mut (e1.trans e13) hf0) (fun c o q nc => by rw [upd_ne nc]; exact e13 _ _ (f1 c o q nc)) upd_same hp rfl).1
  rcases Du.row hd with ⟨b, zs, rfl, hi, hp, ht⟩ | ⟨b, kvs, rfl, hk, hp, ht⟩ | ⟨hn, ht⟩
  · refine q_if (b := true) (et_is (et_or (et_tyD (ev_var rfl) hd1) fun _ => et_tyD (ev_var rfl) hd1) (by rcases ht with z | z <;> simp [z])) (fun _ H1 e1 => ?_) (fun h => by cases h)
    refine s_asg (v := .ref b) (ev_var rfl) fun H2 e2 => ?_
    have e := e1.trans e2
    exact rest H2 b zs (e0.trans e) (fun c o q _ => e _ _ q) (e _ _ hfl) (hi.ex (e0.trans e)) hp
  · refine q_if (b := false) (et_is (et_or (et_tyD (ev_var rfl) hd1) fun _ => et_tyD (ev_var rfl) hd1) (by simp [ht])) (fun h => by cases h) fun _ H1 e1 => ?_
    refine s_if (b := true) (et_is (et_tyD (ev_var rfl) (hd1.ex e1)) (by simp [ht])) (fun _ H2 e2 => ?_) (fun h => by cases h)
    have e := e1.trans e2
    refine ⟨_, rfl, b, kvs, rfl, (e0.trans e) _ _ hk, fun l hl => ?_⟩
    have e3 := Ex.new (o := .lst (kvs.map Prod.snd)) hl
    exact rest _ l (kvs.map Prod.snd) ((e0.trans e).trans e3) (fun c o q _ => (e.trans e3) _ _ q) ((e.trans e3) _ _ hfl) (.inl upd_same) hp
  · have hp : Pz H0 [] (parts d) := by rw [hn]; exact ⟨rfl, fun i x d p => by simp at p⟩
    refine q_if (b := false) (et_is (et_or (et_tyD (ev_var rfl) hd1) fun _ => et_tyD (ev_var rfl) hd1) (by
      simp only [List.mem_cons, List.not_mem_nil, or_false] at ht
      rcases ht with z | z | z | z <;> simp [z])) (fun h => by cases h) fun _ H1 e1 => ?_
    refine s_if (b := false) (et_is (et_tyD (ev_var rfl) (hd1.ex e1)) (by
      simp only [List.mem_cons, List.not_mem_nil, or_false] at ht
      rcases ht with z | z | z | z <;> simp [z])) (fun h => by cases h) fun _ H2 e2 => ?_
    have hd2 := hd1.ex (e1.trans e2)
    refine s_if (b := true) (et_is (et_or (et_tyD (ev_var rfl) hd2) fun _ => et_or (et_tyD (ev_var rfl) hd2) fun _ => et_or (et_is (et_isN (ev_var rfl)) (Du.non_ hd2)) fun _ => et_tyD (ev_var rfl) hd2) (by
      simp only [List.mem_cons, List.not_mem_nil, or_false] at ht
      rcases ht with z | z | z | z <;> simp [z])) (fun _ H3 e3 => ?_) (fun h => by cases h)
    have e := (e1.trans e2).trans e3
    refine (k H3 m v5 [] (e0.trans e) (fun c o q _ => e _ _ q) (by rw [List.append_nil]; exact e _ _ hfl) hp rfl).2
end
end K50
end

section
set_option Elab.async false
set_option linter.all false
set_option maxRecDepth 100000
set_option maxHeartbeats 4000000
namespace K50
open PySem PySem.Spec PyProof.Rows L2 He Cn Evl DtU RpV RpD SqI ExT
theorem et_truL {K : PySem.W.Frag} {σ : L2.St} {H : Hp} {te : TE} {a : Addr} {xs : List V} (h : Ev te σ H (.ref a)) (hx : SqL K H a xs) : EvT (fun σ H Q => te σ H fun x H' => ∃ k, TruV K x H' k ∧ Q k H') σ H (!xs.isEmpty) := fun H1 e Q q =>
  h H1 e _ fun H2 e2 => ⟨!xs.isEmpty, .inl ⟨xs, ex_l (e.trans e2) hx, rfl⟩, q H2 e2⟩
theorem ev_chain {σ : L2.St} {H : Hp} {ta tb tc : TE} {x y z : Int} (ha : Ev ta σ H (.int x)) (hb : Ev tb σ H (.int y)) (hc : Ev tc σ H (.int z)) : Ev (tChain (rI0 fun i j => .bl (decide (j < i))) (rI0 fun i j => .bl (decide (j ≤ i))) ta tb tc) σ H (.bl (decide (y < x) && decide (z ≤ y))) := fun H1 e Q q =>
  ha H1 e _ fun H2 e2 => hb H2 (e.trans e2) _ fun H3 e3 => ⟨x, y, rfl, rfl, decide (y < x), rfl, by
    cases h : decide (y < x) with
    | true =>
      rw [h] at q
      exact iteT (hc H3 ((e.trans e2).trans e3) _ fun H4 e4 => ⟨y, z, rfl, rfl, q H4 ((e2.trans e3).trans e4)⟩)
    | false =>
      rw [h] at q
      exact iteF (q H3 (e2.trans e3))⟩
section
variable {P : Program} {w : World} {K : PySem.W.Frag} {mg : Str → Option Value} {base : Heap}
def spLevels : Sp := fun vs H Q _ => ∃ (a : Addr) (ds : List PyData) (m : Nat), vs = [.ref a, .int (m : Int)] ∧ Ps H a ds ∧ m + sub ds ≤ 5000 ∧ ds.length ≤ 5000 ∧ PyData.depthAll ds ≤ 49 ∧ ∀ H', Ex H H' → Q .non H'
theorem can_levels (T : Txt K mg) : Can P w K mg base CX0 3 "_check_levels" ["level", "many"] spLevels := by
  have CP : Can P w K mg base CX0 1 "_parts_of" ["value"] spPartsD := can_partsD T
  have CF : Can P w K mg base CX0 2 "_check_first_parts" ["level", "number"] spFirst := can_first T
  obtain ⟨tl, hml⟩ := T.i_MAX_LEVELS
  obtain ⟨tv, hmv⟩ := T.i_MAX_VALUES
  obtain ⟨tw, hmw⟩ := T.i_WIDE
  refine can_of T.g__check_levels T.F__check_levels (fun fd F => ?_) (fun _ _ _ _ _ _ us hl => match us, hl with | [_, _], _ => rfl)
  refine F.ok sc__check_levels (fun vs H Q E h => ?_) (fun cdv A outer s H vs Q E hr h => ?_)
  · obtain ⟨a, ds, m, rfl, _⟩ := h
    rfl
  · obtain ⟨a, ds, m, rfl, hp, hm, hl, hd, fin⟩ := h
    have nd := sc__check_levels.nd
    refine ⟨_, pss_cons (ps_for PassesOwn.never rfl (pi_range2 rfl T.n_range (pa_cons pe_int (pa_cons (pe_op op_add (pe_glob rfl hml (v := .int 50) ⟨_, rfl⟩) pe_int) pa_nil))) (pg_name (i := 2) nd rfl (.inl rfl))
        (pss_cons (ps_set (i := 3) nd rfl (.inl rfl) (pe_lst pa_nil))
        (pss_cons (ps_for PassesOwn.never rfl (pi_seq (pv 0)) (pg_name (i := 4) nd rfl (.inl rfl)) (?_ : PSs _ _ (tAdd K)))
        (pss_cons (ps_if (pt_not (pt_truth (pv 3) (by intro _; rfl))) (pss_one ps_retN) pss_nil)
        (pss_cons (ps_if (pt_chain op_gt op_ge (pe_callB call_len_seq (by rfl) T.n_len PySem.boot_len (pa_cons (pv 3) pa_nil)) (pe_glob rfl hmw (v := .int 50) ⟨_, rfl⟩) (pe_callB call_len_seq (by rfl) T.n_len PySem.boot_len (pa_cons (pv 0) pa_nil))) (pss_one (ps_expr (pe_can CF hr pass0 (pa_cons (pv 3) (pa_cons (pv 2) pa_nil))))) pss_nil)
        (pss_one (ps_set (i := 0) nd rfl (.inl rfl) (pv 3)))))))) (pss_one ps_never), ?_⟩
    · exact pss_cons (ps_if (PW.pt (pw_or (pt_cmpR op_isTyR (pe_callTy call_type1 (by rfl) T.n_type (by decide +kernel) (pa_cons (pv 4) pa_nil)) (pe_bltn rfl T.n_list (v := .ty "list") (by decide +kernel) rfl) (nomark _)) (pw_or1 (pt_cmpR op_isTyR (pe_callTy call_type1 (by rfl) T.n_type (by decide +kernel) (pa_cons (pv 4) pa_nil)) (pe_bltn rfl T.n_tuple (v := .ty "tuple") (by decide +kernel) rfl) (nomark _))))) (pss_one (ps_set (i := 5) nd rfl (.inl rfl) (pv 4)))
          (pss_one (ps_if (pt_cmpR op_isTyR (pe_callTy call_type1 (by rfl) T.n_type (by decide +kernel) (pa_cons (pv 4) pa_nil)) (pe_bltn rfl T.n_dict (v := .ty "dict") (by decide +kernel) rfl) (nomark _)) (pss_one (ps_set (i := 5) nd rfl (.inl rfl) (LsV.pe_listVals rfl (pv 4) (by rfl) T.n_list (by decide +kernel))))
          (pss_one (ps_if (PW.pt (pw_or (pt_cmpR op_isTyR (pe_callTy call_type1 (by rfl) T.n_type (by decide +kernel) (pa_cons (pv 4) pa_nil)) (pe_bltn rfl T.n_int (v := .ty "int") (by decide +kernel) rfl) (nomark _)) (pw_or (pt_cmpR op_isTyR (pe_callTy call_type1 (by rfl) T.n_type (by decide +kernel) (pa_cons (pv 4) pa_nil)) (pe_bltn rfl T.n_str (v := .ty "str") (by decide +kernel) rfl) (nomark _)) (pw_or (pt_cmp (pc_isN (pv 4))) (pw_or1 (pt_cmpR op_isTyR (pe_callTy call_type1 (by rfl) T.n_type (by decide +kernel) (pa_cons (pv 4) pa_nil)) (pe_bltn rfl T.n_bool (v := .ty "bool") (by decide +kernel) rfl) (nomark _))))))) (pss_one ps_continue) (pss_one ps_never))))))
        (pss_cons (ps_set (i := 1) nd rfl (.inl rfl) (pe_op op_add (pv 1) (pe_callB call_len_seq (by rfl) T.n_len PySem.boot_len (pa_cons (pv 5) pa_nil))))
        (pss_cons (ps_if (pt_cmpR op_gt (pv 1) (pe_glob rfl hmv (v := .int 5000) ⟨_, rfl⟩) rfl) (pss_one ps_never) pss_nil)
        (pss_one (ps_expr (pe_bm PySem.F.plainAttrs_list PySem.F.slot_list_extend PySem.F.type_list_extend mt_extAny (pv 3) (pa_cons (pv 5) pa_nil))))))
    obtain ⟨xs, hx, hxl, hxd⟩ := hp
    have hz0 : Pz H xs ds := ⟨hxl, hxd⟩
    refine q_forR2 (lo := 2) (n := 52) (ea_cons ev_c (ea_cons (ev_op ev_c ev_c rv_I0) ea_nil)) ⟨by omega, by omega, by omega, by omega⟩ (fun i σ' H' => ∃ (a : Addr) (ds : List PyData) (xs : List V) (m : Nat) (v2 v3 v4 v5 : Option V), σ' = [some (.ref a), some (.int (m : Int)), v2, v3, v4, v5] ∧ Ex H H' ∧ Its2 H' a xs ∧ Pz H xs ds ∧ m + sub ds ≤ 5000 ∧ ds.length ≤ 5000 ∧ i + PyData.depthAll ds ≤ 49) (fun H1 e1 => ⟨a, ds, xs, m, _, _, _, _, rfl, e1, hx.ex e1, hz0, hm, hl, by omega⟩) ?_ ?_
    · rintro i σ' H1 hi ⟨a, ds, xs, m, v2, v3, v4, v5, rfl, e1, hx1, hz, hm, hl, hd⟩
      have hnx := sub_next ds
      -- found = []
      refine q_asgL (el_lst ea_nil (by decide)) fun fl H2 hfl e2 h2 => ?_
      have hf0 : H fl = none := fresh_back e1 hfl
      have hafl : a ≠ fl := by
        rcases hx1 with q | q
        · exact ne_of_none q hfl
        · exact ne_of_none q hfl
      refine q_forSq (K := K) (xs := xs) (a := a) (ev_var rfl) (hx1.ex e2) (fun j σ' H' => ∃ (m' : Nat) (v4 v5 : Option V) (ys : List V), σ' = sL a m' (2 + (i : Int)) fl v4 v5 ∧ Ex H H' ∧ (∀ b o, H2 b = some o → b ≠ fl → H' b = some o) ∧ H' fl = some (.lst ys) ∧ Pz H ys ((ds.take j).flatMap parts) ∧ m' = m + ys.length) (fun H3 e3 => ⟨m, _, _, [], rfl, (e1.trans e2).trans e3, fun b o q _ => e3 _ _ q, e3 _ _ h2, ⟨rfl, fun i x d p => by simp at p⟩, rfl⟩) (fun j σ' H' p o q => by
          obtain ⟨_, _, _, _, _, _, f, _⟩ := p
          exact f a o q hafl) ?_ ?_
      · rintro j x σ' H3 hxj ⟨m', v4, v5, ys, rfl, e3, f3, h3, hy, rfl⟩
        obtain ⟨d, hdj⟩ : ∃ d, ds[j]? = some d := at_some (by have := (List.getElem?_eq_some_iff.mp hxj).1; rw [hz.1] at this; exact this)
        have tf := take_flat hdj
        have tlen := take_len ds (j + 1)
        rw [tf, List.length_append] at tlen
        have hyl := hy.1
        refine rd_add (H0 := H) (es := (ds.take j).flatMap parts) e3 (hz.2 j x d hxj hdj) h3 hf0 (by omega) (by omega) hy fun H4 m' v5' zs e4 f4 h4 hzs hm' => ?_
        have : ∃ (m'' : Nat) (v4 v5 : Option V) (ys : List V), sL a m' (2 + (i : Int)) fl (some x) v5' = sL a m'' (2 + (i : Int)) fl v4 v5 ∧ Ex H H4 ∧ (∀ b o, H2 b = some o → b ≠ fl → H4 b = some o) ∧ H4 fl = some (.lst ys) ∧ Pz H ys ((ds.take (j + 1)).flatMap parts) ∧ m'' = m + ys.length := ⟨m', _, _, ys ++ zs, rfl, e4, fun b o q nb => f4 b o (f3 b o q nb) nb, h4, by rw [tf]; exact hy.app hzs, by rw [hm', List.length_append]; omega⟩
        exact ⟨this, this⟩
      · rintro σ' H3 ⟨m', v4, v5, ys, rfl, e3, f3, h3, hy, rfl⟩
        rw [hz.1, List.take_length] at hy
        have hyl := hy.1
        have hx3 : Its2 H3 a xs := by
          rcases hx1 with q | q
          · exact .inl (f3 _ _ (e2 _ _ q) hafl)
          · exact .inr (f3 _ _ (e2 _ _ q) hafl)
        refine q_when (b := !(!ys.isEmpty)) (et_not (et_truL (ev_var rfl) (sq_of h3))) (fun _ H4 e4 => fin H4 (e3.trans e4)) fun hne H4 e4 => ?_
        have hne : ds.flatMap parts ≠ [] := fun z => by
          rw [z] at hyl
          cases ys with
          | nil => cases hne
          | cons p r => cases hyl
        have hdn := depth_next hne
        have last : ∀ H5, Ex H3 H5 → tAsg (tVar 3) (gName 0) { nx := (fun σ' H' => ∃ (a : Addr) (ds : List PyData) (xs : List V) (m : Nat) (v2 v3 v4 v5 : Option V), σ' = [some (.ref a), some (.int (m : Int)), v2, v3, v4, v5] ∧ Ex H H' ∧ Its2 H' a xs ∧ Pz H xs ds ∧ m + sub ds ≤ 5000 ∧ ds.length ≤ 5000 ∧ (i + 1) + PyData.depthAll ds ≤ 49), rt := Q } (sL a (m + ys.length) (2 + (i : Int)) fl v4 v5) H5 := fun H5 e5 =>
          s_asg (v := .ref fl) (ev_var rfl) fun H6 e6 => ⟨fl, ds.flatMap parts, ys, m + ys.length, _, _, _, _, rfl, (e3.trans e5).trans e6, .inl ((e5.trans e6) _ _ h3), hy, by omega, by omega, by omega⟩
        refine q_if (b := decide ((50 : Int) < (ys.length : Int)) && decide ((xs.length : Int) ≤ 50)) (et_test (ev_chain (ev_lenA (ev_var rfl) (.inl (e4 _ _ h3))) ev_c (ev_lenA (ev_var rfl) (hx3.ex e4)))) (fun _ H5 e5 => ?_) (fun _ H5 e5 => last H5 (e4.trans e5))
        have e35 := e4.trans e5
        refine ⟨_, rfl, _, rfl, fl, ds.flatMap parts, 2 + i, by simp, hy.ps (e3.trans e35) (.inl (e35 _ _ h3)), hne, by omega, fun H6 e6 => last H6 (e35.trans e6)⟩
    · rintro σ' H1 ⟨a, ds, xs, m, v2, v3, v4, v5, rfl, e1, hx1, hz, hm, hl, hd⟩
      exfalso
      have : ((52 : Int) - 2).toNat = 50 := rfl
      omega
end
end K50
end

section
set_option Elab.async false
set_option linter.all false
set_option maxRecDepth 100000
set_option maxHeartbeats 4000000
namespace K50
open PySem PySem.Spec PyProof.Rows L2 He Cn Evl DtU RpV RpD SqI ExT
section
variable {P : Program} {w : World} {K : PySem.W.Frag} {mg : Str → Option Value} {base : Heap}
/-- a value without parts -/
def scT (d : PyData) : Bool := decide (tyD d = "int") || (decide (tyD d = "str") || (decide (tyD d = "NoneType") || decide (tyD d = "bool")))
def spDepthD : Sp := fun vs H Q _ => ∃ (v : V) (d : PyData), vs = [v] ∧ Du H v d ∧ nod d < 5000 ∧ d.depth ≤ 50 ∧ ∀ H', Ex H H' → Q .non H'
theorem can_depthD (T : Txt K mg) : Can P w K mg base CX0 4 "check_depth" ["value"] spDepthD := by
  have CP : Can P w K mg base CX0 1 "_parts_of" ["value"] spPartsD := can_partsD T
  have CL : Can P w K mg base CX0 3 "_check_levels" ["level", "many"] spLevels := can_levels T
  obtain ⟨tv, hmv⟩ := T.i_MAX_VALUES
  refine can_of T.g_check_depth T.F_check_depth (fun fd F => ?_) (fun _ _ _ _ _ _ us hl => match us, hl with | [_], _ => rfl)
  refine F.ok sc_check_depth (fun vs H Q E h => ?_) (fun cdv A outer s H vs Q E hr h => ?_)
  · obtain ⟨v, d, rfl, _⟩ := h
    rfl
  · obtain ⟨v, d, rfl, hd, hn, hdp, fin⟩ := h
    have nd := sc_check_depth.nd
    refine ⟨_, pss_cons (ps_if (PW.pt (pw_or (pt_cmpR op_isTyR (pe_callTy call_type1 (by rfl) T.n_type (by decide +kernel) (pa_cons (pv 0) pa_nil)) (pe_bltn rfl T.n_int (v := .ty "int") (by decide +kernel) rfl) (nomark _)) (pw_or (pt_cmpR op_isTyR (pe_callTy call_type1 (by rfl) T.n_type (by decide +kernel) (pa_cons (pv 0) pa_nil)) (pe_bltn rfl T.n_str (v := .ty "str") (by decide +kernel) rfl) (nomark _)) (pw_or (pt_cmp (pc_isN (pv 0))) (pw_or1 (pt_cmpR op_isTyR (pe_callTy call_type1 (by rfl) T.n_type (by decide +kernel) (pa_cons (pv 0) pa_nil)) (pe_bltn rfl T.n_bool (v := .ty "bool") (by decide +kernel) rfl) (nomark _))))))) (pss_one (ps_retN)) pss_nil)
      (pss_cons (ps_set (i := 1) nd rfl (.inl rfl) (pe_can CP hr pass0 (pa_cons (pv 0) pa_nil)))
      (pss_cons (ps_if (pt_cmpR op_ge (pe_callB call_len_seq (by rfl) T.n_len PySem.boot_len (pa_cons (pv 1) pa_nil)) (pe_glob rfl hmv (v := .int 5000) ⟨_, rfl⟩) rfl) (pss_one ps_never) pss_nil)
      (pss_one (ps_for PassesOwn.never rfl (pi_seq (pv 1)) (pg_name (i := 2) nd rfl (.inl rfl)) (pss_one (ps_if (PW.pt (pw_and (pt_cmpR op_notTyR (pe_callTy call_type1 (by rfl) T.n_type (by decide +kernel) (pa_cons (pv 2) pa_nil)) (pe_bltn rfl T.n_int (v := .ty "int") (by decide +kernel) rfl) (nomark _)) (pw_and (pt_cmpR op_notTyR (pe_callTy call_type1 (by rfl) T.n_type (by decide +kernel) (pa_cons (pv 2) pa_nil)) (pe_bltn rfl T.n_str (v := .ty "str") (by decide +kernel) rfl) (nomark _)) (pw_and (pt_cmp (pc_notN (pv 2))) (pw_and1 (pt_cmpR op_notTyR (pe_callTy call_type1 (by rfl) T.n_type (by decide +kernel) (pa_cons (pv 2) pa_nil)) (pe_bltn rfl T.n_bool (v := .ty "bool") (by decide +kernel) rfl) (nomark _))))))) (pss_cons (ps_expr (pe_can CL hr pass0 (pa_cons (pv 1) (pa_cons (pe_op op_add pe_int (pe_callB call_len_seq (by rfl) T.n_len PySem.boot_len (pa_cons (pv 1) pa_nil))) pa_nil)))) (pss_one ps_retN)) pss_nil)))))), ?_⟩
    refine q_when (b := scT d) (et_or (et_tyD (ev_var rfl) hd) fun _ => et_or (et_tyD (ev_var rfl) hd) fun _ => et_or (et_is (et_isN (ev_var rfl)) (Du.non_ hd)) fun _ => et_tyD (ev_var rfl) hd) (fun _ H1 e1 => fin H1 e1) fun hs H1 e1 => ?_
    refine q_asgE ?_
    refine ⟨_, rfl, v, d, rfl, hd.ex e1, fun a H2 e2 hp => ?_⟩
    have e02 := e1.trans e2
    obtain ⟨xs, hx, hxl, hxd⟩ := id hp
    have hnd := nod_is d
    refine q_when (b := false) (et_is (et_test (ev_op (ev_lenA (ev_var rfl) hx) ev_c rv_I0)) (by simp; omega)) (fun h => by cases h) fun _ H3 e3 => ?_
    have e03 := e02.trans e3
    refine s_forSq (K := K) (a := a) (xs := xs) (ev_var rfl) (hx.ex e3) (fun i σ' H' => (∃ u, σ' = [some v, some (.ref a), u]) ∧ Ex H3 H') (fun H4 e4 => ⟨⟨_, rfl⟩, e4⟩) (fun i σ' H' p o q => p.2 _ _ q) ?_ (fun σ' H' ⟨_, e⟩ => fin H' (e03.trans e))
    rintro i x σ' H4 hxi ⟨⟨u, rfl⟩, e4⟩
    obtain ⟨dx, hdx⟩ : ∃ dx, (parts d)[i]? = some dx := at_some (by have := (List.getElem?_eq_some_iff.mp hxi).1; rw [hxl] at this; exact this)
    have hdu := (hxd i x dx hxi hdx).ex (e3.trans e4)
    show tIfS _ _ _ _ ([some v, some (.ref a), some x] : L2.St) H4
    refine s_when (b := !decide (tyD dx = "int") && (!decide (tyD dx = "str") && (!decide (tyD dx = "NoneType") && !decide (tyD dx = "bool")))) (et_and (et_ntyD (ev_var rfl) hdu) fun _ => et_and (et_ntyD (ev_var rfl) hdu) fun _ => et_and (et_is (et_notN (ev_var rfl)) (by rw [Du.non_ hdu])) fun _ => et_ntyD (ev_var rfl) hdu) (fun _ H5 e5 => ?_) fun _ H5 e5 => ⟨⟨_, rfl⟩, e4.trans e5⟩
    have e35 := e4.trans e5
    have hne : parts d ≠ [] := fun z => by rw [z] at hdx; simp at hdx
    have hdd := depth_parts hne
    refine ⟨_, rfl, ?_⟩
    refine ev_op (x := .int 1) (y := .int (xs.length : Int)) (z := .int ((1 + xs.length : Nat) : Int)) ev_c (ev_lenA (ev_var rfl) (hx.ex (e3.trans e35))) (fun H6 e6 Q q => ⟨1, (xs.length : Int), rfl, rfl, by
      have := q H6 (Ex.refl H6)
      show Q (V.int ((1 : Int) + (xs.length : Int))) H6
      rw [show (1 : Int) + (xs.length : Int) = ((1 + xs.length : Nat) : Int) by omega]
      exact this⟩) H5 (Ex.refl _) _ fun H6 e6 => ?_
    exact ⟨a, parts d, 1 + xs.length, rfl, hp.ex ((e3.trans e35).trans e6), by omega, by omega, by omega, fun H7 e7 => fin H7 (((e03.trans e35).trans e6).trans e7)⟩
end
end K50
end

section
set_option Elab.async false
set_option linter.all false
set_option maxRecDepth 100000
set_option maxHeartbeats 2000000
/-! comprehensions over a list or a tuple, over the keys of a dict: by what holds at each turn -/
namespace LcS
open PySem PySem.Spec PyProof.Rows L2 Cn Evl SqI
theorem yesT {te : TE} {σ : L2.St} {H : Hp} {Q : VK} {N : Hp → Prop} (h : te σ H Q) : tYes σ H (fun b H3 => if b = true then te σ H3 Q else N H3) := by
  show if true = true then te σ H Q else N H
  rw [if_pos rfl]
  exact h
section
variable {K : PySem.W.Frag} {σ : L2.St} {H : Hp} {tl : TE} {te : TE} {vs : List Nat} {Q : VK} {j : Nat}
theorem rd_lcSq {a : Addr} {xs : List V} (hw : ∀ x, wipe ((wipe σ vs).set j (some x)) vs = wipe σ vs) (h : Ev tl σ H (.ref a)) (hx : Its2 H a xs) (Pv : Addr → Nat → Hp → Prop) (h0 : ∀ D H1, Ex H H1 → H1 D = none → Pv D 0 (upd H1 D (.lst []))) (hl : ∀ D i H', Pv D i H' → ∀ o, H a = some o → H' a = some o)
    (hs : ∀ D i x H', xs[i]? = some x → Pv D i H' → te ((wipe σ vs).set j (some x)) H' fun y H4 => ∃ acc, H4 D = some (.lst acc) ∧ acc.length < sizeLine ∧ Pv D (i + 1) (upd H4 D (.lst (acc ++ [y]))))
    (hd : ∀ D H', Pv D xs.length H' → Q (.ref D) H') : tLc (iSeq K tl) (gName j) tYes te vs σ H Q :=
  h H (Ex.refl H) _ fun H1 e => by
    have step : ∀ D i x H2 H3, i < xs.length → Pv D i H2 → (H3 = H2 ∧ xs[i]? = some x) → gName j x (wipe σ vs) H3 fun σ2 H2 => wipe σ2 vs = wipe σ vs ∧ tYes σ2 H2 fun b H3 => if b = true then te σ2 H3 (fun y H4 => ∃ acc, H4 D = some (.lst acc) ∧ acc.length < sizeLine ∧ Pv D (i + 1) (upd H4 D (.lst (acc ++ [y])))) else Pv D (i + 1) H3 := fun D i x H2 H3 hi p y => by
      obtain ⟨rfl, hxi⟩ := y
      exact ⟨hw x, yesT (hs D i x H3 hxi p)⟩
    rcases hx with q | q
    · exact ⟨a, rfl, .inl ⟨⟨xs, sq_of (e _ _ q)⟩, fun D hD => lc_it (walk_list (K := K) (xs := xs)) (Pv D) (h0 D H1 e hD) (fun i H' _ p => sq_of (hl D i H' p _ q)) (step D) (fun H' p => hd D H' p)⟩⟩
    · exact ⟨a, rfl, .inr ⟨⟨xs, st_of (e _ _ q)⟩, fun D hD => lc_it (walk_tup (K := K) (xs := xs)) (Pv D) (h0 D H1 e hD) (fun i H' _ p => st_of (hl D i H' p _ q)) (step D) (fun H' p => hd D H' p)⟩⟩
/-- [.. for k in d], d a dict -/
theorem rd_lcKeys {d : Addr} {kvs : List (L2.Key × V)} (hw : ∀ x, wipe ((wipe σ vs).set j (some x)) vs = wipe σ vs) (hk : H d = some (.dK kvs)) (h : ∀ od, Ev tl σ (upd H d (.frz od (.dK kvs))) (.ref d)) (Pv : Obj → Addr → Nat → Hp → Prop) (h0 : ∀ od D H1, Ex (upd H d (.frz od (.dK kvs))) H1 → H1 D = none → Pv od D 0 (upd H1 D (.lst [])))
    (hl : ∀ od D i H', Pv od D i H' → H' d = some (.frz od (.dK kvs)))
    (hs : ∀ od D i k v H', kvs[i]? = some (k, v) → Pv od D i H' → te ((wipe σ vs).set j (some (kV k))) H' fun y H4 => ∃ acc, H4 D = some (.lst acc) ∧ acc.length < sizeLine ∧ Pv od D (i + 1) (upd H4 D (.lst (acc ++ [y]))))
    (hd : ∀ od D H', Pv od D kvs.length H' → Q (.ref D) (upd H' d (.dK kvs))) : tLockE (tLc (iKeys tl) (gName j) tYes te vs) σ H Q := by
  refine ⟨d, _, hk, trivial, fun od => h od _ (Ex.refl _) _ fun H1 e => ⟨d, od, rfl, .inl ⟨kvs, e _ _ upd_same, fun D hD => ?_⟩⟩⟩
  refine lc_it walk_keys (Pv od D) (h0 od D H1 e hD) (fun i H' _ p => hl od D i H' p) ?_ (fun H' p => ⟨hl od D _ H' p, hd od D H' p⟩)
  rintro i x H2 H3 hi p ⟨rfl, k, v, hkv, rfl⟩
  exact ⟨hw _, yesT (hs od D i k v H3 hkv p)⟩
end
end LcS
end

section
set_option Elab.async false
set_option linter.all false
set_option maxRecDepth 100000
set_option maxHeartbeats 4000000
namespace K50
open PySem PySem.Spec PyProof.Rows L2 He Cn Evl DtU RpV RpD SqI ExT LcS
/-! ### entries of a dict that holds data -/
theorem keyD_inj : ∀ {a b : L2.Key}, keyD a = keyD b → a = b
  | .inl i, .inl j, h => by injection h with h; rw [h]
  | .inr i, .inr j, h => by injection h with h; rw [h]
  | .inl i, .inr j, h => by cases h
  | .inr i, .inl j, h => by cases h
theorem val_of {kvs : List (L2.Key × V)} (nd : (kvs.map Prod.fst).Nodup) {i : Nat} {k : L2.Key} {v : V} (h : kvs[i]? = some (k, v)) : valV kvs k = some v := by
  induction kvs generalizing i with
  | nil => simp at h
  | cons p r ih =>
    obtain ⟨n1, n2⟩ := List.nodup_cons.mp nd
    unfold valV
    rw [List.find?_cons]
    cases i with
    | zero =>
      obtain rfl : p = (k, v) := by simpa using h
      simp
    | succ i =>
      have h' : r[i]? = some (k, v) := by simpa using h
      have hne : ¬ p.1 = k := fun e => n1 (by rw [e]; exact List.mem_map.mpr ⟨(k, v), List.mem_of_getElem? h', rfl⟩)
      rw [decide_eq_false hne]
      exact ih n2 h'
theorem nd_keys {kvs : List (L2.Key × V)} {ds : List (PyData × PyData)} (h : ds.map Prod.fst = kvs.map fun p => keyD p.1) (nd : (ds.map Prod.fst).Nodup) : (kvs.map Prod.fst).Nodup := by
  rw [h] at nd
  have : ∀ {l : List (L2.Key × V)}, (l.map fun p => keyD p.1).Nodup → (l.map Prod.fst).Nodup := fun {l} => by
    induction l with
    | nil => exact fun _ => List.nodup_nil
    | cons p r ih =>
      intro q
      obtain ⟨n1, n2⟩ := List.nodup_cons.mp q
      refine List.nodup_cons.mpr ⟨fun z => n1 ?_, ih n2⟩
      obtain ⟨y, hy, e⟩ := List.mem_map.mp z
      exact List.mem_map.mpr ⟨y, hy, by show keyD y.1 = keyD p.1; rw [e]⟩
  exact this nd
theorem dg_rd {H : Hp} {d : Addr} {kvs : List (L2.Key × V)} {k : L2.Key} {v : V} (h : Rd H d (.dK kvs)) (hv : valV kvs k = some v) : DGet H d (kV k) (some v) := by
  rw [← hv]
  exact .inl ⟨kvs, k, h, rfl, rfl⟩
theorem ev_datK {σ : L2.St} {H : Hp} {td ty : TE} {d : Addr} {k : L2.Key} {kvs : List (L2.Key × V)} {v : V} (hd : Ev td σ H (.ref d)) (hy : Ev ty σ H (kV k)) (h : Rd H d (.dK kvs)) (hv : valV kvs k = some v) : Ev (tDGet td ty) σ H v := fun H1 e Q q =>
  hd H1 e _ fun H2 e2 => hy H2 (e.trans e2) _ fun H3 e3 => ⟨d, v, rfl, dg_rd (rd_ex ((e.trans e2).trans e3) h) hv, q H3 (e2.trans e3)⟩
/-! ### _plain_of -/
/-- what is new but for D -/
def nwD (H : Hp) (D : Addr) (H' : Hp) : Hp := wo (nw H H') D
theorem nwD_step {H H2 H3 : Hp} {D : Addr} (f1 : ∀ b o, H2 b = some o → b ≠ D → H3 b = some o) : Ex (nwD H D H2) (nwD H D H3) := fun b o h => by
  obtain ⟨nb, h⟩ := wo_some h
  obtain ⟨h1, h2⟩ := nw_some h
  show wo (nw H H3) D b = some o
  rw [wo_ne nb]
  exact nw_at h1 (f1 b o h2 nb)
theorem nw_nwD {H H1 H2 : Hp} {D : Addr} (e : ∀ b, H1 b = none → H b = none) (hD : H1 D ≠ none) : Ex (nw H1 H2) (nwD H D H2) := fun b o h => by
  obtain ⟨h1, h2⟩ := nw_some h
  have nb : b ≠ D := fun q => hD (by rw [← q]; exact h1)
  show wo (nw H H2) D b = some o
  rw [wo_ne nb]
  exact nw_at (e b h1) h2
theorem Du.str {G : Hp} {z : Str} (h : leafB (.str z) = true) : Du G (.str z) (.str z) := .leaf (v := .str z) h
theorem du_key {G : Hp} {k : L2.Key} (h : leafB (keyD k) = true) : Du G (kV k) (keyD k) := by
  cases k with
  | inl i => exact .leaf (v := .int i) h
  | inr z => exact .leaf (v := .str z) h
theorem pl_leaf {v : V} (h : isLeaf v = true) : pl (datOf v) = datOf v := by
  cases v <;> first | (unfold datOf pl; rfl) | cases h
section
variable {P : Program} {w : World} {K : PySem.W.Frag} {mg : Str → Option Value} {base : Heap}
def spPlain (n : Nat) : Sp := fun vs H Q _ => ∃ (v : V) (d : PyData), vs = [v] ∧ Du H v d ∧ Val n d ∧ ∀ u H', Ex H H' → Du (nw H H') u (pl d) → Q u H'
/-- [sort, *rows] -/
theorem rd_disp {σ : L2.St} {H0 H1 : Hp} {z : Str} {D : Addr} {ys : List V} {es : List PyData} {te : TE} {Q : VK} (hz : leafB (.str z) = true) (hσ : σ[1]? = some (some (.str z))) (hl : ys.length ≤ 1000) (e : Ex H0 H1) (hD : H1 D = some (.lst ys)) (hy : Pz (nwD H0 D H1) ys es) (k : ∀ l H', Ex H0 H' → Du (nw H0 H') (.ref l) (.list (.str z :: es)) → Q (.ref l) H')
    (ht : ∀ Q' : VK, Q' (.ref D) H1 → te σ H0 Q') : tLst (tCons (tVar 1) (StX.tStar K te tNil)) σ H0 Q := by
  refine ⟨_, hσ, ht _ ⟨D, ys, rfl, .inr (sq_of hD), ?_⟩⟩
  refine ⟨sz_of (by show (V.str z :: (ys ++ [])).length ≤ 100000; rw [List.append_nil, List.length_cons]; omega), fun l hl => ?_⟩
  have e2 : Ex H1 (upd H1 l (.lst (V.str z :: (ys ++ [])))) := Ex.new hl
  refine k l _ (e.trans e2) ?_
  have up : Ex (nwD H0 D H1) (nw H0 (upd H1 l (.lst (V.str z :: (ys ++ []))))) := fun b o q => by
    obtain ⟨_, q⟩ := wo_some q
    exact nw_up e2 _ _ q
  refine .lst (xs := V.str z :: ys) (nw_at (fresh_back e hl) (by rw [upd_same, List.append_nil])) (by rw [List.length_cons, List.length_cons, hy.1]) fun i x d p q => ?_
  cases i with
  | zero =>
    obtain rfl : V.str z = x := by simpa using p
    obtain rfl : PyData.str z = d := by simpa using q
    exact Du.str hz
  | succ i => exact (hy.2 i x d (by simpa using p) (by simpa using q)).ex up
end
end K50
end

section
set_option Elab.async false
set_option linter.all false
set_option maxRecDepth 100000
set_option maxHeartbeats 4000000
namespace K50
open PySem PySem.Spec PyProof.Rows L2 He Cn Evl DtU RpV RpD SqI ExT LcS
section
variable {P : Program} {w : World} {K : PySem.W.Frag} {mg : Str → Option Value} {base : Heap}
def tItems (K : PySem.W.Frag) (spR : Sp) : TE := tLc (iSeq K (tVar 0)) (gName 2) tYes (tCall spR [] E0 (tCons (tVar 2) tNil)) [2]
def tEntries (spR : Sp) : TE := tLockE (tLc (iKeys (tVar 0)) (gName 3) tYes (tLst (tCons (tVar 3) (tCons (tCall spR [] E0 (tCons (tDGet (tVar 0) (tVar 3)) tNil)) tNil))) [3])
/-- what a call on a part comes to -/
def RecP (n : Nat) (spR : Sp) : Prop := ∀ (v : V) (d : PyData) (H : Hp) (Q : VK) (E : XK), Du H v d → Val n d → (∀ u H', Ex H H' → Du (nw H H') u (pl d) → Q u H') → spR [v] H Q E
theorem rd_items {n : Nat} {spR : Sp} (R : RecP n spR) {H : Hp} {a : Addr} {xs : List V} {ds : List PyData} {z : Str} (hx : Its2 H a xs) (hz : Pz H xs ds) (hv : ∀ d, d ∈ ds → Val n d) (hl : ds.length ≤ 3) {Q : VK} (k : ∀ D ys H', Ex H H' → H' D = some (.lst ys) → Pz (nwD H D H') ys (plAll ds) → Q (.ref D) H') :
    tItems K spR [some (.ref a), some (.str z), none, none, none, none] H Q := by
  refine rd_lcSq (fun x => rfl) (ev_var rfl) hx (fun D i H' => ∃ ys, Ex H H' ∧ H D = none ∧ H' D = some (.lst ys) ∧ Pz (nwD H D H') ys ((ds.take i).map pl)) (fun D H1 e hD => ⟨[], e.trans (Ex.new hD), fresh_back e hD, upd_same, rfl, fun i x d p => by simp at p⟩) (fun D i H' p o q => p.choose_spec.1 _ _ q) ?_ ?_
  · rintro D i x H1 hxi ⟨ys, e1, hD0, hD, hy⟩
    obtain ⟨d, hdi⟩ : ∃ d, ds[i]? = some d := at_some (by have := (List.getElem?_eq_some_iff.mp hxi).1; rw [hz.1] at this; exact this)
    refine ⟨_, rfl, R x d H1 _ _ ((hz.2 i x d hxi hdi).ex e1) (hv d (List.mem_of_getElem? hdi)) fun u H2 e2 hu => ⟨ys, e2 _ _ hD, ?_, ys ++ [u], Ex.mut (e1.trans e2) hD0, hD0, upd_same, ?_⟩⟩
    · have := hy.1
      rw [List.length_map, List.length_take] at this
      exact sz_lt (by omega)
    · have et : (ds.take (i + 1)).map pl = (ds.take i).map pl ++ [pl d] := by
        rw [List.take_add_one, hdi]
        simp
      rw [et]
      have f : ∀ b o, H1 b = some o → b ≠ D → upd H2 D (.lst (ys ++ [u])) b = some o := fun b o h nb => by rw [upd_ne nb]; exact e2 _ _ h
      refine Pz.app ⟨hy.1, fun i x d p q => (hy.2 i x d p q).ex (nwD_step f)⟩ (show Pz _ [u] [pl d] from ⟨rfl, fun i x d' p q => ?_⟩)
      have hi : i = 0 := by
        have := (List.getElem?_eq_some_iff.mp p).1
        simp at this
        exact this
      subst hi
      obtain rfl : u = x := by simpa using p
      obtain rfl : pl d = d' := by simpa using q
      exact (hu.ex (nw_nwD (fun b hb => fresh_back e1 hb) (by rw [hD]; simp))).ex (nwD_step fun b o h nb => by rw [upd_ne nb]; exact h)
  · rintro D H1 ⟨ys, e1, hD0, hD, hy⟩
    rw [hz.1, List.take_length] at hy
    exact k D ys H1 e1 hD (by rw [plAll_map]; exact hy)
theorem rd_entries {n : Nat} {spR : Sp} (R : RecP n spR) {H : Hp} {a : Addr} {kvs : List (L2.Key × V)} {ds : List (PyData × PyData)} {z : Str} (hk : H a = some (.dK kvs)) (h2 : ds.map Prod.fst = kvs.map fun p => keyD p.1) (h3 : ∀ (i : Nat) (x : L2.Key × V) (d : PyData × PyData), kvs[i]? = some x → ds[i]? = some d → Du H x.2 d.2) (hlf : ∀ p, p ∈ ds → leafB p.1 = true) (hnd : (ds.map Prod.fst).Nodup)
    (hv : ∀ p, p ∈ ds → Val n p.2) (hl : ds.length ≤ 3) {Q : VK} (k : ∀ D ys H', Ex H H' → H' D = some (.lst ys) → Pz (nwD H D H') ys (plKv ds) → Q (.ref D) H') :
    tEntries spR [some (.ref a), some (.str z), none, none, none, none] H Q := by
  have hlen : kvs.length = ds.length := by have := congrArg List.length h2; simpa using this.symm
  have hself : Du H (.ref a) (.dict ds) := .dct hk h2 h3
  have ndk := nd_keys h2 hnd
  refine rd_lcKeys (fun x => rfl) hk (fun od => ev_var rfl) (fun od D i H' => ∃ ys, H' a = some (.frz od (.dK kvs)) ∧ (∀ b o, H b = some o → b ≠ a → H' b = some o) ∧ H D = none ∧ H' D = some (.lst ys) ∧ D ≠ a ∧ Pz (nwD H D H') ys ((ds.take i).map fun p => .list [p.1, pl p.2])) (fun od D H1 e hD => ?_) (fun od D i H' p => p.choose_spec.1) ?_ ?_
  · have hDa : D ≠ a := fun q => by rw [q, e _ _ upd_same] at hD; cases hD
    refine ⟨[], by rw [upd_ne hDa.symm]; exact e _ _ upd_same, fun b o h nb => ?_, ?_, upd_same, hDa, rfl, fun i x d p => by simp at p⟩
    · have h1 := e b o (by rw [upd_ne nb]; exact h)
      rw [upd_ne (ne_of_none h1 hD)]
      exact h1
    · have := fresh_back e hD
      rw [upd_ne hDa] at this
      exact this
  · rintro od D i kk v H1 hki ⟨ys, ha, f1, hD0, hD, hDa, hy⟩
    obtain ⟨⟨pk, pv_⟩, hdi⟩ : ∃ d, ds[i]? = some d := at_some (by have := (List.getElem?_eq_some_iff.mp hki).1; rw [hlen] at this; exact this)
    have hm := List.mem_of_getElem? hdi
    have ek : pk = keyD kk := by
      have e1 : (ds.map Prod.fst)[i]? = some pk := by rw [List.getElem?_map, hdi]; rfl
      rw [h2, List.getElem?_map, hki] at e1
      exact (Option.some.inj e1).symm
    have hdep : pv_.depth < (PyData.dict ds).depth := by
      have : pv_.depth ≤ PyData.depthKv ds := depth_kv hm
      show _ < PyData.depthKv ds + 1
      omega
    have eW : Ex (wo H a) H1 := fun b o h => by
      obtain ⟨nb, h⟩ := wo_some h
      exact f1 b o h nb
    have hdu : Du H1 v pv_ := ((hself.wo (h3 i (kk, v) (pk, pv_) hki hdi)) hdep).ex eW
    refine ⟨_, rfl, ?_⟩
    refine ev_datK (k := kk) (ev_var (v := .ref a) rfl) (ev_var rfl) (.inr ⟨od, ha⟩) (val_of ndk hki) H1 (Ex.refl _) _ fun H1' e1' => ?_
    refine R v pv_ H1' _ _ (hdu.ex e1') (hv _ hm) fun u H2 e2 hu => ⟨by show 2 ≤ sizeLine; decide, fun l hl' => ?_⟩
    have e12 := e1'.trans e2
    have e3 : Ex H2 (upd H2 l (.lst [kV kk, u])) := Ex.new hl'
    have l3 : upd H2 l (.lst [kV kk, u]) l = some (.lst [kV kk, u]) := upd_same
    generalize upd H2 l (.lst [kV kk, u]) = H3 at *
    have e13 := e12.trans e3
    have hD3 := e13 _ _ hD
    have hlH1 : H1 l = none := fresh_back e12 hl'
    have hlD : l ≠ D := (ne_of_none hD hlH1).symm
    have hla : l ≠ a := (ne_of_none ha hlH1).symm
    have hlH : H l = none := by
      cases q : H l with
      | none => rfl
      | some o => rw [f1 l o q hla] at hlH1; cases hlH1
    have newH : ∀ b, H1 b = none → H b = none := fun b hb => by
      cases q : H b with
      | none => rfl
      | some o =>
        by_cases nb : b = a
        · rw [nb, ha] at hb; cases hb
        · rw [f1 b o q nb] at hb; cases hb
    refine ⟨ys, hD3, ?_, ys ++ [.ref l], by rw [upd_ne hDa.symm]; exact e13 _ _ ha, fun b o h nb => ?_, hD0, upd_same, hDa, ?_⟩
    · have := hy.1
      rw [List.length_map, List.length_take] at this
      exact sz_lt (by omega)
    · have hbD : b ≠ D := ne_of_none h hD0
      rw [upd_ne hbD]
      exact e13 _ _ (f1 b o h nb)
    · have et : (ds.take (i + 1)).map (fun p => PyData.list [p.1, pl p.2]) = (ds.take i).map (fun p => PyData.list [p.1, pl p.2]) ++ [.list [pk, pl pv_]] := by
        rw [List.take_add_one, hdi]
        simp
      rw [et]
      have f : ∀ b o, H1 b = some o → b ≠ D → upd H3 D (.lst (ys ++ [.ref l])) b = some o := fun b o h nb => by rw [upd_ne nb]; exact e13 _ _ h
      refine Pz.app ⟨hy.1, fun i x d p q => (hy.2 i x d p q).ex (nwD_step f)⟩ (show Pz _ [V.ref l] [PyData.list [pk, pl pv_]] from ⟨rfl, fun i x d' p q => ?_⟩)
      have hi : i = 0 := by
        have := (List.getElem?_eq_some_iff.mp p).1
        simp at this
        exact this
      subst hi
      obtain rfl : V.ref l = x := by simpa using p
      obtain rfl : PyData.list [pk, pl pv_] = d' := by simpa using q
      have lG : nwD H D (upd H3 D (.lst (ys ++ [.ref l]))) l = some (.lst [kV kk, u]) := by
        show wo (nw H _) D l = _
        rw [wo_ne hlD]
        exact nw_at hlH (by rw [upd_ne hlD]; exact l3)
      refine .lst lG rfl fun j y e p q => ?_
      match j, p, q with
      | 0, p, q =>
        obtain rfl : kV kk = y := by simpa using p
        obtain rfl : pk = e := by simpa using q
        rw [ek]
        exact du_key (by rw [← ek]; exact hlf _ hm)
      | 1, p, q =>
        obtain rfl : u = y := by simpa using p
        obtain rfl : pl pv_ = e := by simpa using q
        have g1 : Du (nwD H D H2) u (pl pv_) := hu.ex (nw_nwD (fun b hb => newH b (fresh_back e1' hb)) (by rw [e1' _ _ hD]; simp))
        exact g1.ex (nwD_step fun b o h nb => by rw [upd_ne nb]; exact e3 _ _ h)
      | j + 2, p, _ => simp at p
  · rintro od D H1 ⟨ys, ha, f1, hD0, hD, hDa, hy⟩
    rw [hlen, List.take_length] at hy
    have e : Ex H (upd H1 a (.dK kvs)) := fun b o h => by
      by_cases nb : b = a
      · subst nb
        rw [upd_same]
        rw [hk] at h
        exact h
      · rw [upd_ne nb]
        exact f1 b o h nb
    have up : Ex (nwD H D H1) (nwD H D (upd H1 a (.dK kvs))) := fun b o h => by
      obtain ⟨nb, h⟩ := wo_some h
      obtain ⟨q1, q2⟩ := nw_some h
      show wo (nw H _) D b = _
      rw [wo_ne nb]
      refine nw_at q1 ?_
      rw [upd_ne (fun z => by rw [z, hk] at q1; cases q1)]
      exact q2
    exact k D ys _ e (by rw [upd_ne hDa]; exact hD) (by rw [plKv_map]; exact ⟨hy.1, fun i x d p q => (hy.2 i x d p q).ex up⟩)
end
end K50
end

section
set_option Elab.async false
set_option linter.all false
set_option maxRecDepth 100000
set_option maxHeartbeats 4000000
namespace K50
open PySem PySem.Spec PyProof.Rows L2 He Cn Evl DtU RpV RpD SqI ExT LcS
section
variable {P : Program} {w : World} {K : PySem.W.Frag} {mg : Str → Option Value} {base : Heap}
theorem pl_sc {H G : Hp} {v : V} {d : PyData} (h : Du H v d) (h1 : tyD d ≠ "list") (h2 : tyD d ≠ "tuple") (h3 : tyD d ≠ "dict") : Du G v (pl d) := by
  cases h with
  | leaf h => rw [pl_leaf h]; exact .leaf h
  | lst _ _ _ => exact (h1 rfl).elim
  | tup _ _ _ => exact (h2 rfl).elim
  | dct _ _ _ => exact (h3 rfl).elim
theorem rd_disp2 {σ : L2.St} {H0 : Hp} {z : Str} {es : List PyData} {te : TE} {Q : VK} (hz : leafB (.str z) = true) (hσ : σ[1]? = some (some (.str z)))
    (ht : ∀ Q' : VK, (∀ D ys H1, Ex H0 H1 → H1 D = some (.lst ys) → Pz (nwD H0 D H1) ys es → Q' (.ref D) H1) → te σ H0 Q') (hl : es.length ≤ 1000) (k : ∀ l H', Ex H0 H' → Du (nw H0 H') (.ref l) (.list (.str z :: es)) → Q (.ref l) H') :
    tLst (tCons (tVar 1) (StX.tStar K te tNil)) σ H0 Q := by
  refine ⟨_, hσ, ht _ fun D ys H1 e hD hy => ⟨D, ys, rfl, .inr (sq_of hD), ?_⟩⟩
  have hl' := hy.1
  refine ⟨sz_of (by show (V.str z :: (ys ++ [])).length ≤ 100000; rw [List.append_nil, List.length_cons]; omega), fun l hl => ?_⟩
  have e2 : Ex H1 (upd H1 l (.lst (V.str z :: (ys ++ [])))) := Ex.new hl
  refine k l _ (e.trans e2) ?_
  have up : Ex (nwD H0 D H1) (nw H0 (upd H1 l (.lst (V.str z :: (ys ++ []))))) := fun b o q => by
    obtain ⟨_, q⟩ := wo_some q
    exact nw_up e2 _ _ q
  refine .lst (xs := V.str z :: ys) (nw_at (fresh_back e hl) (by rw [upd_same, List.append_nil])) (by rw [List.length_cons, List.length_cons, hy.1]) fun i x d p q => ?_
  cases i with
  | zero =>
    obtain rfl : V.str z = x := by simpa using p
    obtain rfl : PyData.str z = d := by simpa using q
    exact Du.str hz
  | succ i => exact (hy.2 i x d (by simpa using p) (by simpa using q)).ex up
def srtTab : List (Str × String) := [("none", "NoneType"), ("truth", "bool"), ("integer", "int"), ("text", "str"), ("list", "list"), ("tuple", "tuple"), ("dict", "dict")]
theorem srt_in (d : PyData) : (sortD d, tyD d) ∈ srtTab := by cases d <;> simp [sortD, tyD, srtTab]
theorem tab_seq : ∀ p, p ∈ srtTab → (decide (p.1 = ("tuple" : Str)) || decide (p.1 = ("list" : Str))) = true → p.2 = "tuple" ∨ p.2 = "list" := by decide
theorem tab_dct : ∀ p, p ∈ srtTab → decide (p.1 = ("dict" : Str)) = true → p.2 = "dict" := by decide
theorem tab_rec : ∀ p, p ∈ srtTab → decide (V.str p.1 = V.str ("record" : Str)) = false := by decide
theorem srt_seq (d : PyData) (h : (decide (sortD d = "tuple") || decide (sortD d = "list")) = true) : tyD d = "tuple" ∨ tyD d = "list" := tab_seq _ (srt_in d) h
theorem srt_dct (d : PyData) (h : decide (sortD d = "dict") = true) : tyD d = "dict" := tab_dct _ (srt_in d) h
theorem plain_step {n j : Nat} {spR : Sp} (T : Txt K mg) (hj : j ≤ n + 2) (CR : Can P w K mg base CX0 j "_plain_of" ["value"] spR) (RV : ∀ d, Val n d → leafB d = true ∨ ∃ m, RecP m spR ∧ (∀ ds, d = .list ds ∨ d = .tuple ds → ds.length ≤ 3 ∧ ∀ e, e ∈ ds → Val m e) ∧ ∀ ds, d = .dict ds → (∀ p, p ∈ ds → leafB p.1 = true) ∧ (ds.map Prod.fst).Nodup ∧ (∀ p, p ∈ ds → Val m p.2) ∧ ds.length ≤ 3) : Can P w K mg base CX0 (n + 3) "_plain_of" ["value"] (spPlain n) := by
  have CS : Can P w K mg base CX0 2 "sort_of" ["value"] spSortD := can_sortD T
  refine can_of T.g__plain_of T.F__plain_of (fun fd F => ?_) (fun _ _ _ _ _ _ us hl => match us, hl with | [_], _ => rfl)
  refine F.ok sc__plain_of (fun vs H Q E h => ?_) (fun cdv A outer s H vs Q E hr h => ?_)
  · obtain ⟨v, d, rfl, _⟩ := h
    rfl
  · obtain ⟨v, d, rfl, hd, hv, fin⟩ := h
    have nd := sc__plain_of.nd
    have hu : (A.deeper (envOfC "_plain_of" (defScope s__plain_of) s.heap.objs.size (ga K "_plain_of") cdv)).units + 1 < cLine := Nat.lt_of_le_of_lt (Nat.add_le_add_left (by decide) _) hr.units
    refine ⟨_, pss_cons (ps_if (PW.pt (pw_or (pt_cmpR op_isTyR (pe_callTy call_type1 (by rfl) T.n_type (by decide +kernel) (pa_cons (pv 0) pa_nil)) (pe_bltn rfl T.n_int (v := .ty "int") (by decide +kernel) rfl) (nomark _)) (pw_or1 (pt_cmpR op_isTyR (pe_callTy call_type1 (by rfl) T.n_type (by decide +kernel) (pa_cons (pv 0) pa_nil)) (pe_bltn rfl T.n_str (v := .ty "str") (by decide +kernel) rfl) (nomark _))))) (pss_one (ps_ret (pv 0))) pss_nil)
      (pss_cons (ps_set (i := 1) nd rfl (.inl rfl) (pe_can CS hr pass0 (pa_cons (pv 0) pa_nil) (hjk := by omega)))
      (pss_cons (ps_if (PW.pt (pw_or (pt_cmpR op_eq (pv 1) pe_str (nomark _)) (pw_or1 (pt_cmpR op_eq (pv 1) pe_str (nomark _))))) (pss_one (ps_ret (pe_lst (pa_cons (pv 1) (StX.pa_star (pe_lc (own := [("item", 2)]) (wi := iSeq K (tVar 0)) (g := gName 2) (tt := tYes) (te := tCall spR [] E0 (tCons (tVar 2) tNil)) rfl nd (pi_seq (pv 0)) (blkOk_by (N := ["value", "sort", "item", "key", "name", "part"]) (sc := defScope s__plain_of) (by decide +kernel)) (fun _ _ _ _ _ => pg_name (i := 2) nd rfl (.inl rfl)) (fun _ _ _ _ _ => pts_nil) (fun _ _ _ _ _ => pe_can CR hr pass0 (pa_cons (pv 2) pa_nil) (hjk := by omega))) pa_nil))))) pss_nil)
      (pss_cons (ps_if (pt_cmpR op_eq (pv 1) pe_str (nomark _)) (pss_one (ps_ret (pe_lst (pa_cons (pv 1) (StX.pa_star (pe_lock (pe_lc (own := [("key", 3)]) (wi := iKeys (tVar 0)) (g := gName 3) (tt := tYes) (te := tLst (tCons (tVar 3) (tCons (tCall spR [] E0 (tCons (tDGet (tVar 0) (tVar 3)) tNil)) tNil))) rfl nd (pi_keys (pv 0)) (blkOk_by (N := ["value", "sort", "item", "key", "name", "part"]) (sc := defScope s__plain_of) (by decide +kernel)) (fun _ _ _ _ _ => pg_name (i := 3) nd rfl (.inl rfl)) (fun _ _ _ _ _ => pts_nil) (fun _ _ _ _ _ => pe_lst (pa_cons (pv 3) (pa_cons (pe_can CR hr pass0 (pa_cons (pe_dget (by exact hu) (pv 0) (pv 3) (fun _ _ => rfl)) pa_nil) (hjk := by omega)) pa_nil))))) pa_nil))))) pss_nil)
      (pss_cons (ps_if (pt_cmpR op_eq (pv 1) pe_str (nomark _)) (pss_one ps_never) pss_nil)
      (pss_one (ps_ret (pv 0))))))), ?_⟩
    refine q_when (b := decide (tyD d = "int") || decide (tyD d = "str")) (et_or (et_tyD (ev_var rfl) hd) fun _ => et_tyD (ev_var rfl) hd) (fun hb H1 e1 => s_ret (ev_var rfl) fun H2 e2 => fin v H2 (e1.trans e2) (pl_sc hd (fun z => by simp [z] at hb) (fun z => by simp [z] at hb) (fun z => by simp [z] at hb))) fun hb H1 e1 => ?_
    refine q_asgE ?_
    refine ⟨_, rfl, v, d, rfl, hd.ex e1, fun H2 e2 => ?_⟩
    have e02 := e1.trans e2
    have hd2 := hd.ex e02
    refine q_when (b := decide (sortD d = "tuple") || decide (sortD d = "list")) (et_or (et_is (et_test (ev_op (ev_var rfl) ev_c (rv_eq rfl))) (by simp)) fun _ => et_is (et_test (ev_op (ev_var rfl) ev_c (rv_eq rfl))) (by simp)) (fun hb2 H3 e3 => ?_) fun hb2 H3 e3 => ?_
    · have e03 := e02.trans e3
      have hd3 := hd2.ex e3
      obtain hx | hx := RV d hv
      · rcases srt_seq d hb2 with q | q <;> cases d <;> first | (simp [leafB] at hx; done) | (simp [tyD] at q; done)
      obtain ⟨m, R, r1, _⟩ := hx
      have main : ∀ (a : Addr) (xs : List V) (ds : List PyData) (z : Str), leafB (.str z) = true → Its2 H3 a xs → Pz H3 xs ds → v = .ref a → sortD d = z → pl d = .list (.str z :: plAll ds) → (d = .list ds ∨ d = .tuple ds) → tLst (tCons (tVar 1) (StX.tStar K (tItems K spR) tNil)) [some v, some (.str (sortD d)), none, none, none, none] H3 Q := by
        rintro a xs ds z hz hx hp rfl hs hpl hdd
        rw [hs]
        obtain ⟨l3, hve⟩ := r1 ds hdd
        refine rd_disp2 hz rfl (es := plAll ds) (fun Q' q' => rd_items R hx hp hve l3 fun D ys H' e hD hy => q' D ys H' e hD hy) (by rw [plAll_map, List.length_map]; omega) fun l H' e hl => ?_
        refine fin _ H' (e03.trans e) ?_
        rw [hpl]
        exact hl.ex (nw_low e03)
      cases hd3 with
      | leaf h => rcases srt_seq _ hb2 with q | q <;> cases v <;> first | (simp [datOf, tyD] at q; done) | cases h
      | @lst a xs ds h1 h2 h3 => exact main a xs ds "list" (by decide) (.inl h1) ⟨h2, h3⟩ rfl rfl (by unfold pl; rfl) (.inl rfl)
      | @tup a xs ds h1 h2 h3 => exact main a xs ds "tuple" (by decide) (.inr h1) ⟨h2, h3⟩ rfl rfl (by unfold pl; rfl) (.inr rfl)
      | dct _ _ _ => rcases srt_seq _ hb2 with q | q <;> simp [tyD] at q
    refine q_when (b := decide (sortD d = "dict")) (et_is (et_test (ev_op (ev_var rfl) ev_c (rv_eq rfl))) (by simp)) (fun hb3 H4 e4 => ?_) fun hb3 H4 e4 => ?_
    · have e04 := (e02.trans e3).trans e4
      have hd4 := (hd2.ex e3).ex e4
      obtain hx | hx := RV d hv
      · have q := srt_dct d hb3
        cases d <;> first | (simp [leafB] at hx; done) | (simp [tyD] at q; done)
      obtain ⟨m, R, _, r2⟩ := hx
      cases hd4 with
      | leaf h =>
        have q := srt_dct _ hb3
        cases v <;> first | (simp [datOf, tyD] at q; done) | cases h
      | @dct a kvs ds h1 h2 h3 =>
        obtain ⟨k1, k2, k3, k4⟩ := r2 ds rfl
        show tLst (tCons (tVar 1) (StX.tStar K (tEntries spR) tNil)) [some (.ref a), some (.str "dict"), none, none, none, none] H4 Q
        refine rd_disp2 (z := "dict") (by decide) rfl (es := plKv ds) (fun Q' q' => rd_entries R h1 h2 h3 k1 k2 k3 k4 fun D ys H' e hD hy => q' D ys H' e hD hy) (by rw [plKv_map, List.length_map]; omega) fun l H' e hl => ?_
        refine fin _ H' (e04.trans e) ?_
        rw [show pl (.dict ds) = .list (.str "dict" :: plKv ds) by unfold pl; rfl]
        exact hl.ex (nw_low e04)
      | lst _ _ _ => have q := srt_dct _ hb3; simp [tyD] at q
      | tup _ _ _ => have q := srt_dct _ hb3; simp [tyD] at q
    refine q_when (b := false) (et_is (et_test (ev_op (ev_var rfl) ev_c (rv_eq rfl))) (tab_rec _ (srt_in d))) (fun h => by cases h) fun _ H5 e5 => ?_
    refine s_ret (ev_var rfl) fun H6 e6 => fin v H6 ((((e02.trans e3).trans e4).trans e5).trans e6) (pl_sc hd ?_ ?_ ?_)
    · intro z; rw [show sortD d = "list" by cases d <;> first | rfl | (simp [tyD] at z; done)] at hb2; revert hb2; decide
    · intro z; rw [show sortD d = "tuple" by cases d <;> first | rfl | (simp [tyD] at z; done)] at hb2; revert hb2; decide
    · intro z; rw [show sortD d = "dict" by cases d <;> first | rfl | (simp [tyD] at z; done)] at hb3; revert hb3; decide
theorem can_plain0 (T : Txt K mg) : Can P w K mg base CX0 1 "_plain_of" ["value"] (fun _ _ _ _ => False) :=
  can_of T.g__plain_of T.F__plain_of (fun fd F => F.ok sc__plain_of (fun vs H Q E h => h.elim) (fun cdv A outer s H vs Q E hr h => h.elim)) (fun _ _ _ _ _ _ us hl => match us, hl with | [_], _ => rfl)
theorem can_plainOf (T : Txt K mg) : ∀ n, Can P w K mg base CX0 (n + 3) "_plain_of" ["value"] (spPlain n)
  | 0 => plain_step T (j := 1) (by omega) (can_plain0 T) fun d hv => by
    cases hv with
    | leaf h => exact .inl h
  | n + 1 => plain_step T (j := n + 3) (by omega) (can_plainOf T n) fun d hv => by
    cases hv with
    | leaf h => exact .inl h
    | lst h hl => exact .inr ⟨n, fun v d H Q E hd hv k => ⟨v, d, rfl, hd, hv, k⟩, fun es he => by rcases he with q | q <;> cases q; exact ⟨hl, h⟩, fun es he => by cases he⟩
    | tup h hl => exact .inr ⟨n, fun v d H Q E hd hv k => ⟨v, d, rfl, hd, hv, k⟩, fun es he => by rcases he with q | q <;> cases q; exact ⟨hl, h⟩, fun es he => by cases he⟩
    | dct hk hn h hl => exact .inr ⟨n, fun v d H Q E hd hv k => ⟨v, d, rfl, hd, hv, k⟩, fun es he => (by rcases he with q | q <;> cases q), fun es he => by cases he; exact ⟨fun p hp => (hk p hp).choose_spec.2, hn, h, hl⟩⟩
def spPlainW (n : Nat) : Sp := fun vs H Q _ => ∃ (v : V) (d : PyData), vs = [v] ∧ Du H v d ∧ Val n d ∧ nod d < 5000 ∧ d.depth ≤ 50 ∧ ∀ u H', Ex H H' → Du (nw H H') u (pl d) → Q u H'
theorem can_plain (T : Txt K mg) (n : Nat) : Can P w K mg base CX0 (n + 5) "plain" ["value"] (spPlainW n) := by
  have CD : Can P w K mg base CX0 4 "check_depth" ["value"] spDepthD := can_depthD T
  have CP : Can P w K mg base CX0 (n + 3) "_plain_of" ["value"] (spPlain n) := can_plainOf T n
  refine can_of T.g_plain T.F_plain (fun fd F => ?_) (fun _ _ _ _ _ _ us hl => match us, hl with | [_], _ => rfl)
  refine F.ok sc_plain (fun vs H Q E h => ?_) (fun cdv A outer s H vs Q E hr h => ?_)
  · obtain ⟨v, d, rfl, _⟩ := h
    rfl
  · obtain ⟨v, d, rfl, hd, hv, hn, hdp, fin⟩ := h
    refine ⟨_, pss_cons (ps_expr (pe_can CD hr pass0 (pa_cons (pv 0) pa_nil) (hjk := by omega)))
      (pss_one (ps_ret (pe_can CP hr pass0 (pa_cons (pv 0) pa_nil) (hjk := by omega)))), ?_⟩
    refine ⟨_, rfl, v, d, rfl, hd, hn, hdp, fun H1 e1 => ?_⟩
    exact ⟨_, rfl, v, d, rfl, hd.ex e1, hv, fun u H2 e2 hu => fin u H2 (e1.trans e2) (hu.ex (nw_low e1))⟩
end
end K50
end

section
set_option Elab.async false
set_option linter.all false
set_option maxRecDepth 100000
set_option maxHeartbeats 2000000
/-! f(k = e): a def of one parameter called by its name -/
namespace L2
open PySem PySem.Spec PyProof.Rows
section
variable {X : Cx} {CX : CXT} {k j : Nat} {f C : Addr} {fd : FuncData} {ps ks : List Str} {sp : Sp} {E : XK} {x m : Str} {p pos : Pos} {kws : List Keyword} {tk : TA} {g : List Value → List Value → List Value} {gV : List V → List V → List V}
/-- f(k = e, ..), no positionals -/
theorem pe_callK0 (F : FnOk X.prog X.w X.K X.mg X.base CX k f fd ps sp) (hr : Room k X.A) (hg : Gl X x) (hm : X.mg x = some (.ref f)) (hk : PySem.W.keepIn X.K (.ref f) = true) (hb : KBinds X.K fd ps ks g gV) (hx : Passes CX X E)
    (hkw : PK X kws tk) (hall : (backToKw pos (keywordEach kws X.env)).all (·.1.isSome) = true := by rfl) (hks : (backToKw pos (keywordEach kws X.env)).filterMap (·.1) = ks := by rfl)
    (hdb : (x == ("__debug__" : Str)) = false := by decide)
    (hpl : ((backTo pos (starEach [] X.env)).any (·.1) || (backToKw pos (keywordEach kws X.env)).any (·.1.isNone)) = false := by rfl) :
    PE X (.Call (.Name x p) [] kws pos) (tCallK sp gV E tNil tk) := by
  refine ⟨fun pins s σ H Q I h => ?_⟩
  refine wpAny_Call_Name_kw (ld_glob I hg hm ?_ hdb)
  refine PySem.W.callWith_KW0 (first := []) I.kIn hk hall (thn (hkw.run pos pins s σ H _ I h) fun ws s2 ⟨zs, H2, I2, rz, q2⟩ => ⟨I2.kIn, ?_⟩) hpl
  rw [hks]
  exact run_fnk (us := []) (vs := []) F hr hb hx I2 .nil rz q2
/-- a global def that may be called by its one parameter's name -/
structure Can1 (P : Program) (w : World) (K : PySem.W.Frag) (mg : Str → Option Value) (base : Heap) (CX : CXT) (k : Nat) (x n : Str) (sp : Sp) : Prop where
  ex : ∃ f fd, mg x = some (.ref f) ∧ FnOk P w K mg base CX k f fd [n] sp ∧ PySem.W.keepIn K (.ref f) = true ∧ KBinds K fd [n] [n] (fun us ws => us ++ ws) (fun vs zs => vs ++ zs)
theorem vals_app {vs zs : List V} {us ws : List Value} (r : Vals vs us) (rz : Vals zs ws) : Vals (vs ++ zs) (us ++ ws) := r.append rz
theorem pe_can1 {n : Str} (C : Can1 X.prog X.w X.K X.mg X.base CX j x n sp) (hr : Room k X.A) (hx : Passes CX X E) (hkw : PK X kws tk) (hjk : j ≤ k := by decide) (hg : Gl X x := by rfl)
    (hall : (backToKw pos (keywordEach kws X.env)).all (·.1.isSome) = true := by rfl) (hks : (backToKw pos (keywordEach kws X.env)).filterMap (·.1) = [n] := by rfl)
    (hdb : (x == ("__debug__" : Str)) = false := by decide)
    (hpl : ((backTo pos (starEach [] X.env)).any (·.1) || (backToKw pos (keywordEach kws X.env)).any (·.1.isNone)) = false := by rfl) :
    PE X (.Call (.Name x p) [] kws pos) (tCallK sp (fun vs zs => vs ++ zs) E tNil tk) := by
  obtain ⟨f, fd, hm, F, hk, hb⟩ := C.ex
  exact pe_callK0 F (hr.mono hjk) hg hm hk hb hx hkw hall hks hdb hpl
end
end L2
end

section
set_option Elab.async false
set_option linter.all false
set_option maxRecDepth 100000
set_option maxHeartbeats 4000000
namespace K50
open PySem PySem.Spec PyProof.Rows L2 He Cn Evl DtU RpV RpD SqI ExT LcS
/-- each stands in a part of its own -/
def Zon (G : Hp) (ys : List V) (es : List PyData) : Prop := ys.length = es.length ∧ ∃ Z : Nat → Hp, (∀ i, i < ys.length → Ex (Z i) G) ∧ (∀ i j b, i < ys.length → j < ys.length → i ≠ j → Z i b ≠ none → Z j b = none) ∧ ∀ i y e, ys[i]? = some y → es[i]? = some e → Du (Z i) y e
theorem Zon.nil {G : Hp} : Zon G [] [] := ⟨rfl, fun _ _ => none, fun i h => (Nat.not_lt_zero _ h).elim, fun i j b h => (Nat.not_lt_zero _ h).elim, fun i y e h => by simp at h⟩
theorem Zon.ex {G G' : Hp} {ys : List V} {es : List PyData} (e : Ex G G') (h : Zon G ys es) : Zon G' ys es := by
  obtain ⟨h1, Z, h2, h3, h4⟩ := h
  exact ⟨h1, Z, fun i hi => (h2 i hi).trans e, h3, h4⟩
theorem Zon.snoc {G G' N : Hp} {ys : List V} {es : List PyData} {u : V} {d : PyData} (h : Zon G ys es) (e : Ex G G') (eN : Ex N G') (dis : ∀ b, N b ≠ none → G b = none) (hu : Du N u d) : Zon G' (ys ++ [u]) (es ++ [d]) := by
  obtain ⟨h1, Z, h2, h3, h4⟩ := h
  have sub : ∀ i b, i < ys.length → Z i b ≠ none → G b ≠ none := fun i b hi hb hG => by
    cases q : Z i b with
    | none => exact hb q
    | some o => rw [h2 i hi b o q] at hG; cases hG
  have ll : (ys ++ [u]).length = ys.length + 1 := by simp
  refine ⟨by simp [h1], fun i => if i < ys.length then Z i else N, fun i hi => ?_, fun i j b hi hj hij hb => ?_, fun i y e' hy he => ?_⟩
  · by_cases q : i < ys.length
    · simp only [if_pos q]; exact (h2 i q).trans e
    · simp only [if_neg q]; exact eN
  · rw [ll] at hi hj
    by_cases q : i < ys.length
    · simp only [if_pos q] at hb
      by_cases r : j < ys.length
      · simp only [if_pos r]; exact h3 i j b q r hij hb
      · simp only [if_neg r]
        cases z : N b with
        | none => rfl
        | some o => exact absurd (dis b (by rw [z]; simp)) (sub i b q hb)
    · simp only [if_neg q] at hb
      have r : j < ys.length := by omega
      simp only [if_pos r]
      cases z : Z j b with
      | none => rfl
      | some o => exact absurd (dis b hb) (sub j b r (by rw [z]; simp))
  · by_cases q : i < ys.length
    · rw [List.getElem?_append_left q] at hy
      rw [List.getElem?_append_left (by omega)] at he
      simp only [if_pos q]
      exact h4 i y e' hy he
    · have hi : i = ys.length := by
        have := (List.getElem?_eq_some_iff.mp hy).1
        rw [ll] at this
        omega
      subst hi
      rw [List.getElem?_append_right (Nat.le_refl _)] at hy
      rw [h1, List.getElem?_append_right (Nat.le_refl _)] at he
      simp only [if_neg q]
      obtain rfl : u = y := by simpa using hy
      obtain rfl : d = e' := by simpa using he
      exact hu
theorem inv_lst0 {H : Hp} {y : V} {ds : List PyData} (h : Du H y (.list ds)) : ∃ b ys, y = .ref b ∧ H b = some (.lst ys) ∧ Pz H ys ds := by
  generalize e : PyData.list ds = d at h
  cases h with
  | leaf h => cases y <;> first | (cases h; done) | (cases e; done)
  | @lst b ys _ k1 k2 k3 => cases e; exact ⟨b, ys, rfl, k1, k2, k3⟩
  | tup _ _ _ => cases e
  | dct _ _ _ => cases e
section
variable {P : Program} {w : World} {K : PySem.W.Frag} {mg : Str → Option Value} {base : Heap}
theorem rd_itemsZ {n : Nat} {spR : Sp} (R : RecP n spR) {H : Hp} {a : Addr} {xs : List V} {ds : List PyData} {z : Str} (hx : Its2 H a xs) (hz : Pz H xs ds) (hv : ∀ d, d ∈ ds → Val n d) (hl : ds.length ≤ 3) {Q : VK} (k : ∀ D ys H', Ex H H' → H' D = some (.lst ys) → Zon (nwD H D H') ys (plAll ds) → Q (.ref D) H') :
    tItems K spR [some (.ref a), some (.str z), none, none, none, none] H Q := by
  refine rd_lcSq (fun x => rfl) (ev_var rfl) hx (fun D i H' => ∃ ys, Ex H H' ∧ H D = none ∧ H' D = some (.lst ys) ∧ Zon (nwD H D H') ys ((ds.take i).map pl)) (fun D H1 e hD => ⟨[], e.trans (Ex.new hD), fresh_back e hD, upd_same, .nil⟩) (fun D i H' p o q => p.choose_spec.1 _ _ q) ?_ ?_
  · rintro D i x H1 hxi ⟨ys, e1, hD0, hD, hy⟩
    obtain ⟨d, hdi⟩ : ∃ d, ds[i]? = some d := at_some (by have := (List.getElem?_eq_some_iff.mp hxi).1; rw [hz.1] at this; exact this)
    refine ⟨_, rfl, R x d H1 _ _ ((hz.2 i x d hxi hdi).ex e1) (hv d (List.mem_of_getElem? hdi)) fun u H2 e2 hu => ⟨ys, e2 _ _ hD, ?_, ys ++ [u], Ex.mut (e1.trans e2) hD0, hD0, upd_same, ?_⟩⟩
    · have := hy.1
      rw [List.length_map, List.length_take] at this
      exact sz_lt (by omega)
    · have et : (ds.take (i + 1)).map pl = (ds.take i).map pl ++ [pl d] := by
        rw [List.take_add_one, hdi]
        simp
      rw [et]
      have f : ∀ b o, H1 b = some o → b ≠ D → upd H2 D (.lst (ys ++ [u])) b = some o := fun b o h nb => by rw [upd_ne nb]; exact e2 _ _ h
      refine hy.snoc (N := nw H1 H2) (nwD_step f) ((nw_nwD (fun b hb => fresh_back e1 hb) (by rw [hD]; simp)).trans (nwD_step fun b o h nb => by rw [upd_ne nb]; exact h)) (fun b hb => ?_) hu
      cases q : nwD H D H1 b with
      | none => rfl
      | some o =>
        have h1 : H1 b = some o := (nw_some (wo_some q).2).2
        cases q2 : nw H1 H2 b with
        | none => exact absurd q2 hb
        | some o2 => rw [(nw_some q2).1] at h1; cases h1
  · rintro D H1 ⟨ys, e1, hD0, hD, hy⟩
    rw [hz.1, List.take_length] at hy
    exact k D ys H1 e1 hD (by rw [plAll_map]; exact hy)
theorem rd_dispZ {σ : L2.St} {H0 : Hp} {z : Str} {es : List PyData} {te : TE} {Q : VK} (hσ : σ[1]? = some (some (.str z)))
    (ht : ∀ Q' : VK, (∀ D ys H1, Ex H0 H1 → H1 D = some (.lst ys) → Zon (nwD H0 D H1) ys es → Q' (.ref D) H1) → te σ H0 Q') (hl : es.length ≤ 1000) (k : ∀ l ys H', Ex H0 H' → nw H0 H' l = some (.lst (.str z :: ys)) → Zon (wo (nw H0 H') l) ys es → Q (.ref l) H') : tLst (tCons (tVar 1) (StX.tStar K te tNil)) σ H0 Q := by
  refine ⟨_, hσ, ht _ fun D ys H1 e hD hy => ⟨D, ys, rfl, .inr (sq_of hD), ?_⟩⟩
  have hl' := hy.1
  refine ⟨sz_of (by show (V.str z :: (ys ++ [])).length ≤ 100000; rw [List.append_nil, List.length_cons]; omega), fun l hl => ?_⟩
  have e2 : Ex H1 (upd H1 l (.lst (V.str z :: (ys ++ [])))) := Ex.new hl
  refine k l ys _ (e.trans e2) (nw_at (fresh_back e hl) (by rw [upd_same, List.append_nil])) (hy.ex fun b o q => ?_)
  obtain ⟨_, q⟩ := wo_some q
  have nb : b ≠ l := ne_of_none (nw_some q).2 hl
  rw [wo_ne nb]
  exact nw_up e2 _ _ q
def spPlainZ (n : Nat) : Sp := fun vs H Q _ => ∃ (v : V) (ds : List PyData), vs = [v] ∧ Du H v (.list ds) ∧ Val n (.list ds) ∧ ∀ l ys H', Ex H H' → nw H H' l = some (.lst (.str "list" :: ys)) → Zon (wo (nw H H') l) ys (plAll ds) → Q (.ref l) H'
theorem can_plainOfZ (T : Txt K mg) (n : Nat) : Can P w K mg base CX0 (n + 4) "_plain_of" ["value"] (spPlainZ (n + 1)) := by
  have CS : Can P w K mg base CX0 2 "sort_of" ["value"] spSortD := can_sortD T
  have CR : Can P w K mg base CX0 (n + 3) "_plain_of" ["value"] (spPlain n) := can_plainOf T n
  refine can_of T.g__plain_of T.F__plain_of (fun fd F => ?_) (fun _ _ _ _ _ _ us hl => match us, hl with | [_], _ => rfl)
  refine F.ok sc__plain_of (fun vs H Q E h => ?_) (fun cdv A outer s H vs Q E hr h => ?_)
  · obtain ⟨v, d, rfl, _⟩ := h
    rfl
  · obtain ⟨v, ds, rfl, hd, hv, fin⟩ := h
    have nd := sc__plain_of.nd
    have hu : (A.deeper (envOfC "_plain_of" (defScope s__plain_of) s.heap.objs.size (ga K "_plain_of") cdv)).units + 1 < cLine := Nat.lt_of_le_of_lt (Nat.add_le_add_left (by decide) _) hr.units
    refine ⟨_, pss_cons (ps_if (PW.pt (pw_or (pt_cmpR op_isTyR (pe_callTy call_type1 (by rfl) T.n_type (by decide +kernel) (pa_cons (pv 0) pa_nil)) (pe_bltn rfl T.n_int (v := .ty "int") (by decide +kernel) rfl) (nomark _)) (pw_or1 (pt_cmpR op_isTyR (pe_callTy call_type1 (by rfl) T.n_type (by decide +kernel) (pa_cons (pv 0) pa_nil)) (pe_bltn rfl T.n_str (v := .ty "str") (by decide +kernel) rfl) (nomark _))))) (pss_one (ps_ret (pv 0))) pss_nil)
      (pss_cons (ps_set (i := 1) nd rfl (.inl rfl) (pe_can CS hr pass0 (pa_cons (pv 0) pa_nil) (hjk := by omega)))
      (pss_cons (ps_if (PW.pt (pw_or (pt_cmpR op_eq (pv 1) pe_str (nomark _)) (pw_or1 (pt_cmpR op_eq (pv 1) pe_str (nomark _))))) (pss_one (ps_ret (pe_lst (pa_cons (pv 1) (StX.pa_star (pe_lc (own := [("item", 2)]) (wi := iSeq K (tVar 0)) (g := gName 2) (tt := tYes) (te := tCall (spPlain n) [] E0 (tCons (tVar 2) tNil)) rfl nd (pi_seq (pv 0)) (blkOk_by (N := ["value", "sort", "item", "key", "name", "part"]) (sc := defScope s__plain_of) (by decide +kernel)) (fun _ _ _ _ _ => pg_name (i := 2) nd rfl (.inl rfl)) (fun _ _ _ _ _ => pts_nil) (fun _ _ _ _ _ => pe_can CR hr pass0 (pa_cons (pv 2) pa_nil) (hjk := by omega))) pa_nil))))) pss_nil)
      (⟨fun _ _ _ _ _ _ (h : False) => h.elim⟩ : PSs _ _ (fun _ _ _ => False)))), ?_⟩
    refine q_when (b := false) (et_is (et_or (et_tyD (ev_var rfl) hd) fun _ => et_tyD (ev_var rfl) hd) rfl) (fun h => by cases h) fun _ H1 e1 => ?_
    refine q_asgE ?_
    refine ⟨_, rfl, v, .list ds, rfl, hd.ex e1, fun H2 e2 => ?_⟩
    have e02 := e1.trans e2
    have hd2 := hd.ex e02
    have hb : (decide (sortD (.list ds) = "tuple") || decide (sortD (.list ds) = "list")) = true := by
      show (decide (("list" : Str) = "tuple") || decide (("list" : Str) = "list")) = true
      decide
    generalize hz0 : sortD (.list ds) = z at hb ⊢
    dsimp only [gName]
    refine q_when (b := decide (z = "tuple") || decide (z = "list")) (et_or (et_is (et_test (ev_op (ev_var rfl) ev_c (rv_eq rfl))) (by simp)) fun _ => et_is (et_test (ev_op (ev_var rfl) ev_c (rv_eq rfl))) (by simp)) (fun _ H3 e3 => ?_) fun h => absurd hb (by rw [h]; decide)
    have e03 := e02.trans e3
    obtain ⟨a, xs, rfl, h1, hp⟩ := inv_lst0 (hd2.ex e3)
    have R : RecP n (spPlain n) := fun v d H Q E hd hv k => ⟨v, d, rfl, hd, hv, k⟩
    obtain ⟨hl3, hve⟩ : ds.length ≤ 3 ∧ ∀ d, d ∈ ds → Val n d := by
      cases hv with
      | leaf h => cases h
      | lst h hl => exact ⟨hl, h⟩
    show tLst (tCons (tVar 1) (StX.tStar K (tItems K (spPlain n)) tNil)) [some (.ref a), some (.str z), none, none, none, none] H3 Q
    refine rd_dispZ (z := z) rfl (es := plAll ds) (fun Q' q' => rd_itemsZ R (.inl h1) hp hve hl3 fun D ys H' e hD hy => q' D ys H' e hD hy) (by rw [plAll_map, List.length_map]; omega) fun l ys H' e hl hz => ?_
    have hz1 : z = "list" := hz0.symm
    subst hz1
    refine fin l ys H' (e03.trans e) (nw_low e03 _ _ hl) (hz.ex fun b o q => ?_)
    obtain ⟨nb, q⟩ := wo_some q
    rw [wo_ne nb]
    exact nw_low e03 _ _ q
def spPlainZW (n : Nat) : Sp := fun vs H Q _ => ∃ (v : V) (ds : List PyData), vs = [v] ∧ Du H v (.list ds) ∧ Val n (.list ds) ∧ nod (.list ds) < 5000 ∧ (PyData.list ds).depth ≤ 50 ∧ ∀ l ys H', Ex H H' → nw H H' l = some (.lst (.str "list" :: ys)) → Zon (wo (nw H H') l) ys (plAll ds) → Q (.ref l) H'
theorem can_plainZ (T : Txt K mg) (n : Nat) : Can P w K mg base CX0 (n + 6) "plain" ["value"] (spPlainZW (n + 1)) := by
  have CD : Can P w K mg base CX0 4 "check_depth" ["value"] spDepthD := can_depthD T
  have CP : Can P w K mg base CX0 (n + 4) "_plain_of" ["value"] (spPlainZ (n + 1)) := can_plainOfZ T n
  refine can_of T.g_plain T.F_plain (fun fd F => ?_) (fun _ _ _ _ _ _ us hl => match us, hl with | [_], _ => rfl)
  refine F.ok sc_plain (fun vs H Q E h => ?_) (fun cdv A outer s H vs Q E hr h => ?_)
  · obtain ⟨v, d, rfl, _⟩ := h
    rfl
  · obtain ⟨v, ds, rfl, hd, hv, hn, hdp, fin⟩ := h
    refine ⟨_, pss_cons (ps_expr (pe_can CD hr pass0 (pa_cons (pv 0) pa_nil) (hjk := by omega)))
      (pss_one (ps_ret (pe_can CP hr pass0 (pa_cons (pv 0) pa_nil) (hjk := by omega)))), ?_⟩
    refine ⟨_, rfl, v, .list ds, rfl, hd, hn, hdp, fun H1 e1 => ?_⟩
    exact ⟨_, rfl, v, ds, rfl, hd.ex e1, hv, fun l ys H2 e2 hl hz => fin l ys H2 (e1.trans e2) (nw_low e1 _ _ hl) (hz.ex fun b o q => by
      obtain ⟨nb, q⟩ := wo_some q
      rw [wo_ne nb]
      exact nw_low e1 _ _ q)⟩
/-- plain(value=..) -/
theorem can_plain1 (T : Txt K mg) (n : Nat) : Can1 P w K mg base CX0 (n + 5) "plain" "value" (spPlainW n) := by
  have CD : Can P w K mg base CX0 4 "check_depth" ["value"] spDepthD := can_depthD T
  have CP : Can P w K mg base CX0 (n + 3) "_plain_of" ["value"] (spPlain n) := can_plainOf T n
  obtain ⟨fd, F⟩ := T.F_plain
  refine ⟨_, fd, T.g_plain, F.ok sc_plain (fun vs H Q E h => ?_) (fun cdv A outer s H vs Q E hr h => ?_), F.kp, ⟨fun s us ws _ hl => ?_, fun {vs us zs ws} r rz => vals_app r rz⟩⟩
  · obtain ⟨v, d, rfl, _⟩ := h
    rfl
  · obtain ⟨v, d, rfl, hd, hv, hn, hdp, fin⟩ := h
    refine ⟨_, pss_cons (ps_expr (pe_can CD hr pass0 (pa_cons (pv 0) pa_nil) (hjk := by omega)))
      (pss_one (ps_ret (pe_can CP hr pass0 (pa_cons (pv 0) pa_nil) (hjk := by omega)))), ?_⟩
    refine ⟨_, rfl, v, d, rfl, hd, hn, hdp, fun H1 e1 => ?_⟩
    exact ⟨_, rfl, v, d, rfl, hd.ex e1, hv, fun u H2 e2 hu => fin u H2 (e1.trans e2) (hu.ex (nw_low e1))⟩
  · obtain ⟨oc, od, kV, doc, pm, an, cdv, ct, osl, rfl, lk, hcd⟩ := F.ex
    match us, ws, hl with
    | [], [b], _ => exact .of_eq rfl
    | [a], [], _ => exact .of_eq rfl
    | [], [], h => cases h
    | [], _ :: _ :: _, h => cases h
    | [_], _ :: _, h => cases h
    | _ :: _ :: _, _, h => cases h
end
end K50
end

section
set_option Elab.async false
set_option linter.all false
set_option maxRecDepth 100000
set_option maxHeartbeats 2000000
/-! a method whose first statement is super().__init__(e, ..): the base's own def is called with the receiver -/
namespace SuC
open PySem PySem.Spec PyProof.Rows L2 StX
/-- a scope that has the class's cell as its one free name, and no cells -/
structure FnScopeS (N P : List Str) (sc : Scope) : Prop where
  kind : sc.kind = .function
  co : sc.isCoroutine = false
  gen : sc.isGenerator = false
  nd : N.Nodup
  pre : N.take P.length = P
  par : ∀ x ∈ P, sc.names.lookup x = some .local
  nocell : ∀ y ∈ sc.names, y.2 ≠ .cell
  free : ∀ y ∈ sc.names, y.2 = .free → y.1 = "__class__"
def cxS (CX : CXT) (P : Program) (w : World) (K : PySem.W.Frag) (mg : Str → Option Value) (base : Heap) (N : List Str) (qual : Str) (scope : Scope) (f : Addr) (cd : Value) (cc : Addr) (A : Around) (outer : List Env) (s : Shared) (H : Hp) (E : XK) : Cx where
  prog := P
  w := w
  K := K
  mg := mg
  base := base
  A := A.deeper (PySem.W.ksEnv qual scope s.heap.objs.size f cd cc)
  N := N
  s_0 := s
  H_0 := H
  env := PySem.W.ksEnv qual scope s.heap.objs.size f cd cc
  outer := outer
  stack := PySem.W.ksEnv qual scope s.heap.objs.size f cd cc :: outer
  ex := []
  calm := true
  fn := fun _ => false
  pn := []
  xe := fun e s' => wpAny (model P w) (A.deeper (PySem.W.ksEnv qual scope s.heap.objs.size f cd cc)) (leaving (PySem.W.ksEnv qual scope s.heap.objs.size f cd cc) e) (fun _ s'' => CX outer H s E e s'') (fun e' s'' => CX outer H s E e' s'') s'
theorem lookup_rev_zip {x : Str} {u : Value} : ∀ {P : List Str} {us : List Value} {i : Nat}, P.Nodup → P[i]? = some x → us[i]? = some u → (P.zip us).reverse.lookup x = some u
  | [], _, _, _, h, _ => by simp at h
  | _ :: _, [], _, _, _, h => by simp at h
  | p :: P, w :: us, 0, nd, h1, h2 => by
    simp at h1 h2
    subst h1 h2
    rw [List.zip_cons_cons, List.reverse_cons, List.lookup_append]
    have hn : (P.zip us).reverse.lookup p = none := by
      rw [List.lookup_eq_none_iff]
      intro q hq
      have hm := List.mem_reverse.mp hq
      have h3 : q.1 ∈ P := (List.of_mem_zip (a := q.1) (b := q.2) hm).1
      have : p ≠ q.1 := fun e => (List.nodup_cons.mp nd).1 (by rw [e]; exact h3)
      simpa using this
    rw [hn]
    simp
  | p :: P, w :: us, i + 1, nd, h1, h2 => by
    rw [List.zip_cons_cons, List.reverse_cons, List.lookup_append, lookup_rev_zip (i := i) (List.nodup_cons.mp nd).2 (by simpa using h1) (by simpa using h2)]
    rfl
section
variable {CX : CXT} {P : Program} {w : World} {K : PySem.W.Frag} {mg : Str → Option Value} {base : Heap} {k : Nat} {f cc Dc : Addr} {name qual : Str} {params : Arguments} {body : List Stmt} {scope : Scope} {dV kV doc pm cdv ct oc cl : Value} {an od cld : Option Addr}
  {osl csl : Array (Option Value)} {N ps : List Str} {sp : Sp}
theorem cell_one {x : Str} {c : Addr} (h : ([(("__class__" : Str), cc)] : List (Str × Addr)).lookup x = some c) : x = "__class__" ∧ c = cc := by
  by_cases e : x = "__class__"
  · subst e
    exact ⟨rfl, by simpa using h.symm⟩
  · have : (x == ("__class__" : Str)) = false := by simpa using e
    simp [List.lookup, this] at h
theorem inv_startS {A : Around} {outer : List Env} {s : Shared} {H : Hp} {E : XK} {us : List Value} {vs : List V} {h1 : Heap} {tk : Nat}
    (S : FnScopeS N ps scope) (hcc : K.lookup cc = some ⟨cl, cld, .cell (some (.ref Dc)), csl⟩) (hd : A.handled = none) (e0 : Env0 P w K mg base A outer s H) (hl : vs.length = ps.length) (r : Vals vs us)
    (hns : h1.Ns s.heap.objs.size (fun x => (ps.zip us).reverse.lookup x)) (hk : ∀ b o, s.heap.get? b = some o → h1.get? b = some o) :
    Inv (cxS CX P w K mg base N qual scope f cdv cc A outer s H E) [] (L2.start N vs) H { s with heap := h1, toks := tk } := by
  have hpl : ps.length ≤ N.length := by have := congrArg List.length S.pre; rw [List.length_take] at this; omega
  have noA : ∀ b : Addr, b ∉ (cxS CX P w K mg base N qual scope f cdv cc A outer s H E).ex := fun b z => absurd (show b ∈ ([] : List Addr) from z) (by simp)
  have kccB := e0.mod.kin _ _ hcc
  have kcc : h1.get? cc = some ⟨cl, cld, .cell (some (.ref Dc)), csl⟩ := hk _ _ (e0.bs _ _ kccB).1
  refine ⟨⟨e0.mod, S.kind, rfl, rfl, Nat.le_refl _, fun y z c h1 h2 => ?_, fun y hy => ?_, fun y c h _ => absurd h Bool.false_ne_true, fun _ => hd, Around.frames_deeper e0.frames, .inr ⟨rfl, rfl⟩, fun b z => absurd z (noA b), e0.bs, e0.bsz, fun b _ _ => noA b, fun b z => absurd z (noA b), e0.funs, e0.frf⟩,
    rfl, e0.bare, Un.kept hk, ⟨_, hns, fun i y v h1 h2 h3 => ?_⟩, fun y c h => ?_, e0.hok.fresh (Nat.le_refl _), fun y c h => ?_, fun p hp => absurd (show p ∈ ([] : List (Addr × Obj)) from hp) (by simp), e0.hok.kept hk, ?_⟩
  · exact (cell_one h1).1.trans (cell_one h2).1.symm
  · have hy : scope.names.lookup y = some .cell ∨ scope.names.lookup y = some .free := hy
    rcases hy with hy | hy
    · exact absurd rfl (S.nocell _ (PySem.mem_of_lookup hy))
    · have e := S.free _ (PySem.mem_of_lookup hy) rfl
      have e : y = "__class__" := e
      subst e
      exact ⟨cc, rfl⟩
  · have hi : i < vs.length := by
      unfold L2.start at h2
      by_cases hi : i < vs.length
      · exact hi
      · rw [List.getElem?_append_right (by simpa using hi)] at h2
        rw [List.getElem?_replicate] at h2
        split at h2 <;> cases h2
    have ha : vs[i]? = some v := by
      unfold L2.start at h2
      rw [List.getElem?_append_left (by simpa using hi), List.getElem?_map] at h2
      cases e : vs[i]? with
      | none => rw [e] at h2; cases h2
      | some a => rw [e] at h2; cases h2; rfl
    obtain ⟨u, hu, rv⟩ := r.get ha
    have hp : ps[i]? = some y := by
      rw [← S.pre, List.getElem?_take_of_lt (by omega)]; exact h1
    have ndP : ps.Nodup := by rw [← S.pre]; exact S.nd.sublist (List.take_sublist _ _)
    exact ⟨u, rv, .inl ⟨S.par y (List.mem_of_getElem? hp), lookup_rev_zip ndP hp hu⟩⟩
  · obtain ⟨_, rfl⟩ := cell_one h
    exact ⟨some (.ref Dc), _, kcc, rfl⟩
  · obtain ⟨_, rfl⟩ := cell_one h
    exact (e0.bs _ _ kccB).2
  · unfold L2.start
    show _ = N.length
    rw [List.length_append, List.length_map, List.length_replicate]
    omega
theorem run_bndS {A : Around} {outer : List Env} {s : Shared} {H : Hp} {args : Args} {Q : VK} {E : XK} {G : List V → Hp → Prop} (lk : K.lookup f = some ⟨oc, od, .func (PySem.W.ksFn name qual params body scope dV kV doc pm an cdv ct cc), osl⟩) (hcd : PySem.W.codeIn K cdv qual = true)
    (S : FnScopeS N ps scope) (hcc : K.lookup cc = some ⟨cl, cld, .cell (some (.ref Dc)), csl⟩) (hr : Room (k + 1) A) (e0 : Env0 P w K mg base A outer s H) (hb : Bnd CX P w K mg base (PySem.W.ksFn name qual params body scope dV kV doc pm an cdv ct cc) args ps A outer s H E G)
    (hbody : ∀ (s2 : Shared) (H2 : Hp) (vs : List V), G vs H2 → Room k (A.deeper (PySem.W.ksEnv qual scope s2.heap.objs.size f cdv cc)) → ∀ s1, Inv (cxS CX P w K mg base N qual scope f cdv cc A outer s2 H2 E) [] (L2.start N vs) H2 s1 →
      _root_.PySem.wpAt (model P w) (A.deeper (PySem.W.ksEnv qual scope s2.heap.objs.size f cdv cc)) (.func body (PySem.W.ksEnv qual scope s2.heap.objs.size f cdv cc)) (execs body (PySem.W.ksEnv qual scope s2.heap.objs.size f cdv cc))
        (SP (cxS CX P w K mg base N qual scope f cdv cc A outer s2 H2 E) [] { nx := fun _ H' => Q .non H', rt := Q }) (cxS CX P w K mg base N qual scope f cdv cc A outer s2 H2 E).xe s1) : codeAny (model P w) A (.call (.ref f) args) (CR CX outer P w H s Q E) s := by
  have KX : K.In s.heap := e0.mod.kin.keeps fun b o e => (e0.bs b o e).1
  refine codeAny_call_function hr.depth (KX _ _ lk) rfl S.co S.gen rfl (PySem.W.codeRec_of KX hcd) ?_
  refine hb _ _ _ fun s2 H2 vs us e2 un ho hx r hl g => ?_
  have lim : s2.heap.NoLimit := e0.mod.nolimit.keeps fun b o e => (e2.bs b o e).1
  refine wpAny_newFunctionEnv (s := s2) S.nocell (fun y hy => S.par y.1 (List.of_mem_zip (a := y.1) (b := y.2) hy).1) (fun h₀ hns hsb => ⟨lim.fresh _ hsb, PySem.ks_codeAny_funcAt ?_⟩) S.kind
  have hk : ∀ b o, s2.heap.get? b = some o → h₀.get? b = some o := fun b o e => hsb.extBut b o (Nat.ne_of_lt (Heap.lt_size e)) (Heap.get?_push_of_some _ e)
  have I : Inv (cxS CX P w K mg base N qual scope f cdv cc A outer s2 H2 E) [] (L2.start N vs) H2 { s2 with heap := h₀, toks := s2.toks + (ps.zip us).length } := inv_startS S hcc hr.hd e2 hl r hns hk
  refine PySem.ks_wpAt_mono (hbody s2 H2 vs g (hr.deeper _) _ I) (fun fl s' hs => ?_) fun e s' hs => ?_
  · have fin : ∀ {σ' : L2.St} {H' : Hp} {v' : V} {u' : Value}, Inv (cxS CX P w K mg base N qual scope f cdv cc A outer s2 H2 E) [] σ' H' s' → RelV v' u' → Q v' H' → CE outer P w H s Q u' s' :=
      fun {σ' H' v' u'} J rv' q => ⟨v', H', J.os.trans ho, J.bare, un.trans J.base, J.hok, rv', q⟩
    cases fl with
    | ret u' =>
      obtain ⟨v', σ', H', J, rv', q⟩ := hs
      exact fin J rv' q
    | next =>
      obtain ⟨σ', H', J, q⟩ := hs
      exact fin (v' := V.non) (u' := Value.none) J rfl q
    | brk =>
      obtain ⟨_, _, _, q⟩ := hs
      exact False.elim q
    | cont =>
      obtain ⟨_, _, _, q⟩ := hs
      exact False.elim q
  · exact wpAny_mono hs (fun _ s'' z => hx e s'' z) fun e' s'' z => hx e' s'' z
/-- what is asked of the text's own part: the def's code, the cell, the class -/
structure SupK (K : PySem.W.Frag) (prog : Program) (cdv : Value) (cc Dc fM : Addr) : Prop where
  code : ∃ (cda : Addr) (ccl : Value) (cdd : Option Addr) (vs : Array Value) (ccs : Array (Option Value)) (file : Str) (tf : Tok), cdv = .ref cda ∧ K.lookup cda = some ⟨ccl, cdd, .fields vs, ccs⟩ ∧ vs[2]? = some (.str file tf) ∧ ((prog.main.file : Str) == file) = true
  cell : ∃ (cl : Value) (cld : Option Addr) (csl : Array (Option Value)), K.lookup cc = some ⟨cl, cld, .cell (some (.ref Dc)), csl⟩
  cls : ∃ cd, PySem.W.clsIn K Dc = some cd
  opq : PySem.W.nsIn K cStatics "thirdparty.any" = some none
  fn : PySem.W.typeIn K (.ref fM) = some (.type "function")
  fnI : PySem.W.fnIn K fM = true
theorem boot_super : bootBuiltins "super" = some (.type "super") := by kernel_rfl
theorem sup_init {A : Around} {outer : List Env} {s : Shared} {H H1 : Hp} {E EM : XK} {s1 : Shared} {sM : Sp} {fM C a dx : Addr} {kM : Nat} {fs : List (Str × V)} {p0 p1 p2 p3 p4 : Pos} {e : Expr} {es : List Expr} {ta : TA} {rest : List Stmt} {tr : TS} {D' : Ends} {σ : L2.St} {ar : Arg} {pl : Sem Bool}
    (lk : K.lookup f = some ⟨oc, od, .func (PySem.W.ksFn name qual params (.Expr (.Call (.Attribute (.Call (.Name "super" p0) [] [] p1) "__init__" p2) (e :: es) [] p3) p4 :: rest) scope dV kV doc pm an cdv ct cc), osl⟩)
    (S : FnScopeS N ps scope) (SK : SupK K P cdv cc Dc fM) (hmg : mg "super" = none)
    (hks : scope.names.lookup ("super" : Str) = some .globalImplicit) (hkc : scope.names.lookup ("__class__" : Str) = some .free) (hp : (params.posonlyargs ++ params.args).head? = some ar) (hN : N[0]? = some ar.arg) (hka : scope.names.lookup ar.arg = some .local)
    (htop : (P.main.scope.names.lookup ("super" : Str)).isSome = false)
    (F : FnR P w K mg base CX kM fM sM) (hr : Room kM (A.deeper (PySem.W.ksEnv qual scope s.heap.objs.size f cdv cc))) (hx : Passes CX (cxS CX P w K mg base N qual scope f cdv cc A outer s H E) EM)
    (ha : PA (cxS CX P w K mg base N qual scope f cdv cc A outer s H E) (e :: es) ta) (hrest : PSs (cxS CX P w K mg base N qual scope f cdv cc A outer s H E) rest tr)
    (hsub : PySem.W.mroIn K C (.ref Dc) = some true) (hm : PySem.W.ks_superIn K C Dc "__init__" = some (some (.ref fM)))
    (I : Inv (cxS CX P w K mg base N qual scope f cdv cc A outer s H E) [] σ H1 s1) (h0 : σ[0]? = some (some (.ref a))) (hins : H1 a = some (.ins C dx fs))
    (h : ∀ q, H1 q = none → ta σ (upd H1 q (.met fM a)) fun vs H2 => H2 q = some (.met fM a) ∧ sM (.ref a :: vs) H2 (fun _ H3 => tr D' σ H3) EM)
    (hst : starEach (e :: es) (PySem.W.ksEnv qual scope s.heap.objs.size f cdv cc) = (false, eval e (PySem.W.ksEnv qual scope s.heap.objs.size f cdv cc)) :: starEach es (PySem.W.ksEnv qual scope s.heap.objs.size f cdv cc) := by rfl)
    (hpl : (backTo p3 (starEach es (PySem.W.ksEnv qual scope s.heap.objs.size f cdv cc))).any (·.1) = false := by rfl)
    (hev : eval (.Call (.Attribute (.Call (.Name "super" p0) [] [] p1) "__init__" p2) (e :: es) [] p3) (PySem.W.ksEnv qual scope s.heap.objs.size f cdv cc) = (do
      let ov ← attributeBase (.Call (.Name "super" p0) [] [] p1) "__init__" (PySem.W.ksEnv qual scope s.heap.objs.size f cdv cc) (eval (.Call (.Name "super" p0) [] [] p1) (PySem.W.ksEnv qual scope s.heap.objs.size f cdv cc))
      standAt p2.atName
      let (f7, first) ← holding [ov] (getMethod ov "__init__" pl)
      callWith p3 f7 first (backTo p3 (starEach (e :: es) (PySem.W.ksEnv qual scope s.heap.objs.size f cdv cc))) []) := by rfl) {body' : List Stmt} :
    _root_.PySem.wpAt (model P w) (A.deeper (PySem.W.ksEnv qual scope s.heap.objs.size f cdv cc)) (.func body' (PySem.W.ksEnv qual scope s.heap.objs.size f cdv cc)) (execs (.Expr (.Call (.Attribute (.Call (.Name "super" p0) [] [] p1) "__init__" p2) (e :: es) [] p3) p4 :: rest) (PySem.W.ksEnv qual scope s.heap.objs.size f cdv cc))
      (SP (cxS CX P w K mg base N qual scope f cdv cc A outer s H E) [] D') (cxS CX P w K mg base N qual scope f cdv cc A outer s H E).xe s1 := by
  have KI : K.In s1.heap := I.kIn
  obtain ⟨cda, ccl, cdd, vs0, ccs, file, tf, rfl, hcode, hvs, hfile⟩ := SK.code
  obtain ⟨cl, cld, csl, hcc⟩ := SK.cell
  obtain ⟨cdD, hD⟩ := SK.cls
  obtain ⟨oD, hD1, hD2⟩ : ∃ oD, s1.heap.get? Dc = some oD ∧ oD.data = .cls cdD := by
    unfold PySem.W.clsIn at hD
    split at hD
    · rename_i c d cd' sl ho
      cases hD
      exact ⟨_, KI _ _ ho, rfl⟩
    · cases hD
  obtain ⟨ox, odx, J⟩ := OwD.inst_of I hins
  obtain ⟨m, hns, hlook⟩ := I.loc
  obtain ⟨u0, ru0, lk0⟩ := hlook 0 ar.arg (.ref a) hN h0 (.inl hka)
  obtain rfl : u0 = Value.ref a := ru0
  have hv0 : m ar.arg = some (Value.ref a) := by
    rcases lk0 with ⟨_, q⟩ | ⟨q, _⟩
    · exact q
    · have hka' : (cxS CX P w K mg base N qual scope f (.ref cda) cc A outer s H E).env.kindOf ar.arg = some .local := hka
      rw [hka'] at q
      rcases q with q | q <;> cases q
  obtain ⟨mb, hb1, hb2⟩ := I.mod.blt
  refine PySem.ks_wpAt_execs_cons (PySem.ks_wpAt_Expr_any (PySem.ks_wpAt_MethodCall (pl := pl) ?_ hev) ?_)
  · refine PySem.ks_wpAt_super_base (f := f) (cc := cda) hks hkc (by decide +kernel) rfl (KI _ _ lk) rfl hp rfl (KI _ _ hcode) rfl hvs hfile htop ?_
    refine PySem.W.ks_loadName_global S.kind hks (PySem.Calls.loadGlobal_builtin (I.mod.glob.keeps I.bk) hmg (hb1.keeps I.bk) ((hb2 _ (by decide +kernel)).trans boot_super) ⟨rfl, ?_⟩)
    refine wpAny_loadName_free S.kind hkc rfl ⟨_, KI _ _ hcc, rfl⟩ ?_
    refine wpAny_loadName_local S.kind hka hns hv0 ?_
    refine PySem.ks_wpAny_isType_cls hD1 hD2 ⟨rfl, ?_⟩
    refine PySem.ks_wpAny_call_super hD1 hD2 J.at_ J.cls (fun c e => ?_) (PySem.W.looks_mroIn KI hsub) (fun h' e2 k2 => ?_)
    · have := J.no
      unfold PySem.W.notCls at this
      rw [e] at this
      exact Bool.noConfusion this
    · have I2 : Inv (cxS CX P w K mg base N qual scope f (.ref cda) cc A outer s H E) [] σ H1 { s1 with heap := h' } := I.kept (t' := s1.toks) k2
      have KI2 : K.In h' := I2.kIn
      cases hc : PySem.W.clsIn K C with
      | none => unfold PySem.W.ks_superIn at hm; rw [hc] at hm; cases hm
      | some cd =>
        unfold PySem.W.ks_superIn at hm
        rw [hc] at hm
        obtain ⟨of, hof, hofc⟩ : ∃ of, h'.get? fM = some of ∧ of.cls = .type "function" := by
          have ht' : (K.lookup fM).map (·.cls) = some (.type "function") := SK.fn
          cases z : K.lookup fM with
          | none => rw [z] at ht'; cases ht'
          | some of => rw [z] at ht'; exact ⟨of, KI2 _ _ z, Option.some.inj ht'⟩
        refine PySem.ks_wpAny_getMethod_super e2 (PySem.W.looks_opaque KI2 SK.opq) (l₀ := cd.mro) ?_ rfl KI2 hm hof hofc (PySem.W.ks_ne KI J hc) (by decide +kernel) ?_
        · exact fun A Q E s k q => wpAny_bind ((PySem.W.looks_clsIn KI2 hc) A _ E s k (wpAny_pure q))
        · have hq := I2.hok.fresh (Nat.le_refl _)
          have I3 := I2.laid (t' := s1.toks + 1) (a := h'.objs.size) (o := .met fM a) (fun b u z => Heap.get?_push_of_some _ z) (Nat.le_refl _)
            (show (h'.push (PySem.W.methodObj (.ref fM) (.ref a))).get? h'.objs.size = some (PySem.W.methodObj (.ref fM) (.ref a)) from Heap.get?_push_size h' rfl)
          dsimp only
          rw [hst]
          refine callwith_met (X := cxS CX P w K mg base N qual scope f (.ref cda) cc A outer s H E) (a := a) (g := fM) ?_ SK.fnI (PySem.Calls.evalArgs_plain ?_)
          · show ((false || (backTo p3 (starEach es (PySem.W.ksEnv qual scope s.heap.objs.size f (.ref cda) cc))).any (·.1)) || false) = false
            rw [hpl]
            rfl
          · have hz := ha.run p3 [] _ σ _ _ I3 (h h'.objs.size hq)
            have he : (cxS CX P w K mg base N qual scope f (.ref cda) cc A outer s H E).env = PySem.W.ksEnv qual scope s.heap.objs.size f (.ref cda) cc := rfl
            rw [he, hst] at hz
            refine thn hz fun us s4 ⟨vs, H2, I4, r, hmet, q2⟩ => ⟨met_P I4 hmet, ?_⟩
            refine thn (wpAny_call (call_met I4 hmet (run_fnR (us := Value.ref a :: us) (vs := V.ref a :: vs) F hr hx I4 (.cons rfl r) q2))) fun v s5 ⟨v', H3, I5, rv, q3⟩ => ?_
            exact wpAt_of_wpAny (hrest.run [] s5 σ H3 D' I5 q3)
  · simp [interactive, S.kind]
end
end SuC
end

section
set_option Elab.async false
set_option linter.all false
set_option maxRecDepth 100000
set_option maxHeartbeats 2000000
/-! HookQ's Hook, and defs that close over their class's cell -/
namespace HkS
open PySem PySem.Spec PyProof.Rows L2 He HkQ
abbrev FnC : Type := Option (Str × Str × Arguments × FuncBody × Scope × Addr × List Str × Addr)
def fnC (K : PySem.W.Frag) (a : Addr) : FnC := match K.lookup a with
  | some ⟨_, _, .func fd, _⟩ => some (fd.name, fd.qualname, fd.params, fd.body, fd.scope, fd.globals, fd.closure.map (·.1), fd.builtins)
  | _ => none
def valC (d : He5.DefA) : FnC := some (d.name, d.qual, d.params, .stmts d.body, d.scope, mainGlobals, [("__class__" : Str)], builtinsNs)
structure SaysS (fa : List Fa) (fn fs : List He5.DefA) (tf : List TabF) (exs : List (PySem.W.Frag → Bool)) (h : Heap) (K : PySem.W.Frag) : Prop where
  q : SaysQ fa fn tf exs h K
  s : (fs.map fun d => fnC K (d.at_ K)) = fs.map valC
abbrev AlS : Type := AlQ × List FnC
def obsS (al : List Addr) (fa : List Fa) (fn fs : List He5.DefA) (tf : List TabF) (exs : List (PySem.W.Frag → Bool)) (g : Addr → Option Obj) : AlS := (obsQ al fa fn tf exs g, fs.map fun d => fnC (frT g al) (d.at_ (frT g al)))
def valS (fn fs : List He5.DefA) : AlS := (valQ fn, fs.map valC)
def hookS (al : List Addr) (fa : List Fa) (fn fs : List He5.DefA) (tf : List TabF) (exs : List (PySem.W.Frag → Bool)) : PySem.W.Hook where
  α := AlS
  obs := fun s => obsS al fa fn fs tf exs s.heap.get?
  val := fun _ => valS fn fs
  says := fun _ h => ∃ K : PySem.W.Frag, K.In h ∧ SaysS fa fn fs tf exs h K
  of := fun _ _ e => ⟨_, frT_in, saysQ_of (congrArg (fun z : AlS => z.1) e), congrArg (fun z : AlS => z.2) e⟩
  keeps := fun _ _ _ ⟨K, hK, c⟩ k => ⟨K, PySem.W.Frag.In.keeps hK k, ⟨⟨c.q.a, c.q.more, c.q.hd, c.q.out, fun t ht => k _ _ (c.q.empty t ht)⟩, c.s⟩⟩
theorem obsS_eq {al : List Addr} {fa : List Fa} {fn fs : List He5.DefA} {tf : List TabF} {exs : List (PySem.W.Frag → Bool)} {g : Addr → Option Obj} {s : Shared} (h : ∀ a, g a = s.heap.get? a) : obsS al fa fn fs tf exs g = (hookS al fa fn fs tf exs).obs s := by
  have e : g = s.heap.get? := funext h
  rw [e] <;> rfl
/-- what is asked of such a def beside its text: its class at C, the def above it at M -/
def supB (file : Str) (at_ : PySem.W.Frag → Addr) (C : PySem.W.Frag → Addr) (M : PySem.W.Frag → Addr) (K : PySem.W.Frag) : Bool := (match K.lookup (at_ K) with
  | some ⟨_, _, .func fd, _⟩ => (match fd.closure with
    | [(_, cc)] => (match K.lookup cc with
      | some ⟨_, _, .cell (some (.ref D)), _⟩ => decide (D = C K)
      | _ => false)
    | _ => false) && (match fd.code with
    | .ref cda => (match K.lookup cda with
      | some ⟨_, _, .fields vs, _⟩ => (match (vs[2]? : Option Value) with
        | some (.str f _) => decide (f = file)
        | _ => false)
      | _ => false)
    | _ => false)
  | _ => false) && ((PySem.W.clsIn K (C K)).isSome && (eqO (PySem.W.nsIn K cStatics "thirdparty.any") (some none) && (decide (PySem.W.typeIn K (.ref (M K)) = some (.type "function")) && (PySem.W.fnIn K (M K) &&
    (decide (PySem.W.mroIn K (C K) (.ref (C K)) = some true) && eqO (PySem.W.ks_superIn K (C K) (C K) "__init__") (some (some (.ref (M K)))))))))
/-- a def of the class at C that closes over its cell, the def above it at M -/
structure SupD (K : PySem.W.Frag) (P : Program) (d : He5.DefA) (C M : Addr) : Prop where
  ex : ∃ (oc : Value) (od : Option Addr) (dV kV doc pm : Value) (an : Option Addr) (cdv ct : Value) (osl : Array (Option Value)) (cc : Addr), K.lookup (d.at_ K) = some ⟨oc, od, .func (PySem.W.ksFn d.name d.qual d.params d.body d.scope dV kV doc pm an cdv ct cc), osl⟩ ∧
    PySem.W.codeIn K cdv d.qual = true ∧ DflV K dV (d.dvs K) ∧ KwdV K kV (d.kws K) ∧ SuC.SupK K P cdv cc C M
  kp : PySem.W.keepIn K (.ref (d.at_ K)) = true
  mro : PySem.W.mroIn K C (.ref C) = some true
  sup : PySem.W.ks_superIn K C C "__init__" = some (some (.ref M))
theorem supD_of {K : PySem.W.Frag} {P : Program} {d : He5.DefA} {C M : PySem.W.Frag → Addr} {file : Str} (hf : ((P.main.file : Str) == file) = true) (e : fnC K (d.at_ K) = valC d) (c : d.ok K = true) (b : supB file d.at_ C M K = true) : SupD K P d (C K) (M K) := by
  obtain ⟨kp, c2⟩ := He.ba c
  obtain ⟨b1, b⟩ := He.ba b
  obtain ⟨b2, b⟩ := He.ba b
  obtain ⟨b3, b⟩ := He.ba b
  obtain ⟨b4, b⟩ := He.ba b
  obtain ⟨b5, b⟩ := He.ba b
  obtain ⟨b6, b7⟩ := He.ba b
  unfold fnC valC at e
  cases q : K.lookup (d.at_ K) with
  | none =>
    rw [q] at c2
    cases c2
  | some o =>
    obtain ⟨oc, od, dt, osl⟩ := o
    rw [q] at c2 e b1
    cases dt with
    | func fd =>
      obtain ⟨n1, n2, n3, n4, n5, n6, n7, n8, n9, n10, n11, n12, n13, n14, n15⟩ := fd
      have e2 : (some (n1, n2, n3, n4, n5, n6, n7.map (·.1), n15) : FnC) = some (d.name, d.qual, d.params, .stmts d.body, d.scope, mainGlobals, [("__class__" : Str)], builtinsNs) := e
      simp only [Option.some.injEq, Prod.mk.injEq] at e2
      obtain ⟨h1, h2, h3, h4, h5, h6, h7, h8⟩ := e2
      subst h1 h2 h3 h4 h5 h6 h8
      obtain ⟨cc, rfl⟩ : ∃ cc, n7 = [(("__class__" : Str), cc)] := by
        cases n7 with
        | nil => cases h7
        | cons a r =>
          cases r with
          | nil =>
            obtain ⟨x, y⟩ := a
            simp at h7
            exact ⟨y, by rw [h7]⟩
          | cons b r => simp at h7
      have c3 : (PySem.W.codeIn K n13 d.qual && (He.dflB K n8 (d.dvs K) && He.kwdB K n9 (d.kws K))) = true := c2
      obtain ⟨k1, k2⟩ := He.ba c3
      obtain ⟨k3, k4⟩ := He.ba k2
      obtain ⟨m1, m2⟩ := He.ba b1
      have M1 : ∃ (cl : Value) (cld : Option Addr) (csl : Array (Option Value)), K.lookup cc = some ⟨cl, cld, .cell (some (.ref (C K))), csl⟩ := by
        dsimp only at m1
        split at m1
        · rename_i hl
          exact ⟨_, _, _, by rw [hl, of_decide_eq_true m1]⟩
        · cases m1
      have M2 : ∃ (cda : Addr) (ccl : Value) (cdd : Option Addr) (vs : Array Value) (ccs : Array (Option Value)) (file : Str) (tf : Tok), n13 = .ref cda ∧ K.lookup cda = some ⟨ccl, cdd, .fields vs, ccs⟩ ∧ vs[2]? = some (.str file tf) ∧ ((P.main.file : Str) == file) = true := by
        dsimp only at m2
        split at m2
        · split at m2
          · rename_i hl
            split at m2
            · rename_i hv
              exact ⟨_, _, _, _, _, _, _, rfl, hl, hv, by rw [of_decide_eq_true m2]; exact hf⟩
            · cases m2
          · cases m2
        · cases m2
      obtain ⟨cd, hcd⟩ := Option.isSome_iff_exists.mp b2
      exact ⟨⟨oc, od, n8, n9, n10, n11, n12, n13, n14, osl, cc, q, k1, He.dflB_ok k3, He.kwdB_ok k4, ⟨M2, M1, ⟨cd, hcd⟩, eqO_ok b3, of_decide_eq_true b4, b5⟩⟩, kp, of_decide_eq_true b6, eqO_ok b7⟩
    | _ => cases c2
theorem SaysS.at_ {fa : List Fa} {fn fs : List He5.DefA} {tf : List TabF} {exs : List (PySem.W.Frag → Bool)} {h : Heap} {K : PySem.W.Frag} (c : SaysS fa fn fs tf exs h K) (i : Nat) {d : He5.DefA} (e : fs[i]? = some d := by rfl) : fnC K (d.at_ K) = valC d := by
  have e2 : (fs.map fun d => fnC K (d.at_ K))[i]? = (fs.map valC)[i]? := by rw [c.s]
  rw [List.getElem?_map, List.getElem?_map, e] at e2
  exact Option.some.inj e2
end HkS
end

section
set_option Elab.async false
set_option linter.all false
set_option maxRecDepth 100000
set_option maxHeartbeats 2000000
/-! how defs that close over their class's cell bind: plainly, and with a **d that nothing is left for -/
namespace SuC
open PySem PySem.Spec PyProof.Rows L2 StX
section
variable {CX : CXT} {P : Program} {w : World} {K : PySem.W.Frag} {mg : Str → Option Value} {base : Heap} {fd : FuncData} {args : Args} {ps : List Str} {us : List Value} {vs : List V} {A : Around} {outer : List Env} {s : Shared} {H : Hp} {E : XK} {pd : Str}
theorem bnd_plain (e0 : Env0 P w K mg base A outer s H) (r : Vals vs us) (hl : vs.length = ps.length) (h : bindArgs fd args = pure (ps.zip us)) : Bnd CX P w K mg base fd args ps A outer s H E (fun xs H2 => xs = vs ∧ H2 = H) := fun A' Ex Q k => by
  rw [h]
  exact wpAny_pure (k s H vs us e0 Un.refl rfl (fun _ _ z => z) r hl ⟨rfl, rfl⟩)
theorem bnd_dict (hCX : CXUp CX) (e0 : Env0 P w K mg base A outer s H) (r : Vals vs us) (hl : vs.length = ps.length) (h : bindArgs fd args = ((alloc ({ cls := .type "dict", data := .dict #[] } : Obj) : Sem Addr) >>= fun d => pure (ps.zip us ++ [(pd, Value.ref d)]))) :
    Bnd CX P w K mg base fd args (ps ++ [pd]) A outer s H E (fun xs H2 => ∃ d, H d = Option.none ∧ xs = vs ++ [V.ref d] ∧ H2 = upd H d (.dK [])) := fun A' Ex Q k => by
  rw [h]
  have hn : H s.heap.objs.size = Option.none := e0.hok.fresh (Nat.le_refl _)
  have e1 := env0_laid (u := .dK []) (o := ({ cls := .type "dict", data := .dict #[] } : Obj)) e0 (dk_empty _ (env0_big e0))
  have un1 := un_laid (fs := frs outer) (s := s) (o := ({ cls := .type "dict", data := .dict #[] } : Obj)) (u := .dK []) hn
  have hl1 : us.length = ps.length := by rw [← r.length]; exact hl
  refine wpAny_bind (wpAny_alloc (wpAny_pure ?_))
  have z := k _ _ (vs ++ [V.ref s.heap.objs.size]) (us ++ [Value.ref s.heap.objs.size]) e1 un1 rfl
    (fun e s' => hCX outer s H _ _ E e s' un1 (fun b o q => Heap.get?_push_of_some _ q) rfl) (r.append (.cons rfl .nil)) (by rw [List.length_append, List.length_append, hl] <;> rfl) ⟨_, hn, rfl, rfl⟩
  rw [List.zip_append hl1.symm] at z
  exact z
end
end SuC
end

section
set_option Elab.async false
set_option linter.all false
set_option maxRecDepth 100000
set_option maxHeartbeats 2000000
/-! defs that are only called where no repr is under way -/
namespace Gd
open PySem PySem.Spec PyProof.Rows L2 StX He Cn
structure FnG (P : Program) (w : World) (K : PySem.W.Frag) (mg : Str → Option Value) (base : Heap) (CX : CXT) (k : Nat) (f : Addr) (n : Nat) (sp : Sp) : Prop where
  len : ∀ vs H Q E, sp vs H Q E → vs.length = n
  run : ∀ (A : Around) (outer : List Env) (s : Shared) (H : Hp) (us : List Value) (vs : List V) (Q : VK) (E : XK), Room k A → A.guards = some [] → Env0 P w K mg base A outer s H → Vals vs us → sp vs H Q E →
    codeAny (model P w) A (.call (.ref f) ⟨us, []⟩) (CR CX outer P w H s Q E) s
section
variable {CX : CXT} {P : Program} {w : World} {K : PySem.W.Frag} {mg : Str → Option Value} {base : Heap} {k : Nat} {f : Addr} {name qual : Str} {params : Arguments} {body : List Stmt} {scope : Scope} {dV kV doc pm cdv ct oc : Value} {an od : Option Addr}
  {osl : Array (Option Value)} {N ps : List Str} {sp : Sp}
theorem fng_of (lk : K.lookup f = some ⟨oc, od, .func (PySem.W.fnOf name qual params body scope dV kV doc pm an cdv ct), osl⟩) (hcd : PySem.W.codeIn K cdv qual = true) (S : FnScope N ps scope) (len : ∀ vs H Q E, sp vs H Q E → vs.length = ps.length)
    (hb : ∀ us : List Value, us.length = ps.length → bindArgs (PySem.W.fnOf name qual params body scope dV kV doc pm an cdv ct) ⟨us, []⟩ = pure (ps.zip us))
    (hbody : ∀ (A : Around) (outer : List Env) (s : Shared) (H : Hp) (vs : List V) (Q : VK) (E : XK), A.guards = some [] → Room k (A.deeper (envOfC qual scope s.heap.objs.size f cdv)) → sp vs H Q E →
      ∃ t, PSs (cxOf CX P w K mg base N qual scope f cdv A outer s H E) body t ∧ t { nx := fun _ H' => Q .non H', rt := Q } (start N vs) H) :
    FnG P w K mg base CX (k + 1) f ps.length sp := by
  refine ⟨len, fun A outer s H us vs Q E hr hg e0 rv h => ?_⟩
  have hl := len _ _ _ _ h
  refine run_bnd lk hcd S hr e0 (G := fun xs H2 => xs = vs ∧ H2 = H) (SuC.bnd_plain e0 rv hl (hb us (by rw [← rv.length]; exact hl))) fun s2 H2 xs ⟨ex, eH⟩ hr' => ?_
  subst ex
  subst eH
  exact hbody A outer s2 H2 xs Q E hg hr' h
end
structure CanG (P : Program) (w : World) (K : PySem.W.Frag) (mg : Str → Option Value) (base : Heap) (CX : CXT) (k : Nat) (x : Str) (sp : Sp) : Prop where
  ex : ∃ f n, mg x = some (.ref f) ∧ FnG P w K mg base CX k f n sp ∧ PySem.W.keepIn K (.ref f) = true
section
variable {X : Cx} {CX : CXT} {k j : Nat} {sp : Sp} {E : XK} {x : Str} {p pos : Pos} {e : Expr} {es : List Expr} {t : TA}
theorem pe_canG (C : CanG X.prog X.w X.K X.mg X.base CX j x sp) (hgd : X.A.guards = some []) (hr : Room k X.A) (hx : Passes CX X E) (ha : PA X (e :: es) t) (hjk : j ≤ k := by decide) (hg : Gl X x := by rfl)
    (hdb : (x == ("__debug__" : Str)) = false := by decide) (he : starEach (e :: es) X.env = (false, eval e X.env) :: starEach es X.env := by rfl) (hpl : (backTo pos (starEach es X.env)).any (·.1) = false := by rfl) :
    PE X (.Call (.Name x p) (e :: es) [] pos) (tCall sp [] E t) := by
  obtain ⟨f, n, hm, F, kp⟩ := C.ex
  refine ⟨fun pins s σ H Q I h => wpAny_Call_Name_kw (ld_glob I hg hm ?_ hdb)⟩
  refine PySem.W.callWith_K (h₀ := X.base) I.ok.mod.kin kp (thn (ha.run pos pins s σ H _ I h) fun us s1 ⟨vs, H1, I1, r, q⟩ => ⟨I1.kIn, wpAny_call (codeAny_mono (F.run X.A X.stack s1 H1 us vs Q E (hr.mono hjk) hgd I1.env0 r (by
    have q' : sp (vs ++ []) H1 Q E := q
    rwa [List.append_nil] at q')) fun r s' hq => ?_)⟩) he hpl
  cases r with
  | error e => exact hx pins σ H1 s1 e s' I1 hq
  | ok fl =>
    cases fl with
    | ret u => exact I1.after hq
    | next => exact False.elim hq
    | brk => exact False.elim hq
    | cont => exact False.elim hq
end
end Gd
end

section
set_option Elab.async false
set_option linter.all false
set_option maxRecDepth 100000
set_option maxHeartbeats 2000000
/-! displays of data: what is new over H0 -/
namespace DtU
open PySem PySem.Spec PyProof.Rows L2 Cn Evl RpV RpD
def EdN (H0 : Hp) (te : TE) (σ : L2.St) (H : Hp) (d : PyData) : Prop := ∀ H1, Ex H H1 → ∀ Q : VK, (∀ v H2, Ex H1 H2 → Du (nw H0 H2) v d → Q v H2) → te σ H1 Q
def EdA (H0 : Hp) (ta : TA) (σ : L2.St) (H : Hp) (ds : List PyData) : Prop := ∀ H1, Ex H H1 → ∀ Q : List V → Hp → Prop, (∀ vs H2, Ex H1 H2 → K50.Pz (nw H0 H2) vs ds → Q vs H2) → ta σ H1 Q
section
variable {H0 H : Hp} {σ : L2.St} {te : TE} {ta : TA} {d : PyData} {ds : List PyData}
theorem ed_var {i : Nat} {v : V} (h : σ[i]? = some (some v)) (hd : Du (nw H0 H) v d) : EdN H0 (tVar i) σ H d := fun H1 e Q q => ⟨v, h, q v H1 (Ex.refl H1) (hd.ex (nw_up e))⟩
theorem ed_c {v : V} (h : isLeaf v = true) : EdN H0 (tC v) σ H (datOf v) := fun H1 e Q q => q v H1 (Ex.refl H1) (.leaf h)
theorem ed_nil : EdA H0 tNil σ H [] := fun H1 e Q q => q [] H1 (Ex.refl H1) ⟨rfl, fun i x d p => by simp at p⟩
theorem ed_cons (h : EdN H0 te σ H d) (t : EdA H0 ta σ H ds) : EdA H0 (tCons te ta) σ H (d :: ds) := fun H1 e Q q =>
  h H1 e _ fun v H2 e2 hv => t H2 (e.trans e2) _ fun vs H3 e3 hvs => q (v :: vs) H3 (e2.trans e3) ⟨by rw [List.length_cons, List.length_cons, hvs.1], fun i x d p q => by
    cases i with
    | zero =>
      obtain rfl : v = x := by simpa using p
      obtain rfl := by simpa using q
      exact hv.ex (nw_up e3)
    | succ i => exact hvs.2 i x d (by simpa using p) (by simpa using q)⟩
theorem ed_lst (h : EdA H0 ta σ H ds) (e0 : Ex H0 H) (hl : ds.length ≤ 1000) : EdN H0 (tLst ta) σ H (.list ds) := fun H1 e Q q =>
  h H1 e _ fun vs H2 e2 hv => ⟨sz_of (by rw [hv.1]; omega), fun l hl' => q _ _ (e2.trans (Ex.new hl')) (.lst (nw_at (fresh_back ((e0.trans e).trans e2) hl') upd_same) hv.1 fun i x d p r => (hv.2 i x d p r).ex (nw_up (Ex.new hl')))⟩
theorem ed_tup (h : EdA H0 ta σ H ds) (e0 : Ex H0 H) (hl : ds.length ≤ 1000) : EdN H0 (tTup ta) σ H (.tuple ds) := fun H1 e Q q =>
  h H1 e _ fun vs H2 e2 hv => ⟨sz_of (by rw [hv.1]; omega), fun l hl' => q _ _ (e2.trans (Ex.new hl')) (.tup (nw_at (fresh_back ((e0.trans e).trans e2) hl') upd_same) hv.1 fun i x d p r => (hv.2 i x d p r).ex (nw_up (Ex.new hl')))⟩
end
end DtU
namespace Gd
open PySem PySem.Spec PyProof.Rows L2 StX He Cn
section
variable {X : Cx} {CX : CXT} {k j : Nat} {sp : Sp} {E : XK} {x : Str} {p pos : Pos}
/-- f(), f a def promised where no repr is under way -/
theorem pe_canG0 (C : CanG X.prog X.w X.K X.mg X.base CX j x sp) (hgd : X.A.guards = some []) (hr : Room k X.A) (hx : Passes CX X E) (hjk : j ≤ k := by decide) (hg : Gl X x := by rfl)
    (hdb : (x == ("__debug__" : Str)) = false := by decide) : PE X (.Call (.Name x p) [] [] pos) (tCall sp [] E tNil) := by
  obtain ⟨f, n, hm, F, kp⟩ := C.ex
  refine ⟨fun pins s σ H Q I h => ?_⟩
  refine wpAny_Call_Name_kw (ld_glob I hg hm ?_ hdb)
  refine PySem.W.callWith_K0 I.kIn kp (wpAny_call (codeAny_mono (F.run X.A X.stack s H [] [] Q E (hr.mono hjk) hgd I.env0 .nil h) fun r s' hq => ?_))
  cases r with
  | error e => exact hx pins σ H s e s' I hq
  | ok fl =>
    cases fl with
    | ret u => exact I.after hq
    | next => exact False.elim hq
    | brk => exact False.elim hq
    | cont => exact False.elim hq
end
end Gd
end

section
set_option Elab.async false
set_option linter.all false
set_option maxRecDepth 100000
set_option maxHeartbeats 2000000
/-! repr of data by what bounds it: weight, depth -/
namespace RpD
open PySem PySem.Spec PyProof.Rows L2 Cn Evl RpV
/-- data that can be shown -/
structure ShOk (d : PyData) : Prop where
  sh : d.leavesShort 24 = true
  wt : d.weight ≤ 20000
  dp : d.depth ≤ 20
  sw : d.showable = true
theorem ShOk.len {d : PyData} (o : ShOk d) : d.shown.length ≤ sizeLine := by
  have h1 := PyData.shown_le 24 (by decide) d o.sh
  have := sizeLine_eq
  have h2 := o.wt
  omega
section
variable {X : Cx} {pins : List (Addr × Obj)} {s : Shared} {σ : L2.St} {H : Hp}
def rReprG (K : PySem.W.Frag) : List V → Hp → VK → Prop := fun xs H Q => ∃ (v : V) (d : PyData), xs = [v] ∧ DatW K H v d ∧ ShOk d ∧ Q (.str d.shown) H
theorem call_repr_big (hg : X.A.guards = some []) (hu : X.A.units + 25 < cLine) (hS : SysD X.K) : CallR X (.builtin "repr") (rReprG X.K) := by
  intro pins s σ H xs us Q I r h
  obtain ⟨v, d, rfl, hd, hok, q⟩ := h
  obtain ⟨u, rfl, ru⟩ := vals1 r
  have go : ∀ {a : Addr}, u = .ref a → wpAny (model X.prog X.w) X.A (call (.builtin "repr") [u]) (EP X pins σ Q) X.xe s := fun {a} e => by
    subst e
    obtain ⟨as, rd, na⟩ := reads_w I hS hd _ ru
    have h4 := hok.dp
    exact repr_of_reads' rd hok.sw (fun _ => na) hg (by omega) (fun _ _ e => e) (fun h' u tk hk => ⟨.str d.shown, H, I.kept hk, ⟨u, rfl⟩, q⟩) hok.len
  cases hd with
  | non =>
    obtain rfl : u = Value.none := ru
    exact PySem.P.repr_of_none ⟨.str (PyData.shown .none), H, I.tok _, ⟨_, rfl⟩, q⟩
  | bl b =>
    obtain rfl : u = Value.bool b := ru
    refine PySem.P.repr_of_bool ⟨.str (PyData.shown (.bool b)), H, I.tok _, ⟨s.toks, ?_⟩, q⟩
    cases b <;> rfl
  | int i =>
    obtain ⟨t, rfl⟩ := ru
    have hs : i.natAbs.log2 < 1920 := by simpa [PyData.showable] using hok.sw
    exact PySem.P.repr_of_int hs ⟨.str (PyData.shown (.int i)), H, I.tok _, ⟨_, rfl⟩, q⟩
  | str z =>
    obtain ⟨t, rfl⟩ := ru
    exact PySem.P.repr_of_str ⟨.str (PyData.shown (.str z)), H, I.tok _, ⟨_, rfl⟩, q⟩ hok.len
  | lst h1 h2 h3 => exact go ru
  | tup h1 h2 h3 => exact go ru
  | dct h1 h2 h3 => exact go ru
end
section
variable {K : PySem.W.Frag} {σ : L2.St} {H : Hp} {te : TE}
theorem ev_reprB {v : V} {d : PyData} (h : Ev te σ H v) (hd : DatW K H v d) (hok : ShOk d) : Ev (tCB (rReprG K) (tCons te tNil)) σ H (.str d.shown) := fun H1 e Q q =>
  h H1 e _ fun H2 e2 => ⟨v, d, rfl, hd.ex (e.trans e2), hok, q H2 e2⟩
end
end RpD
end

section
set_option Elab.async false
set_option linter.all false
set_option maxRecDepth 100000
set_option maxHeartbeats 2000000
/-! what bounds data of few parts, and its plain form -/
namespace DtU
open PySem PySem.Spec PyProof.Rows L2 Cn Evl RpV RpD
structure Bq (a b c : Nat) (d : PyData) : Prop where
  sh : d.leavesShort 24 = true
  wt : d.weight ≤ a
  dp : d.depth ≤ b
  sw : d.showable = true
  nd : nod d ≤ c
theorem Bq.up {a b c a' b' c' : Nat} {d : PyData} (h : Bq a b c d) (h1 : a ≤ a') (h2 : b ≤ b') (h3 : c ≤ c') : Bq a' b' c' d := ⟨h.sh, Nat.le_trans h.wt h1, Nat.le_trans h.dp h2, h.sw, Nat.le_trans h.nd h3⟩
theorem bq_leaf {d : PyData} (h : leafB d = true) : Bq 100 0 0 d := by
  obtain ⟨c1, c2, c3, c4, _⟩ := leaf_ok h
  refine ⟨c1, c2, by omega, c4, ?_⟩
  cases d <;> first | (unfold nod; exact Nat.le_refl _) | cases h
theorem bq_all {a b c : Nat} : ∀ {ds : List PyData}, (∀ d, d ∈ ds → Bq a b c d) → PyData.leavesShortAll 24 ds = true ∧ PyData.weightAll ds ≤ ds.length * (a + 1) ∧ PyData.depthAll ds ≤ b ∧ PyData.showableAll ds = true ∧ nodAll ds ≤ ds.length * (c + 1)
  | [], _ => ⟨rfl, Nat.zero_le _, Nat.zero_le _, rfl, by unfold nodAll; exact Nat.zero_le _⟩
  | d :: r, h => by
    have q := h d (List.mem_cons_self ..)
    obtain ⟨b1, b2, b3, b4, b5⟩ := bq_all (ds := r) fun x hx => h x (List.mem_cons_of_mem _ hx)
    refine ⟨by simp only [PyData.leavesShortAll, q.sh, b1, Bool.and_self], ?_, ?_, by simp only [PyData.showableAll, q.sw, b4, Bool.and_self], ?_⟩
    · have := q.wt
      simp only [PyData.weightAll, List.length_cons, Nat.succ_mul]
      omega
    · have := q.dp
      simp only [PyData.depthAll]
      omega
    · have := q.nd
      simp only [nodAll, List.length_cons, Nat.succ_mul]
      omega
theorem bq_kv {a b c : Nat} : ∀ {ds : List (PyData × PyData)}, (∀ p, p ∈ ds → leafB p.1 = true) → (∀ p, p ∈ ds → Bq a b c p.2) → PyData.leavesShortKv 24 ds = true ∧ PyData.weightKv ds ≤ ds.length * (a + 102) ∧ PyData.depthKv ds ≤ b ∧ PyData.showableKv ds = true ∧ nodKv ds ≤ ds.length * (c + 1)
  | [], _, _ => ⟨rfl, Nat.zero_le _, Nat.zero_le _, rfl, by unfold nodKv; exact Nat.zero_le _⟩
  | (k, v) :: r, h, h' => by
    obtain ⟨c1, c2, c3, c4, _⟩ := leaf_ok (h (k, v) (List.mem_cons_self ..))
    have q := h' (k, v) (List.mem_cons_self ..)
    obtain ⟨b1, b2, b3, b4, b5⟩ := bq_kv (ds := r) (fun x hx => h x (List.mem_cons_of_mem _ hx)) fun x hx => h' x (List.mem_cons_of_mem _ hx)
    have a1 : v.leavesShort 24 = true := q.sh
    have a4 : v.showable = true := q.sw
    refine ⟨by simp only [PyData.leavesShortKv, c1, a1, b1, Bool.and_self], ?_, ?_, by simp only [PyData.showableKv, c4, a4, b4, Bool.and_self], ?_⟩
    · have a2 : v.weight ≤ a := q.wt
      have c2 : k.weight ≤ 100 := c2
      simp only [PyData.weightKv, List.length_cons, Nat.succ_mul]
      omega
    · have a3 : v.depth ≤ b := q.dp
      have c3 : k.depth = 0 := c3
      simp only [PyData.depthKv, c3]
      omega
    · have a5 : nod v ≤ c := q.nd
      simp only [nodKv, List.length_cons, Nat.succ_mul]
      omega
theorem four_le {a b c : Nat} (h : a ≤ b * c) (hb : b ≤ 4) : a ≤ 4 * c := Nat.le_trans h (Nat.mul_le_mul_right c hb)
theorem bq_list {a b c : Nat} {ds : List PyData} (h : ∀ d, d ∈ ds → Bq a b c d) (hl : ds.length ≤ 4) : Bq (4 * (a + 1)) (b + 1) (4 * (c + 1)) (.list ds) := by
  obtain ⟨b1, b2, b3, b4, b5⟩ := bq_all h
  exact ⟨b1, four_le b2 hl, Nat.succ_le_succ b3, b4, by unfold nod; exact four_le b5 hl⟩
theorem bq_tuple {a b c : Nat} {ds : List PyData} (h : ∀ d, d ∈ ds → Bq a b c d) (hl : ds.length ≤ 4) : Bq (4 * (a + 1)) (b + 1) (4 * (c + 1)) (.tuple ds) := by
  obtain ⟨b1, b2, b3, b4, b5⟩ := bq_all h
  exact ⟨b1, four_le b2 hl, Nat.succ_le_succ b3, b4, by unfold nod; exact four_le b5 hl⟩
theorem bq_dict {a b c : Nat} {ds : List (PyData × PyData)} (h1 : ∀ p, p ∈ ds → leafB p.1 = true) (h : ∀ p, p ∈ ds → Bq a b c p.2) (hl : ds.length ≤ 4) : Bq (4 * (a + 102)) (b + 1) (4 * (c + 1)) (.dict ds) := by
  obtain ⟨b1, b2, b3, b4, b5⟩ := bq_kv h1 h
  exact ⟨b1, four_le b2 hl, Nat.succ_le_succ b3, b4, by unfold nod; exact four_le b5 hl⟩
/-- a pair [key, part] -/
theorem bq_pair {a b c : Nat} {k v : PyData} (hk : leafB k = true) (h : Bq a b c v) : Bq (a + 102) (b + 1) (c + 2) (.list [k, v]) := by
  have q := bq_leaf hk
  have h1 := q.sh
  have h2 := q.sw
  have h3 := h.sh
  have h4 := h.sw
  refine ⟨?_, ?_, ?_, ?_, ?_⟩
  · show PyData.leavesShortAll 24 [k, v] = true
    simp only [PyData.leavesShortAll, h1, h3, Bool.and_self]
  · show PyData.weightAll [k, v] ≤ _
    have := q.wt
    have := h.wt
    simp only [PyData.weightAll]
    omega
  · show PyData.depthAll [k, v] + 1 ≤ _
    have := q.dp
    have := h.dp
    simp only [PyData.depthAll]
    omega
  · show PyData.showableAll [k, v] = true
    simp only [PyData.showableAll, h2, h4, Bool.and_self]
  · have := q.nd
    have := h.nd
    unfold nod
    simp only [nodAll]
    omega
def bw : Nat → Nat
  | 0 => 100
  | n + 1 => 4 * (bw n + 103)
def bn : Nat → Nat
  | 0 => 0
  | n + 1 => 4 * (bn n + 3)
theorem bw_up (n : Nat) : 100 ≤ bw n := by
  cases n with
  | zero => exact Nat.le_refl _
  | succ n => show 100 ≤ 4 * (bw n + 103); omega
theorem Val.bq {n : Nat} {d : PyData} (h : Val n d) : Bq (bw n) n (bn n) d ∧ Bq (bw n) (2 * n) (bn n) (pl d) := by
  induction h with
  | @leaf n d h =>
    have q := (bq_leaf h).up (bw_up n) (Nat.zero_le n) (Nat.zero_le (bn n))
    refine ⟨q, ?_⟩
    have e : pl d = d := by cases d <;> first | (unfold pl; rfl) | cases h
    rw [e]
    exact q.up (Nat.le_refl _) (by omega) (Nat.le_refl _)
  | @lst n ds h hl ih =>
    refine ⟨(bq_list (fun d hd => (ih d hd).1) (by omega)).up (by show _ ≤ 4 * (bw n + 103); omega) (Nat.le_refl _) (by show _ ≤ 4 * (bn n + 3); omega), ?_⟩
    rw [show pl (.list ds) = .list (.str "list" :: ds.map pl) by rw [← plAll_map]; unfold pl; rfl]
    refine (bq_list (a := bw n) (b := 2 * n) (c := bn n) (fun d hd => ?_) (by rw [List.length_cons, List.length_map]; omega)).up (by show _ ≤ 4 * (bw n + 103); omega) (by omega) (by show _ ≤ 4 * (bn n + 3); omega)
    rcases List.mem_cons.mp hd with q | q
    · rw [q]; exact (bq_leaf (by decide)).up (bw_up n) (Nat.zero_le _) (Nat.zero_le _)
    · obtain ⟨e, he, rfl⟩ := List.mem_map.mp q
      exact (ih e he).2
  | @tup n ds h hl ih =>
    refine ⟨(bq_tuple (fun d hd => (ih d hd).1) (by omega)).up (by show _ ≤ 4 * (bw n + 103); omega) (Nat.le_refl _) (by show _ ≤ 4 * (bn n + 3); omega), ?_⟩
    rw [show pl (.tuple ds) = .list (.str "tuple" :: ds.map pl) by rw [← plAll_map]; unfold pl; rfl]
    refine (bq_list (a := bw n) (b := 2 * n) (c := bn n) (fun d hd => ?_) (by rw [List.length_cons, List.length_map]; omega)).up (by show _ ≤ 4 * (bw n + 103); omega) (by omega) (by show _ ≤ 4 * (bn n + 3); omega)
    rcases List.mem_cons.mp hd with q | q
    · rw [q]; exact (bq_leaf (by decide)).up (bw_up n) (Nat.zero_le _) (Nat.zero_le _)
    · obtain ⟨e, he, rfl⟩ := List.mem_map.mp q
      exact (ih e he).2
  | @dct n ds hk hn h hl ih =>
    refine ⟨(bq_dict (fun p hp => (hk p hp).choose_spec.2) (fun p hp => (ih p hp).1) (by omega)).up (by show _ ≤ 4 * (bw n + 103); omega) (Nat.le_refl _) (by show _ ≤ 4 * (bn n + 3); omega), ?_⟩
    rw [show pl (.dict ds) = .list (.str "dict" :: ds.map fun p => .list [p.1, pl p.2]) by rw [← plKv_map]; unfold pl; rfl]
    refine (bq_list (a := bw n + 102) (b := 2 * n + 1) (c := bn n + 2) (fun d hd => ?_) (by rw [List.length_cons, List.length_map]; omega)).up (by show _ ≤ 4 * (bw n + 103); omega) (by omega) (by show _ ≤ 4 * (bn n + 3); omega)
    rcases List.mem_cons.mp hd with q | q
    · rw [q]; exact (bq_leaf (by decide)).up (by have := bw_up n; omega) (Nat.zero_le _) (Nat.zero_le _)
    · obtain ⟨e, he, rfl⟩ := List.mem_map.mp q
      exact bq_pair (hk e he).choose_spec.2 (ih e he).2
theorem bw3 : bw 3 ≤ 20000 := by decide
theorem bn3 : bn 3 ≤ 300 := by decide
theorem bw_mono {n m : Nat} (h : n ≤ m) : bw n ≤ bw m := by
  induction h with
  | refl => exact Nat.le_refl _
  | @step m _ ih => show bw n ≤ 4 * (bw m + 103); omega
theorem Val.sh {n : Nat} (hn : n ≤ 3) {d : PyData} (h : Val n d) : ShOk d := by
  have q := h.bq.1
  exact ⟨q.sh, Nat.le_trans q.wt (Nat.le_trans (bw_mono hn) bw3), by have := q.dp; omega, q.sw⟩
theorem Val.shP {n : Nat} (hn : n ≤ 3) {d : PyData} (h : Val n d) : ShOk (pl d) := by
  have q := h.bq.2
  exact ⟨q.sh, Nat.le_trans q.wt (Nat.le_trans (bw_mono hn) bw3), by have := q.dp; omega, q.sw⟩
end DtU
end

section
set_option Elab.async false
set_option linter.all false
set_option maxRecDepth 100000
set_option maxHeartbeats 4000000
namespace K50
open PySem PySem.Spec PyProof.Rows L2 He Cn Evl DtU RpV RpD SqI ExT LcS
section
variable {P : Program} {w : World} {K : PySem.W.Frag} {mg : Str → Option Value} {base : Heap}
theorem gP_of {j1 j2 : Nat} {tp : Addr} {a b : V} {σ : L2.St} {H : Hp} {Q : L2.St → Hp → Prop} (h : SqT K H tp [a, b]) (hq : Q ((σ.set j1 (some a)).set j2 (some b)) H) : gTup K 2 (gCons (gName j1) (gCons (gName j2) gNil)) (.ref tp) σ H Q :=
  ⟨tp, _, rfl, h, rfl, _, _, rfl, _, _, rfl, rfl, hq⟩
/-- two rows of one kind -/
def Two (H : Hp) (a b : Addr) (xs ys : List V) : Prop := (H a = some (.lst xs) ∧ H b = some (.lst ys)) ∨ (H a = some (.tup xs) ∧ H b = some (.tup ys))
theorem Two.ex {H H' : Hp} {a b : Addr} {xs ys : List V} (e : Ex H H') (h : Two H a b xs ys) : Two H' a b xs ys := h.imp (fun q => ⟨e _ _ q.1, e _ _ q.2⟩) fun q => ⟨e _ _ q.1, e _ _ q.2⟩
theorem Two.l {H : Hp} {a b : Addr} {xs ys : List V} (h : Two H a b xs ys) : Its2 H a xs ∧ Its2 H b ys := h.elim (fun q => ⟨.inl q.1, .inl q.2⟩) fun q => ⟨.inr q.1, .inr q.2⟩
/-- for x, y in zip(one, other) -/
theorem q_zipSq {D : Ends} {σ : L2.St} {H : Hp} {a b : Addr} {xs ys : List V} {g : TG} {tb tz : TS} {ta : TA} (ht : ∀ R : List V → Hp → Prop, R [.ref a, .ref b] H → ta σ H R) (h : Two H a b xs ys) (hl : xs.length = ys.length) (Pv : Nat → L2.St → Hp → Prop) (h0 : Pv 0 σ H) (hq : ∀ i σ H', Pv i σ H' → Ex H H')
    (hs : ∀ (i : Nat) (x y : V) (T : Addr) (σ : L2.St) (H : Hp), xs[i]? = some x → ys[i]? = some y → Pv i σ H → H T = none → g (.ref T) σ (upd H T (.tup [x, y])) fun σ2 H2 => tb { D with nx := Pv (i + 1), ct := Pv (i + 1), bk := tz D } σ2 H2) (hd : ∀ σ H, Pv xs.length σ H → tz D σ H) :
    tSeq (tFor (RZ.iZipA K ta) g tb) tz D σ H := by
  show tFor (RZ.iZipA K ta) g tb { D with nx := tz D } σ H
  refine ht _ ⟨a, b, xs, ys, rfl, ?_⟩
  rcases h with ⟨q1, q2⟩ | ⟨q1, q2⟩
  · exact .inl ⟨sq_of q1, sq_of q2, RZ.for_zipL (D := { D with nx := tz D }) hl Pv h0 (fun i σ' H' p => ⟨sq_of (hq i σ' H' p _ _ q1), sq_of (hq i σ' H' p _ _ q2)⟩) hs hd⟩
  · exact .inr ⟨st_of q1, st_of q2, RZ.for_zipT (D := { D with nx := tz D }) hl Pv h0 (fun i σ' H' p => ⟨st_of (hq i σ' H' p _ _ q1), st_of (hq i σ' H' p _ _ q2)⟩) hs hd⟩
/-- what is_equal comes to on a datum told twice -/
def RecE (n : Nat) (spR : Sp) : Prop := ∀ (x y : V) (d : PyData) (H : Hp) (Q : VK) (E : XK), Du H x d → Du H y d → Val n d → (∀ H', Ex H H' → Q (.bl true) H') → spR [x, y] H Q E
def spItm (n : Nat) : Sp := fun vs H Q _ => ∃ (a b : Addr) (xs ys : List V) (ds : List PyData), vs = [.ref a, .ref b] ∧ Two H a b xs ys ∧ Pz H xs ds ∧ Pz H ys ds ∧ (∀ d, d ∈ ds → Val n d) ∧ ∀ H', Ex H H' → Q (.bl true) H'
theorem Du.same {H : Hp} {x y : V} {d : PyData} (h : Du H x d) (k : Du H y d) (ht : tyD d ≠ "list") (h2 : tyD d ≠ "tuple") (h3 : tyD d ≠ "dict") : x = y ∧ scal x y = true := by
  cases h with
  | @leaf _ h =>
    generalize e : datOf x = d at k
    cases k with
    | @leaf _ k => cases x <;> cases y <;> first | (cases h; done) | (cases k; done) | (cases e; done) | (injection e with e; subst e; exact ⟨rfl, rfl⟩) | exact ⟨rfl, rfl⟩
    | lst _ _ _ => exact (ht (by rw [e]; rfl)).elim
    | tup _ _ _ => exact (h2 (by rw [e]; rfl)).elim
    | dct _ _ _ => exact (h3 (by rw [e]; rfl)).elim
  | lst _ _ _ => exact (ht rfl).elim
  | tup _ _ _ => exact (h2 rfl).elim
  | dct _ _ _ => exact (h3 rfl).elim
theorem ev_rec {n : Nat} {spR : Sp} (R : RecE n spR) {σ : L2.St} {H : Hp} {ta tb : TE} {E : XK} {x y : V} {d : PyData} (ha : Ev ta σ H x) (hb : Ev tb σ H y) (hx : Du H x d) (hy : Du H y d) (hv : Val n d) : Ev (tCall spR [] E (tCons ta (tCons tb tNil))) σ H (.bl true) := fun H1 e Q q =>
  ha H1 e _ fun H2 e2 => hb H2 (e.trans e2) _ fun H3 e3 => R x y d H3 Q E (hx.ex ((e.trans e2).trans e3)) (hy.ex ((e.trans e2).trans e3)) hv fun H4 e4 => q H4 ((e2.trans e3).trans e4)
theorem itm_step {n j k : Nat} {spR : Sp} (T : Txt K mg) (hj : j ≤ k) (CR : Can P w K mg base CX0 j "is_equal" ["one", "other"] spR) (R : RecE n spR) : Can P w K mg base CX0 (k + 1) "_are_items_equal" ["one", "other"] (spItm n) := by
  refine can_of T.g__are_items_equal T.F__are_items_equal (fun fd F => ?_) (fun _ _ _ _ _ _ us hl => match us, hl with | [_, _], _ => rfl)
  refine F.ok sc__are_items_equal (fun vs H Q E h => ?_) (fun cdv A outer s H vs Q E hr h => ?_)
  · obtain ⟨a, b, xs, ys, ds, rfl, _⟩ := h
    rfl
  · obtain ⟨a, b, xs, ys, ds, rfl, h2, hx, hy, hv, fin⟩ := h
    have nd := sc__are_items_equal.nd
    refine ⟨_, pss_cons (ps_for PassesOwn.never rfl (RZ.pi_zipA rfl T.n_zip (pa_cons (pv 0) (pa_cons (pv 1) pa_nil))) (pg_tup rfl (pgs_cons (pg_name (i := 2) nd rfl (.inl rfl)) (pgs_cons (pg_name (i := 3) nd rfl (.inl rfl)) pgs_nil)))
        (pss_one (ps_if (PW.pt (pw_and (pt_cmpR op_isTyR (pe_callTy call_type1 (by rfl) T.n_type (by decide +kernel) (pa_cons (pv 2) pa_nil)) (pe_bltn rfl T.n_int (v := .ty "int") (by decide +kernel) rfl) (nomark _)) (pw_and1 (pt_cmpR op_isTyR (pe_callTy call_type1 (by rfl) T.n_type (by decide +kernel) (pa_cons (pv 3) pa_nil)) (pe_bltn rfl T.n_int (v := .ty "int") (by decide +kernel) rfl) (nomark _)))))
          (pss_one (ps_if (pt_cmpR op_ne (pv 2) (pv 3) (nomark _)) (pss_one (ps_ret pe_bl)) pss_nil))
          (pss_one (ps_if (pt_not (pt_val (pe_can CR hr pass0 (pa_cons (pv 2) (pa_cons (pv 3) pa_nil)) (hjk := hj)))) (pss_one (ps_ret pe_bl)) pss_nil)))))
      (pss_one (ps_ret pe_bl)), ?_⟩
    refine q_zipSq (K := K) (fun R r => ⟨_, rfl, _, rfl, r⟩) h2 (by rw [hx.1, hy.1]) (fun i σ' H' => (∃ u v, σ' = [some (.ref a), some (.ref b), u, v]) ∧ Ex H H') ⟨⟨_, _, rfl⟩, Ex.refl H⟩ (fun i σ' H' p => p.2) ?_ ?_
    · rintro i x y T1 σ' H1 hxi hyi ⟨⟨u, v, rfl⟩, e1⟩ hT
      have e2 : Ex H1 (upd H1 T1 (.tup [x, y])) := Ex.new hT
      refine gP_of (st_of upd_same) ?_
      generalize upd H1 T1 (.tup [x, y]) = H2 at *
      have e02 := e1.trans e2
      obtain ⟨d, hdi⟩ : ∃ d, ds[i]? = some d := at_some (by have := (List.getElem?_eq_some_iff.mp hxi).1; rw [hx.1] at this; exact this)
      have hdx := (hx.2 i x d hxi hdi).ex e02
      have hdy := (hy.2 i y d hyi hdi).ex e02
      show tIfS _ _ _ _ ([some (.ref a), some (.ref b), some x, some y] : L2.St) H2
      refine s_if (b := decide (tyD d = "int") && decide (tyD d = "int")) (et_and (et_tyD (ev_var rfl) hdx) fun _ => et_tyD (ev_var rfl) hdy) (fun hb H3 e3 => ?_) fun hb H3 e3 => ?_
      · obtain ⟨rfl, hs⟩ := Du.same hdx hdy (fun z => by simp [z] at hb) (fun z => by simp [z] at hb) (fun z => by simp [z] at hb)
        refine s_when (b := false) (et_is (et_test (ev_op (ev_var rfl) (ev_var rfl) (rv_ne hs))) (by simp)) (fun h => by cases h) fun _ H4 e4 => ⟨⟨_, _, rfl⟩, (e02.trans e3).trans e4⟩
      · exact s_when (b := false) (et_is (et_not (a := true) (et_B (ev_rec R (ev_var rfl) (ev_var rfl) (hdx.ex e3) (hdy.ex e3) (hv d (List.mem_of_getElem? hdi))))) rfl) (fun h => by cases h) fun _ H4 e4 => ⟨⟨_, _, rfl⟩, (e02.trans e3).trans e4⟩
    · rintro σ' H1 ⟨_, e1⟩
      exact s_ret ev_c fun H2 e2 => fin H2 (e1.trans e2)
/-! ### dicts -/
theorem s_keys {D : Ends} {σ : L2.St} {H : Hp} {i j : Nat} {d : Addr} {kvs : List (L2.Key × V)} {tb : TS} (hv : σ[i]? = some (some (.ref d))) (hd : H d = some (.dK kvs)) (W : Nat → L2.St → Hp → Prop) (h0 : ∀ od, W 0 σ (upd H d (.frz od (.dK kvs))))
    (hs : ∀ (od : Obj) (n : Nat) (k : L2.Key) (v : V) (σ' : L2.St) (H' : Hp), kvs[n]? = some (k, v) → W n σ' H' → H' d = some (.frz od (.dK kvs)) →
      tb ⟨fun σ2 H2 => W (n + 1) σ2 H2 ∧ H2 d = some (.frz od (.dK kvs)), fun v H' => H' d = some (.frz od (.dK kvs)) ∧ D.rt v (upd H' d (.dK kvs)), fun σ' H' => H' d = some (.frz od (.dK kvs)) ∧ D.nx σ' (upd H' d (.dK kvs)), fun σ2 H2 => W (n + 1) σ2 H2 ∧ H2 d = some (.frz od (.dK kvs))⟩ (σ'.set j (some (kV k))) H')
    (hf : ∀ od σ' H', W kvs.length σ' H' → H' d = some (.frz od (.dK kvs)) → D.nx σ' (upd H' d (.dK kvs))) :
    tLock (tFor (iKeys (tVar i)) (gName j) tb) D σ H := by
  refine ⟨d, _, hd, trivial, fun od => ?_⟩
  refine ⟨_, hv, d, od, rfl, .inl ⟨kvs, upd_same, for_it walk_keys (fun n σ' H' => W n σ' H' ∧ H' d = some (.frz od (.dK kvs))) ⟨h0 od, upd_same⟩ (fun _ _ _ _ q => q.2) ?_ (fun σ' H' q => ⟨q.2, hf od σ' H' q.1 q.2⟩)⟩⟩
  rintro n x σ' H' H'' hn ⟨hw, hz⟩ ⟨rfl, k, v, hk, rfl⟩
  exact hs od n k v σ' _ hk hw hz
theorem q_keys {D : Ends} {σ : L2.St} {H : Hp} {i j : Nat} {d : Addr} {kvs : List (L2.Key × V)} {tb tz : TS} (hv : σ[i]? = some (some (.ref d))) (hd : H d = some (.dK kvs)) (W : Nat → L2.St → Hp → Prop) (h0 : ∀ od, W 0 σ (upd H d (.frz od (.dK kvs))))
    (hs : ∀ (od : Obj) (n : Nat) (k : L2.Key) (v : V) (σ' : L2.St) (H' : Hp), kvs[n]? = some (k, v) → W n σ' H' → H' d = some (.frz od (.dK kvs)) →
      tb ⟨fun σ2 H2 => W (n + 1) σ2 H2 ∧ H2 d = some (.frz od (.dK kvs)), fun v H' => H' d = some (.frz od (.dK kvs)) ∧ D.rt v (upd H' d (.dK kvs)), fun σ' H' => H' d = some (.frz od (.dK kvs)) ∧ tz D σ' (upd H' d (.dK kvs)), fun σ2 H2 => W (n + 1) σ2 H2 ∧ H2 d = some (.frz od (.dK kvs))⟩ (σ'.set j (some (kV k))) H')
    (hf : ∀ od σ' H', W kvs.length σ' H' → H' d = some (.frz od (.dK kvs)) → tz D σ' (upd H' d (.dK kvs))) :
    tSeq (tLock (tFor (iKeys (tVar i)) (gName j) tb)) tz D σ H := s_keys (D := { D with nx := tz D }) hv hd W h0 hs hf
theorem ex_back {H H' : Hp} {a : Addr} {kvs : List (L2.Key × V)} (h : H a = some (.dK kvs)) (e : Ex (wo H a) H') : Ex H (upd H' a (.dK kvs)) := fun b o q => by
  by_cases nb : b = a
  · subst nb
    rw [upd_same]
    rw [h] at q
    exact q
  · rw [upd_ne nb]
    exact e b o (by rw [wo_ne nb]; exact q)
theorem wo_upd {H : Hp} {a : Addr} {u : HO} : Ex (wo H a) (upd H a u) := fun b o h => by
  obtain ⟨nb, h⟩ := wo_some h
  rw [upd_ne nb]
  exact h
/-- the other dict, while the one is walked -/
theorem rd_oth {H H' : Hp} {a b : Addr} {kvs kws : List (L2.Key × V)} {od : Obj} (ha : H a = some (.dK kvs)) (hb : H b = some (.dK kws)) (e : Ex (wo H a) H') (hf : H' a = some (.frz od (.dK kvs))) : Rd H' b (.dK kws) := by
  by_cases nb : b = a
  · subst nb
    rw [ha] at hb
    injection Option.some.inj hb with q
    subst q
    exact .inr ⟨od, hf⟩
  · exact .inl (e b _ (by rw [wo_ne nb]; exact hb))
theorem ev_dninK {σ : L2.St} {H : Hp} {td ty : TE} {d : Addr} {k : L2.Key} {kvs : List (L2.Key × V)} {v : V} (hy : Ev ty σ H (kV k)) (hd : Ev td σ H (.ref d)) (h : Rd H d (.dK kvs)) (hv : valV kvs k = some v) : Ev (tDNotIn ty td) σ H (.bl false) := fun H1 e Q q =>
  hy H1 e _ fun H2 e2 => hd H2 (e.trans e2) _ fun H3 e3 => ⟨d, some v, rfl, dg_rd (rd_ex ((e.trans e2).trans e3) h) hv, q H3 (e2.trans e3)⟩
def spDct (n : Nat) : Sp := fun vs H Q _ => ∃ (a b : Addr) (ds : List (PyData × PyData)), vs = [.ref a, .ref b] ∧ Du H (.ref a) (.dict ds) ∧ Du H (.ref b) (.dict ds) ∧ (ds.map Prod.fst).Nodup ∧ (∀ p, p ∈ ds → Val n p.2) ∧ ∀ H', Ex H H' → Q (.bl true) H'
theorem dct_step {n j k : Nat} {spR : Sp} (T : Txt K mg) (hj : j ≤ k) (CR : Can P w K mg base CX0 j "is_equal" ["one", "other"] spR) (R : RecE n spR) : Can P w K mg base CX0 (k + 1) "_are_dicts_equal" ["one", "other"] (spDct n) := by
  refine can_of T.g__are_dicts_equal T.F__are_dicts_equal (fun fd F => ?_) (fun _ _ _ _ _ _ us hl => match us, hl with | [_, _], _ => rfl)
  refine F.ok sc__are_dicts_equal (fun vs H Q E h => ?_) (fun cdv A outer s H vs Q E hr h => ?_)
  · obtain ⟨a, b, ds, rfl, _⟩ := h
    rfl
  · obtain ⟨a, b, ds, rfl, hx, hy, hnd, hv, fin⟩ := h
    have nd := sc__are_dicts_equal.nd
    have hu : (A.deeper (envOfC "_are_dicts_equal" (defScope s__are_dicts_equal) s.heap.objs.size (ga K "_are_dicts_equal") cdv)).units + 1 < cLine := Nat.lt_of_le_of_lt (Nat.add_le_add_left (by decide) _) hr.units
    refine ⟨_, pss_cons (ps_if (pt_cmpR op_ne (pe_callB call_lenD (by rfl) T.n_len PySem.boot_len (pa_cons (pv 0) pa_nil)) (pe_callB call_lenD (by rfl) T.n_len PySem.boot_len (pa_cons (pv 1) pa_nil)) (nomark _)) (pss_one (ps_ret pe_bl)) pss_nil)
      (pss_cons (ps_lock (ps_for PassesOwn.never rfl (pi_keys (pv 0)) (pg_name (i := 2) nd rfl (.inl rfl)) (pss_one (ps_if (pt_cmp (pc_dnotin (by exact hu) (pv 2) (pv 1))) (pss_one (ps_ret pe_bl)) pss_nil))))
      (pss_cons (ps_lock (ps_for PassesOwn.never rfl (pi_keys (pv 0)) (pg_name (i := 2) nd rfl (.inl rfl)) (pss_one (ps_if (pt_not (pt_val (pe_can CR hr pass0 (pa_cons (pe_dget (by exact hu) (pv 0) (pv 2) (fun _ _ => rfl)) (pa_cons (pe_dget (by exact hu) (pv 1) (pv 2) (fun _ _ => rfl)) pa_nil)) (hjk := hj)))) (pss_one (ps_ret pe_bl)) pss_nil))))
      (pss_one (ps_ret pe_bl)))), ?_⟩
    have hx0 := hx
    have hy0 := hy
    cases hx with
    | @dct _ kvs _ x1 x2 x3 =>
    cases hy with
    | @dct _ kws _ y1 y2 y3 =>
    have lx : kvs.length = ds.length := by have := congrArg List.length x2; simpa using this.symm
    have ly : kws.length = ds.length := by have := congrArg List.length y2; simpa using this.symm
    have ndx := nd_keys x2 hnd
    have ndy := nd_keys y2 hnd
    have oth : ∀ {i : Nat} {kk : L2.Key} {v : V}, kvs[i]? = some (kk, v) → ∃ u p, kws[i]? = some (kk, u) ∧ ds[i]? = some p := fun {i kk v} h => by
      have hi := (List.getElem?_eq_some_iff.mp h).1
      obtain ⟨⟨k2, u⟩, hu⟩ : ∃ q, kws[i]? = some q := at_some (by omega)
      obtain ⟨p, hp⟩ : ∃ q, ds[i]? = some q := at_some (by omega)
      have e1 : (ds.map Prod.fst)[i]? = some p.1 := by rw [List.getElem?_map, hp]; rfl
      have e2 := e1
      rw [x2, List.getElem?_map, h] at e1
      rw [y2, List.getElem?_map, hu] at e2
      have : kk = k2 := keyD_inj (Option.some.inj (e1.trans e2.symm))
      subst this
      exact ⟨u, p, hu, hp⟩
    refine q_when (b := false) (et_is (et_test (ev_op (ev_cb (z := .int (kvs.length : Int)) (ea_cons (ev_var rfl) ea_nil) fun H1 e Q q => ⟨a, kvs, rfl, e _ _ x1, q H1 (Ex.refl H1)⟩) (ev_cb (z := .int (kws.length : Int)) (ea_cons (ev_var rfl) ea_nil) fun H1 e Q q => ⟨b, kws, rfl, e _ _ y1, q H1 (Ex.refl H1)⟩) (rv_ne rfl))) (by rw [lx, ly]; simp)) (fun h => by cases h) fun _ H1 e1 => ?_
    refine q_keys (d := a) (kvs := kvs) rfl (e1 _ _ x1) (fun i σ' H' => (∃ u, σ' = [some (.ref a), some (.ref b), u]) ∧ Ex (wo H1 a) H') (fun od => ⟨⟨_, rfl⟩, wo_upd⟩) ?_ ?_
    · rintro od i kk v σ' H2 hi ⟨⟨u, rfl⟩, e2⟩ hf
      obtain ⟨y, p, hyi, hp⟩ := oth hi
      show tIfS _ _ _ _ ([some (.ref a), some (.ref b), some (kV kk)] : L2.St) H2
      refine s_when (b := false) (et_B (ev_dninK (v := y) (ev_var rfl) (ev_var rfl) (rd_oth (e1 _ _ x1) (e1 _ _ y1) e2 hf) (val_of ndy hyi))) (fun h => by cases h) fun _ H3 e3 => ⟨⟨⟨_, rfl⟩, e2.trans e3⟩, e3 _ _ hf⟩
    · rintro od σ' H2 ⟨⟨u0, rfl⟩, e2⟩ hf
      have e3 := ex_back (e1 _ _ x1) e2
      generalize upd H2 a (.dK kvs) = H3 at *
      have e03 := e1.trans e3
      have hxs := hx0.ex e03
      have hys := hy0.ex e03
      refine q_keys (d := a) (kvs := kvs) rfl (e03 _ _ x1) (fun i σ' H' => (∃ u, σ' = [some (.ref a), some (.ref b), u]) ∧ Ex (wo H3 a) H') (fun od => ⟨⟨_, rfl⟩, wo_upd⟩) ?_ ?_
      · rintro od i kk v σ' H4 hi ⟨⟨u, rfl⟩, e4⟩ hf
        obtain ⟨y, p, hyi, hp⟩ := oth hi
        have hm := List.mem_of_getElem? hp
        have hdep : p.2.depth < (PyData.dict ds).depth := by
          have : p.2.depth ≤ PyData.depthKv ds := depth_kv hm
          show _ < PyData.depthKv ds + 1
          omega
        have d1 : Du H4 v p.2 := ((hxs.wo ((x3 i _ p hi hp).ex e03)) hdep).ex e4
        have d2 : Du H4 y p.2 := ((hxs.wo ((y3 i _ p hyi hp).ex e03)) hdep).ex e4
        show tIfS _ _ _ _ ([some (.ref a), some (.ref b), some (kV kk)] : L2.St) H4
        refine s_when (b := false) (et_is (et_not (a := true) (et_B (ev_rec R (ev_datK (k := kk) (ev_var rfl) (ev_var rfl) (.inr ⟨od, hf⟩) (val_of ndx hi)) (ev_datK (k := kk) (ev_var rfl) (ev_var rfl) (rd_oth (e03 _ _ x1) (e03 _ _ y1) e4 hf) (val_of ndy hyi)) d1 d2 (hv _ hm)))) rfl) (fun h => by cases h) fun _ H5 e5 => ⟨⟨⟨_, rfl⟩, e4.trans e5⟩, e5 _ _ hf⟩
      · rintro od σ' H4 ⟨_, e4⟩ hf
        exact s_ret ev_c fun H5 e5 => fin H5 ((e03.trans (ex_back (e03 _ _ x1) e4)).trans e5)
end
end K50
end

section
set_option Elab.async false
set_option linter.all false
set_option maxRecDepth 100000
set_option maxHeartbeats 4000000
namespace K50
open PySem PySem.Spec PyProof.Rows L2 He Cn Evl DtU RpV RpD SqI ExT LcS
section
variable {P : Program} {w : World} {K : PySem.W.Frag} {mg : Str → Option Value} {base : Heap}
def spEq (n : Nat) : Sp := fun vs H Q _ => ∃ (x y : V) (d : PyData), vs = [x, y] ∧ Du H x d ∧ Du H y d ∧ Val n d ∧ ∀ H', Ex H H' → Q (.bl true) H'
def RecI (n : Nat) (sp : Sp) : Prop := ∀ (a b : Addr) (xs ys : List V) (ds : List PyData) (H : Hp) (Q : VK) (E : XK), Two H a b xs ys → Pz H xs ds → Pz H ys ds → (∀ d, d ∈ ds → Val n d) → (∀ H', Ex H H' → Q (.bl true) H') → sp [.ref a, .ref b] H Q E
def RecD (n : Nat) (sp : Sp) : Prop := ∀ (a b : Addr) (ds : List (PyData × PyData)) (H : Hp) (Q : VK) (E : XK), Du H (.ref a) (.dict ds) → Du H (.ref b) (.dict ds) → (ds.map Prod.fst).Nodup → (∀ p, p ∈ ds → Val n p.2) → (∀ H', Ex H H' → Q (.bl true) H') → sp [.ref a, .ref b] H Q E
def scD (d : PyData) : Bool := decide (tyD d = "int") || (decide (tyD d = "str") || (decide (tyD d = "NoneType") || decide (tyD d = "bool")))
theorem inv_lst {H : Hp} {y : V} {ds : List PyData} (h : Du H y (.list ds)) : ∃ b ys, y = .ref b ∧ H b = some (.lst ys) ∧ Pz H ys ds := by
  generalize e : PyData.list ds = d at h
  cases h with
  | leaf h => cases y <;> first | (cases h; done) | (cases e; done)
  | @lst b ys _ k1 k2 k3 => cases e; exact ⟨b, ys, rfl, k1, k2, k3⟩
  | tup _ _ _ => cases e
  | dct _ _ _ => cases e
theorem inv_tup {H : Hp} {y : V} {ds : List PyData} (h : Du H y (.tuple ds)) : ∃ b ys, y = .ref b ∧ H b = some (.tup ys) ∧ Pz H ys ds := by
  generalize e : PyData.tuple ds = d at h
  cases h with
  | leaf h => cases y <;> first | (cases h; done) | (cases e; done)
  | lst _ _ _ => cases e
  | @tup b ys _ k1 k2 k3 => cases e; exact ⟨b, ys, rfl, k1, k2, k3⟩
  | dct _ _ _ => cases e
theorem inv_dct {H : Hp} {y : V} {ds : List (PyData × PyData)} (h : Du H y (.dict ds)) : ∃ b kvs, y = .ref b ∧ H b = some (.dK kvs) ∧ (ds.map Prod.fst = kvs.map fun p => keyD p.1) ∧ ∀ (i : Nat) (x : L2.Key × V) (d : PyData × PyData), kvs[i]? = some x → ds[i]? = some d → Du H x.2 d.2 := by
  generalize e : PyData.dict ds = d at h
  cases h with
  | leaf h => cases y <;> first | (cases h; done) | (cases e; done)
  | lst _ _ _ => cases e
  | tup _ _ _ => cases e
  | @dct b kvs _ k1 k2 k3 => cases e; exact ⟨b, kvs, rfl, k1, k2, k3⟩
theorem Du.seq {H : Hp} {x y : V} {d : PyData} (h : Du H x d) (k : Du H y d) (ht : tyD d = "list" ∨ tyD d = "tuple") : ∃ a b xs ys ds, x = .ref a ∧ y = .ref b ∧ Two H a b xs ys ∧ Pz H xs ds ∧ Pz H ys ds ∧ (d = .list ds ∨ d = .tuple ds) := by
  cases d with
  | list ds =>
    obtain ⟨a, xs, rfl, h1, h2⟩ := inv_lst h
    obtain ⟨b, ys, rfl, k1, k2⟩ := inv_lst k
    exact ⟨a, b, xs, ys, ds, rfl, rfl, .inl ⟨h1, k1⟩, h2, k2, .inl rfl⟩
  | tuple ds =>
    obtain ⟨a, xs, rfl, h1, h2⟩ := inv_tup h
    obtain ⟨b, ys, rfl, k1, k2⟩ := inv_tup k
    exact ⟨a, b, xs, ys, ds, rfl, rfl, .inr ⟨h1, k1⟩, h2, k2, .inr rfl⟩
  | _ => rcases ht with q | q <;> simp [tyD] at q
theorem Du.dctE {H : Hp} {x y : V} {d : PyData} (h : Du H x d) (k : Du H y d) (ht : tyD d = "dict") : ∃ a b ds, x = .ref a ∧ y = .ref b ∧ d = .dict ds := by
  cases d with
  | dict ds =>
    obtain ⟨a, _, rfl, _⟩ := inv_dct h
    obtain ⟨b, _, rfl, _⟩ := inv_dct k
    exact ⟨a, b, ds, rfl, rfl, rfl⟩
  | _ => simp [tyD] at ht
theorem ty_rest (d : PyData) (h1 : scD d = false) (h2 : (decide (tyD d = "list") || decide (tyD d = "tuple")) = false) : tyD d = "dict" := by cases d <;> first | rfl | (simp [scD, tyD] at h1; done) | (simp [tyD] at h2; done)
theorem ev_to {σ : L2.St} {H : Hp} {te : TE} {x y : V} (h : Ev te σ H x) (e : x = y) : Ev te σ H y := e ▸ h
theorem rv_inS {H : Hp} {a : Addr} {xs : List V} {x : V} (h : ∀ H : Hp, SqT K H a xs) (hx : flatV x = true := by rfl) (hs : xs.all flatV = true := by rfl) : RV (rIn K false) x (.ref a) H (.bl (inV x xs)) := fun H1 e Q q => ⟨a, xs, rfl, .inr (h H1), hx, hs, q H1 (Ex.refl H1)⟩
theorem eq_step {n k : Nat} {spI spD : Sp} (T : Txt K mg) (hk : 2 ≤ k) (CI : Can P w K mg base CX0 k "_are_items_equal" ["one", "other"] spI) (CD : Can P w K mg base CX0 k "_are_dicts_equal" ["one", "other"] spD)
    (RV : ∀ d, Val n d → leafB d = true ∨ ∃ m, RecI m spI ∧ RecD m spD ∧ (∀ ds, d = .list ds ∨ d = .tuple ds → ∀ e, e ∈ ds → Val m e) ∧ ∀ ds, d = .dict ds → (ds.map Prod.fst).Nodup ∧ ∀ p, p ∈ ds → Val m p.2) : Can P w K mg base CX0 (k + 1) "is_equal" ["one", "other"] (spEq n) := by
  have CS : Can P w K mg base CX0 2 "sort_of" ["value"] spSortD := can_sortD T
  refine can_of T.g_is_equal T.F_is_equal (fun fd F => ?_) (fun _ _ _ _ _ _ us hl => match us, hl with | [_, _], _ => rfl)
  refine F.ok sc_is_equal (fun vs H Q E h => ?_) (fun cdv A outer s H vs Q E hr h => ?_)
  · obtain ⟨x, y, d, rfl, _⟩ := h
    rfl
  · obtain ⟨x, y, d, rfl, hx, hy, hv, fin⟩ := h
    have nd := sc_is_equal.nd
    refine ⟨_, pss_cons (ps_if (pt_cmpR op_isTyR (pe_callTy call_type1 (by rfl) T.n_type (by decide +kernel) (pa_cons (pv 0) pa_nil)) (pe_callTy call_type1 (by rfl) T.n_type (by decide +kernel) (pa_cons (pv 1) pa_nil)) (nomark _))
        (pss_cons (ps_if (PW.pt (pw_or (pt_cmpR op_isTyR (pe_callTy call_type1 (by rfl) T.n_type (by decide +kernel) (pa_cons (pv 0) pa_nil)) (pe_bltn rfl T.n_int (v := .ty "int") (by decide +kernel) rfl) (nomark _)) (pw_or (pt_cmpR op_isTyR (pe_callTy call_type1 (by rfl) T.n_type (by decide +kernel) (pa_cons (pv 0) pa_nil)) (pe_bltn rfl T.n_str (v := .ty "str") (by decide +kernel) rfl) (nomark _)) (pw_or (pt_cmp (pc_isN (pv 0))) (pw_or1 (pt_cmpR op_isTyR (pe_callTy call_type1 (by rfl) T.n_type (by decide +kernel) (pa_cons (pv 0) pa_nil)) (pe_bltn rfl T.n_bool (v := .ty "bool") (by decide +kernel) rfl) (nomark _))))))) (pss_one (ps_ret (pe_cmpR op_eq (pv 0) (pv 1) (nomark _)))) pss_nil)
        (pss_one (ps_if (PW.pt (pw_or (pt_cmpR op_isTyR (pe_callTy call_type1 (by rfl) T.n_type (by decide +kernel) (pa_cons (pv 0) pa_nil)) (pe_bltn rfl T.n_list (v := .ty "list") (by decide +kernel) rfl) (nomark _)) (pw_or1 (pt_cmpR op_isTyR (pe_callTy call_type1 (by rfl) T.n_type (by decide +kernel) (pa_cons (pv 0) pa_nil)) (pe_bltn rfl T.n_tuple (v := .ty "tuple") (by decide +kernel) rfl) (nomark _))))) (pss_one (ps_ret (pe_and (pe_cmpR op_eq (pe_callB call_len_seq (by rfl) T.n_len PySem.boot_len (pa_cons (pv 0) pa_nil)) (pe_callB call_len_seq (by rfl) T.n_len PySem.boot_len (pa_cons (pv 1) pa_nil)) (nomark _)) (pe_one (pe_can CI hr pass0 (pa_cons (pv 0) (pa_cons (pv 1) pa_nil)) (hjk := Nat.le_refl _)))))) pss_nil))) pss_nil)
      (pss_cons (ps_if (pt_val (pe_callB call_isi (by rfl) T.n_isinstance (by decide +kernel) (pa_cons (pv 0) (pa_cons (pe_glob rfl T.g_Fielded (v := .ref (ga K "Fielded")) rfl) pa_nil)))) (pss_one ps_never) pss_nil)
      (pss_cons (ps_set (i := 2) nd rfl (.inl rfl) (pe_can CS hr pass0 (pa_cons (pv 0) pa_nil) (hjk := hk)))
      (pss_cons (ps_if (pt_cmpR op_ne (pv 2) (pe_can CS hr pass0 (pa_cons (pv 1) pa_nil) (hjk := hk)) (nomark _)) (pss_one (ps_ret pe_bl)) pss_nil)
      (pss_cons (ps_if (pt_cmpR op_in_seq (pv 2) (pe_glob rfl T.g_SIMPLE_SORTS (v := .ref (ga K "SIMPLE_SORTS")) rfl) rfl) (pss_one ps_never) pss_nil)
      (pss_cons (ps_if (pt_cmpR op_eq (pv 2) pe_str (nomark _)) (pss_one (ps_ret (pe_can CD hr pass0 (pa_cons (pv 0) (pa_cons (pv 1) pa_nil)) (hjk := Nat.le_refl _)))) pss_nil)
      (pss_one ps_never)))))), ?_⟩
    refine q_when (b := true) (et_is (et_test (ev_op (ev_typeD (ev_var rfl) hx) (ev_typeD (ev_var rfl) hy) rv_isTy)) (by simp)) (fun _ H1 e1 => ?_) (fun h => by cases h)
    have hx1 := hx.ex e1
    have hy1 := hy.ex e1
    refine q_when (b := scD d) (et_or (et_tyD (ev_var rfl) hx1) fun _ => et_or (et_tyD (ev_var rfl) hx1) fun _ => et_or (et_is (et_isN (ev_var rfl)) (Du.non_ hx1)) fun _ => et_tyD (ev_var rfl) hx1) (fun hs H2 e2 => ?_) fun hs H2 e2 => ?_
    · obtain ⟨rfl, sc⟩ := Du.same hx1 hy1 (fun z => by simp [scD, z] at hs) (fun z => by simp [scD, z] at hs) (fun z => by simp [scD, z] at hs)
      exact s_ret (v := .bl true) (ev_to (ev_op (ev_var (i := 0) rfl) (ev_var (i := 1) rfl) (rv_eq sc)) (by simp)) fun H3 e3 => fin H3 ((e1.trans e2).trans e3)
    have e02 := e1.trans e2
    have hx2 := hx1.ex e2
    have hy2 := hy1.ex e2
    refine s_when (b := decide (tyD d = "list") || decide (tyD d = "tuple")) (et_or (et_tyD (ev_var rfl) hx2) fun _ => et_tyD (ev_var rfl) hx2) (fun hl H3 e3 => ?_) fun hl H3 e3 => ?_
    · have e03 := e02.trans e3
      obtain ⟨a, b, xs, ys, ds, rfl, rfl, h2, px, py, hd⟩ := Du.seq (hx2.ex e3) (hy2.ex e3) (by simpa using hl)
      obtain hlf | ⟨m, RI, RD, r1, r2⟩ := RV d hv
      · rcases hd with rfl | rfl <;> simp [leafB] at hlf
      refine s_ret (v := .bl (true && true)) (ev_andV (a := true) (b := true) (ev_to (ev_op (ev_lenA (ev_var rfl) h2.l.1) (ev_lenA (ev_var rfl) h2.l.2) (rv_eq rfl)) (by rw [px.1, py.1]; simp)) fun _ => fun H4 e4 Q' q' => ⟨_, rfl, _, rfl, RI a b xs ys ds H4 _ _ (h2.ex e4) ⟨px.1, fun i x d p q => (px.2 i x d p q).ex e4⟩ ⟨py.1, fun i x d p q => (py.2 i x d p q).ex e4⟩ (r1 ds hd) fun H5 e5 => q' H5 e5⟩) fun H4 e4 => fin H4 (e03.trans e4)
    · have e03 := e02.trans e3
      have ht := ty_rest d hs hl
      have hx3 := hx2.ex e3
      have hy3 := hy2.ex e3
      refine q_when (b := false) (et_B (ev_isFd T (ev_var rfl) hx3)) (fun h => by cases h) fun _ H4 e4 => ?_
      have e04 := e03.trans e4
      refine q_asgE ?_
      refine ⟨_, rfl, x, d, rfl, hx3.ex e4, fun H5 e5 => ?_⟩
      have e05 := e04.trans e5
      have hs' : sortD d = "dict" := by cases d <;> first | rfl | (simp [tyD] at ht; done)
      rw [hs']
      have hy5 := hy.ex e05
      refine q_when (b := false) (et_is (et_test (ev_op (y := .str "dict") (ev_var (v := .str "dict") rfl) (fun H6 e6 Q' q' => ⟨_, rfl, y, d, rfl, hy5.ex e6, fun H7 e7 => by rw [hs']; exact q' H7 e7⟩) (rv_ne rfl))) (by decide)) (fun h => by cases h) fun _ H6 e6 => ?_
      have e06 := e05.trans e6
      refine q_when (b := false) (et_is (et_test (ev_op (x := .str "dict") (ev_var rfl) ev_c (rv_inS (K := K) (T.simpleSorts)))) (by decide)) (fun h => by cases h) fun _ H7 e7 => ?_
      refine q_when (b := true) (et_is (et_test (ev_op (x := .str "dict") (ev_var rfl) ev_c (rv_eq rfl))) (by decide)) (fun _ H8 e8 => ?_) (fun h => by cases h)
      obtain ⟨a, b, ds, rfl, rfl, rfl⟩ := Du.dctE hx hy ht
      obtain hlf | ⟨m, RI, RD, r1, r2⟩ := RV _ hv
      · simp [leafB] at hlf
      have e08 := (e06.trans e7).trans e8
      exact ⟨_, rfl, _, rfl, RD a b ds H8 _ _ (hx.ex e08) (hy.ex e08) (r2 ds rfl).1 (r2 ds rfl).2 fun H9 e9 => fin H9 (e08.trans e9)⟩
end
end K50
end

section
set_option Elab.async false
set_option linter.all false
set_option maxRecDepth 100000
set_option maxHeartbeats 4000000
namespace K50
open PySem PySem.Spec PyProof.Rows L2 He Cn Evl DtU RpV RpD SqI ExT LcS
section
variable {P : Program} {w : World} {K : PySem.W.Frag} {mg : Str → Option Value} {base : Heap}
theorem can_itm0 (T : Txt K mg) : Can P w K mg base CX0 2 "_are_items_equal" ["one", "other"] (fun _ _ _ _ => False) :=
  can_of T.g__are_items_equal T.F__are_items_equal (fun fd F => F.ok sc__are_items_equal (fun vs H Q E h => h.elim) (fun cdv A outer s H vs Q E hr h => h.elim)) (fun _ _ _ _ _ _ us hl => match us, hl with | [_, _], _ => rfl)
theorem can_dct0 (T : Txt K mg) : Can P w K mg base CX0 2 "_are_dicts_equal" ["one", "other"] (fun _ _ _ _ => False) :=
  can_of T.g__are_dicts_equal T.F__are_dicts_equal (fun fd F => F.ok sc__are_dicts_equal (fun vs H Q E h => h.elim) (fun cdv A outer s H vs Q E hr h => h.elim)) (fun _ _ _ _ _ _ us hl => match us, hl with | [_, _], _ => rfl)
theorem can_eq (T : Txt K mg) : ∀ n, Can P w K mg base CX0 (2 * n + 3) "is_equal" ["one", "other"] (spEq n)
  | 0 => eq_step T (k := 2) (by omega) (can_itm0 T) (can_dct0 T) fun d hv => by
    cases hv with
    | leaf h => exact .inl h
  | n + 1 => by
    have R : RecE n (spEq n) := fun x y d H Q E hx hy hv k => ⟨x, y, d, rfl, hx, hy, hv, k⟩
    refine eq_step T (k := 2 * n + 4) (by omega) (itm_step T (Nat.le_refl _) (can_eq T n) R) (dct_step T (Nat.le_refl _) (can_eq T n) R) fun d hv => ?_
    have RI : RecI n (spItm n) := fun a b xs ys ds H Q E h2 hx hy hv k => ⟨a, b, xs, ys, ds, rfl, h2, hx, hy, hv, k⟩
    have RD : RecD n (spDct n) := fun a b ds H Q E hx hy hn hv k => ⟨a, b, ds, rfl, hx, hy, hn, hv, k⟩
    cases hv with
    | leaf h => exact .inl h
    | lst h hl => exact .inr ⟨n, RI, RD, fun es he => (by rcases he with q | q <;> cases q; exact h), fun es he => by cases he⟩
    | tup h hl => exact .inr ⟨n, RI, RD, fun es he => (by rcases he with q | q <;> cases q; exact h), fun es he => by cases he⟩
    | dct hk hn h hl => exact .inr ⟨n, RI, RD, fun es he => (by rcases he with q | q <;> cases q), fun es he => by cases he; exact ⟨hn, h⟩⟩
def spAre (n : Nat) : Sp := fun vs H Q _ => ∃ (x y : V) (d : PyData), vs = [x, y] ∧ Du H x d ∧ Du H y d ∧ Val n d ∧ nod d < 5000 ∧ d.depth ≤ 50 ∧ ∀ H', Ex H H' → Q (.bl true) H'
theorem can_are (T : Txt K mg) (n : Nat) : Can P w K mg base CX0 (2 * n + 5) "are_equal" ["one", "other"] (spAre n) := by
  have CD : Can P w K mg base CX0 4 "check_depth" ["value"] spDepthD := can_depthD T
  have CP : Can P w K mg base CX0 (2 * n + 3) "is_equal" ["one", "other"] (spEq n) := can_eq T n
  refine can_of T.g_are_equal T.F_are_equal (fun fd F => ?_) (fun _ _ _ _ _ _ us hl => match us, hl with | [_, _], _ => rfl)
  refine F.ok sc_are_equal (fun vs H Q E h => ?_) (fun cdv A outer s H vs Q E hr h => ?_)
  · obtain ⟨x, y, d, rfl, _⟩ := h
    rfl
  · obtain ⟨x, y, d, rfl, hx, hy, hv, hn, hdp, fin⟩ := h
    refine ⟨_, pss_cons (ps_expr (pe_can CD hr pass0 (pa_cons (pv 0) pa_nil) (hjk := by omega)))
      (pss_cons (ps_expr (pe_can CD hr pass0 (pa_cons (pv 1) pa_nil) (hjk := by omega)))
      (pss_one (ps_ret (pe_can CP hr pass0 (pa_cons (pv 0) (pa_cons (pv 1) pa_nil)) (hjk := by omega))))), ?_⟩
    refine ⟨_, rfl, x, d, rfl, hx, hn, hdp, fun H1 e1 => ?_⟩
    refine ⟨_, rfl, y, d, rfl, hy.ex e1, hn, hdp, fun H2 e2 => ?_⟩
    exact ⟨_, rfl, _, rfl, x, y, d, rfl, hx.ex (e1.trans e2), hy.ex (e1.trans e2), hv, fun H3 e3 => fin H3 ((e1.trans e2).trans e3)⟩
end
end K50
end

section
set_option Elab.async false
set_option linter.all false
set_option maxRecDepth 100000
set_option maxHeartbeats 4000000
namespace K50
open PySem PySem.Spec PyProof.Rows L2 He Cn Evl DtU RpV RpD SqI ExT LcS
section
variable {P : Program} {w : World} {K : PySem.W.Frag} {mg : Str → Option Value} {base : Heap}
/-- the first word of a plain value -/
def wordV : PyData → V
  | .list (.str z :: _) => .str z
  | _ => .non
/-- plain: a leaf, or a list that begins with a text -/
def Plain1 (e : PyData) : Prop := (tyD e ≠ "list") ∨ ∃ z r, e = .list (.str z :: r)
def spWord : Sp := fun vs H Q _ => ∃ (v : V) (e : PyData), vs = [v] ∧ Du H v e ∧ Plain1 e ∧ ∀ H', Ex H H' → Q (wordV e) H'
theorem can_word (T : Txt K mg) : Can P w K mg base CX0 1 "_word_of" ["data"] spWord := by
  refine can_of T.g__word_of T.F__word_of (fun fd F => ?_) (fun _ _ _ _ _ _ us hl => match us, hl with | [_], _ => rfl)
  refine F.ok sc__word_of (fun vs H Q E h => ?_) (fun cdv A outer s H vs Q E hr h => ?_)
  · obtain ⟨v, e, rfl, _⟩ := h
    rfl
  · obtain ⟨v, e, rfl, hd, hp, fin⟩ := h
    refine ⟨_, pss_cons (ps_if (PW.pt (pw_and (pt_val (pe_callB call_isi (by rfl) T.n_isinstance (by decide +kernel) (pa_cons (pv 0) (pa_cons (pe_bltn rfl T.n_list (v := .ty "list") (by decide +kernel) rfl) pa_nil)))) (pw_and (pt_truth (pv 0) (by intro _; rfl)) (pw_and1 (pt_val (pe_callB call_isi (by rfl) T.n_isinstance (by decide +kernel) (pa_cons (pe_ix ix_list (pv 0) pe_int (fun _ _ => rfl)) (pa_cons (pe_bltn rfl T.n_str (v := .ty "str") (by decide +kernel) rfl) pa_nil)))))))) (pss_one (ps_ret (pe_ix ix_list (pv 0) pe_int (fun _ _ => rfl)))) pss_nil)
      (pss_one (ps_ret pe_non)), ?_⟩
    rcases hp with hp | ⟨z, r, rfl⟩
    · have hw : wordV e = .non := by cases e <;> first | rfl | exact (hp rfl).elim
      rw [hw] at fin
      refine q_when (b := false) (et_and (a := false) (b := false) (et_is (et_B (ev_isB (c := "list") (by decide) (ev_var rfl) hd)) (by cases e <;> first | rfl | exact (hp rfl).elim)) (fun h => by cases h)) (fun h => by cases h) fun _ H1 e1 => s_ret ev_c fun H2 e2 => fin H2 (e1.trans e2)
    · obtain ⟨b, ys, rfl, h1, h2⟩ := inv_lst hd
      obtain ⟨y, ys, rfl⟩ : ∃ y r', ys = y :: r' := by
        cases ys with
        | nil => have := h2.1; simp at this
        | cons y r' => exact ⟨y, r', rfl⟩
      have hy := h2.2 0 y (.str z) rfl rfl
      have hyz : y = .str z := by
        generalize q : PyData.str z = d at hy
        cases hy with
        | @leaf y h => cases y <;> first | (cases h; done) | (cases q; done) | (cases q; rfl)
        | _ => cases q
      subst hyz
      have hat : ∀ {G : Hp}, Ex H G → Ev (tOp (rIxL K) (tVar 0) (tC (.int 0))) [some (.ref b)] G (.str z) := fun {G} e => ev_op (ev_var rfl) ev_c (rv_ixL (sq_of (e _ _ h1)) (atI_nat (j := 0) rfl))
      refine q_when (b := true) (et_and (a := true) (b := true) (et_is (et_B (ev_isB (c := "list") (by decide) (ev_var rfl) hd)) (by simp [tyD, subB])) fun _ => et_and (a := true) (b := true) (et_is (et_truL (ev_var rfl) (sq_of h1)) rfl) fun _ => et_is (et_B (ev_isB (c := "str") (d := .str z) (by decide) (hat (Ex.refl H)) hy)) (by simp [tyD, subB])) (fun _ H1 e1 => s_ret (hat e1) fun H2 e2 => fin H2 (e1.trans e2)) (fun h => by cases h)
end
end K50
end

section
set_option Elab.async false
set_option linter.all false
set_option maxRecDepth 100000
set_option maxHeartbeats 4000000
namespace K50
open PySem PySem.Spec PyProof.Rows L2 He Cn Evl DtU RpV RpD SqI ExT LcS
/-- a book at b -/
def Bk (K : PySem.W.Frag) (H : Hp) (b : Addr) : Prop := ∃ (dx : Addr) (fs : List (Str × V)), H b = some (.ins (kB K) dx fs) ∧ fs.lookup ("read" : Str) = none ∧ fs.lookup ("_read_value" : Str) = none ∧ fs.lookup ("_read_items" : Str) = none ∧ fs.lookup ("_read_entries" : Str) = none
theorem Bk.ex {K : PySem.W.Frag} {H H' : Hp} {b : Addr} (e : Ex H H') (h : Bk K H b) : Bk K H' b := by
  obtain ⟨dx, fs, h1, h2⟩ := h
  exact ⟨dx, fs, e _ _ h1, h2⟩
/-- what reading a part comes to -/
def RecR (K : PySem.W.Frag) (n : Nat) (sp : Sp) : Prop := ∀ (b pt : Addr) (v : V) (ps : List V) (d : PyData) (H : Hp) (Q : VK) (E : XK), Bk K H b → Du H v (pl d) → Val n d → H pt = some (.tup ps) → ps.length + 2 * n ≤ 40 → (∀ u H', Ex H H' → Du (nw H H') u d → Q u H') → sp [.ref b, v, .ref pt] H Q E
def spRI (K : PySem.W.Frag) (n : Nat) : Sp := fun vs H Q _ => ∃ (b a pt : Addr) (ps xs : List V) (z : Str) (ds : List PyData), vs = [.ref b, .ref a, .ref pt] ∧ Bk K H b ∧ H a = some (.lst (.str z :: xs)) ∧ Pz H xs (plAll ds) ∧ (∀ d, d ∈ ds → Val n d) ∧ ds.length ≤ 3 ∧ H pt = some (.tup ps) ∧ ps.length + 2 * n + 2 ≤ 40 ∧
  ∀ D ys H', Ex H H' → H D = none → H' D = some (.lst ys) → Pz (nwD H D H') ys ds → Q (.ref D) H'
theorem pl_sc_of {H G : Hp} {v : V} {d : PyData} (h : Du H v (pl d)) (hs : tyD (pl d) = "int" ∨ tyD (pl d) = "str") : Du G v d := by
  have hd : pl d = d := by
    cases d <;> first | (unfold pl; rfl) | (unfold pl at hs; simp [tyD] at hs)
  rw [hd] at h hs
  generalize e : d = d' at h hs
  cases h with
  | leaf h => exact .leaf h
  | lst _ _ _ => simp [tyD] at hs
  | tup _ _ _ => simp [tyD] at hs
  | dct _ _ _ => simp [tyD] at hs
section
variable {P : Program} {w : World} {K : PySem.W.Frag} {mg : Str → Option Value} {base : Heap}
theorem ritm_step {n j k : Nat} {spR : Sp} {fdR : FuncData} (T : Txt K mg) (hj : j ≤ k) (FR : FnOk P w K mg base CX0 j (ma K (kB K) "_read_value") fdR ["self", "data", "path"] spR) (bR : Binds K fdR ["self", "data", "path"] []) (R : RecR K n spR) :
    ∃ fd, FnOk P w K mg base CX0 (k + 1) (ma K (kB K) "_read_items") fd ["self", "data", "path"] (spRI K n) ∧ Binds K fd ["self", "data", "path"] [] := by
  obtain ⟨fd, F⟩ := T.F_Book__read_items
  refine ⟨fd, F.ok sc_Book__read_items (fun vs H Q E h => ?_) (fun cdv A outer s H vs Q E hr h => ?_), F.binds (ps := ["self", "data", "path"]) fun _ _ _ _ _ _ us hl => match us, hl with | [_, _, _], _ => rfl⟩
  · obtain ⟨b, a, pt, ps, xs, z, ds, rfl, _⟩ := h
    rfl
  · obtain ⟨b, a, pt, ps, xs, z, ds, rfl, hb, ha, hx, hv, hl, hpt, hpl, fin⟩ := h
    have nd := sc_Book__read_items.nd
    refine ⟨_, pss_cons (ps_set (i := 3) nd rfl (.inl rfl) (pe_lst pa_nil))
      (pss_cons (ps_for PassesOwn.never rfl (pi_range2 rfl T.n_range (pa_cons pe_int (pa_cons (pe_callB call_len_seq (by rfl) T.n_len PySem.boot_len (pa_cons (pv 1) pa_nil)) pa_nil))) (pg_name (i := 4) nd rfl (.inl rfl))
        (pss_cons (ps_set (i := 5) nd rfl (.inl rfl) (pe_ix ix_list (pv 1) (pv 4) (fun _ _ => rfl)))
        (pss_cons (ps_if (PW.pt (pw_and (pt_cmpR op_notTyR (pe_callTy call_type1 (by rfl) T.n_type (by decide +kernel) (pa_cons (pv 5) pa_nil)) (pe_bltn rfl T.n_int (v := .ty "int") (by decide +kernel) rfl) (nomark _)) (pw_and1 (pt_cmpR op_notTyR (pe_callTy call_type1 (by rfl) T.n_type (by decide +kernel) (pa_cons (pv 5) pa_nil)) (pe_bltn rfl T.n_str (v := .ty "str") (by decide +kernel) rfl) (nomark _)))))
            (pss_one (ps_set (i := 5) nd rfl (.inl rfl) (pe_meth (pv 0) T.cls T.m__read_value FR (hr.mono hj) bR .nil pass0 (pa_cons (pv 5) (pa_cons (pe_tup (StX.pa_star (pv 2) (pa_cons (pv 4) pa_nil))) pa_nil))))) pss_nil)
        (pss_one (ps_expr (pe_bm PySem.F.plainAttrs_list PySem.F.slot_list_append PySem.F.type_list_append mt_append (pv 3) (pa_cons (pv 5) pa_nil)))))))
      (pss_one (ps_ret (pv 3)))), ?_⟩
    refine q_asgL (el_lst ea_nil (by decide)) fun D H1 hD e1 hD1 => ?_
    have lx : xs.length = ds.length := by rw [hx.1, plAll_map, List.length_map]
    refine q_forR2 (lo := 1) (n := ((xs.length + 1 : Nat) : Int)) (ea_cons ev_c (ea_cons (ev_to (ev_lenA (ev_var rfl) (.inl (e1 _ _ ha))) (by simp)) ea_nil)) ⟨by omega, by omega, by omega, by omega⟩
      (fun i σ' H' => ∃ ys v4 v5, σ' = [some (.ref b), some (.ref a), some (.ref pt), some (.ref D), v4, v5] ∧ Ex H H' ∧ H' D = some (.lst ys) ∧ Pz (nwD H D H') ys (ds.take i)) (fun H2 e2 => ⟨[], _, _, rfl, e1.trans e2, e2 _ _ hD1, rfl, fun i x d p => by simp at p⟩) ?_ ?_
    · rintro i σ' H2 hi ⟨ys, v4, v5, rfl, e2, hD2, hy⟩
      have hi' : i < xs.length := by omega
      obtain ⟨x, hxi⟩ : ∃ x, xs[i]? = some x := at_some hi'
      obtain ⟨d, hdi⟩ : ∃ d, ds[i]? = some d := at_some (by omega)
      have hxd : Du H x (pl d) := hx.2 i x (pl d) hxi (by rw [plAll_map, List.getElem?_map, hdi]; rfl)
      have hm := List.mem_of_getElem? hdi
      have hyl := hy.1
      rw [List.length_take] at hyl
      have last : ∀ (u : V) (H' : Hp), Ex H2 H' → Du (nwD H D H') u d → tDrop (tBM K "list" rAppend (tVar 3) (tCons (tVar 5) tNil)) { nx := fun σ' H' => ∃ ys v4 v5, σ' = [some (.ref b), some (.ref a), some (.ref pt), some (.ref D), v4, v5] ∧ Ex H H' ∧ H' D = some (.lst ys) ∧ Pz (nwD H D H') ys (ds.take (i + 1)), rt := Q } [some (.ref b), some (.ref a), some (.ref pt), some (.ref D), some (.int (1 + (i : Int))), some u] H' := fun u H' e' hu => by
        refine s_app (e' _ _ hD2) (ev_var rfl) (ev_var rfl) (by omega) fun H4 e4 => ⟨ys ++ [u], _, _, rfl, Ex.mut ((e2.trans e').trans e4) hD, upd_same, ?_⟩
        rw [List.take_add_one, hdi]
        have f : ∀ c o, H2 c = some o → c ≠ D → upd H4 D (.lst (ys ++ [u])) c = some o := fun c o h nb => by rw [upd_ne nb]; exact e4 _ _ (e' _ _ h)
        have f2 : ∀ c o, H' c = some o → c ≠ D → upd H4 D (.lst (ys ++ [u])) c = some o := fun c o h nb => by rw [upd_ne nb]; exact e4 _ _ h
        refine Pz.app ⟨hy.1, fun i x d p q => (hy.2 i x d p q).ex (nwD_step f)⟩ (show Pz _ [u] [d] from ⟨rfl, fun i x d' p q => ?_⟩)
        have hi0 : i = 0 := by
          have := (List.getElem?_eq_some_iff.mp p).1
          simp at this
          exact this
        subst hi0
        obtain rfl : u = x := by simpa using p
        obtain rfl : d = d' := by simpa using q
        exact hu.ex (nwD_step f2)
      refine q_asgE ?_
      have EV : Ev (tOp (rIxL K) (tVar 1) (tVar 4)) [some (.ref b), some (.ref a), some (.ref pt), some (.ref D), some (.int (1 + (i : Int))), v5] H2 x := ev_op (ev_var rfl) (ev_var rfl) (rv_ixL (sq_of (e2 _ _ ha)) (at_of (j := i + 1) (by omega) (by rw [List.getElem?_cons_succ]; exact hxi)))
      refine EV H2 (Ex.refl _) _ fun H3 e3 => ?_
      have hx3 := hxd.ex (e2.trans e3)
      refine q_when (b := !decide (tyD (pl d) = "int") && !decide (tyD (pl d) = "str")) (et_and (et_ntyD (ev_var rfl) hx3) fun _ => et_ntyD (ev_var rfl) hx3) (fun hb' H4 e4 => ?_) fun hb' H4 e4 => ?_
      · have e04 := (e2.trans e3).trans e4
        obtain ⟨dx, fs, b1, _, b2, _⟩ := hb.ex e04
        refine ⟨_, rfl, b, dx, fs, rfl, b1, b2, _, rfl, _, rfl, pt, ps, rfl, .inl (st_of (e04 _ _ hpt)), _, rfl, sz_of (by show (ps ++ [V.int (1 + (i : Int))]).length ≤ 100000; rw [List.length_append, List.length_singleton]; omega), fun q hq => ?_⟩
        have e5 : Ex H4 (upd H4 q (.tup (ps ++ [V.int (1 + (i : Int))]))) := Ex.new hq
        have q5 : upd H4 q (.tup (ps ++ [V.int (1 + (i : Int))])) q = some (.tup (ps ++ [V.int (1 + (i : Int))])) := upd_same
        generalize upd H4 q (.tup (ps ++ [V.int (1 + (i : Int))])) = H5 at *
        have e05 := e04.trans e5
        refine R b q x (ps ++ [V.int (1 + (i : Int))]) d H5 _ _ (hb.ex e05) (hxd.ex e05) (hv d hm) q5 (by rw [List.length_append, List.length_singleton]; omega) fun u H6 e6 hu => ?_
        exact last u H6 (((e3.trans e4).trans e5).trans e6) (hu.ex (nw_nwD (fun c hc => fresh_back e05 hc) (by rw [e5 _ _ (e4 _ _ (e3 _ _ hD2))]; simp)))
      · exact last x H4 (e3.trans e4) (pl_sc_of hx3 (by
          by_cases q1 : tyD (pl d) = "int"
          · exact .inl q1
          · by_cases q2 : tyD (pl d) = "str"
            · exact .inr q2
            · simp [q1, q2] at hb'))
    · rintro σ' H2 ⟨ys, v4, v5, rfl, e2, hD2, hy⟩
      have : ((((xs.length + 1 : Nat) : Int)) - 1).toNat = ds.length := by omega
      rw [this, List.take_length] at hy
      exact s_ret (ev_var rfl) fun H3 e3 => fin D ys H3 (e2.trans e3) hD (e3 _ _ hD2) ⟨hy.1, fun i x d p q => (hy.2 i x d p q).ex (nwD_step fun c o h _ => e3 _ _ h)⟩
end
end K50
end

section
set_option Elab.async false
set_option linter.all false
set_option maxRecDepth 100000
set_option maxHeartbeats 4000000
namespace K50
open PySem PySem.Spec PyProof.Rows L2 He Cn Evl DtU RpV RpD SqI ExT LcS
def spRE (K : PySem.W.Frag) (n : Nat) : Sp := fun vs H Q _ => ∃ (b a pt : Addr) (ps xs : List V) (z : Str) (ds : List (PyData × PyData)), vs = [.ref b, .ref a, .int 1, .non, .ref pt] ∧ Bk K H b ∧ H a = some (.lst (.str z :: xs)) ∧ Pz H xs (plKv ds) ∧ (∀ p, p ∈ ds → ∃ z : Str, p.1 = .str z ∧ leafB p.1 = true) ∧ (ds.map Prod.fst).Nodup ∧ (∀ p, p ∈ ds → Val n p.2) ∧ ds.length ≤ 3 ∧ H pt = some (.tup ps) ∧ ps.length + 2 * n + 2 ≤ 40 ∧
  ∀ D H', Ex H H' → Du (nw H H') (.ref D) (.dict ds) → Q (.ref D) H'
theorem val_out {kvs : List (L2.Key × V)} {k : L2.Key} (h : k ∉ kvs.map Prod.fst) : valV kvs k = none := by
  induction kvs with
  | nil => rfl
  | cons p r ih =>
    unfold valV
    rw [List.find?_cons]
    have n1 : ¬ p.1 = k := fun e => h (by rw [← e]; exact List.mem_cons_self ..)
    rw [decide_eq_false n1]
    exact ih fun q => h (List.mem_cons_of_mem _ q)
theorem inv_str {H : Hp} {y : V} {z : Str} (h : Du H y (.str z)) : y = .str z := by
  generalize q : PyData.str z = d at h
  cases h with
  | @leaf y h => cases y <;> first | (cases h; done) | (cases q; done) | (cases q; rfl)
  | _ => cases q
theorem nd_at {α : Type} {l : List α} (h : l.Nodup) {i : Nat} {x : α} (hx : l[i]? = some x) : x ∉ l.take i := by
  induction l generalizing i with
  | nil => simp at hx
  | cons a r ih =>
    obtain ⟨n1, n2⟩ := List.nodup_cons.mp h
    cases i with
    | zero => simp
    | succ i =>
      have hx' : r[i]? = some x := by simpa using hx
      rw [List.take_succ_cons]
      intro q
      rcases List.mem_cons.mp q with q | q
      · exact n1 (by rw [← q]; exact List.mem_of_getElem? hx')
      · exact ih n2 hx' q
section
variable {P : Program} {w : World} {K : PySem.W.Frag} {mg : Str → Option Value} {base : Heap}
theorem ev_dinE {σ : L2.St} {H : Hp} {td ty : TE} {d : Addr} {k : L2.Key} {kvs : List (L2.Key × V)} (hy : Ev ty σ H (kV k)) (hd : Ev td σ H (.ref d)) (h : Rd H d (.dK kvs)) (hv : valV kvs k = none) : Ev (tDIn ty td) σ H (.bl false) := fun H1 e Q q =>
  hy H1 e _ fun H2 e2 => hd H2 (e.trans e2) _ fun H3 e3 => ⟨d, none, rfl, .inl ⟨kvs, k, rd_ex ((e.trans e2).trans e3) h, rfl, hv.symm⟩, q H3 (e2.trans e3)⟩
theorem rent_step {n j k : Nat} {spR : Sp} {fdR : FuncData} (T : Txt K mg) (hj : j ≤ k) (FR : FnOk P w K mg base CX0 j (ma K (kB K) "_read_value") fdR ["self", "data", "path"] spR) (bR : Binds K fdR ["self", "data", "path"] []) (R : RecR K n spR) :
    ∃ fd, FnOk P w K mg base CX0 (k + 1) (ma K (kB K) "_read_entries") fd ["self", "data", "start", "names", "path"] (spRE K n) ∧ Binds K fd ["self", "data", "start", "names", "path"] [] := by
  obtain ⟨fd, F⟩ := T.F_Book__read_entries
  refine ⟨fd, F.ok sc_Book__read_entries (fun vs H Q E h => ?_) (fun cdv A outer s H vs Q E hr h => ?_), F.binds (ps := ["self", "data", "start", "names", "path"]) fun _ _ _ _ _ _ us hl => match us, hl with | [_, _, _, _, _], _ => rfl⟩
  · obtain ⟨b, a, pt, ps, xs, z, ds, rfl, _⟩ := h
    rfl
  · obtain ⟨b, a, pt, ps, xs, z, ds, rfl, hb, ha, hx, hk, hnd, hv, hl, hpt, hpl, fin⟩ := h
    have nd := sc_Book__read_entries.nd
    have hu : (A.deeper (envOfC "Book._read_entries" (defScope s_Book__read_entries) s.heap.objs.size (ma K (kB K) "_read_entries") cdv)).units + 1 < cLine := Nat.lt_of_le_of_lt (Nat.add_le_add_left (by decide) _) hr.units
    refine ⟨_, pss_cons (ps_set (i := 5) nd rfl (.inl rfl) pe_dnewK)
      (pss_cons (ps_for PassesOwn.never rfl (pi_range2 rfl T.n_range (pa_cons (pv 2) (pa_cons (pe_callB call_len_seq (by rfl) T.n_len PySem.boot_len (pa_cons (pv 1) pa_nil)) pa_nil))) (pg_name (i := 6) nd rfl (.inl rfl))
        (pss_cons (ps_set (i := 7) nd rfl (.inl rfl) (pe_ix ix_list (pv 1) (pv 6) (fun _ _ => rfl)))
        (pss_cons (ps_if (PW.pt (pw_or (pt_not (pt_val (pe_callB call_isi (by rfl) T.n_isinstance (by decide +kernel) (pa_cons (pv 7) (pa_cons (pe_bltn rfl T.n_list (v := .ty "list") (by decide +kernel) rfl) pa_nil))))) (pw_or1 (pt_cmpR op_ne (pe_callB call_len_seq (by rfl) T.n_len PySem.boot_len (pa_cons (pv 7) pa_nil)) pe_int (nomark _))))) (pss_one ps_never) pss_nil)
        (pss_cons (ps_set (i := 8) nd rfl (.inl rfl) (pe_ix ix_list (pv 7) pe_int (fun _ _ => rfl)))
        (pss_cons (ps_if (PW.pt (pw_or (pt_not (pt_val (pe_callB call_isi (by rfl) T.n_isinstance (by decide +kernel) (pa_cons (pv 8) (pa_cons (pe_bltn rfl T.n_str (v := .ty "str") (by decide +kernel) rfl) pa_nil))))) (pw_or (pt_cmp (pc_din (by exact hu) (pv 8) (pv 5))) (pw_or1 (PW.pt (pw_and (pt_cmp (pc_notN (pv 3))) (pw_and1 (pt_cmp (pc_dnotin (by exact hu) (pv 8) (pv 3)))))))))) (pss_one ps_never) pss_nil)
        (pss_one (ps_dput (by exact hu) (pv 5) (pv 8) (pe_meth (pv 0) T.cls T.m__read_value FR (hr.mono hj) bR .nil pass0 (pa_cons (pe_ix ix_list (pv 7) pe_int (fun _ _ => rfl)) (pa_cons (pe_tup (StX.pa_star (pv 4) (pa_cons (pv 6) (pa_cons pe_int pa_nil)))) pa_nil))) rfl)))))))
      (pss_one (ps_ret (pv 5)))), ?_⟩
    refine q_asgE ?_
    intro D hD
    have e1 : Ex H (upd H D (.dK [])) := Ex.new hD
    have hD1 : upd H D (.dK []) D = some (.dK []) := upd_same
    generalize upd H D (.dK []) = H1 at *
    have lx : xs.length = ds.length := by rw [hx.1, plKv_map, List.length_map]
    refine q_forR2 (lo := 1) (n := ((xs.length + 1 : Nat) : Int)) (ea_cons (ev_var rfl) (ea_cons (ev_to (ev_lenA (ev_var rfl) (.inl (e1 _ _ ha))) (by simp)) ea_nil)) ⟨by omega, by omega, by omega, by omega⟩
      (fun i σ' H' => ∃ kvs v6 v7 v8, σ' = [some (.ref b), some (.ref a), some (.int 1), some .non, some (.ref pt), some (.ref D), v6, v7, v8] ∧ Ex H H' ∧ H' D = some (.dK kvs) ∧ (ds.take i).map Prod.fst = (kvs.map fun p => keyD p.1) ∧ ∀ (t : Nat) (x : L2.Key × V) (d : PyData × PyData), kvs[t]? = some x → (ds.take i)[t]? = some d → Du (nwD H D H') x.2 d.2) (fun H2 e2 => ⟨[], _, _, _, rfl, e1.trans e2, e2 _ _ hD1, rfl, fun i x d p => by simp at p⟩) ?_ ?_
    · rintro i σ' H2 hi ⟨kvs, v6, v7, v8, rfl, e2, hD2, hks, hy⟩
      have hi' : i < xs.length := by omega
      obtain ⟨x, hxi⟩ : ∃ x, xs[i]? = some x := at_some hi'
      obtain ⟨⟨pk, d⟩, hdi⟩ : ∃ d, ds[i]? = some d := at_some (by omega)
      have hm := List.mem_of_getElem? hdi
      obtain ⟨zk, ek, _⟩ := hk _ hm
      obtain rfl : pk = .str zk := ek
      have hxd : Du H x (.list [.str zk, pl d]) := hx.2 i x _ hxi (by rw [plKv_map, List.getElem?_map, hdi]; rfl)
      obtain ⟨en, ys, rfl, h3, h4⟩ := inv_lst hxd
      obtain ⟨y0, y1, rfl⟩ : ∃ y0 y1, ys = [y0, y1] := by
        match ys, h4.1 with
        | [y0, y1], _ => exact ⟨y0, y1, rfl⟩
      have hy0 := inv_str (h4.2 0 y0 _ rfl rfl)
      subst hy0
      have hy1 : Du H y1 (pl d) := h4.2 1 y1 _ rfl rfl
      have hkl : kvs.length = i := by
        have := congrArg List.length hks
        rw [List.length_map, List.length_map, List.length_take] at this
        omega
      have hnone : valV kvs (.inr zk) = none := val_out fun q => by
        obtain ⟨p, hp, e⟩ := List.mem_map.mp q
        have : PyData.str zk ∈ kvs.map fun p => keyD p.1 := List.mem_map.mpr ⟨p, hp, by show keyD p.1 = _; rw [e]; rfl⟩
        rw [← hks, List.map_take] at this
        have hat : (ds.map Prod.fst)[i]? = some (PyData.str zk) := by rw [List.getElem?_map, hdi]; rfl
        exact nd_at hnd hat this
      refine q_asgE ?_
      have EV : Ev (tOp (rIxL K) (tVar 1) (tVar 6)) [some (.ref b), some (.ref a), some (.int 1), some .non, some (.ref pt), some (.ref D), some (.int (1 + (i : Int))), v7, v8] H2 (.ref en) := ev_op (ev_var rfl) (ev_var rfl) (rv_ixL (sq_of (e2 _ _ ha)) (at_of (j := i + 1) (by omega) (by rw [List.getElem?_cons_succ]; exact hxi)))
      refine EV H2 (Ex.refl _) _ fun H3 e3 => ?_
      have e03 := e2.trans e3
      refine q_when (b := false) (et_or (a := false) (b := false) (et_is (et_not (a := true) (et_is (et_B (ev_isB (c := "list") (by decide) (ev_var rfl) (hxd.ex e03))) (by simp [tyD, subB]))) rfl) fun _ => et_is (et_test (ev_op (ev_lenA (ev_var rfl) (.inl (e03 _ _ h3))) ev_c (rv_ne rfl))) (by simp)) (fun h => by cases h) fun _ H4 e4 => ?_
      have e04 := e03.trans e4
      refine q_asgE ?_
      have EV2 : ∀ {σ : L2.St} {G : Hp}, σ[7]? = some (some (.ref en)) → Ex H G → Ev (tOp (rIxL K) (tVar 7) (tC (.int 0))) σ G (.str zk) := fun hσ e => ev_op (ev_var hσ) ev_c (rv_ixL (sq_of (e _ _ h3)) (atI_nat (j := 0) rfl))
      have EV3 : ∀ {σ : L2.St} {G : Hp}, σ[7]? = some (some (.ref en)) → Ex H G → Ev (tOp (rIxL K) (tVar 7) (tC (.int 1))) σ G y1 := fun hσ e => ev_op (ev_var hσ) ev_c (rv_ixL (sq_of (e _ _ h3)) (atI_nat (j := 1) rfl))
      refine EV2 rfl e04 H4 (Ex.refl _) _ fun H5 e5 => ?_
      have e05 := e04.trans e5
      refine q_when (b := false) (et_or (a := false) (b := false) (et_is (et_not (a := true) (et_is (et_B (ev_isB (c := "str") (d := .str zk) (by decide) (ev_var rfl) (h4.2 0 (.str zk) (.str zk) rfl rfl |>.ex e05))) (by simp [tyD, subB]))) rfl) fun _ => et_or (a := false) (b := false) (et_B (ev_dinE (k := .inr zk) (ev_var rfl) (ev_var rfl) (.inl (e5 _ _ (e4 _ _ (e3 _ _ hD2)))) hnone)) fun _ => et_and (a := false) (b := false) (et_is (et_notN (ev_var rfl)) (by simp)) (fun h => by cases h)) (fun h => by cases h) fun _ H6 e6 => ?_
      have e06 := e05.trans e6
      obtain ⟨dx, fs, b1, _, b2, _⟩ := hb.ex e06
      show sDPut _ _ _ _ _ H6
      refine ⟨_, rfl, b, dx, fs, rfl, b1, b2, EV3 rfl e06 H6 (Ex.refl _) _ fun H7 e7 => ?_⟩
      have e07 := e06.trans e7
      refine ⟨_, rfl, pt, ps, rfl, .inl (st_of (e07 _ _ hpt)), _, rfl, sz_of (by show (ps ++ [V.int (1 + (i : Int)), V.int 1]).length ≤ 100000; rw [List.length_append]; show ps.length + 2 ≤ _; omega), fun q hq => ?_⟩
      have e8 : Ex H7 (upd H7 q (.tup (ps ++ [V.int (1 + (i : Int)), V.int 1]))) := Ex.new hq
      have q8 : upd H7 q (.tup (ps ++ [V.int (1 + (i : Int)), V.int 1])) q = some (.tup (ps ++ [V.int (1 + (i : Int)), V.int 1])) := upd_same
      generalize upd H7 q (.tup (ps ++ [V.int (1 + (i : Int)), V.int 1])) = H8 at *
      have e08 := e07.trans e8
      have hD8 := e8 _ _ (e7 _ _ (e6 _ _ (e5 _ _ (e4 _ _ (e3 _ _ hD2)))))
      refine R b q y1 (ps ++ [V.int (1 + (i : Int)), V.int 1]) d H8 _ _ (hb.ex e08) (hy1.ex e08) (hv _ hm) q8 (by rw [List.length_append]; show ps.length + 2 + _ ≤ _; omega) fun u H9 e9 hu => ?_
      have hD9 := e9 _ _ hD8
      refine ⟨_, rfl, _, rfl, D, _, rfl, DPut.k (k := .inr zk) hD9 (sz_lt (by omega)), ?_⟩
      rw [putK_new u hnone]
      have hu' : Du (nwD H D H9) u d := hu.ex (nw_nwD (fun c hc => fresh_back e08 hc) (by rw [hD8]; simp))
      have f : ∀ c o, H2 c = some o → c ≠ D → upd H9 D (.dK (kvs ++ [(.inr zk, u)])) c = some o := fun c o h nb => by
        rw [upd_ne nb]
        exact e9 _ _ (e8 _ _ (e7 _ _ (e6 _ _ (e5 _ _ (e4 _ _ (e3 _ _ h))))))
      refine ⟨_, _, _, _, rfl, Ex.mut (e08.trans e9) hD, upd_same, ?_, fun t x' d' p' q' => ?_⟩
      · rw [List.take_add_one, hdi, List.map_append, List.map_append, hks]
        rfl
      · rw [List.take_add_one, hdi] at q'
        by_cases ht : t < kvs.length
        · rw [List.getElem?_append_left ht] at p'
          rw [List.getElem?_append_left (by rw [List.length_take]; omega)] at q'
          exact (hy t x' d' p' q').ex (nwD_step f)
        · have htl : (ds.take i).length = kvs.length := by rw [List.length_take]; omega
          rw [List.getElem?_append_right (by omega)] at p'
          rw [List.getElem?_append_right (by omega), htl] at q'
          have ht0 : t - kvs.length = 0 := by
            have := (List.getElem?_eq_some_iff.mp p').1
            simp at this
            exact this
          rw [ht0] at p' q'
          obtain rfl : ((.inr zk, u) : L2.Key × V) = x' := by simpa using p'
          obtain rfl : (PyData.str zk, d) = d' := by simpa using q'
          exact hu'.ex (nwD_step fun c o h nb => by rw [upd_ne nb]; exact h)
    · rintro σ' H2 ⟨kvs, v6, v7, v8, rfl, e2, hD2, hks, hy⟩
      have : ((((xs.length + 1 : Nat) : Int)) - 1).toNat = ds.length := by omega
      rw [this, List.take_length] at hks hy
      refine s_ret (ev_var rfl) fun H3 e3 => fin D H3 (e2.trans e3) ?_
      refine .dct (nw_at hD (e3 _ _ hD2)) hks fun t x d p q => (hy t x d p q).ex fun c o h => ?_
      obtain ⟨_, h⟩ := wo_some h
      obtain ⟨q1, q2⟩ := nw_some h
      exact nw_at q1 (e3 _ _ q2)
end
end K50
end

section
set_option Elab.async false
set_option linter.all false
set_option maxRecDepth 100000
set_option maxHeartbeats 4000000
namespace K50
open PySem PySem.Spec PyProof.Rows L2 He Cn Evl DtU RpV RpD SqI ExT LcS
def spRV (K : PySem.W.Frag) (n : Nat) : Sp := fun vs H Q _ => ∃ (b pt : Addr) (v : V) (ps : List V) (d : PyData), vs = [.ref b, v, .ref pt] ∧ Bk K H b ∧ Du H v (pl d) ∧ Val n d ∧ H pt = some (.tup ps) ∧ ps.length + 2 * n ≤ 40 ∧ ∀ u H', Ex H H' → Du (nw H H') u d → Q u H'
def RecRI (K : PySem.W.Frag) (n : Nat) (sp : Sp) : Prop := ∀ (b a pt : Addr) (ps xs : List V) (z : Str) (ds : List PyData) (H : Hp) (Q : VK) (E : XK), Bk K H b → H a = some (.lst (.str z :: xs)) → Pz H xs (plAll ds) → (∀ d, d ∈ ds → Val n d) → ds.length ≤ 3 → H pt = some (.tup ps) → ps.length + 2 * n + 2 ≤ 40 →
  (∀ D ys H', Ex H H' → H D = none → H' D = some (.lst ys) → Pz (nwD H D H') ys ds → Q (.ref D) H') → sp [.ref b, .ref a, .ref pt] H Q E
def RecRE (K : PySem.W.Frag) (n : Nat) (sp : Sp) : Prop := ∀ (b a pt : Addr) (ps xs : List V) (z : Str) (ds : List (PyData × PyData)) (H : Hp) (Q : VK) (E : XK), Bk K H b → H a = some (.lst (.str z :: xs)) → Pz H xs (plKv ds) → (∀ p, p ∈ ds → ∃ z : Str, p.1 = .str z ∧ leafB p.1 = true) → (ds.map Prod.fst).Nodup → (∀ p, p ∈ ds → Val n p.2) → ds.length ≤ 3 → H pt = some (.tup ps) → ps.length + 2 * n + 2 ≤ 40 →
  (∀ D H', Ex H H' → Du (nw H H') (.ref D) (.dict ds) → Q (.ref D) H') → sp [.ref b, .ref a, .int 1, .non, .ref pt] H Q E
theorem pl_leafB {d : PyData} (h : leafB d = true) : pl d = d := by cases d <;> first | (unfold pl; rfl) | (simp [leafB] at h; done)
theorem leaf_word {d : PyData} (h : leafB d = true) : wordV d = .non := by cases d <;> first | rfl | (simp [leafB] at h; done)
theorem leaf_p1 {d : PyData} (h : leafB d = true) : Plain1 d := by cases d <;> first | (simp [leafB] at h; done) | (exact .inl (by simp [tyD]))
theorem leaf_srt {d : PyData} (h : leafB d = true) : sortD d ∈ simpleSorts := by cases d <;> first | (simp [sortD, simpleSorts]; done) | (simp [leafB] at h; done)
theorem srt_simp : ∀ z, z ∈ simpleSorts → inV (.str z) (simpleSorts.map V.str) = true := by decide
theorem inv_row {H : Hp} {v : V} {z : Str} {es : List PyData} (h : Du H v (.list (.str z :: es))) : ∃ a xs, v = .ref a ∧ H a = some (.lst (.str z :: xs)) ∧ Pz H xs es := by
  obtain ⟨a, ys, rfl, h1, h2⟩ := inv_lst h
  obtain ⟨y, xs, rfl⟩ : ∃ y r', ys = y :: r' := by
    cases ys with
    | nil => have := h2.1; simp at this
    | cons y r' => exact ⟨y, r', rfl⟩
  have hy := inv_str (h2.2 0 y (.str z) rfl rfl)
  subst hy
  exact ⟨a, xs, rfl, h1, by have := h2.1; simpa using this, fun i x d p q => h2.2 (i + 1) x d (by simpa using p) (by simpa using q)⟩
theorem leaf_du {H G : Hp} {v : V} {d : PyData} (h : Du H v d) (hl : leafB d = true) : Du G v d := by
  cases h with
  | leaf h => exact .leaf h
  | _ => simp [leafB] at hl
section
variable {P : Program} {w : World} {K : PySem.W.Frag} {mg : Str → Option Value} {base : Heap}
theorem rv_ninS {H : Hp} {a : Addr} {xs : List V} {x : V} (h : ∀ H : Hp, SqT K H a xs) (hx : flatV x = true := by rfl) (hs : xs.all flatV = true := by rfl) : RV (rIn K true) x (.ref a) H (.bl (!inV x xs)) := fun H1 e Q q => ⟨a, xs, rfl, .inr (h H1), hx, hs, q H1 (Ex.refl H1)⟩
theorem rval_step {n k : Nat} {spI spE : Sp} {fdI fdE : FuncData} (T : Txt K mg) (hk : 2 ≤ k) (FI : FnOk P w K mg base CX0 k (ma K (kB K) "_read_items") fdI ["self", "data", "path"] spI) (bI : Binds K fdI ["self", "data", "path"] [])
    (FE : FnOk P w K mg base CX0 k (ma K (kB K) "_read_entries") fdE ["self", "data", "start", "names", "path"] spE) (bE : Binds K fdE ["self", "data", "start", "names", "path"] [])
    (RV : ∀ d, Val n d → leafB d = true ∨ ∃ m, n = m + 1 ∧ RecRI K m spI ∧ RecRE K m spE ∧ (∀ ds, d = .list ds ∨ d = .tuple ds → ds.length ≤ 3 ∧ ∀ e, e ∈ ds → Val m e) ∧ ∀ ds, d = .dict ds → (∀ p, p ∈ ds → ∃ z : Str, p.1 = .str z ∧ leafB p.1 = true) ∧ (ds.map Prod.fst).Nodup ∧ (∀ p, p ∈ ds → Val m p.2) ∧ ds.length ≤ 3) :
    ∃ fd, FnOk P w K mg base CX0 (k + 1) (ma K (kB K) "_read_value") fd ["self", "data", "path"] (spRV K n) ∧ Binds K fd ["self", "data", "path"] [] := by
  have CW : Can P w K mg base CX0 1 "_word_of" ["data"] spWord := can_word T
  have CS : Can P w K mg base CX0 2 "sort_of" ["value"] spSortD := can_sortD T
  obtain ⟨fd, F⟩ := T.F_Book__read_value
  refine ⟨fd, F.ok sc_Book__read_value (fun vs H Q E h => ?_) (fun cdv A outer s H vs Q E hr h => ?_), F.binds (ps := ["self", "data", "path"]) fun _ _ _ _ _ _ us hl => match us, hl with | [_, _, _], _ => rfl⟩
  · obtain ⟨b, pt, v, ps, d, rfl, _⟩ := h
    rfl
  · obtain ⟨b, pt, v, ps, d, rfl, hb, hd, hv, hpt, hpl, fin⟩ := h
    have nd := sc_Book__read_value.nd
    refine ⟨_, pss_cons (ps_set (i := 3) nd rfl (.inl rfl) (pe_can CW hr pass0 (pa_cons (pv 1) pa_nil) (hjk := by omega)))
      (pss_cons (ps_if (pt_cmpR op_eq (pv 3) pe_str (nomark _)) (pss_one (ps_ret (pe_meth (pv 0) T.cls T.m__read_items FI hr bI .nil pass0 (pa_cons (pv 1) (pa_cons (pv 2) pa_nil))))) pss_nil)
      (pss_cons (ps_if (pt_cmpR op_eq (pv 3) pe_str (nomark _)) (pss_one (ps_ret (pe_callTy call_tuple_of (by rfl) T.n_tuple (by decide +kernel) (pa_cons (pe_meth (pv 0) T.cls T.m__read_items FI hr bI .nil pass0 (pa_cons (pv 1) (pa_cons (pv 2) pa_nil))) pa_nil)))) pss_nil)
      (pss_cons (ps_if (pt_cmpR op_eq (pv 3) pe_str (nomark _)) (pss_one (ps_ret (pe_meth (pv 0) T.cls T.m__read_entries FE hr bE .nil pass0 (pa_cons (pv 1) (pa_cons pe_int (pa_cons pe_non (pa_cons (pv 2) pa_nil))))))) pss_nil)
      (pss_cons (ps_if (pt_cmpR op_eq (pv 3) pe_str (nomark _)) (pss_one ps_never) pss_nil)
      (pss_cons (ps_if (pt_cmpR op_notIn_seq (pe_can CS hr pass0 (pa_cons (pv 1) pa_nil) (hjk := hk)) (pe_glob rfl T.g_SIMPLE_SORTS (v := .ref (ga K "SIMPLE_SORTS")) rfl) rfl) (pss_one ps_never) pss_nil)
      (pss_one (ps_ret (pv 1)))))))), ?_⟩
    refine q_asgE ?_
    by_cases hl : leafB d = true
    · rw [pl_leafB hl] at hd
      refine ⟨_, rfl, v, d, rfl, hd, leaf_p1 hl, fun H1 e1 => ?_⟩
      rw [leaf_word hl]
      refine q_when (b := false) (et_is (et_test (ev_op (x := .non) (ev_var rfl) ev_c (rv_eq rfl))) (by simp)) (fun h => by cases h) fun _ H2 e2 => ?_
      refine q_when (b := false) (et_is (et_test (ev_op (x := .non) (ev_var rfl) ev_c (rv_eq rfl))) (by simp)) (fun h => by cases h) fun _ H3 e3 => ?_
      refine q_when (b := false) (et_is (et_test (ev_op (x := .non) (ev_var rfl) ev_c (rv_eq rfl))) (by simp)) (fun h => by cases h) fun _ H4 e4 => ?_
      refine q_when (b := false) (et_is (et_test (ev_op (x := .non) (ev_var rfl) ev_c (rv_eq rfl))) (by simp)) (fun h => by cases h) fun _ H5 e5 => ?_
      have e05 := (((e1.trans e2).trans e3).trans e4).trans e5
      have hd5 := hd.ex e05
      refine q_when (b := false) (et_is (et_test (ev_op (x := .str (sortD d)) (fun H6 e6 Q' q' => ⟨_, rfl, v, d, rfl, hd5.ex e6, fun H7 e7 => q' H7 e7⟩) ev_c (rv_ninS (K := K) T.simpleSorts))) (by rw [srt_simp _ (leaf_srt hl)]; rfl)) (fun h => by cases h) fun _ H6 e6 => ?_
      exact s_ret (ev_var rfl) fun H7 e7 => fin v H7 ((e05.trans e6).trans e7) (leaf_du hd hl)
    · obtain ⟨m, rfl, RI, RE, r1, r2⟩ := (RV d hv).resolve_left hl
      cases d with
      | none => exact (hl rfl).elim
      | bool b => exact (hl rfl).elim
      | int i => cases hv with
        | leaf h => exact (hl h).elim
      | str z => cases hv with
        | leaf h => exact (hl h).elim
      | list ds =>
        obtain ⟨l3, hve⟩ := r1 ds (.inl rfl)
        have hp : pl (.list ds) = .list (.str "list" :: plAll ds) := by unfold pl; rfl
        rw [hp] at hd
        refine ⟨_, rfl, v, _, rfl, hd, .inr ⟨_, _, rfl⟩, fun H1 e1 => ?_⟩
        show tSeq _ _ _ ([some (.ref b), some v, some (.ref pt), some (.str "list")] : L2.St) H1
        obtain ⟨a, xs, rfl, ha, hx⟩ := inv_row hd
        refine q_when (b := true) (et_is (et_test (ev_op (x := .str "list") (ev_var rfl) ev_c (rv_eq rfl))) (by decide)) (fun _ H2 e2 => ?_) (fun h => by cases h)
        have e02 := e1.trans e2
        obtain ⟨dx, fs, b1, _, _, b2, _⟩ := hb.ex e02
        refine ⟨_, rfl, b, dx, fs, rfl, b1, b2, _, rfl, _, rfl, RI b a pt ps xs "list" ds H2 _ _ (hb.ex e02) (e02 _ _ ha) ⟨hx.1, fun i x d p q => (hx.2 i x d p q).ex e02⟩ hve l3 (e02 _ _ hpt) (by omega) fun D ys H3 e3 hD h3 hy => ?_⟩
        refine fin _ H3 (e02.trans e3) (.lst (nw_at (fresh_back e02 hD) h3) hy.1 fun i x d p q => (hy.2 i x d p q).ex fun c o h => ?_)
        obtain ⟨_, h⟩ := wo_some h
        exact nw_low e02 _ _ h
      | tuple ds =>
        obtain ⟨l3, hve⟩ := r1 ds (.inr rfl)
        have hp : pl (.tuple ds) = .list (.str "tuple" :: plAll ds) := by unfold pl; rfl
        rw [hp] at hd
        refine ⟨_, rfl, v, _, rfl, hd, .inr ⟨_, _, rfl⟩, fun H1 e1 => ?_⟩
        show tSeq _ _ _ ([some (.ref b), some v, some (.ref pt), some (.str "tuple")] : L2.St) H1
        obtain ⟨a, xs, rfl, ha, hx⟩ := inv_row hd
        refine q_when (b := false) (et_is (et_test (ev_op (x := .str "tuple") (ev_var rfl) ev_c (rv_eq rfl))) (by decide)) (fun h => by cases h) fun _ H2 e2 => ?_
        refine q_when (b := true) (et_is (et_test (ev_op (x := .str "tuple") (ev_var rfl) ev_c (rv_eq rfl))) (by decide)) (fun _ H3 e3 => ?_) (fun h => by cases h)
        have e03 := (e1.trans e2).trans e3
        obtain ⟨dx, fs, b1, _, _, b2, _⟩ := hb.ex e03
        refine ⟨_, rfl, b, dx, fs, rfl, b1, b2, _, rfl, _, rfl, RI b a pt ps xs "tuple" ds H3 _ _ (hb.ex e03) (e03 _ _ ha) ⟨hx.1, fun i x d p q => (hx.2 i x d p q).ex e03⟩ hve l3 (e03 _ _ hpt) (by omega) fun D ys H4 e4 hD h4 hy => ?_⟩
        refine ⟨D, ys, rfl, .inl ⟨sq_of h4, fun t ht => ?_⟩⟩
        have e5 : Ex H4 (upd H4 t (.tup ys)) := Ex.new ht
        have e04 := e03.trans e4
        refine fin _ _ (e04.trans e5) (.tup (nw_at (fresh_back e04 ht) upd_same) hy.1 fun i x d p q => (hy.2 i x d p q).ex fun c o h => ?_)
        obtain ⟨_, h⟩ := wo_some h
        exact nw_up e5 _ _ (nw_low e03 _ _ h)
      | dict ds =>
        obtain ⟨k1, k2, k3, k4⟩ := r2 ds rfl
        have hp : pl (.dict ds) = .list (.str "dict" :: plKv ds) := by unfold pl; rfl
        rw [hp] at hd
        refine ⟨_, rfl, v, _, rfl, hd, .inr ⟨_, _, rfl⟩, fun H1 e1 => ?_⟩
        show tSeq _ _ _ ([some (.ref b), some v, some (.ref pt), some (.str "dict")] : L2.St) H1
        obtain ⟨a, xs, rfl, ha, hx⟩ := inv_row hd
        refine q_when (b := false) (et_is (et_test (ev_op (x := .str "dict") (ev_var rfl) ev_c (rv_eq rfl))) (by decide)) (fun h => by cases h) fun _ H2 e2 => ?_
        refine q_when (b := false) (et_is (et_test (ev_op (x := .str "dict") (ev_var rfl) ev_c (rv_eq rfl))) (by decide)) (fun h => by cases h) fun _ H3 e3 => ?_
        refine q_when (b := true) (et_is (et_test (ev_op (x := .str "dict") (ev_var rfl) ev_c (rv_eq rfl))) (by decide)) (fun _ H4 e4 => ?_) (fun h => by cases h)
        have e04 := ((e1.trans e2).trans e3).trans e4
        obtain ⟨dx, fs, b1, _, _, _, b2⟩ := hb.ex e04
        refine ⟨_, rfl, b, dx, fs, rfl, b1, b2, _, rfl, _, rfl, RE b a pt ps xs "dict" ds H4 _ _ (hb.ex e04) (e04 _ _ ha) ⟨hx.1, fun i x d p q => (hx.2 i x d p q).ex e04⟩ k1 k2 k3 k4 (e04 _ _ hpt) (by omega) fun D H5 e5 hu => ?_⟩
        exact fin _ H5 (e04.trans e5) (hu.ex (nw_low e04))
end
end K50
end

section
set_option Elab.async false
set_option linter.all false
set_option maxRecDepth 100000
set_option maxHeartbeats 4000000
namespace K50
open PySem PySem.Spec PyProof.Rows L2 He Cn Evl DtU RpV RpD SqI ExT LcS
section
variable {P : Program} {w : World} {K : PySem.W.Frag} {mg : Str → Option Value} {base : Heap}
theorem ok_ri0 (T : Txt K mg) : ∃ fd, FnOk P w K mg base CX0 2 (ma K (kB K) "_read_items") fd ["self", "data", "path"] (fun _ _ _ _ => False) ∧ Binds K fd ["self", "data", "path"] [] := by
  obtain ⟨fd, F⟩ := T.F_Book__read_items
  exact ⟨fd, F.ok sc_Book__read_items (fun vs H Q E h => h.elim) (fun cdv A outer s H vs Q E hr h => h.elim), F.binds (ps := ["self", "data", "path"]) fun _ _ _ _ _ _ us hl => match us, hl with | [_, _, _], _ => rfl⟩
theorem ok_re0 (T : Txt K mg) : ∃ fd, FnOk P w K mg base CX0 2 (ma K (kB K) "_read_entries") fd ["self", "data", "start", "names", "path"] (fun _ _ _ _ => False) ∧ Binds K fd ["self", "data", "start", "names", "path"] [] := by
  obtain ⟨fd, F⟩ := T.F_Book__read_entries
  exact ⟨fd, F.ok sc_Book__read_entries (fun vs H Q E h => h.elim) (fun cdv A outer s H vs Q E hr h => h.elim), F.binds (ps := ["self", "data", "start", "names", "path"]) fun _ _ _ _ _ _ us hl => match us, hl with | [_, _, _, _, _], _ => rfl⟩
theorem ok_rv (T : Txt K mg) : ∀ n, ∃ fd, FnOk P w K mg base CX0 (2 * n + 3) (ma K (kB K) "_read_value") fd ["self", "data", "path"] (spRV K n) ∧ Binds K fd ["self", "data", "path"] []
  | 0 => by
    obtain ⟨_, FI, bI⟩ := ok_ri0 (P := P) (w := w) (base := base) T
    obtain ⟨_, FE, bE⟩ := ok_re0 (P := P) (w := w) (base := base) T
    exact rval_step T (k := 2) (by omega) FI bI FE bE fun d hv => by
      cases hv with
      | leaf h => exact .inl h
  | n + 1 => by
    obtain ⟨_, FR, bR⟩ := ok_rv T n
    have R : RecR K n (spRV K n) := fun b pt v ps d H Q E h1 h2 h3 h4 h5 k => ⟨b, pt, v, ps, d, rfl, h1, h2, h3, h4, h5, k⟩
    obtain ⟨_, FI, bI⟩ := ritm_step T (Nat.le_refl _) FR bR R
    obtain ⟨_, FE, bE⟩ := rent_step T (Nat.le_refl _) FR bR R
    have RI : RecRI K n (spRI K n) := fun b a pt ps xs z ds H Q E h1 h2 h3 h4 h5 h6 h7 k => ⟨b, a, pt, ps, xs, z, ds, rfl, h1, h2, h3, h4, h5, h6, h7, k⟩
    have RE : RecRE K n (spRE K n) := fun b a pt ps xs z ds H Q E h1 h2 h3 h4 h5 h6 h7 h8 h9 k => ⟨b, a, pt, ps, xs, z, ds, rfl, h1, h2, h3, h4, h5, h6, h7, h8, h9, k⟩
    exact rval_step T (k := 2 * n + 4) (by omega) FI bI FE bE fun d hv => by
      cases hv with
      | leaf h => exact .inl h
      | lst h hl => exact .inr ⟨n, rfl, RI, RE, fun es he => (by rcases he with q | q <;> cases q; exact ⟨hl, h⟩), fun es he => by cases he⟩
      | tup h hl => exact .inr ⟨n, rfl, RI, RE, fun es he => (by rcases he with q | q <;> cases q; exact ⟨hl, h⟩), fun es he => by cases he⟩
      | dct hk hn h hl => exact .inr ⟨n, rfl, RI, RE, fun es he => (by rcases he with q | q <;> cases q), fun es he => by cases he; exact ⟨hk, hn, h, hl⟩⟩
def spRead (K : PySem.W.Frag) (n : Nat) : Sp := fun vs H Q _ => ∃ (b : Addr) (v : V) (d : PyData), vs = [.ref b, v] ∧ Bk K H b ∧ Du H v (pl d) ∧ Val n d ∧ n ≤ 20 ∧ nod (pl d) < 5000 ∧ (pl d).depth ≤ 50 ∧ ∀ u H', Ex H H' → Du (nw H H') u d → Q u H'
theorem ok_read (T : Txt K mg) (n : Nat) : ∃ fd, FnOk P w K mg base CX0 (2 * n + 5) (ma K (kB K) "read") fd ["self", "data"] (spRead K n) ∧ Binds K fd ["self", "data"] [] := by
  have CD : Can P w K mg base CX0 4 "check_depth" ["value"] spDepthD := can_depthD T
  obtain ⟨_, FR, bR⟩ := ok_rv (P := P) (w := w) (base := base) T n
  obtain ⟨fd, F⟩ := T.F_Book_read
  refine ⟨fd, F.ok sc_Book_read (fun vs H Q E h => ?_) (fun cdv A outer s H vs Q E hr h => ?_), F.binds (ps := ["self", "data"]) fun _ _ _ _ _ _ us hl => match us, hl with | [_, _], _ => rfl⟩
  · obtain ⟨b, v, d, rfl, _⟩ := h
    rfl
  · obtain ⟨b, v, d, rfl, hb, hd, hv, hn, hnod, hdp, fin⟩ := h
    refine ⟨_, pss_cons (ps_expr (pe_can CD hr pass0 (pa_cons (pv 1) pa_nil) (hjk := by omega)))
      (pss_one (ps_ret (pe_meth (pv 0) T.cls T.m__read_value FR (hr.mono (by omega)) bR .nil pass0 (pa_cons (pv 1) (pa_cons (pe_tup pa_nil) pa_nil))))), ?_⟩
    refine ⟨_, rfl, v, pl d, rfl, hd, hnod, hdp, fun H1 e1 => ?_⟩
    obtain ⟨dx, fs, b1, _, b2, _⟩ := hb.ex e1
    refine ⟨_, rfl, b, dx, fs, rfl, b1, b2, _, rfl, sz_of (by simp), fun q hq => ?_⟩
    have e2 : Ex H1 (upd H1 q (.tup [])) := Ex.new hq
    exact ⟨b, q, v, [], d, rfl, hb.ex (e1.trans e2), hd.ex (e1.trans e2), hv, upd_same, by simp; omega, fun u H3 e3 hu => fin u H3 ((e1.trans e2).trans e3) (hu.ex (nw_low (e1.trans e2)))⟩
end
end K50
end

section
set_option Elab.async false
set_option linter.all false
set_option maxRecDepth 100000
set_option maxHeartbeats 2000000
/-! C() and C(*y), C a class of the module whose __init__ is promised positionally -/
namespace OwD
open PySem PySem.Spec PyProof.Rows L2 StX
section
variable {X : Cx} {CX : CXT} {k i : Nat} {f C : Addr} {sp : Sp} {E : XK} {x : Str} {e fe : Expr} {te : TE} {p pos sp_ : Pos}
theorem pe_make0 (M : Mk X.K C f) (F : FnR X.prog X.w X.K X.mg X.base CX k f sp) (hr : Room (k + 1) X.A) (hg : Gl X x) (hm : X.mg x = some (.ref C)) (hx : Passes CX X E) (hdb : (x == ("__debug__" : Str)) = false := by decide) :
    PE X (.Call (.Name x p) [] [] pos) (tMakeR C sp E tNil) := by
  refine ⟨fun pins s σ H Q I h => ?_⟩
  refine wpAny_Call_Name_kw (ld_glob I hg hm ?_ hdb)
  exact PySem.W.callWith_K0 I.kIn M.kp (run_makeR (us := []) M F hr hx I .nil h)
theorem pe_makeS1 (M : Mk X.K C f) (F : FnR X.prog X.w X.K X.mg X.base CX k f sp) (hr : Room (k + 1) X.A) (hg : Gl X x) (hm : X.mg x = some (.ref C)) (hx : Passes CX X E) (he : PE X e te) (hd : (x == ("__debug__" : Str)) = false := by decide)
    (hst : starEach [.Starred e sp_] X.env = [(true, eval e X.env)] := by rfl) :
    PE X (.Call (.Name x p) [.Starred e sp_] [] pos) (fun σ H Q => te σ H fun y H1 => ∃ a xs, y = V.ref a ∧ (SqT X.K H1 a xs ∨ SqL X.K H1 a xs) ∧ ∀ x dx, H1 x = Option.none → H1 dx = Option.none → dx ≠ x →
      sp (V.ref x :: xs) (upd (upd H1 dx (.own x)) x (.ins C dx [])) (fun v H2 => v = .non ∧ Q (.ref x) H2) E) := by
  refine ⟨fun pins s σ H Q I h => ?_⟩
  refine wpAny_Call_Name_kw (ld_glob I hg hm ?_ hd)
  refine PySem.W.callWith_S (h₀ := X.base) I.ok.mod.kin M.kp (thn (he.run pins s σ H _ I h) fun v s1 ⟨y, H1, I1, ry, a, xs, ey, hxs, q⟩ => ?_) hst
  subst ey
  obtain rfl : v = Value.ref a := ry
  exact star_any I1 hxs fun us s2 I2 rv => ⟨I2.kIn, run_makeR M F hr hx I2 rv q⟩
end
end OwD
end

section
set_option Elab.async false
set_option linter.all false
set_option maxRecDepth 100000
set_option maxHeartbeats 4000000
namespace K50
open PySem PySem.Spec PyProof.Rows L2 He Cn Evl DtU RpV RpD SqI ExT LcS
section
variable {P : Program} {w : World} {K : PySem.W.Frag} {mg : Str → Option Value} {base : Heap}
def spByNames (K : PySem.W.Frag) : Sp := fun vs H Q _ => ∃ (t : Addr), vs = [.ref t] ∧ H t = some (.tup []) ∧ ∀ D H', H D = none → Ex H H' → H' D = some (.dK []) → Q (.ref D) H'
theorem can_byNames (T : Txt K mg) : Can P w K mg base CX0 1 "_by_names" ["kinds"] (spByNames K) := by
  refine can_of T.g__by_names T.F__by_names (fun fd F => ?_) (fun _ _ _ _ _ _ us hl => match us, hl with | [_], _ => rfl)
  refine F.ok sc__by_names (fun vs H Q E h => ?_) (fun cdv A outer s H vs Q E hr h => ?_)
  · obtain ⟨t, rfl, _⟩ := h
    rfl
  · obtain ⟨t, rfl, hT, fin⟩ := h
    have nd := sc__by_names.nd
    refine ⟨_, pss_cons (ps_set (i := 1) nd rfl (.inl rfl) pe_dnewK)
      (pss_cons (ps_for PassesOwn.never rfl (pi_enumT (by rfl) T.n_enumerate (pa_cons (pv 0) pa_nil)) (pg_tup rfl (pgs_cons (pg_name (i := 2) nd rfl (.inl rfl)) (pgs_cons (pg_name (i := 3) nd rfl (.inl rfl)) pgs_nil))) pss_never)
      (pss_one (ps_ret (pv 1)))), ?_⟩
    refine q_asgE ?_
    intro D hD
    have e1 : Ex H (upd H D (.dK [])) := Ex.new hD
    have hD1 : upd H D (.dK []) D = some (.dK []) := upd_same
    generalize upd H D (.dK []) = H1 at *
    refine ⟨_, rfl, t, [], rfl, st_of (e1 _ _ hT), for_it walk_enumT (fun i σ' H' => σ' = [some (.ref t), some (.ref D), none, none] ∧ H' = H1) ⟨rfl, rfl⟩ (fun i σ' H' _ ⟨_, q⟩ => by rw [q]; exact st_of (e1 _ _ hT)) ?_ ?_⟩
    · rintro i x σ' H3 H4 hi
      exact (Nat.not_lt_zero _ hi).elim
    · rintro σ' H3 ⟨rfl, rfl⟩
      exact s_ret (ev_var rfl) fun H4 e4 => fin D H4 hD (e1.trans e4) (e4 _ _ hD1)
def spBInitB (K : PySem.W.Frag) : Sp := fun vs H Q _ => ∃ (b t dx : Addr), vs = [.ref b, .ref t] ∧ H b = some (.ins (kB K) dx []) ∧ H t = some (.tup []) ∧ ∀ H', Bk K H' b → (∀ c u, H c = some u → c ≠ b → H' c = some u) → Q .non H'
def spBInit (K : PySem.W.Frag) : Sp := fun vs H Q _ => ∃ (b dx : Addr), vs = [.ref b] ∧ H b = some (.ins (kB K) dx []) ∧ ∀ H', Bk K H' b → (∀ c u, H c = some u → c ≠ b → H' c = some u) → Q .non H'
theorem fnr_book (T : Txt K mg) : FnR P w K mg base CX0 2 (ma K (kB K) "__init__") (spBInit K) := by
  have CB : Can P w K mg base CX0 1 "_by_names" ["kinds"] (spByNames K) := can_byNames T
  obtain ⟨fd, F⟩ := T.F_Book_init
  obtain ⟨oc, od, kV, doc, pm, an, cdv, ct, osl, rfl, lk, hcd⟩ := F.ex
  have R := StX.fn_star (P := P) (w := w) (K := K) (mg := mg) (base := base) (CX := CX0) (k := 1) (ps := ["self"]) (pv := "kinds") (N := ["self", "kinds"]) (sp := spBInitB K) lk hcd sc_Book_init StX.cxUp_none (StX.bind_star1 (B := fun us => bindArgs (PySem.W.fnOf "__init__" "Book.__init__" (defArgs s_Book_init) (defBody s_Book_init) (defScope s_Book_init) Value.none kV doc pm an cdv ct) ⟨us, []⟩) (p1 := "self") (pv := "kinds") (fun a => rfl) (fun a r rs => rfl)) (fun A outer s H vs Q E hr h => by
    obtain ⟨b, t, dx, rfl, hb, hT, fin⟩ := h
    refine ⟨_, pss_one (ps_fld (pv 0) (pe_can CB hr pass0 (pa_cons (pv 1) pa_nil)) rfl), ?_⟩
    refine ⟨_, rfl, t, rfl, hT, fun D H1 hD e1 h1 => ?_⟩
    refine ⟨_, rfl, b, kB K, dx, [], rfl, e1 _ _ hb, T.cls, T.a__kinds, by decide, ?_⟩
    refine fin _ ⟨dx, _, upd_same, ?_, ?_, ?_, ?_⟩ fun c u hc hcb => by rw [upd_ne hcb]; exact e1 _ _ hc
    all_goals rfl)
  refine R.imp fun vs H Q E h => ?_
  obtain ⟨b, dx, rfl, hb, fin⟩ := h
  refine ⟨[.ref b], [], rfl, rfl, sz_of (by simp), fun p hp => ?_⟩
  have e : Ex H (upd H p (.tup [])) := Ex.new hp
  exact ⟨b, p, dx, rfl, e _ _ hb, upd_same, fun H' B f => fin H' B fun c u hc hcb => f c u (e _ _ hc) hcb⟩
theorem mk_book {H1 : Hp} {Q : VK} {E : XK} (fin : ∀ b H', H1 b = none → Ex H1 H' → Bk K H' b → Q (.ref b) H') :
    ∀ x dx, H1 x = none → H1 dx = none → dx ≠ x → spBInit K [.ref x] (upd (upd H1 dx (.own x)) x (.ins (kB K) dx [])) (fun v H2 => v = .non ∧ Q (.ref x) H2) E := fun x dx hx hdx hne => by
  have e : Ex H1 (upd (upd H1 dx (.own x)) x (.ins (kB K) dx [])) := (Ex.new hdx).trans (Ex.new (by rw [upd_ne hne.symm]; exact hx))
  exact ⟨x, dx, rfl, upd_same, fun H' B f => ⟨rfl, fin x H' hx (fun c u hc => f c u (e _ _ hc) (ne_of_none hc hx)) B⟩⟩
end
end K50
end

section
set_option Elab.async false
set_option linter.all false
set_option maxRecDepth 100000
set_option maxHeartbeats 4000000
namespace K50
open PySem PySem.Spec PyProof.Rows L2 He Cn Evl DtU RpV RpD SqI ExT LcS
def tw1 : PyData := .list [.int 1]
def tw3 : PyData := .dict [(.str "", tw1), (.str "list", .tuple []), (.str "a b", .none)]
def twD : List PyData := [tw1, tw1, tw3]
def tp1 : PyData := .list [.str "list", .int 1]
def tp3 : PyData := .list [.str "dict", .list [.str "", tp1], .list [.str "list", .list [.str "tuple"]], .list [.str "a b", .none]]
def bkD : PyData := .dict [(.str "", .int 1), (.str "list", .int 2)]
def bpD : PyData := .list [.str "dict", .list [.str "", .int 1], .list [.str "list", .int 2]]
theorem tw_pl : plAll twD = [tp1, tp1, tp3] := by
  simp [twD, tw1, tw3, tp1, tp3, pl, plAll, plKv]
theorem bk_pl : pl bkD = bpD := by
  simp [bkD, bpD, pl, plAll, plKv]
theorem tw1_val : Val 1 tw1 := .lst (fun d hd => by rw [List.mem_singleton.mp hd]; exact .leaf (by decide)) (by decide)
theorem tw3_val : Val 2 tw3 := .dct (fun p hp => by
    rcases List.mem_cons.mp hp with q | q
    · rw [q]; exact ⟨_, rfl, by decide⟩
    rcases List.mem_cons.mp q with q | q
    · rw [q]; exact ⟨_, rfl, by decide⟩
    · rw [List.mem_singleton.mp q]; exact ⟨_, rfl, by decide⟩) (by
    show [PyData.str "", PyData.str "list", PyData.str "a b"].Nodup
    simp
    decide) (fun p hp => by
    rcases List.mem_cons.mp hp with q | q
    · rw [q]; exact tw1_val
    rcases List.mem_cons.mp q with q | q
    · rw [q]; exact .tup (fun d hd => nomatch hd) (by decide)
    · rw [List.mem_singleton.mp q]; exact .leaf (by decide)) (by decide)
theorem twD_val : Val 3 (.list twD) := .lst (fun d hd => by
    rcases List.mem_cons.mp hd with q | q
    · rw [q]; exact tw1_val.up (by decide)
    rcases List.mem_cons.mp q with q | q
    · rw [q]; exact tw1_val.up (by decide)
    · rw [List.mem_singleton.mp q]; exact tw3_val) (by decide)
theorem bkD_val : Val 1 bkD := .dct (fun p hp => by
    rcases List.mem_cons.mp hp with q | q
    · rw [q]; exact ⟨_, rfl, by decide⟩
    · rw [List.mem_singleton.mp q]; exact ⟨_, rfl, by decide⟩) (by
    show [PyData.str "", PyData.str "list"].Nodup
    simp
    decide) (fun p hp => by
    rcases List.mem_cons.mp hp with q | q
    · rw [q]; exact .leaf (by decide)
    · rw [List.mem_singleton.mp q]; exact .leaf (by decide)) (by decide)
section
variable {H0 H : Hp} {σ : L2.St}
theorem ed_call1 {te : TE} {sp : Sp} {E : XK} {d : PyData} {Q : VK} (h : EdN H0 te σ H d) (k : ∀ v H2, Ex H H2 → Du (nw H0 H2) v d → sp [v] H2 Q E) : tCall sp [] E (tCons te tNil) σ H Q := h H (Ex.refl H) _ fun v H2 e2 hv => k v H2 e2 hv
abbrev tDict3 : TE := tDisp [(tC (.str ""), tVar 0), (tC (.str "list"), tTup tNil), (tC (.str "a b"), tC .non)]
theorem ed_dict3 {v : V} {d : PyData} (hσ : σ[0]? = some (some v)) (hd : Du (nw H0 H) v d) (e0 : Ex H0 H) : EdN H0 tDict3 σ H (.dict [(.str "", d), (.str "list", .tuple []), (.str "a b", .none)]) := fun H1 e Q q p hp => by
  have ex1 : Ex H1 (upd H1 p (.dK [])) := Ex.new hp
  refine ⟨v, hσ, sz_of (Nat.zero_le _), fun t ht => ?_⟩
  have ntp : p ≠ t := fun z => by rw [← z, upd_same] at ht; cases ht
  have ex2 : Ex (upd H1 p (.dK [])) (upd (upd H1 p (.dK [])) t (.tup [])) := Ex.new ht
  refine ⟨by rw [upd_ne ntp]; exact upd_same, [(.inr "", v), (.inr "list", .ref t), (.inr "a b", .non)], rfl, by show 3 ≤ 15; decide, ?_⟩
  have hm : mergeK [] [((.inr "" : L2.Key), v), (.inr "list", .ref t), (.inr "a b", .non)] = [(.inr "", v), (.inr "list", .ref t), (.inr "a b", .non)] := by rfl
  rw [hm]
  have hpH : H p = none := fresh_back e hp
  have htH : H1 t = none := fresh_back ex1 ht
  have exF : Ex H1 (upd (upd (upd H1 p (.dK [])) t (.tup [])) p (.dK [((.inr "" : L2.Key), v), (.inr "list", .ref t), (.inr "a b", .non)])) := Ex.mut (ex1.trans ex2) hp
  refine q _ _ exF (.dct (nw_at (fresh_back (e0.trans e) hp) upd_same) rfl fun i x d' hx hd' => ?_)
  match i, hx, hd' with
  | 0, hx, hd' =>
    obtain rfl : ((.inr "" : L2.Key), v) = x := by simpa using hx
    obtain rfl : (PyData.str "", d) = d' := by simpa using hd'
    exact hd.ex (nw_up (e.trans exF))
  | 1, hx, hd' =>
    obtain rfl : ((.inr "list" : L2.Key), V.ref t) = x := by simpa using hx
    obtain rfl : (PyData.str "list", PyData.tuple []) = d' := by simpa using hd'
    exact .tup (xs := []) (nw_at (fresh_back (e0.trans e) htH) (by rw [upd_ne ntp.symm]; exact upd_same)) rfl fun i x d h => by simp at h
  | 2, hx, hd' =>
    obtain rfl : ((.inr "a b" : L2.Key), V.non) = x := by simpa using hx
    obtain rfl : (PyData.str "a b", PyData.none) = d' := by simpa using hd'
    exact .leaf (v := .non) rfl
  | i + 3, hx, _ => simp at hx
theorem ed_tp1 (e0 : Ex H0 H) : EdN H0 (tLst (tCons (tC (.str "list")) (tCons (tC (.int 1)) tNil))) σ H tp1 := ed_lst (ed_cons (ed_c (v := .str "list") (by decide)) (ed_cons (ed_c (v := .int 1) (by decide)) ed_nil)) e0 (by decide)
theorem ed_tp3 (e0 : Ex H0 H) : EdN H0 (tLst (tCons (tC (.str "dict")) (tCons (tLst (tCons (tC (.str "")) (tCons (tLst (tCons (tC (.str "list")) (tCons (tC (.int 1)) tNil))) tNil))) (tCons (tLst (tCons (tC (.str "list")) (tCons (tLst (tCons (tC (.str "tuple")) tNil)) tNil))) (tCons (tLst (tCons (tC (.str "a b")) (tCons (tC .non) tNil))) tNil))))) σ H tp3 :=
  ed_lst (ed_cons (ed_c (v := .str "dict") (by decide)) (ed_cons (ed_lst (ed_cons (ed_c (v := .str "") (by decide)) (ed_cons (ed_tp1 e0) ed_nil)) e0 (by decide)) (ed_cons (ed_lst (ed_cons (ed_c (v := .str "list") (by decide)) (ed_cons (ed_lst (ed_cons (ed_c (v := .str "tuple") (by decide)) ed_nil) e0 (by decide)) ed_nil)) e0 (by decide)) (ed_cons (ed_lst (ed_cons (ed_c (v := .str "a b") (by decide)) (ed_cons (ed_c (v := .non) (by decide)) ed_nil)) e0 (by decide)) ed_nil)))) e0 (by decide)
theorem ed_tpD (e0 : Ex H0 H) : EdN H0 (tLst (tCons (tC (.str "list")) (tCons (tLst (tCons (tC (.str "list")) (tCons (tC (.int 1)) tNil))) (tCons (tLst (tCons (tC (.str "list")) (tCons (tC (.int 1)) tNil))) (tCons (tLst (tCons (tC (.str "dict")) (tCons (tLst (tCons (tC (.str "")) (tCons (tLst (tCons (tC (.str "list")) (tCons (tC (.int 1)) tNil))) tNil))) (tCons (tLst (tCons (tC (.str "list")) (tCons (tLst (tCons (tC (.str "tuple")) tNil)) tNil))) (tCons (tLst (tCons (tC (.str "a b")) (tCons (tC .non) tNil))) tNil))))) tNil))))) σ H (.list [.str "list", tp1, tp1, tp3]) :=
  ed_lst (ed_cons (ed_c (v := .str "list") (by decide)) (ed_cons (ed_tp1 e0) (ed_cons (ed_tp1 e0) (ed_cons (ed_tp3 e0) ed_nil)))) e0 (by decide)
theorem ed_bpD (e0 : Ex H0 H) : EdN H0 (tLst (tCons (tC (.str "dict")) (tCons (tLst (tCons (tC (.str "")) (tCons (tC (.int 1)) tNil))) (tCons (tLst (tCons (tC (.str "list")) (tCons (tC (.int 2)) tNil))) tNil)))) σ H bpD :=
  ed_lst (ed_cons (ed_c (v := .str "dict") (by decide)) (ed_cons (ed_lst (ed_cons (ed_c (v := .str "") (by decide)) (ed_cons (ed_c (v := .int 1) (by decide)) ed_nil)) e0 (by decide)) (ed_cons (ed_lst (ed_cons (ed_c (v := .str "list") (by decide)) (ed_cons (ed_c (v := .int 2) (by decide)) ed_nil)) e0 (by decide)) ed_nil))) e0 (by decide)
theorem ed_twD {v : V} (hσ : σ[0]? = some (some v)) (hd : Du (nw H0 H) v tw1) (e0 : Ex H0 H) : EdN H0 (tLst (tCons (tVar 0) (tCons (tVar 0) (tCons tDict3 tNil)))) σ H (.list twD) :=
  ed_lst (ed_cons (ed_var hσ hd) (ed_cons (ed_var hσ hd) (ed_cons (ed_dict3 hσ hd e0) ed_nil))) e0 (by decide)
theorem du_int {G : Hp} {v : V} {i : Int} (h : Du G v (.int i)) : v = .int i := by
  generalize e : PyData.int i = d at h
  cases h with
  | leaf h => cases v <;> first | (cases h; done) | (cases e; done) | (injection e with e; rw [e])
  | lst _ _ _ => cases e
  | tup _ _ _ => cases e
  | dct _ _ _ => cases e
end
end K50
end

section
set_option Elab.async false
set_option linter.all false
set_option maxRecDepth 100000
set_option maxHeartbeats 4000000
namespace K50
open PySem PySem.Spec PyProof.Rows L2 He Cn Evl DtU RpV RpD SqI ExT LcS
/-- a slice of a list of data, shown -/
theorem ev_reprBL {K : PySem.W.Frag} {σ : L2.St} {H : Hp} {te : TE} {xs : List V} {ds : List PyData} (h : EvL te σ H xs) (hd : Pz H xs ds) (hok : ShOk (.list ds)) : Ev (tCB (rReprG K) (tCons te tNil)) σ H (.str (PyData.list ds).shown) := fun H1 e Q q =>
  h H1 e _ fun p H2 hp e2 h2 => ⟨.ref p, .list ds, rfl, .lst (sq_of h2) hd.1 (fun i x d p q => ((hd.2 i x d p q).ex (e.trans e2)).w), hok, q H2 e2⟩
theorem tpD_ok : ShOk (.list [.str "list", tp1, tp1, tp3]) := by
  have := twD_val.shP (by decide)
  rw [show pl (.list twD) = .list (.str "list" :: plAll twD) by unfold pl; rfl, tw_pl] at this
  exact this
theorem tp_ok2 : ShOk (.list [tp1, tp3]) := by
  obtain ⟨h1, h2, h3, h4⟩ := tpD_ok
  have h1' : PyData.leavesShortAll 24 [.str "list", tp1, tp1, tp3] = true := h1
  have h2' : PyData.weightAll [.str "list", tp1, tp1, tp3] ≤ 20000 := h2
  have h3' : PyData.depthAll [.str "list", tp1, tp1, tp3] + 1 ≤ 20 := h3
  have h4' : PyData.showableAll [.str "list", tp1, tp1, tp3] = true := h4
  simp only [PyData.leavesShortAll, PyData.weightAll, PyData.depthAll, PyData.showableAll, Bool.and_eq_true] at h1' h2' h3' h4'
  refine ⟨?_, ?_, ?_, ?_⟩
  · show PyData.leavesShortAll 24 [tp1, tp3] = true
    simp only [PyData.leavesShortAll, Bool.and_eq_true]
    exact ⟨h1'.2.1, h1'.2.2.2.1, trivial⟩
  · show PyData.weightAll [tp1, tp3] ≤ 20000
    simp only [PyData.weightAll]
    omega
  · show PyData.depthAll [tp1, tp3] + 1 ≤ 20
    simp only [PyData.depthAll]
    omega
  · show PyData.showableAll [tp1, tp3] = true
    simp only [PyData.showableAll, Bool.and_eq_true]
    exact ⟨h4'.2.1, h4'.2.2.2.1, trivial⟩
section
variable {P : Program} {w : World} {K : PySem.W.Frag} {mg : Str → Option Value} {base : Heap}
def spTwice : Sp := fun vs H Q _ => vs = [] ∧ ∀ H', Ex H H' → Q (.bl true) H'
theorem ex_upd_new {H H1 H2 : Hp} {a : Addr} {o : HO} (e : Ex H H1) (e2 : Ex H1 H2) (h : H a = none) : Ex H (upd H2 a o) := Ex.mut (e.trans e2) h
/-- Book().read(..) -/
theorem rd_bookRead {sp : Sp} {ta : TA} {σ : L2.St} {H : Hp} {Q : VK} (k : ∀ b H', H b = none → Ex H H' → Bk K H' b → ta σ H' fun vs H2 => sp (.ref b :: vs) H2 Q E0) : tMeth (kB K) "read" sp [] E0 (StX.tMakeR (kB K) (spBInit K) E0 tNil) ta σ H Q :=
  mk_book (K := K) (E := E0) (H1 := H) (Q := fun x H1 => ∃ a dx fs, x = .ref a ∧ H1 a = some (.ins (kB K) dx fs) ∧ fs.lookup ("read" : Str) = none ∧ ta σ H1 fun vs H2 => sp (x :: (vs ++ [])) H2 Q E0) fun b H' hb e B => by
    obtain ⟨dx, fs, h1, h2, _⟩ := id B
    refine ⟨b, dx, fs, rfl, h1, h2, ?_⟩
    have := k b H' hb e B
    simpa using this
theorem can_twice (T : Txt K mg) : Gd.CanG P w K mg base CX0 13 "_law_twice_right" spTwice := by
  have CZ : Can P w K mg base CX0 8 "plain" ["value"] (spPlainZW 3) := can_plainZ T 2
  obtain ⟨fdR, FR, bR⟩ := ok_read (P := P) (w := w) (base := base) T 1
  have FB : FnR P w K mg base CX0 2 (ma K (kB K) "__init__") (spBInit K) := fnr_book T
  obtain ⟨fd, F⟩ := T.F__law_twice_right
  refine ⟨ga K "_law_twice_right", 0, T.g__law_twice_right, ?_, F.kp⟩
  obtain ⟨oc, od, kV, doc, pm, an, cdv, ct, osl, rfl, lk, hcd⟩ := F.ex
  have hS : RpD.SysD K := T.sysd
  refine Gd.fng_of (k := 12) (ps := []) lk hcd sc__law_twice_right (fun vs H Q E h => ?_) (fun us hl => match us, hl with | [], _ => rfl) (fun A outer s H vs Q E hg hr h => ?_)
  · obtain ⟨rfl, _⟩ := h
    rfl
  · obtain ⟨rfl, fin⟩ := h
    have nd := sc__law_twice_right.nd
    have hu : (A.deeper (envOfC "_law_twice_right" (defScope s__law_twice_right) s.heap.objs.size (ga K "_law_twice_right") cdv)).units + 25 < cLine := by have := hr.un; omega
    have hu1 : (A.deeper (envOfC "_law_twice_right" (defScope s__law_twice_right) s.heap.objs.size (ga K "_law_twice_right") cdv)).units < cLine := by have := hr.un; omega
    have hu64 : (A.deeper (envOfC "_law_twice_right" (defScope s__law_twice_right) s.heap.objs.size (ga K "_law_twice_right") cdv)).units + 64 < cLine := by have := hr.un; omega
    refine ⟨_, pss_cons (ps_set (i := 0) nd rfl (.inl rfl) (pe_lst (pa_cons pe_int pa_nil)))
      (pss_cons (ps_set (i := 1) nd rfl (.inl rfl) (pe_can CZ hr pass0 (pa_cons (pe_lst (pa_cons (pv 0) (pa_cons (pv 0) (pa_cons (pe_disp (pps_cons pe_str (pv 0) (pps_cons pe_str (pe_tup pa_nil) (pps_cons pe_str pe_non pps_nil))) (by rfl) (by rfl) (fun z => by cases z) (by decide)) pa_nil)))) pa_nil)))
      (pss_cons (ps_set (i := 2) nd rfl (.inl rfl) (pe_lst (pa_cons pe_str (pa_cons (pe_lst (pa_cons pe_str (pa_cons pe_int pa_nil))) (pa_cons (pe_lst (pa_cons pe_str (pa_cons pe_int pa_nil))) (pa_cons (pe_lst (pa_cons pe_str (pa_cons (pe_lst (pa_cons pe_str (pa_cons (pe_lst (pa_cons pe_str (pa_cons pe_int pa_nil))) pa_nil))) (pa_cons (pe_lst (pa_cons pe_str (pa_cons (pe_lst (pa_cons pe_str pa_nil)) pa_nil))) (pa_cons (pe_lst (pa_cons pe_str (pa_cons pe_non pa_nil))) pa_nil))))) pa_nil))))))
      (pss_cons (ps_if (pt_cmpR op_ne (pe_callB (call_repr_big hg hu hS) (by rfl) T.n_repr (by decide +kernel) (pa_cons (pv 1) pa_nil)) (pe_callB (call_repr_big hg hu hS) (by rfl) T.n_repr (by decide +kernel) (pa_cons (pv 2) pa_nil)) (nomark _)) (pss_one (ps_ret pe_bl)) pss_nil)
      (pss_cons (ps_expr (pe_bm PySem.F.plainAttrs_list PySem.F.slot_list_append PySem.F.type_list_append mt_append (pe_ix ix_list (pv 1) pe_int (fun _ _ => rfl)) (pa_cons pe_int pa_nil)))
      (pss_cons (ps_set (i := 3) nd rfl (.inl rfl) (pe_meth (OwD.pe_make0 T.bmk FB (hr.mono (by decide)) rfl T.g_Book pass0) T.cls T.m_read FR (hr.mono (by decide)) bR .nil pass0 (pa_cons (pe_lst (pa_cons pe_str (pa_cons (pe_lst (pa_cons pe_str (pa_cons pe_int pa_nil))) (pa_cons (pe_lst (pa_cons pe_str (pa_cons pe_int pa_nil))) pa_nil)))) pa_nil)))
      (pss_one (ps_ret (pe_and (pe_cmpR op_eq (pe_callB (call_repr_big hg hu hS) (by rfl) T.n_repr (by decide +kernel) (pa_cons (pe_slice sl_list (pv 1) (po_some pe_int) po_none) pa_nil)) (pe_callB (call_repr_big hg hu hS) (by rfl) T.n_repr (by decide +kernel) (pa_cons (pe_slice sl_list (pv 2) (po_some pe_int) po_none) pa_nil)) (nomark _))
        (pe_and (pe_cmpR (op_eqD hu64) (pv 0) (pe_lst (pa_cons pe_int pa_nil)) (nomark _)) (pe_one (pe_cmpR (op_eq_dictA hu1) (pv 3) (pe_disp (pps_cons pe_str pe_int (pps_cons pe_str pe_int pps_nil)) (by rfl) (by rfl) (fun z => by cases z) (by decide)) (nomark _)))))))))))), ?_⟩
    -- same
    refine q_asgL (xs := [.int 1]) (el_lst (ea_cons ev_c ea_nil) (by decide)) fun s0 H1 hs0 e1 h1 => ?_
    have dSame : Du (nw H H1) (.ref s0) tw1 := .lst (xs := [.int 1]) (nw_at hs0 h1) rfl fun i x d p q => by
      cases i with
      | zero =>
        obtain rfl : V.int 1 = x := by simpa using p
        obtain rfl : PyData.int 1 = d := by simpa using q
        exact .leaf (v := .int 1) (by decide)
      | succ i => simp at p
    -- told
    refine q_asgE ?_
    refine ed_call1 (H0 := H) (ed_twD (v := .ref s0) rfl dSame e1) fun v H2 e2 hv => ?_
    have bq := twD_val.bq.1
    refine ⟨v, twD, rfl, hv.ex nw_ex, twD_val, Nat.lt_of_le_of_lt bq.nd (by decide), Nat.le_trans bq.dp (by decide), fun l ys H3 e3 hl hz => ?_⟩
    rw [tw_pl] at hz
    obtain ⟨hlen, Z, z1, z2, z3⟩ := hz
    obtain ⟨y1, y2, y3, rfl⟩ : ∃ y1 y2 y3, ys = [y1, y2, y3] := by
      match ys, hlen with
      | [a, b, c], _ => exact ⟨a, b, c, rfl⟩
    have d1 := z3 0 y1 tp1 rfl rfl
    have d2 := z3 1 y2 tp1 rfl rfl
    have d3 := z3 2 y3 tp3 rfl rfl
    have zUp : ∀ i, i < 3 → Ex (Z i) H3 := fun i hi b o h => (nw_some (wo_some (z1 i hi b o h)).2).2
    have hl3 : H3 l = some (.lst [.str "list", y1, y2, y3]) := (nw_some hl).2
    have dTold : Du H3 (.ref l) (.list [.str "list", tp1, tp1, tp3]) := .lst hl3 rfl fun i x d p q => by
      match i, p, q with
      | 0, p, q =>
        obtain rfl : V.str "list" = x := by simpa using p
        obtain rfl : PyData.str "list" = d := by simpa using q
        exact .leaf (v := .str "list") (by decide)
      | 1, p, q =>
        obtain rfl : y1 = x := by simpa using p
        obtain rfl : tp1 = d := by simpa using q
        exact d1.ex (zUp 0 (by decide))
      | 2, p, q =>
        obtain rfl : y2 = x := by simpa using p
        obtain rfl : tp1 = d := by simpa using q
        exact d2.ex (zUp 1 (by decide))
      | 3, p, q =>
        obtain rfl : y3 = x := by simpa using p
        obtain rfl : tp3 = d := by simpa using q
        exact d3.ex (zUp 2 (by decide))
      | i + 4, p, _ => simp at p
    -- due
    refine q_asgE ?_
    refine ed_tpD (H0 := H3) (Ex.refl H3) H3 (Ex.refl H3) _ fun du H4 e4 hdu => ?_
    have dTold4 := dTold.ex e4
    refine q_when (b := false) (et_is (et_test (ev_op (ev_reprB (ev_var (v := .ref l) rfl) dTold4.w tpD_ok) (ev_reprB (ev_var (v := du) rfl) (hdu.ex nw_ex).w tpD_ok) (rv_ne rfl))) (by simp)) (fun h => by cases h) fun _ H5 e5 => ?_
    have e35 := e4.trans e5
    -- told[1].append(2)
    obtain ⟨a1, xs1, rfl, ha1, _⟩ := inv_lst0 d1
    obtain ⟨q, us, rfl, hq, hus⟩ := inv_lst0 (hdu.ex (nw_up e5))
    have na1 : H2 a1 = none := (nw_some (wo_some (z1 0 (show (0 : Nat) < 3 from by decide) _ _ ha1)).2).1
    have nl1 : a1 ≠ l := (wo_some (z1 0 (show (0 : Nat) < 3 from by decide) _ _ ha1)).1
    have ha5 : H5 a1 = some (.lst xs1) := e35 _ _ (zUp 0 (by decide) _ _ ha1)
    have hl5 : H5 l = some (.lst [.str "list", .ref a1, y2, y3]) := e35 _ _ hl3
    have lx1 : xs1.length < 100000 := by
      obtain ⟨_, _, ee, ha, hp⟩ := inv_lst0 d1
      cases ee
      rw [ha1] at ha
      injection Option.some.inj ha with z
      rw [z, hp.1]
      decide
    refine q_app (l := a1) (xs := xs1) ha5 (ev_op (x := .ref l) (y := .int 1) (ev_var rfl) ev_c (rv_ixL (sq_of hl5) (by rfl))) (ev_c (v := .int 2)) lx1 fun H6 e6 => ?_
    have H36 := e35.trans e6
    have e02 := e1.trans e2
    have new2 : Ex H2 (upd H6 a1 (.lst (xs1 ++ [.int 2]))) := ex_upd_new e3 H36 na1
    have z6 : ∀ i, i < 3 → i ≠ 0 → Ex (Z i) (upd H6 a1 (.lst (xs1 ++ [.int 2]))) := fun i hi h0 b o h => by
      have nb : b ≠ a1 := fun z => by
        have := z2 0 i a1 (show (0 : Nat) < 3 from by decide) hi (Ne.symm h0) (by rw [ha1]; simp)
        rw [z, this] at h
        cases h
      rw [upd_ne nb]
      exact H36 _ _ (zUp i hi _ _ h)
    have due6 : Ex (nw H3 H5) (upd H6 a1 (.lst (xs1 ++ [.int 2]))) := fun b o h => by
      obtain ⟨g1, g2⟩ := nw_some h
      have nb : b ≠ a1 := fun z => by rw [z, zUp 0 (by decide) _ _ ha1] at g1; cases g1
      rw [upd_ne nb]
      exact e6 _ _ g2
    have hl6 : upd H6 a1 (.lst (xs1 ++ [.int 2])) l = some (.lst [.str "list", .ref a1, y2, y3]) := by rw [upd_ne nl1.symm]; exact e6 _ _ hl5
    have d26 := d2.ex (z6 1 (by decide) (by decide))
    have d36 := d3.ex (z6 2 (by decide) (by decide))
    generalize upd H6 a1 (.lst (xs1 ++ [.int 2])) = H7 at *
    -- back
    refine q_asgE ?_
    refine rd_bookRead (fun b H8 hb e8 hB => ?_)
    refine ed_bpD (H0 := H8) (Ex.refl H8) H8 (Ex.refl H8) _ fun dv H9 e9 hdv => ?_
    have bkq := bkD_val.bq.2
    refine ⟨b, dv, bkD, rfl, hB.ex e9, by rw [bk_pl]; exact hdv.ex nw_ex, bkD_val, by decide, Nat.lt_of_le_of_lt bkq.nd (by decide), Nat.le_trans bkq.dp (by decide), fun bk H10 e10 hbk => ?_⟩
    have e7X := (e8.trans e9).trans e10
    obtain ⟨kb, kvs, rfl, hk1, hk2, hk3⟩ := inv_dct (hbk.ex nw_ex)
    have hP1 : Pz H10 [y2, y3] [tp1, tp3] := ⟨rfl, fun i x d p q => by
      match i, p, q with
      | 0, p, q =>
        obtain rfl : y2 = x := by simpa using p
        obtain rfl : tp1 = d := by simpa using q
        exact d26.ex e7X
      | 1, p, q =>
        obtain rfl : y3 = x := by simpa using p
        obtain rfl : tp3 = d := by simpa using q
        exact d36.ex e7X
      | i + 2, p, _ => simp at p⟩
    obtain ⟨u0, u1, u2, u3, rfl⟩ : ∃ u0 u1 u2 u3, us = [u0, u1, u2, u3] := by
      match us, hus.1 with
      | [a, b, c, d], _ => exact ⟨a, b, c, d, rfl⟩
    have hP2 : Pz H10 [u2, u3] [tp1, tp3] := ⟨rfl, fun i x d p q => by
      match i, p, q with
      | 0, p, q =>
        obtain rfl : u2 = x := by simpa using p
        obtain rfl : tp1 = d := by simpa using q
        exact (hus.2 2 u2 tp1 rfl rfl).ex (due6.trans e7X)
      | 1, p, q =>
        obtain rfl : u3 = x := by simpa using p
        obtain rfl : tp3 = d := by simpa using q
        exact (hus.2 3 u3 tp3 rfl rfl).ex (due6.trans e7X)
      | i + 2, p, _ => simp at p⟩
    -- the end
    obtain ⟨p0, p1, rfl⟩ : ∃ p0 p1, kvs = [p0, p1] := by
      match kvs, (show kvs.length = 2 by have := congrArg List.length hk2; simpa using this.symm) with
      | [a, b], _ => exact ⟨a, b, rfl⟩
    have i0 : p0.2 = .int 1 := du_int (hk3 0 p0 (.str "", .int 1) rfl rfl)
    have i1 : p1.2 = .int 2 := du_int (hk3 1 p1 (.str "list", .int 2) rfl rfl)
    obtain ⟨q0, q1⟩ : PyData.str "" = keyD p0.1 ∧ PyData.str "list" = keyD p1.1 := by simpa using hk2
    have k0 : p0.1 = .inr "" := (keyD_inj (a := .inr "") (b := p0.1) q0).symm
    have k1 : p1.1 = .inr "list" := (keyD_inj (a := .inr "list") (b := p1.1) q1).symm
    have hl10 : H10 l = some (.lst [.str "list", .ref a1, y2, y3]) := e7X _ _ hl6
    have hq10 : H10 q = some (.lst [u0, u1, u2, u3]) := e7X _ _ (due6 _ _ hq)
    have hs10 : H10 s0 = some (.lst [.int 1]) := e7X _ _ (new2 _ _ (e2 _ _ h1))
    refine s_ret (v := .bl (true && (true && true))) (ev_andV (ev_to (ev_op (ev_reprBL (el_sl (xs := [.str "list", .ref a1, y2, y3]) (lo := some 2) (hi := none) (ev_var rfl) (eo_some ev_c) eo_none (sq_of hl10)) (show Pz H10 (cutV [.str "list", .ref a1, y2, y3] (some 2) none) [tp1, tp3] from hP1) tp_ok2) (ev_reprBL (el_sl (xs := [u0, u1, u2, u3]) (lo := some 2) (hi := none) (ev_var rfl) (eo_some ev_c) eo_none (sq_of hq10)) (show Pz H10 (cutV [u0, u1, u2, u3] (some 2) none) [tp1, tp3] from hP2) tp_ok2) (rv_eq rfl)) (by simp)) fun _ => ev_andV (ev_to (ev_opL (z := .bl true) (ev_var rfl) (el_lst (vs := [.int 1]) (ea_cons ev_c ea_nil) (by decide)) fun p H11 hp e11 => fun H12 e12 Q' q' => ⟨tw1, tw1, ?_, ?_, by decide, by decide, q' H12 (Ex.refl _)⟩) rfl) fun _ => fun H11 e11 Q' q' => ?_) fun H11 e11 => fin H11 ?_
    · exact .lst (sq_of (e12 _ _ (e11 _ _ hs10))) (.cons (.int 1) .nil)
    · exact .lst (sq_of (e12 _ _ hp)) (.cons (.int 1) .nil)
    · refine ⟨_, rfl, fun t ht => ?_⟩
      have ex1 : Ex H11 (upd H11 t (.dK [])) := Ex.new ht
      refine ⟨upd_same, [(.inr "", .int 1), (.inr "list", .int 2)], rfl, by decide, ?_⟩
      have hm : mergeK [] [((.inr "" : L2.Key), V.int 1), (.inr "list", .int 2)] = [(.inr "", .int 1), (.inr "list", .int 2)] := by rfl
      rw [hm]
      have exF : Ex H11 (upd (upd H11 t (.dK [])) t (.dK [((.inr "" : L2.Key), V.int 1), (.inr "list", .int 2)])) := Ex.mut ex1 ht
      refine ⟨kb, t, [p0, p1], [(.inr "", .int 1), (.inr "list", .int 2)], rfl, rfl, exF _ _ (e11 _ _ hk1), upd_same, rfl, fun p hp => ?_, q' _ exF⟩
      rcases List.mem_cons.mp hp with z | z
      · rw [z, k0, i0]; exact ⟨rfl, rfl⟩
      · rw [List.mem_singleton.mp z, k1, i1]; exact ⟨rfl, rfl⟩
    · exact fun b o h => e11 _ _ (e7X _ _ (new2 _ _ (e02 _ _ h)))
end
end K50
end

section
set_option Elab.async false
set_option linter.all false
set_option maxRecDepth 100000
set_option maxHeartbeats 2000000
/-! zip of a list and a tuple -/
namespace MxI
open PySem PySem.Spec PyProof.Rows L2
def ItzM (K : PySem.W.Frag) (a b : Addr) : It :=
  ⟨fun i H => ∃ (xs ys : List V) (x y : V), SqL K H a xs ∧ SqT K H b ys ∧ xs[i]? = some x ∧ ys[i]? = some y,
    fun i H v H' => ∃ T x y, v = .ref T ∧ H T = none ∧ H' = upd H T (.tup [x, y]) ∧ (∀ xs, SqL K H a xs → xs[i]? = some x) ∧ ∀ ys, SqT K H b ys → ys[i]? = some y,
    fun i H => ∃ xs ys : List V, SqL K H a xs ∧ SqT K H b ys ∧ i ≤ xs.length ∧ i ≤ ys.length ∧ (i = xs.length ∨ i = ys.length)⟩
/-- what stands of a zip under way -/
def ZmSt (a b z TI TO i1 i2 : Addr) (i : Nat) (h : Heap) : Prop :=
  IsZip h z TI TO .none ∧ IsTupOf2 h TI (.ref i1) (.ref i2) ∧ (∃ x y, IsTupOf2 h TO x y) ∧ h.IsListIter i1 a i ∧ h.IsTupleIter i2 b i
def zmC (z TI TO i1 i2 : Addr) : List Addr := [z, TI, TO, i1, i2]
theorem ZmSt.there {a b z TI TO i1 i2 : Addr} {i : Nat} {h : Heap} (st : ZmSt a b z TI TO i1 i2 i h) : ∀ c, c ∈ zmC z TI TO i1 i2 → ∃ o, h.get? c = some o ∧ ∀ v, o.data ≠ .cell v := by
  obtain ⟨q1, q2, ⟨x, y, q3⟩, ⟨o1, e1, _, d1⟩, ⟨o2, e2, _, d2⟩⟩ := st
  have hne : ∀ (o : Obj) (vs : Array Value), o.data = .fields vs → ∀ v, o.data ≠ .cell v := fun o vs h v q => by
    rw [h] at q
    cases q
  intro c hc
  unfold zmC at hc
  simp only [List.mem_cons, List.not_mem_nil, or_false] at hc
  rcases hc with rfl | rfl | rfl | rfl | rfl
  · exact ⟨_, q1, hne _ _ rfl⟩
  · exact ⟨_, q2, fun v q => nomatch q⟩
  · exact ⟨_, q3, fun v q => nomatch q⟩
  · exact ⟨o1, e1, hne _ _ d1⟩
  · exact ⟨o2, e2, hne _ _ d2⟩
theorem ZmSt.lt {a b z TI TO i1 i2 : Addr} {i : Nat} {h : Heap} (st : ZmSt a b z TI TO i1 i2 i h) {c : Addr} (hc : c ∈ zmC z TI TO i1 i2) : c < h.objs.size := by
  obtain ⟨o, ho, _⟩ := st.there c hc
  exact Heap.lt_size ho
theorem ZmSt.keep {a b z TI TO i1 i2 : Addr} {i : Nat} {h h' : Heap} (st : ZmSt a b z TI TO i1 i2 i h) (k : ∀ c, c ∈ zmC z TI TO i1 i2 → ∀ o, h.get? c = some o → h'.get? c = some o) : ZmSt a b z TI TO i1 i2 i h' := by
  obtain ⟨q1, q2, ⟨x, y, q3⟩, q4, q5⟩ := st
  unfold zmC at k
  refine ⟨k z (by simp) _ q1, k TI (by simp) _ q2, ⟨x, y, k TO (by simp) _ q3⟩, ?_, ?_⟩
  · exact q4.at fun o e => k i1 (by simp) o e
  · exact q5.at fun o e => k i2 (by simp) o e
theorem nin {c : Addr} {l : List Addr} (h : c ∉ l) {d : Addr} (hd : d ∈ l) : c ≠ d := fun e => h (e ▸ hd)
theorem turn_zipM {P : Program} {w : World} {K : PySem.W.Frag} {elts : List Expr} {kk : Nat} {tpos : Pos} {a b z TI TO i1 i2 : Addr} (S : ZipSep2 z TI TO i1 i2 [i1, a] [i2, b]) (ha : a ≠ i1) (hb : b ≠ i2) :
    Turn P w K (.Tuple elts kk tpos) (ItzM K a b) (zmC z TI TO i1 i2) z (ZmSt a b z TI TO i1 i2) where
  mem := List.mem_cons_self ..
  obj := fun i h st => st.there
  keep := fun i h h' st k => st.keep k
  self := fun A i s Q E st h => wpAny_pyIter_zip st.1 h
  item := by
    intro X hP hw hK hc i pins s σ H E I hf st hg
    subst hP hw hK
    obtain ⟨xs, ys, x, y, hqx, hqy, hx, hy⟩ := hg
    obtain ⟨its, rv, p, _⟩ := I.list hqx
    obtain ⟨its2, rv2, p2, _⟩ := I.tuple hqy
    have st0 := id st
    obtain ⟨q1, q2, ⟨x0, y0, q3⟩, q4, q5⟩ := st
    have hx2 := (List.getElem?_eq_some_iff.mp hx).1
    have hy2 := (List.getElem?_eq_some_iff.mp hy).1
    have l1 := rv.length
    have l2 := rv2.length
    have hh : X.A.in1.handled = none := I.ok.hd hc
    refine wpAny_pyNext_zipD2_item S (Draws.list hh i1 a ha its.toArray) (Draws.tuple hh i2 b hb its2.toArray) q1 q2 q3 ⟨q4, p.isList⟩ ⟨q5, p2⟩ (by rw [List.size_toArray]; omega) (by rw [List.size_toArray]; omega)
      fun x1 x2 h' tk e1 e2 r1 r2 r3 r4 r5 hsz hk => ?_
    obtain ⟨u, hu, ru⟩ := rv.get hx
    obtain ⟨u2, hu2, ru2⟩ := rv2.get hy
    obtain rfl : x1 = u := by
      have e1 : its.toArray[i]? = some x1 := e1
      rw [List.getElem?_toArray, hu] at e1
      exact (Option.some.inj e1).symm
    obtain rfl : x2 = u2 := by
      have e2 : its2.toArray[i]? = some x2 := e2
      rw [List.getElem?_toArray, hu2] at e2
      exact (Option.some.inj e2).symm
    refine ⟨_, rfl, wpAny_letOwnedTupleGo_zip (s := { s with heap := h', toks := tk }) r1 fun h2 z2 sb => ?_⟩
    have off : ∀ c, c ∈ zmC z TI TO i1 i2 → c ≠ s.heap.objs.size := fun c hc => Nat.ne_of_lt (st0.lt hc)
    have zz := off z (List.mem_cons_self ..)
    have pair : h2.get? s.heap.objs.size = some { cls := .type "tuple", data := .seq #[x1, x2] } := (sb.2 _ zz.symm).trans r5
    have new : ObjOk X.prog X.w (upd H s.heap.objs.size (.tup [x, y])) h2 s.heap.objs.size (.tup [x, y]) :=
      ⟨by show 2 ≤ sizeLine; decide, [x1, x2], .cons ru (.cons ru2 .nil), ⟨_, pair, rfl, _, rfl⟩⟩
    have I1 : Inv X pins σ (upd H s.heap.objs.size (.tup [x, y])) { s with heap := h2, toks := tk } :=
      I.turnedNew (ch := zmC z TI TO i1 i2) (fun c o hb q => (sb.2 c (nin hb (by simp [zmC]))).trans (hk c o (nin hb (by simp [zmC])) (nin hb (by simp [zmC])) (nin hb (by simp [zmC])) (nin hb (by simp [zmC])) q)) hf (Nat.le_refl _) new
    refine ⟨.ref s.heap.objs.size, _, I1, rfl, ⟨_, x, y, rfl, I.hok.fresh (Nat.le_refl _), rfl, fun l hl => by rw [I.list_inj hl hqx]; exact hx, fun l hl => by rw [I.tuple_inj hl hqy]; exact hy⟩, ?_, fun c hc => ?_⟩
    · refine ⟨z2, (sb.2 _ S.TIz).trans (hk _ _ S.TIz S.TITO S.TIi1 S.TIi2 q2), ⟨_, _, (sb.2 _ S.TOz).trans r2⟩, ?_, ?_⟩
      · exact r3.1.at fun o q => (sb.2 _ S.zi1.symm).trans q
      · exact r4.1.at fun o q => (sb.2 _ S.zi2.symm).trans q
    · rw [upd_ne (off c hc)]
      exact (hf c hc).1
  done := by
    intro X hP hw hK hc i pins s σ H E I hf st hg
    subst hP hw hK
    obtain ⟨xs, ys, hqx, hqy, h1, h2, h3⟩ := hg
    obtain ⟨its, rv, p, _⟩ := I.list hqx
    obtain ⟨its2, rv2, p2, _⟩ := I.tuple hqy
    obtain ⟨q1, q2, ⟨x0, y0, q3⟩, q4, q5⟩ := st
    have l1 := rv.length
    have l2 := rv2.length
    have hh : X.A.in1.handled = none := I.ok.hd hc
    refine wpAny_pyNext_zipD2_end S (Draws.list hh i1 a ha its.toArray) (Draws.tuple hh i2 b hb its2.toArray) q1 q2 q3 ⟨q4, p.isList⟩ ⟨q5, p2⟩ (by rw [List.size_toArray]; omega) (by rw [List.size_toArray]; omega)
      (by rw [List.size_toArray, List.size_toArray]; omega) fun h' tk hk => ⟨rfl, I.turnedL (ch := zmC z TI TO i1 i2) (fun c o hb q => hk c o (nin hb (by simp [zmC])) (nin hb (by simp [zmC])) (nin hb (by simp [zmC])) (nin hb (by simp [zmC])) q) hf⟩
def iZipM (K : PySem.W.Frag) (ta : TA) : TI := fun σ H R => ta σ H fun vs H1 => ∃ a b xs ys, vs = [.ref a, .ref b] ∧ SqL K H1 a xs ∧ SqT K H1 b ys ∧ R (ItzM K a b) H1
theorem pi_zipM {X : Cx} {e e2 : Expr} {ta : TA} {p pos tpos : Pos} {elts : List Expr} {kk : Nat} (hg : Gl X "zip") (hm : X.mg "zip" = none) (ha : PA X [e, e2] ta)
    (hs : starEach [e, e2] X.env = (false, eval e X.env) :: starEach [e2] X.env := by rfl) (hpl : (backTo pos (starEach [e2] X.env)).any (·.1) = false := by rfl) :
    PI X (.Tuple elts kk tpos) (.Call (.Name "zip" p) [e, e2] [] pos) (iZipM X.K ta) := by
  refine ⟨fun pins s σ H R I h => Call_ (ld_blt I hg hm PyProof.Rows.boot_zip (PyProof.Rows.callWith_type1 (thn (ha.run pos pins s σ H _ I h) fun us s1 ⟨vs, H1, I1, r1, q1⟩ => ?_) hs hpl))⟩
  obtain ⟨a, b, xs, ys, rfl, hqx, hqy, q⟩ := q1
  obtain ⟨u1, u2, rfl, r1, r2⟩ := vals2 r1
  obtain rfl : u1 = Value.ref a := r1
  obtain rfl : u2 = Value.ref b := r2
  obtain ⟨its, rv, p1, _⟩ := I1.list hqx
  obtain ⟨its2, rv2, p2, _⟩ := I1.tuple hqy
  have la : a < s1.heap.objs.size := p1.lt
  have lb : b < s1.heap.objs.size := p2.lt
  refine zip_begins2 (begins_list a its.toArray) (begins_tuple b its2.toArray) p1.isList p2 fun h' z1 z2 z3 z4 z5 hsz hk => wpAny_pyIter_zip z1 ?_
  refine ⟨s1.heap.objs.size + 4, zmC _ _ _ _ _, _, _, H1, rfl, I1.kept (t' := s1.toks) hk, turn_zipM (zip_sep2 (N := s1.heap.objs.size) (fp1 := [a]) (fp2 := [b]) (by simpa using la) (by simpa using lb)) (Nat.ne_of_lt la) (Nat.ne_of_lt (Nat.lt_succ_of_lt lb)),
    ⟨z1, z2, ⟨_, _, z3⟩, ⟨_, z4, rfl, rfl⟩, ⟨_, z5, rfl, rfl⟩⟩, fun c hc => ?_, q⟩
  have hle : s1.heap.objs.size ≤ c := by
    unfold zmC at hc
    simp only [List.mem_cons, List.not_mem_nil, or_false] at hc
    rcases hc with rfl | rfl | rfl | rfl | rfl
    · exact Nat.le_add_right _ _
    · exact Nat.le_add_right _ _
    · exact Nat.le_add_right _ _
    · exact Nat.le_refl _
    · exact Nat.le_add_right _ _
  exact I1.fpOk hle (I1.hok.fresh hle)
theorem walk_zipM {K : PySem.W.Frag} {a b : Addr} {xs ys : List V} {n : Nat} (hn : n = min xs.length ys.length) : Walk (ItzM K a b) n (fun H => SqL K H a xs ∧ SqT K H b ys) (YPair (fun i => xs[i]?) (fun i => ys[i]?)) := by
  subst hn
  refine ⟨fun i _ hi q => ?_, fun _ q => ⟨xs, ys, q.1, q.2, by omega, by omega, by omega⟩, fun i H v H' _ q y => ?_⟩
  · have h1 : i < xs.length := by omega
    have h2 : i < ys.length := by omega
    exact ⟨xs, ys, xs[i], ys[i], q.1, q.2, List.getElem?_eq_getElem h1, List.getElem?_eq_getElem h2⟩
  · obtain ⟨T, x, z, h1, h2, h3, h4, h5⟩ := y
    exact ⟨T, x, z, h1, h2, h3, h4 xs q.1, h5 ys q.2⟩
/-- a dict comprehension over a walk -/
theorem dc_it {J : It} {n : Nat} {G : Hp → Prop} {Y : Nat → Hp → V → Hp → Prop} (w : Walk J n G Y) {g : TG} {t : TT} {tk tv : TE} {vs : List Nat} {σ : L2.St} {H0 : Hp} {D : Addr} {Fin : Hp → Prop} (P : Nat → Hp → Prop) (start : P 0 (upd H0 D (.dK []))) (good : ∀ i H, i ≤ n → P i H → G H)
    (step : ∀ i x H H', i < n → P i H → Y i H x H' → g x (wipe σ vs) H' fun σ2 H2 => wipe σ2 vs = wipe σ vs ∧ t σ2 H2 fun b H3 =>
      if b = true then tk σ2 H3 fun y H4 => tv σ2 H4 fun z H5 => ∃ kvs k, y = kV k ∧ H5 D = some (.dK kvs) ∧ kvs.length < sizeLine ∧ P (i + 1) (upd H5 D (.dK (putK kvs k z))) else P (i + 1) H3) (last : ∀ H, P n H → Fin H) :
    ∃ W : Nat → Nat → Hp → Prop, (∃ m, W 0 m (upd H0 D (.dK []))) ∧ ∀ i m H, W i m H →
      (J.stop i H ∧ Fin H) ∨ (J.go i H ∧ ∃ N : Hp → Prop, (∀ H', N H' → ∃ m', m' < m ∧ W (i + 1) m' H') ∧ ∀ x H', J.yld i H x H' → g x (wipe σ vs) H' fun σ2 H2 => wipe σ2 vs = wipe σ vs ∧ t σ2 H2 fun b H3 =>
        if b = true then tk σ2 H3 fun y H4 => tv σ2 H4 fun z H5 => ∃ kvs k, y = kV k ∧ H5 D = some (.dK kvs) ∧ kvs.length < sizeLine ∧ N (upd H5 D (.dK (putK kvs k z))) else N H3) :=
  ⟨fun i m H => i + m = n ∧ P i H, ⟨n, by omega, start⟩, fun i m H ⟨hm, p⟩ => by
    have q := good i H (by omega) p
    cases m with
    | zero =>
      obtain rfl : i = n := by omega
      exact .inl ⟨w.stops H q, last H p⟩
    | succ m =>
      have hi : i < n := by omega
      exact .inr ⟨w.goes i H hi q, P (i + 1), fun H' p' => ⟨m, by omega, by omega, p'⟩, fun x H' y => step i x H H' hi p (w.yields i H x H' hi q y)⟩⟩
/-- a statement run when a dict that was locked is let go: for a raise that leaves the loop -/
def tUnl (d : Addr) (t : TS) : TS := fun D σ H => ∃ od kvs, H d = some (.frz od (.dK kvs)) ∧ t D σ (upd H d (.dK kvs))
theorem ps_unl {X : Cx} {d : Addr} {st : Stmt} {t : TS} (hn : ∀ o u, X.H_0 d ≠ some (.frz o u)) (h : PS X st t) : PS X st (tUnl d t) :=
  ⟨fun pins s σ H D I ⟨_, _, hd, q⟩ => h.run pins s σ _ D (I.unlock hd hn) q⟩
end MxI
end

section
set_option Elab.async false
set_option linter.all false
set_option maxRecDepth 100000
set_option maxHeartbeats 4000000
namespace K50
open PySem PySem.Spec PyProof.Rows L2 He Cn Evl DtU RpV RpD SqI ExT LcS
abbrev Kvs := List (L2.Key × V)
theorem ScV.leaf {v : V} (h : ScV v) : isLeaf v = true := by
  rcases h with rfl | ⟨b, rfl⟩ | ⟨i, rfl, hi⟩ | ⟨s, rfl, h1, h2⟩
  · rfl
  · rfl
  · show leafB (.int i) = true
    unfold leafB
    exact decide_eq_true hi
  · show (decide (s.length ≤ 100) && loS s) = true
    rw [decide_eq_true (by omega), h2]
    rfl
/-- a value that is data of n levels -/
def DvN (G : Hp) (n : Nat) (v : V) : Prop := ∃ d, Du G v d ∧ Val n d
theorem DvN.ex {G H : Hp} {n : Nat} {v : V} (e : Ex G H) (h : DvN G n v) : DvN H n v := by
  obtain ⟨d, h1, h2⟩ := h
  exact ⟨d, h1.ex e, h2⟩
theorem ScV.dv {G : Hp} {n : Nat} {v : V} (h : ScV v) : DvN G n v := ⟨_, .leaf h.leaf, .leaf (isLeaf_ok h.leaf)⟩
theorem dvs {G : Hp} {n : Nat} : ∀ {xs : List V}, (∀ x, x ∈ xs → DvN G n x) → ∃ ds : List PyData, Pz G xs ds ∧ ∀ d, d ∈ ds → Val n d
  | [], _ => ⟨[], ⟨rfl, (fun i x d h _ => by simp at h)⟩, fun d h => nomatch h⟩
  | x :: r, h => by
    obtain ⟨d, a1, a2⟩ := h x (List.mem_cons_self ..)
    obtain ⟨ds, ⟨b1, b2⟩, b3⟩ := dvs (xs := r) fun y hy => h y (List.mem_cons_of_mem _ hy)
    refine ⟨d :: ds, ⟨by rw [List.length_cons, List.length_cons, b1], fun i y e hy he => ?_⟩, fun e he => ?_⟩
    · cases i with
      | zero =>
        obtain rfl : x = y := by simpa using hy
        obtain rfl : d = e := by simpa using he
        exact a1
      | succ i => exact b2 i y e (by simpa using hy) (by simpa using he)
    · rcases List.mem_cons.mp he with q | q
      · rw [q]; exact a2
      · exact b3 e q
theorem dv_lst {G : Hp} {n : Nat} {a : Addr} {xs : List V} (h : G a = some (.lst xs)) (hx : ∀ x, x ∈ xs → DvN G n x) (hl : xs.length ≤ 3) : DvN G (n + 1) (.ref a) := by
  obtain ⟨ds, ⟨b1, b2⟩, b3⟩ := dvs hx
  exact ⟨_, .lst h b1 b2, .lst b3 (by omega)⟩
theorem dv_tup {G : Hp} {n : Nat} {a : Addr} {xs : List V} (h : G a = some (.tup xs)) (hx : ∀ x, x ∈ xs → DvN G n x) (hl : xs.length ≤ 3) : DvN G (n + 1) (.ref a) := by
  obtain ⟨ds, ⟨b1, b2⟩, b3⟩ := dvs hx
  exact ⟨_, .tup h b1 b2, .tup b3 (by omega)⟩
/-- a text that is a small key -/
def smS (z : Str) : Prop := z.length ≤ 40 ∧ loS z = true
theorem smS.leaf {z : Str} (h : smS z) : leafB (.str z) = true := by
  show (decide (z.length ≤ 100) && loS z) = true
  rw [decide_eq_true (by have := h.1; omega), h.2]
  rfl
/-- entries with small texts as keys, each once -/
def SmK (kvs : Kvs) : Prop := (∀ p, p ∈ kvs → ∃ z, p.1 = .inr z ∧ smS z) ∧ (kvs.map (·.1)).Nodup
theorem nd_put {kvs : Kvs} {k : L2.Key} {v : V} (h : (kvs.map (·.1)).Nodup) : ((putK kvs k v).map (·.1)).Nodup := by
  unfold putK
  by_cases q : (kvs.any fun kv => decide (kv.1 = k)) = true
  · rw [if_pos q, List.map_map]
    have : ((fun x : L2.Key × V => x.1) ∘ fun kv : L2.Key × V => if kv.1 = k then (kv.1, v) else kv) = fun x => x.1 := by
      funext x
      show (if x.1 = k then (x.1, v) else x).1 = x.1
      split <;> rfl
    rw [this]
    exact h
  · rw [if_neg q, List.map_append]
    refine List.nodup_append.mpr ⟨h, by simp, fun a ha b hb e => q ?_⟩
    obtain ⟨p, hp, e2⟩ := List.mem_map.mp ha
    rw [List.any_eq_true]
    have hb : b = k := by simpa using hb
    exact ⟨p, hp, decide_eq_true (by rw [e2, e, hb])⟩
theorem putK_mem {kvs : Kvs} {k k' : L2.Key} {v x : V} (h : (k', x) ∈ putK kvs k v) : (k', x) ∈ kvs ∨ (k' = k ∧ x = v) := by
  unfold putK at h
  by_cases q : (kvs.any fun kv => decide (kv.1 = k)) = true
  · rw [if_pos q] at h
    obtain ⟨p, hp, e⟩ := List.mem_map.mp h
    by_cases z : p.1 = k
    · rw [if_pos z] at e
      injection e with e1 e2
      exact .inr ⟨by rw [← e1, z], e2.symm⟩
    · rw [if_neg z] at e
      rw [← e]
      exact .inl hp
  · rw [if_neg q] at h
    rcases List.mem_append.mp h with q | q
    · exact .inl q
    · have := List.mem_singleton.mp q
      injection this with e1 e2
      exact .inr ⟨e1, e2⟩
theorem SmK.put {kvs : Kvs} {z : Str} {v : V} (h : SmK kvs) (hz : smS z) : SmK (putK kvs (.inr z) v) := by
  refine ⟨fun p hp => ?_, nd_put h.2⟩
  obtain ⟨k, x⟩ := p
  rcases putK_mem hp with q | ⟨q, _⟩
  · exact h.1 _ q
  · exact ⟨z, q, hz⟩
theorem fst_zip {α β γ : Type} {f : α → β} : ∀ {l : List α} {m : List γ}, l.length = m.length → ((l.map f).zip m).map Prod.fst = l.map f
  | [], [], _ => rfl
  | [], _ :: _, h => by cases h
  | _ :: _, [], h => by cases h
  | a :: l, b :: m, h => by
    rw [List.map_cons, List.zip_cons_cons, List.map_cons, fst_zip (by simpa using h)]
theorem dv_dct {G : Hp} {n : Nat} {a : Addr} {kvs : Kvs} (h : G a = some (.dK kvs)) (hk : SmK kvs) (hx : ∀ p, p ∈ kvs → DvN G n p.2) (hl : kvs.length ≤ 3) : DvN G (n + 1) (.ref a) := by
  obtain ⟨ds, ⟨b1, b2⟩, b3⟩ := dvs (G := G) (n := n) (xs := kvs.map Prod.snd) fun x hx' => by
    obtain ⟨p, hp, rfl⟩ := List.mem_map.mp hx'
    exact hx p hp
  rw [List.length_map] at b1
  refine ⟨.dict ((kvs.map fun p => keyD p.1).zip ds), .dct h (fst_zip b1) fun i x d hx hd => ?_, .dct (fun d hd => ?_) ?_ (fun d hd => ?_) (by rw [List.length_zip, List.length_map]; omega)⟩
  · rw [List.getElem?_zip_eq_some] at hd
    exact b2 i x.2 d.2 (by rw [List.getElem?_map, hx]; rfl) hd.2
  · have := (List.of_mem_zip (a := d.1) (b := d.2) hd).1
    obtain ⟨p, hp, e⟩ := List.mem_map.mp this
    obtain ⟨z, q1, q2⟩ := hk.1 p hp
    have ez : d.1 = .str z := by rw [← e, q1]; rfl
    exact ⟨z, ez, by rw [ez]; exact q2.leaf⟩
  · rw [fst_zip b1]
    have := hk.2
    clear hk hx hl b1 b2 h
    induction kvs with
    | nil => exact List.nodup_nil
    | cons p r ih =>
      obtain ⟨n1, n2⟩ := List.nodup_cons.mp this
      refine List.nodup_cons.mpr ⟨fun q => n1 ?_, ih n2⟩
      obtain ⟨y, hy, e⟩ := List.mem_map.mp q
      exact List.mem_map.mpr ⟨y, hy, keyD_inj e⟩
  · exact b3 _ (List.of_mem_zip (a := d.1) (b := d.2) hd).2
theorem one_sm {z : Str} {j : Nat} {c : Nat} (hz : loS z = true) (h : z.cps.toList[j]? = some c) : loS ⟨#[c]⟩ = true := by
  unfold loS at hz ⊢
  have := List.all_eq_true.mp hz c (List.mem_of_getElem? h)
  simpa using this
theorem loS_app {a b : Str} (ha : loS a = true) (hb : loS b = true) : loS (a ++ b) = true := by
  unfold loS at *
  rw [List.all_eq_true] at *
  intro c hc
  have hc : c ∈ (a.cps ++ b.cps).toList := hc
  rw [Array.toList_append, List.mem_append] at hc
  exact hc.elim (ha c) (hb c)
theorem key2_sm {z y : Str} {c e : Nat} {i j : Nat} (hz : loS z = true) (hy : loS y = true) (h1 : z.cps.toList[i]? = some c) (h2 : y.cps.toList[j]? = some e) : smS ((⟨#[c]⟩ : Str) ++ ⟨#[e]⟩) :=
  ⟨by show (#[c] ++ #[e] : Array Nat).size ≤ 40; simp, loS_app (one_sm hz h1) (one_sm hy h2)⟩
theorem at_nat {α : Type} {l : List α} {r : Int} (h0 : 0 ≤ r) (h1 : r < l.length) : ∃ (j : Nat) (c : α), l[j]? = some c ∧ atI l r = some c := by
  obtain ⟨j, rfl⟩ : ∃ j : Nat, r = (j : Int) := ⟨r.toNat, by omega⟩
  obtain ⟨c, hc⟩ := at_some (l := l) (i := j) (by omega)
  refine ⟨j, c, hc, ?_⟩
  unfold atI
  rw [ixN_nat (by omega)]
  exact hc
end K50
end

section
set_option Elab.async false
set_option linter.all false
set_option maxRecDepth 100000
set_option maxHeartbeats 4000000
namespace K50
open PySem PySem.Spec PyProof.Rows L2 He Cn Evl DtU RpV RpD SqI ExT LcS
section
variable {P : Program} {w : World} {K : PySem.W.Frag} {mg : Str → Option Value} {base : Heap}
def dc : Nat → Nat
  | 0 => 3
  | n + 1 => 5 + 3 * dc n
def spValue (n : Nat) : Sp := fun vs H Q _ => ∃ (d c g : Addr) (sp : Int), vs = [.ref d, .int (n : Int)] ∧ MAt H d c g sp ∧ 0 ≤ sp ∧ sp + (dc n : Int) ≤ 390000 ∧ DrQ d c g (dc n : Int) sp H (fun v H' => DvN (nw H H') n v) Q
theorem nwD_fr {H H2 H3 : Hp} {d c g D : Addr} {sp : Int} (M : MAt H d c g sp) (f1 : ∀ b o, H2 b = some o → b ≠ D → b ≠ d → b ≠ g → H3 b = some o) : Ex (nwD H D H2) (nwD H D H3) := fun b o h => by
  obtain ⟨nb, h⟩ := wo_some h
  obtain ⟨h1, h2⟩ := nw_some h
  obtain ⟨n1, n2, _⟩ := mat_nd M h1
  show wo (nw H H3) D b = some o
  rw [wo_ne nb]
  exact nw_at h1 (f1 b o h2 nb n1 n2)
theorem nwD_nw {H H2 : Hp} {D : Addr} : Ex (nwD H D H2) (nw H H2) := fun b o h => (wo_some h).2
theorem nw_nwD' {H H2 : Hp} {D : Addr} (h : H2 D = none) : Ex (nw H H2) (nwD H D H2) := fun b o q => by
  obtain ⟨q1, q2⟩ := nw_some q
  have nb : b ≠ D := fun e => by rw [e, h] at q2; cases q2
  show wo (nw H H2) D b = _
  rw [wo_ne nb]
  exact q
theorem nw_fr {H0 H1 H2 H3 : Hp} {d c g D : Addr} {sp : Int} (M : MAt H0 d c g sp) (f : ∀ b, H1 b = none → H0 b = none) (hD : H1 D ≠ none) (e : ∀ b o, H2 b = some o → b ≠ D → b ≠ d → b ≠ g → H3 b = some o) : Ex (nw H1 H2) (nwD H0 D H3) := fun b o q => by
  obtain ⟨q1, q2⟩ := nw_some q
  have nb : b ≠ D := fun z => hD (by rw [← z]; exact q1)
  obtain ⟨n1, n2, _⟩ := mat_nd M (f b q1)
  show wo (nw H0 H3) D b = _
  rw [wo_ne nb]
  exact nw_at (f b q1) (e b o q2 nb n1 n2)
theorem can_value0 (T : Txt K mg) : Can P w K mg base CX0 4 "_law_value" ["m", "deep"] (spValue 0) := by
  have CD : Can P w K mg base CX0 2 "_law_draw" ["m", "top"] spDraw := can_draw T
  have CS : Can P w K mg base CX0 3 "_law_scalar" ["m"] spScalar := can_scalar T
  refine can_of T.g__law_value T.F__law_value (fun fd F => ?_) (fun _ _ _ _ _ _ us hl => match us, hl with | [_, _], _ => rfl)
  refine F.ok sc__law_value (fun vs H Q E h => ?_) (fun cdv A outer s H vs Q E hr h => ?_)
  · obtain ⟨d, c, g, sp, rfl, _⟩ := h
    rfl
  · obtain ⟨d, c, g, sp, rfl, M, h0, h1, fin⟩ := h
    have nd := sc__law_value.nd
    refine ⟨_, pss_cons (ps_set (i := 2) nd rfl (.inl rfl) (pe_ifExp (pt_cmpR op_gt (pv 1) pe_int (nomark _)) (pe_can CD hr pass0 (pa_cons (pv 0) (pa_cons pe_int pa_nil))) pe_int))
      (pss_cons (ps_if (pt_cmpR op_lt (pv 2) pe_int (nomark _)) (pss_one (ps_ret (pe_can CS hr pass0 (pa_cons (pv 0) pa_nil)))) pss_nil)
      (⟨fun _ _ _ _ _ _ (h : False) => h.elim⟩ : PSs _ _ (fun _ _ _ => False))), ?_⟩
    refine q_asg (ev_if (b := false) (et_test (ev_op (ev_var rfl) ev_c rv_I0)) (fun h => by cases h) fun _ => ev_c) fun H1 e1 => ?_
    refine q_when (b := true) (et_test (ev_op (ev_var rfl) ev_c rv_I0)) (fun _ H2 e2 => ?_) (fun h => by cases h)
    exact ⟨_, rfl, d, c, g, sp, rfl, mat_ex (e1.trans e2) M, h0, by have : (dc 0 : Int) = 3 := rfl; omega, fun v H3 sp' a1 a2 M3 f3 hv => fin v H3 sp' a1 (by show sp' ≤ sp + 3; omega) M3 (Fr2.trans (Fr2.of (e1.trans e2)) f3) hv.dv⟩
theorem value_step {n : Nat} (T : Txt K mg) (CV : Can P w K mg base CX0 (n + 4) "_law_value" ["m", "deep"] (spValue n)) : Can P w K mg base CX0 (n + 5) "_law_value" ["m", "deep"] (spValue (n + 1)) := by
  have CD : Can P w K mg base CX0 2 "_law_draw" ["m", "top"] spDraw := can_draw T
  have CS : Can P w K mg base CX0 3 "_law_scalar" ["m"] spScalar := can_scalar T
  refine can_of T.g__law_value T.F__law_value (fun fd F => ?_) (fun _ _ _ _ _ _ us hl => match us, hl with | [_, _], _ => rfl)
  refine F.ok sc__law_value (fun vs H Q E h => ?_) (fun cdv A outer s H vs Q E hr h => ?_)
  · obtain ⟨d, c, g, sp, rfl, _⟩ := h
    rfl
  · obtain ⟨d, c, g, sp, rfl, M, h0, h1, fin⟩ := h
    have nd := sc__law_value.nd
    have hu : (A.deeper (envOfC "_law_value" (defScope s__law_value) s.heap.objs.size (ga K "_law_value") cdv)).units + 1 < cLine := Nat.lt_of_le_of_lt (Nat.add_le_add_left (by decide) _) hr.units
    have hdc : (dc (n + 1) : Int) = 5 + 3 * (dc n : Int) := by show ((5 + 3 * dc n : Nat) : Int) = _; omega
    have hdc3 : (3 : Int) ≤ (dc n : Int) := by cases n <;> (show (3 : Int) ≤ ((_ : Nat) : Int)) <;> simp [dc] <;> omega
    refine ⟨_, pss_cons (ps_set (i := 2) nd rfl (.inl rfl) (pe_ifExp (pt_cmpR op_gt (pv 1) pe_int (nomark _)) (pe_can CD hr pass0 (pa_cons (pv 0) (pa_cons pe_int pa_nil)) (hjk := by omega)) pe_int))
      (pss_cons (ps_if (pt_cmpR op_lt (pv 2) pe_int (nomark _)) (pss_one (ps_ret (pe_can CS hr pass0 (pa_cons (pv 0) pa_nil) (hjk := by omega)))) pss_nil)
      (pss_cons (ps_setLc (i := 4) (own := [("n", 3)]) (wi := iRng1 (tCons (tCall spDraw [] E0 (tCons (tVar 0) (tCons (tC (.int 4)) tNil))) tNil)) (g := gName 3) (tt := tYes) (te := tCall (spValue n) [] E0 (tCons (tVar 0) (tCons (tOp (rI0 fun i j => .int (i - j)) (tVar 1) (tC (.int 1))) tNil))) rfl nd rfl rfl (sw_true rfl rfl rfl (by decide +kernel)) (pi_range1 rfl T.n_range (pa_cons (pe_can CD hr pass0 (pa_cons (pv 0) (pa_cons pe_int pa_nil)) (hjk := by omega)) pa_nil)) (blkOk_by (N := ["m", "deep", "way", "n", "things", "found", "part"]) (sc := defScope s__law_value) (by decide +kernel)) (fun _ _ _ _ _ => pg_name (i := 3) nd rfl (.inl rfl)) (fun _ _ _ _ _ => pts_nil) (fun _ _ _ _ _ => pe_can CV hr pass0 (pa_cons (pv 0) (pa_cons (pe_op op_sub (pv 1) pe_int) pa_nil)) (hjk := by omega)))
      (pss_cons (ps_if (pt_cmpR op_eq (pv 2) pe_int (nomark _)) (pss_one (ps_ret (pv 4))) pss_nil)
      (pss_cons (ps_if (pt_cmpR op_eq (pv 2) pe_int (nomark _)) (pss_one (ps_ret (pe_callTy call_tuple_of (by rfl) T.n_tuple (by decide +kernel) (pa_cons (pv 4) pa_nil)))) pss_nil)
      (pss_cons (ps_set (i := 5) nd rfl (.inl rfl) pe_dnewK)
      (pss_cons (ps_for PassesOwn.never rfl (pi_enum (by rfl) T.n_enumerate (pa_cons (pv 4) pa_nil)) (pg_tup rfl (pgs_cons (pg_name (i := 3) nd rfl (.inl rfl)) (pgs_cons (pg_name (i := 6) nd rfl (.inl rfl)) pgs_nil)))
        (pss_one (ps_dput (by exact hu) (pv 5) (pe_op op_add_str (pe_ix ix_str pe_str (pe_can CD hr pass0 (pa_cons (pv 0) (pa_cons pe_int pa_nil)) (hjk := by omega)) (fun _ _ => rfl)) (pe_ix ix_str pe_str (pe_op op_mod (pv 3) pe_int) (fun _ _ => rfl))) (pv 6) rfl)))
      (pss_one (ps_ret (pv 5))))))))), ?_⟩
    refine q_asgE ?_
    refine ⟨_, rfl, ((n + 1 : Nat) : Int), 0, rfl, rfl, true, (by simp), ?_⟩
    refine ⟨_, rfl, d, c, g, sp, 7, rfl, M, h0, by omega, by decide, by decide, fun r H1 r0 r1 M1 f1 => ?_⟩
    refine q_when (b := decide (r < 4)) (et_test (ev_op (ev_var rfl) ev_c rv_I0)) (fun _ H2 e2 => ?_) (fun hb H2 e2 => ?_)
    · exact ⟨_, rfl, d, c, g, sp + 1, rfl, mat_ex e2 M1, by omega, by omega, fun v H3 sp' a1 a2 M3 f3 hv => fin v H3 sp' (by omega) (by omega) M3 (Fr2.trans (Fr2.ex f1 e2) f3) hv.dv⟩
    have M2 := mat_ex e2 M1
    have f02 : Fr2 d g H H2 := Fr2.ex f1 e2
    refine q_asgE ?_
    refine ⟨_, rfl, d, c, g, sp + 1, 4, rfl, M2, by omega, by omega, by decide, by decide, fun q H3 q0 q1 M3 f3 => ⟨q, rfl, by omega, by omega, fun Dl hD => ?_⟩⟩
    obtain ⟨cnt, rfl⟩ : ∃ n : Nat, q = (n : Int) := ⟨q.toNat, by omega⟩
    have f03 : Fr2 d g H H3 := Fr2.trans f02 f3
    obtain ⟨D1, D2, D3⟩ := mat_nd M3 hD
    have hDH : H Dl = none := fr2_fresh f03 M3 hD
    rw [Int.toNat_natCast]
    refine lc_range (lo := 0) (n := cnt) (fun i H' => ∃ (acc : List V) (sp' : Int), H' Dl = some (.lst acc) ∧ (acc.length = i ∧ ∀ x, x ∈ acc → DvN (nwD H Dl H') n x) ∧ MAt H' d c g sp' ∧ sp + 2 ≤ sp' ∧ sp' ≤ sp + 2 + (dc n : Int) * (i : Int) ∧ Fr2 d g H H') ⟨[], sp + 2, upd_same, ⟨rfl, fun x hx => by cases hx⟩, by have := mat_put (u := .lst []) D1 D2 D3 M3; rwa [show sp + 2 = sp + 1 + 1 by omega], by omega, by omega, Fr2.ex f03 (Ex.new hD)⟩ ?_ ?_
    · rintro i H' hi ⟨acc, sp', k1, ⟨k2, kS⟩, M', k3, k4, k5⟩
      refine ⟨rfl, LcS.yesT ?_⟩
      have hmul : (dc n : Int) * (i : Int) ≤ (dc n : Int) * 2 := Int.mul_le_mul_of_nonneg_left (by omega) (by omega)
      refine ⟨_, rfl, _, rfl, ((n + 1 : Nat) : Int), 1, rfl, rfl, ?_⟩
      refine ⟨d, c, g, sp', by show [V.ref d, V.int (((n + 1 : Nat) : Int) - 1)] = _; rw [show ((n + 1 : Nat) : Int) - 1 = (n : Int) by omega], M', by omega, by omega, fun v H4 sp'' a1 a2 M4 f4 hv => ?_⟩
      have k6 := f4 _ _ k1 D1 D2
      exact ⟨acc, k6, sz_lt (by omega), acc ++ [v], sp'', upd_same, ⟨by rw [List.length_append, k2]; rfl, fun x hx => (List.mem_append.mp hx).elim (fun q => (kS x q).ex (nwD_fr M fun b o h n0 n1 n2 => by rw [upd_ne n0]; exact f4 b o h n1 n2)) fun q => by rw [List.mem_singleton.mp q]; exact hv.ex (nw_fr M (fun b hb => fr2_fresh k5 M' hb) (by rw [k1]; simp) fun b o h n0 _ _ => by rw [upd_ne n0]; exact h)⟩, mat_put D1 D2 D3 M4, by omega, (by rw [show ((i + 1 : Nat) : Int) = (i : Int) + 1 by omega, Int.mul_add]; omega), fun b o hb hb1 hb2 => by rw [upd_ne (ne_of_none hb hDH)]; exact Fr2.trans k5 f4 b o hb hb1 hb2⟩
    rintro H' ⟨acc, sp', k1, ⟨k2, kS⟩, M', k3, k4, k5⟩
    have hmul : (dc n : Int) * (cnt : Int) ≤ (dc n : Int) * 3 := Int.mul_le_mul_of_nonneg_left (by omega) (by omega)
    have hdt : ∀ {H5 : Hp}, Ex H' H5 → DvN (nw H H5) (n + 1) (.ref Dl) := fun e => dv_lst (nw_at hDH (e _ _ k1)) (fun x hx => (kS x hx).ex fun b o h => nw_up e _ _ (nwD_nw _ _ h)) (by omega)
    refine q_when (b := decide (r = 4)) (et_is (et_test (ev_op (ev_var rfl) ev_c (rv_eq rfl))) (by simp)) (fun _ H4 e4 => ?_) (fun _ H4 e4 => ?_)
    · exact s_ret (ev_var rfl) fun H5 e5 => fin _ H5 sp' (by omega) (by omega) (mat_ex (e4.trans e5) M') (Fr2.ex k5 (e4.trans e5)) (hdt (e4.trans e5))
    refine q_when (b := decide (r = 5)) (et_is (et_test (ev_op (ev_var rfl) ev_c (rv_eq rfl))) (by simp)) (fun _ H5 e5 => ?_) (fun _ H5 e5 => ?_)
    · have e45 := e4.trans e5
      refine ⟨_, rfl, Dl, acc, rfl, .inl ⟨sq_of (e45 _ _ k1), fun m hm => ?_⟩⟩
      have e6 : Ex H5 (upd H5 m (.tup acc)) := Ex.new hm
      have hmH : H m = none := fr2_fresh (Fr2.ex k5 e45) (mat_ex e45 M') hm
      exact fin _ _ sp' (by omega) (by omega) (mat_ex (e45.trans e6) M') (Fr2.ex k5 (e45.trans e6)) (dv_tup (nw_at hmH upd_same) (fun x hx => (kS x hx).ex fun b o h => nw_up (e45.trans e6) _ _ (nwD_nw _ _ h)) (by omega))
    have e45 := e4.trans e5
    refine q_asgE fun fd' hfd => ?_
    have M5 := mat_ex e45 M'
    obtain ⟨E1, E2, E3⟩ := mat_nd M5 hfd
    have hfH : H fd' = none := fr2_fresh (Fr2.ex k5 e45) M5 hfd
    have hfD : Dl ≠ fd' := ne_of_none (e45 _ _ k1) hfd
    have e6 : Ex H5 (upd H5 fd' (.dK [])) := Ex.new hfd
    refine ⟨_, rfl, Dl, acc, rfl, sq_of (e6 _ _ (e45 _ _ k1)), for_it walk_enum (fun i σ' H6 => ∃ (v3 v6 : Option V) (kvs : Kvs) (sp'' : Int), σ' = [some (.ref d), some (.int ((n + 1 : Nat) : Int)), some (.int r), v3, some (.ref Dl), some (.ref fd'), v6] ∧ H6 Dl = some (.lst acc) ∧ H6 fd' = some (.dK kvs) ∧ kvs.length ≤ i ∧ SmK kvs ∧ (∀ p, p ∈ kvs → DvN (nwD H fd' H6) n p.2) ∧ MAt H6 d c g sp'' ∧ sp' ≤ sp'' ∧ sp'' ≤ sp' + (i : Int) ∧ Fr2 d g H H6 ∧ Fr2 d g H5 H6)
      ⟨_, _, [], sp', rfl, e6 _ _ (e45 _ _ k1), upd_same, Nat.le_refl _, ⟨(fun p h => nomatch h), List.nodup_nil⟩, (fun p h => nomatch h), mat_ex e6 M5, by omega, by omega, Fr2.ex k5 (e45.trans e6), Fr2.of e6⟩ (fun i σ' H6 _ ⟨_, _, _, _, _, q, _⟩ => sq_of q) ?_ ?_⟩
    · rintro i x σ' H6 H7 hi ⟨v3, v6, kvs, sp'', rfl, b1, b2, b3, b4, b5, M6, b6, b7, f6, f56⟩ ⟨Tp, y, z, rfl, hT, rfl, hy, hz⟩
      obtain rfl := Option.some.inj hy
      have e7 : Ex H6 (upd H6 Tp (.tup [.int (i : Nat), z])) := Ex.new hT
      have hzs0 := kS z (List.mem_of_getElem? hz)
      refine ⟨Tp, _, rfl, st_of upd_same, rfl, _, _, rfl, _, _, rfl, rfl, ?_⟩
      refine ⟨_, rfl, _, rfl, ?_⟩
      refine ⟨_, rfl, d, c, g, sp'', 4, rfl, mat_ex e7 M6, by omega, by omega, by decide, by decide, fun u H8 u0 u1 M8 f8 => ?_⟩
      obtain ⟨j1, c1, hc1, ha1⟩ := at_nat (l := ("abcd" : Str).cps.toList) u0 u1
      have hi2 : (0 : Int) ≤ (i : Int) % 2 ∧ (i : Int) % 2 < 2 := by omega
      obtain ⟨j2, c2, hc2, ha2⟩ := at_nat (l := ("xy" : Str).cps.toList) hi2.1 hi2.2
      refine ⟨_, _, c1, rfl, rfl, by decide +kernel, ha1, ?_⟩
      refine ⟨_, rfl, (i : Int), 2, rfl, rfl, (by show (0 : Int) < 2; decide), ?_⟩
      refine ⟨_, _, c2, rfl, rfl, by decide +kernel, ha2, ?_⟩
      refine ⟨_, _, rfl, rfl, (by show 1 + 1 ≤ sizeLine; decide), ?_⟩
      have f08 : Fr2 d g H6 H8 := Fr2.trans (Fr2.of e7) f8
      have b2' := f08 _ _ b2 E1 E2
      have hk := key2_sm (by decide +kernel) (by decide +kernel) hc1 hc2
      refine ⟨fd', _, rfl, DPut.k (k := .inr _) b2' (sz_lt (by omega)), ?_⟩
      refine ⟨_, _, _, sp'' + 1, rfl, ?_, upd_same, Nat.le_trans (length_putK ..) (by omega), b4.put hk, fun p hp => ?_, mat_put E1 E2 E3 M8, by omega, by omega, ?_⟩
      · rw [upd_ne hfD]
        exact f08 _ _ b1 D1 D2
      · obtain ⟨k, v⟩ := p
        rcases putK_mem hp with q | ⟨_, q⟩
        · exact (b5 _ q).ex (nwD_fr M fun b o h n0 n1 n2 => by rw [upd_ne n0]; exact f08 b o h n1 n2)
        · rw [q]
          refine (hzs0.ex fun b o h => nw_up e45 _ _ (nwD_nw _ _ h)).ex fun b o h => nwD_fr M (fun b o h n0 n1 n2 => ?_) b o (nw_nwD' hfd b o h)
          rw [upd_ne n0]
          exact Fr2.trans f56 f08 b o h n1 n2
      · refine ⟨fun b o hb n1 n2 => ?_, fun b o hb n1 n2 => ?_⟩
        · rw [upd_ne (ne_of_none hb hfH)]
          exact Fr2.trans f6 f08 b o hb n1 n2
        · rw [upd_ne (ne_of_none hb hfd)]
          exact Fr2.trans f56 f08 b o hb n1 n2
    · rintro σ' H6 ⟨v3, v6, kvs, sp'', rfl, b1, b2, b3, b4, b5, M6, b6, b7, f6, f56⟩
      exact s_ret (ev_var rfl) fun H7 e7 => fin _ H7 sp'' (by omega) (by omega) (mat_ex e7 M6) (Fr2.ex f6 e7) (dv_dct (nw_at hfH (e7 _ _ b2)) b4 (fun p hp => (b5 p hp).ex fun b o h => nw_up e7 _ _ (nwD_nw _ _ h)) (by omega))

theorem can_value (T : Txt K mg) : ∀ n, Can P w K mg base CX0 (n + 4) "_law_value" ["m", "deep"] (spValue n)
  | 0 => can_value0 T
  | n + 1 => value_step T (can_value T n)
end
end K50
end

section
set_option Elab.async false
set_option linter.all false
set_option maxRecDepth 100000
set_option maxHeartbeats 4000000
namespace K50
open PySem PySem.Spec PyProof.Rows L2 He Cn Evl DtU RpV RpD SqI ExT LcS
section
variable {P : Program} {w : World} {K : PySem.W.Frag} {mg : Str → Option Value} {base : Heap}
theorem can_lsort (T : Txt K mg) : Can P w K mg base CX0 1 "_law_sort" ["part"] spSortD := by
  refine can_of T.g__law_sort T.F__law_sort (fun fd F => ?_) (fun _ _ _ _ _ _ us hl => match us, hl with | [_], _ => rfl)
  refine F.ok sc__law_sort (fun vs H Q E h => ?_) (fun cdv A outer s H vs Q E hr h => ?_)
  · obtain ⟨v, d, rfl, _⟩ := h
    rfl
  · obtain ⟨v, d, rfl, hd, fin⟩ := h
    refine ⟨_, (pss_cons (ps_if (PW.pt (pw_or (pt_cmp (pc_isN (pv 0))) (pw_or1 (pt_val (pe_callB call_isi (by rfl) T.n_isinstance (by decide +kernel) (pa_cons (pv 0) (pa_cons (pe_bltn rfl T.n_bool (v := .ty "bool") (by decide +kernel) rfl) pa_nil))))))) (pss_one (ps_ret (pe_ifExp (pt_cmp (pc_isN (pv 0))) pe_str pe_str))) pss_nil)
      (pss_cons (ps_if (PW.pt (pw_or (pt_val (pe_callB call_isi (by rfl) T.n_isinstance (by decide +kernel) (pa_cons (pv 0) (pa_cons (pe_bltn rfl T.n_int (v := .ty "int") (by decide +kernel) rfl) pa_nil)))) (pw_or1 (pt_val (pe_callB call_isi (by rfl) T.n_isinstance (by decide +kernel) (pa_cons (pv 0) (pa_cons (pe_bltn rfl T.n_str (v := .ty "str") (by decide +kernel) rfl) pa_nil))))))) (pss_one (ps_ret (pe_ifExp (pt_val (pe_callB call_isi (by rfl) T.n_isinstance (by decide +kernel) (pa_cons (pv 0) (pa_cons (pe_bltn rfl T.n_int (v := .ty "int") (by decide +kernel) rfl) pa_nil)))) pe_str pe_str))) pss_nil)
      (pss_cons (ps_if (PW.pt (pw_or (pt_val (pe_callB call_isi (by rfl) T.n_isinstance (by decide +kernel) (pa_cons (pv 0) (pa_cons (pe_bltn rfl T.n_tuple (v := .ty "tuple") (by decide +kernel) rfl) pa_nil)))) (pw_or1 (pt_val (pe_callB call_isi (by rfl) T.n_isinstance (by decide +kernel) (pa_cons (pv 0) (pa_cons (pe_bltn rfl T.n_list (v := .ty "list") (by decide +kernel) rfl) pa_nil))))))) (pss_one (ps_ret (pe_ifExp (pt_val (pe_callB call_isi (by rfl) T.n_isinstance (by decide +kernel) (pa_cons (pv 0) (pa_cons (pe_bltn rfl T.n_tuple (v := .ty "tuple") (by decide +kernel) rfl) pa_nil)))) pe_str pe_str))) pss_nil)
      (pss_one (ps_ret (pe_ifExp (pt_val (pe_callB call_isi (by rfl) T.n_isinstance (by decide +kernel) (pa_cons (pv 0) (pa_cons (pe_bltn rfl T.n_dict (v := .ty "dict") (by decide +kernel) rfl) pa_nil)))) pe_str pe_str)))))), ?_⟩
    refine q_when (b := decide (tyD d = "NoneType") || subB (tyD d) "bool") (et_or (et_is (et_isN (ev_var rfl)) (Du.non_ hd)) fun _ => et_B (ev_isB (c := "bool") (by decide) (ev_var rfl) hd)) (fun hb H1 e1 => ?_) fun b1 H1 e1 => ?_
    · refine s_ret (v := .str (sortD d)) (ev_to (ev_if (b := decide (tyD d = "NoneType")) (v := .str (sortD d)) (et_is (et_isN (ev_var rfl)) (Du.non_ (hd.ex e1))) (fun q => ?_) fun q => ?_) rfl) fun H2 e2 => fin H2 (e1.trans e2)
      · have : sortD d = "none" := by cases d <;> first | rfl | (simp [tyD] at q)
        rw [this]; exact ev_c
      · have : sortD d = "truth" := by cases d <;> first | rfl | (simp [subB, tyD] at q hb)
        rw [this]; exact ev_c
    have hd1 := hd.ex e1
    refine q_when (b := subB (tyD d) "int" || subB (tyD d) "str") (et_or (et_B (ev_isB (c := "int") (by decide) (ev_var rfl) hd1)) fun _ => et_B (ev_isB (c := "str") (by decide) (ev_var rfl) hd1)) (fun hb H2 e2 => ?_) fun b2 H2 e2 => ?_
    · refine s_ret (v := .str (sortD d)) (ev_to (ev_if (b := subB (tyD d) "int") (v := .str (sortD d)) (et_B (ev_isB (c := "int") (by decide) (ev_var rfl) (hd1.ex e2))) (fun q => ?_) fun q => ?_) rfl) fun H3 e3 => fin H3 ((e1.trans e2).trans e3)
      · have : sortD d = "integer" := by cases d <;> first | rfl | (simp [subB, tyD] at q b1)
        rw [this]; exact ev_c
      · have : sortD d = "text" := by cases d <;> first | rfl | (simp [subB, tyD] at q hb)
        rw [this]; exact ev_c
    have hd2 := hd1.ex e2
    have e02 := e1.trans e2
    refine q_when (b := subB (tyD d) "tuple" || subB (tyD d) "list") (et_or (et_B (ev_isB (c := "tuple") (by decide) (ev_var rfl) hd2)) fun _ => et_B (ev_isB (c := "list") (by decide) (ev_var rfl) hd2)) (fun hb H3 e3 => ?_) fun b3 H3 e3 => ?_
    · refine s_ret (v := .str (sortD d)) (ev_to (ev_if (b := subB (tyD d) "tuple") (v := .str (sortD d)) (et_B (ev_isB (c := "tuple") (by decide) (ev_var rfl) (hd2.ex e3))) (fun q => ?_) fun q => ?_) rfl) fun H4 e4 => fin H4 ((e02.trans e3).trans e4)
      · have : sortD d = "tuple" := by cases d <;> first | rfl | (simp [subB, tyD] at q)
        rw [this]; exact ev_c
      · have : sortD d = "list" := by cases d <;> first | rfl | (simp [subB, tyD] at q hb)
        rw [this]; exact ev_c
    have hdd : tyD d = "dict" := by cases d <;> first | rfl | (simp [subB, tyD] at b1; done) | (simp [subB, tyD] at b2; done) | (simp [subB, tyD] at b3; done)
    refine s_ret (v := .str (sortD d)) (ev_if (b := subB (tyD d) "dict") (et_B (ev_isB (c := "dict") (by decide) (ev_var rfl) (hd2.ex e3))) (fun q => ?_) fun q => ?_) fun H4 e4 => fin H4 ((e02.trans e3).trans e4)
    · have : sortD d = "dict" := by cases d <;> first | rfl | (simp [tyD] at hdd)
      rw [this]; exact ev_c
    · rw [hdd] at q; simp [subB] at q
end
end K50
end

section
set_option Elab.async false
set_option linter.all false
set_option maxRecDepth 100000
set_option maxHeartbeats 4000000
namespace K50
open PySem PySem.Spec PyProof.Rows L2 He Cn Evl DtU RpV RpD SqI ExT LcS
section
variable {P : Program} {w : World} {K : PySem.W.Frag} {mg : Str → Option Value} {base : Heap}
theorem rd_items4 {n : Nat} {spR : Sp} (R : RecP n spR) {H : Hp} {a : Addr} {xs : List V} {ds : List PyData} {z : Str} (hx : Its2 H a xs) (hz : Pz H xs ds) (hv : ∀ d, d ∈ ds → Val n d) (hl : ds.length ≤ 3) {Q : VK} (k : ∀ D ys H', Ex H H' → H' D = some (.lst ys) → Pz (nwD H D H') ys (plAll ds) → Q (.ref D) H') :
    tItems K spR [some (.ref a), some (.str z), none, none] H Q := by
  refine rd_lcSq (fun x => rfl) (ev_var rfl) hx (fun D i H' => ∃ ys, Ex H H' ∧ H D = none ∧ H' D = some (.lst ys) ∧ Pz (nwD H D H') ys ((ds.take i).map pl)) (fun D H1 e hD => ⟨[], e.trans (Ex.new hD), fresh_back e hD, upd_same, rfl, fun i x d p => by simp at p⟩) (fun D i H' p o q => p.choose_spec.1 _ _ q) ?_ ?_
  · rintro D i x H1 hxi ⟨ys, e1, hD0, hD, hy⟩
    obtain ⟨d, hdi⟩ : ∃ d, ds[i]? = some d := at_some (by have := (List.getElem?_eq_some_iff.mp hxi).1; rw [hz.1] at this; exact this)
    refine ⟨_, rfl, R x d H1 _ _ ((hz.2 i x d hxi hdi).ex e1) (hv d (List.mem_of_getElem? hdi)) fun u H2 e2 hu => ⟨ys, e2 _ _ hD, ?_, ys ++ [u], Ex.mut (e1.trans e2) hD0, hD0, upd_same, ?_⟩⟩
    · have := hy.1
      rw [List.length_map, List.length_take] at this
      exact sz_lt (by omega)
    · have et : (ds.take (i + 1)).map pl = (ds.take i).map pl ++ [pl d] := by
        rw [List.take_add_one, hdi]
        simp
      rw [et]
      have f : ∀ b o, H1 b = some o → b ≠ D → upd H2 D (.lst (ys ++ [u])) b = some o := fun b o h nb => by rw [upd_ne nb]; exact e2 _ _ h
      refine Pz.app ⟨hy.1, fun i x d p q => (hy.2 i x d p q).ex (nwD_step f)⟩ (show Pz _ [u] [pl d] from ⟨rfl, fun i x d' p q => ?_⟩)
      have hi : i = 0 := by
        have := (List.getElem?_eq_some_iff.mp p).1
        simp at this
        exact this
      subst hi
      obtain rfl : u = x := by simpa using p
      obtain rfl : pl d = d' := by simpa using q
      exact (hu.ex (nw_nwD (fun b hb => fresh_back e1 hb) (by rw [hD]; simp))).ex (nwD_step fun b o h nb => by rw [upd_ne nb]; exact h)
  · rintro D H1 ⟨ys, e1, hD0, hD, hy⟩
    rw [hz.1, List.take_length] at hy
    exact k D ys H1 e1 hD (by rw [plAll_map]; exact hy)
theorem rd_entries4 {n : Nat} {spR : Sp} (R : RecP n spR) {H : Hp} {a : Addr} {kvs : List (L2.Key × V)} {ds : List (PyData × PyData)} {z : Str} (hk : H a = some (.dK kvs)) (h2 : ds.map Prod.fst = kvs.map fun p => keyD p.1) (h3 : ∀ (i : Nat) (x : L2.Key × V) (d : PyData × PyData), kvs[i]? = some x → ds[i]? = some d → Du H x.2 d.2) (hlf : ∀ p, p ∈ ds → leafB p.1 = true) (hnd : (ds.map Prod.fst).Nodup)
    (hv : ∀ p, p ∈ ds → Val n p.2) (hl : ds.length ≤ 3) {Q : VK} (k : ∀ D ys H', Ex H H' → H' D = some (.lst ys) → Pz (nwD H D H') ys (plKv ds) → Q (.ref D) H') :
    tEntries spR [some (.ref a), some (.str z), none, none] H Q := by
  have hlen : kvs.length = ds.length := by have := congrArg List.length h2; simpa using this.symm
  have hself : Du H (.ref a) (.dict ds) := .dct hk h2 h3
  have ndk := nd_keys h2 hnd
  refine rd_lcKeys (fun x => rfl) hk (fun od => ev_var rfl) (fun od D i H' => ∃ ys, H' a = some (.frz od (.dK kvs)) ∧ (∀ b o, H b = some o → b ≠ a → H' b = some o) ∧ H D = none ∧ H' D = some (.lst ys) ∧ D ≠ a ∧ Pz (nwD H D H') ys ((ds.take i).map fun p => .list [p.1, pl p.2])) (fun od D H1 e hD => ?_) (fun od D i H' p => p.choose_spec.1) ?_ ?_
  · have hDa : D ≠ a := fun q => by rw [q, e _ _ upd_same] at hD; cases hD
    refine ⟨[], by rw [upd_ne hDa.symm]; exact e _ _ upd_same, fun b o h nb => ?_, ?_, upd_same, hDa, rfl, fun i x d p => by simp at p⟩
    · have h1 := e b o (by rw [upd_ne nb]; exact h)
      rw [upd_ne (ne_of_none h1 hD)]
      exact h1
    · have := fresh_back e hD
      rw [upd_ne hDa] at this
      exact this
  · rintro od D i kk v H1 hki ⟨ys, ha, f1, hD0, hD, hDa, hy⟩
    obtain ⟨⟨pk, pv_⟩, hdi⟩ : ∃ d, ds[i]? = some d := at_some (by have := (List.getElem?_eq_some_iff.mp hki).1; rw [hlen] at this; exact this)
    have hm := List.mem_of_getElem? hdi
    have ek : pk = keyD kk := by
      have e1 : (ds.map Prod.fst)[i]? = some pk := by rw [List.getElem?_map, hdi]; rfl
      rw [h2, List.getElem?_map, hki] at e1
      exact (Option.some.inj e1).symm
    have hdep : pv_.depth < (PyData.dict ds).depth := by
      have : pv_.depth ≤ PyData.depthKv ds := depth_kv hm
      show _ < PyData.depthKv ds + 1
      omega
    have eW : Ex (wo H a) H1 := fun b o h => by
      obtain ⟨nb, h⟩ := wo_some h
      exact f1 b o h nb
    have hdu : Du H1 v pv_ := ((hself.wo (h3 i (kk, v) (pk, pv_) hki hdi)) hdep).ex eW
    refine ⟨_, rfl, ?_⟩
    refine ev_datK (k := kk) (ev_var (v := .ref a) rfl) (ev_var rfl) (.inr ⟨od, ha⟩) (val_of ndk hki) H1 (Ex.refl _) _ fun H1' e1' => ?_
    refine R v pv_ H1' _ _ (hdu.ex e1') (hv _ hm) fun u H2 e2 hu => ⟨by show 2 ≤ sizeLine; decide, fun l hl' => ?_⟩
    have e12 := e1'.trans e2
    have e3 : Ex H2 (upd H2 l (.lst [kV kk, u])) := Ex.new hl'
    have l3 : upd H2 l (.lst [kV kk, u]) l = some (.lst [kV kk, u]) := upd_same
    generalize upd H2 l (.lst [kV kk, u]) = H3 at *
    have e13 := e12.trans e3
    have hD3 := e13 _ _ hD
    have hlH1 : H1 l = none := fresh_back e12 hl'
    have hlD : l ≠ D := (ne_of_none hD hlH1).symm
    have hla : l ≠ a := (ne_of_none ha hlH1).symm
    have hlH : H l = none := by
      cases q : H l with
      | none => rfl
      | some o => rw [f1 l o q hla] at hlH1; cases hlH1
    have newH : ∀ b, H1 b = none → H b = none := fun b hb => by
      cases q : H b with
      | none => rfl
      | some o =>
        by_cases nb : b = a
        · rw [nb, ha] at hb; cases hb
        · rw [f1 b o q nb] at hb; cases hb
    refine ⟨ys, hD3, ?_, ys ++ [.ref l], by rw [upd_ne hDa.symm]; exact e13 _ _ ha, fun b o h nb => ?_, hD0, upd_same, hDa, ?_⟩
    · have := hy.1
      rw [List.length_map, List.length_take] at this
      exact sz_lt (by omega)
    · have hbD : b ≠ D := ne_of_none h hD0
      rw [upd_ne hbD]
      exact e13 _ _ (f1 b o h nb)
    · have et : (ds.take (i + 1)).map (fun p => PyData.list [p.1, pl p.2]) = (ds.take i).map (fun p => PyData.list [p.1, pl p.2]) ++ [.list [pk, pl pv_]] := by
        rw [List.take_add_one, hdi]
        simp
      rw [et]
      have f : ∀ b o, H1 b = some o → b ≠ D → upd H3 D (.lst (ys ++ [.ref l])) b = some o := fun b o h nb => by rw [upd_ne nb]; exact e13 _ _ h
      refine Pz.app ⟨hy.1, fun i x d p q => (hy.2 i x d p q).ex (nwD_step f)⟩ (show Pz _ [V.ref l] [PyData.list [pk, pl pv_]] from ⟨rfl, fun i x d' p q => ?_⟩)
      have hi : i = 0 := by
        have := (List.getElem?_eq_some_iff.mp p).1
        simp at this
        exact this
      subst hi
      obtain rfl : V.ref l = x := by simpa using p
      obtain rfl : PyData.list [pk, pl pv_] = d' := by simpa using q
      have lG : nwD H D (upd H3 D (.lst (ys ++ [.ref l]))) l = some (.lst [kV kk, u]) := by
        show wo (nw H _) D l = _
        rw [wo_ne hlD]
        exact nw_at hlH (by rw [upd_ne hlD]; exact l3)
      refine .lst lG rfl fun j y e p q => ?_
      match j, p, q with
      | 0, p, q =>
        obtain rfl : kV kk = y := by simpa using p
        obtain rfl : pk = e := by simpa using q
        rw [ek]
        exact du_key (by rw [← ek]; exact hlf _ hm)
      | 1, p, q =>
        obtain rfl : u = y := by simpa using p
        obtain rfl : pl pv_ = e := by simpa using q
        have g1 : Du (nwD H D H2) u (pl pv_) := hu.ex (nw_nwD (fun b hb => newH b (fresh_back e1' hb)) (by rw [e1' _ _ hD]; simp))
        exact g1.ex (nwD_step fun b o h nb => by rw [upd_ne nb]; exact e3 _ _ h)
      | j + 2, p, _ => simp at p
  · rintro od D H1 ⟨ys, ha, f1, hD0, hD, hDa, hy⟩
    rw [hlen, List.take_length] at hy
    have e : Ex H (upd H1 a (.dK kvs)) := fun b o h => by
      by_cases nb : b = a
      · subst nb
        rw [upd_same]
        rw [hk] at h
        exact h
      · rw [upd_ne nb]
        exact f1 b o h nb
    have up : Ex (nwD H D H1) (nwD H D (upd H1 a (.dK kvs))) := fun b o h => by
      obtain ⟨nb, h⟩ := wo_some h
      obtain ⟨q1, q2⟩ := nw_some h
      show wo (nw H _) D b = _
      rw [wo_ne nb]
      refine nw_at q1 ?_
      rw [upd_ne (fun z => by rw [z, hk] at q1; cases q1)]
      exact q2
    exact k D ys _ e (by rw [upd_ne hDa]; exact hD) (by rw [plKv_map]; exact ⟨hy.1, fun i x d p q => (hy.2 i x d p q).ex up⟩)
end
end K50
end

section
set_option Elab.async false
set_option linter.all false
set_option maxRecDepth 100000
set_option maxHeartbeats 4000000
namespace K50
open PySem PySem.Spec PyProof.Rows L2 He Cn Evl DtU RpV RpD SqI ExT LcS
section
variable {P : Program} {w : World} {K : PySem.W.Frag} {mg : Str → Option Value} {base : Heap}
/-- [sort] + rows -/
theorem rd_cat {σ : L2.St} {H0 : Hp} {z : Str} {es : List PyData} {te : TE} {Q : VK} (hz : leafB (.str z) = true) (hσ : σ[1]? = some (some (.str z)))
    (ht : ∀ (H : Hp) (Q' : VK), Ex H0 H → (∀ D ys H1, Ex H H1 → H1 D = some (.lst ys) → Pz (nwD H D H1) ys es → Q' (.ref D) H1) → te σ H Q') (hl : es.length ≤ 1000) (k : ∀ l H', Ex H0 H' → Du (nw H0 H') (.ref l) (.list (.str z :: es)) → Q (.ref l) H') :
    tOp rCat (tLst (tCons (tVar 1) tNil)) te σ H0 Q := by
  refine ⟨_, hσ, sz_of (by simp), fun p hp => ?_⟩
  have e1 : Ex H0 (upd H0 p (.lst [V.str z])) := Ex.new hp
  have p1 : upd H0 p (.lst [V.str z]) p = some (.lst [V.str z]) := upd_same
  generalize upd H0 p (.lst [V.str z]) = H1 at *
  refine ht H1 _ e1 fun D ys H2 e2 hD hy => ?_
  have hl' := hy.1
  have e02 := e1.trans e2
  refine ⟨p, D, [V.str z], ys, rfl, rfl, e2 _ _ p1, hD, sz_of (by rw [List.length_singleton]; omega), fun l hl => ?_⟩
  have e3 : Ex H2 (upd H2 l (.lst ([V.str z] ++ ys))) := Ex.new hl
  refine k l _ (e02.trans e3) ?_
  have up : Ex (nwD H1 D H2) (nw H0 (upd H2 l (.lst ([V.str z] ++ ys)))) := fun b o q => by
    obtain ⟨_, q⟩ := wo_some q
    exact nw_low e1 _ _ (nw_up e3 _ _ q)
  refine .lst (xs := V.str z :: ys) (nw_at (fresh_back e02 hl) upd_same) (by rw [List.length_cons, List.length_cons, hy.1]) fun i x d p q => ?_
  cases i with
  | zero =>
    obtain rfl : V.str z = x := by simpa using p
    obtain rfl : PyData.str z = d := by simpa using q
    exact Du.str hz
  | succ i => exact (hy.2 i x d (by simpa using p) (by simpa using q)).ex up
theorem data_step {n j : Nat} {spR : Sp} (T : Txt K mg) (hj : j ≤ n + 2) (CR : Can P w K mg base CX0 j "_law_data" ["part"] spR) (RV : ∀ d, Val n d → leafB d = true ∨ ∃ m, RecP m spR ∧ (∀ ds, d = .list ds ∨ d = .tuple ds → ds.length ≤ 3 ∧ ∀ e, e ∈ ds → Val m e) ∧ ∀ ds, d = .dict ds → (∀ p, p ∈ ds → leafB p.1 = true) ∧ (ds.map Prod.fst).Nodup ∧ (∀ p, p ∈ ds → Val m p.2) ∧ ds.length ≤ 3) : Can P w K mg base CX0 (n + 3) "_law_data" ["part"] (spPlain n) := by
  have CS : Can P w K mg base CX0 1 "_law_sort" ["part"] spSortD := can_lsort T
  refine can_of T.g__law_data T.F__law_data (fun fd F => ?_) (fun _ _ _ _ _ _ us hl => match us, hl with | [_], _ => rfl)
  refine F.ok sc__law_data (fun vs H Q E h => ?_) (fun cdv A outer s H vs Q E hr h => ?_)
  · obtain ⟨v, d, rfl, _⟩ := h
    rfl
  · obtain ⟨v, d, rfl, hd, hv, fin⟩ := h
    have nd := sc__law_data.nd
    have hu : (A.deeper (envOfC "_law_data" (defScope s__law_data) s.heap.objs.size (ga K "_law_data") cdv)).units + 1 < cLine := Nat.lt_of_le_of_lt (Nat.add_le_add_left (by decide) _) hr.units
    refine ⟨_, pss_cons (ps_set (i := 1) nd rfl (.inl rfl) (pe_can CS hr pass0 (pa_cons (pv 0) pa_nil) (hjk := by omega)))
      (pss_cons (ps_if (PW.pt (pw_or (pt_cmpR op_eq (pv 1) pe_str (nomark _)) (pw_or1 (pt_cmpR op_eq (pv 1) pe_str (nomark _))))) (pss_one (ps_ret (pe_op op_cat (pe_lst (pa_cons (pv 1) pa_nil)) (pe_lc (own := [("thing", 2)]) (wi := iSeq K (tVar 0)) (g := gName 2) (tt := tYes) (te := tCall spR [] E0 (tCons (tVar 2) tNil)) rfl nd (pi_seq (pv 0)) (blkOk_by (N := ["part", "sort", "thing", "key"]) (sc := defScope s__law_data) (by decide +kernel)) (fun _ _ _ _ _ => pg_name (i := 2) nd rfl (.inl rfl)) (fun _ _ _ _ _ => pts_nil) (fun _ _ _ _ _ => pe_can CR hr pass0 (pa_cons (pv 2) pa_nil) (hjk := by omega)))))) pss_nil)
      (pss_cons (ps_if (pt_cmpR op_eq (pv 1) pe_str (nomark _)) (pss_one (ps_ret (pe_op op_cat (pe_lst (pa_cons (pv 1) pa_nil)) (pe_lock (pe_lc (own := [("key", 3)]) (wi := iKeys (tVar 0)) (g := gName 3) (tt := tYes) (te := tLst (tCons (tVar 3) (tCons (tCall spR [] E0 (tCons (tDGet (tVar 0) (tVar 3)) tNil)) tNil))) rfl nd (pi_keys (pv 0)) (blkOk_by (N := ["part", "sort", "thing", "key"]) (sc := defScope s__law_data) (by decide +kernel)) (fun _ _ _ _ _ => pg_name (i := 3) nd rfl (.inl rfl)) (fun _ _ _ _ _ => pts_nil) (fun _ _ _ _ _ => pe_lst (pa_cons (pv 3) (pa_cons (pe_can CR hr pass0 (pa_cons (pe_dget (by exact hu) (pv 0) (pv 3) (fun _ _ => rfl)) pa_nil) (hjk := by omega)) pa_nil)))))))) pss_nil)
      (pss_one (ps_ret (pv 0))))), ?_⟩
    refine q_asgE ?_
    refine ⟨_, rfl, v, d, rfl, hd, fun H2 e02 => ?_⟩
    have hd2 := hd.ex e02
    refine q_when (b := decide (sortD d = "tuple") || decide (sortD d = "list")) (et_or (et_is (et_test (ev_op (ev_var rfl) ev_c (rv_eq rfl))) (by simp)) fun _ => et_is (et_test (ev_op (ev_var rfl) ev_c (rv_eq rfl))) (by simp)) (fun hb2 H3 e3 => ?_) fun hb2 H3 e3 => ?_
    · have e03 := e02.trans e3
      have hd3 := hd2.ex e3
      obtain hx | hx := RV d hv
      · rcases srt_seq d hb2 with q | q <;> cases d <;> first | (simp [leafB] at hx; done) | (simp [tyD] at q; done)
      obtain ⟨m, R, r1, _⟩ := hx
      have main : ∀ (a : Addr) (xs : List V) (ds : List PyData) (z : Str), leafB (.str z) = true → Its2 H3 a xs → Pz H3 xs ds → v = .ref a → sortD d = z → pl d = .list (.str z :: plAll ds) → (d = .list ds ∨ d = .tuple ds) → tOp rCat (tLst (tCons (tVar 1) tNil)) (tItems K spR) [some v, some (.str (sortD d)), none, none] H3 Q := by
        rintro a xs ds z hz hx hp rfl hs hpl hdd
        rw [hs]
        obtain ⟨l3, hve⟩ := r1 ds hdd
        refine rd_cat hz rfl (es := plAll ds) (fun Hc Q' ec q' => rd_items4 R (hx.ex ec) (show Pz Hc xs ds from ⟨hp.1, fun i x d p q => (hp.2 i x d p q).ex ec⟩) hve l3 fun D ys H' e hD hy => q' D ys H' e hD hy) (by rw [plAll_map, List.length_map]; omega) fun l H' e hl => ?_
        refine fin _ H' (e03.trans e) ?_
        rw [hpl]
        exact hl.ex (nw_low e03)
      cases hd3 with
      | leaf h => rcases srt_seq _ hb2 with q | q <;> cases v <;> first | (simp [datOf, tyD] at q; done) | cases h
      | @lst a xs ds h1 h2 h3 => exact main a xs ds "list" (by decide) (.inl h1) ⟨h2, h3⟩ rfl rfl (by unfold pl; rfl) (.inl rfl)
      | @tup a xs ds h1 h2 h3 => exact main a xs ds "tuple" (by decide) (.inr h1) ⟨h2, h3⟩ rfl rfl (by unfold pl; rfl) (.inr rfl)
      | dct _ _ _ => rcases srt_seq _ hb2 with q | q <;> simp [tyD] at q
    refine q_when (b := decide (sortD d = "dict")) (et_is (et_test (ev_op (ev_var rfl) ev_c (rv_eq rfl))) (by simp)) (fun hb3 H4 e4 => ?_) fun hb3 H4 e4 => ?_
    · have e04 := (e02.trans e3).trans e4
      have hd4 := (hd2.ex e3).ex e4
      obtain hx | hx := RV d hv
      · have q := srt_dct d hb3
        cases d <;> first | (simp [leafB] at hx; done) | (simp [tyD] at q; done)
      obtain ⟨m, R, _, r2⟩ := hx
      cases hd4 with
      | leaf h =>
        have q := srt_dct _ hb3
        cases v <;> first | (simp [datOf, tyD] at q; done) | cases h
      | @dct a kvs ds h1 h2 h3 =>
        obtain ⟨k1, k2, k3, k4⟩ := r2 ds rfl
        show tOp rCat (tLst (tCons (tVar 1) tNil)) (tEntries spR) [some (.ref a), some (.str "dict"), none, none] H4 Q
        refine rd_cat (z := "dict") (by decide) rfl (es := plKv ds) (fun Hc Q' ec q' => rd_entries4 R (ec _ _ h1) h2 (fun i x d p q => (h3 i x d p q).ex ec) k1 k2 k3 k4 fun D ys H' e hD hy => q' D ys H' e hD hy) (by rw [plKv_map, List.length_map]; omega) fun l H' e hl => ?_
        refine fin _ H' (e04.trans e) ?_
        rw [show pl (.dict ds) = .list (.str "dict" :: plKv ds) by unfold pl; rfl]
        exact hl.ex (nw_low e04)
      | lst _ _ _ => have q := srt_dct _ hb3; simp [tyD] at q
      | tup _ _ _ => have q := srt_dct _ hb3; simp [tyD] at q
    refine s_ret (ev_var rfl) fun H6 e6 => fin v H6 (((e02.trans e3).trans e4).trans e6) (pl_sc hd ?_ ?_ ?_)
    · intro z; rw [show sortD d = "list" by cases d <;> first | rfl | (simp [tyD] at z; done)] at hb2; revert hb2; decide
    · intro z; rw [show sortD d = "tuple" by cases d <;> first | rfl | (simp [tyD] at z; done)] at hb2; revert hb2; decide
    · intro z; rw [show sortD d = "dict" by cases d <;> first | rfl | (simp [tyD] at z; done)] at hb3; revert hb3; decide
theorem can_ldata0 (T : Txt K mg) : Can P w K mg base CX0 1 "_law_data" ["part"] (fun _ _ _ _ => False) :=
  can_of T.g__law_data T.F__law_data (fun fd F => F.ok sc__law_data (fun vs H Q E h => h.elim) (fun cdv A outer s H vs Q E hr h => h.elim)) (fun _ _ _ _ _ _ us hl => match us, hl with | [_], _ => rfl)
theorem can_ldata (T : Txt K mg) : ∀ n, Can P w K mg base CX0 (n + 3) "_law_data" ["part"] (spPlain n)
  | 0 => data_step T (j := 1) (by omega) (can_ldata0 T) fun d hv => by
    cases hv with
    | leaf h => exact .inl h
  | n + 1 => data_step T (j := n + 3) (by omega) (can_ldata T n) fun d hv => by
    cases hv with
    | leaf h => exact .inl h
    | lst h hl => exact .inr ⟨n, fun v d H Q E hd hv k => ⟨v, d, rfl, hd, hv, k⟩, fun es he => by rcases he with q | q <;> cases q; exact ⟨hl, h⟩, fun es he => by cases he⟩
    | tup h hl => exact .inr ⟨n, fun v d H Q E hd hv k => ⟨v, d, rfl, hd, hv, k⟩, fun es he => by rcases he with q | q <;> cases q; exact ⟨hl, h⟩, fun es he => by cases he⟩
    | dct hk hn h hl => exact .inr ⟨n, fun v d H Q E hd hv k => ⟨v, d, rfl, hd, hv, k⟩, fun es he => (by rcases he with q | q <;> cases q), fun es he => by cases he; exact ⟨fun p hp => (hk p hp).choose_spec.2, hn, h, hl⟩⟩
end
end K50
end

section
set_option Elab.async false
set_option linter.all false
set_option maxRecDepth 100000
set_option maxHeartbeats 2000000
/-! comprehensions whose test is never true: [] -/
namespace LcS
open PySem PySem.Spec PyProof.Rows L2 Cn Evl SqI DtU
theorem upd_wo {H : Hp} {a : Addr} {u : HO} : Ex (wo H a) (upd H a u) := fun b o h => by
  obtain ⟨nb, h⟩ := wo_some h
  rw [upd_ne nb]
  exact h
section
variable {K : PySem.W.Frag} {σ : L2.St} {H : Hp} {tl : TE} {te : TE} {vs : List Nat} {j : Nat} {t : TT} {ta : TA}
theorem el_noRng {n : Nat} (h : EvA ta σ H [.int (n : Int)]) (hn : n ≤ 1000) (hw : ∀ x, wipe ((wipe σ vs).set j (some x)) vs = wipe σ vs)
    (ht : ∀ (i : Nat) H1, Ex H H1 → i < n → EvT t ((wipe σ vs).set j (some (.int (i : Int)))) H1 false) : EvL (tLc (iRng1 ta) (gName j) t te vs) σ H [] := fun H1 e Q q =>
  h H1 e _ fun H2 e2 => ⟨(n : Int), rfl, by omega, by omega, fun Dl hD => lc_range (lo := 0) (n := n) (fun i H' => H2 Dl = none ∧ Ex H2 H' ∧ H' Dl = some (.lst [])) ⟨hD, Ex.new hD, upd_same⟩
    (fun i H' hi p => ⟨hw _, by
      have := ht i H' ((e.trans e2).trans p.2.1) hi H' (Ex.refl _) (fun b H3 => b = false ∧ Ex H' H3) fun H3 e3 => ⟨rfl, e3⟩
      rw [show (0 : Int) + (i : Int) = (i : Int) by omega]
      exact ht i H' ((e.trans e2).trans p.2.1) hi H' (Ex.refl _) _ fun H3 e3 => ⟨p.1, p.2.1.trans e3, e3 _ _ p.2.2⟩⟩)
    (fun H' p => q Dl H' (fresh_back e2 p.1) (e2.trans p.2.1) p.2.2)⟩
theorem el_noKeys {d : Addr} {kvs : List (L2.Key × V)} (hw : ∀ x, wipe ((wipe σ vs).set j (some x)) vs = wipe σ vs) (hk : H d = some (.dK kvs)) (h : ∀ H', Ev tl σ H' (.ref d))
    (ht : ∀ (H1 H' : Hp) (od : Obj) (i : Nat) (k : L2.Key) (v : V), Ex H H1 → kvs[i]? = some (k, v) → Ex (wo H1 d) H' → H' d = some (.frz od (.dK kvs)) → EvT t ((wipe σ vs).set j (some (kV k))) H' false) : EvL (tLockE (tLc (iKeys tl) (gName j) t te vs)) σ H [] := fun H0 e0 Q q => by
  have hk0 := e0 _ _ hk
  refine ⟨d, _, hk0, trivial, fun od => h _ _ (Ex.refl _) _ fun H1 e => ⟨d, od, rfl, .inl ⟨kvs, e _ _ upd_same, fun D hD => ?_⟩⟩⟩
  have hdn : D ≠ d := fun z => by rw [z, e _ _ upd_same] at hD; cases hD
  have hD0 : H0 D = none := by
    have := fresh_back e hD
    rw [upd_ne hdn] at this
    exact this
  refine lc_it walk_keys (fun i H' => Ex (wo H0 d) H' ∧ H' d = some (.frz od (.dK kvs)) ∧ H' D = some (.lst [])) ⟨(upd_wo.trans e).trans (Ex.new hD), by rw [upd_ne hdn.symm]; exact e _ _ upd_same, upd_same⟩ (fun i H' _ p => p.2.1) ?_ (fun H' p => ⟨p.2.1, ?_⟩)
  · rintro i x H2 H3 hi p ⟨rfl, k, v, hkv, rfl⟩
    exact ⟨hw _, ht H0 H3 od i k v e0 hkv p.1 p.2.1 H3 (Ex.refl _) _ fun H4 e4 => ⟨p.1.trans e4, e4 _ _ p.2.1, e4 _ _ p.2.2⟩⟩
  · refine q D _ hD0 (fun b o hb => ?_) (by rw [upd_ne hdn]; exact p.2.2)
    by_cases nb : b = d
    · subst nb
      rw [upd_same]
      rw [hk0] at hb
      exact hb
    · rw [upd_ne nb]
      exact p.1 b o (by rw [wo_ne nb]; exact hb)
end
end LcS
end

section
set_option Elab.async false
set_option linter.all false
set_option maxRecDepth 100000
set_option maxHeartbeats 4000000
namespace K50
open PySem PySem.Spec PyProof.Rows L2 He Cn Evl DtU RpV RpD SqI ExT LcS
section
variable {P : Program} {w : World} {K : PySem.W.Frag} {mg : Str → Option Value} {base : Heap}
/-! ### _law_same: True on a datum told twice -/
theorem du_at {H : Hp} {xs ys : List V} {ds : List PyData} (hx : Pz H xs ds) (hy : Pz H ys ds) {i : Nat} (hi : i < xs.length) : ∃ x y d, xs[i]? = some x ∧ ys[i]? = some y ∧ d ∈ ds ∧ Du H x d ∧ Du H y d := by
  obtain ⟨x, hxi⟩ := at_some hi
  obtain ⟨d, hdi⟩ : ∃ d, ds[i]? = some d := at_some (by rw [← hx.1]; exact hi)
  obtain ⟨y, hyi⟩ : ∃ d, ys[i]? = some d := at_some (by rw [hy.1, ← hx.1]; exact hi)
  exact ⟨x, y, d, hxi, hyi, List.mem_of_getElem? hdi, hx.2 i x d hxi hdi, hy.2 i y d hyi hdi⟩
theorem tab_in : ∀ p, p ∈ srtTab → inV (.str p.1) [.str "tuple", .str "list"] = true → p.2 = "list" ∨ p.2 = "tuple" := by decide
theorem tab_nin : ∀ p, p ∈ srtTab → inV (.str p.1) [.str "tuple", .str "list"] = false → p.2 ≠ "list" ∧ p.2 ≠ "tuple" := by decide
theorem tab_ndct : ∀ p, p ∈ srtTab → decide (p.1 = ("dict" : Str)) = false → p.2 ≠ "dict" := by decide
theorem same_step {n j : Nat} {spR : Sp} (T : Txt K mg) (hj : j ≤ n + 2) (CR : Can P w K mg base CX0 j "_law_same" ["near", "far"] spR)
    (RV : ∀ d, Val n d → leafB d = true ∨ ∃ m, RecE m spR ∧ (∀ ds, d = .list ds ∨ d = .tuple ds → ds.length ≤ 3 ∧ ∀ e, e ∈ ds → Val m e) ∧ ∀ ds, d = .dict ds → (ds.map Prod.fst).Nodup ∧ (∀ p, p ∈ ds → Val m p.2) ∧ ds.length ≤ 3) : Can P w K mg base CX0 (n + 3) "_law_same" ["near", "far"] (spEq n) := by
  have CS : Can P w K mg base CX0 1 "_law_sort" ["part"] spSortD := can_lsort T
  refine can_of T.g__law_same T.F__law_same (fun fd F => ?_) (fun _ _ _ _ _ _ us hl => match us, hl with | [_, _], _ => rfl)
  refine F.ok sc__law_same (fun vs H Q E h => ?_) (fun cdv A outer s H vs Q E hr h => ?_)
  · obtain ⟨x, y, d, rfl, _⟩ := h
    rfl
  · obtain ⟨x, y, d, rfl, hx, hy, hv, fin⟩ := h
    have nd := sc__law_same.nd
    have hu : (A.deeper (envOfC "_law_same" (defScope s__law_same) s.heap.objs.size (ga K "_law_same") cdv)).units + 1 < cLine := Nat.lt_of_le_of_lt (Nat.add_le_add_left (by decide) _) hr.units
    refine ⟨_, pss_cons (ps_set (i := 2) nd rfl (.inl rfl) (pe_can CS hr pass0 (pa_cons (pv 0) pa_nil) (hjk := by omega)))
      (pss_cons (ps_if (pt_cmpR op_ne (pv 2) (pe_can CS hr pass0 (pa_cons (pv 1) pa_nil) (hjk := by omega)) (nomark _)) (pss_one (ps_ret pe_bl)) pss_nil)
      (pss_cons (ps_if (pt_cmpR op_eq (pv 2) pe_str (nomark _))
        (pss_cons (ps_if (pt_cmpR op_ne (pe_callB call_lenD (by rfl) T.n_len PySem.boot_len (pa_cons (pv 0) pa_nil)) (pe_callB call_lenD (by rfl) T.n_len PySem.boot_len (pa_cons (pv 1) pa_nil)) (nomark _)) (pss_one (ps_ret pe_bl)) pss_nil)
        (pss_one (ps_ret (pe_cmpR (op_eq_nil hr) (pe_lock (pe_lc (own := [("key", 3)]) (wi := iKeys (tVar 0)) (g := gName 3) (tt := tOr (tB (tDNotIn (tVar 3) (tVar 1))) (tNot (tB (tCall spR [] E0 (tCons (tDGet (tVar 0) (tVar 3)) (tCons (tDGet (tVar 1) (tVar 3)) tNil)))))) (te := tVar 3) rfl nd (pi_keys (pv 0)) (blkOk_by (N := ["near", "far", "sort", "key", "n"]) (sc := defScope s__law_same) (by decide +kernel)) (fun _ _ _ _ _ => pg_name (i := 3) nd rfl (.inl rfl)) (fun _ _ _ _ _ => pts_one (PW.pt (pw_or (pt_cmp (pc_dnotin (by exact hu) (pv 3) (pv 1))) (pw_or1 (pt_not (pt_val (pe_can CR hr pass0 (pa_cons (pe_dget (by exact hu) (pv 0) (pv 3) (fun _ _ => rfl)) (pa_cons (pe_dget (by exact hu) (pv 1) (pv 3) (fun _ _ => rfl)) pa_nil)) (hjk := by omega)))))))) (fun _ _ _ _ _ => pv 3))) (pe_lst pa_nil) (nomark _))))) pss_nil)
      (pss_cons (ps_if (pt_cmpR op_in_seq (pv 2) (pe_tup (pa_cons pe_str (pa_cons pe_str pa_nil))) rfl)
        (pss_cons (ps_if (pt_cmpR op_ne (pe_callB call_len_seq (by rfl) T.n_len PySem.boot_len (pa_cons (pv 0) pa_nil)) (pe_callB call_len_seq (by rfl) T.n_len PySem.boot_len (pa_cons (pv 1) pa_nil)) (nomark _)) (pss_one (ps_ret pe_bl)) pss_nil)
        (pss_one (ps_ret (pe_cmpR (op_eq_nil hr) (pe_lc (own := [("n", 4)]) (wi := iRng1 (tCons (tCB (rLenS K) (tCons (tVar 0) tNil)) tNil)) (g := gName 4) (tt := tNot (tB (tCall spR [] E0 (tCons (tOp (rIx K) (tVar 0) (tVar 4)) (tCons (tOp (rIx K) (tVar 1) (tVar 4)) tNil))))) (te := tVar 4) rfl nd (pi_range1 rfl T.n_range (pa_cons (pe_callB call_len_seq (by rfl) T.n_len PySem.boot_len (pa_cons (pv 0) pa_nil)) pa_nil)) (blkOk_by (N := ["near", "far", "sort", "key", "n"]) (sc := defScope s__law_same) (by decide +kernel)) (fun _ _ _ _ _ => pg_name (i := 4) nd rfl (.inl rfl)) (fun _ _ _ _ _ => pts_one (pt_not (pt_val (pe_can CR hr pass0 (pa_cons (pe_ix ix_seq (pv 0) (pv 4) (fun _ _ => rfl)) (pa_cons (pe_ix ix_seq (pv 1) (pv 4) (fun _ _ => rfl)) pa_nil)) (hjk := by omega))))) (fun _ _ _ _ _ => pv 4)) (pe_lst pa_nil) (nomark _))))) pss_nil)
      (pss_one (ps_ret (pe_cmpR op_eq (pv 0) (pv 1) (nomark _))))))), ?_⟩
    refine q_asgE ?_
    refine ⟨_, rfl, x, d, rfl, hx, fun H1 e1 => ?_⟩
    have hy1 := hy.ex e1
    refine q_when (b := false) (et_is (et_test (ev_op (y := .str (sortD d)) (ev_var (v := .str (sortD d)) rfl) (fun H6 e6 Q' q' => ⟨_, rfl, y, d, rfl, hy1.ex e6, fun H7 e7 => q' H7 e7⟩) (rv_ne rfl))) (by simp)) (fun h => by cases h) fun _ H2 e2 => ?_
    have e02 := e1.trans e2
    refine q_when (b := decide (sortD d = "dict")) (et_is (et_test (ev_op (ev_var rfl) ev_c (rv_eq rfl))) (by simp)) (fun hb H3 e3 => ?_) fun hb H3 e3 => ?_
    · have e03 := e02.trans e3
      have ht : tyD d = "dict" := srt_dct d hb
      obtain ⟨a, b, ds, rfl, rfl, rfl⟩ := Du.dctE hx hy ht
      obtain hlf | ⟨m, R, _, r2⟩ := RV _ hv
      · simp [leafB] at hlf
      obtain ⟨hnd, hve, hl3⟩ := r2 ds rfl
      have hxs := hx.ex e03
      have hys := hy.ex e03
      obtain ⟨_, kvs, ea, x1, x2, x3⟩ := inv_dct hxs
      cases ea
      obtain ⟨_, kws, eb, y1, y2, y3⟩ := inv_dct hys
      cases eb
      have lx : kvs.length = ds.length := by have := congrArg List.length x2; simpa using this.symm
      have ly : kws.length = ds.length := by have := congrArg List.length y2; simpa using this.symm
      have ndx := nd_keys x2 hnd
      have ndy := nd_keys y2 hnd
      refine q_when (b := false) (et_is (et_test (ev_op (ev_cb (z := .int (kvs.length : Int)) (ea_cons (ev_var rfl) ea_nil) fun H1 e Q q => ⟨a, kvs, rfl, e _ _ x1, q H1 (Ex.refl H1)⟩) (ev_cb (z := .int (kws.length : Int)) (ea_cons (ev_var rfl) ea_nil) fun H1 e Q q => ⟨b, kws, rfl, e _ _ y1, q H1 (Ex.refl H1)⟩) (rv_ne rfl))) (by rw [lx, ly]; simp)) (fun h => by cases h) fun _ H4 e4 => ?_
      have hz := el_noKeys (σ := [some (.ref a), some (.ref b), some (.str (sortD (.dict ds))), none, none]) (H := H4) (j := 3) (vs := [3]) (d := a) (kvs := kvs) (tl := tVar 0) (te := tVar 3) (t := tOr (tB (tDNotIn (tVar 3) (tVar 1))) (tNot (tB (tCall spR [] E0 (tCons (tDGet (tVar 0) (tVar 3)) (tCons (tDGet (tVar 1) (tVar 3)) tNil)))))) (fun _ => rfl) (e4 _ _ x1) (fun H' => ev_var rfl) fun H5 H6 od i kk v e5 hi e6 hf => by
        have e45 := e4.trans e5
        obtain ⟨⟨k2, u⟩, hyi⟩ : ∃ q, kws[i]? = some q := at_some (by have := (List.getElem?_eq_some_iff.mp hi).1; omega)
        obtain ⟨p, hp⟩ : ∃ q, ds[i]? = some q := at_some (by have := (List.getElem?_eq_some_iff.mp hi).1; omega)
        have ek : kk = k2 := by
          have e1 : (ds.map Prod.fst)[i]? = some p.1 := by rw [List.getElem?_map, hp]; rfl
          have e2 := e1
          rw [x2, List.getElem?_map, hi] at e1
          rw [y2, List.getElem?_map, hyi] at e2
          exact keyD_inj (Option.some.inj (e1.trans e2.symm))
        subst ek
        have hm := List.mem_of_getElem? hp
        have hdep : p.2.depth < (PyData.dict ds).depth := by
          have : p.2.depth ≤ PyData.depthKv ds := depth_kv hm
          show _ < PyData.depthKv ds + 1
          omega
        have hxs5 := hxs.ex e45
        have d1 : Du H6 v p.2 := ((hxs5.wo ((x3 i _ p hi hp).ex e45)) hdep).ex e6
        have d2 : Du H6 u p.2 := ((hxs5.wo ((y3 i _ p hyi hp).ex e45)) hdep).ex e6
        exact et_is (et_or (et_B (ev_dninK (v := u) (ev_var rfl) (ev_var rfl) (rd_oth (e45 _ _ x1) (e45 _ _ y1) e6 hf) (val_of ndy hyi))) fun _ => et_not (a := true) (et_B (ev_rec R (ev_datK (k := kk) (ev_var rfl) (ev_var rfl) (.inr ⟨od, hf⟩) (val_of ndx hi)) (ev_datK (k := kk) (ev_var rfl) (ev_var rfl) (rd_oth (e45 _ _ x1) (e45 _ _ y1) e6 hf) (val_of ndy hyi)) d1 d2 (hve _ hm)))) rfl
      exact s_ret (ev_opLL hz (el_lst (vs := []) ea_nil (by decide)) fun p1 p2 H2 g1 g2 e2 => rv_eqE (neg := false) (sq_of g1) (sq_of g2)) fun H5 e5 => fin H5 ((e03.trans e4).trans e5)
    have e03 := e02.trans e3
    refine q_when (b := inV (.str (sortD d)) [.str "tuple", .str "list"]) (et_test (ev_inU (ev_var rfl) (eu_tup (vs := [.str "tuple", .str "list"]) (ea_cons ev_c (ea_cons ev_c ea_nil)) (by decide)) rfl (by decide))) (fun hb2 H4 e4 => ?_) fun hb2 H4 e4 => ?_
    · have e04 := e03.trans e4
      have ht : tyD d = "list" ∨ tyD d = "tuple" := tab_in _ (srt_in d) hb2
      obtain ⟨a, b, xs, ys, ds, rfl, rfl, h2, px, py, hd⟩ := Du.seq (hx.ex e04) (hy.ex e04) ht
      obtain hlf | ⟨m, R, r1, _⟩ := RV d hv
      · rcases hd with rfl | rfl <;> simp [leafB] at hlf
      obtain ⟨hl3, hve⟩ := r1 ds hd
      refine q_when (b := false) (et_is (et_test (ev_op (ev_lenA (ev_var rfl) h2.l.1) (ev_lenA (ev_var rfl) h2.l.2) (rv_ne rfl))) (by rw [px.1, py.1]; simp)) (fun h => by cases h) fun _ H5 e5 => ?_
      have hz := el_noRng (σ := [some (.ref a), some (.ref b), some (.str (sortD d)), none, none]) (H := H5) (j := 4) (vs := [4]) (n := xs.length) (ta := tCons (tCB (rLenS K) (tCons (tVar 0) tNil)) tNil) (te := tVar 4) (t := tNot (tB (tCall spR [] E0 (tCons (tOp (rIx K) (tVar 0) (tVar 4)) (tCons (tOp (rIx K) (tVar 1) (tVar 4)) tNil))))) (ea_cons (ev_lenA (ev_var rfl) (h2.ex e5).l.1) ea_nil) (by rw [px.1]; omega) (fun _ => rfl) fun i H6 e6 hi => by
        obtain ⟨x, y, e, hxi, hyi, hm, dx, dy⟩ := du_at px py hi
        have e56 := e5.trans e6
        exact et_is (et_not (a := true) (et_B (ev_rec R (ev_op (ev_var rfl) (ev_var rfl) (rv_ixA (h2.ex e56).l.1 (at_of rfl hxi))) (ev_op (ev_var rfl) (ev_var rfl) (rv_ixA (h2.ex e56).l.2 (at_of rfl hyi))) (dx.ex e56) (dy.ex e56) (hve _ hm)))) rfl
      exact s_ret (ev_opLL hz (el_lst (vs := []) ea_nil (by decide)) fun p1 p2 H2 g1 g2 e2 => rv_eqE (neg := false) (sq_of g1) (sq_of g2)) fun H6 e6 => fin H6 ((e04.trans e5).trans e6)
    · have e04 := e03.trans e4
      obtain ⟨rfl, sc⟩ := Du.same hx hy (tab_nin _ (srt_in d) hb2).1 (tab_nin _ (srt_in d) hb2).2 (tab_ndct _ (srt_in d) hb)
      exact s_ret (v := .bl true) (ev_to (ev_op (ev_var (i := 0) rfl) (ev_var (i := 1) rfl) (rv_eq sc)) (by simp)) fun H5 e5 => fin H5 (e04.trans e5)
theorem can_same0 (T : Txt K mg) : Can P w K mg base CX0 1 "_law_same" ["near", "far"] (fun _ _ _ _ => False) :=
  can_of T.g__law_same T.F__law_same (fun fd F => F.ok sc__law_same (fun vs H Q E h => h.elim) (fun cdv A outer s H vs Q E hr h => h.elim)) (fun _ _ _ _ _ _ us hl => match us, hl with | [_, _], _ => rfl)
theorem can_same (T : Txt K mg) : ∀ n, Can P w K mg base CX0 (n + 3) "_law_same" ["near", "far"] (spEq n)
  | 0 => same_step T (j := 1) (by omega) (can_same0 T) fun d hv => by
    cases hv with
    | leaf h => exact .inl h
  | n + 1 => same_step T (j := n + 3) (by omega) (can_same T n) fun d hv => by
    have R : RecE n (spEq n) := fun x y d H Q E hx hy hv k => ⟨x, y, d, rfl, hx, hy, hv, k⟩
    cases hv with
    | leaf h => exact .inl h
    | lst h hl => exact .inr ⟨n, R, fun es he => by rcases he with q | q <;> cases q; exact ⟨hl, h⟩, fun es he => by cases he⟩
    | tup h hl => exact .inr ⟨n, R, fun es he => by rcases he with q | q <;> cases q; exact ⟨hl, h⟩, fun es he => by cases he⟩
    | dct hk hn h hl => exact .inr ⟨n, R, fun es he => (by rcases he with q | q <;> cases q), fun es he => by cases he; exact ⟨hn, h, hl⟩⟩
end
end K50
end

section
set_option Elab.async false
set_option linter.all false
set_option maxRecDepth 100000
set_option maxHeartbeats 4000000
namespace K50
open PySem PySem.Spec PyProof.Rows L2 He Cn Evl DtU RpV RpD SqI ExT LcS
/-! ### how often one list of the data is reached, at most -/
mutual
def cst : PyData → Nat
  | .list ds => 1 + cstAll ds
  | .tuple _ => 0
  | .dict _ => 0
  | .none => 0 | .bool _ => 0 | .int _ => 0 | .str _ => 0
def cstAll : List PyData → Nat
  | [] => 0
  | d :: r => cst d + cstAll r
end
mutual
theorem cst_nod : ∀ d : PyData, cst d ≤ nod d + 1
  | .list ds => by
    have := cstAll_nod ds
    unfold cst nod
    omega
  | .tuple _ => by unfold cst; exact Nat.zero_le _
  | .dict _ => by unfold cst; exact Nat.zero_le _
  | .none => by unfold cst; exact Nat.zero_le _
  | .bool _ => by unfold cst; exact Nat.zero_le _
  | .int _ => by unfold cst; exact Nat.zero_le _
  | .str _ => by unfold cst; exact Nat.zero_le _
theorem cstAll_nod : ∀ ds : List PyData, cstAll ds ≤ nodAll ds
  | [] => by unfold cstAll; exact Nat.zero_le _
  | d :: r => by
    have := cst_nod d
    have := cstAll_nod r
    unfold cstAll nodAll
    omega
end
theorem cst_take : ∀ {ds : List PyData} {i : Nat} {d : PyData}, ds[i]? = some d → cstAll (ds.take (i + 1)) = cstAll (ds.take i) + cst d
  | [], _, _, h => by simp at h
  | x :: r, 0, d, h => by
    obtain rfl : x = d := by simpa using h
    simp [cstAll]
  | x :: r, i + 1, d, h => by
    have := cst_take (ds := r) (i := i) (d := d) (by simpa using h)
    rw [List.take_succ_cons, List.take_succ_cons]
    simp only [cstAll]
    omega
theorem cst_le : ∀ {ds : List PyData} {i : Nat}, cstAll (ds.take i) ≤ cstAll ds
  | [], i => by simp
  | x :: r, 0 => by simp [cstAll]
  | x :: r, i + 1 => by
    have := cst_le (ds := r) (i := i)
    rw [List.take_succ_cons]
    simp only [cstAll]
    omega
theorem nod_mem {d : PyData} : ∀ {ds : List PyData}, d ∈ ds → nod d + 1 ≤ nodAll ds
  | [], h => nomatch h
  | x :: r, h => by
    unfold nodAll
    rcases List.mem_cons.mp h with q | q
    · rw [q]; omega
    · have := nod_mem q
      omega
theorem len_nod : ∀ ds : List PyData, ds.length ≤ nodAll ds
  | [] => Nat.zero_le _
  | d :: r => by
    have := len_nod r
    unfold nodAll
    rw [List.length_cons]
    omega
abbrev vMore : V := .str "more"
/-- the lists of G, each with up to m times 'more' behind it -/
structure Spo (G H : Hp) (m : Nat) : Prop where
  l : ∀ a xs, G a = some (.lst xs) → ∃ r, r ≤ m ∧ H a = some (.lst (xs ++ List.replicate r vMore))
  o : ∀ b o, G b = some o → (∀ xs, o ≠ .lst xs) → H b = some o
theorem Spo.ex {G H H' : Hp} {m : Nat} (e : Ex H H') (h : Spo G H m) : Spo G H' m := ⟨fun a xs q => by
  obtain ⟨r, h1, h2⟩ := h.l a xs q
  exact ⟨r, h1, e _ _ h2⟩, fun b o q k => e _ _ (h.o b o q k)⟩
theorem Spo.up {G H : Hp} {m n : Nat} (hm : m ≤ n) (h : Spo G H m) : Spo G H n := ⟨fun a xs q => by
  obtain ⟨r, h1, h2⟩ := h.l a xs q
  exact ⟨r, Nat.le_trans h1 hm, h2⟩, h.o⟩
theorem Spo.of {G H : Hp} (e : Ex G H) : Spo G H 0 := ⟨fun a xs q => ⟨0, Nat.le_refl _, by simpa using e _ _ q⟩, fun b o q _ => e _ _ q⟩
/-- a list of the data, so deep at most -/
def Dp (G : Hp) (k : Nat) (b : Addr) : Prop := ∃ ds, Du G (.ref b) (.list ds) ∧ (PyData.list ds).depth ≤ k
theorem Dp.up {G : Hp} {j k : Nat} {b : Addr} (hk : j ≤ k) (h : Dp G j b) : Dp G k b := by
  obtain ⟨ds, h1, h2⟩ := h
  exact ⟨ds, h1, Nat.le_trans h2 hk⟩
def FrS (G : Hp) (k : Nat) (H H' : Hp) : Prop := ∀ b o, H b = some o → ¬ Dp G k b → H' b = some o
theorem FrS.of {G H H' : Hp} {k : Nat} (e : Ex H H') : FrS G k H H' := fun b o h _ => e b o h
theorem FrS.trans {G H H1 H2 : Hp} {k : Nat} (h : FrS G k H H1) (h' : FrS G k H1 H2) : FrS G k H H2 := fun b o e n => h' b o (h b o e n) n
theorem FrS.up {G H H1 : Hp} {j k : Nat} (hk : j ≤ k) (h : FrS G j H H1) : FrS G k H H1 := fun b o e n => h b o e fun z => n (z.up hk)
section
variable {P : Program} {w : World} {K : PySem.W.Frag} {mg : Str → Option Value} {base : Heap}
def spSpoilt (k : Nat) : Sp := fun vs H Q _ => ∃ (v : V) (G : Hp) (e : PyData) (m : Nat), vs = [v] ∧ Du G v e ∧ e.depth ≤ k ∧ Spo G H m ∧ nod e + m + cst e ≤ 50000 ∧ ∀ H', Spo G H' (m + cst e) → FrS G e.depth H H' → Q .non H'
def RecS (k : Nat) (sp : Sp) : Prop := ∀ (v : V) (G : Hp) (e : PyData) (m : Nat) (H : Hp) (Q : VK) (E : XK), Du G v e → e.depth ≤ k → Spo G H m → nod e + m + cst e ≤ 50000 → (∀ H', Spo G H' (m + cst e) → FrS G e.depth H H' → Q .non H') → sp [v] H Q E
theorem ev_isT {σ : L2.St} {H : Hp} {te : TE} {v : V} {t c : String} (hc : c ∈ isTys) (ht : t ∈ fdTys) (h : Ev te σ H v) (hd : ∀ H', Ex H H' → TyOf K H' v (.type t)) : Ev (tCB (rIsi K) (tCons te (tCons (tC (.ty c)) tNil))) σ H (.bl (subB t c)) :=
  ev_cb (ea_cons h (ea_cons ev_c ea_nil)) fun H5 e Q q => ⟨v, .ty c, .type t, .type c, subB t c, rfl, .ty _, .base (hd H5 e), kit_ty (kit_all _ ht c hc), q H5 (Ex.refl H5)⟩
/-- its type, as it stands now -/
theorem ty_now {G H : Hp} {m : Nat} {v : V} {e : PyData} (hd : Du G v e) (hs : Spo G H m) : ∀ H', Ex H H' → TyOf K H' v (.type (tyD e)) := fun H' x => by
  cases hd with
  | leaf h => exact Du.tyOf (K := K) (H := H') (.leaf h)
  | @lst a xs ds h1 _ _ =>
    obtain ⟨r, _, h2⟩ := hs.l a xs h1
    exact .lst (x _ _ h2)
  | @tup a xs ds h1 _ _ => exact .tup (x _ _ (hs.o a _ h1 fun xs z => by cases z))
  | @dct a kvs ds h1 _ _ => exact .dK (x _ _ (hs.o a _ h1 fun xs z => by cases z))
theorem spo_put {G H : Hp} {m r : Nat} {a : Addr} {xs : List V} (hs : Spo G H m) (hG : G a = some (.lst xs)) (hr : r ≤ m) : Spo G (upd H a (.lst (xs ++ List.replicate r vMore ++ [vMore]))) (m + 1) := by
  refine ⟨fun b ys hb => ?_, fun b o hb ho => ?_⟩
  · by_cases q : b = a
    · subst q
      rw [hG] at hb
      injection Option.some.inj hb with z
      subst z
      refine ⟨r + 1, by omega, ?_⟩
      rw [upd_same, List.replicate_succ', List.append_assoc]
    · obtain ⟨r', h1, h2⟩ := hs.l b ys hb
      exact ⟨r', by omega, by rw [upd_ne q]; exact h2⟩
  · have q : b ≠ a := fun z => by
      rw [z, hG] at hb
      exact ho xs (Option.some.inj hb).symm
    rw [upd_ne q]
    exact hs.o b o hb ho
theorem spo_step {k : Nat} {spR : Sp} (T : Txt K mg) (CR : Can P w K mg base CX0 (k + 1) "_law_spoilt" ["data"] spR) (R : ∀ j, k = j + 1 → RecS j spR) : Can P w K mg base CX0 (k + 2) "_law_spoilt" ["data"] (spSpoilt k) := by
  refine can_of T.g__law_spoilt T.F__law_spoilt (fun fd F => ?_) (fun _ _ _ _ _ _ us hl => match us, hl with | [_], _ => rfl)
  refine F.ok sc__law_spoilt (fun vs H Q E h => ?_) (fun cdv A outer s H vs Q E hr h => ?_)
  · obtain ⟨v, G, e, m, rfl, _⟩ := h
    rfl
  · obtain ⟨v, G, e, m, rfl, hd, hk, hs, hz, fin⟩ := h
    have nd := sc__law_spoilt.nd
    refine ⟨_, pss_one (ps_if (pt_val (pe_callB call_isi (by rfl) T.n_isinstance (by decide +kernel) (pa_cons (pv 0) (pa_cons (pe_bltn rfl T.n_list (v := .ty "list") (by decide +kernel) rfl) pa_nil))))
      (pss_cons (ps_for PassesOwn.never rfl (pi_seq (pv 0)) (pg_name (i := 1) nd rfl (.inl rfl)) (pss_one (ps_expr (pe_can CR hr pass0 (pa_cons (pv 1) pa_nil) (hjk := Nat.le_refl _)))))
      (pss_one (ps_expr (pe_bm PySem.F.plainAttrs_list PySem.F.slot_list_append PySem.F.type_list_append mt_append (pv 0) (pa_cons pe_str pa_nil))))) pss_nil), ?_⟩
    refine s_when (b := subB (tyD e) "list") (et_B (ev_isT (by decide) (ty_fd e) (ev_var rfl) (ty_now hd hs))) (fun hb H1 e1 => ?_) fun hb H1 e1 => ?_
    · have ht : tyD e = "list" := by cases e <;> first | rfl | (simp [subB, tyD] at hb; done)
      cases hd with
      | leaf h => cases v <;> first | (simp [datOf, tyD] at ht; done) | cases h
      | tup _ _ _ => simp [tyD] at ht
      | dct _ _ _ => simp [tyD] at ht
      | @lst a xs ds h1 h2 h3 =>
        have hself : Du G (.ref a) (.list ds) := .lst h1 h2 h3
        obtain ⟨j, rfl⟩ : ∃ j, k = j + 1 := ⟨k - 1, by have : PyData.depthAll ds + 1 ≤ k := hk; omega⟩
        have hkj : PyData.depthAll ds ≤ j := by have : PyData.depthAll ds + 1 ≤ j + 1 := hk; omega
        have R := R j rfl
        have hz' : nodAll ds + m + (1 + cstAll ds) ≤ 50000 := hz
        obtain ⟨r, hr', ha⟩ := hs.l a xs h1
        have hs1 := hs.ex e1
        have notA : ¬ Dp G (PyData.depthAll ds) a := fun ⟨es, p, q⟩ => by
          rw [← Du.uniq hself p] at q
          have q' : PyData.depthAll ds + 1 ≤ PyData.depthAll ds := q
          omega
        refine q_forSq (a := a) (xs := xs ++ List.replicate r vMore) (ev_var rfl) (.inl (e1 _ _ ha)) (fun i σ' H' => (∃ u, σ' = [some (.ref a), u]) ∧ Spo G H' (m + cstAll (ds.take i)) ∧ FrS G (PyData.depthAll ds) H1 H') (fun H2 e2 => ⟨⟨_, rfl⟩, by simpa [cstAll] using hs1.ex e2, FrS.of e2⟩) (fun i σ' H' p o h => p.2.2 _ _ h notA) ?_ ?_
        · rintro i x σ' H2 hxi ⟨⟨u, rfl⟩, hs2, f2⟩
          obtain ⟨d, hdx, hdd, hdn, hdc⟩ : ∃ d, Du G x d ∧ d.depth ≤ PyData.depthAll ds ∧ nod d ≤ nodAll ds ∧ cstAll (ds.take (i + 1)) = cstAll (ds.take i) + cst d := by
            by_cases hi : i < xs.length
            · rw [List.getElem?_append_left hi] at hxi
              obtain ⟨d, hd⟩ : ∃ d, ds[i]? = some d := at_some (by omega)
              have hm := List.mem_of_getElem? hd
              exact ⟨d, h3 i x d hxi hd, depth_mem hm, by have := nod_mem hm; omega, cst_take hd⟩
            · have : x = vMore := by
                rw [List.getElem?_append_right (by omega)] at hxi
                exact List.eq_of_mem_replicate (List.mem_of_getElem? hxi)
              subst this
              refine ⟨.str "more", .leaf (v := vMore) (by decide), Nat.zero_le _, Nat.zero_le _, ?_⟩
              rw [List.take_of_length_le (by omega), List.take_of_length_le (by omega)]
              rfl
          have c1 := cst_le (ds := ds) (i := i + 1)
          refine ⟨_, rfl, R x G d (m + cstAll (ds.take i)) H2 _ _ hdx (by omega) hs2 (by omega) fun H3 hs3 f3 => ?_⟩
          refine ⟨⟨_, rfl⟩, hs3.up (by omega), f2.trans (f3.up hdd)⟩
        · rintro σ' H2 ⟨⟨u, rfl⟩, hs2, f2⟩
          have ha2 : H2 a = some (.lst (xs ++ List.replicate r vMore)) := f2 _ _ (e1 _ _ ha) notA
          have hlen := len_nod ds
          have hc := cst_le (ds := ds) (i := (xs ++ List.replicate r vMore).length)
          refine ⟨_, rfl, .inl ⟨rfl, _, sq_of ha2⟩, a, _, vMore, rfl, rfl, ha2, sz_lt (by rw [List.length_append, List.length_replicate]; omega), ?_⟩
          refine fin _ ((spo_put hs2 h1 (by omega)).up ?_) fun b o hb hn => ?_
          · have : cst (.list ds) = 1 + cstAll ds := by unfold cst; rfl
            omega
          · have nb : b ≠ a := fun z => hn (by rw [z]; exact ⟨ds, hself, Nat.le_refl _⟩)
            rw [upd_ne nb]
            exact f2 b o (e1 _ _ hb) fun z => hn (z.up (Nat.le_succ _))
    · exact fin H1 ((hs.ex e1).up (Nat.le_add_right _ _)) (FrS.of e1)
theorem can_spoilt0 (T : Txt K mg) : Can P w K mg base CX0 1 "_law_spoilt" ["data"] (fun _ _ _ _ => False) :=
  can_of T.g__law_spoilt T.F__law_spoilt (fun fd F => F.ok sc__law_spoilt (fun vs H Q E h => h.elim) (fun cdv A outer s H vs Q E hr h => h.elim)) (fun _ _ _ _ _ _ us hl => match us, hl with | [_], _ => rfl)
theorem can_spoilt (T : Txt K mg) : ∀ k, Can P w K mg base CX0 (k + 2) "_law_spoilt" ["data"] (spSpoilt k)
  | 0 => spo_step T (can_spoilt0 T) fun j h => by cases h
  | k + 1 => spo_step T (can_spoilt T k) fun j h => by
    obtain rfl : k = j := by omega
    exact fun v G e m H Q E h1 h2 h3 h4 h5 => ⟨v, G, e, m, rfl, h1, h2, h3, h4, h5⟩
end
end K50
end

section
set_option Elab.async false
set_option linter.all false
set_option maxRecDepth 100000
set_option maxHeartbeats 2000000
/-! the law called from the top, where no repr is under way -/
namespace Gd
open PySem PySem.Spec PyProof.Rows L2 StX He Cn LamX
/-- what stands when the law is called: its text, its names, the empty tables of the defs that make lambdas -/
structure Stand (K : PySem.W.Frag) (mg mb : Str → Option Value) (s : Shared) (cs : List (Addr × Addr)) : Prop where
  kin : K.In s.heap
  mns : s.heap.Ns mainGlobals mg
  bns : s.heap.Ns builtinsNs mb
  boot : ∀ x : Str, x ≠ "__name__" → mb x = bootBuiltins x
  lim : s.heap.NoLimit
  gens : s.gens = #[]
  tab : ∀ p ∈ cs, s.heap.get? p.2 = some { cls := .none, data := .fields #[] }
  notK : ∀ p ∈ cs, K.lookup p.2 = none
  code : ∀ p ∈ cs, PySem.W.CodeHd s.heap p.1 p.2
  bm : ∃ (bm : Addr) (ob : Obj), mg "__builtins__" = some (.ref bm) ∧ bm ≠ builtinsNs ∧ s.heap.get? bm = some ob ∧ ob.cls = .type "module" ∧ ob.dict = some builtinsNs ∧ ob.data = .plain
/-- what is tracked of it: lists and empty tables, none of them a thing of K -/
structure Trk (P : Program) (w : World) (K : PySem.W.Frag) (s : Shared) (H : Hp) : Prop where
  ok : HOk P w H s.heap
  sort : ∀ b o, s.heap.get? b = some o → H b ≠ none → (∃ vs n, o.data = .seq vs n) ∨ o.data = .fields #[]
  notK : ∀ b, H b ≠ none → K.lookup b = none
section
variable {P : Program} {w : World} {K : PySem.W.Frag} {mg mb : Str → Option Value} {s : Shared} {cs : List (Addr × Addr)} {H : Hp}
theorem Trk.get (t : Trk P w K s H) {b : Addr} {o : Obj} (e : s.heap.get? b = some o) (h1 : ∀ vs n, o.data ≠ .seq vs n) (h2 : o.data ≠ .fields #[]) : (hidT s.heap H).get? b = some o := hidT_get e (by
  cases q : H b with
  | none => rfl
  | some u =>
    rcases t.sort b o e (by rw [q]; simp) with ⟨vs, n, z⟩ | z
    · exact absurd z (h1 vs n)
    · exact absurd z h2)
theorem Trk.ns (t : Trk P w K s H) {b : Addr} {m : Str → Option Value} (h : s.heap.Ns b m) : (hidT s.heap H).Ns b m := by
  obtain ⟨o, es, ep, e, d, r⟩ := h
  exact ⟨o, es, ep, t.get e (fun vs n z => by rw [d] at z; cases z) (fun z => by rw [d] at z; cases z), d, r⟩
theorem Trk.kin (t : Trk P w K s H) (S : Stand K mg mb s cs) : K.In (hidT s.heap H) := fun b o e => hidT_get (S.kin b o e) (by
  cases q : H b with
  | none => rfl
  | some u =>
    have := t.notK b (by rw [q]; simp)
    rw [this] at e
    cases e)
theorem Trk.mod (t : Trk P w K s H) (S : Stand K mg mb s cs) : L2.Mod K mg (hidT s.heap H) := by
  obtain ⟨mc, h1, h2⟩ := S.lim
  exact ⟨t.kin S, t.ns S.mns, ⟨mb, t.ns S.bns, S.boot⟩, ⟨mc, t.ns h1, h2⟩⟩
theorem Trk.env (t : Trk P w K s H) (S : Stand K mg mb s cs) : Env0 P w K mg (hidT s.heap H) callerA [] s H where
  frames := rfl
  mod := t.mod S
  bs := fun b o e => of_hidT e
  bsz := Nat.le_of_eq (hidT_size _ _)
  funs := trivial
  frf := fun b hb => absurd hb (by simp [frs])
  hok := t.ok
  bare := .of_eq S.gens
theorem Trk.tabB (t : Trk P w K s H) (S : Stand K mg mb s cs) : ∀ p ∈ cs, TabB (hidT s.heap H) mg p.1 p.2 := fun p hp => by
  have hT := S.tab p hp
  refine ⟨?_, ?_, fun z => ?_⟩
  · obtain ⟨o, us, file, tf, flags, tg, inF, text, tt, e1, r1, r2, r3, rest⟩ := S.code p hp
    refine ⟨o, us, file, tf, flags, tg, inF, text, tt, t.get e1 (fun vs n z => ?_) (fun z => ?_), r1, r2, r3, rest⟩
    · rw [r2] at z
      cases z
    · rw [r2] at z
      cases z
      simp at r3
  · obtain ⟨bm, ob, b1, b2, b3, b4, b5, b6⟩ := S.bm
    have e := t.get b3 (fun vs n z => by rw [b6] at z; cases z) (fun z => by rw [b6] at z; cases z)
    refine ⟨bm, ob, b1, b2, fun q => ?_, fun q => ?_, e, b4, b5, b6⟩
    · obtain ⟨o, es, ep, e', hd, _⟩ := S.mns
      rw [q, e'] at b3
      cases b3
      rw [hd] at b6
      cases b6
    · rw [q, hT] at b3
      cases b3
      cases b6
  · obtain ⟨o, es, ep, e', hd, _⟩ := S.mns
    rw [z, hT] at e'
    cases e'
    cases hd
/-- the tables alone -/
def tabH (cs : List (Addr × Addr)) : Hp := fun b => if b ∈ cs.map (·.2) then some (.tbl #[]) else none
theorem tabH_at {p : Addr × Addr} (h : p ∈ cs) : tabH cs p.2 = some (.tbl #[]) := if_pos (List.mem_map.mpr ⟨p, h, rfl⟩)
theorem tabH_some {b : Addr} {u : HO} (h : tabH cs b = some u) : (∃ p, p ∈ cs ∧ p.2 = b) ∧ u = .tbl #[] := by
  unfold tabH at h
  split at h
  · rename_i q
    obtain ⟨p, hp, e⟩ := List.mem_map.mp q
    exact ⟨⟨p, hp, e⟩, (Option.some.inj h).symm⟩
  · cases h
variable {k n : Nat} {fa a : Addr} {sp : Sp} {vs : List Value} {ns : List Int}
/-- what has happened when the law has come back with True -/
theorem done_top (S : Stand K mg mb s cs) (t : Trk P w K s H) (hT : ∀ p ∈ cs, H p.2 = some (.tbl #[])) (hS : ∀ b u, H b = some u → (∃ p, p ∈ cs ∧ p.2 = b) ∨ ∃ o xs, u = .frz o xs) {r : Result} {s' : Shared}
    (h : CR CX0 [] P w H s (fun v _ => v = .bl true) (fun _ _ _ => False) r s') : r = .ok (.ret (.bool true)) ∧ OldK s.heap s'.heap ∧ s'.os = s.os ∧ AllBare s'.gens := by
  cases r with
  | error e => exact False.elim h
  | ok fl =>
    cases fl with
    | next => exact False.elim h
    | brk => exact False.elim h
    | cont => exact False.elim h
    | ret u =>
      obtain ⟨v, H', h1, h2, un, ok', rv, q⟩ := h
      have q : v = .bl true := q
      subst q
      obtain rfl : u = Value.bool true := rv
      have same : ∀ b o, (¬ ∃ p, p ∈ cs ∧ p.2 = b) → s.heap.get? b = some o → s'.heap.get? b = some o := fun b o hn e => by
        cases z : H b with
        | none => exact un.keep b o e z (by simp [frs]) (by simp)
        | some u =>
          rcases hS b u z with y | ⟨ob, xs, rfl⟩
          · exact absurd y hn
          · have g1 := (t.ok b _ z).1
            have g2 := (ok' b _ (un.frzs b ob _ z)).1
            rw [e] at g1
            rw [g2, ← g1]
      have more : ∀ p, p ∈ cs → ∃ ms : Array Value, s'.heap.get? p.2 = some { cls := .none, data := .fields ms } := fun p hp => by
        obtain ⟨ms, z⟩ := un.tbls p.2 #[] (hT p hp)
        exact ⟨_, ok' p.2 _ z⟩
      refine ⟨rfl, ⟨fun b o e => ?_, fun b o e => ?_⟩, h1, h2⟩
      · by_cases hb : ∃ p, p ∈ cs ∧ p.2 = b
        · obtain ⟨p, hp, rfl⟩ := hb
          obtain ⟨ms, z⟩ := more p hp
          have e2 := S.tab p hp
          rw [e2] at e
          obtain rfl := Option.some.inj e
          exact .inr (.inl ⟨((S.code p hp).tab e2).isCodeTable, rfl, #[], ms, rfl, by rw [Array.empty_append]; exact z⟩)
        · exact .inl (same b o hb e)
      · by_cases hb : ∃ p, p ∈ cs ∧ p.2 = b
        · obtain ⟨p, hp, rfl⟩ := hb
          obtain ⟨ms, z⟩ := more p hp
          exact ⟨_, z⟩
        · exact ⟨o, same b o hb e⟩
theorem call_top (S : Stand K mg mb s cs) (ha : s.heap.get? a = some { cls := .type "list", data := .seq vs.toArray }) (hi : IntsAre vs ns) (hl : ns.length ≤ sizeLine) (hr : Room k callerA)
    (F : ∀ base : Heap, K.In base → base.Ns mainGlobals mg → (∀ p ∈ cs, TabB base mg p.1 p.2) → FnG P w K mg base CX0 k fa n sp)
    (hsp : ∀ H : Hp, (∀ p ∈ cs, H p.2 = some (.tbl #[])) → SqL K H a (ns.map V.int) → sp [.ref a] H (fun v _ => v = .bl true) fun _ _ _ => False) :
    codeAny (model P w) callerA (.call (.ref fa) ⟨[.ref a], []⟩) (fun r s' => r = .ok (.ret (.bool true)) ∧ OldK s.heap s'.heap ∧ s'.os = s.os ∧ AllBare s'.gens) s := by
  have rv := vals_ints hi
  have go : ∀ H : Hp, Trk P w K s H → (∀ p ∈ cs, H p.2 = some (.tbl #[])) → (∀ b u, H b = some u → (∃ p, p ∈ cs ∧ p.2 = b) ∨ ∃ o xs, u = .frz o xs) → SqL K H a (ns.map V.int) →
      codeAny (model P w) callerA (.call (.ref fa) ⟨[.ref a], []⟩) (fun r s' => r = .ok (.ret (.bool true)) ∧ OldK s.heap s'.heap ∧ s'.os = s.os ∧ AllBare s'.gens) s := fun H t hT hS hq =>
    codeAny_mono ((F _ (t.kin S) (t.ns S.mns) (t.tabB S)).run callerA [] s H [.ref a] [.ref a] _ _ hr rfl (t.env S) (.cons rfl .nil) (hsp H hT hq)) fun r s' h => done_top S t hT hS h
  have notT : ¬ ∃ p, p ∈ cs ∧ p.2 = a := fun ⟨p, hp, e⟩ => by
    have z := S.tab p hp
    rw [e, ha] at z
    have z' : Data.seq vs.toArray _ = Data.fields #[] := congrArg Obj.data (Option.some.inj z)
    cases z'
  have tabsOk : ∀ b u, tabH cs b = some u → ObjOk P w (tabH cs) s.heap b u := fun b u h => by
    obtain ⟨⟨p, hp, rfl⟩, rfl⟩ := tabH_some h
    exact S.tab p hp
  cases hk : K.lookup a with
  | some o =>
    have e := S.kin a o hk
    rw [ha] at e
    obtain rfl := Option.some.inj e
    refine go (tabH cs) ⟨tabsOk, fun b o e h => ?_, fun b h => ?_⟩ (fun p hp => tabH_at hp) (fun b u h => .inl (tabH_some h).1) (.inr ⟨_, vs.toArray, _, hk, rfl, rfl, rfl, by rw [List.size_toArray, hi.length]; exact hl, by simpa using rv⟩)
    · cases q : tabH cs b with
      | none => exact absurd q h
      | some u =>
        obtain ⟨⟨p, hp, rfl⟩, _⟩ := tabH_some q
        rw [S.tab p hp] at e
        obtain rfl := Option.some.inj e
        exact .inr rfl
    · cases q : tabH cs b with
      | none => exact absurd q h
      | some u =>
        obtain ⟨⟨p, hp, rfl⟩, _⟩ := tabH_some q
        exact S.notK p hp
  | none =>
    let ob : Obj := { cls := .type "list", data := .seq vs.toArray }
    let H : Hp := fun b => if b = a then some (.frz ob (.lst (ns.map V.int))) else tabH cs b
    have Ha : H a = some (.frz ob (.lst (ns.map V.int))) := if_pos rfl
    have Hn : ∀ b, b ≠ a → H b = tabH cs b := fun b h => if_neg h
    have Hs : ∀ b u, H b = some u → (b = a ∧ u = .frz ob (.lst (ns.map V.int))) ∨ ((∃ p, p ∈ cs ∧ p.2 = b) ∧ u = .tbl #[]) := fun b u h => by
      by_cases hb : b = a
      · rw [hb, Ha] at h
        exact .inl ⟨hb, (Option.some.inj h).symm⟩
      · rw [Hn b hb] at h
        exact .inr (tabH_some h)
    have hT : ∀ p ∈ cs, H p.2 = some (.tbl #[]) := fun p hp => by
      rw [Hn _ fun z => notT ⟨p, hp, z⟩]
      exact tabH_at hp
    refine go H ⟨fun b u h => ?_, fun b o e h => ?_, fun b h => ?_⟩ hT (fun b u h => ?_) (.inl (.inr ⟨ob, Ha⟩))
    · rcases Hs b u h with ⟨rfl, rfl⟩ | ⟨⟨p, hp, rfl⟩, rfl⟩
      · exact ⟨ha, by rw [List.length_map]; exact hl, vs, _, rv, ha⟩
      · exact S.tab p hp
    · cases q : H b with
      | none => exact absurd q h
      | some u =>
        rcases Hs b u q with ⟨rfl, _⟩ | ⟨⟨p, hp, rfl⟩, _⟩
        · rw [ha] at e
          obtain rfl := Option.some.inj e
          exact .inl ⟨_, _, rfl⟩
        · rw [S.tab p hp] at e
          obtain rfl := Option.some.inj e
          exact .inr rfl
    · cases q : H b with
      | none => exact absurd q h
      | some u =>
        rcases Hs b u q with ⟨rfl, _⟩ | ⟨⟨p, hp, rfl⟩, _⟩
        · exact hk
        · exact S.notK p hp
    · rcases Hs b u h with ⟨rfl, rfl⟩ | ⟨z, _⟩
      · exact .inr ⟨_, _, rfl⟩
      · exact .inl z
end
end Gd
end

section
set_option Elab.async false
set_option linter.all false
set_option maxRecDepth 100000
set_option maxHeartbeats 4000000
namespace K50
open PySem PySem.Spec PyProof.Rows L2 He Cn Evl DtU RpV RpD SqI ExT LcS
section
variable {P : Program} {w : World} {K : PySem.W.Frag} {mg : Str → Option Value} {base : Heap}
theorem q_tparE {ta tb : TE} {i j : Nat} {tz : TS} {D : Ends} {σ : L2.St} {H : Hp} (h : ta σ H fun x H1 => tb σ H1 fun y H2 => ∃ v w, [x, y] = [v, w] ∧ tz D ((σ.set i (some v)).set j (some w)) H2) : tSeq (tPar i j (tCons ta (tCons tb tNil))) tz D σ H := h
/-- repr of what a call gives -/
theorem ev_reprX {σ : L2.St} {H : Hp} {te : TE} {e : PyData} (h : ∀ H1, Ex H H1 → ∀ Q : VK, (∀ u H2, Ex H1 H2 → Du H2 u e → Q u H2) → te σ H1 Q) (hok : ShOk e) : Ev (tCB (rReprG K) (tCons te tNil)) σ H (.str e.shown) := fun H1 x Q q =>
  h H1 x _ fun u H2 e2 hu => ⟨u, e, rfl, hu.w, hok, q H2 e2⟩
theorem _root_.DtU.Val.nod3 {d : PyData} (h : Val 3 d) : nod d < 5000 ∧ d.depth ≤ 50 ∧ nod (pl d) ≤ 300 ∧ (pl d).depth ≤ 6 := by
  have q := h.bq
  have b := bn3
  exact ⟨by have := q.1.nd; omega, by have := q.1.dp; omega, by have := q.2.nd; omega, q.2.dp⟩
theorem rec_eq : RecE 3 (spEq 3) := fun x y d H Q E hx hy hv k => ⟨x, y, d, rfl, hx, hy, hv, k⟩
theorem rec_are : RecE 3 (spAre 3) := fun x y d H Q E hx hy hv k => ⟨x, y, d, rfl, hx, hy, hv, hv.nod3.1, hv.nod3.2.1, k⟩
def spLaw (K : PySem.W.Frag) : Sp := fun vs H Q _ => ∃ (a : Addr) (ns : List Int), vs = [.ref a] ∧ SqL K H a (ns.map V.int) ∧ ns.length ≤ 63 ∧ ∀ H', Q (.bl true) H'
theorem bk_fr {H H' : Hp} {dm c gm b : Addr} {sp : Int} (M : MAt H dm c gm sp) (f : Fr2 dm gm H H') (h : Bk K H b) : Bk K H' b := by
  obtain ⟨dx, fs, h1, h2⟩ := h
  obtain ⟨gs, _, m3⟩ := M.great
  exact ⟨dx, fs, f _ _ h1 (fun z => by rw [z, M.ob] at h1; cases h1) (fun z => by rw [z, m3] at h1; cases h1), h2⟩
theorem dp_some {G : Hp} {k : Nat} {b : Addr} (h : Dp G k b) : G b ≠ none := by
  obtain ⟨ds, h1, _⟩ := h
  obtain ⟨_, ys, e, h2, _⟩ := inv_lst0 h1
  cases e
  rw [h2]
  simp
theorem rd_book {σ : L2.St} {H : Hp} {Q : VK} (fin : ∀ b H', H b = none → Ex H H' → Bk K H' b → Q (.ref b) H') : StX.tMakeR (kB K) (spBInit K) E0 tNil σ H Q := mk_book fin
theorem ok_law (T : Txt K mg) {fd : FuncData} (F : Fun K "law" "law" s_law (ga K "law") fd) : Gd.FnG P w K mg base CX0 14 (ga K "law") 1 (spLaw K) := by
  have CT : Gd.CanG P w K mg base CX0 13 "_law_twice_right" spTwice := can_twice T
  have CB : Can P w K mg base CX0 2 "_law_begun" ["script"] (spBegun K) := can_begun T
  have FB : FnR P w K mg base CX0 2 (ma K (kB K) "__init__") (spBInit K) := fnr_book T
  have CV : Can P w K mg base CX0 7 "_law_value" ["m", "deep"] (spValue 3) := can_value T 3
  have CL : Can P w K mg base CX0 6 "_law_data" ["part"] (spPlain 3) := can_ldata T 3
  have CP : Can P w K mg base CX0 8 "plain" ["value"] (spPlainW 3) := can_plain T 3
  have C1 : Can1 P w K mg base CX0 8 "plain" "value" (spPlainW 3) := can_plain1 T 3
  obtain ⟨fdR, FR, bR⟩ := ok_read (P := P) (w := w) (base := base) T 3
  have CS : Can P w K mg base CX0 6 "_law_same" ["near", "far"] (spEq 3) := can_same T 3
  have CA : Can P w K mg base CX0 11 "are_equal" ["one", "other"] (spAre 3) := can_are T 3
  have CX : Can P w K mg base CX0 8 "_law_spoilt" ["data"] (spSpoilt 6) := can_spoilt T 6
  obtain ⟨oc, od, kV, doc, pm, an, cdv, ct, osl, rfl, lk, hcd⟩ := F.ex
  have hS : RpD.SysD K := T.sysd
  refine Gd.fng_of (k := 13) (ps := ["script"]) lk hcd sc_law (fun vs H Q E h => ?_) (fun us hl => match us, hl with | [_], _ => rfl) (fun A outer s H vs Q E hg hr h => ?_)
  · obtain ⟨a, ns, rfl, _⟩ := h
    rfl
  · obtain ⟨a, ns, rfl, S, hlen, fin⟩ := h
    have nd := sc_law.nd
    suffices hh : ∃ t, PSs (cxOf CX0 P w K mg base ["script", "m", "book", "bout", "thing", "due", "before", "told", "back"] "law" (defScope s_law) (ga K "law") cdv A outer s H E).nox (defBody s_law) t ∧ t { nx := fun _ H' => Q .non H', rt := Q } (start ["script", "m", "book", "bout", "thing", "due", "before", "told", "back"] [.ref a]) H from (by
      obtain ⟨t, h1, h2⟩ := hh
      exact ⟨t, h1.nox, h2⟩)
    have hu : (A.deeper (envOfC "law" (defScope s_law) s.heap.objs.size (ga K "law") cdv)).units + 25 < cLine := by have := hr.un; omega
    refine ⟨_, pss_cons (ps_if (pt_not (pt_val (Gd.pe_canG0 CT hg hr pass0))) (pss_one (ps_ret pe_bl)) pss_nil)
      (pss_cons (ps_set (i := 1) nd rfl (.inl rfl) (pe_can CB hr pass0 (pa_cons (pv 0) pa_nil)))
      (pss_cons (ps_set (i := 2) nd rfl (.inl rfl) (OwD.pe_make0 T.bmk FB (hr.mono (by decide)) rfl T.g_Book pass0))
      (pss_cons (ps_for PassesOwn.never rfl (pi_range1 rfl T.n_range (pa_cons pe_int pa_nil)) (pg_name (i := 3) nd rfl (.inl rfl))
        (pss_cons (ps_set (i := 4) nd rfl (.inl rfl) (pe_can CV hr pass0 (pa_cons (pv 1) (pa_cons pe_int pa_nil))))
        (pss_cons (ps_par (i := 5) (j := 6) (by rfl) nd rfl rfl (by decide) rfl rfl (pa_cons (pe_can CL hr pass0 (pa_cons (pv 4) pa_nil)) (pa_cons (pe_callB (call_repr_big hg hu hS) (by rfl) T.n_repr (by decide +kernel) (pa_cons (pv 4) pa_nil)) pa_nil)) (by rfl))
        (pss_cons (ps_set (i := 7) nd rfl (.inl rfl) (pe_can CP hr pass0 (pa_cons (pv 4) pa_nil)))
        (pss_cons (ps_if (PW.pt (pw_or (pt_cmpR op_ne (pe_callB (call_repr_big hg hu hS) (by rfl) T.n_repr (by decide +kernel) (pa_cons (pv 7) pa_nil)) (pe_callB (call_repr_big hg hu hS) (by rfl) T.n_repr (by decide +kernel) (pa_cons (pv 5) pa_nil)) (nomark _))
            (pw_or (pt_cmpR op_ne (pe_callB (call_repr_big hg hu hS) (by rfl) T.n_repr (by decide +kernel) (pa_cons (pe_can1 C1 hr pass0 (pk_cons (pv 4) pk_nil)) pa_nil)) (pe_callB (call_repr_big hg hu hS) (by rfl) T.n_repr (by decide +kernel) (pa_cons (pv 5) pa_nil)) (nomark _))
            (pw_or1 (pt_cmpR op_ne (pe_callB (call_repr_big hg hu hS) (by rfl) T.n_repr (by decide +kernel) (pa_cons (pv 4) pa_nil)) (pv 6) (nomark _)))))) (pss_one (ps_ret pe_bl)) pss_nil)
        (pss_cons (ps_set (i := 8) nd rfl (.inl rfl) (pe_meth (pv 2) T.cls T.m_read FR (hr.mono (by decide)) bR .nil pass0 (pa_cons (pv 7) pa_nil)))
        (pss_cons (ps_if (PW.pt (pw_or (pt_not (pt_val (pe_can CS hr pass0 (pa_cons (pv 8) (pa_cons (pv 4) pa_nil)))))
            (pw_or (pt_not (pt_val (pe_can CA hr pass0 (pa_cons (pv 8) (pa_cons (pv 4) pa_nil)))))
            (pw_or1 (pt_cmpR op_ne (pe_callB (call_repr_big hg hu hS) (by rfl) T.n_repr (by decide +kernel) (pa_cons (pv 7) pa_nil)) (pe_callB (call_repr_big hg hu hS) (by rfl) T.n_repr (by decide +kernel) (pa_cons (pv 5) pa_nil)) (nomark _)))))) (pss_one (ps_ret pe_bl)) pss_nil)
        (pss_cons (ps_expr (pe_can CX hr pass0 (pa_cons (pv 7) pa_nil)))
        (pss_one (ps_if (PW.pt (pw_or (pt_cmpR op_ne (pe_callB (call_repr_big hg hu hS) (by rfl) T.n_repr (by decide +kernel) (pa_cons (pv 4) pa_nil)) (pv 6) (nomark _))
            (pw_or (pt_cmpR op_ne (pe_callB (call_repr_big hg hu hS) (by rfl) T.n_repr (by decide +kernel) (pa_cons (pv 8) pa_nil)) (pv 6) (nomark _))
            (pw_or1 (pt_cmpR op_ne (pe_callB (call_repr_big hg hu hS) (by rfl) T.n_repr (by decide +kernel) (pa_cons (pe_can CP hr pass0 (pa_cons (pv 4) pa_nil)) pa_nil)) (pe_callB (call_repr_big hg hu hS) (by rfl) T.n_repr (by decide +kernel) (pa_cons (pv 5) pa_nil)) (nomark _)))))) (pss_one (ps_ret pe_bl)) pss_nil))))))))))
      (pss_one (ps_ret pe_bl))))), ?_⟩
    refine q_when (b := false) (et_is (et_not (a := true) (et_B fun H1 e Q q => ⟨rfl, fun H' e' => q H' e'⟩)) rfl) (fun h => by cases h) fun _ H1 e1 => ?_
    refine q_asgE ?_
    refine ⟨_, rfl, a, ns, rfl, ex_l e1 S, hlen, fun dm c gm H2 hd hc hg' e2 M2 => ?_⟩
    refine q_asgE ?_
    refine rd_book fun b H3 hb e3 hB => ?_
    refine q_forR1 (n := 10) (ea_cons ev_c ea_nil) (by decide) (fun i σ H' => ∃ (w3 w4 w5 w6 w7 w8 : Option V) (sp : Int), σ = [some (.ref a), some (.ref dm), some (.ref b), w3, w4, w5, w6, w7, w8] ∧ MAt H' dm c gm sp ∧ 0 ≤ sp ∧ sp ≤ 146 * (i : Int) ∧ Bk K H' b) ?_ ?_ ?_
    · intro H4 e4
      exact ⟨_, _, _, _, _, _, 0, rfl, mat_ex (e3.trans e4) M2, by omega, by omega, hB.ex e4⟩
    · rintro i σ' H0 hi ⟨w3, w4, w5, w6, w7, w8, sp, rfl, M0, s0, s1, hB0⟩
      have hdc : ((dc 3 : Nat) : Int) = 146 := by decide
      -- thing
      refine q_asgE ?_
      refine ⟨_, rfl, dm, c, gm, sp, rfl, M0, s0, by omega, fun v H1 sp1 a1 a2 M1 f1 hv => ?_⟩
      obtain ⟨d, hd0, hval⟩ := hv
      obtain ⟨n1, n2, n3, n4⟩ := hval.nod3
      have hB1 := bk_fr M0 f1 hB0
      have hd1 : Du H1 v d := hd0.ex nw_ex
      have okd := hval.sh (by decide)
      have okp := hval.shP (by decide)
      -- due, before
      refine q_tparE ?_
      refine ⟨_, rfl, v, d, rfl, hd1, hval, fun due H2 e12 hdue => ?_⟩
      refine ev_reprB (K := K) (d := d) (ev_var (v := v) rfl) (hd1.ex e12).w okd H2 (Ex.refl H2) _ fun H3 e23 => ⟨_, _, rfl, ?_⟩
      have e13 := e12.trans e23
      have hdue3 : Du H3 due (pl d) := (hdue.ex nw_ex).ex e23
      -- told
      refine q_asgE ?_
      refine ⟨_, rfl, v, d, rfl, hd1.ex e13, hval, n1, n2, fun told H4 e34 htold => ?_⟩
      have e14 := e13.trans e34
      have ht4 : Du H4 told (pl d) := htold.ex nw_ex
      refine q_when (b := false) (et_is (et_or (et_test (ev_op (ev_reprB (K := K) (ev_var (v := told) rfl) ht4.w okp) (ev_reprB (K := K) (ev_var (v := due) rfl) (hdue3.ex e34).w okp) (rv_ne rfl))) fun _ => et_or (et_test (ev_op (ev_reprX (e := pl d) (fun H' e' Q' q' => ⟨_, rfl, v, d, rfl, (hd1.ex e14).ex e', hval, n1, n2, fun u H'' e'' hu => q' u H'' e'' (hu.ex nw_ex)⟩) okp) (ev_reprB (K := K) (ev_var (v := due) rfl) (hdue3.ex e34).w okp) (rv_ne rfl))) fun _ => et_test (ev_op (ev_reprB (K := K) (ev_var (v := v) rfl) (hd1.ex e14).w okd) (ev_var (v := .str d.shown) rfl) (rv_ne rfl))) (by simp)) (fun h => by cases h) fun _ H5 e45 => ?_
      have e15 := e14.trans e45
      -- back
      refine q_asgE ?_
      obtain ⟨dx, fs, b1, b2, _⟩ := hB1.ex e15
      refine ⟨_, rfl, b, dx, fs, rfl, b1, b2, _, rfl, b, told, d, rfl, hB1.ex e15, ht4.ex e45, hval, by decide, by omega, by omega, fun back H6 e56 hback => ?_⟩
      have e16 := e15.trans e56
      have hb6 : Du H6 back d := hback.ex nw_ex
      have e46 := e45.trans e56
      have e36 := e34.trans e46
      refine q_when (b := false) (et_is (et_or (et_not (a := true) (et_B (ev_rec rec_eq (ev_var (v := back) rfl) (ev_var (v := v) rfl) hb6 (hd1.ex e16) hval))) fun _ => et_or (et_not (a := true) (et_B (ev_rec rec_are (ev_var (v := back) rfl) (ev_var (v := v) rfl) hb6 (hd1.ex e16) hval))) fun _ => et_test (ev_op (ev_reprB (K := K) (ev_var (v := told) rfl) (ht4.ex e46).w okp) (ev_reprB (K := K) (ev_var (v := due) rfl) (hdue3.ex e36).w okp) (rv_ne rfl))) (by simp)) (fun h => by cases h) fun _ H7 e67 => ?_
      -- spoilt
      have e47 := e46.trans e67
      have hc := cst_nod (pl d)
      refine ⟨_, rfl, told, nw H3 H4, pl d, 0, rfl, htold, n4, Spo.of (nw_ex.trans e47), by omega, fun H8 hsp fr => ?_⟩
      have e38 : Ex H3 H8 := fun b o h => fr b o (e34.trans e47 _ _ h) fun z => dp_some z (by unfold nw; rw [h])
      have eB8 : Ex (nw H5 H6) H8 := fun b o h => fr b o (e67 _ _ (nw_some h).2) fun z => dp_some z (by
        have : H4 b = none := fresh_back e45 (nw_some h).1
        unfold nw
        cases q : H3 b with
        | none => exact this
        | some o => rfl)
      have e18 := e13.trans e38
      have hd8 := hd1.ex e18
      refine s_when (b := false) (et_is (et_or (et_test (ev_op (ev_reprB (K := K) (ev_var (v := v) rfl) hd8.w okd) (ev_var (v := .str d.shown) rfl) (rv_ne rfl))) fun _ => et_or (et_test (ev_op (ev_reprB (K := K) (ev_var (v := back) rfl) (hback.ex eB8).w okd) (ev_var (v := .str d.shown) rfl) (rv_ne rfl))) fun _ => et_test (ev_op (ev_reprX (e := pl d) (fun H' e' Q' q' => ⟨_, rfl, v, d, rfl, hd8.ex e', hval, n1, n2, fun u H'' e'' hu => q' u H'' e'' (hu.ex nw_ex)⟩) okp) (ev_reprB (K := K) (ev_var (v := due) rfl) (hdue3.ex e38).w okp) (rv_ne rfl))) (by simp)) (fun h => by cases h) fun _ H9 e89 => ?_
      exact ⟨_, _, _, _, _, _, sp1, rfl, mat_ex (e18.trans e89) M1, by omega, by omega, hB1.ex (e18.trans e89)⟩
    · rintro σ' H0 ⟨w3, w4, w5, w6, w7, w8, sp, rfl, M0, s0, s1, hB0⟩
      exact s_ret ev_c fun H4 e4 => fin H4
end
end K50
end

section
set_option Elab.async false
set_option linter.all false
set_option maxRecDepth 100000
set_option maxHeartbeats 4000000
namespace K50
open PySem PySem.Spec PyProof.Rows L2 He Cn Evl
abbrev lw : PySem.W.OpenLaw := PySem.Challenge.rw_recordcraft_k50_whole_plain_values
theorem walk_law {d : DefRec} (hn : d.name = "law") (hd : d.params.defaults = []) : PySem.W.WalkO qv names (PySem.W.XL qv []) hk.says R.toRowW d [] fun f vs => PySem.call f vs := by
  refine Att.attach_callB (l := lw) (n := 63) rfl hd fun w s₀ s₁ mg mb f o pm cd doc a vs ns G Y ho hd' hcd hmg hobj hints hlen hbits hg => ?_
  obtain ⟨K, hK, c⟩ := Y
  rw [hn] at hmg
  have T : Txt K mg := txt_of hK G.T.g c
  obtain ⟨fd, F⟩ := T.F_law
  have ef : f = ga K "law" := by
    have q := T.g_law
    rw [hmg] at q
    have q' := Option.some.inj q
    injection q'
  subst ef
  have S : Gd.Stand K mg mb s₁ [] :=
    ⟨hK, G.T.g, G.T.b, G.T.builtins, G.T.nolimit, hg, (fun p hp => nomatch hp), (fun p hp => nomatch hp), (fun p hp => nomatch hp), G.T.bmain⟩
  exact Gd.call_top (k := 14) S hobj hints (Nat.le_trans hlen (by decide)) ⟨rfl, by decide, by decide⟩ (fun base hKb hG TB => ok_law T F) fun H hT hS => ⟨a, ns, rfl, hS, hlen, fun _ => rfl⟩
end K50
end

section
set_option Elab.async false
set_option linter.all false
set_option maxRecDepth 100000
set_option maxHeartbeats 0
open PySem PySem.W PySem.Calls PyProof.Rows
theorem PySem.Challenge.cw_recordcraft_k50_whole_plain_values_holds : PySem.Challenge.rw_recordcraft_k50_whole_plain_values.Holds := by
  w_on; o_law
  refine HandSHeadRun.head_any (r := OpenLaw.row PySem.Challenge.rw_recordcraft_k50_whole_plain_values) (q := K50.qv) (H := K50.hk) (ob := K50.ob) (M := 20000) (loose := K50.names) (kwd := []) K50.ob_eq (by kernel_rfl) (fun s => by kernel_rfl) K50.run (by rfl) (by rfl) (by rfl) (by rfl) (by first | assumption | decide +kernel) (by decide +kernel) ⟨rfl, rfl, rfl, rfl, rfl, by decide +kernel⟩ ?hw ?hc
  case hw => w_witness2
  case hc => exact K50.walk_law rfl rfl
end
