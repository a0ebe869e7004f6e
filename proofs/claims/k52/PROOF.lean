import PyProof.Rows.All
import Wide.All
import OpenK.AllK
import Wide.FinOn
import KE.KNest
import KE.KNestM
import HandS.Base
import HandS.Call
import HandS.List
import HandS.Dict
import HandS.More
import HandS.Exc
import HandS.ExcInit
import HandS.ExcField
import HandS.Defaults
import HandS.Lambda
import HandS.EndTab
import HandS.HeadHook1
import HandS.HeadHook2
import HandS.HeadHook3
import HandS.HeadHook4
import HandS.HeadNt
import HandS.HeadWalk
import HandS.Star
import HandS.ForMost
import HandS.Evl
import HandS.TryOnly
import HandS.WordsExc
import HandS.IsInst
import HandS.ClsMeth
import HandS.DictComp
import HandS.TupAny
import HandS.Walk
import HandS.Flow
import HandS.Property
import PySem.Challenge.RW_recordcraft_k52_books_by_hand
import KE.KStateDown
import Lean
import HandS.Head0
import HandS.Head1
import HandS.Head2
import PyProof.EqAt
import PyProof.EqKinds
import PyProof.NeKinds
import PyProof.InstEq
import PyProof.TupleCall
import HandS.Strs
import KE.GoesMore
import KE.GoesEnum
import HandS.Comp
import HandS.Iter
import HandS.Style
import KE.KStar
import KE.KCallOwn
import HandS.Slots
import HandS.Words
import PyProof.DictValues
import KE.KDictList
import HandS.ListItems
import KE.KIsAll
import KE.KTryMore
import HandS.ExcIs
import HandS.ExcValue
import HandS.Conv
import HandS.RevTup
import HandS.Text
import HandS.WordsDict
import HandS.CallRecv
section
set_option Elab.async false
set_option linter.all false
set_option maxRecDepth 100000
set_option maxHeartbeats 2000000
/-! a Hook that tells: facts, defs at any address, further Bools, empty tables of code objects that are left out -/
namespace HkQ
open PySem PySem.Spec PyProof.Rows L2 He
abbrev Frag := PySem.W.Frag
/-- the table of a code object at an address -/
abbrev TabF := Frag → Addr
def cOf (K : Frag) (a : Addr) : Addr := match K.lookup a with
  | some ⟨_, _, .func fd, _⟩ => (match fd.code with
    | .ref c => c
    | _ => 0)
  | _ => 0
theorem cOf_eq {K : Frag} {a : Addr} {oc : Value} {od : Option Addr} {osl : Array (Option Value)} {fd : FuncData} {c : Addr} (lk : K.lookup a = some ⟨oc, od, .func fd, osl⟩) (e : fd.code = .ref c) : cOf K a = c := by
  unfold cOf
  rw [lk]
  show (match fd.code with | .ref c => c | _ => 0) = c
  rw [e]
/-- the code object of the def at a, its table -/
def cP (K : Frag) (t : TabF) : Addr × Addr := (cOf K (t K), tabOf K (cOf K (t K)))
structure SaysQ (fa : List Fa) (fn : List He5.DefA) (tf : List TabF) (exs : List (Frag → Bool)) (h : Heap) (K : Frag) : Prop where
  a : He5.SaysA fa fn K
  more : (exs.all fun f => f K) = true
  hd : ∀ t ∈ tf, PySem.W.codeHdIn K (cP K t).1 (cP K t).2 = true
  out : ∀ t ∈ tf, K.lookup (cP K t).2 = none
  empty : ∀ t ∈ tf, h.get? (cP K t).2 = some { cls := .none, data := .fields #[] }
def tabsQ (g : Addr → Option Obj) (tf : List TabF) (K : Frag) : Bool := tf.all fun t => PySem.W.codeHdIn K (cP K t).1 (cP K t).2 && (match g (cP K t).2 with
  | some o => emptyTab o
  | none => false)
abbrev AlQ : Type := AlD × Bool
def obsQ (al : List Addr) (fa : List Fa) (fn : List He5.DefA) (tf : List TabF) (exs : List (Frag → Bool)) (g : Addr → Option Obj) : AlQ :=
  (He5.obsA fa fn (frT g al), (exs.all fun f => f (frT g al)) && tabsQ g tf (frT g al))
def valQ (fn : List He5.DefA) : AlQ := (He5.valA fn, true)
theorem saysQ_of {al : List Addr} {fa : List Fa} {fn : List He5.DefA} {tf : List TabF} {exs : List (Frag → Bool)} {h : Heap} (e : obsQ al fa fn tf exs h.get? = valQ fn) : SaysQ fa fn tf exs h (frT h.get? al) := by
  have e1 : He5.obsA fa fn (frT h.get? al) = He5.valA fn := congrArg (fun z : AlQ => z.1) e
  have e2 : ((exs.all fun f => f (frT h.get? al)) && tabsQ h.get? tf (frT h.get? al)) = true := congrArg (fun z : AlQ => z.2) e
  obtain ⟨h1, h2⟩ := He.ba e2
  have key : ∀ t ∈ tf, PySem.W.codeHdIn (frT h.get? al) (cP (frT h.get? al) t).1 (cP (frT h.get? al) t).2 = true ∧ ∃ o, h.get? (cP (frT h.get? al) t).2 = some o ∧ emptyTab o = true := fun t ht => by
    obtain ⟨h3, h4⟩ := He.ba (List.all_eq_true.mp h2 t ht)
    refine ⟨h3, ?_⟩
    cases q : h.get? (cP (frT h.get? al) t).2 with
    | none =>
      rw [q] at h4
      cases h4
    | some o =>
      rw [q] at h4
      exact ⟨o, rfl, h4⟩
  refine ⟨e1, h1, fun t ht => (key t ht).1, fun t ht => ?_, fun t ht => ?_⟩
  · obtain ⟨_, o, q, z⟩ := key t ht
    exact frT_none q z
  · obtain ⟨_, o, q, z⟩ := key t ht
    rw [q, emptyTab_eq z]
def hookQ (al : List Addr) (fa : List Fa) (fn : List He5.DefA) (tf : List TabF) (exs : List (Frag → Bool)) : PySem.W.Hook where
  α := AlQ
  obs := fun s => obsQ al fa fn tf exs s.heap.get?
  val := fun _ => valQ fn
  says := fun _ h => ∃ K : Frag, K.In h ∧ SaysQ fa fn tf exs h K
  of := fun _ _ e => ⟨_, frT_in, saysQ_of e⟩
  keeps := fun _ _ _ ⟨K, hK, c⟩ k => ⟨K, PySem.W.Frag.In.keeps hK k, ⟨c.a, c.more, c.hd, c.out, fun t ht => k _ _ (c.empty t ht)⟩⟩
theorem obsQ_eq {al : List Addr} {fa : List Fa} {fn : List He5.DefA} {tf : List TabF} {exs : List (Frag → Bool)} {g : Addr → Option Obj} {s : Shared} (h : ∀ a, g a = s.heap.get? a) : obsQ al fa fn tf exs g = (hookQ al fa fn tf exs).obs s := by
  have e : g = s.heap.get? := funext h
  rw [e] <;> rfl
theorem SaysQ.ex {fa : List Fa} {fn : List He5.DefA} {tf : List TabF} {exs : List (Frag → Bool)} {h : Heap} {K : Frag} (c : SaysQ fa fn tf exs h K) (i : Nat) {f : Frag → Bool} (e : exs[i]? = some f := by rfl) : f K = true :=
  List.all_eq_true.mp c.more f (List.mem_of_getElem? e)
/-! ### further Bools -/
/-- an own exception class over ValueError, with an __init__ of its own -/
def oexB (K : Frag) (C : Addr) : Bool := (match K.lookup C with
  | some ⟨.type "type", _, .cls cd, sl⟩ => (match cd.mro, sl.toList with
    | .ref C' :: bm, [_, _, _, _, some (.builtin n), _] => C' == C && (n == "ValueError.__new__" && (!cd.hasDel && (cd.hasDict && PySem.HandSPX.refsVE bm)))
    | _, _ => false)
  | _ => false) && (eqO (PySem.W.findIn K (.ref C) "__setattr__") (some (some (.builtin "object.__setattr__"))) && (decide (PySem.W.subIn K (.ref C) (.type "BaseException") = some true) && (decide (PySem.W.typeIn K (.ref C) = some (.type "type")) && PySem.W.keepIn K (.ref C))))
theorem oexB_ok {K : Frag} {C : Addr} (h : oexB K C = true) : OexC K C := by
  obtain ⟨q, h⟩ := He.ba h
  obtain ⟨h2, h⟩ := He.ba h
  obtain ⟨h3, h⟩ := He.ba h
  obtain ⟨h4, h5⟩ := He.ba h
  refine ⟨?_, eqO_ok h2, of_decide_eq_true h3, of_decide_eq_true h4, h5⟩
  split at q
  · rename_i dd cd sl ho
    split at q
    · rename_i C' bm k0 k1 k2 k3 n k5 hm hs
      obtain ⟨g1, q⟩ := He.ba q
      obtain ⟨g2, q⟩ := He.ba q
      obtain ⟨g3, q⟩ := He.ba q
      obtain ⟨g4, g5⟩ := He.ba q
      obtain rfl := eq_of_beq g1
      obtain rfl := eq_of_beq g2
      obtain ⟨nm, bs, mro, ns, qn, hd, sn, sub, ab, col, del⟩ := cd
      dsimp only at hm g3 g4
      have g3' : del = false := by simpa using g3
      subst hm g3' g4
      have hsl : sl = #[k0, k1, k2, k3, some (.builtin "ValueError.__new__"), k5] := by
        obtain ⟨l⟩ := sl
        simp only at hs
        rw [hs]
      subst hsl
      exact ⟨nm, qn, ns, bs, bm, sn, sub, ab, col, dd, k0, k1, k2, k3, k5, ho, g5⟩
    · cases q
  · cases q
end HkQ
end

section
set_option Elab.async false
set_option linter.all false
set_option maxRecDepth 100000
set_option maxHeartbeats 2000000
/-! x in o, o[x], len(o), o + x by the class's own __contains__, __getitem__, __len__, __add__ -/
namespace OwD
open PySem PySem.Spec PyProof.Rows L2
section
variable {X : Cx} {pins : List (Addr × Obj)} {σ : L2.St} {H : Hp} {s : Shared} {CX : CXT} {k : Nat} {C f : Addr} {sp : Sp} {E : XK} {Q : VK} {us : List Value} {vs : List V}
/-- the class has the name as a def of its own at f -/
structure DunC (K : PySem.W.Frag) (C : Addr) (n : Str) (f : Addr) : Prop where
  at_ : PySem.W.findIn K (.ref C) n = some (some (.ref f))
  fn : PySem.W.isFn K (.ref f) = true
def dunB (K : PySem.W.Frag) (C : Addr) (n : Str) (f : Addr) : Bool := decide (PySem.W.findIn K (.ref C) n = some (some (.ref f))) && PySem.W.isFn K (.ref f)
theorem dunB_ok {K : PySem.W.Frag} {C : Addr} {n : Str} {f : Addr} (h : dunB K C n f = true) : DunC K C n f := by
  obtain ⟨h1, h2⟩ := Bool.and_eq_true_iff.mp h
  exact ⟨of_decide_eq_true h1, h2⟩
theorem inst_of (I : Inv X pins σ H s) {a dx : Addr} {fs : List (Str × V)} (ha : H a = some (.ins C dx fs)) : ∃ ox od, PySem.W.InstAt s.heap a ox C od := by
  obtain ⟨mA, J, _⟩ := ins_get I.hok ha
  obtain ⟨od, J, _⟩ := J.look
  exact ⟨_, _, J⟩
theorem run_dun (F : FnR X.prog X.w X.K X.mg X.base CX k f sp) (hr : Room k X.A) (hx : Passes CX X E) (I : Inv X pins σ H s) (r : Vals vs us) (h : sp vs H Q E) :
    wpAny (model X.prog X.w) X.A (call (.ref f) us) (EP X pins σ Q) X.xe s := by
  refine wpAny_call (codeAny_mono (F X.A X.stack s H us vs Q E hr I.env0 r h) fun r s' hq => ?_)
  cases r with
  | error e => exact hx pins σ H s e s' I hq
  | ok fl =>
    cases fl with
    | ret u => exact I.after hq
    | next => exact False.elim hq
    | brk => exact False.elim hq
    | cont => exact False.elim hq
/-- x in o -/
def rInO (C : Addr) (sp : Sp) (E : XK) (neg : Bool) : R2 := fun x y H Q => ∃ a dx fs, y = .ref a ∧ H a = some (.ins C dx fs) ∧ sp [.ref a, x] H (fun v H' => ∃ b, v = .bl b ∧ Q (.bl (if neg then !b else b)) H') E
theorem op_inOwn (d : DunC X.K C "__contains__" f) (F : FnR X.prog X.w X.K X.mg X.base CX k f sp) (hr : Room k X.A) (hx : Passes CX X E) : OpR X (compareOp .In) (rInO C sp E false) := by
  intro pins s σ H x y v u Q I rx ry h
  obtain ⟨a, dx, fs, rfl, ha, q⟩ := h
  obtain rfl : u = Value.ref a := ry
  obtain ⟨ox, od, J⟩ := inst_of I ha
  obtain ⟨m, hF⟩ := I.fr
  refine PySem.W.in_K hF I.ok.mod.kin J d.at_ d.fn (thn (run_dun F hr hx I (.cons (show RelV (.ref a) (.ref a) from rfl) (.cons rx .nil)) q) fun r s1 ⟨w, H1, I1, rw1, b, eb, q1⟩ => ?_)
  subst eb
  obtain rfl : r = Value.bool b := rw1
  exact wpAny_truthy_bool ⟨.bl b, H1, I1, rfl, q1⟩
theorem op_notInOwn (d : DunC X.K C "__contains__" f) (F : FnR X.prog X.w X.K X.mg X.base CX k f sp) (hr : Room k X.A) (hx : Passes CX X E) : OpR X (compareOp .NotIn) (rInO C sp E true) := by
  intro pins s σ H x y v u Q I rx ry h
  obtain ⟨a, dx, fs, rfl, ha, q⟩ := h
  obtain rfl : u = Value.ref a := ry
  obtain ⟨ox, od, J⟩ := inst_of I ha
  obtain ⟨m, hF⟩ := I.fr
  refine PySem.W.notIn_K hF I.ok.mod.kin J d.at_ d.fn (thn (run_dun F hr hx I (.cons (show RelV (.ref a) (.ref a) from rfl) (.cons rx .nil)) q) fun r s1 ⟨w, H1, I1, rw1, b, eb, q1⟩ => ?_)
  subst eb
  obtain rfl : r = Value.bool b := rw1
  exact wpAny_truthy_bool ⟨.bl (!b), H1, I1, rfl, q1⟩
/-- len(o) -/
def rLenO (C : Addr) (sp : Sp) (E : XK) : List V → Hp → VK → Prop := fun xs H Q => ∃ a dx fs, xs = [.ref a] ∧ H a = some (.ins C dx fs) ∧ sp [.ref a] H (fun v H' => ∃ i : Int, v = .int i ∧ 0 ≤ i ∧ i < 2 ^ 63 ∧ Q (.int i) H') E
theorem call_lenOwn (d : DunC X.K C "__len__" f) (F : FnR X.prog X.w X.K X.mg X.base CX k f sp) (hr : Room (k + 1) X.A) (hx : Passes CX X E) : CallR X (.builtin "len") (rLenO C sp E) := by
  intro pins s σ H xs us Q I r h
  obtain ⟨a, dx, fs, rfl, ha, q⟩ := h
  obtain ⟨u, rfl, ru⟩ := vals1 r
  obtain rfl : u = Value.ref a := ru
  obtain ⟨ox, od, J⟩ := inst_of I ha
  obtain ⟨m, hF⟩ := I.fr
  refine PySem.W.len_K hF I.ok.mod.kin J d.at_ d.fn ?_
  have e0 : Env0 X.prog X.w X.K X.mg X.base X.A.in1 X.stack s H := I.env0.in1
  refine wpAny_call (codeAny_mono (F X.A.in1 X.stack s H [.ref a] [.ref a] _ E hr.in1 e0 (.cons (show RelV (.ref a) (.ref a) from rfl) .nil) q) fun r s' hq => ?_)
  cases r with
  | error e => exact hx pins σ H s e s' I hq
  | ok fl =>
    cases fl with
    | ret u =>
      obtain ⟨w, H1, I1, rw1, i, eb, i0, i1, q1⟩ := I.after hq
      subst eb
      obtain ⟨t, rfl⟩ := rw1
      exact ⟨⟨i0, i1⟩, .int i, H1, I1.tok _, ⟨_, rfl⟩, q1⟩
    | next => exact False.elim hq
    | brk => exact False.elim hq
    | cont => exact False.elim hq
/-- o[x] -/
def rSubO (C : Addr) (sp : Sp) (E : XK) : R2 := fun x y H Q => ∃ a dx fs, x = .ref a ∧ H a = some (.ins C dx fs) ∧ sp [.ref a, y] H Q E
theorem ix_own (d : DunC X.K C "__getitem__" f) (hfn : PySem.W.fnIn X.K f = true) (F : FnR X.prog X.w X.K X.mg X.base CX k f sp) (hr : Room (k + 1) X.A) (hx : Passes CX X E) {value slice : Expr}
    (hsl : ∀ v u, subscripted slice true v u = runValue (.builtin "lifetime.subscript" ⟨[v, u], []⟩)) {ta tb : TE} {pos : Pos} (ha : PE X value ta) (hb : PE X slice tb) :
    PE X (.Subscript value slice pos) (tOp (rSubO C sp E) ta tb) := by
  refine ⟨fun pins s σ H Q I h => ?_⟩
  refine Subscript_ (binT ha hb I h fun v u s2 x y H2 I2 rx ry q => ?_)
  obtain ⟨a, dx, fs, rfl, hA, q⟩ := q
  obtain rfl : v = Value.ref a := rx
  obtain ⟨ox, od, J⟩ := inst_of I2 hA
  obtain ⟨m, hF⟩ := I2.fr
  refine PySem.W.sub_K hF I2.ok.mod.kin J d.at_ hfn d.fn ?_ (hsl _ _)
  have e0 : Env0 X.prog X.w X.K X.mg X.base X.A.in1 X.stack s2 H2 := I2.env0.in1
  refine wpAny_call (codeAny_mono (F X.A.in1 X.stack s2 H2 [.ref a, u] [.ref a, y] _ E hr.in1 e0 (.cons (show RelV (.ref a) (.ref a) from rfl) (.cons ry .nil)) q) fun r s' hq => ?_)
  cases r with
  | error e => exact hx pins σ H2 s2 e s' I2 hq
  | ok fl =>
    cases fl with
    | ret u => exact I2.after hq
    | next => exact False.elim hq
    | brk => exact False.elim hq
    | cont => exact False.elim hq
/-- o + x, both of the class -/
def rAddO (C : Addr) (sp : Sp) (E : XK) : R2 := fun x y H Q => ∃ a dx fs b dy gs, x = .ref a ∧ y = .ref b ∧ H a = some (.ins C dx fs) ∧ H b = some (.ins C dy gs) ∧ sp [.ref a, .ref b] H (fun v H' => (∃ r, v = .ref r) ∧ Q v H') E
theorem op_addOwn (d : DunC X.K C "__add__" f) (hc : PySem.W.selfFirst X.K C = true) (F : FnR X.prog X.w X.K X.mg X.base CX k f sp) (hr : Room k X.A) (hx : Passes CX X E) : OpR X (binaryOp .Add) (rAddO C sp E) := by
  intro pins s σ H x y v u Q I rx ry h
  obtain ⟨a, dx, fs, b, dy, gs, rfl, rfl, ha, hb, q⟩ := h
  obtain rfl : v = Value.ref a := rx
  obtain rfl : u = Value.ref b := ry
  obtain ⟨ox, od, J⟩ := inst_of I ha
  obtain ⟨oy, od', J'⟩ := inst_of I hb
  obtain ⟨m, hF⟩ := I.fr
  refine PySem.W.binop_K hF I.ok.mod.kin J J'.type hc d.at_ d.fn (thn (run_dun F hr hx I (.cons (show RelV (.ref a) (.ref a) from rfl) (.cons (show RelV (.ref b) (.ref b) from rfl) .nil)) q) fun r s1 ⟨w, H1, I1, rw1, ⟨p, ep⟩, q1⟩ => ?_)
  subst ep
  obtain rfl : r = Value.ref p := rw1
  exact ⟨.ref p, H1, I1, rfl, q1⟩
end
end OwD
end

section
set_option Elab.async false
set_option linter.all false
set_option maxRecDepth 100000
set_option maxHeartbeats 4000000
namespace K52
open PySem PySem.Spec PyProof.Rows L2 He
/-! ### the text by places -/
def top (i : Nat) : Stmt := PySem.Challenge.pw_recordcraft_k52_books_by_hand.main.body.getD i (.Pass ⟨0, 0, 0, 0⟩)
abbrev s_InvalidKind_init : Stmt := inClass (top 4) 0
abbrev s_InvalidBook_init : Stmt := inClass (top 17) 0
abbrev s_NoKind_init : Stmt := inClass (top 18) 0
abbrev s_line_above : Stmt := top 29
abbrev s__rows_of : Stmt := top 30
abbrev s__free_head : Stmt := top 31
abbrev s__head_of_row_with : Stmt := top 32
abbrev s__without : Stmt := top 33
abbrev s__ring_in : Stmt := top 34
abbrev s_is_name : Stmt := top 40
abbrev s_check_members : Stmt := top 81
abbrev s_check_options : Stmt := top 83
abbrev s_check_above : Stmt := top 84
abbrev s_check_mixture : Stmt := top 85
abbrev s_check_frozen : Stmt := top 86
abbrev s_check_defaults : Stmt := top 88
abbrev s_whole_members : Stmt := top 89
abbrev s__by_names : Stmt := top 95
abbrev s_Kind_init : Stmt := inClass (top 92) 2
abbrev s_Kind__declare : Stmt := inClass (top 92) 4
abbrev s_Kind__set_own : Stmt := inClass (top 92) 5
abbrev s_Kind__set_options : Stmt := inClass (top 92) 6
abbrev s_Kind__set_whole : Stmt := inClass (top 92) 7
abbrev s_Book_init : Stmt := inClass (top 94) 0
abbrev s_Book_kind_names : Stmt := inClass (top 94) 1
abbrev s_Book_len : Stmt := inClass (top 94) 7
abbrev s_Book_contains : Stmt := inClass (top 94) 8
abbrev s_Book_getitem : Stmt := inClass (top 94) 9
abbrev s_Book_add : Stmt := inClass (top 94) 11
abbrev s__law_mixed : Stmt := top 98
abbrev s__law_folded : Stmt := top 99
abbrev s__law_draw : Stmt := top 100
abbrev s__law_begun : Stmt := top 101
abbrev s__law_mixed_up : Stmt := top 102
abbrev s__law_class : Stmt := top 103
abbrev s__law_name_class : Stmt := top 104
abbrev s__law_told : Stmt := top 105
abbrev s__law_first : Stmt := top 106
abbrev s__law_made : Stmt := top 107
abbrev s__law_shown_right : Stmt := top 108
abbrev s_law : Stmt := top 109
/-- the default of Kind.__init__'s above: an empty tuple -/
def kwAbove (K : PySem.W.Frag) : Addr := match K.lookup (ma K (ga K "Kind") "__init__") with
  | some ⟨_, _, .func fd, _⟩ => (match fd.kwdefaults with
    | .ref D => (match PySem.W.nsIn K D "above" with
      | some (some (.ref a)) => a
      | _ => 0)
    | _ => 0)
  | _ => 0
def emptyTup (K : PySem.W.Frag) (a : Addr) : Bool := match K.lookup a with
  | some ⟨.type c, _, .seq its _, _⟩ => decide (c = "tuple") && decide (its.toList = [])
  | _ => false
def barred : List Str := ["and", "as", "class", "def", "else", "for", "if", "in", "is", "not", "or", "pass", "self"]
def nameSigns : Str := "ABCDEFGHIJKLMNOPQRSTUVWXYZabcdefghijklmnopqrstuvwxyz_0123456789"
def digitSigns : Str := "0123456789"
abbrev kC (K : PySem.W.Frag) : Addr := ga K "Kind"
abbrev kE (K : PySem.W.Frag) : Addr := ga K "InvalidKind"
abbrev kB (K : PySem.W.Frag) : Addr := ga K "InvalidBook"
abbrev kN (K : PySem.W.Frag) : Addr := ga K "NoKind"
abbrev kO (K : PySem.W.Frag) : Addr := ga K "Book"
abbrev kR (K : PySem.W.Frag) : Addr := ga K "RecordcraftError"
def insB (K : PySem.W.Frag) (C : Addr) : Bool := eqO (PySem.W.findIn K (.ref C) "__class__") (some (some (.builtin "object.__class__"))) && (eqO (PySem.W.specialIn K (.builtin "object.__class__") "__get__") (some (some (.builtin "getset_descriptor.__get__"))) &&
  (decide (PySem.W.takesIn K (.builtin "object.__class__") = some true) && decide (PySem.W.mroIn K C (.type "object") = some true)))
def idcB (K : PySem.W.Frag) (C : Addr) : Bool := decide (PySem.W.mroIn K C (.type "object") = some true) && (eqO (PySem.W.findIn K (.ref C) "__eq__") (some (some (.builtin "object.__eq__"))) && (eqO (PySem.W.findIn K (.ref C) "__ne__") (some (some (.builtin "object.__ne__"))) &&
  decide (PySem.W.mroIn K C (.type "NoneType") = some false)))
def linB (K : PySem.W.Frag) : Bool := (["NoneType", "str", "int", "tuple", "list"] : List String).all fun t => decide (PySem.W.kitOne K (.type t) (.ref (ga K "Lined")) = some false)
/-- of these built-in sorts nothing is a kind, or a book -/
def knB (K : PySem.W.Frag) (C : Addr) : Bool := (["NoneType", "str", "int"] : List String).all fun t => decide (PySem.W.kitOne K (.type t) (.ref C) = some false)
def propB (K : PySem.W.Frag) (C : Addr) (f : Str) : Bool := eqO (PySem.W.specialIn K (.ref (ma K C f)) "__get__") (some (some (.builtin "property.__get__"))) && (decide (PySem.W.takesIn K (.ref (ma K C f)) = some true) && (eqO (PySem.W.findIn K (.ref C) f) (some (some (.ref (ma K C f)))) && (match PySem.W.recIn K (ma K C f) "property" with
  | some (.ref _ :: _) => true
  | _ => false)))
def excB (K : PySem.W.Frag) (D : Addr) : Bool := eqO (PySem.W.findIn K (.ref D) "__class__") (some (some (.builtin "object.__class__"))) && (eqO (PySem.W.specialIn K (.builtin "object.__class__") "__get__") (some (some (.builtin "getset_descriptor.__get__"))) &&
  (decide (PySem.W.takesIn K (.builtin "object.__class__") = some true) && decide (PySem.W.mroIn K D (.type "object") = some true)))
def errNames : List Str := [("InvalidKind" : Str), ("InvalidMember" : Str), ("InvalidBook" : Str), ("InvalidData" : Str), ("ParseError" : Str), ("TooManyValues" : Str), ("LimitExceeded" : Str), ("MissingNames" : Str), ("NoEntry" : Str), ("InvalidName" : Str), ("UnknownName" : Str), ("GivenTwice" : Str), ("NoField" : Str), ("Unset" : Str), ("Frozen" : Str), ("NoKind" : Str), ("NameTaken" : Str), ("NoRecord" : Str), ("Duplicate" : Str), ("NotKeyable" : Str), ("NotOrdered" : Str), ("NothingToUndo" : Str), ("TooDeep" : Str)]
/-- the class at D is the one named x and none of the others -/
def erkB (K : PySem.W.Frag) (D : Addr) (x : Str) : Bool := errNames.all fun y => decide (PySem.W.kitOne K (.ref D) (.ref (ga K y)) = some (decide (y = x)))
/-! ### what is asked of the head -/
def d_InvalidKind_init : He5.DefA := ⟨fun K => ma K (ga K "InvalidKind") "__init__", "__init__", "InvalidKind.__init__", defArgs s_InvalidKind_init, defBody s_InvalidKind_init, defScope s_InvalidKind_init, [.non], []⟩
def d_InvalidBook_init : He5.DefA := ⟨fun K => ma K (ga K "InvalidBook") "__init__", "__init__", "InvalidBook.__init__", defArgs s_InvalidBook_init, defBody s_InvalidBook_init, defScope s_InvalidBook_init, [], []⟩
def d_NoKind_init : He5.DefA := ⟨fun K => ma K (ga K "NoKind") "__init__", "__init__", "NoKind.__init__", defArgs s_NoKind_init, defBody s_NoKind_init, defScope s_NoKind_init, [], []⟩
def d_line_above : He5.DefA := ⟨fun K => ga K "line_above", "line_above", "line_above", defArgs s_line_above, defBody s_line_above, defScope s_line_above, [], []⟩
def d__rows_of : He5.DefA := ⟨fun K => ga K "_rows_of", "_rows_of", "_rows_of", defArgs s__rows_of, defBody s__rows_of, defScope s__rows_of, [], []⟩
def d__free_head : He5.DefA := ⟨fun K => ga K "_free_head", "_free_head", "_free_head", defArgs s__free_head, defBody s__free_head, defScope s__free_head, [], []⟩
def d__head_of_row_with : He5.DefA := ⟨fun K => ga K "_head_of_row_with", "_head_of_row_with", "_head_of_row_with", defArgs s__head_of_row_with, defBody s__head_of_row_with, defScope s__head_of_row_with, [], []⟩
def d__without : He5.DefA := ⟨fun K => ga K "_without", "_without", "_without", defArgs s__without, defBody s__without, defScope s__without, [], []⟩
def d__ring_in : He5.DefA := ⟨fun K => ga K "_ring_in", "_ring_in", "_ring_in", defArgs s__ring_in, defBody s__ring_in, defScope s__ring_in, [], []⟩
def d_is_name : He5.DefA := ⟨fun K => ga K "is_name", "is_name", "is_name", defArgs s_is_name, defBody s_is_name, defScope s_is_name, [], []⟩
def d_check_members : He5.DefA := ⟨fun K => ga K "check_members", "check_members", "check_members", defArgs s_check_members, defBody s_check_members, defScope s_check_members, [], []⟩
def d_check_options : He5.DefA := ⟨fun K => ga K "check_options", "check_options", "check_options", defArgs s_check_options, defBody s_check_options, defScope s_check_options, [], []⟩
def d_check_above : He5.DefA := ⟨fun K => ga K "check_above", "check_above", "check_above", defArgs s_check_above, defBody s_check_above, defScope s_check_above, [], []⟩
def d_check_mixture : He5.DefA := ⟨fun K => ga K "check_mixture", "check_mixture", "check_mixture", defArgs s_check_mixture, defBody s_check_mixture, defScope s_check_mixture, [], []⟩
def d_check_frozen : He5.DefA := ⟨fun K => ga K "check_frozen", "check_frozen", "check_frozen", defArgs s_check_frozen, defBody s_check_frozen, defScope s_check_frozen, [], []⟩
def d_check_defaults : He5.DefA := ⟨fun K => ga K "check_defaults", "check_defaults", "check_defaults", defArgs s_check_defaults, defBody s_check_defaults, defScope s_check_defaults, [], []⟩
def d_whole_members : He5.DefA := ⟨fun K => ga K "whole_members", "whole_members", "whole_members", defArgs s_whole_members, defBody s_whole_members, defScope s_whole_members, [], []⟩
def d__by_names : He5.DefA := ⟨fun K => ga K "_by_names", "_by_names", "_by_names", defArgs s__by_names, defBody s__by_names, defScope s__by_names, [], []⟩
def d_Kind_init : He5.DefA := ⟨fun K => ma K (ga K "Kind") "__init__", "__init__", "Kind.__init__", defArgs s_Kind_init, defBody s_Kind_init, defScope s_Kind_init, [], [("above", .adr kwAbove)]⟩
def d_Kind__declare : He5.DefA := ⟨fun K => ma K (ga K "Kind") "_declare", "_declare", "Kind._declare", defArgs s_Kind__declare, defBody s_Kind__declare, defScope s_Kind__declare, [], []⟩
def d_Kind__set_own : He5.DefA := ⟨fun K => ma K (ga K "Kind") "_set_own", "_set_own", "Kind._set_own", defArgs s_Kind__set_own, defBody s_Kind__set_own, defScope s_Kind__set_own, [], []⟩
def d_Kind__set_options : He5.DefA := ⟨fun K => ma K (ga K "Kind") "_set_options", "_set_options", "Kind._set_options", defArgs s_Kind__set_options, defBody s_Kind__set_options, defScope s_Kind__set_options, [], []⟩
def d_Kind__set_whole : He5.DefA := ⟨fun K => ma K (ga K "Kind") "_set_whole", "_set_whole", "Kind._set_whole", defArgs s_Kind__set_whole, defBody s_Kind__set_whole, defScope s_Kind__set_whole, [], []⟩
def d_Book_init : He5.DefA := ⟨fun K => ma K (ga K "Book") "__init__", "__init__", "Book.__init__", defArgs s_Book_init, defBody s_Book_init, defScope s_Book_init, [], []⟩
def d_Book_kind_names : He5.DefA := ⟨fun K => He5.wf K (ga K "Book") "property" "kind_names", "kind_names", "Book.kind_names", defArgs s_Book_kind_names, defBody s_Book_kind_names, defScope s_Book_kind_names, [], []⟩
def d_Book_len : He5.DefA := ⟨fun K => ma K (ga K "Book") "__len__", "__len__", "Book.__len__", defArgs s_Book_len, defBody s_Book_len, defScope s_Book_len, [], []⟩
def d_Book_contains : He5.DefA := ⟨fun K => ma K (ga K "Book") "__contains__", "__contains__", "Book.__contains__", defArgs s_Book_contains, defBody s_Book_contains, defScope s_Book_contains, [], []⟩
def d_Book_getitem : He5.DefA := ⟨fun K => ma K (ga K "Book") "__getitem__", "__getitem__", "Book.__getitem__", defArgs s_Book_getitem, defBody s_Book_getitem, defScope s_Book_getitem, [], []⟩
def d_Book_add : He5.DefA := ⟨fun K => ma K (ga K "Book") "__add__", "__add__", "Book.__add__", defArgs s_Book_add, defBody s_Book_add, defScope s_Book_add, [], []⟩
def d__law_mixed : He5.DefA := ⟨fun K => ga K "_law_mixed", "_law_mixed", "_law_mixed", defArgs s__law_mixed, defBody s__law_mixed, defScope s__law_mixed, [], []⟩
def d__law_folded : He5.DefA := ⟨fun K => ga K "_law_folded", "_law_folded", "_law_folded", defArgs s__law_folded, defBody s__law_folded, defScope s__law_folded, [], []⟩
def d__law_draw : He5.DefA := ⟨fun K => ga K "_law_draw", "_law_draw", "_law_draw", defArgs s__law_draw, defBody s__law_draw, defScope s__law_draw, [], []⟩
def d__law_begun : He5.DefA := ⟨fun K => ga K "_law_begun", "_law_begun", "_law_begun", defArgs s__law_begun, defBody s__law_begun, defScope s__law_begun, [], []⟩
def d__law_mixed_up : He5.DefA := ⟨fun K => ga K "_law_mixed_up", "_law_mixed_up", "_law_mixed_up", defArgs s__law_mixed_up, defBody s__law_mixed_up, defScope s__law_mixed_up, [], []⟩
def d__law_class : He5.DefA := ⟨fun K => ga K "_law_class", "_law_class", "_law_class", defArgs s__law_class, defBody s__law_class, defScope s__law_class, [], []⟩
def d__law_name_class : He5.DefA := ⟨fun K => ga K "_law_name_class", "_law_name_class", "_law_name_class", defArgs s__law_name_class, defBody s__law_name_class, defScope s__law_name_class, [], []⟩
def d__law_told : He5.DefA := ⟨fun K => ga K "_law_told", "_law_told", "_law_told", defArgs s__law_told, defBody s__law_told, defScope s__law_told, [], []⟩
def d__law_first : He5.DefA := ⟨fun K => ga K "_law_first", "_law_first", "_law_first", defArgs s__law_first, defBody s__law_first, defScope s__law_first, [], []⟩
def d__law_made : He5.DefA := ⟨fun K => ga K "_law_made", "_law_made", "_law_made", defArgs s__law_made, defBody s__law_made, defScope s__law_made, [], []⟩
def d__law_shown_right : He5.DefA := ⟨fun K => ga K "_law_shown_right", "_law_shown_right", "_law_shown_right", defArgs s__law_shown_right, defBody s__law_shown_right, defScope s__law_shown_right, [], []⟩
def d_law : He5.DefA := ⟨fun K => ga K "law", "law", "law", defArgs s_law, defBody s_law, defScope s_law, [], []⟩
def fn0 : List He5.DefA := [d_InvalidKind_init, d_InvalidBook_init, d_NoKind_init, d_line_above, d__rows_of, d__free_head, d__head_of_row_with, d__without, d__ring_in, d_is_name, d_check_members, d_check_options]
def fn1 : List He5.DefA := [d_check_above, d_check_mixture, d_check_frozen, d_check_defaults, d_whole_members, d__by_names, d_Kind_init, d_Kind__declare, d_Kind__set_own, d_Kind__set_options, d_Kind__set_whole, d_Book_init]
def fn2 : List He5.DefA := [d_Book_kind_names, d_Book_len, d_Book_contains, d_Book_getitem, d_Book_add, d__law_mixed, d__law_folded, d__law_draw, d__law_begun, d__law_mixed_up, d__law_class, d__law_name_class]
def fn3 : List He5.DefA := [d__law_told, d__law_first, d__law_made, d__law_shown_right, d_law]
def fn : List He5.DefA := fn0 ++ fn1 ++ fn2 ++ fn3
def fa0 : List Fa := [.glo "line_above", .glo "_rows_of", .glo "_free_head", .glo "_head_of_row_with", .glo "_without", .glo "_ring_in", .glo "is_name", .glo "check_members", .glo "check_options", .glo "check_above", .glo "check_mixture", .glo "check_frozen"]
def fa1 : List Fa := [.glo "check_defaults", .glo "whole_members", .glo "_by_names", .glo "_law_mixed", .glo "_law_folded", .glo "_law_draw", .glo "_law_begun", .glo "_law_mixed_up", .glo "_law_class", .glo "_law_name_class", .glo "_law_told", .glo "_law_first"]
def fa2 : List Fa := [.glo "_law_made", .glo "_law_shown_right", .glo "law", .glo "Kind", .glo "Lined", .glo "InvalidKind", .glo "Book", .glo "InvalidMember", .glo "InvalidBook", .glo "InvalidData", .glo "ParseError", .glo "TooManyValues"]
def fa3 : List Fa := [.glo "LimitExceeded", .glo "MissingNames", .glo "NoEntry", .glo "InvalidName", .glo "UnknownName", .glo "GivenTwice", .glo "NoField", .glo "Unset", .glo "Frozen", .glo "NoKind", .glo "NameTaken", .glo "NoRecord"]
def fa4 : List Fa := [.glo "Duplicate", .glo "NotKeyable", .glo "NotOrdered", .glo "NothingToUndo", .glo "TooDeep", .glo "RecordcraftError", .free "len", .free "isinstance", .free "tuple", .free "list", .free "range", .free "enumerate"]
def fa5 : List Fa := [.free "any", .free "str", .free "min", .free "int", .int "MAX_LENGTH" 40, .str "DIGITS" digitSigns, .str "NAME_SIGNS" nameSigns, .glo "BARRED_WORDS", .cls "Kind", .cls "Book", .noat "Kind" "name", .noat "Kind" "above"]
def fa6 : List Fa := [.noat "Kind" "line", .noat "Kind" "own_hook", .noat "Kind" "own_members", .noat "Kind" "own_methods", .noat "Kind" "equal", .noat "Kind" "order", .noat "Kind" "frozen", .noat "Kind" "only_named", .noat "Kind" "show", .noat "Kind" "_data", .noat "Kind" "_shared", .noat "Kind" "_other_members"]
def fa7 : List Fa := [.noat "Kind" "fields", .noat "Kind" "field_names", .noat "Kind" "compare_names", .noat "Kind" "show_names", .noat "Kind" "key_names", .noat "Kind" "_init_only", .noat "Kind" "_by_position", .noat "Kind" "_by_name", .noat "Kind" "_parameters", .noat "Kind" "_parameter_names", .noat "Book" "_kinds", .meth "Kind" "_declare"]
def fa8 : List Fa := [.meth "Kind" "_set_own", .meth "Kind" "_set_options", .meth "Kind" "_set_whole", .mkr "Kind", .mkr "Book", .meth "InvalidKind" "__init__", .noat "InvalidKind" "rule", .noat "InvalidKind" "item", .free "ValueError", .meth "InvalidBook" "__init__", .noat "InvalidBook" "spot", .exm "InvalidBook" "RecordcraftError" true]
def fa9 : List Fa := [.meth "NoKind" "__init__", .noat "NoKind" "name", .exm "NoKind" "RecordcraftError" true, .exm "InvalidKind" "InvalidKind" true]
def fa : List Fa := fa0 ++ fa1 ++ fa2 ++ fa3 ++ fa4 ++ fa5 ++ fa6 ++ fa7 ++ fa8 ++ fa9
def x0 : PySem.W.Frag → Bool := fun K => tupB K "BARRED_WORDS" (barred.map He.Dv.str)
def x1 : PySem.W.Frag → Bool := fun K => conB K "Kind" "MAX_MEMBERS" (.int 16)
def x2 : PySem.W.Frag → Bool := fun K => conB K "Kind" "MAX_LINE" (.int 12)
def x3 : PySem.W.Frag → Bool := fun K => idcB K (kC K)
def x4 : PySem.W.Frag → Bool := fun K => insB K (kC K)
def x5 : PySem.W.Frag → Bool := fun K => decide (PySem.W.kitOne K (.ref (kC K)) (.ref (ga K "Lined")) = some true)
def x6 : PySem.W.Frag → Bool := fun K => HkQ.oexB K (kE K)
def x7 : PySem.W.Frag → Bool := fun K => xfB K (kE K)
def x8 : PySem.W.Frag → Bool := fun K => decide (PySem.W.typeIn K (.ref (ma K (kE K) "__init__")) = some (.type "function"))
def x9 : PySem.W.Frag → Bool := fun K => emptyTup K (kwAbove K)
def x10 : PySem.W.Frag → Bool := fun K => HkQ.oexB K (kB K)
def x11 : PySem.W.Frag → Bool := fun K => xfB K (kB K)
def x12 : PySem.W.Frag → Bool := fun K => decide (PySem.W.typeIn K (.ref (ma K (kB K) "__init__")) = some (.type "function"))
def x13 : PySem.W.Frag → Bool := fun K => excB K (kB K)
def x14 : PySem.W.Frag → Bool := fun K => erkB K (kB K) "InvalidBook"
def x15 : PySem.W.Frag → Bool := fun K => HkQ.oexB K (kN K)
def x16 : PySem.W.Frag → Bool := fun K => xfB K (kN K)
def x17 : PySem.W.Frag → Bool := fun K => decide (PySem.W.typeIn K (.ref (ma K (kN K) "__init__")) = some (.type "function"))
def x18 : PySem.W.Frag → Bool := fun K => excB K (kN K)
def x19 : PySem.W.Frag → Bool := fun K => erkB K (kN K) "NoKind"
def x20 : PySem.W.Frag → Bool := linB
def x21 : PySem.W.Frag → Bool := fun K => knB K (kC K)
def x22 : PySem.W.Frag → Bool := fun K => decide (PySem.W.kitOne K (.ref (kC K)) (.ref (kC K)) = some true)
def x23 : PySem.W.Frag → Bool := fun K => decide (PySem.W.kitOne K (.ref (kO K)) (.ref (kO K)) = some true)
def x24 : PySem.W.Frag → Bool := fun K => insB K (kO K)
def x25 : PySem.W.Frag → Bool := fun K => OwD.dunB K (kO K) "__len__" (ma K (kO K) "__len__")
def x26 : PySem.W.Frag → Bool := fun K => OwD.dunB K (kO K) "__contains__" (ma K (kO K) "__contains__")
def x27 : PySem.W.Frag → Bool := fun K => OwD.dunB K (kO K) "__getitem__" (ma K (kO K) "__getitem__")
def x28 : PySem.W.Frag → Bool := fun K => OwD.dunB K (kO K) "__add__" (ma K (kO K) "__add__")
def x29 : PySem.W.Frag → Bool := fun K => PySem.W.fnIn K (ma K (kO K) "__getitem__")
def x30 : PySem.W.Frag → Bool := fun K => PySem.W.selfFirst K (kO K)
def x31 : PySem.W.Frag → Bool := fun K => propB K (kO K) "kind_names"
def exs : List (PySem.W.Frag → Bool) := [x0, x1, x2, x3, x4, x5, x6, x7, x8, x9, x10, x11, x12, x13, x14, x15, x16, x17, x18, x19, x20, x21, x22, x23, x24, x25, x26, x27, x28, x29, x30, x31]
def tf : List HkQ.TabF := [fun K => ga K "_law_made", fun K => ga K "_law_shown_right", fun K => ga K "law"]
end K52
end

section
set_option Elab.async false
set_option linter.all false
set_option maxRecDepth 100000
set_option maxHeartbeats 0
namespace K52
open PySem PySem.Spec PyProof.Rows L2 He
abbrev R : PySem.W.OpenRow := PySem.W.OpenLaw.row PySem.Challenge.rw_recordcraft_k52_books_by_hand
abbrev qv : Program := PySem.W.view R.prog [109]
def names0 : List PySem.Str := [("_wall" : PySem.Str), ("__name__" : PySem.Str), ("RecordcraftError" : PySem.Str), ("InvalidMember" : PySem.Str), ("InvalidKind" : PySem.Str), ("TooManyValues" : PySem.Str), ("UnknownName" : PySem.Str), ("GivenTwice" : PySem.Str), ("MissingNames" : PySem.Str), ("NoField" : PySem.Str)]
def names1 : List PySem.Str := [("Unset" : PySem.Str), ("Frozen" : PySem.Str), ("NoShared" : PySem.Str), ("NotOrdered" : PySem.Str), ("NotKeyable" : PySem.Str), ("TooDeep" : PySem.Str), ("NoEntry" : PySem.Str), ("InvalidBook" : PySem.Str), ("NoKind" : PySem.Str), ("InvalidData" : PySem.Str)]
def names2 : List PySem.Str := [("InvalidName" : PySem.Str), ("NameTaken" : PySem.Str), ("NoRecord" : PySem.Str), ("Duplicate" : PySem.Str), ("LimitExceeded" : PySem.Str), ("NothingToUndo" : PySem.Str), ("ParseError" : PySem.Str), ("Lined" : PySem.Str), ("line_above" : PySem.Str), ("_rows_of" : PySem.Str)]
def names3 : List PySem.Str := [("_free_head" : PySem.Str), ("_head_of_row_with" : PySem.Str), ("_without" : PySem.Str), ("_ring_in" : PySem.Str), ("MAX_LENGTH" : PySem.Str), ("DIGITS" : PySem.Str), ("NAME_SIGNS" : PySem.Str), ("BARRED_WORDS" : PySem.Str), ("is_name" : PySem.Str), ("MAX_LEVELS" : PySem.Str)]
def names4 : List PySem.Str := [("MAX_VALUES" : PySem.Str), ("WIDE" : PySem.Str), ("SIMPLE_SORTS" : PySem.Str), ("Fielded" : PySem.Str), ("sort_of" : PySem.Str), ("_sort_of_others" : PySem.Str), ("check_depth" : PySem.Str), ("_check_levels" : PySem.Str), ("_check_first_parts" : PySem.Str), ("_parts_of" : PySem.Str)]
def names5 : List PySem.Str := [("can_be_key" : PySem.Str), ("_can_all_be_keys" : PySem.Str), ("_can_record_be_key" : PySem.Str), ("ORDERED_SORTS" : PySem.Str), ("is_equal" : PySem.Str), ("are_records_equal" : PySem.Str), ("order_of" : PySem.Str), ("order_of_records" : PySem.Str), ("_are_items_equal" : PySem.Str), ("_are_dicts_equal" : PySem.Str)]
def names6 : List PySem.Str := [("_order_of_items" : PySem.Str), ("Record" : PySem.Str), ("is_keyable" : PySem.Str), ("_order_of_records" : PySem.Str), ("FIELD_OPTIONS" : PySem.Str), ("INIT_ONLY_OPTIONS" : PySem.Str), ("Member" : PySem.Str), ("Field" : PySem.Str), ("InitOnly" : PySem.Str), ("Hook" : PySem.Str)]
def names7 : List PySem.Str := [("_check_option" : PySem.Str), ("_is_allowed" : PySem.Str), ("KIND_OPTIONS" : PySem.Str), ("check_members" : PySem.Str), ("_name_of" : PySem.Str), ("check_options" : PySem.Str), ("check_above" : PySem.Str), ("check_mixture" : PySem.Str), ("check_frozen" : PySem.Str), ("declares_fields" : PySem.Str)]
def names8 : List PySem.Str := [("check_defaults" : PySem.Str), ("whole_members" : PySem.Str), ("is_only_named" : PySem.Str), ("Kind" : PySem.Str), ("Book" : PySem.Str), ("_by_names" : PySem.Str), ("_word_of" : PySem.Str), ("_law_mixed" : PySem.Str), ("_law_folded" : PySem.Str), ("_law_draw" : PySem.Str)]
def names9 : List PySem.Str := [("_law_begun" : PySem.Str), ("_law_mixed_up" : PySem.Str), ("_law_class" : PySem.Str), ("_law_name_class" : PySem.Str), ("_law_told" : PySem.Str), ("_law_first" : PySem.Str), ("_law_made" : PySem.Str), ("_law_shown_right" : PySem.Str)]
def names : List PySem.Str := names0 ++ names1 ++ names2 ++ names3 ++ names4 ++ names5 ++ names6 ++ names7 ++ names8 ++ names9
def al0 : List Addr := [3, 1232, 1231, 474, 473, 72, 71, 1329, 1328, 52, 51, 298, 297, 336, 335, 462, 461, 91, 90, 431]
def al1 : List Addr := [430, 148, 147, 279, 278, 355, 354, 110, 109, 129, 128, 167, 166, 186, 185, 205, 204, 317, 316, 374]
def al2 : List Addr := [373, 393, 392, 412, 411, 248, 247, 236, 235, 443, 442, 260, 259, 31, 30, 485, 484, 490, 489, 497]
def al3 : List Addr := [496, 504, 503, 509, 508, 516, 515, 524, 523, 1039, 1038, 1053, 1052, 1060, 1059, 1067, 1066, 1074, 1073, 1086]
def al4 : List Addr := [1085, 1093, 1092, 1340, 1339, 1354, 1353, 1359, 1358, 1366, 1365, 1371, 1370, 1378, 1377, 1385, 1384, 1392, 1391, 1399]
def al5 : List Addr := [1398, 1406, 1405, 1411, 1410, 1418, 1417, 1423, 1422, 517, 69, 68, 295, 294, 314, 313, 1116, 1115, 1135, 1134]
def al6 : List Addr := [1140, 1139, 1147, 1146, 1152, 1151, 1248, 1247, 1254, 1253, 1256, 1255, 1298, 1297, 1305, 1304, 1312, 1311, 1326, 1325]
def al7 : List Addr := [0, 2, 62, 1109, 1108]
def al : List Addr := al0 ++ al1 ++ al2 ++ al3 ++ al4 ++ al5 ++ al6 ++ al7
/-- the tables of the three defs that make lambdas are three -/
def xne (K : PySem.W.Frag) : Bool := !((HkQ.cP K fun K => ga K "_law_made").2 == (HkQ.cP K fun K => ga K "_law_shown_right").2) && (!((HkQ.cP K fun K => ga K "_law_made").2 == (HkQ.cP K fun K => ga K "law").2) && !((HkQ.cP K fun K => ga K "_law_shown_right").2 == (HkQ.cP K fun K => ga K "law").2))
def exs2 : List (PySem.W.Frag → Bool) := exs ++ [xne]
abbrev hk : PySem.W.Hook := HkQ.hookQ al fa fn tf exs2
def ob (s : PySem.W.SharedT) : HkQ.AlQ := HkQ.obsQ al fa fn tf exs2 (HandSHeadRun.getT s)
theorem ob_eq (s : PySem.W.SharedT) : ob s = hk.obs s.abs := HkQ.obsQ_eq (HandSHeadRun.getT_eq s)
/-! the run in two parts: each asks a part of the facts -/
theorem run_both {S A B : Type} {W : Option S} {F : S → A} {G : S → B} {al : List Addr} {fa : List Fa} {fn : List He5.DefA} {tf : List HkQ.TabF} {exs : List (PySem.W.Frag → Bool)} {g : S → Addr → Option Obj} {a : A} {b : B}
    (h1 : W.map (fun s => (F s, G s, HkQ.obsQ al fa fn [] [] (g s))) = some (a, b, HkQ.valQ fn)) (h2 : W.map (fun s => (F s, G s, HkQ.obsQ al [] [] tf exs (g s))) = some (a, b, HkQ.valQ [])) :
    W.map (fun s => (F s, G s, HkQ.obsQ al fa fn tf exs (g s))) = some (a, b, HkQ.valQ fn) := by
  cases W with
  | none => cases h1
  | some s =>
    have e1 := Option.some.inj h1
    have e2 := Option.some.inj h2
    have k1 : F s = a := congrArg (fun z => z.1) e1
    have k2 : G s = b := congrArg (fun z => z.2.1) e1
    have k3 : HkQ.obsQ al fa fn [] [] (g s) = HkQ.valQ fn := congrArg (fun z => z.2.2) e1
    have k4 : HkQ.obsQ al [] [] tf exs (g s) = HkQ.valQ [] := congrArg (fun z => z.2.2) e2
    have m1 : He5.obsA fa fn (frT (g s) al) = He5.valA fn := congrArg (fun z : HkQ.AlQ => z.1) k3
    have m2 : ((exs.all fun f => f (frT (g s) al)) && HkQ.tabsQ (g s) tf (frT (g s) al)) = true := congrArg (fun z : HkQ.AlQ => z.2) k4
    show some (F s, G s, (He5.obsA fa fn (frT (g s) al), (exs.all fun f => f (frT (g s) al)) && HkQ.tabsQ (g s) tf (frT (g s) al))) = some (a, b, (He5.valA fn, true))
    rw [k1, k2, m1, m2]
/-- the equation of a run, its state's source a variable -/
def RunV (W : Option PySem.W.SharedT) (h0 : Heap) (fa : List Fa) (fn : List He5.DefA) (tf : List HkQ.TabF) (exs : List (PySem.W.Frag → Bool)) : Prop :=
  W.map (fun s => (HandSHeadRun.looksF R.prog h0 s.abs, HandSHeadRun.seenQ qv names (PySem.importedModules R.prog.main.body) (fun s => PySem.W.xlAt qv [] s && PySem.W.recOk R.toRowW.records s) s.abs, HkQ.obsQ al fa fn tf exs (HandSHeadRun.getT s))) = some (true, PySem.W.openGood qv names, HkQ.valQ fn)
theorem runV_both {W : Option PySem.W.SharedT} {h0 : Heap} {fa : List Fa} {fn : List He5.DefA} {tf : List HkQ.TabF} {exs : List (PySem.W.Frag → Bool)} (h1 : RunV W h0 fa fn [] []) (h2 : RunV W h0 [] [] tf exs) : RunV W h0 fa fn tf exs := run_both h1 h2
theorem runA (w : World) (os : OsState) : RunV (HandSHeadRun.endF (HandSHeadRun.stepQ (HandSHeadRun.denQ HandSHeadRun.tabQ) R.prog w) 20000 R.prog w os) (PySem.W.boot_heap w.params) fa fn [] [] := by
  unfold RunV
  kernel_rfl
theorem runB (w : World) (os : OsState) : RunV (HandSHeadRun.endF (HandSHeadRun.stepQ (HandSHeadRun.denQ HandSHeadRun.tabQ) R.prog w) 20000 R.prog w os) (PySem.W.boot_heap w.params) [] [] tf exs2 := by
  unfold RunV
  kernel_rfl
theorem run (w : World) : HandSHeadRun.RunEq R qv hk ob 20000 names w := by
  intro os
  have h := runV_both (runA w os) (runB w os)
  unfold RunV at h
  exact h
end K52
end

section
/-! The merge of rows: heads, free heads, what is left; a ring where it stops. Core Lean alone. -/
set_option linter.all false
namespace Mg
variable {α : Type} [DecidableEq α]
def heads (rows : List (List α)) : List α := rows.filterMap List.head?
def isFree (rows : List (List α)) (h : α) : Bool := rows.all fun r => decide (h ∉ r.tail)
def frees (rows : List (List α)) : List α := (heads rows).filter (isFree rows)
def drop (h : α) (rows : List (List α)) : List (List α) := rows.map fun r => r.filter fun x => decide (x ≠ h)
def pop (h : α) (rows : List (List α)) : List (List α) := rows.map fun r => if r.take 1 = [h] then r.tail else r
def full (rows : List (List α)) : List (List α) := rows.filter fun r => !r.isEmpty
/-- the merge with so many turns; none: it stops | the turns do not suffice -/
def merge : Nat → List (List α) → Option (List α)
  | 0, _ => none
  | k + 1, rows => if heads rows = [] then some [] else match frees rows with
    | [] => none
    | h :: _ => (merge k (drop h rows)).map (h :: ·)
/-- every row has no item twice -/
def Nd (rows : List (List α)) : Prop := ∀ r ∈ rows, r.Nodup
theorem heads_nil {rows : List (List α)} : heads rows = [] ↔ full rows = [] := by
  unfold heads full
  rw [List.filterMap_eq_nil_iff, List.filter_eq_nil_iff]
  constructor
  · intro h r hr
    have := h r hr
    cases r with
    | nil => simp
    | cons a t => simp at this
  · intro h r hr
    have := h r hr
    cases r with
    | nil => rfl
    | cons a t => simp at this
theorem heads_full (rows : List (List α)) : heads (full rows) = heads rows := by
  unfold heads full
  induction rows with
  | nil => rfl
  | cons r rows ih =>
    cases r with
    | nil =>
      rw [List.filterMap_cons_none (by rfl), List.filter_cons, if_neg (by simp)]
      exact ih
    | cons a t =>
      rw [List.filterMap_cons_some (b := a) (by rfl), List.filter_cons, if_pos (by simp), List.filterMap_cons_some (b := a) (by rfl), ih]
theorem isFree_full (rows : List (List α)) (h : α) : isFree (full rows) h = isFree rows h := by
  unfold isFree full
  induction rows with
  | nil => rfl
  | cons r rows ih =>
    cases r with
    | nil => simpa using ih
    | cons a t => simp only [List.filter_cons, List.isEmpty_cons, Bool.not_false, if_true, List.all_cons, ih]
theorem frees_full (rows : List (List α)) : frees (full rows) = frees rows := by
  unfold frees
  rw [heads_full]
  congr 1
  funext h
  exact isFree_full rows h
theorem full_drop (h : α) (rows : List (List α)) : full (drop h (full rows)) = full (drop h rows) := by
  unfold full drop
  induction rows with
  | nil => rfl
  | cons r rows ih =>
    cases r with
    | nil => simpa using ih
    | cons a t =>
      have e1 : ((a :: t) :: rows).filter (fun r => !r.isEmpty) = (a :: t) :: rows.filter (fun r => !r.isEmpty) := by rw [List.filter_cons, if_pos (by simp)]
      rw [e1, List.map_cons, List.map_cons]
      generalize (a :: t).filter (fun x => decide (x ≠ h)) = z
      rw [List.filter_cons, List.filter_cons, ih]
theorem nd_drop {rows : List (List α)} (h : Nd rows) (x : α) : Nd (drop x rows) := by
  intro r hr
  obtain ⟨r', hr', rfl⟩ := List.mem_map.mp hr
  exact (h r' hr').filter _
theorem nd_full {rows : List (List α)} (h : Nd rows) : Nd (full rows) := fun r hr => h r (List.mem_filter.mp hr).1
theorem mem_drop {x y : α} {rows : List (List α)} : (∃ r ∈ drop x rows, y ∈ r) ↔ (y ≠ x ∧ ∃ r ∈ rows, y ∈ r) := by
  unfold drop
  constructor
  · rintro ⟨r, hr, hy⟩
    obtain ⟨r', hr', rfl⟩ := List.mem_map.mp hr
    obtain ⟨h1, h2⟩ := List.mem_filter.mp hy
    exact ⟨of_decide_eq_true h2, r', hr', h1⟩
  · rintro ⟨hn, r, hr, hy⟩
    exact ⟨_, List.mem_map.mpr ⟨r, hr, rfl⟩, List.mem_filter.mpr ⟨hy, decide_eq_true hn⟩⟩
/-- a free head stands nowhere but at heads: taking it off the heads is taking it away -/
theorem pop_drop {rows : List (List α)} (nd : Nd rows) {h : α} (hf : isFree rows h = true) : pop h rows = drop h rows := by
  unfold pop drop
  apply List.map_congr_left
  intro r hr
  have h1 : h ∉ r.tail := of_decide_eq_true (List.all_eq_true.mp hf r hr)
  cases r with
  | nil => simp
  | cons a t =>
    have ht : t.filter (fun x => decide (x ≠ h)) = t := List.filter_eq_self.mpr fun x hx => decide_eq_true fun e => h1 (by rw [← e]; exact hx)
    by_cases e : a = h
    · subst e
      rw [if_pos (by simp), List.filter_cons, if_neg (by simp), ht]
      rfl
    · have e2 : ¬ (a :: t).take 1 = [h] := by
        intro q
        have q2 : a = h := by simpa using q
        exact e q2
      rw [if_neg e2, List.filter_cons, if_pos (decide_eq_true e), ht]
theorem mem_frees {rows : List (List α)} {h : α} : h ∈ frees rows ↔ h ∈ heads rows ∧ isFree rows h = true := by
  unfold frees
  exact List.mem_filter
theorem mem_heads {rows : List (List α)} {h : α} : h ∈ heads rows ↔ ∃ t, (h :: t) ∈ rows := by
  unfold heads
  rw [List.mem_filterMap]
  constructor
  · rintro ⟨r, hr, e⟩
    cases r with
    | nil => cases e
    | cons a t =>
      have e2 : a = h := Option.some.inj e
      subst e2
      exact ⟨t, hr⟩
  · rintro ⟨t, ht⟩
    exact ⟨_, ht, rfl⟩
/-! ### the turns suffice -/
/-- how many of the candidates occur -/
def cnt (cs : List α) (rows : List (List α)) : Nat := (cs.filter fun x => rows.any fun r => decide (x ∈ r)).length
def Within (cs : List α) (rows : List (List α)) : Prop := ∀ r ∈ rows, ∀ x ∈ r, x ∈ cs
theorem within_drop {cs : List α} {rows : List (List α)} (h : Within cs rows) (x : α) : Within cs (drop x rows) := by
  intro r hr y hy
  obtain ⟨r', hr', rfl⟩ := List.mem_map.mp hr
  exact h r' hr' y (List.mem_filter.mp hy).1
theorem any_iff {rows : List (List α)} {x : α} : (rows.any fun r => decide (x ∈ r)) = true ↔ ∃ r ∈ rows, x ∈ r := by
  rw [List.any_eq_true]
  constructor
  · rintro ⟨r, hr, h⟩
    exact ⟨r, hr, of_decide_eq_true h⟩
  · rintro ⟨r, hr, h⟩
    exact ⟨r, hr, decide_eq_true h⟩
theorem filter_lt {p q : α → Bool} {l : List α} {x : α} (hx : x ∈ l) (hp : p x = true) (hq : q x = false) (h : ∀ y, q y = true → p y = true) : (l.filter q).length < (l.filter p).length := by
  induction l with
  | nil => cases hx
  | cons a l ih =>
    have le : ∀ l : List α, (l.filter q).length ≤ (l.filter p).length := by
      intro l
      induction l with
      | nil => exact Nat.le_refl _
      | cons b l ih2 =>
        rw [List.filter_cons, List.filter_cons]
        by_cases hb : q b = true
        · rw [if_pos hb, if_pos (h b hb), List.length_cons, List.length_cons]
          omega
        · rw [if_neg hb]
          split
          · rw [List.length_cons]
            omega
          · exact ih2
    rw [List.filter_cons, List.filter_cons]
    by_cases ha : x = a
    · subst ha
      have h1 := le l
      rw [if_pos hp, hq]
      simp only [Bool.false_eq_true, if_false, List.length_cons]
      omega
    · have hx' : x ∈ l := by
        rcases List.mem_cons.mp hx with e | e
        · exact absurd e ha
        · exact e
      have h2 := ih hx'
      by_cases hb : q a = true
      · rw [if_pos hb, if_pos (h a hb), List.length_cons, List.length_cons]
        omega
      · rw [if_neg hb]
        split
        · rw [List.length_cons]
          omega
        · exact h2
theorem cnt_drop {cs : List α} {rows : List (List α)} {h : α} (hw : Within cs rows) (hh : h ∈ heads rows) : cnt cs (drop h rows) < cnt cs rows := by
  obtain ⟨t, ht⟩ := mem_heads.mp hh
  unfold cnt
  refine filter_lt (x := h) (hw _ ht h (List.mem_cons_self ..)) (any_iff.mpr ⟨_, ht, List.mem_cons_self ..⟩) ?_ fun y hy => ?_
  · cases q : (drop h rows).any fun r => decide (h ∈ r) with
    | false => rfl
    | true => exact absurd rfl (mem_drop.mp (any_iff.mp q)).1
  · exact any_iff.mpr (mem_drop.mp (any_iff.mp hy)).2
theorem frees_head {rows : List (List α)} {h : α} {t : List α} (e : frees rows = h :: t) : h ∈ heads rows ∧ isFree rows h = true := mem_frees.mp (by rw [e]; exact List.mem_cons_self ..)
/-- more turns change nothing -/
theorem merge_more {cs : List α} : ∀ (k j : Nat) (rows : List (List α)), Within cs rows → cnt cs rows < k → cnt cs rows < j → merge k rows = merge j rows
  | 0, _, _, _, h, _ => absurd h (Nat.not_lt_zero _)
  | _, 0, _, _, _, h => absurd h (Nat.not_lt_zero _)
  | k + 1, j + 1, rows, hw, h1, h2 => by
    unfold merge
    split
    · rfl
    · cases e : frees rows with
      | nil => rfl
      | cons h t =>
        have hl := cnt_drop hw (frees_head e).1
        simp only
        rw [merge_more k j (drop h rows) (within_drop hw h) (by omega) (by omega)]
theorem cnt_le (cs : List α) (rows : List (List α)) : cnt cs rows ≤ cs.length := List.length_filter_le _ _
/-- what the merge gives: no item twice, just the items of the rows, each one behind those ahead of it in a row -/
theorem merge_nodup : ∀ (k : Nat) (rows : List (List α)) (l : List α), merge k rows = some l → l.Nodup ∧ ∀ x, x ∈ l ↔ ∃ r ∈ rows, x ∈ r
  | 0, _, _, h => by cases h
  | k + 1, rows, l, h => by
    unfold merge at h
    split at h
    · rename_i hn
      cases h
      refine ⟨List.nodup_nil, fun x => ⟨(fun q => by cases q), ?_⟩⟩
      rintro ⟨r, hr, hx⟩
      have hf := heads_nil.mp hn
      have : r ∈ full rows := List.mem_filter.mpr ⟨hr, by cases r with | nil => cases hx | cons a t => rfl⟩
      rw [hf] at this
      cases this
    · cases e : frees rows with
      | nil =>
        rw [e] at h
        cases h
      | cons a t =>
        rw [e] at h
        simp only at h
        cases q : merge k (drop a rows) with
        | none =>
          rw [q] at h
          cases h
        | some l' =>
          rw [q] at h
          have el : a :: l' = l := Option.some.inj h
          subst el
          obtain ⟨n1, n2⟩ := merge_nodup k _ _ q
          obtain ⟨hh, _⟩ := frees_head e
          obtain ⟨t', ht'⟩ := mem_heads.mp hh
          refine ⟨List.nodup_cons.mpr ⟨fun hm => absurd rfl (mem_drop.mp ((n2 a).mp hm)).1, n1⟩, fun x => ?_⟩
          rw [List.mem_cons, n2 x, mem_drop]
          constructor
          · rintro (rfl | ⟨_, hx⟩)
            · exact ⟨_, ht', List.mem_cons_self ..⟩
            · exact hx
          · intro hx
            by_cases hxa : x = a
            · exact .inl hxa
            · exact .inr ⟨hxa, hx⟩
/-! ### names in the place of numbers -/
section
variable {β : Type} [DecidableEq β] {f : α → β}
def mapR (f : α → β) (rows : List (List α)) : List (List β) := rows.map (List.map f)
theorem heads_map (rows : List (List α)) : heads (mapR f rows) = (heads rows).map f := by
  unfold heads mapR
  induction rows with
  | nil => rfl
  | cons r rows ih =>
    cases r with
    | nil =>
      rw [List.map_cons, List.filterMap_cons_none (by rfl), List.filterMap_cons_none (by rfl)]
      exact ih
    | cons a t =>
      rw [List.map_cons, List.filterMap_cons_some (b := f a) (by rfl), List.filterMap_cons_some (b := a) (by rfl), List.map_cons, ih]
theorem mem_inj {cs : List α} (hi : ∀ x ∈ cs, ∀ y ∈ cs, f x = f y → x = y) {x : α} (hx : x ∈ cs) {r : List α} (hr : ∀ y ∈ r, y ∈ cs) : f x ∈ r.map f ↔ x ∈ r := by
  constructor
  · intro h
    obtain ⟨y, hy, e⟩ := List.mem_map.mp h
    rw [hi x hx y (hr y hy) e.symm]
    exact hy
  · exact fun h => List.mem_map.mpr ⟨x, h, rfl⟩
theorem isFree_map {cs : List α} (hi : ∀ x ∈ cs, ∀ y ∈ cs, f x = f y → x = y) {rows : List (List α)} (hw : Within cs rows) {h : α} (hh : h ∈ cs) : isFree (mapR f rows) (f h) = isFree rows h := by
  unfold isFree mapR
  rw [List.all_map]
  have : ∀ r ∈ rows, ((fun r : List β => decide (f h ∉ r.tail)) ∘ List.map f) r = decide (h ∉ r.tail) := by
    intro r hr
    show decide (f h ∉ (r.map f).tail) = _
    rw [← List.map_tail]
    have := mem_inj hi hh (r := r.tail) fun y hy => hw r hr y (List.mem_of_mem_tail hy)
    exact decide_eq_decide.mpr (not_congr this)
  rw [Bool.eq_iff_iff, List.all_eq_true, List.all_eq_true]
  constructor
  · intro h r hr
    rw [← this r hr]
    exact h r hr
  · intro h r hr
    rw [this r hr]
    exact h r hr
theorem frees_map {cs : List α} (hi : ∀ x ∈ cs, ∀ y ∈ cs, f x = f y → x = y) {rows : List (List α)} (hw : Within cs rows) : frees (mapR f rows) = (frees rows).map f := by
  unfold frees
  rw [heads_map, List.filter_map]
  congr 1
  apply List.filter_congr
  intro x hx
  obtain ⟨t, ht⟩ := mem_heads.mp hx
  exact isFree_map hi hw (hw _ ht x (List.mem_cons_self ..))
theorem drop_map {cs : List α} (hi : ∀ x ∈ cs, ∀ y ∈ cs, f x = f y → x = y) {rows : List (List α)} (hw : Within cs rows) {h : α} (hh : h ∈ cs) : drop (f h) (mapR f rows) = mapR f (drop h rows) := by
  unfold drop mapR
  rw [List.map_map, List.map_map]
  apply List.map_congr_left
  intro r hr
  show (r.map f).filter _ = (r.filter _).map f
  rw [List.filter_map]
  congr 1
  apply List.filter_congr
  intro x hx
  show decide (f x ≠ f h) = decide (x ≠ h)
  exact decide_eq_decide.mpr (not_congr ⟨fun e => hi x (hw r hr x hx) h hh e, fun e => by rw [e]⟩)
theorem merge_map {cs : List α} (hi : ∀ x ∈ cs, ∀ y ∈ cs, f x = f y → x = y) : ∀ (k : Nat) {rows : List (List α)}, Within cs rows → merge k (mapR f rows) = (merge k rows).map (List.map f)
  | 0, _, _ => rfl
  | k + 1, rows, hw => by
    unfold merge
    rw [heads_map, frees_map hi hw]
    by_cases e : heads rows = []
    · rw [if_pos e, if_pos (by rw [e]; rfl)]
      rfl
    · rw [if_neg e, if_neg (by simpa using e)]
      cases q : frees rows with
      | nil => rfl
      | cons a t =>
        obtain ⟨hh, _⟩ := frees_head q
        obtain ⟨t', ht'⟩ := mem_heads.mp hh
        have ha : a ∈ cs := hw _ ht' a (List.mem_cons_self ..)
        show (merge k (drop (f a) (mapR f rows))).map (f a :: ·) = ((merge k (drop a rows)).map (a :: ·)).map (List.map f)
        rw [drop_map hi hw ha, merge_map hi k (within_drop hw a)]
        cases merge k (drop a rows) <;> rfl
end
/-! ### one row above: no ring -/
theorem merge_one : ∀ (l : List α) (k : Nat), l.Nodup → l.length < k → merge k [l] = some l
  | [], 0, _, h => absurd h (Nat.not_lt_zero _)
  | [], k + 1, _, _ => by
    unfold merge
    rw [if_pos (show heads [[]] = ([] : List α) from rfl)]
  | a :: l, 0, _, h => absurd h (Nat.not_lt_zero _)
  | a :: l, k + 1, nd, h => by
    obtain ⟨n1, n2⟩ := List.nodup_cons.mp nd
    unfold merge
    have e1 : heads [a :: l] = [a] := rfl
    have e2 : isFree [a :: l] a = true := by
      show (decide (a ∉ l) && true) = true
      rw [decide_eq_true n1]
      rfl
    have e3 : frees [a :: l] = [a] := by
      unfold frees
      rw [e1, List.filter_cons, if_pos e2]
      rfl
    rw [e1, if_neg (by simp), e3]
    have e4 : drop a [a :: l] = [l] := by
      show [(a :: l).filter _] = [l]
      rw [List.filter_cons, if_neg (by simp)]
      congr 1
      exact List.filter_eq_self.mpr fun x hx => decide_eq_true fun e => n1 (by rw [← e]; exact hx)
    show (merge k (drop a [a :: l])).map (a :: ·) = some (a :: l)
    rw [e4, merge_one l k n2 (by rw [List.length_cons] at h; omega)]
    rfl
/-- a line and the one kind that it is of -/
theorem merge_top (a : α) (l : List α) (k : Nat) (nd : (a :: l).Nodup) (h : (a :: l).length < k) : merge k [a :: l, [a]] = some (a :: l) := by
  obtain ⟨n1, n2⟩ := List.nodup_cons.mp nd
  cases k with
  | zero => exact absurd h (Nat.not_lt_zero _)
  | succ k =>
    unfold merge
    have e1 : heads [a :: l, [a]] = [a, a] := rfl
    have e2 : isFree [a :: l, [a]] a = true := by
      show (decide (a ∉ l) && (decide (a ∉ ([] : List α)) && true)) = true
      rw [decide_eq_true n1, decide_eq_true (by simp)]
      rfl
    have e3 : frees [a :: l, [a]] = [a, a] := by
      unfold frees
      rw [e1, List.filter_cons, if_pos e2, List.filter_cons, if_pos e2]
      rfl
    rw [e1, if_neg (by simp), e3]
    have e4 : drop a [a :: l, [a]] = [l, []] := by
      show [(a :: l).filter _, [a].filter _] = [l, []]
      have q1 : (a :: l).filter (fun x => decide (x ≠ a)) = l := by
        rw [List.filter_cons, if_neg (by simp)]
        exact List.filter_eq_self.mpr fun x hx => decide_eq_true fun e => n1 (by rw [← e]; exact hx)
      have q2 : [a].filter (fun x => decide (x ≠ a)) = [] := by
        rw [List.filter_cons, if_neg (by simp)]
        rfl
      rw [q1, q2]
    show (merge k (drop a [a :: l, [a]])).map (a :: ·) = some (a :: l)
    have e5 : ∀ (k : Nat) (l : List α), merge k [l, []] = merge k [l] := by
      intro k
      induction k with
      | zero => intro l; rfl
      | succ k ih =>
        intro l
        unfold merge
        have f1 : full [l, []] = full [l] := by
          unfold full
          cases l <;> rfl
        have h1 : heads [l, []] = heads [l] := by rw [← heads_full [l, []], f1, heads_full]
        have h2 : frees [l, []] = frees [l] := by rw [← frees_full [l, []], f1, frees_full]
        rw [h1, h2]
        have h3 : ∀ x, merge k (drop x [l, []]) = merge k (drop x [l]) := fun x => ih (l.filter _)
        simp only [h3]
    rw [e4, e5, merge_one l k n2 (by rw [List.length_cons] at h; omega)]
    rfl
/-! ### rings -/
/-- x stands before y in some row -/
def Before (rows : List (List α)) (x y : α) : Prop := ∃ r ∈ rows, x ∈ r ∧ y ∈ r ∧ r.idxOf x < r.idxOf y
/-- each one stands before the next one, the last one before the first one -/
structure Ring (rows : List (List α)) (ring : List α) : Prop where
  two : 2 ≤ ring.length
  nxt : ∀ (i : Nat) (x y : α), ring[i]? = some x → ring[i + 1]? = some y → Before rows x y
  lst : ∀ (x y : α), ring[ring.length - 1]? = some x → ring[0]? = some y → Before rows x y
theorem idx_ne {a x : α} (h : ¬ a = x) (l : List α) : (a :: l).idxOf x = l.idxOf x + 1 := by
  rw [List.idxOf_cons]
  have e : (a == x) = false := by simpa using h
  rw [e]
  rfl
theorem before_drop {rows : List (List α)} (nd : Nd rows) {h x y : α} (b : Before (drop h rows) x y) : Before rows x y := by
  obtain ⟨r, hr, hx, hy, hlt⟩ := b
  obtain ⟨r', hr', rfl⟩ := List.mem_map.mp hr
  have hx' := (List.mem_filter.mp hx).1
  have hy' := (List.mem_filter.mp hy).1
  have px := (List.mem_filter.mp hx).2
  have py := (List.mem_filter.mp hy).2
  refine ⟨r', hr', hx', hy', ?_⟩
  have hne : x ≠ y := fun e => by rw [e] at hlt; exact Nat.lt_irrefl _ hlt
  clear hr hr' nd
  induction r' with
  | nil => cases hx'
  | cons a t ih =>
    by_cases hax : a = x
    · subst hax
      rw [List.idxOf_cons_self, idx_ne hne]
      omega
    · by_cases hay : a = y
      · exfalso
        subst hay
        rw [List.filter_cons, if_pos py, List.idxOf_cons_self] at hlt
        exact Nat.not_lt_zero _ hlt
      · have hx2 : x ∈ t := by
          rcases List.mem_cons.mp hx' with e | e
          · exact absurd e.symm hax
          · exact e
        have hy2 : y ∈ t := by
          rcases List.mem_cons.mp hy' with e | e
          · exact absurd e.symm hay
          · exact e
        rw [idx_ne hax, idx_ne hay]
        have : t.idxOf x < t.idxOf y := by
          refine ih (List.mem_filter.mpr ⟨hx2, px⟩) (List.mem_filter.mpr ⟨hy2, py⟩) ?_ hx2 hy2
          rw [List.filter_cons] at hlt
          split at hlt
          · rw [idx_ne hax, idx_ne hay] at hlt
            omega
          · exact hlt
        omega
theorem before_full {rows : List (List α)} {x y : α} (b : Before (full rows) x y) : Before rows x y := by
  obtain ⟨r, hr, h⟩ := b
  exact ⟨r, (List.mem_filter.mp hr).1, h⟩
theorem Ring.imp {rows rows' : List (List α)} {ring : List α} (R : Ring rows ring) (h : ∀ x y, Before rows x y → Before rows' x y) : Ring rows' ring :=
  ⟨R.two, fun i x y a b => h _ _ (R.nxt i x y a b), fun x y a b => h _ _ (R.lst x y a b)⟩
/-- the head of a row stands before what stands behind it -/
theorem before_head {rows : List (List α)} {h x : α} {t : List α} (hr : (h :: t) ∈ rows) (hx : x ∈ h :: t) (hne : x ≠ h) : Before rows h x := by
  refine ⟨_, hr, List.mem_cons_self .., hx, ?_⟩
  rw [List.idxOf_cons_self, idx_ne (fun e => hne e.symm)]
  omega
/-- a path along «the head of the first row in which it stands behind the head»: from where it comes back, it is a ring the other way round -/
theorem ring_of {rows : List (List α)} {path : List α} {i : Nat} {h : α} (chain : ∀ (j : Nat) (x y : α), path[j]? = some x → path[j + 1]? = some y → Before rows y x) (hl : ∀ x, path[path.length - 1]? = some x → Before rows h x)
    (hi : path[i]? = some h) (hne : ∀ x, path[path.length - 1]? = some x → x ≠ h) : Ring rows (path.drop i).reverse := by
  have hlt : i < path.length := (List.getElem?_eq_some_iff.mp hi).1
  have hn : i ≠ path.length - 1 := fun e => by
    rw [e] at hi
    exact hne h hi rfl
  have hlen : (path.drop i).reverse.length = path.length - i := by simp
  have at_ : ∀ j, j < path.length - i → (path.drop i).reverse[j]? = path[path.length - 1 - j]? := fun j hj => by
    rw [List.getElem?_reverse (by simpa using hj), List.getElem?_drop, List.length_drop]
    congr 1
    omega
  refine ⟨by rw [hlen]; omega, fun j x y hx hy => ?_, fun x y hx hy => ?_⟩
  · have hj : j + 1 < path.length - i := by
      have := (List.getElem?_eq_some_iff.mp hy).1
      rw [hlen] at this
      exact this
    rw [at_ j (by omega)] at hx
    rw [at_ (j + 1) hj] at hy
    refine chain (path.length - 1 - (j + 1)) y x hy ?_
    rw [← hx]
    congr 1
    omega
  · rw [hlen, at_ (path.length - i - 1) (by omega)] at hx
    rw [at_ 0 (by omega)] at hy
    have e1 : path.length - 1 - (path.length - i - 1) = i := by omega
    rw [e1, hi] at hx
    cases hx
    exact hl y (by rw [← hy]; congr 1)
/-- where nothing is free, every head stands behind the head of another row -/
theorem stuck {rows : List (List α)} (nd : Nd rows) (h0 : frees rows = []) {h : α} (hh : h ∈ heads rows) : ∃ a t, (a :: t) ∈ rows ∧ h ∈ a :: t ∧ h ≠ a := by
  have hf : isFree rows h = false := by
    cases q : isFree rows h with
    | false => rfl
    | true =>
      have : h ∈ frees rows := mem_frees.mpr ⟨hh, q⟩
      rw [h0] at this
      cases this
  unfold isFree at hf
  rw [List.all_eq_false] at hf
  obtain ⟨r, hr, hd⟩ := hf
  have hm : h ∈ r.tail := by simpa using hd
  cases r with
  | nil => cases hm
  | cons a t =>
    refine ⟨a, t, hr, List.mem_cons_of_mem _ hm, fun e => ?_⟩
    rw [e] at hm
    exact (List.nodup_cons.mp (nd _ hr)).1 hm
end Mg
end

section
set_option linter.all false
/-! more of the merge: the head of a row with an item not ahead of it -/
namespace Mg
variable {α : Type} [DecidableEq α]
/-- the head of the first row that has x behind its head -/
def hrw (x : α) : List (List α) → Option α
  | [] => none
  | [] :: rest => hrw x rest
  | (h :: t) :: rest => if x ≠ h ∧ x ∈ h :: t then some h else hrw x rest
/-- no row is empty -/
def NoNil (rows : List (List α)) : Prop := ∀ r ∈ rows, r ≠ []
theorem hrw_none {x : α} : ∀ {rows : List (List α)}, Nd rows → (hrw x rows = none ↔ isFree rows x = true)
  | [], _ => by simp [hrw, isFree]
  | [] :: rest, nd => by
    have ih := hrw_none (x := x) (rows := rest) fun r hr => nd r (List.mem_cons_of_mem _ hr)
    unfold hrw
    rw [ih]
    simp [isFree]
  | (h :: t) :: rest, nd => by
    have ih := hrw_none (x := x) (rows := rest) fun r hr => nd r (List.mem_cons_of_mem _ hr)
    have n1 := nd _ (List.mem_cons_self ..)
    obtain ⟨n2, _⟩ := List.nodup_cons.mp n1
    unfold hrw
    by_cases c : x ≠ h ∧ x ∈ h :: t
    · rw [if_pos c]
      obtain ⟨c1, c2⟩ := c
      have : x ∈ t := by
        rcases List.mem_cons.mp c2 with q | q
        · exact absurd q c1
        · exact q
      simp [isFree, this]
    · rw [if_neg c, ih]
      have : x ∉ t := fun q => c ⟨fun e => n2 (e ▸ q), List.mem_cons_of_mem _ q⟩
      simp [isFree, this]
theorem hrw_some {x h : α} : ∀ {rows : List (List α)}, hrw x rows = some h → ∃ t, (h :: t) ∈ rows ∧ x ∈ h :: t ∧ x ≠ h
  | [], e => by cases e
  | [] :: rest, e => by
    obtain ⟨t, h1, h2⟩ := hrw_some (rows := rest) e
    exact ⟨t, List.mem_cons_of_mem _ h1, h2⟩
  | (g :: t) :: rest, e => by
    unfold hrw at e
    by_cases c : x ≠ g ∧ x ∈ g :: t
    · rw [if_pos c] at e
      obtain rfl := Option.some.inj e
      exact ⟨t, List.mem_cons_self .., c.2, c.1⟩
    · rw [if_neg c] at e
      obtain ⟨t', h1, h2⟩ := hrw_some (rows := rest) e
      exact ⟨t', List.mem_cons_of_mem _ h1, h2⟩
theorem hrw_head {x h : α} {rows : List (List α)} (e : hrw x rows = some h) : h ∈ heads rows := by
  obtain ⟨t, ht, _⟩ := hrw_some e
  exact mem_heads.mpr ⟨t, ht⟩
theorem hrw_before {x h : α} {rows : List (List α)} (e : hrw x rows = some h) : Before rows h x := by
  obtain ⟨t, ht, hx, hne⟩ := hrw_some e
  exact before_head ht hx hne
/-- where nothing is free each head stands behind another -/
theorem hrw_stuck {rows : List (List α)} (nd : Nd rows) (h0 : frees rows = []) {x : α} (hx : x ∈ heads rows) : ∃ h, hrw x rows = some h := by
  cases e : hrw x rows with
  | some h => exact ⟨h, rfl⟩
  | none =>
    have f := (hrw_none nd).mp e
    have : x ∈ frees rows := mem_frees.mpr ⟨hx, f⟩
    rw [h0] at this
    cases this
/-- the first head that is free -/
theorem frees_find {rows : List (List α)} (nd : Nd rows) : (frees rows).head? = (heads rows).find? fun h => (hrw h rows).isNone := by
  unfold frees
  rw [List.head?_filter]
  congr 1
  funext h
  cases e : hrw h rows with
  | none => rw [(hrw_none nd).mp e] <;> rfl
  | some g =>
    cases f : isFree rows h with
    | false => rfl
    | true =>
      rw [(hrw_none nd).mpr f] at e
      cases e
/-- drop, then leave the empty rows out -/
def wo (o : Option α) (rows : List (List α)) : List (List α) := full (match o with
  | some h => drop h rows
  | none => rows)
theorem nonil_full (rows : List (List α)) : NoNil (full rows) := fun r hr e => by
  have := (List.mem_filter.mp hr).2
  rw [e] at this
  cases this
theorem heads_cons {h : α} {t : List α} {rows : List (List α)} : heads ((h :: t) :: rows) = h :: heads rows := rfl
theorem heads_len {rows : List (List α)} (nn : NoNil rows) : (heads rows).length = rows.length := by
  induction rows with
  | nil => rfl
  | cons r rest ih =>
    cases r with
    | nil => exact absurd rfl (nn [] (List.mem_cons_self ..))
    | cons h t =>
      rw [heads_cons, List.length_cons, List.length_cons, ih fun r hr => nn r (List.mem_cons_of_mem _ hr)]
theorem heads_at {rows : List (List α)} (nn : NoNil rows) : ∀ {i : Nat} {h : α} {t : List α}, rows[i]? = some (h :: t) → (heads rows)[i]? = some h := by
  induction rows with
  | nil => intro i h t e; simp at e
  | cons r rest ih =>
    intro i h t e
    cases r with
    | nil => exact absurd rfl (nn [] (List.mem_cons_self ..))
    | cons g u =>
      rw [heads_cons]
      cases i with
      | zero =>
        have e' : g :: u = h :: t := by simpa using e
        injection e' with e1 e2
        rw [e1]
        rfl
      | succ i =>
        have e' : rest[i]? = some (h :: t) := by simpa using e
        simpa using ih (fun r hr => nn r (List.mem_cons_of_mem _ hr)) e'
/-- the rows that are left, merged: what stays out changes nothing -/
theorem merge_full : ∀ (k : Nat) (rows : List (List α)), merge k (full rows) = merge k rows
  | 0, _ => rfl
  | k + 1, rows => by
    unfold merge
    rw [heads_full, frees_full]
    cases frees rows with
    | nil => rfl
    | cons h t =>
      show (if heads rows = [] then _ else (merge k (drop h (full rows))).map _) = (if heads rows = [] then _ else (merge k (drop h rows)).map _)
      rw [← merge_full k (drop h (full rows)), full_drop, merge_full k (drop h rows)]
theorem merge_step {k : Nat} {rows : List (List α)} {h : α} {t : List α} (e : frees rows = h :: t) : merge (k + 1) rows = (merge k (wo (some h) rows)).map (h :: ·) := by
  have hh : heads rows ≠ [] := fun q => by
    have := (frees_head e).1
    rw [q] at this
    cases this
  show (if heads rows = [] then some [] else match frees rows with
    | [] => none
    | h :: _ => (merge k (drop h rows)).map (h :: ·)) = _
  rw [if_neg hh, e]
  show (merge k (drop h rows)).map (h :: ·) = (merge k (full (drop h rows))).map (h :: ·)
  rw [merge_full]
theorem merge_stuck {k : Nat} {rows : List (List α)} (hh : heads rows ≠ []) (e : frees rows = []) : merge (k + 1) rows = none := by
  show (if heads rows = [] then some [] else match frees rows with
    | [] => none
    | h :: _ => (merge k (drop h rows)).map (h :: ·)) = _
  rw [if_neg hh, e]
theorem merge_done {k : Nat} : merge (k + 1) ([] : List (List α)) = some [] := rfl
theorem any_full (x : α) (rows : List (List α)) : ((full rows).any fun r => decide (x ∈ r)) = rows.any fun r => decide (x ∈ r) := by
  induction rows with
  | nil => rfl
  | cons r rest ih =>
    unfold full at ih ⊢
    cases r with
    | nil => simpa using ih
    | cons a l => simp [ih]
theorem cnt_full (cs : List α) (rows : List (List α)) : cnt cs (full rows) = cnt cs rows := by
  unfold cnt
  congr 1
  apply List.filter_congr
  intro x _
  exact any_full x rows
theorem mem_full {rows : List (List α)} {r : List α} : r ∈ full rows ↔ r ∈ rows ∧ r ≠ [] := by
  unfold full
  rw [List.mem_filter]
  cases r <;> simp
theorem wo_in {o : Option α} {rows : List (List α)} {x : α} (h : ∃ r ∈ wo o rows, x ∈ r) : ∃ r ∈ rows, x ∈ r := by
  obtain ⟨r, hr, hx⟩ := h
  have := (mem_full.mp hr).1
  cases o with
  | none => exact ⟨r, this, hx⟩
  | some h => exact (mem_drop.mp ⟨r, this, hx⟩).2
theorem wo_nd {o : Option α} {rows : List (List α)} (nd : Nd rows) : Nd (wo o rows) := by
  cases o with
  | none => exact nd_full nd
  | some h => exact nd_full (nd_drop nd h)
theorem wo_before {o : Option α} {rows : List (List α)} (nd : Nd rows) {x y : α} (b : Before (wo o rows) x y) : Before rows x y := by
  have b2 := before_full b
  cases o with
  | none => exact b2
  | some h => exact before_drop nd b2
theorem wo_within {cs : List α} {o : Option α} {rows : List (List α)} (h : Within cs rows) : Within cs (wo o rows) := by
  intro r hr
  have := (mem_full.mp hr).1
  cases o with
  | none => exact h r this
  | some g => exact within_drop h g r this
theorem wo_len {o : Option α} {rows : List (List α)} : (wo o rows).length ≤ rows.length := by
  unfold wo full
  refine Nat.le_trans (List.length_filter_le _ _) ?_
  cases o with
  | none => exact Nat.le_refl _
  | some h =>
    show (drop h rows).length ≤ _
    unfold drop
    rw [List.length_map]
    exact Nat.le_refl _
theorem wo_rlen {o : Option α} {rows : List (List α)} {n : Nat} (h : ∀ r ∈ rows, r.length ≤ n) : ∀ r ∈ wo o rows, r.length ≤ n := by
  intro r hr
  have := (mem_full.mp hr).1
  cases o with
  | none => exact h r this
  | some g =>
    obtain ⟨r', hr', rfl⟩ := List.mem_map.mp this
    exact Nat.le_trans (List.length_filter_le _ _) (h r' hr')
theorem wo_cnt {cs : List α} {rows : List (List α)} {h : α} {t : List α} (hw : Within cs rows) (e : frees rows = h :: t) : cnt cs (wo (some h) rows) < cnt cs rows := by
  show cnt cs (full (drop h rows)) < _
  rw [cnt_full]
  exact cnt_drop hw (frees_head e).1
theorem heads_ne {rows : List (List α)} (nn : NoNil rows) (h : rows ≠ []) : heads rows ≠ [] := by
  cases rows with
  | nil => exact absurd rfl h
  | cons r rest =>
    cases r with
    | nil => exact absurd rfl (nn [] (List.mem_cons_self ..))
    | cons a l =>
      rw [heads_cons]
      simp
end Mg
end

section
set_option Elab.async false
set_option linter.all false
set_option maxRecDepth 100000
set_option maxHeartbeats 2000000
/-! Instances of a class without an own __eq__: ==, !=, in, index, by identity. -/
namespace IdQ
open PySem PySem.Spec PyProof.Rows PySem.SeqAt
section
variable {M : Model} {prog : Program} {w : World} {A : Around} {E : Value → Shared → Prop} {s : Shared} {K : PySem.W.Frag} {x y C : Addr} {ox oy : Obj} {od oe : Option Obj}
/-- the class has object's own == and != -/
structure IdC (K : PySem.W.Frag) (C : Addr) : Prop where
  ob : PySem.W.mroIn K C (.type "object") = some true
  eq : PySem.W.findIn K (.ref C) "__eq__" = some (some (.builtin "object.__eq__"))
  ne : PySem.W.findIn K (.ref C) "__ne__" = some (some (.builtin "object.__ne__"))
  nn : PySem.W.mroIn K C (.type "NoneType") = some false
def neV : Value → Value
  | .bool b => .bool (!b)
  | v => v
theorem entry_eq_other {Q : Fin → Shared → Prop} (hxy : x ≠ y) (hx : s.heap.get? x = some ox) (hy : s.heap.get? y = some oy) (hnt : ox.cls ≠ .type "tuple")
    (hq : Q (.done (.ret .notImplemented)) s) : wpAny M A (Builtin.«object.__eq__» ⟨[.ref x, .ref y], []⟩) Q E s := objEq_entry_other hxy hx hy hnt hq
theorem call_eq_other {Q : Value → Shared → Prop} (X : K.In s.heap) (I : PySem.W.InstAt s.heap x ox C od) (c : IdC K C) (hxy : x ≠ y) (hy : s.heap.get? y = some oy) (hq : Q .notImplemented s) :
    wpAny (model prog w) A (call (.builtin "object.__eq__") [.ref x, .ref y]) Q E s :=
  wpAny_call (codeAny_call_builtin F.cmp_object.eq.plain F.cmpEntry_eq (PySem.W.check_slot F.cmpKind_eq F.cmpSplit_eq (I.type.andThen (PySem.W.looks_mroIn X c.ob)) (F.cmpArgs_eq _ _)
    (entry_eq_other hxy I.at_ hy (by rw [I.cls]; intro z; cases z) hq)))
theorem call_eq_same {Q : Value → Shared → Prop} (X : K.In s.heap) (I : PySem.W.InstAt s.heap x ox C od) (c : IdC K C) (hq : Q (.bool true) s) :
    wpAny (model prog w) A (call (.builtin "object.__eq__") [.ref x, .ref x]) Q E s :=
  wpAny_call (codeAny_call_builtin F.cmp_object.eq.plain F.cmpEntry_eq (PySem.W.check_slot F.cmpKind_eq F.cmpSplit_eq (I.type.andThen (PySem.W.looks_mroIn X c.ob)) (F.cmpArgs_eq _ _) (objEq_entry_same hq)))
theorem sp_eq_other {Q : Option Value → Shared → Prop} (X : K.In s.heap) (I : PySem.W.InstAt s.heap x ox C od) (c : IdC K C) (hxy : x ≠ y) (hy : s.heap.get? y = some oy) (hq : Q (some .notImplemented) s) :
    wpAny (model prog w) A (callSpecialIfBound? (.ref x) "__eq__" [.ref y]) Q E s := HN.ifBound_objEq X I c.eq (call_eq_other X I c hxy hy hq)
theorem sp_eq_same {Q : Option Value → Shared → Prop} (X : K.In s.heap) (I : PySem.W.InstAt s.heap x ox C od) (c : IdC K C) (hq : Q (some (.bool true)) s) :
    wpAny (model prog w) A (callSpecialIfBound? (.ref x) "__eq__" [.ref x]) Q E s := HN.ifBound_objEq X I c.eq (call_eq_same X I c hq)
theorem sp_eq_none {Q : Option Value → Shared → Prop} (X : K.In s.heap) (I : PySem.W.InstAt s.heap x ox C od) (c : IdC K C) (hq : Q (some .notImplemented) s) :
    wpAny (model prog w) A (callSpecialIfBound? (.ref x) "__eq__" [.none]) Q E s := HN.ifBound_objEq X I c.eq (HN.call_objEq X I c.ob hq)
/-- the same for != -/
theorem ifBound_objNe {args : List Value} {Q : Option Value → Shared → Prop} (X : K.In s.heap) (I : PySem.W.InstAt s.heap x ox C od) (hs : PySem.W.findIn K (.ref C) "__ne__" = some (some (.builtin "object.__ne__")))
    (h : wpAny M A (call (.builtin "object.__ne__") (.ref x :: args)) (fun v => Q (some v)) E s) : wpAny M A (callSpecialIfBound? (.ref x) "__ne__" args) Q E s := by
  simp only [callSpecialIfBound?, bindSpecialIfBound?]
  refine wpAny_holding (wpAny_bind (wpAny_bind (wpAny_bind (I.type.here ((PySem.W.looks_findIn X hs).here ?_)))))
  refine wpAny_bind (wpAny_askSetting (wpAny_ite ?_))
  have fin : wpAny M A (call (.builtin "object.__ne__") ([.ref x] ++ args) >>= fun v => pure (some v)) Q E s := wpAny_bind (wpAny_mono h (fun v s' h' => wpAny_pure h') fun _ _ h' => h')
  split
  · exact wpAny_bind (wpAny_of_eq (F.cmp_object.ne.bind _) (wpAny_pure (by exact fin)))
  · exact wpAny_tryCatch (wpAny_bind (wpAny_of_eq (F.cmp_object.ne.bind _) (wpAny_pure (by exact fin))))
theorem entry_ne {z : Value} {r : Value} {Q : Fin → Shared → Prop} (hu : A.units < cLine)
    (h : ∀ Q' : Option Value → Shared → Prop, Q' (some r) s → wpAny M A (callSpecialIfBound? (.ref x) "__eq__" [z]) Q' E s)
    (hq : Q (.done (.ret (neV r))) s) (hr : r = .notImplemented ∨ ∃ b, r = .bool b) : wpAny M A (Builtin.«object.__ne__» ⟨[.ref x, z], []⟩) Q E s := by
  rcases hr with rfl | ⟨b, rfl⟩
  · unfold Builtin.«object.__ne__»
    repeat (first | with_reducible refine wpAny_cRoomFor hu ?_ | with_reducible refine h _ ?_ | wp_step)
    exact hq
  · unfold Builtin.«object.__ne__»
    repeat (first | with_reducible refine wpAny_cRoomFor hu ?_ | with_reducible refine h _ ?_ | wp_step)
    exact hq
theorem call_ne {z : Value} {r : Value} {Q : Value → Shared → Prop} (X : K.In s.heap) (I : PySem.W.InstAt s.heap x ox C od) (c : IdC K C) (hu : A.units + 1 < cLine)
    (h : ∀ Q' : Option Value → Shared → Prop, Q' (some r) s → wpAny (model prog w) A.in1 (callSpecialIfBound? (.ref x) "__eq__" [z]) Q' (fun e s' => E e s') s) (hr : r = .notImplemented ∨ ∃ b, r = .bool b)
    (hq : Q (neV r) s) : wpAny (model prog w) A (call (.builtin "object.__ne__") [.ref x, z]) Q E s :=
  wpAny_call (codeAny_call_builtin F.cmp_object.ne.plain F.cmpEntry_ne (PySem.W.check_slot F.cmpKind_ne F.cmpSplit_ne (I.type.andThen (PySem.W.looks_mroIn X c.ob)) (F.cmpArgs_ne _ _)
    (entry_ne (A := A.in1) (r := r) hu h hq hr)))
theorem tail_ne {Q : Value → Shared → Prop} {b : Bool} {m : Sem Bool} (h : Q (.bool (!b)) s) (hm : wpAny (model prog w) A m (fun r s' => r = b ∧ s' = s) E s) :
    wpAny (model prog w) A (do rule "compare.ne-identity"; return Value.bool (!(← m))) Q E s :=
  wpAny_bind (wpAny_rule (wpAny_bind (wpAny_mono hm (fun r s' z => by obtain ⟨z1, z2⟩ := z; subst z1; subst z2; exact wpAny_pure h) fun _ _ z => z)))
/-- x == y, both of C, two objects -/
theorem rc_other (hu : A.units < cLine) (X : K.In s.heap) (I : PySem.W.InstAt s.heap x ox C od) (J : PySem.W.InstAt s.heap y oy C oe) (c : IdC K C) (hxy : x ≠ y) : RcAt A s (.ref x) (.ref y) false := fun prog w E Q h => by
  have one : wpAny (model prog w) A (tryCompare (.ref x) "__eq__" (.ref y)) (fun r s' => r = none ∧ s' = s) E s := by
    unfold tryCompare
    exact wpAny_bind (sp_eq_other X I c hxy J.at_ (wpAny_pure ⟨rfl, rfl⟩))
  have two : wpAny (model prog w) A (tryCompare (.ref y) "__eq__" (.ref x)) (fun r s' => r = none ∧ s' = s) E s := by
    unfold tryCompare
    exact wpAny_bind (sp_eq_other X J c (fun e => hxy e.symm) I.at_ (wpAny_pure ⟨rfl, rfl⟩))
  simp only [richCompare, cmpInfo_Eq, oneThing_ref]
  refine wpAny_holding (wpAny_bind (wpAny_cRoomFor hu ?_))
  refine wpAny_bind (I.type.here ?_)
  refine wpAny_bind (J.type.here ?_)
  split
  · rename_i q
    exact absurd q (by simp)
  · refine wpAny_bind (wpAny_pure ?_)
    simp only [Bool.false_eq_true, if_false, Bool.not_false, if_true]
    refine wpAny_bind (m := tryCompare (.ref x) _ (.ref y)) (wpAny_mono one (fun r s1 z => ?_) fun _ _ e => e)
    obtain ⟨z1, z2⟩ := z
    subst z1
    subst z2
    refine wpAny_bind (m := tryCompare (.ref y) _ (.ref x)) (wpAny_mono two (fun r s2 z => ?_) fun _ _ e => e)
    obtain ⟨z1, z2⟩ := z
    subst z1
    subst z2
    exact wpAny_bind (wpAny_rule (wpAny_bind (wpAny_isSame_ref_other hxy I.at_ J.at_ (by rw [I.cls]; intro z; cases z) (wpAny_pure h))))
theorem none_ref_eq (hu : A.units < cLine) (X : K.In s.heap) (I : PySem.W.InstAt s.heap x ox C od) (c : IdC K C) : RcAt A s .none (.ref x) false := fun prog w E Q h => by
  have one : wpAny (model prog w) A (tryCompare (.ref x) "__eq__" .none) (fun r s' => r = none ∧ s' = s) E s := by
    unfold tryCompare
    exact wpAny_bind (sp_eq_none X I c (wpAny_pure ⟨rfl, rfl⟩))
  have two : wpAny (model prog w) A (tryCompare .none "__eq__" (.ref x)) (fun r s' => r = none ∧ s' = s) E s :=
    wpAny_tryCompare_declines (show s.TypeIs .none "NoneType" from rfl) F.slot_NoneType_eq_refl (call_gives F.slot_NoneType_eq_refl rfl F.entry_NoneType_eq (F.args_NoneType_eq_2 _ _) (NoneType___eq___none_ref_0 x) ⟨rfl, rfl, rfl⟩)
  have e0 : oneThing? .Eq .none (.ref x) = none := rfl
  simp only [richCompare, cmpInfo_Eq, e0]
  refine wpAny_holding (wpAny_bind (wpAny_cRoomFor hu ?_))
  refine wpAny_bind (wpAny_typeOf (show s.TypeIs .none "NoneType" from rfl) ?_)
  refine wpAny_bind (I.type.here ?_)
  have sb : PySem.W.Looks (model prog w) s.heap (isSubtype (.ref C) (.type "NoneType")) false := PySem.W.looks_mroIn X c.nn
  split
  · refine wpAny_bind (sb.here ?_)
    simp only [Bool.false_eq_true, if_false, Bool.not_false, if_true]
    refine wpAny_bind (m := tryCompare .none _ (.ref x)) (wpAny_mono two (fun r s1 z => ?_) fun _ _ e => e)
    obtain ⟨z1, z2⟩ := z
    subst z1
    subst z2
    refine wpAny_bind (m := tryCompare (.ref x) _ .none) (wpAny_mono one (fun r s2 z => ?_) fun _ _ e => e)
    obtain ⟨z1, z2⟩ := z
    subst z1
    subst z2
    exact wpAny_bind (wpAny_rule (wpAny_bind (wpAny_of_eq (rfl : isSame .none (.ref x) = pure false) (wpAny_pure h))))
  · rename_i q
    exact absurd (by simp) q
/-- x != z, x of C, z of C too or None; r: what x's == says of it -/
theorem rc_ne {z : Value} {r : Value} {b : Bool} (hu : A.units + 1 < cLine) (X : K.In s.heap) (I : PySem.W.InstAt s.heap x ox C od) (c : IdC K C) (hz : z = .none ∨ ∃ y oy oe, z = .ref y ∧ PySem.W.InstAt s.heap y oy C oe)
    (e : z = .ref x → b = false) (n : z ≠ .ref x → b = true) : ∀ (prog : Program) (w : World) (E : Value → Shared → Prop) (Q : Value → Shared → Prop), Q (.bool b) s → wpAny (model prog w) A (richCompare .NotEq (.ref x) z) Q E s := fun prog w E Q h => by
  have hu0 : A.units < cLine := Nat.lt_of_succ_lt hu
  have key : ∀ (z : Value) (r : Value) (a : Option Value) (y : Addr) (oy : Obj) (oe : Option Obj), PySem.W.InstAt s.heap y oy C oe → (∀ (A : Around) (E : Value → Shared → Prop) (Q' : Option Value → Shared → Prop), Q' (some r) s → wpAny (model prog w) A (callSpecialIfBound? (.ref y) "__eq__" [z]) Q' E s) →
      ((r = .notImplemented ∧ a = none) ∨ ∃ b, r = .bool b ∧ a = some (.bool (!b))) →
      wpAny (model prog w) A (tryCompare (.ref y) "__ne__" z) (fun r s' => r = a ∧ s' = s) E s := fun z r a y oy oe J hh hr => by
    unfold tryCompare
    rcases hr with ⟨rfl, rfl⟩ | ⟨b, rfl, rfl⟩
    · exact wpAny_bind (ifBound_objNe X J c.ne (call_ne (r := .notImplemented) X J c hu (fun Q' q => hh _ _ Q' q) (.inl rfl) (wpAny_pure ⟨rfl, rfl⟩)))
    · exact wpAny_bind (ifBound_objNe X J c.ne (call_ne (r := .bool b) X J c hu (fun Q' q => hh _ _ Q' q) (.inr ⟨b, rfl⟩) (wpAny_pure ⟨rfl, rfl⟩)))
  simp only [richCompare, cmpInfo_NotEq, oneThing_ref]
  refine wpAny_holding (wpAny_bind (wpAny_cRoomFor hu0 ?_))
  refine wpAny_bind (I.type.here ?_)
  rcases hz with rfl | ⟨y, oy, oe, rfl, J⟩
  · obtain rfl : b = true := n (fun q => nomatch q)
    have one := key .none .notImplemented none x ox od I (fun A E Q' q => sp_eq_none X I c q) (.inl ⟨rfl, rfl⟩)
    have two : wpAny (model prog w) A (tryCompare .none "__ne__" (.ref x)) (fun r s' => r = none ∧ s' = s) E s :=
      wpAny_tryCompare_declines (show s.TypeIs .none "NoneType" from rfl) F.slot_NoneType_ne_refl (call_gives F.slot_NoneType_ne_refl rfl F.entry_NoneType_ne (F.args_NoneType_ne_2 _ _) (NoneType___ne___none_ref_0 x) ⟨rfl, rfl, rfl⟩)
    refine wpAny_bind (wpAny_typeOf (show s.TypeIs .none "NoneType" from rfl) ?_)
    split
    · refine wpAny_bind ((PySem.W.looks_subIn X HN.sub_none).here ?_)
      simp only [Bool.false_eq_true, if_false, Bool.not_false, if_true]
      refine wpAny_bind (m := tryCompare (.ref x) _ .none) (wpAny_mono one (fun r s1 z => ?_) fun _ _ e => e)
      obtain ⟨z1, z2⟩ := z
      subst z1
      subst z2
      refine wpAny_bind (m := tryCompare .none _ (.ref x)) (wpAny_mono two (fun r s2 z => ?_) fun _ _ e => e)
      obtain ⟨z1, z2⟩ := z
      subst z1
      subst z2
      exact wpAny_bind (wpAny_rule (wpAny_bind (wpAny_of_eq (rfl : isSame (.ref x) .none = pure false) (wpAny_pure h))))
    · rename_i q
      exact absurd (by simp) q
  · refine wpAny_bind (J.type.here ?_)
    split
    · rename_i q
      exact absurd q (by simp)
    · refine wpAny_bind (wpAny_pure ?_)
      simp only [Bool.false_eq_true, if_false, Bool.not_false, if_true]
      by_cases hxy : x = y
      · subst hxy
        obtain rfl : b = false := e rfl
        have one := key (.ref x) (.bool true) (some (.bool false)) x ox od I (fun A E Q' q => sp_eq_same X I c q) (.inr ⟨true, rfl, rfl⟩)
        refine wpAny_bind (m := tryCompare (.ref x) _ (.ref x)) (wpAny_mono one (fun r s1 z => ?_) fun _ _ e => e)
        obtain ⟨z1, z2⟩ := z
        subst z1
        subst z2
        exact wpAny_pure h
      · obtain rfl : b = true := n (fun q => hxy (by injection q with q; exact q.symm))
        have one := key (.ref y) .notImplemented none x ox od I (fun A E Q' q => sp_eq_other X I c hxy J.at_ q) (.inl ⟨rfl, rfl⟩)
        have two := key (.ref x) .notImplemented none y oy oe J (fun A E Q' q => sp_eq_other X J c (fun e => hxy e.symm) I.at_ q) (.inl ⟨rfl, rfl⟩)
        refine wpAny_bind (m := tryCompare (.ref x) _ (.ref y)) (wpAny_mono one (fun r s1 z => ?_) fun _ _ e => e)
        obtain ⟨z1, z2⟩ := z
        subst z1
        subst z2
        refine wpAny_bind (m := tryCompare (.ref y) _ (.ref x)) (wpAny_mono two (fun r s2 z => ?_) fun _ _ e => e)
        obtain ⟨z1, z2⟩ := z
        subst z1
        subst z2
        exact wpAny_bind (wpAny_rule (wpAny_bind (wpAny_isSame_ref_other hxy I.at_ J.at_ (by rw [I.cls]; intro z; cases z) (wpAny_pure h))))
theorem eqAt_rn (hu : A.units < cLine) (X : K.In s.heap) (I : PySem.W.InstAt s.heap x ox C od) (c : IdC K C) : EqAt A s (.ref x) .none false := HN.eqAt_none hu X I c.ob c.eq
theorem eqAt_nr (hu : A.units < cLine) (X : K.In s.heap) (I : PySem.W.InstAt s.heap x ox C od) (c : IdC K C) : EqAt A s .none (.ref x) false := fun prog w E Q h => by
  unfold eqBool
  refine wpAny_holding ?_
  refine wpAny_ite_split (fun hab => absurd (eq_of_beq hab) nofun) (fun _ => ?_)
  exact wpAny_bind (none_ref_eq hu X I c prog w E _ (wpAny_truthy_bool h))
end
end IdQ

namespace L2
open PySem PySem.Spec PyProof.Rows IdQ
/-- None, or an instance of C -/
def IdV (C : Addr) (H : Hp) (z : V) : Prop := z = .non ∨ ∃ a dx fs, z = .ref a ∧ H a = some (.ins C dx fs)
/-- == of two such values, read off the values -/
def sameU (x : V) (u : Value) : Bool := match u with
  | .none => decide (V.non = x)
  | .ref a => decide (V.ref a = x)
  | _ => false
section
variable {X : Cx} {C : Addr} {pins : List (Addr × Obj)} {σ : St} {H : Hp} {s : Shared} {A : Around}
theorem idv_at {a dx : Addr} {fs : List (Str × V)} (I : Inv X pins σ H s) (h : H a = some (.ins C dx fs)) : ∃ ox od, PySem.W.InstAt s.heap a ox C od := by
  obtain ⟨mA, O, _⟩ := ins_get I.hok h
  obtain ⟨od, J, _⟩ := O.look
  exact ⟨_, _, J⟩
theorem sameU_of {C : Addr} {H : Hp} {x y : V} {u : Value} (r : RelV y u) (f : IdV C H y) : sameU x u = decide (y = x) := by
  rcases f with rfl | ⟨a, dx, fs, rfl, _⟩
  · cases r; rfl
  · cases r; rfl
theorem eqAt_id (I : Inv X pins σ H s) (c : IdC X.K C) (hu : A.units < cLine) {x y : V} {u v : Value} (ry : RelV y u) (rx : RelV x v) (fy : IdV C H y) (fx : IdV C H x) : SeqAt.EqAt A s u v (decide (y = x)) := by
  rcases fy with rfl | ⟨a, dx, fs, rfl, ha⟩
  · cases ry
    rcases fx with rfl | ⟨b, dy, gs, rfl, hb⟩
    · cases rx
      exact SeqAt.EqAt.same _
    · cases rx
      obtain ⟨ox, od, J⟩ := idv_at I hb
      exact eqAt_nr hu I.kIn J c
  · cases ry
    obtain ⟨ox, od, J⟩ := idv_at I ha
    rcases fx with rfl | ⟨b, dy, gs, rfl, hb⟩
    · cases rx
      exact eqAt_rn hu I.kIn J c
    · cases rx
      obtain ⟨oy, oe, J'⟩ := idv_at I hb
      by_cases e : a = b
      · subst e
        rw [decide_eq_true rfl]
        exact SeqAt.EqAt.same _
      · rw [decide_eq_false (fun q => e (V.ref.inj q))]
        exact SeqAt.EqAt.of_refs e (rc_other hu I.kIn J J' c e)
theorem any_id {x : V} : ∀ {xs : List V} {us : List Value}, Vals xs us → (∀ z ∈ xs, IdV C H z) → us.any (sameU x) = decide (x ∈ xs)
  | _, _, .nil, _ => by simp
  | y :: xs, u :: us, .cons r t, f => by
    rw [List.any_cons, sameU_of r (f y (List.mem_cons_self ..)), any_id t fun z hz => f z (List.mem_cons_of_mem _ hz)]
    by_cases e : y = x
    · subst e
      simp
    · have e' : ¬ x = y := fun q => e q.symm
      simp [e, e']
theorem mem_id (I : Inv X pins σ H s) (c : IdC X.K C) (hu : A.units < cLine) {x : V} {v : Value} (rx : RelV x v) (fx : IdV C H x) : ∀ {xs : List V} {us : List Value}, Vals xs us → (∀ z ∈ xs, IdV C H z) → ∀ u ∈ us, SeqAt.EqAt A s u v (sameU x u)
  | _, _, .nil, _ => fun u hu => by cases hu
  | y :: xs, u :: us, .cons r t, f => fun u' hu' => by
    rcases List.mem_cons.mp hu' with rfl | hu'
    · rw [sameU_of r (f y (List.mem_cons_self ..))]
      exact eqAt_id I c hu r rx (f y (List.mem_cons_self ..)) fx
    · exact mem_id I c hu rx fx t (fun z hz => f z (List.mem_cons_of_mem _ hz)) u' hu'
end
/-- x in a list or tuple of such -/
def rInI (K : PySem.W.Frag) (C : Addr) (neg : Bool) : R2 := fun x y H Q => ∃ p xs, y = .ref p ∧ (SqL K H p xs ∨ SqT K H p xs) ∧ IdV C H x ∧ (∀ z ∈ xs, IdV C H z) ∧ Q (.bl (if neg then !decide (x ∈ xs) else decide (x ∈ xs))) H
section
variable {X : Cx} {C : Addr}
theorem in1_lt {k : Nat} (hr : Room k X.A) : X.A.in1.units < cLine := by
  have := hr.units
  show X.A.units + 1 < cLine
  omega
theorem op_in_id {k : Nat} (hr : Room k X.A) (c : IdC X.K C) : OpR X (compareOp .In) (rInI X.K C false) := by
  intro pins s σ H x y v u Q I rx ry h
  obtain ⟨p, xs, rfl, hq, fx, fs, q⟩ := h
  cases ry
  rcases hq with hq | hq
  · obtain ⟨its, r, pl, hz⟩ := I.list hq
    refine SeqAt.in_listAt (sameU x) pl.isList (fun w hw => mem_id I c (in1_lt hr) rx fx r fs w (by simpa using hw)) ⟨.bl _, H, I, rfl, ?_⟩
    rw [show its.toArray.any (sameU x) = its.any (sameU x) by simp, any_id r fs]
    exact q
  · obtain ⟨its, r, pl, hz⟩ := I.tuple hq
    refine SeqAt.in_tupleAt (sameU x) pl (fun w hw => mem_id I c (in1_lt hr) rx fx r fs w (by simpa using hw)) ⟨.bl _, H, I, rfl, ?_⟩
    rw [show its.toArray.any (sameU x) = its.any (sameU x) by simp, any_id r fs]
    exact q
theorem op_notIn_id {k : Nat} (hr : Room k X.A) (c : IdC X.K C) : OpR X (compareOp .NotIn) (rInI X.K C true) := by
  intro pins s σ H x y v u Q I rx ry h
  obtain ⟨p, xs, rfl, hq, fx, fs, q⟩ := h
  cases ry
  rcases hq with hq | hq
  · obtain ⟨its, r, pl, hz⟩ := I.list hq
    refine SeqAt.notIn_listAt (sameU x) pl.isList (fun w hw => mem_id I c (in1_lt hr) rx fx r fs w (by simpa using hw)) ⟨.bl _, H, I, rfl, ?_⟩
    rw [show its.toArray.any (sameU x) = its.any (sameU x) by simp, any_id r fs]
    exact q
  · obtain ⟨its, r, pl, hz⟩ := I.tuple hq
    refine SeqAt.notIn_tupleAt (sameU x) pl (fun w hw => mem_id I c (in1_lt hr) rx fx r fs w (by simpa using hw)) ⟨.bl _, H, I, rfl, ?_⟩
    rw [show its.toArray.any (sameU x) = its.any (sameU x) by simp, any_id r fs]
    exact q
/-- x != y, x an instance of C, y such or None -/
def rNeI (C : Addr) : R2 := fun x y H Q => (∃ a dx fs, x = .ref a ∧ H a = some (.ins C dx fs)) ∧ IdV C H y ∧ Q (.bl (!decide (x = y))) H
theorem op_ne_id {k : Nat} (hr : Room k X.A) (c : IdC X.K C) : OpR X (compareOp .NotEq) (rNeI C) := by
  intro pins s σ H x y v u Q I rx ry h
  obtain ⟨⟨a, dx, fs, rfl, ha⟩, fy, q⟩ := h
  cases rx
  obtain ⟨ox, od, J⟩ := idv_at I ha
  have hu : X.A.units + 1 < cLine := by
    have := hr.units
    omega
  rcases fy with rfl | ⟨b, dy, gs, rfl, hb⟩
  · cases ry
    refine rc_ne (r := .none) (b := true) hu I.kIn J c (.inl rfl) (fun q => nomatch q) (fun _ => rfl) _ _ _ _ ⟨.bl _, H, I, rfl, ?_⟩
    exact q
  · cases ry
    obtain ⟨oy, oe, J'⟩ := idv_at I hb
    by_cases e : a = b
    · subst e
      rw [decide_eq_true rfl] at q
      exact rc_ne (r := .none) (b := false) hu I.kIn J c (.inr ⟨_, _, _, rfl, J'⟩) (fun _ => rfl) (fun q => absurd rfl q) _ _ _ _ ⟨.bl _, H, I, rfl, q⟩
    · rw [decide_eq_false (fun q => e (V.ref.inj q))] at q
      exact rc_ne (r := .none) (b := true) hu I.kIn J c (.inr ⟨_, _, _, rfl, J'⟩) (fun q => absurd (by injection q with q; exact q.symm) e) (fun _ => rfl) _ _ _ _ ⟨.bl _, H, I, rfl, q⟩
/-- l.index(x), t.index(x): x is there -/
def rIndexI (C : Addr) (S : Hp → Addr → List V → Prop) : V → List V → Hp → VK → Prop := fun x xs H Q => ∃ (a : Addr) (y : V) (ys : List V), x = V.ref a ∧ xs = [y] ∧ S H a ys ∧ IdV C H y ∧ (∀ z ∈ ys, IdV C H z) ∧ y ∈ ys ∧ Q (.int (ys.idxOf y : Nat)) H
theorem ix_hit {ys : List V} {y : V} (hm : y ∈ ys) : ys[ys.idxOf y]? = some y := by
  have hl : ys.idxOf y < ys.length := List.idxOf_lt_length_of_mem hm
  rw [List.getElem?_eq_getElem hl, List.getElem_idxOf hl]
theorem ix_miss {ys : List V} {y z : V} {m : Nat} (hm : m < ys.idxOf y) (h : ys[m]? = some z) : z ≠ y := by
  intro e
  subst e
  have h1 : m < ys.length := (List.getElem?_eq_some_iff.mp h).1
  have h2 : ys[m] = z := (List.getElem?_eq_some_iff.mp h).2
  have h3 := List.not_of_lt_findIdx (p := (· == z)) (xs := ys) (i := m) hm
  rw [h2] at h3
  simp at h3
theorem mt_index_id {k : Nat} (hr : Room k X.A) (c : IdC X.K C) : MtR X "list.index" (rIndexI C (SqL X.K)) := by
  intro pins s σ H x xs v us Q I rx rs h
  obtain ⟨p, y, ys, rfl, rfl, hq, fy, fs, hm, q⟩ := h
  cases rx
  obtain ⟨u, rfl, ry⟩ := vals1 rs
  obtain ⟨its, r, pl, hz⟩ := I.list hq
  obtain ⟨⟨cls, dd, dt, sl⟩, ho, hc, n, hd⟩ := pl.isList
  simp only at hc hd
  subst hc
  subst hd
  have hsl := sizeLine_eq
  have hl : its.toArray.size = ys.length := by rw [List.size_toArray, ← r.length]
  have hjl : ys.idxOf y < ys.length := List.idxOf_lt_length_of_mem hm
  have hj : ys.idxOf y < its.toArray.size := by rw [hl]; exact hjl
  have at' : ∀ (m : Nat) (hm : m < its.toArray.size), ∃ z, ys[m]? = some z ∧ RelV z its.toArray[m] := fun m hm => by
    have hm' : m < ys.length := by rw [← hl]; exact hm
    obtain ⟨w, hw, hr⟩ := r.get (i := m) (x := ys[m]) (by simp [hm'])
    refine ⟨ys[m], List.getElem?_eq_getElem hm', ?_⟩
    have e := (List.getElem?_eq_some_iff.mp hw).2
    have e2 : its.toArray[m] = w := by simpa using e
    rw [e2]
    exact hr
  refine call_meets PySem.F.slot_list_index ⟨_, ho, rfl⟩ PySem.F.entry_list_index (PySem.F.args_list_index_2 _ _) (SeqAt.list_indexAt p its.toArray n dd sl u (sameU y) (ys.idxOf y) hj (by omega) ?_ ?_)
    ⟨ho, fun w hw => mem_id I c (in1_lt hr) ry fy r fs w (by simpa using hw), ⟨.int (ys.idxOf y : Nat), H, I.tok _, ⟨_, rfl⟩, q⟩⟩
  · obtain ⟨z, h1, h2⟩ := at' _ hj
    rw [ix_hit hm] at h1
    cases h1
    rw [sameU_of h2 fy]
    exact decide_eq_true rfl
  · intro m hm' hmj
    obtain ⟨z, h1, h2⟩ := at' m hm'
    rw [sameU_of h2 (fs z (List.mem_of_getElem? h1))]
    exact decide_eq_false (ix_miss hmj h1)
theorem mt_tindex_id {k : Nat} (hr : Room k X.A) (c : IdC X.K C) : MtR X "tuple.index" (rIndexI C (SqT X.K)) := by
  intro pins s σ H x xs v us Q I rx rs h
  obtain ⟨p, y, ys, rfl, rfl, hq, fy, fs, hm, q⟩ := h
  cases rx
  obtain ⟨u, rfl, ry⟩ := vals1 rs
  obtain ⟨its, r, pl, hz⟩ := I.tuple hq
  obtain ⟨⟨cls, dd, dt, sl⟩, ho, hc, n, hd⟩ := pl
  simp only at hc hd
  subst hc
  subst hd
  have hl : its.toArray.size = ys.length := by rw [List.size_toArray, ← r.length]
  have hjl : ys.idxOf y < ys.length := List.idxOf_lt_length_of_mem hm
  have hj : ys.idxOf y < its.toArray.size := by rw [hl]; exact hjl
  have at' : ∀ (m : Nat) (hm : m < its.toArray.size), ∃ z, ys[m]? = some z ∧ RelV z its.toArray[m] := fun m hm => by
    have hm' : m < ys.length := by rw [← hl]; exact hm
    obtain ⟨w, hw, hr⟩ := r.get (i := m) (x := ys[m]) (by simp [hm'])
    refine ⟨ys[m], List.getElem?_eq_getElem hm', ?_⟩
    have e := (List.getElem?_eq_some_iff.mp hw).2
    have e2 : its.toArray[m] = w := by simpa using e
    rw [e2]
    exact hr
  refine call_meets PySem.F.slot_tuple_index ⟨_, ho, rfl⟩ PySem.F.entry_tuple_index (PySem.F.args_tuple_index_2 _ _) (TI.tuple_indexAt p its.toArray n dd sl u (sameU y) (ys.idxOf y) hj ?_ ?_)
    ⟨ho, fun w hw => mem_id I c (in1_lt hr) ry fy r fs w (by simpa using hw), ⟨.int (ys.idxOf y : Nat), H, I.tok _, ⟨_, rfl⟩, q⟩⟩
  · obtain ⟨z, h1, h2⟩ := at' _ hj
    rw [ix_hit hm] at h1
    cases h1
    rw [sameU_of h2 fy]
    exact decide_eq_true rfl
  · intro m hm' hmj
    obtain ⟨z, h1, h2⟩ := at' m hm'
    rw [sameU_of h2 (fs z (List.mem_of_getElem? h1))]
    exact decide_eq_false (ix_miss hmj h1)
/-- == of two lists of such -/
def rEqLI (K : PySem.W.Frag) (C : Addr) : R2 := fun x y H Q => ∃ p q xs ys, x = .ref p ∧ y = .ref q ∧ p ≠ q ∧ SqL K H p xs ∧ SqL K H q ys ∧ (∀ z ∈ xs, IdV C H z) ∧ (∀ z ∈ ys, IdV C H z) ∧ Q (.bl (decide (xs = ys))) H
theorem all_range_eq {xs ys : List V} (hl : xs.length = ys.length) : (List.range xs.length).all (fun j => decide (xs[j]? = ys[j]?)) = decide (xs = ys) := by
  by_cases e : xs = ys
  · subst e
    simp
  · rw [decide_eq_false e]
    cases h : (List.range xs.length).all (fun j => decide (xs[j]? = ys[j]?)) with
    | false => rfl
    | true =>
      exfalso
      apply e
      apply List.ext_getElem? fun i => ?_
      by_cases hi : i < xs.length
      · have := List.all_eq_true.mp h i (List.mem_range.mpr hi)
        exact of_decide_eq_true this
      · rw [List.getElem?_eq_none (by omega), List.getElem?_eq_none (by omega)]
theorem op_eq_lid {k : Nat} (hr : Room k X.A) (c : IdC X.K C) : OpR X (compareOp .Eq) (rEqLI X.K C) := by
  intro pins s σ H x y v u Q I rx ry h
  obtain ⟨p, q, xs, ys, rfl, rfl, hne, hx, hy, fx, fy, qq⟩ := h
  cases rx
  cases ry
  obtain ⟨its, r, pl, hz⟩ := I.list hx
  obtain ⟨its2, r2, pl2, hz2⟩ := I.list hy
  have hu : X.A.units < cLine := hr.units0
  by_cases hl : xs.length = ys.length
  · have hsz : its.toArray.size = its2.toArray.size := by rw [List.size_toArray, List.size_toArray, ← r.length, ← r2.length, hl]
    refine SeqAt.RcAt.lists (e := fun j => decide (xs[j]? = ys[j]?)) pl.isList pl2.isList hsz hu (fun j h1 h2 => ?_) _ _ _ _ ⟨.bl _, H, I, rfl, ?_⟩
    · have g1 : j < xs.length := by rw [r.length]; simpa using h1
      have g2 : j < ys.length := by rw [r2.length]; simpa using h2
      obtain ⟨w1, hw1, rr1⟩ := r.get (i := j) (x := xs[j]) (by simp [g1])
      obtain ⟨w2, hw2, rr2⟩ := r2.get (i := j) (x := ys[j]) (by simp [g2])
      have e1 : its.toArray[j] = w1 := by simpa using (List.getElem?_eq_some_iff.mp hw1).2
      have e2 : its2.toArray[j] = w2 := by simpa using (List.getElem?_eq_some_iff.mp hw2).2
      have ed : decide (xs[j]? = ys[j]?) = decide (xs[j] = ys[j]) := by simp [g1, g2]
      rw [e1, e2, ed]
      exact eqAt_id I c (in1_lt hr) rr1 rr2 (fx _ (List.getElem_mem g1)) (fy _ (List.getElem_mem g2))
    · have es : its.toArray.size = xs.length := by rw [List.size_toArray, ← r.length]
      rw [es, all_range_eq hl]
      exact qq
  · have hsz : (its.toArray.size != its2.toArray.size) = true := by
      rw [List.size_toArray, List.size_toArray, ← r.length, ← r2.length]
      simpa using hl
    refine SeqAt.RcAt.lists_lengths pl.isList pl2.isList hsz hu _ _ _ _ ⟨.bl _, H, I, rfl, ?_⟩
    rw [decide_eq_false (fun e => hl (by rw [e]))] at qq
    exact qq
end
end L2
end

section
set_option Elab.async false
set_option linter.all false
set_option maxRecDepth 100000
set_option maxHeartbeats 2000000
/-! what is never reached; t[::-1] of a tuple; enumerate(t) of a tuple -/
namespace HT
open PySem PySem.Spec PyProof.Rows
section
variable {prog : Program} {w : World} {A : Around} {E : Value → Shared → Prop} {s : Shared}
theorem adjust_rev (n : Nat) : Builtin.Slice.sliceAdjust none none (-1) (n : Int) = ((n : Int) - 1, -1) := by
  unfold Builtin.Slice.sliceAdjust
  rfl
theorem places_rev (n : Nat) : Builtin.Slice.slicePlaces ((n : Int) - 1) (-1) (-1) = n := by
  unfold Builtin.Slice.slicePlaces
  have h1 : ¬ (-1 : Int) > 0 := by omega
  simp only [h1, if_false, Int.neg_neg, Int.ediv_one]
  split <;> omega
theorem sliceApplied_rev {sl : Addr} {vs : Value} {n : Nat} {Q : Int × Int × Nat → Shared → Prop} (hs : s.heap.IsSliceOf sl .none .none vs) (ps : IsPart vs (some (-1)))
    (h : Q ((n : Int) - 1, -1, n) s) : wpAny (model prog w) A (Builtin.Slice.sliceApplied (.ref sl) (pure (n : Int))) Q E s := by
  obtain ⟨os, hos, hcs, hds⟩ := id hs
  unfold Builtin.Slice.sliceApplied Builtin.Slice.sliceFields
  refine wpAny_bind (wpAny_bind (wpAny_field hos hds (x := .none) rfl (wpAny_bind (wpAny_field hos hds (x := .none) rfl (wpAny_bind (wpAny_field hos hds (x := vs) rfl (wpAny_pure ?_)))))))
  refine wpAny_bind (slicePart_ ps ?_)
  show wpAny _ _ (if ((-1 : Int) == 0) = true then _ else _) _ _ s
  rw [if_neg (by decide)]
  refine wpAny_bind (slicePart_none (wpAny_bind (slicePart_none (wpAny_bind (wpAny_pure ?_)))))
  show wpAny _ _ (match Builtin.Slice.sliceAdjust none none (-1) (n : Int) with | (lo, hi) => pure (lo, (-1 : Int), Builtin.Slice.slicePlaces lo hi (-1))) _ _ s
  rw [adjust_rev n]
  show wpAny _ _ (pure ((n : Int) - 1, (-1 : Int), Builtin.Slice.slicePlaces ((n : Int) - 1) (-1) (-1))) _ _ s
  rw [places_rev]
  exact wpAny_pure h
theorem pick_rev (xs : Array Value) : ((List.range xs.size).filterMap fun (m : Nat) => xs[(((xs.size : Int) - 1) + (m : Int) * (-1)).toNat]?).toArray = xs.toList.reverse.toArray := by
  congr 1
  have e : (fun (m : Nat) => xs[(((xs.size : Int) - 1) + (m : Int) * (-1)).toNat]?) = fun m => if m < xs.size then xs[xs.size - 1 - m]? else xs[0]? := by
    funext m
    by_cases hm : m < xs.size
    · rw [if_pos hm]
      have : (((xs.size : Int) - 1) + (m : Int) * (-1)).toNat = xs.size - 1 - m := by omega
      rw [this]
    · rw [if_neg hm]
      have : (((xs.size : Int) - 1) + (m : Int) * (-1)).toNat = 0 := by omega
      rw [this]
  rw [e]
  have e2 : (List.range xs.size).filterMap (fun m => if m < xs.size then xs[xs.size - 1 - m]? else xs[0]?) = (List.range xs.size).filterMap (fun m => xs[xs.size - 1 - m]?) := by
    have key : ∀ l : List Nat, (∀ m ∈ l, m < xs.size) → l.filterMap (fun m => if m < xs.size then xs[xs.size - 1 - m]? else xs[0]?) = l.filterMap (fun m => xs[xs.size - 1 - m]?) := by
      intro l
      induction l with
      | nil => intro _; rfl
      | cons m l ih =>
        intro h
        rw [List.filterMap_cons, List.filterMap_cons, if_pos (h m List.mem_cons_self), ih fun k hk => h k (List.mem_cons_of_mem _ hk)]
    exact key _ fun m hm => List.mem_range.mp hm
  have e3 := PySem.W.krv_range xs.size
  have e4 : (List.range xs.size).filterMap (fun m => xs[xs.size - 1 - m]?) = ((List.range xs.size).map (fun k => xs.size - 1 - k)).filterMap (xs[·]?) := by
    rw [List.filterMap_map]
    rfl
  rw [e2, e4, e3, List.filterMap_reverse, PySem.W.krv_all]
theorem getItem_tuple_rev {t sl : Addr} {items : Array Value} {vs : Value} {Q : Value → Shared → Prop} (ht : IsTup s.heap t items) (hs : s.heap.IsSliceOf sl .none .none vs) (ps : IsPart vs (some (-1)))
    (h : Q (.ref s.heap.objs.size) { s with heap := s.heap.push { cls := .type "tuple", data := .seq items.toList.reverse.toArray } })
    (hsz : items.size ≤ sizeLine) : wpAny (model prog w) A (getItem (.ref t) (.ref sl)) Q E s := by
  have htake : sizeOk (.seq items.toList.reverse.toArray) := by
    show items.toList.reverse.toArray.size ≤ sizeLine
    rw [List.size_toArray, List.length_reverse, Array.length_toList]
    omega
  obtain ⟨os, hos, hcs, hds⟩ := id hs
  have hTs : s.TypeIs (.ref sl) "slice" := ⟨os, hos, hcs⟩
  unfold getItem
  try with_reducible refine wpAny_holding ?_
  first | refine wpAny_bind (wpAny_pure ?_) | skip
  refine wpAny_bind (wpAny_sequenceKey ht.typeIs (by decide) ?_)
  refine wpAny_bind (wpAny_callSpecial?_slot (name := Str.ofString "__getitem__") ht.typeIs PyProof.Rows.slot_tuple_getitem
    (wpAny_call_entry PyProof.Rows.slot_tuple_getitem ht.typeIs entry_tuple_getitem ?_ (args_tuple_getitem _ _)))
  show wpAny _ _ (Builtin.Tuple.tupleItemsOf (.ref t) >>= _) _ _ s
  refine wpAny_bind (tupleItemsOf_ ht ?_)
  refine wpAny_bind (wpAny_typeOf hTs ?_)
  rw [if_pos (by decide)]
  refine wpAny_bind (sliceApplied_rev hs ps ?_)
  have hno : ¬ ((((items.size : Int) - 1) == 0 && (-1 : Int) == 1 && items.size == items.size) = true) := by
    intro q
    rw [Bool.and_eq_true, Bool.and_eq_true] at q
    exact absurd (eq_of_beq q.1.2) (by decide)
  show wpAny _ _ (if (((items.size : Int) - 1) == 0 && (-1 : Int) == 1 && items.size == items.size) = true then _ else _) _ _ s
  rw [if_neg hno, pick_rev]
  first
    | exact wpAny_bind (m := Builtin.Tuple.tupleExact _) (wpAny_newObj_type (wpAny_pure ⟨_, rfl, wpAny_pure h⟩) htake)
    | exact wpAny_bind (m := Builtin.Tuple.tupleExact _) (wpAny_newObj_type (wpAny_bind (wpAny_pure (wpAny_pure ⟨_, rfl, wpAny_pure h⟩))) htake)
    | exact wpAny_bind (wpAny_bind (m := Builtin.Tuple.tupleExact _) (wpAny_newObj_type (wpAny_pure (wpAny_pure ⟨_, rfl, wpAny_pure h⟩)) htake))
    | exact wpAny_bind (wpAny_bind (m := Builtin.Tuple.tupleExact _) (wpAny_newObj_type (wpAny_pure ⟨_, rfl, wpAny_pure h⟩) htake))
end
end HT
namespace L2
open PySem PySem.Spec PyProof.Rows
section
variable {X : Cx} {e : Expr} {es : List Expr} {st : Stmt} {ss : List Stmt}
/-- what is never reached -/
def tNoE : TE := fun _ _ _ => False
theorem pe_never : PE X e tNoE := ⟨fun _ _ _ _ _ _ h => h.elim⟩
theorem pt_never : PT X e (fun _ _ _ => False) := ⟨fun _ _ _ _ _ _ h => h.elim⟩
theorem pa_never : PA X es (fun _ _ _ => False) := ⟨fun _ _ _ _ _ _ _ h => h.elim⟩
theorem pg_never : PG X e (fun _ _ _ _ => False) := ⟨fun _ _ _ _ _ _ _ _ _ h => h.elim⟩
def tRevT (K : PySem.W.Frag) (te : TE) : TE := fun σ H Q => te σ H fun x H1 => ∃ a xs, x = .ref a ∧ SqT K H1 a xs ∧ ∀ p, H1 p = none → Q (.ref p) (upd H1 p (.tup xs.reverse))
theorem pe_revT {te : TE} {k : Nat} {p1 p2 p3 pos : Pos} (he : PE X e te) : PE X (.Subscript e (.Slice none none (some (.UnaryOp .USub (.Constant (.int 1) k p1) p2)) p3) pos) (tRevT X.K te) := by
  refine ⟨fun pins s σ H Q I h => ?_⟩
  refine Subscript_ (thn (he.run pins s σ H _ I h) fun v s1 ⟨x, H1, I1, r1, q1⟩ => ?_)
  obtain ⟨a, xs, ex, hx, q⟩ := q1
  subst ex
  cases r1
  have hst : PO X (some (.UnaryOp .USub (.Constant (.int 1) k p1) p2)) (tPart (tUn (rU fun i => .int (-i)) (tC (.int 1)))) := po_some (pe_un un_neg pe_int)
  refine wpAny_Slice (thn (po_none.run pins s1 σ H1 (fun o H2 => o = none ∧ H2 = H1) I1 ⟨rfl, rfl⟩) fun vl s2 ⟨l, H2, I2, pl, el, e2⟩ => ?_)
  subst el e2
  refine thn (po_none.run pins s2 σ H2 (fun o H3 => o = none ∧ H3 = H2) I2 ⟨rfl, rfl⟩) fun vu s3 ⟨u, H3, I3, pu, eu, e3⟩ => ?_
  subst eu e3
  refine thn (hst.run pins s3 σ H3 (fun o H4 => o = some (-1) ∧ H4 = H3) I3 ⟨1, rfl, -1, rfl, rfl, rfl⟩) fun vs s4 ⟨o, H4, I4, ps, eo, e4⟩ => ?_
  subst eo e4
  have I5 : Inv X pins σ H4 { s4 with heap := s4.heap.push { cls := .type "slice", data := .fields #[vl, vu, vs] } } := I4.kept (t' := s4.toks) fun b ob q => Heap.get?_push_of_some _ q
  obtain ⟨its, r, ht, hz⟩ := I5.tuple hx
  have hlen := r.length
  cases pl
  cases pu
  show wpAny (model X.prog X.w) X.A (subscriptTail e (.Slice none none (some (.UnaryOp .USub (.Constant (.int 1) k p1) p2)) p3) (.ref a) (.ref s4.heap.objs.size)) (EP X pins σ Q) X.xe { s4 with heap := s4.heap.push { cls := .type "slice", data := .fields #[.none, .none, vs] } }
  refine tail_any (ops := [.ref a, .ref s4.heap.objs.size]) ht.typeIs (PyProof.Rows.slot_tuple_getitem.lookup) ?_ (by with_unfolding_all rfl)
  refine HT.getItem_tuple_rev ht (Heap.IsSliceOf.new _ .none .none vs) ps ?_ (by rw [List.size_toArray]; omega)
  refine ⟨.ref _, _, I5.laid (t' := s4.toks) (o := .tup xs.reverse) (fun b ob q => Heap.get?_push_of_some _ q) (Nat.le_refl _) ?_, rfl, q _ (I5.hok.fresh (Nat.le_refl _))⟩
  refine ⟨by rw [List.length_reverse]; exact hz, _, r.reverse, ?_⟩
  have e1 : its.toArray.toList.reverse.toArray = its.reverse.toArray := by simp
  rw [e1]
  exact PyProof.Rows.IsTup.new _ _

/-! ### enumerate(tuple) -/
def IteT (K : PySem.W.Frag) (a : Addr) : It :=
  ⟨fun i H => ∃ (xs : List V) (x : V), SqT K H a xs ∧ xs[i]? = some x, fun i H v H' => ∃ T x, v = .ref T ∧ H T = none ∧ H' = upd H T (.tup [.int (i : Nat), x]) ∧ ∀ xs, SqT K H a xs → xs[i]? = some x, fun i H => ∃ xs : List V, SqT K H a xs ∧ xs.length ≤ i⟩
theorem turn_enumT {P : Program} {w : World} {K : PySem.W.Frag} {elts : List Expr} {kk : Nat} {tpos : Pos} (a e it : Addr) :
    Turn P w K (.Tuple elts kk tpos) (IteT K a) [e, it] e (fun i h => (∃ old, IsEnum h e it ((i : Nat) : Int) old) ∧ h.IsTupleIter it a i ∧ e ≠ it) where
  mem := by simp
  obj := fun i h st b hb => by
    obtain ⟨⟨old, he⟩, ⟨o, ho, hc, hd⟩, _⟩ := st
    have e' : b = e ∨ b = it := by simpa using hb
    rcases e' with z | z
    · rw [z]; exact ⟨_, he, fun v q => nomatch q⟩
    · rw [z]; exact ⟨o, ho, fun v q => by rw [hd] at q; cases q⟩
  keep := fun i h h' st k => let ⟨⟨old, he⟩, hi, hne⟩ := st; ⟨⟨old, k e (by simp) _ he⟩, hi.at fun o q => k it (by simp) o q, hne⟩
  item := by
    intro X hP hw hK hc i pins s σ H E I hf st hg
    subst hP hw hK
    obtain ⟨⟨old, he⟩, hit, hne⟩ := st
    obtain ⟨xs, x, hq, hx⟩ := hg
    obtain ⟨its, rv, p, hz⟩ := I.tuple hq
    obtain ⟨u, hu, ru⟩ := rv.get hx
    have hel : e < s.heap.objs.size := Heap.lt_size he
    have hil : it < s.heap.objs.size := by obtain ⟨_, q, _⟩ := hit; exact Heap.lt_size q
    have hai : a ≠ it := fun z => by
      obtain ⟨o1, q1, c1, _⟩ := hit
      obtain ⟨o2, q2, c2, _⟩ := p
      rw [z] at q2
      rw [Option.some.inj (q2.symm.trans q1), c1] at c2
      exact absurd c2 (by simp)
    have hae : e ∉ [it, a] := fun z => by
      have z' : e = it ∨ e = a := by simpa using z
      rcases z' with z | z
      · exact hne z
      · obtain ⟨o2, q2, c2, _⟩ := p
        rw [← z] at q2
        have q1 : s.heap.get? e = some _ := he
        rw [← Option.some.inj (q1.symm.trans q2)] at c2
        exact absurd c2 (by simp)
    have hlt : i < its.toArray.size := by
      have := (List.getElem?_eq_some_iff.mp hu).1
      simpa using this
    have hux : its.toArray[i]? = some u := by simpa using hu
    refine wpAny_pyNext_enum_itemD (Draws.tuple (A := X.A.in1) (by exact I.ok.hd hc) it a hai its.toArray) he ⟨hit, p⟩ hlt hne hae fun x' h' tk hP ho hst hT hsz hk => ?_
    have ex : x' = u := Option.some.inj (hP.symm.trans hux)
    subst ex
    refine ⟨_, rfl, wpAny_letOwnedTupleGo_enum (s := { s with heap := h', toks := tk + 1 }) ho fun h'' he' sb => ?_⟩
    have hT2 : h''.get? s.heap.objs.size = some { cls := .type "tuple", data := .seq #[.int i tk, x'] } := (sb.2 _ (Nat.ne_of_gt hel)).trans hT
    have new : ObjOk X.prog X.w (upd H s.heap.objs.size (.tup [.int (i : Nat), x])) h'' s.heap.objs.size (.tup [.int (i : Nat), x]) :=
      ⟨by show 2 ≤ sizeLine; decide, [.int i tk, x'], .cons ⟨_, rfl⟩ (.cons ru .nil), ⟨_, hT2, rfl, _, rfl⟩⟩
    have I1 : Inv X pins σ (upd H s.heap.objs.size (.tup [.int (i : Nat), x])) { s with heap := h'', toks := tk + 1 } :=
      I.turnedNew (ch := [e, it]) (fun b ob hb q => (sb.2 b (fun z => hb (by simp [z]))).trans (hk b ob (fun z => hb (by simp [z])) (fun z => hb (by simp [z])) q)) hf (Nat.le_refl _) new
    refine ⟨.ref s.heap.objs.size, _, I1, rfl, ⟨_, x, rfl, I.hok.fresh (Nat.le_refl _), rfl, fun ys hy => by rw [I.tuple_inj hy hq]; exact hx⟩, ⟨⟨x', ?_⟩, hst.1.at fun o q => (sb.2 it (Ne.symm hne)).trans q, hne⟩, fun b hb => ?_⟩
    · have e1 : ((i + 1 : Nat) : Int) = (i : Int) + 1 := by omega
      rw [e1]; exact he'
    · have hb' : b < s.heap.objs.size := by
        have e' : b = e ∨ b = it := by simpa using hb
        rcases e' with z | z
        · rw [z]; exact hel
        · rw [z]; exact hil
      rw [upd_ne (Nat.ne_of_lt hb')]
      exact (hf b hb).1
  done := by
    intro X hP hw hK hc i pins s σ H E I hf st hg
    subst hP hw hK
    obtain ⟨⟨old, he⟩, hit, hne⟩ := st
    obtain ⟨xs, hq, hx⟩ := hg
    obtain ⟨its, rv, p, hz⟩ := I.tuple hq
    obtain ⟨f0, f1, f2, f3, f4, f5⟩ := hf it (by simp)
    have hl := rv.length
    have hh : X.A.handled = none := I.ok.hd hc
    have hT : s.TypeIs (.ref e) "enumerate" := ⟨_, he, rfl⟩
    have hend : its.toArray[i]? = none := by simp; omega
    unfold pyNext
    refine wpAny_bind (wpAny_attempt (wpAny_callSpecial?_slot (name := Str.ofString "__next__") hT F.slot_enumerate_next
      (wpAny_call_entry F.slot_enumerate_next hT F.entry_enumerate_next ?_ (F.args_enumerate_next_1 _))))
    show wpAny _ _ (field (.ref e) 2 >>= _) _ _ _
    refine wpAny_bind (wpAny_field he rfl (x := .ref it) rfl ?_)
    refine wpAny_bind (wpAny_nextOf_tuple_end (A := X.A.in1) hh hit p hend fun h' x he' hx' => ?_)
    obtain ⟨o, ho, hc⟩ := hx'
    refine wpAny_bind (wpAny_isInstance (T := "StopIteration") (b := true) ⟨o, ho, hc⟩ isSubtype_stop ?_)
    exact wpAny_pure ⟨rfl, I.turned (t' := s.toks) (fun b o hb q => he' b o hb q) f0 f1 f3 f4 f5⟩
  self := fun A i s Q E st h => let ⟨⟨_, he⟩, _⟩ := st; wpAny_pyIter_enum he h
theorem meets_enumerate_newT (l : Addr) (items : Array Value) (o : Obj) :
    Meets (Builtin.«enumerate.__new__» ⟨[.type "enumerate", .ref l], []⟩) (fun _ R s => s.heap.IsTuple l items ∧
      R (.ok (.ret (.ref (s.heap.push { cls := .type "tuple_iterator", data := .fields #[.ref l, .int 0 0] }).objs.size)))
        { s with heap := (s.heap.push { cls := .type "tuple_iterator", data := .fields #[.ref l, .int 0 0] }).push { cls := .type "enumerate", data := .fields #[.none, .bool false, .ref s.heap.objs.size, rawInt 0, .none, .none] } }) :=
  .of_wp fun prog w A R s h => by
    obtain ⟨hp, g, d, tk, os⟩ := s; obtain ⟨hl, h⟩ := h
    have hsub := sub_enumerate
    have q1 : ∀ {A' : Around} {E : Value → Shared → Prop} {Q : Value → Shared → Prop}, Q (.ref hp.objs.size) ⟨hp.push { cls := .type "tuple_iterator", data := .fields #[.ref l, .int 0 0] }, g, d, tk, os⟩ → wpAny (model prog w) A' (pyIter (.ref l)) Q E ⟨hp, g, d, tk, os⟩ :=
      fun q => wpAny_pyIter_tuple hl q
    wp_walk using q1
    refine wpAny_stack_any fun st => wpAny_pure ?_
    split
    · rename_i c _ _ _ _ _
      cases (c == Value.type "enumerate")
      · wp_walk using q1
        exact ⟨_, rfl, h⟩
      · wp_walk using q1
        exact ⟨_, rfl, h⟩
    · wp_walk using q1
      exact ⟨_, rfl, h⟩
theorem call_enumerate_tuple {prog : Program} {w : World} {A : Around} {E : Value → Shared → Prop} {s : Shared} {l : Addr} {items : Array Value} {Q : Value → Shared → Prop} (hL : s.heap.IsTuple l items)
    (h : ∀ h', IsEnum h' (s.heap.objs.size + 1) s.heap.objs.size 0 .none → h'.IsTupleIter s.heap.objs.size l 0 → h'.objs.size = s.heap.objs.size + 2 →
      (∀ b o, s.heap.get? b = some o → h'.get? b = some o) → Q (.ref (s.heap.objs.size + 1)) { s with heap := h' }) :
    wpAny (model prog w) A (call (.type "enumerate") [.ref l]) Q E s := by
  refine callType_new F.called_enumerate (by decide) (F.typeCall_enumerate_1 _) (F.newCall_enumerate_1 _) (fun obj => F.args_object_init_2 obj _) F.entry_enumerate_new
    (meets_enumerate_newT l items default) ⟨hL, ?_⟩
  have hz : (s.heap.push { cls := .type "tuple_iterator", data := .fields #[.ref l, .int 0 0] }).objs.size = s.heap.objs.size + 1 := Heap.size_push ..
  show _ ∧ _
  rw [hz]
  have he : IsEnum ((s.heap.push { cls := .type "tuple_iterator", data := .fields #[.ref l, .int 0 0] }).push
      { cls := .type "enumerate", data := .fields #[.none, .bool false, .ref s.heap.objs.size, rawInt 0, .none, .none] }) (s.heap.objs.size + 1) s.heap.objs.size 0 .none := by
    have := Heap.get?_push_size (s.heap.push { cls := .type "tuple_iterator", data := .fields #[.ref l, .int 0 0] }) (o := { cls := .type "enumerate", data := .fields #[.none, .bool false, .ref s.heap.objs.size, rawInt 0, .none, .none] }) rfl
    rw [hz] at this; exact this
  refine ⟨⟨_, he, rfl⟩, h _ he ⟨_, Heap.get?_push_of_some _ (Heap.get?_push_size _ rfl), rfl, rfl⟩ (by rw [Heap.size_push, hz]) fun b o x => Heap.get?_push_of_some _ (Heap.get?_push_of_some _ x)⟩
def iEnumT (K : PySem.W.Frag) (ta : TA) : TI := fun σ H R => ta σ H fun vs H1 => ∃ a xs, vs = [.ref a] ∧ SqT K H1 a xs ∧ R (IteT K a) H1
theorem pi_enumT {X : Cx} {e : Expr} {ta : TA} {p pos tpos : Pos} {elts : List Expr} {kk : Nat} (hg : Gl X "enumerate") (hm : X.mg "enumerate" = none) (ha : PA X [e] ta) (hs : starEach [e] X.env = [(false, eval e X.env)] := by rfl) :
    PI X (.Tuple elts kk tpos) (.Call (.Name "enumerate" p) [e] [] pos) (iEnumT X.K ta) := by
  refine ⟨fun pins s σ H R I h => ?_⟩
  refine Call_ (ld_blt I hg hm boot_enumerate (PyProof.Rows.callWith_type1 (thn (ha.run pos pins s σ H _ I h) fun us s1 ⟨vs, H1, I1, r1, q1⟩ => ?_) hs rfl))
  obtain ⟨a, xs, ex, hq, q⟩ := q1
  subst ex
  cases r1 with
  | cons r rr =>
    cases rr
    cases r
    obtain ⟨its, rv, p', hz⟩ := I1.tuple hq
    refine call_enumerate_tuple p' fun h' he hit hsz hk => wpAny_pyIter_enum he ?_
    have I2 : Inv X pins σ H1 { s1 with heap := h' } := I1.kept (t' := s1.toks) hk
    refine ⟨s1.heap.objs.size + 1, [s1.heap.objs.size + 1, s1.heap.objs.size], _, _, H1, rfl, I2, turn_enumT a (s1.heap.objs.size + 1) s1.heap.objs.size, ⟨⟨.none, he⟩, hit, Nat.succ_ne_self _⟩, fun b hb => ?_, q⟩
    have e' : b = s1.heap.objs.size + 1 ∨ b = s1.heap.objs.size := by simpa using hb
    have hle : s1.heap.objs.size ≤ b := by
      rcases e' with z | z
      · rw [z]; exact Nat.le_add_right _ _
      · rw [z]; exact Nat.le_refl _
    exact I1.fpOk hle (I1.hok.fresh hle)
theorem walk_enumT {K : PySem.W.Frag} {a : Addr} {xs : List V} : Walk (IteT K a) xs.length (fun H => SqT K H a xs) (YPair (fun i => some (.int (i : Nat))) (fun i => xs[i]?)) := by
  refine ⟨fun i _ hi q => ⟨xs, xs[i], q, by simp [hi]⟩, fun _ q => ⟨xs, q, Nat.le_refl _⟩, fun i H v H' _ q y => ?_⟩
  obtain ⟨T, x, h1, h2, h3, h4⟩ := y
  exact ⟨T, .int (i : Nat), x, h1, h2, h3, rfl, h4 xs q⟩
end
end L2
end

section
set_option Elab.async false
set_option linter.all false
set_option maxRecDepth 100000
set_option maxHeartbeats 2000000
/-! a def (a, b, *v, c=.., **d): called with a, b alone, or with a, b and c by name; a class called by a local name -/
namespace InC
open PySem PySem.Spec PyProof.Rows L2 StX
/-- what binding comes to: nothing left over, no further keywords -/
def BndOk (K : PySem.W.Frag) (fd : FuncData) (args : Args) (l : List (Str × Value)) (pv pd : Str) : Prop :=
  ∀ (M : Model) (A : Around) (Q : List (Str × Value) → Shared → Prop) (E : Value → Shared → Prop) (s : Shared), K.In s.heap →
    wpAny M A (newTuple [] >>= fun t => (alloc ({ cls := .type "dict", data := .dict #[] } : Obj) : Sem Addr) >>= fun d => pure (l ++ [(pv, t), (pd, Value.ref d)])) Q E s → wpAny M A (bindArgs fd args) Q E s
section
variable {CX : CXT} {P : Program} {w : World} {K : PySem.W.Frag} {mg : Str → Option Value} {base : Heap} {k : Nat} {f : Addr} {name qual : Str} {params : Arguments} {body : List Stmt} {scope : Scope} {dV kV doc pm cdv ct oc : Value} {an od : Option Addr}
  {osl : Array (Option Value)} {N ps : List Str} {sp : Sp} {pv pd : Str}
theorem run_in {A : Around} {outer : List Env} {s : Shared} {H : Hp} {args : Args} {us : List Value} {vs : List V} {Q : VK} {E : XK} (lk : K.lookup f = some ⟨oc, od, .func (PySem.W.fnOf name qual params body scope dV kV doc pm an cdv ct), osl⟩) (hcd : PySem.W.codeIn K cdv qual = true)
    (S : FnScope N (ps ++ [pv, pd]) scope) (hCX : CXUp CX) (hr : Room (k + 1) A) (e0 : Env0 P w K mg base A outer s H) (hb : BndOk K (PySem.W.fnOf name qual params body scope dV kV doc pm an cdv ct) args (ps.zip us) pv pd) (r : Vals vs us) (hl : vs.length = ps.length)
    (hbody : ∀ (A : Around) (outer : List Env) (s : Shared) (H : Hp) (vs : List V) (Q : VK) (E : XK), Room k (A.deeper (envOfC qual scope s.heap.objs.size f cdv)) → sp vs H Q E →
      ∃ t, PSs (cxOf CX P w K mg base N qual scope f cdv A outer s H E) body t ∧ t { nx := fun _ H' => Q .non H', rt := Q } (start N vs) H)
    (hq : ∀ p d, H p = Option.none → H d = Option.none → d ≠ p → sp (vs ++ [V.ref p, V.ref d]) (upd (upd H p (.tup [])) d (.dK [])) Q E) :
    codeAny (model P w) A (.call (.ref f) args) (CR CX outer P w H s Q E) s := by
  have hn : H s.heap.objs.size = Option.none := e0.hok.fresh (Nat.le_refl _)
  have hl1 : us.length = ps.length := by rw [← r.length]; exact hl
  have KX : K.In s.heap := e0.mod.kin.keeps fun b o e => (e0.bs b o e).1
  refine run_bnd lk hcd S hr e0 (G := fun xs H2 => ∃ p d, H p = Option.none ∧ H d = Option.none ∧ d ≠ p ∧ xs = vs ++ [V.ref p, V.ref d] ∧ H2 = upd (upd H p (.tup [])) d (.dK [])) (fun A' Ex Q' h => ?_) fun s2 H2 xs ⟨p, d, hp, hd, hne, ex, eH⟩ hr' => ?_
  · refine hb _ _ _ _ _ KX ?_
    refine wpAny_bind (wpAny_newTuple (wpAny_bind (wpAny_alloc (wpAny_pure ?_))) (by show 0 ≤ sizeLine; exact Nat.zero_le _))
    have new : ObjOk P w (upd H s.heap.objs.size (.tup [])) (s.heap.push ({ cls := .type "tuple", data := .seq ([] : List Value).toArray } : Obj)) s.heap.objs.size (.tup []) := ⟨Nat.zero_le _, [], .nil, ⟨_, Heap.get?_push_size _ rfl, rfl, _, rfl⟩⟩
    have e1 := env0_laid e0 new
    have un1 := un_laid (fs := frs outer) (s := s) (o := ({ cls := .type "tuple", data := .seq ([] : List Value).toArray } : Obj)) (u := .tup []) hn
    have hn2 := e1.hok.fresh (Nat.le_refl _)
    have e2 := env0_laid (u := .dK []) (o := ({ cls := .type "dict", data := .dict #[] } : Obj)) e1 (dk_empty _ (env0_big e1))
    have un2 := un1.trans (un_laid (fs := frs outer) (s := { s with heap := s.heap.push ({ cls := .type "tuple", data := .seq ([] : List Value).toArray } : Obj) }) (o := ({ cls := .type "dict", data := .dict #[] } : Obj)) (u := .dK []) hn2)
    have sz : (s.heap.push ({ cls := .type "tuple", data := .seq ([] : List Value).toArray } : Obj)).objs.size = s.heap.objs.size + 1 := Heap.size_push _ _
    have ne : (s.heap.push ({ cls := .type "tuple", data := .seq ([] : List Value).toArray } : Obj)).objs.size ≠ s.heap.objs.size := by
      rw [sz]
      exact Nat.succ_ne_self _
    have hd : H (s.heap.push ({ cls := .type "tuple", data := .seq ([] : List Value).toArray } : Obj)).objs.size = Option.none := e0.hok.fresh (by rw [sz]; exact Nat.le_succ _)
    have z := h _ _ (vs ++ [V.ref s.heap.objs.size, V.ref (s.heap.push ({ cls := .type "tuple", data := .seq ([] : List Value).toArray } : Obj)).objs.size]) (us ++ [Value.ref s.heap.objs.size, Value.ref (s.heap.push ({ cls := .type "tuple", data := .seq ([] : List Value).toArray } : Obj)).objs.size]) e2 un2 rfl
      (fun e s' => hCX outer s H _ _ E e s' un2 (fun b o q => Heap.get?_push_of_some _ (Heap.get?_push_of_some _ q)) rfl) (r.append (.cons rfl (.cons rfl .nil))) (by rw [List.length_append, List.length_append, hl] <;> rfl) ⟨_, _, hn, hd, ne, rfl, rfl⟩
    rw [List.zip_append hl1.symm] at z
    exact z
  · subst ex eH
    exact hbody A outer s2 _ _ Q E hr' (hq p d hp hd hne)
end
/-- with one keyword-only default that is looked up (the name c) -/
theorem bnd_dflt {K : PySem.W.Frag} {fd : FuncData} {args : Args} {l : List (Str × Value)} {pv pd c : Str} {D : Addr} {av : Value} (hk : PySem.W.nsIn K D c = some (some av))
    (h : ∃ (β γ : Type) (k1 : Option Value → Sem β) (k2 : β → Sem γ) (k3 : γ → Sem (List (Str × Value))) (a : β), bindArgs fd args = ((nsGet D c >>= k1) >>= k2) >>= k3 ∧ k1 (some av) = pure a ∧
      (k2 a >>= k3) = (newTuple [] >>= fun t => (alloc ({ cls := .type "dict", data := .dict #[] } : Obj) : Sem Addr) >>= fun d => pure (l ++ [(pv, t), (pd, Value.ref d)]))) : BndOk K fd args l pv pd := fun M A Q E s X q => by
  obtain ⟨β, γ, k1, k2, k3, a, e1, e2, e3⟩ := h
  have l1 : PySem.W.Looks M s.heap (nsGet D c >>= k1) a := (PySem.W.looks_nsIn X hk).andThen (PySem.W.Looks.of_pure e2)
  rw [e1, bind_assoc]
  refine wpAny_bind (l1.here ?_)
  rw [e3]
  exact q
theorem bnd_all {K : PySem.W.Frag} {fd : FuncData} {args : Args} {l : List (Str × Value)} {pv pd : Str}
    (h : bindArgs fd args = (newTuple [] >>= fun t => (alloc ({ cls := .type "dict", data := .dict #[] } : Obj) : Sem Addr) >>= fun d => pure (l ++ [(pv, t), (pd, Value.ref d)]))) : BndOk K fd args l pv pd := fun M A Q E s X q => by
  rw [h]
  exact q

/-! ### making an instance by a local name, and by keywords -/
section
variable {X : Cx} {CX : CXT} {k i : Nat} {f C : Addr} {sp : Sp} {E : XK} {x : Str} {e : Expr} {es : List Expr} {t tk : TA} {p pos : Pos} {kws : List Keyword}
/-- c(e, ..), c the def's own name that holds the class at C -/
theorem pe_makeL (M : Mk X.K C f) (F : FnR X.prog X.w X.K X.mg X.base CX k f sp) (hr : Room (k + 1) X.A) (hN : X.N[i]? = some x) (hv : Vis X.env.scope x) (hx : Passes CX X E) (ha : PA X (e :: es) t) (hd : (x == ("__debug__" : Str)) = false := by decide)
    (hcd : (x == ("__classdict__" : Str)) = false := by decide)
    (he : starEach (e :: es) X.env = (false, eval e X.env) :: starEach es X.env := by rfl) (hpl : (backTo pos (starEach es X.env)).any (·.1) = false := by rfl) :
    PE X (.Call (.Name x p) (e :: es) [] pos) (fun σ H Q => σ[i]? = some (some (.ref C)) ∧ tMakeR C sp E t σ H Q) := by
  refine ⟨fun pins s σ H Q I h => ?_⟩
  obtain ⟨hs, h⟩ := h
  refine wpAny_Call_Name_kw (thn ((pe_var (pos := p) (i := i) hN hv hd hcd).run pins s σ H (fun v H1 => v = .ref C ∧ H1 = H) I ⟨.ref C, hs, rfl, rfl⟩) fun u s1 ⟨v, H1, I1, r1, q1⟩ => ?_)
  obtain ⟨ev, eH⟩ := q1
  subst ev
  subst eH
  obtain rfl : u = Value.ref C := r1
  refine PySem.W.callWith_K (h₀ := X.base) I.ok.mod.kin M.kp (thn (ha.run pos pins s1 σ H1 _ I1 h) fun us s1 ⟨vs, H1, I1, r, q⟩ => ⟨I1.kIn, ?_⟩) he hpl
  exact run_makeR M F hr hx I1 r q
/-- a promise of a call with keywords: the positional values, the keywords' values (names ks) -/
def FnKw (P : Program) (w : World) (K : PySem.W.Frag) (mg : Str → Option Value) (base : Heap) (CX : CXT) (k : Nat) (f : Addr) (ks : List Str) (sp : List V → List V → Hp → VK → XK → Prop) : Prop :=
  ∀ (A : Around) (outer : List Env) (s : Shared) (H : Hp) (us ws : List Value) (vs zs : List V) (Q : VK) (E : XK), Room k A → Env0 P w K mg base A outer s H → Vals vs us → Vals zs ws → zs.length = ks.length → sp vs zs H Q E →
    codeAny (model P w) A (.call (.ref f) ⟨us, ks.zip ws⟩) (CR CX outer P w H s Q E) s
def tMakeKw (C : Addr) (m : Nat) (sp : List V → List V → Hp → VK → XK → Prop) (E : XK) (t tk : TA) : TE := fun σ H Q => t σ H fun vs H1 => tk σ H1 fun zs H2 => zs.length = m ∧ ∀ x dx, H2 x = Option.none → H2 dx = Option.none → dx ≠ x →
  sp (V.ref x :: vs) zs (upd (upd H2 dx (.own x)) x (.ins C dx [])) (fun v H3 => v = .non ∧ Q (.ref x) H3) E
/-- C(e, .., k = v, ..) -/
theorem pe_makeKw {ks : List Str} {sp : List V → List V → Hp → VK → XK → Prop} (M : Mk X.K C f) (F : FnKw X.prog X.w X.K X.mg X.base CX k f ks sp) (hr : Room (k + 1) X.A) (hg : Gl X x) (hm : X.mg x = some (.ref C)) (hx : Passes CX X E) (ha : PA X (e :: es) t) (hkw : PK X kws tk)
    (hall : (backToKw pos (keywordEach kws X.env)).all (·.1.isSome) = true := by rfl) (hks : (backToKw pos (keywordEach kws X.env)).filterMap (·.1) = ks := by rfl) (hdb : (x == ("__debug__" : Str)) = false := by decide)
    (he : starEach (e :: es) X.env = (false, eval e X.env) :: starEach es X.env := by rfl) (hpl : ((backTo pos (starEach (e :: es) X.env)).any (·.1) || (backToKw pos (keywordEach kws X.env)).any (·.1.isNone)) = false := by rfl) :
    PE X (.Call (.Name x p) (e :: es) kws pos) (tMakeKw C ks.length sp E t tk) := by
  refine ⟨fun pins s σ H Q I h => ?_⟩
  refine wpAny_Call_Name_kw (ld_glob I hg hm ?_ hdb)
  refine PySem.W.callWith_KW (h₀ := X.base) I.ok.mod.kin M.kp hall (thn (ha.run pos pins s σ H _ I h) fun us s1 ⟨vs, H1, I1, r, q⟩ => ?_) hpl he
  refine thn (hkw.run pos pins s1 σ H1 _ I1 q) fun ws s2 ⟨zs, H2, I2, rz, l3, q2⟩ => ⟨I2.kIn, ?_⟩
  rw [hks]
  have hq := q2 (s2.heap.objs.size + 1) s2.heap.objs.size (I2.hok.fresh (Nat.le_succ _)) (I2.hok.fresh (Nat.le_refl _)) (Nat.ne_of_lt (Nat.lt_succ_self _))
  have I3 := Inv.made (C := C) I2
  have r2 : Vals (V.ref (s2.heap.objs.size + 1) :: vs) (Value.ref (s2.heap.objs.size + 1) :: us) := .cons rfl r
  refine wpAny_call (make_map (f := f) I2.kIn M.makes M.init (beq_iff_eq.mp M.fn) (codeAny_mono (F _ X.stack _ _ (Value.ref (s2.heap.objs.size + 1) :: us) ws _ zs _ E (hr.make C us (ks.zip ws)) (I3.env0.make C us (ks.zip ws)) r2 rz l3 hq) fun r s' hq' => ?_))
  cases r with
  | error e => exact hx pins σ _ _ e s' I3 hq'
  | ok fl =>
    cases fl with
    | ret u =>
      obtain ⟨v, H', I4, rv, ev, q3⟩ := I3.after hq'
      subst ev
      exact ⟨rv, ⟨V.ref (s2.heap.objs.size + 1), H', I4, rfl, q3⟩⟩
    | next => exact False.elim hq'
    | brk => exact False.elim hq'
    | cont => exact False.elim hq'
end
end InC
end

section
set_option Elab.async false
set_option linter.all false
set_option maxRecDepth 100000
set_option maxHeartbeats 2000000
/-! xs == [], xs != []; list(d.values()); a lambda as a value -/
namespace L2
open PySem PySem.Spec PyProof.Rows
section
variable {X : Cx}
/-- == [] and != [], whatever the items are -/
def rEqE (K : PySem.W.Frag) (neg : Bool) : R2 := fun x y H Q => ∃ p q xs, x = .ref p ∧ y = .ref q ∧ SqL K H p xs ∧ SqL K H q [] ∧ Q (.bl (if neg then !xs.isEmpty else xs.isEmpty)) H
theorem op_eq_nil {k : Nat} (hr : Room k X.A) : OpR X (compareOp .Eq) (rEqE X.K false) := by
  intro pins s σ H x y v u Q I rx ry h
  obtain ⟨p, q, xs, rfl, rfl, hx, hy, qq⟩ := h
  cases rx
  cases ry
  obtain ⟨its, r, pl, hz⟩ := I.list hx
  obtain ⟨its2, r2, pl2, hz2⟩ := I.list hy
  have hu : X.A.units < cLine := hr.units0
  have e2 : its2 = [] := by
    cases r2
    rfl
  subst e2
  cases xs with
  | nil =>
    have e1 : its = [] := by
      cases r
      rfl
    subst e1
    refine SeqAt.RcAt.lists (e := fun _ => true) pl.isList pl2.isList rfl hu (fun j h1 h2 => absurd h1 (by simp)) _ _ _ _ ⟨.bl _, H, I, rfl, ?_⟩
    exact qq
  | cons y ys =>
    have hl := r.length
    refine SeqAt.RcAt.lists_lengths pl.isList pl2.isList ?_ hu _ _ _ _ ⟨.bl _, H, I, rfl, qq⟩
    rw [List.size_toArray, List.size_toArray, ← hl]
    simp
theorem op_ne_nil {k : Nat} (hr : Room k X.A) : OpR X (compareOp .NotEq) (rEqE X.K true) := by
  intro pins s σ H x y v u Q I rx ry h
  obtain ⟨p, q, xs, rfl, rfl, hx, hy, qq⟩ := h
  cases rx
  cases ry
  obtain ⟨its, r, pl, hz⟩ := I.list hx
  obtain ⟨its2, r2, pl2, hz2⟩ := I.list hy
  have hu : X.A.units < cLine := hr.units0
  have e2 : its2 = [] := by
    cases r2
    rfl
  subst e2
  cases xs with
  | nil =>
    have e1 : its = [] := by
      cases r
      rfl
    subst e1
    refine SeqAt.RcNeAt.lists (e := fun _ => true) pl.isList pl2.isList rfl hu (fun j h1 h2 => absurd h1 (by simp)) _ _ _ _ ⟨.bl _, H, I, rfl, ?_⟩
    exact qq
  | cons y ys =>
    have hl := r.length
    refine SeqAt.RcNeAt.lists_lengths pl.isList pl2.isList ?_ hu _ _ _ _ ⟨.bl _, H, I, rfl, qq⟩
    rw [List.size_toArray, List.size_toArray, ← hl]
    simp
/-! ### list(d.values()) -/
def tListVals (te : TE) : TE := fun σ H Q => te σ H fun x H1 => ∃ d kvs, x = .ref d ∧ H1 d = some (.dK kvs) ∧ ∀ p, H1 p = none → Q (.ref p) (upd H1 p (.lst (kvs.map (·.2))))
theorem kv_vals {κ : Type} : ∀ {kvs : List (κ × V)} {vs : List (κ × Value)}, KV kvs vs → Vals (kvs.map (·.2)) (vs.map (·.2))
  | _, _, .nil => .nil
  | _, _, .cons h t => .cons h.2 (kv_vals t)
theorem pe_listVals {e : Expr} {te : TE} {p apos cpos pos : Pos} (hc : X.calm = true) (he : PE X e te) (hg : Gl X "list") (hm : X.mg "list" = none) (hv : bootBuiltins "list" = some (.type "list")) (hbase : attributeBase e "values" X.env (eval e X.env) = eval e X.env := by rfl) (hline : (apos.endLine == cpos.line) = true := by rfl)
    (hs : starEach [.Call (.Attribute e "values" apos) [] [] cpos] X.env = (false, eval (.Call (.Attribute e "values" apos) [] [] cpos) X.env) :: starEach [] X.env := by rfl) :
    PE X (.Call (.Name "list" p) [.Call (.Attribute e "values" apos) [] [] cpos] [] pos) (tListVals te) := by
  refine ⟨fun pins s σ H Q I hq => ?_⟩
  refine wpAny_Call_Name_kw (ld_blt I hg hm hv ?_)
  refine PyProof.Rows.callWith_type1 ?_ hs rfl
  rw [hs]
  show wpAny _ _ (spliced ((false, eval (.Call (.Attribute e "values" apos) [] [] cpos) X.env) :: backTo pos (starEach [] X.env))) _ _ s
  refine Calls.spliced_cons ?_
  refine wpAny_Call_method (T := "dict") (id := "dict.values") hbase rfl hline F.plainAttrs_dict F.slot_dict_values F.type_dict_values (thn (he.run pins s σ H _ I hq) fun u s1 ⟨x, H1, I1, rx, d, kvs, ex, hd, q⟩ => ?_)
  subst ex
  obtain rfl : u = Value.ref d := rx
  obtain ⟨hz, hs0, vs, kv, hdo⟩ := I1.hok d _ hd
  obtain ⟨ep, hat⟩ := hdo.dictAt
  have lk : kvs.length = vs.length := Paired.length kv
  have I2 : Inv X pins σ H1 { s1 with heap := s1.heap.push { cls := .type "dict_values", data := .fields #[.ref d] } } := I1.kept (t' := s1.toks) fun b ob q => Heap.get?_push_of_some _ q
  refine ⟨hdo.typeIs, hdo.mapOf.noDict, ?_⟩
  show wpAny _ _ (callWith cpos (.builtin "dict.values") [.ref d] [] []) _ X.xe s1
  refine method_meetsIn F.slot_dict_values F.entry_dict_values rfl (PySem.evalArgs_none ⟨rfl, hdo.typeIs, F.args_dict_values_1 _, _, meets_dict_values (mixKind X.prog X.w) d hs0, ⟨vs, hdo⟩, ?_⟩)
  refine Calls.spliced_nil ?_
  refine PySem.W.kdl_call (PySem.W.kdl_values (knd := mixKind X.prog X.w) (kvs := vs) (ep := ep)) (I1.ok.hd hc) ⟨⟨_, Heap.get?_push_size _ rfl, rfl, rfl⟩, hat.push _⟩ (by omega) fun h' tk acc c hk hS hacc => ?_
  have hS' := hS
  have hle : s1.heap.objs.size ≤ (s1.heap.push { cls := .type "dict_values", data := .fields #[.ref d] }).objs.size := by
    rw [Heap.size_push]
    exact Nat.le_succ _
  have eacc : acc.toList = vs.map (·.2) := PySem.W.kdl_vals_eq acc.toList (by rw [Array.length_toList]; exact hacc.1) fun j v e => hacc.2 j v (by rw [← Array.getElem?_toList]; exact e)
  refine ⟨.ref _, _, I2.laid (t' := tk) (o := .lst (kvs.map (·.2))) hk (Nat.le_refl _) ?_, rfl, q _ (I2.hok.fresh (Nat.le_refl _))⟩
  refine ⟨by rw [List.length_map]; omega, acc.toList, c, by rw [eacc]; exact kv_vals kv, ?_⟩
  rw [Array.toArray_toList]
  exact hS'
end
end L2
namespace LamX
open PySem PySem.Spec PyProof.Rows L2
section
variable {X : Cx}
/-- a lambda as a value: a new function, nothing told of it -/
def tLamV (T : List (Addr × Str)) : TE := fun _ H Q => Tabs T H ∧ ∀ (H1 : Hp) (f : Addr), ExtN H H1 → Tabs T H1 → Q (.ref f) H1
theorem pe_lamV {T : List (Addr × Str)} {c P : Addr} {params : Arguments} {body : Expr} {scope : Scope} {pos : Pos} (TB : TabB X.base X.mg c P) (hcode : X.env.code = .ref c) (hmT : (P, X.env.qual ++ "<lambda>") ∈ T) (hu : ∀ p ∈ T, p.1 = P → p.2 = X.env.qual ++ "<lambda>")
    (L : LamS X.env.scope scope) (hdef : defaultsOf params X.env = ([], [])) : PE X (.Lambda params body scope pos) (tLamV T) := by
  refine ⟨fun pins s σ H Q I h => ?_⟩
  obtain ⟨hT, h⟩ := h
  exact lam_make2 I TB hcode hmT hu hT hdef (L.has I.ok) fun f c' pm ctv H1 s' I1 eN T1 hf hfn hfr hco => ⟨.ref f, H1, I1, rfl, h H1 f eN T1⟩
end
end LamX
end

section
set_option Elab.async false
set_option linter.all false
set_option maxRecDepth 100000
set_option maxHeartbeats 2000000
/-! tuples whose object is known: without a dict of their own, so that their methods are the type's -/
namespace L2
open PySem PySem.Spec PyProof.Rows
variable {X : Cx}
def NoD (K : PySem.W.Frag) (H : Hp) (a : Addr) : Prop := (∃ (o : Obj) (u : HO), H a = some (.frz o u) ∧ o.dict = Option.none) ∨ ∃ o : Obj, K.lookup a = some o ∧ o.dict = Option.none
def SqD (K : PySem.W.Frag) (H : Hp) (a : Addr) (xs : List V) : Prop := SqT K H a xs ∧ NoD K H a
theorem SqD.of {K : PySem.W.Frag} {H : Hp} {a : Addr} {xs : List V} {o : Obj} (h : H a = some (.frz o (.tup xs))) (d : o.dict = Option.none) : SqD K H a xs := ⟨.inl (.inr ⟨o, h⟩), .inl ⟨o, _, h, d⟩⟩
theorem SqD.ex {K : PySem.W.Frag} {H H' : Hp} {a : Addr} {xs : List V} (e : Evl.Ex H H') (h : SqD K H a xs) : SqD K H' a xs := by
  refine ⟨Evl.ex_t e h.1, ?_⟩
  rcases h.2 with ⟨o, u, h1, h2⟩ | h
  · exact .inl ⟨o, u, e _ _ h1, h2⟩
  · exact .inr h
theorem NoD.at_ {pins : List (Addr × Obj)} {σ : St} {H : Hp} {s : Shared} {a : Addr} (I : Inv X pins σ H s) (h : NoD X.K H a) : ∃ ob, s.heap.get? a = some ob ∧ ob.dict = Option.none := by
  rcases h with ⟨o, u, h1, h2⟩ | ⟨o, h1, h2⟩
  · obtain ⟨e, _⟩ := (show ObjOk X.prog X.w H s.heap a (.frz o u) from I.hok a _ h1)
    exact ⟨o, e, h2⟩
  · exact ⟨o, I.kIn _ _ h1, h2⟩
def tBMD (K : PySem.W.Frag) (r : V → List V → Hp → VK → Prop) (to : TE) (t : TA) : TE := fun σ H Q => to σ H fun x H1 => (∃ p xs, x = .ref p ∧ SqD K H1 p xs) ∧ t σ H1 fun xs H2 => r x xs H2 Q
variable {o e : Expr} {es : List Expr} {to : TE} {t : TA} {name : Str} {apos cpos pos : Pos} {T id : String} {r : V → List V → Hp → VK → Prop}
/-- t.m(e, ..), t such a tuple -/
theorem pe_bmD (slot : Slot "tuple" name id) (hty : typeOf (.builtin id) = pure (.type "method_descriptor")) (hm : MtR X id r) (ho : PE X o to) (ha : PA X (e :: es) t)
    (hbase : attributeBase o name X.env (eval o X.env) = eval o X.env := by rfl)
    (hfew : ((backTo cpos (starEach (e :: es) X.env)).all (fun x => !x.1) && (backToKw cpos (keywordEach [] X.env)).all (fun x => x.1.isSome)
      && decide ((e :: es).length + ([] : List Keyword).length + (if ([] : List Keyword).isEmpty then 0 else 1) < 30)) = true := by rfl)
    (hline : (apos.endLine == cpos.line) = true := by rfl) (hs : starEach (e :: es) X.env = (false, eval e X.env) :: starEach es X.env := by rfl) (hplain : (backTo cpos (starEach es X.env)).any (·.1) = false := by rfl) :
    PE X (.Call (.Attribute o name apos) (e :: es) [] cpos) (tBMD X.K r to t) := by
  refine ⟨fun pins s σ H Q I h => ?_⟩
  refine wpAny_Call_method_late hbase hfew hline rfl (thn (ho.run pins s σ H _ I h) fun v s1 ⟨x, H1, I1, r1, ty, q1⟩ => ?_)
  obtain ⟨p, xs, rfl, hx, hd⟩ := ty
  cases r1
  obtain ⟨its, rv, ht, hz⟩ := I1.tuple hx
  refine ⟨"tuple", id, PySem.F.plainAttrs_tuple, slot, hty, ht.typeIs, fun a e => by cases e; exact hd.at_ I1, ?_⟩
  have hA := ha.run cpos pins s1 σ H1 _ I1 q1
  rw [hs] at hA ⊢
  refine Calls.callWith_builtin (by show (false || (backTo cpos (starEach es X.env)).any (·.1)) = false; rw [hplain] <;> rfl) (Calls.evalArgs_plain ?_)
  exact thn hA fun us s2 ⟨vs, H2, I2, r2, q2⟩ => hm pins s2 σ H2 (.ref p) vs (Value.ref p) us Q I2 rfl r2 q2
def tTupZ (t : TA) : TE := fun σ H Q => t σ H fun xs H1 => xs.length ≤ sizeLine ∧ ∀ (p : Addr) (o : Obj), H1 p = Option.none → o.dict = Option.none → Q (.ref p) (upd H1 p (.frz o (.tup xs)))
theorem pe_tupZ {x1} (h : PA X es t) : PE X (.Tuple es x1 pos) (tTupZ t) := by
  refine ⟨fun pins s σ H Q I hq => ?_⟩
  refine wpAny_Tuple_spliced (thn (h.run pos pins s σ H _ I hq) fun us s1 ⟨xs, H1, I1, r, z, q⟩ => ⟨by rw [← r.length]; exact z, ?_⟩)
  have hf : H1 s1.heap.objs.size = none := I1.hok.fresh (Nat.le_refl _)
  refine ⟨.ref s1.heap.objs.size, upd H1 s1.heap.objs.size (.frz { cls := .type "tuple", data := .seq us.toArray } (.tup xs)), I1.laid (t' := s1.toks) (fun b u e => Heap.get?_push_of_some _ e) (Nat.le_refl _) ?_, rfl, q _ _ hf rfl⟩
  exact ⟨Heap.get?_push_size _ rfl, z, us, r, ⟨_, Heap.get?_push_size _ rfl, rfl, _, rfl⟩⟩
def rTupZ (K : PySem.W.Frag) : List V → Hp → VK → Prop := fun xs H Q => ∃ p ys, xs = [.ref p] ∧ SqL K H p ys ∧ ∀ (l : Addr) (o : Obj), H l = Option.none → o.dict = Option.none → Q (.ref l) (upd H l (.frz o (.tup ys)))
theorem call_tuple_ofZ : CallR X (.type "tuple") (rTupZ X.K) := by
  intro pins s σ H xs us Q I r h
  obtain ⟨p, ys, rfl, hq, q⟩ := h
  obtain ⟨u, rfl, rx⟩ := vals1 r
  cases rx
  obtain ⟨its, r', pl, hz⟩ := I.list hq
  have hlen := r'.length
  refine call_tuple_list pl.isList (fun h' kp => ?_) (by simp only [List.size_toArray] <;> omega)
  have I1 : Inv X pins σ H { s with heap := h' } := I.kept (t' := s.toks) kp
  have I2 : Inv X pins σ (upd H h'.objs.size (.frz { cls := .type "tuple", data := .seq its.toArray } (.tup ys))) { s with heap := h'.push { cls := .type "tuple", data := .seq its.toArray } } :=
    I1.laid (t' := s.toks) (fun b o e => Heap.get?_push_of_some _ e) (Nat.le_refl _) ⟨Heap.get?_push_size _ rfl, hz, its, r', IsTup.new _ _⟩
  exact ⟨.ref h'.objs.size, _, I2, rfl, q _ _ (I1.hok.fresh (Nat.le_refl _)) rfl⟩
end L2
end

section
set_option Elab.async false
set_option linter.all false
set_option maxRecDepth 100000
set_option maxHeartbeats 2000000
/-! list(range(n)) -/
namespace L2
open PySem PySem.Spec PyProof.Rows
variable {X : Cx}
theorem cr_range1 : CallR X (.type "range") (fun vs H Q => ∃ j, vs = [V.int j] ∧ ∀ p, H p = none → Q (.ref p) (upd H p (.rng 0 j))) := by
  intro pins s σ H vs us Q I r h
  obtain ⟨j, rfl, q⟩ := h
  obtain ⟨u1, rfl, t, rfl⟩ := vals1 r
  refine call_range_1 ⟨.ref s.heap.objs.size, upd H s.heap.objs.size (.rng 0 j), I.laid (t' := s.toks + 1 + 1) (fun b o e => Heap.get?_push_of_some _ e) (Nat.le_refl _) ?_, rfl, q _ (I.hok.fresh (Nat.le_refl _))⟩
  exact ⟨s.toks, t, s.toks + 1, Heap.get?_push_size _ rfl⟩
theorem vals_items : ∀ (n : Nat) (us : List Value), us.length = n → (∀ (i : Nat) (u : Value), us[i]? = some u → ∃ t, u = Value.int ((0 : Int) + (i : Int) * 1) t) → Vals ((List.range n).map fun (i : Nat) => V.int (i : Int)) us := by
  intro n us hl h
  have key : ∀ (k : Nat) (us : List Value), (∀ (i : Nat) (u : Value), us[i]? = some u → ∃ t, u = Value.int ((k : Int) + (i : Int)) t) → Vals ((List.range' k us.length).map fun (i : Nat) => V.int (i : Int)) us := by
    intro k us
    induction us generalizing k with
    | nil => intro _; exact .nil
    | cons u r ih =>
      intro h
      have h0 := h 0 u rfl
      obtain ⟨t, rfl⟩ := h0
      refine .cons ⟨t, ?_⟩ (ih (k + 1) fun i v hv => ?_)
      · simp
      · obtain ⟨t, e⟩ := h (i + 1) v (by simpa using hv)
        refine ⟨t, ?_⟩
        rw [e]
        congr 1
        push_cast
        omega
  have := key 0 us fun i u hu => by
    obtain ⟨t, e⟩ := h i u hu
    exact ⟨t, by rw [e]; congr 1; omega⟩
  rw [hl] at this
  rw [List.range_eq_range']
  exact this
theorem call_list_rng (hc : X.calm = true) : CallR X (.type "list") (fun xs H Q => ∃ (a : Addr) (n : Nat), xs = [.ref a] ∧ H a = some (.rng 0 (n : Int)) ∧ n ≤ 1000 ∧ ∀ l, H l = none → Q (.ref l) (upd H l (.lst ((List.range n).map fun (i : Nat) => V.int (i : Int))))) := by
  intro pins s σ H xs us Q I r h
  obtain ⟨a, n, rfl, ha, hn, q⟩ := h
  obtain ⟨u, rfl, rx⟩ := vals1 r
  cases rx
  obtain ⟨t, u, v, e⟩ := (show ∃ t u v, s.heap.get? a = some { cls := .type "range", data := .fields #[.int 0 t, .int (n : Int) u, .int 1 v] } from I.hok a _ ha)
  refine call_list_range (I.ok.hd hc) e (small_one (by decide) (by decide) (by omega) (by omega)) ?_ (n := n) (by omega) fun h' tk acc' c' kp he hit => ?_
  · unfold Builtin.Range.rangeSize
    rw [if_pos (by decide)]
    by_cases h0 : (0 : Int) < (n : Int)
    · rw [if_pos h0]
      omega
    · rw [if_neg h0]
      omega
  · obtain ⟨h1, h2⟩ := hit
    have rv := vals_items n acc'.toList (by rw [Array.length_toList]; exact h1) fun i u hu => h2 i u (by rw [← Array.getElem?_toList]; exact hu)
    have hlen : ((List.range n).map fun (i : Nat) => V.int (i : Int)).length ≤ sizeLine := by
      rw [List.length_map, List.length_range]
      exact Nat.le_trans hn (by decide)
    refine ⟨.ref s.heap.objs.size, _, I.laid (t' := tk) kp (Nat.le_refl _) (show ObjOk X.prog X.w _ h' _ (.lst ((List.range n).map fun (i : Nat) => V.int (i : Int))) from ⟨hlen, acc'.toList, c', rv, ?_⟩), rfl, q _ (I.hok.fresh (Nat.le_refl _))⟩
    rw [he]
end L2
end

section
set_option Elab.async false
set_option linter.all false
set_option maxRecDepth 100000
set_option maxHeartbeats 2000000
/-! a def by its global name, with its promise and how it binds -/
namespace Cn
open PySem L2
structure Can (P : Program) (w : World) (K : PySem.W.Frag) (mg : Str → Option Value) (base : Heap) (CX : CXT) (k : Nat) (x : Str) (ps : List Str) (sp : Sp) : Prop where
  ex : ∃ f fd, mg x = some (.ref f) ∧ FnOk P w K mg base CX k f fd ps sp ∧ PySem.W.keepIn K (.ref f) = true ∧ Binds K fd ps []
section
variable {X : Cx} {CX : CXT} {k j : Nat} {ps : List Str} {sp : Sp} {E : XK} {x : Str} {p pos : Pos} {e : Expr} {es : List Expr} {t : TA}
theorem room_le {A : Around} (h : j ≤ k) (hr : Room k A) : Room j A := hr.mono h
theorem pe_can (C : Can X.prog X.w X.K X.mg X.base CX j x ps sp) (hr : Room k X.A) (hx : Passes CX X E) (ha : PA X (e :: es) t) (hjk : j ≤ k := by decide) (hg : Gl X x := by rfl)
    (hdb : (x == ("__debug__" : Str)) = false := by decide) (he : starEach (e :: es) X.env = (false, eval e X.env) :: starEach es X.env := by rfl) (hpl : (backTo pos (starEach es X.env)).any (·.1) = false := by rfl) :
    PE X (.Call (.Name x p) (e :: es) [] pos) (tCall sp [] E t) := by
  obtain ⟨f, fd, hm, F, kp, b⟩ := C.ex
  exact pe_call F (hr.mono hjk) hg hm kp b .nil hx ha hdb he hpl
end
theorem can_of {P : Program} {w : World} {K : PySem.W.Frag} {mg : Str → Option Value} {base : Heap} {CX : CXT} {k : Nat} {x qual : Str} {ps : List Str} {sp : Sp} {st : Stmt} {f : Addr} (hm : mg x = some (.ref f)) (F : ∃ fd, Fun K x qual st f fd)
    (h : ∀ fd, Fun K x qual st f fd → FnOk P w K mg base CX k f fd ps sp)
    (hb : ∀ (kV doc pm : Value) (an : Option Addr) (cdv ct : Value) (us : List Value), us.length = ps.length → bindArgs (PySem.W.fnOf x qual (defArgs st) (defBody st) (defScope st) .none kV doc pm an cdv ct) ⟨us, []⟩ = pure (ps.zip us)) : Can P w K mg base CX k x ps sp := by
  obtain ⟨fd, F⟩ := F
  exact ⟨f, fd, hm, h fd F, F.kp, F.binds hb⟩
end Cn
end

section
set_option Elab.async false
set_option linter.all false
set_option maxRecDepth 100000
set_option maxHeartbeats 2000000
/-! C() and C(*y), C a class of the module whose __init__ is promised positionally -/
namespace OwD
open PySem PySem.Spec PyProof.Rows L2 StX
section
variable {X : Cx} {CX : CXT} {k i : Nat} {f C : Addr} {sp : Sp} {E : XK} {x : Str} {e fe : Expr} {te : TE} {p pos sp_ : Pos}
theorem pe_make0 (M : Mk X.K C f) (F : FnR X.prog X.w X.K X.mg X.base CX k f sp) (hr : Room (k + 1) X.A) (hg : Gl X x) (hm : X.mg x = some (.ref C)) (hx : Passes CX X E) (hdb : (x == ("__debug__" : Str)) = false := by decide) :
    PE X (.Call (.Name x p) [] [] pos) (tMakeR C sp E tNil) := by
  refine ⟨fun pins s σ H Q I h => ?_⟩
  refine wpAny_Call_Name_kw (ld_glob I hg hm ?_ hdb)
  exact PySem.W.callWith_K0 I.kIn M.kp (run_makeR (us := []) M F hr hx I .nil h)
theorem pe_makeS1 (M : Mk X.K C f) (F : FnR X.prog X.w X.K X.mg X.base CX k f sp) (hr : Room (k + 1) X.A) (hg : Gl X x) (hm : X.mg x = some (.ref C)) (hx : Passes CX X E) (he : PE X e te) (hd : (x == ("__debug__" : Str)) = false := by decide)
    (hst : starEach [.Starred e sp_] X.env = [(true, eval e X.env)] := by rfl) :
    PE X (.Call (.Name x p) [.Starred e sp_] [] pos) (fun σ H Q => te σ H fun y H1 => ∃ a xs, y = V.ref a ∧ (SqT X.K H1 a xs ∨ SqL X.K H1 a xs) ∧ ∀ x dx, H1 x = Option.none → H1 dx = Option.none → dx ≠ x →
      sp (V.ref x :: xs) (upd (upd H1 dx (.own x)) x (.ins C dx [])) (fun v H2 => v = .non ∧ Q (.ref x) H2) E) := by
  refine ⟨fun pins s σ H Q I h => ?_⟩
  refine wpAny_Call_Name_kw (ld_glob I hg hm ?_ hd)
  refine PySem.W.callWith_S (h₀ := X.base) I.ok.mod.kin M.kp (thn (he.run pins s σ H _ I h) fun v s1 ⟨y, H1, I1, ry, a, xs, ey, hxs, q⟩ => ?_) hst
  subst ey
  obtain rfl : v = Value.ref a := ry
  exact star_any I1 hxs fun us s2 I2 rv => ⟨I2.kIn, run_makeR M F hr hx I2 rv q⟩
end
end OwD
end

section
set_option Elab.async false
set_option linter.all false
set_option maxRecDepth 100000
set_option maxHeartbeats 4000000
/-! a caught exception that is kept, and from then on known by what is true of its object: handed to defs, asked for its class, its fields read -/
namespace PySem.W
open PySem PySem.Spec PySem.Calls PyProof.Rows
section
variable {prog : Program} {w : World} {A : Around} {E : Value → Shared → Prop} {s : Shared} {K : Frag} {x D : Addr} {ox od : Obj}
theorem kin_classE2 {Q : Option Value → Shared → Prop} (hga : findIn K (.ref D) "__getattribute__" = some (some (.builtin "BaseException.__getattribute__"))) (hgt : findIn K (.ref D) "__getattr__" = some none) (hsub : subIn K (.ref D) (.type "BaseException") = some true)
    (hdct : hasDictIn K D = true) (ha : findIn K (.ref D) "__class__" = some (some (.builtin "object.__class__")))
    (hn : specialIn K (.builtin "object.__class__") "__get__" = some (some (.builtin "getset_descriptor.__get__"))) (htk : takesIn K (.builtin "object.__class__") = some true) (hm : mroIn K D (.type "object") = some true)
    (X : K.In s.heap) (I : InstAt s.heap x ox D (some od)) (h : Q (some (.ref D)) { s with toks := s.toks + 1 }) : wpAny (model prog w) A (getAttr? (.ref x) "__class__") Q E s := by
  have hf : findObj K D (some od) "__class__" = some (.bind (.builtin "getset_descriptor.__get__") (.builtin "object.__class__")) := findObj_data (by obtain ⟨cd, hc, _⟩ := any_some hdct; rw [hc]; rfl) ha hn htk
  obtain ⟨hp, g, d, t, os⟩ := s
  have L0 := I.type (M := model prog w)
  have L1 := looks_findIn (M := model prog w) X hga
  have L2 := looks_findIn (M := model prog w) X hgt
  have L3 := looks_find (M := model prog w) X I hf
  have sub : Looks (model prog w) hp (isInstance (.ref x) (.type "BaseException")) true := L0.andThen (looks_subIn X hsub)
  have hx0 : (false && onTheHeap (Value.builtin "BaseException.__getattribute__")) = false := rfl
  have hx2 : (Value.builtin "BaseException.__getattribute__" == Value.builtin "object.__getattribute__") = false := by decide +kernel
  have hx1 : (onTheHeap (Value.ref D) && Value.builtin "BaseException.__getattribute__" == Value.builtin "object.__getattribute__") = false := by rw [hx2]; rfl
  unfold getAttr? getAttrBy? getAttrBy
  refine wpAny_bind (wpAny_mkText (wpAny_bind (wpAny_attempt (wpAny_holding (wpAny_bind (L0.at (wpAny_bind (L1.at ?_))))))))
  show wpAny _ _ (if (onTheHeap (Value.ref D) && Value.builtin "BaseException.__getattribute__" == Value.builtin "object.__getattribute__") = true then _ else _) _ _ _
  rw [hx1, if_neg Bool.false_ne_true]
  unfold getAttrByItsOwn hookBefore
  refine wpAny_bind ?_
  rw [if_pos (show onTheHeap (Value.ref D) = true from rfl)]
  refine L2.at ?_
  refine wpAny_bind (wpAny_attempt (wpAny_holding ?_))
  unfold callGetattribute
  rw [hx0, if_neg Bool.false_ne_true]
  unfold boundAndCalled
  rw [PySem.F.excAttr_ValueError.ga.bind (.ref x)]
  refine wpAny_bind (wpAny_pure ?_)
  show wpAny _ _ (call (.builtin "BaseException.__getattribute__") [.ref x, .str "__class__" t]) _ _ _
  refine wpAny_call (codeAny_call_builtin PySem.F.excAttr_ValueError.ga.plain PySem.F.entry_bexc_ga ?_)
  refine @check_slot (model prog w) _ _ ⟨hp, g, d, t + 1, os⟩ "BaseException.__getattribute__" "BaseException" "__getattribute__" (.ref x) [.str "__class__" t] [] _ (by decide +kernel) (by decide +kernel) sub (PySem.F.args_bexc_ga (.ref x) (.str "__class__" t)) ?_
  unfold Builtin.«object.__getattribute__»
  refine wpAny_bind (wpAny_of_eq (a := ((Value.ref x : Value), [Value.str "__class__" t])) (by first | rfl | (simp only [slotArgs]; rfl)) ?_)
  refine wpAny_bind (wpAny_pure (wpAny_bind (L0.at (wpAny_bind (L3.at ?_)))))
  show wpAny _ _ (holding [Value.builtin "object.__class__"] (call (.builtin "getset_descriptor.__get__") [.builtin "object.__class__", .ref x, .ref D]) >>= ret) _ _ _
  refine wpAny_bind (wpAny_holding (wpAny_call (class_get (s := ⟨hp, g, d, t + 1, os⟩) (ox := ox) (od := some od) X I hm ?_)))
  refine wpAny_pure ?_
  show wpAny _ _ (handedOut (.ref D)) _ _ _
  rw [handedOut_of (v := .ref D) rfl]
  first
    | exact wpAny_pure (wpAny_pure h)
    | exact wpAny_pure h
    | exact wpAny_pure (wpAny_bind (wpAny_pure (wpAny_pure h)))
theorem kitx_exc2 (hga : findIn K (.ref D) "__getattribute__" = some (some (.builtin "BaseException.__getattribute__"))) (hgt : findIn K (.ref D) "__getattr__" = some none) (hsub : subIn K (.ref D) (.type "BaseException") = some true) (hdct : hasDictIn K D = true) (ha : findIn K (.ref D) "__class__" = some (some (.builtin "object.__class__")))
    (hn : specialIn K (.builtin "object.__class__") "__get__" = some (some (.builtin "getset_descriptor.__get__"))) (htk : takesIn K (.builtin "object.__class__") = some true) (hm : mroIn K D (.type "object") = some true) :
    KitX K (.ref x) (.ref D) (fun h => InstAt h x ox D (some od)) where
  ty := fun _ _ _ I => I.type
  it := fun _ _ X _ => by
    obtain ⟨cdD, hcD, _⟩ := any_some hdct
    unfold clsIn at hcD
    split at hcD
    · rename_i c' d' cd' sl' ho
      intro A' Q' E' s' k q
      unfold isType loadHead
      exact wpAny_bind (wpAny_loadPart (k _ _ (X _ _ ho)) (wpAny_pure q))
    · cases hcD
  ne := fun h tp dd its n sl X htp => by
    obtain ⟨cdD, hcD, _⟩ := any_some hdct
    refine Bool.eq_false_iff.mpr fun q => ?_
    have e : D = tp := Value.ref.inj (beq_iff_eq.mp q)
    subst e
    unfold clsIn at hcD
    split at hcD
    · rename_i c' d' cd' sl' ho
      have z := (X _ _ ho).symm.trans htp
      cases z
    · cases hcD
  ca := fun X I k => kin_classE2 hga hgt hsub hdct ha hn htk hm X I k
end
end PySem.W
namespace L2
open PySem PySem.Spec PyProof.Rows
/-- a caught exception of the class cls with the dict d, at a -/
def CxO (cls : Value) (d : Option Addr) (a : Addr) : HO := .ext fun h => ∃ (oe : Obj) (vs : Array Value), h.get? a = some oe ∧ Zc cls d oe ∧ oe.data = .fields vs
theorem cxO_ok {P : Program} {w : World} {H : Hp} {h : Heap} {a : Addr} {cls : Value} {d : Option Addr} {oe : Obj} {vs : Array Value} (e : h.get? a = some oe) (z : Zc cls d oe) (hd : oe.data = .fields vs) : ObjOk P w H h a (CxO cls d a) :=
  ⟨⟨oe, vs, e, z, hd⟩, ⟨oe, e⟩, fun _ _ ⟨o, v, q, r⟩ k => ⟨o, v, k o q, r⟩⟩
section
variable {X : Cx} {pins : List (Addr × Obj)} {σ : List (Option V)} {H : Hp} {s : Shared}
/-- an object that is new beyond the entry is known from now on -/
theorem Inv.track {a : Addr} {o : HO} (I : Inv X pins σ H s) (na : H a = none) (h0 : X.s_0.heap.get? a = none) (nL : a ≠ X.env.locals) (nc : ∀ x c, X.env.cells.lookup x = some c → c ≠ a) (np : ∀ p, p ∈ X.pn ++ pins → p.1 ≠ a)
    (new : ObjOk X.prog X.w (upd H a o) s.heap a o) : Inv X pins σ (upd H a o) s := by
  refine ⟨I.ok, I.os, I.bare, ⟨I.base.keep, I.base.slot, fun b u q n hx => ?_, I.base.there, fun b xs q => ?_, fun b u xs q => ?_, fun b ps q => ?_⟩, I.loc, I.cell, ?_, fun x c hc => ?_, fun p hp => ?_, I.hok.laidN (fun _ _ z => z) na new, I.len⟩
  · rw [upd_ne (fun z => by rw [z, h0] at q; cases q)]
    exact I.base.free b u q n hx
  · have := I.base.tups b xs q
    rw [upd_ne (ne_of_none this na)]
    exact this
  · have := I.base.frzs b u xs q
    rw [upd_ne (ne_of_none this na)]
    exact this
  · obtain ⟨more, h⟩ := I.base.tbls b ps q
    exact ⟨more, by rw [upd_ne (ne_of_none h na)]; exact h⟩
  · rw [upd_ne nL.symm]
    exact I.free
  · rw [upd_ne (nc x c hc)]
    exact I.freeC x c hc
  · obtain ⟨p1, p2, p3, p4, p5⟩ := I.pin p hp
    exact ⟨p1, by rw [upd_ne (np p hp)]; exact p2, p3, p4, p5⟩
end
/-- ts: the suite, tn: what stands behind, the exception known there -/
def wTrk (K : PySem.W.Frag) (c : Value) (i : Nat) (ts : Addr → Value → Option Addr → TS) (tn : TS) (Wout : WX) (D : Ends) : WX := fun cls d σ H =>
  ∃ b, PySem.W.exmOne K cls c = some b ∧ (b = true → ∀ a, H a = none → ts a cls d { nx := fun σ' H' => H' a = none → tn D (σ'.set i none) (upd H' a (CxO cls d a)), rt := fun _ _ => False } (σ.set i (some (.ref a))) H) ∧
    (b = false → Wout cls d σ H)
/-- what the try hands on to what stands behind -/
def KQ2 (X : Cx) (pins : List (Addr × Obj)) (D : Ends) (rest : List Stmt) (f : Flow) (s' : Shared) : Prop := match f with
  | .next => wpAny (model X.prog X.w) X.A (execs rest X.env) (SP X pins D) X.xe s'
  | .brk => SP X pins D .brk s'
  | .cont => SP X pins D .cont s'
  | .ret u => SP X pins D (.ret u) s'
section
variable {X : Cx} {x n : Str} {c : Value} {i : Nat} {body suite rest : List Stmt} {b₀ : Stmt} {np pos pos' : Pos} {tb : WX → TS} {tn : TS} {ts : Addr → Value → Option Addr → TS} {Wout : WX}
theorem pss_try_track (hs : X.stack = X.env :: X.outer) (hf : X.env.frame = some X.env.locals) (hN : X.N.Nodup) (hi : X.N[i]? = some n) (hln : X.env.kindOf n = some .local) (hc : Names X x c) (tk : Takes X Wout)
    (hb : ∀ (W : WX) (pn : List (Addr × Obj)) (xe : Value → Shared → Prop), Takes (X.tr pn xe) W → PassesOwn (model X.prog X.w) X.A X.env xe → PSs (X.tr pn xe) body (tb W))
    (hsu : ∀ (a : Addr) (oe : Obj) (cls : Value) (d : Option Addr) (pn : List (Addr × Obj)), Zc cls d oe → (∃ vs, oe.data = .fields vs) → PSs (X.suite a ((a, oe) :: pn)) (b₀ :: suite) (ts a cls d))
    (hn : PSs X rest tn) (hex : X.ex = []) :
    PSs X (.Try body [.ExceptHandler (some (.Name x np)) (some n) (b₀ :: suite) pos'] [] [] pos :: rest) (fun D σ H => tb (wTrk X.K c i ts tn Wout D) { D with nx := tn D } σ H) := by
  refine ⟨fun pins s σ H D I h => ?_⟩
  have ok := I.ok
  have hfr : X.A.frames = some (X.env :: X.outer) := by rw [ok.frames, hs]
  have hloc : Loc X.env.scope n := .inl hln
  refine wpAny_execs_cons (thn (Q := KQ2 X pins D rest) ?_ fun f s' h => by cases f <;> exact h)
  generalize hQ : KQ2 X pins D rest = Q
  have q_next : ∀ s', wpAny (model X.prog X.w) X.A (execs rest X.env) (SP X pins D) X.xe s' → Q .next s' := fun s' h => by rw [← hQ]; exact h
  have q_brk : ∀ s', SP X pins D .brk s' → Q .brk s' := fun s' h => by rw [← hQ]; exact h
  have q_cont : ∀ s', SP X pins D .cont s' → Q .cont s' := fun s' h => by rw [← hQ]; exact h
  have q_ret : ∀ u s', SP X pins D (.ret u) s' → Q (.ret u) s' := fun u s' h => by rw [← hQ]; exact h
  clear hQ
  refine wpAny_Try_except ?_
  refine wpAny_mono ((hb (wTrk X.K c i ts tn Wout D) (X.pn ++ pins) (fun e s₁ => wpAny (model X.prog X.w) X.A (noteFrame e X.env) (fun _ s₂ => wpAny (model X.prog X.w) X.A (setFlight e none) (fun _ s₃ =>
    wpAny (model X.prog X.w) X.A (handleBy e X.env [.ExceptHandler (some (.Name x np)) (some n) (b₀ :: suite) pos']) Q X.xe s₃) X.xe s₂) X.xe s₁) (fun u s' xx => ?_) PassesOwn.looking).run [] s σ H { D with nx := tn D } (I.toTry _) h) (fun f s1 hsp => ?_) (fun e s1 he => he)
  · -- the catch
    obtain ⟨a, B, sI, pins', σ', H', cls, d, rfl, J', nb, up, sky, na, os, ag, b, hb1, hyes, hno⟩ := xx
    have J : Inv X pins σ' H' sI := J'.ofTry ok
    have sky' : Sky B (X.env :: X.outer) a (Zc cls d) X.env.locals s'.heap := by rw [← hs]; exact sky
    show wpAny (model X.prog X.w) X.A (noteFrame (.ref a) X.env) _ _ _
    refine Sky.land Zc.steady hfr hf sky' fun h3 fl3 up3 => ?_
    have J3 : Inv X pins σ' H' { s' with heap := h3 } := J.landed nb fl3.1 (up.trans up3) os ag
    obtain ⟨oe3, vs3, he3, hz3, hd3⟩ := fl3.there
    have notFr : ∀ {h : Heap} {o : Obj} {vs : Array Value}, h.FunFrames B (X.env :: X.outer) → h.get? a = some o → o.data = .fields vs → a ∉ frs (X.env :: X.outer) := fun {h o vs} ff e dd hm => by
      obtain ⟨_, o', e', hnf⟩ := ff.mem hm
      rw [e] at e'; cases e'
      exact hnf _ dd
    have nfr := notFr fl3.2.2.1 he3 hd3
    have nL : a ≠ X.env.locals := fun z => nfr (List.mem_filterMap.mpr ⟨X.env, List.mem_cons_self, by rw [hf, z]⟩)
    have nF : a ∉ X.fs := fun hm => by
      obtain ⟨e, he, q⟩ := List.mem_filterMap.mp hm
      exact nfr (List.mem_filterMap.mpr ⟨e, List.mem_cons_of_mem _ he, q⟩)
    have S3 := J3.suite he3 hd3 na nL nF
    refine wpAny_handleBy_cons (codeAny_handlers_test ?_) (by intro q; cases q)
    have LT : PySem.W.Looks (model X.prog X.w) h3 (typeOf (.ref a)) cls := fun A Q E s k q => wpAny_typeOf_ref (k _ _ he3) (by rw [hz3.1]; exact q)
    have LM := PySem.W.exm_one (M := model X.prog X.w) (J3.kIn) LT hb1
    have test : ∀ {Q : Value → Shared → Prop} {E : Value → Shared → Prop}, Q c { s' with heap := h3 } → wpAny (model X.prog X.w) (X.A.mark (some (.ref a))) (eval (.Name x np) X.env) Q E { s' with heap := h3 } := fun {Q E} q => by
      obtain ⟨hg, hdbg, hm | ⟨hm, hv, hnn⟩⟩ := hc
      · exact ld_glob (X := X.suite a ((a, oe3) :: (X.pn ++ pins))) S3 hg hm q hdbg
      · exact ld_blt (X := X.suite a ((a, oe3) :: (X.pn ++ pins))) S3 hg hm hv q hnn hdbg
    refine test (LM.here ?_)
    cases b with
    | true =>
      refine codeAny_handlers_suite_as ?_
      refine HandSPX.lands_againZ fl3 fun h4 fl4 up4 => ?_
      have J4 : Inv X pins σ' H' { s' with heap := h4 } := J.landed nb fl4.1 ((up.trans up3).trans up4) os ag
      obtain ⟨oe4, vs4, he4, hz4, hd4⟩ := fl4.there
      have S4 := J4.suite he4 hd4 na nL nF
      refine store_ok (X := X.suite a ((a, oe4) :: (X.pn ++ pins))) (v := .ref a) S4 hN hi hloc rfl (fun s5 S5 => ?_) (.inr hln)
      refine wpAny_mono ((hsu a oe4 cls d (X.pn ++ pins) hz4 ⟨_, hd4⟩).run [] s5 _ H' _ S5 (hyes rfl a na)) (fun f s6 hsp => ?_) (fun _ _ z => False.elim z)
      cases f with
      | next =>
        obtain ⟨σ6, H6, S6, q6⟩ := hsp
        have T6 : Inv (X.tr ((a, oe4) :: (X.pn ++ pins)) X.xe) [] σ6 H6 s6 := ⟨ok.toTry _ _, S6.os, S6.bare, S6.base, S6.loc, S6.cell, S6.free, S6.freeC, S6.pin, S6.hok, S6.len⟩
        refine gone_ok (X := X.tr ((a, oe4) :: (X.pn ++ pins)) X.xe) T6 hN hi hln fun s7 J7 => q_next s7 ?_
        have I7 : Inv X pins (σ6.set i none) H6 s7 := ⟨ok, J7.os, J7.bare, J7.base, J7.loc, J7.cell, J7.free, J7.freeC, fun p hp => J7.pin p (List.mem_append_left _ (List.mem_cons_of_mem _ hp)), J7.hok, J7.len⟩
        obtain ⟨g1, g2, g3, g4, g5⟩ := J7.pin (a, oe4) (List.mem_append_left _ List.mem_cons_self)
        have hB : B.get? a = none := by
          rcases sky with ⟨_, z, _⟩ | fl | hh
          · exact z
          · exact fl.2.1
          · exact hh.2.1
        have nS : a ∉ frs X.stack := by rw [hs]; exact nfr
        have inI : ∀ o, sI.heap.get? a ≠ some o := fun o z => by
          have := nb a o z nS
          rw [hB] at this
          cases this
        have h0 : X.s_0.heap.get? a = none := by
          cases z : X.s_0.heap.get? a with
          | none => rfl
          | some u =>
            obtain ⟨o', z'⟩ := J.base.there a u z (by rw [hex]; simp)
            exact absurd z' (inI o')
        have np : ∀ p, p ∈ X.pn ++ pins → p.1 ≠ a := fun p hp z => by
          obtain ⟨k1, _⟩ := J.pin p hp
          rw [z] at k1
          exact inI _ k1
        have I8 := I7.track (o := CxO cls d a) g2 h0 (fun z => g3 z) (fun x c hc z => by
          obtain ⟨v, hv⟩ := I7.cell x c hc
          rw [z] at hv
          obtain ⟨o, k1, k2⟩ := hv
          rw [g1] at k1
          cases k1
          exact g5 _ k2) np (cxO_ok g1 hz4 hd4)
        exact hn.run pins s7 _ _ D I8 (q6 g2)
      | brk =>
        obtain ⟨σ6, H6, S6, q6⟩ := hsp
        exact False.elim q6
      | cont =>
        obtain ⟨σ6, H6, S6, q6⟩ := hsp
        exact False.elim q6
      | ret u =>
        obtain ⟨v6, σ6, H6, S6, r6, q6⟩ := hsp
        exact False.elim q6
    | false =>
      show wpAny _ X.A (handleBy (.ref a) X.env []) _ _ _
      refine wpAny_handleBy_nil ?_
      obtain ⟨k1, k2, k3, oe, vs, T, oT, ts', he, hz, hd, h1, hr⟩ := id fl3
      unfold PySem.passOn
      refine wpAny_bind (wpAny_field he hd h1 ?_)
      rw [if_neg (show ¬ ((Value.ref T == Value.none) = true) from by simp)]
      have fin : wpAny (model X.prog X.w) X.A (setFlight (.ref a) X.env.frame) (fun _ s4 => wpAny (model X.prog X.w) X.A (throw (.ref a) : Sem Flow) Q X.xe s4) X.xe { s' with heap := h3 } := by
        rw [hf]
        refine HandSPX.setFlight_upZ fl3 fun h4 hh4 up4 => wpAny_throw (tk _ _ ?_)
        exact ⟨a, B, sI, pins, σ', H', cls, d, rfl, J, nb, (up.trans up3).trans up4, .inr (.inr (by rw [hs]; exact hh4)), na, os, ag, hno rfl⟩
      first
        | exact wpAny_bind (wpAny_pure (wpAny_bind fin))
        | exact wpAny_bind fin
  · cases f with
    | next =>
      obtain ⟨σ', H', J', q⟩ := hsp
      exact wpAny_execs_nil (q_next s1 (hn.run pins s1 σ' H' D (J'.ofTry ok) q))
    | brk =>
      obtain ⟨σ', H', J', q⟩ := hsp
      exact q_brk _ ⟨σ', H', J'.ofTry ok, q⟩
    | cont =>
      obtain ⟨σ', H', J', q⟩ := hsp
      exact q_cont _ ⟨σ', H', J'.ofTry ok, q⟩
    | ret u =>
      obtain ⟨v, σ', H', J', r, q⟩ := hsp
      exact q_ret _ _ ⟨v, σ', H', J'.ofTry ok, r, q⟩
/-- e.f of a known exception -/
def tXfT (C : Addr) (f : Str) (te : TE) : TE := fun σ H Q => te σ H fun x H1 => ∃ (a dd : Addr) (fs : List (Str × V)) (v : V), x = .ref a ∧ H1 a = some (CxO (.ref C) (some dd) a) ∧ H1 dd = some (.xd fs) ∧ fs.lookup f = some v ∧ Q v H1
theorem pe_xfT {C : Addr} {e : Expr} {te : TE} {pos : Pos} {n : Str} (T : XfC X.K C) (hno : PySem.W.findIn X.K (.ref C) n = some none) (he : PE X e te) (hb : attributeBase e n X.env (eval e X.env) = eval e X.env := by rfl) :
    PE X (.Attribute e n pos) (tXfT C n te) := by
  refine ⟨fun pins s σ H Q I h => ?_⟩
  refine attr_of hb (thn (he.run pins s σ H _ I h) fun u s1 hh => ?_)
  obtain ⟨x, H1, I1, rx, a, dd, fs, v, ex, ha, ea, l, q⟩ := hh
  subst ex
  obtain rfl : u = Value.ref a := rx
  obtain ⟨⟨oe, vs, g1, hz, hd⟩, _⟩ := (show ObjOk X.prog X.w H1 s1.heap a (CxO (.ref C) (some dd) a) from I1.hok a _ ha)
  have hx : ObjOk X.prog X.w H1 s1.heap dd (.xd fs) := I1.hok dd _ ea
  obtain ⟨mA, hns, hr⟩ := hx
  obtain ⟨od, ho, hl⟩ := lookIn_ns hns
  obtain ⟨u, hu, ru⟩ := RelO.some_of (v := v) (o := mA n) (by rw [← l]; exact hr n)
  have J : PySem.W.InstAt s1.heap a oe C (some od) := ⟨g1, hz.1, by unfold PySem.W.notCls; rw [hd] <;> rfl, by rw [hz.2]; exact ho⟩
  exact HandSPX.exc_get I1.kIn J T.ga T.gg T.exC (PySem.W.findObj_own T.hdC hno rfl (by rw [hl, hu])) (handed_of ru) ⟨v, H1, I1.tok _, ru, q⟩
/-- isinstance(e, c) of a known exception -/
def rIsT (K : PySem.W.Frag) : List V → Hp → VK → Prop := fun xs H Q => ∃ (a D dd : Addr) (fs : List (Str × V)) (c : V) (cv : Value) (b : Bool), xs = [.ref a, c] ∧ ExcC K D ∧ H a = some (CxO (.ref D) (some dd) a) ∧ H dd = some (.xd fs) ∧ (∀ u, RelV c u → u = cv) ∧ PySem.W.kitOne K (.ref D) cv = some b ∧ Q (.bl b) H
theorem call_isT : CallR X (.builtin "isinstance") (rIsT X.K) := by
  intro pins s σ H xs us Q I r h
  obtain ⟨a, D, dd, fs, c, cv, b, rfl, C, ha, ea, hcv, e, q⟩ := h
  cases r with
  | cons rx rr =>
    cases rr with
    | cons rt rr =>
      cases rr
      cases rx
      have ec := hcv _ rt
      subst ec
      obtain ⟨⟨oe, vs, g1, hz, hd⟩, _⟩ := (show ObjOk X.prog X.w H s.heap a (CxO (.ref D) (some dd) a) from I.hok a _ ha)
      have hx : ObjOk X.prog X.w H s.heap dd (.xd fs) := I.hok dd _ ea
      obtain ⟨mA, hns, hr⟩ := hx
      obtain ⟨od, ho, hl⟩ := lookIn_ns hns
      have J : PySem.W.InstAt s.heap a oe D (some od) := ⟨g1, hz.1, by unfold PySem.W.notCls; rw [hd] <;> rfl, by rw [hz.2]; exact ho⟩
      exact PySem.W.kia_one (PySem.W.kitx_exc2 C.hg C.hk C.hs C.hd C.ha C.hn C.ht C.hm) I.kIn J e (fun z => nomatch z) fun tk => ⟨.bl b, H, I.kept (t' := tk) fun _ _ z => z, rfl, q⟩
end
end L2
end

section
set_option Elab.async false
set_option linter.all false
set_option maxRecDepth 100000
set_option maxHeartbeats 4000000
/-! tuple(d), d a dict: its keys -/
namespace PySem.W
open PySem PySem.Spec PySem.Calls PyProof.Rows L2
section
variable {prog : Program} {w : World} {A : Around} {E : Value → Shared → Prop} {s : Shared} {T : String} {r d : Addr} {n : Nat} {P : Nat → Value → Prop} {OK : Heap → Prop}
theorem collect_kdl {Q : List Value → Shared → Prop} (K : KdlSrc prog w T r d n P OK) (hh : A.handled = none) (hok : OK s.heap) (hn : n ≤ sizeLine)
    (hQ : ∀ (h' : Heap) (tk : Nat) (acc : Array Value), (∀ b o, s.heap.get? b = some o → h'.get? b = some o) → ItemsOf P acc n → Q acc.toList { s with heap := h', toks := tk }) :
    wpAny (model prog w) A (collect (.ref r)) Q E s := by
  unfold collect
  refine wpAny_bind (wpAny_runValue (codeAny_builtin F.entry_proto_collect ?_))
  rw [Around.under_plainId F.plain_proto_collect _]
  show wpAny _ A.in1 (newList [] >>= fun l => again (.builtin "list.__iadd__" ⟨[l, .ref r], []⟩)) _ _ s
  refine wpAny_bind (wpAny_newObj_type ?_)
  refine wpAny_pure ⟨plainId_quiet F.plain_list_iadd _, codeAny_builtin F.entry_list_iadd ?_⟩
  rw [Around.under_plainId F.plain_list_iadd _]
  show wpAny _ A.in1 (Builtin.List.listExtendWith (.ref s.heap.objs.size) (.ref r) (.ref s.heap.objs.size)) _ _ _
  have hS : (s.heap.push { cls := .type "list", data := .seq ([] : List Value).toArray }).get? s.heap.objs.size = some { cls := .type "list", data := .seq #[] 0 } := Heap.get?_push_size _ rfl
  have hlt := K.there _ hok
  refine wpAny_mono (kdl_extend (A := A) (R := fun rr s' => rr = .ok (.ret (.ref s.heap.objs.size)) ∧ ∃ (h' : Heap) (tk : Nat) (acc : Array Value) (c' : Nat), s' = { s with heap := h', toks := tk } ∧
      (∀ b o, s.heap.get? b = some o → h'.get? b = some o) ∧ h'.get? s.heap.objs.size = some { cls := .type "list", dict := none, data := .seq acc c', slots := #[] } ∧ ItemsOf P acc n)
    (s := { s with heap := s.heap.push { cls := .type "list", data := .seq ([] : List Value).toArray } }) K hh (K.keep _ _ hok fun b _ o e => Heap.get?_push_of_some _ e) _ (Nat.ne_of_gt hlt.1) (Nat.ne_of_gt hlt.2) _ 0 hS
    (fun h' tk acc c' hk e hi => ⟨rfl, h', tk, acc, c', rfl, fun b o q => hk b o (Nat.ne_of_lt (Heap.lt_size q)) (Heap.get?_push_of_some _ q), e, hi⟩) hn) (fun fin s' h => ?_) (fun e s' h => ?_)
  · cases fin with
    | done f =>
      obtain ⟨e, h', tk, acc, c', rfl, hk, hS', hi⟩ := h
      cases e
      show wpAny _ A (load s.heap.objs.size >>= _) _ _ _
      exact wpAny_bind (wpAny_load hS' (wpAny_pure (hQ h' tk acc hk hi)))
    | again c' =>
      refine ⟨h.1, codeAny_mono h.2 fun rr s'' hr' => ?_⟩
      obtain ⟨rfl, h', tk, acc, c', rfl, hk, hS', hi⟩ := hr'
      show wpAny _ A (load s.heap.objs.size >>= _) _ _ _
      exact wpAny_bind (wpAny_load hS' (wpAny_pure (hQ h' tk acc hk hi)))
  · exact absurd h.1 (by simp)
theorem code_tuple_new_kdl {Q₁ : Value → Shared → Prop} (K : KdlSrc prog w "dict" r d n P OK) (hh : A.handled = none) (hok : OK s.heap) (hn : n ≤ sizeLine)
    (h : ∀ (h' : Heap) (tk : Nat) (acc : Array Value), (∀ b o, s.heap.get? b = some o → h'.get? b = some o) → ItemsOf P acc n →
      Q₁ (.ref h'.objs.size) { s with heap := h'.push { cls := .type "tuple", data := .seq acc }, toks := tk }) :
    codeAny (model prog w) A (.call (.builtin "tuple.__new__") ⟨[.type "tuple", .ref r], []⟩) (wants Q₁ E) s := by
  refine codeAny_of_tree ?_
  show wpAny _ A.in1 (do checkBuiltinCall "tuple.__new__" ⟨[.type "tuple", .ref r], []⟩; again (.builtin "tuple.__new__" ⟨[.type "tuple", .ref r], []⟩)) _ _ s
  refine wpAny_bind (wpAny_of_eq (F.newCall_tuple_1 _) (wpAny_pure ⟨plainId_quiet F.plain_tuple_new _, codeAny_builtin F.entry_tuple_new ?_⟩))
  rw [Around.under_plainId F.plain_tuple_new _]
  have hsub := sub_tuple_self
  have hinit := init_tuple_lookup
  have hmh := madeHere_tuple
  have hTI : s.TypeIs (.ref r) "dict" := K.type s hok
  have hh1 : A.in1.handled = none := hh
  wp_walk using wpAny_typeOf hTI, collect_kdl (A := A.in1) K hh1 hok hn
  intro h' tk acc hk hacc
  show wpAny _ _ (Builtin.Tuple.tupleExact acc.toList.toArray >>= fun v => ret v) _ _ _
  unfold Builtin.Tuple.tupleExact
  refine wpAny_bind (wpAny_newObj_type ?_ (by show acc.toList.toArray.size ≤ sizeLine; simp only [Array.toArray_toList]; rw [hacc.1]; exact hn))
  refine wpAny_pure ?_
  have e : acc.toList.toArray = acc := by simp
  rw [e]
  exact h h' tk acc hk hacc
theorem call_tuple_kdl {Q : Value → Shared → Prop} (K : KdlSrc prog w "dict" r d n P OK) (hh : A.handled = none) (hok : OK s.heap) (hn : n ≤ sizeLine)
    (hQ : ∀ (h' : Heap) (tk : Nat) (acc : Array Value), (∀ b o, s.heap.get? b = some o → h'.get? b = some o) → ItemsOf P acc n →
      Q (.ref h'.objs.size) { s with heap := h'.push { cls := .type "tuple", data := .seq acc }, toks := tk }) :
    wpAny (model prog w) A (call (.type "tuple") [.ref r]) Q E s := by
  refine callType_codes (Q₁ := fun obj s₁ => s₁.TypeIs obj "tuple" ∧ Q obj s₁) F.called_tuple (F.typeCall_tuple_1 _) F.entry_object_init
    (code_tuple_new_kdl (A := A.in1) K hh hok hn fun h' tk acc hk hacc => ⟨⟨_, Heap.get?_push_size _ rfl, rfl⟩, hQ h' tk acc hk hacc⟩) fun obj s₁ h₁ => ?_
  exact ⟨h₁.1, F.args_object_init_2 obj _, object_init_meets F.called_tuple.init.lookup F.called_tuple.made (by decide) prog w A.in1 _ s₁ ⟨h₁.1, rfl, h₁.2⟩⟩
end
end PySem.W
namespace L2
open PySem PySem.Spec PyProof.Rows
def rTupD : List V → Hp → VK → Prop := fun xs H Q => ∃ p kvs, xs = [.ref p] ∧ H p = some (.dK kvs) ∧ ∀ q, H q = none → Q (.ref q) (upd H q (.tup (kvs.map fun kv => kV kv.1)))
theorem call_tuple_dK {X : Cx} (hc : X.calm = true) : CallR X (.type "tuple") rTupD := by
  intro pins s σ H xs us Q I r h
  obtain ⟨p, kvs, e, hk, q⟩ := h
  subst e
  obtain ⟨u, eu, rx⟩ := vals1 r
  subst eu
  obtain rfl : u = Value.ref p := rx
  obtain ⟨z, lo, vs, rk, hd⟩ := (show ObjOk X.prog X.w H s.heap p (.dK kvs) from I.hok p _ hk)
  obtain ⟨ep, hat⟩ := hd.dictAt
  have hl : kvs.length = vs.length := Paired.length rk
  refine PySem.W.call_tuple_kdl (PySem.W.kdl_dict (knd := mixKind X.prog X.w) (kvs := vs) (ep := ep) lo) (I.ok.hd hc) hat (by rw [← hl]; exact z) fun h' tk acc' hkeep hacc => ?_
  have I2 : Inv X pins σ H { s with heap := h', toks := tk } := I.kept hkeep
  refine ⟨.ref h'.objs.size, upd H h'.objs.size (.tup (kvs.map fun kv => kV kv.1)), I2.laid (t' := tk) (fun c o e => Heap.get?_push_of_some _ e) (Nat.le_refl _) (show ObjOk X.prog X.w _ _ _ (.tup (kvs.map fun kv => kV kv.1)) from ⟨?_, acc'.toList, ?_, ?_⟩), rfl, q _ (I2.hok.fresh (Nat.le_refl _))⟩
  · rw [List.length_map]; exact z
  · have el : acc'.toList.length = acc'.size := by simp
    refine vals_of_at (by rw [List.length_map, el, hacc.1, hl]) fun j x w h1 h2 => ?_
    obtain ⟨k, y, hky, hi⟩ := hacc.2 j w (by rw [← Array.getElem?_toList]; exact h2)
    have e1 : (kvs.map (·.1))[j]? = some k := by
      rw [KV.keys rk, List.getElem?_map, hky] <;> rfl
    have e2 : (kvs.map fun kv => kV kv.1)[j]? = some (kV k) := by
      have e3 : (kvs.map fun kv => kV kv.1) = (kvs.map (·.1)).map kV := by rw [List.map_map] <;> rfl
      rw [e3, List.getElem?_map, e1] <;> rfl
    rw [e2] at h1
    rw [← Option.some.inj h1]
    exact keyIs_rel hi
  · rw [Array.toArray_toList]; exact IsTup.new _ _
end L2
end

section
set_option Elab.async false
set_option linter.all false
set_option maxRecDepth 100000
set_option maxHeartbeats 4000000
/-! t != u where both tuples hold the very same things -/
namespace L2
open PySem PySem.Spec PyProof.Rows
section
variable {X : Cx}
def rNeST (K : PySem.W.Frag) : R2 := fun x y H Q => ∃ p q xs, x = .ref p ∧ y = .ref q ∧ SqT K H p xs ∧ SqT K H q xs ∧ (∀ z, z ∈ xs → flatV z = true ∨ ∃ a, z = .ref a) ∧ Q (.bl false) H
theorem op_ne_sameT {k : Nat} (hr : Room k X.A) : OpR X (compareOp .NotEq) (rNeST X.K) := by
  intro pins s σ H x y v u Q I rx ry h
  obtain ⟨p, q, xs, rfl, rfl, hx, hy, hf, qq⟩ := h
  cases rx
  cases ry
  obtain ⟨its, r, pl, hz⟩ := I.tuple hx
  obtain ⟨its2, r2, pl2, hz2⟩ := I.tuple hy
  have hu : X.A.units < cLine := hr.units0
  have l1 := r.length
  have l2 := r2.length
  have e : (!((List.range (min its.toArray.size its2.toArray.size)).all (fun _ => true) && its.toArray.size == its2.toArray.size)) = false := by
    have : its.toArray.size = its2.toArray.size := by simp only [List.size_toArray]; omega
    simp [this]
  have := SeqAt.RcNeAt.tuples (A := X.A) (e := fun _ => true) pl pl2 hu (fun j h1 h2 => by
    have hj1 : j < its.length := by simpa using h1
    have hj2 : j < its2.length := by simpa using h2
    have hx : xs[j]? = some xs[j] := List.getElem?_eq_getElem (by omega)
    obtain ⟨u1, hu1, ru1⟩ := r.get hx
    obtain ⟨u2, hu2, ru2⟩ := r2.get hx
    have e1 : its.toArray[j] = u1 := by
      have := (List.getElem?_eq_some_iff.mp hu1).2
      simpa using this
    have e2 : its2.toArray[j] = u2 := by
      have := (List.getElem?_eq_some_iff.mp hu2).2
      simpa using this
    rw [e1, e2]
    rcases hf _ (List.mem_of_getElem? hx) with f | ⟨a, ea⟩
    · have := eqAt_V (A := X.A.in1) (s := s) ru1 ru2 f f
      have er : eqV xs[j] xs[j] = true := by
        revert f
        cases xs[j] <;> simp [flatV, eqV]
      rw [er] at this
      exact this
    · rw [ea] at ru1 ru2
      obtain rfl : u1 = Value.ref a := ru1
      obtain rfl : u2 = Value.ref a := ru2
      exact SeqAt.EqAt.same _)
  rw [e] at this
  exact this _ _ _ _ ⟨.bl _, H, I, rfl, qq⟩
end
end L2
end

section
set_option Elab.async false
set_option linter.all false
set_option maxRecDepth 100000
set_option maxHeartbeats 2000000
/-! a == a of an instance with object's own == -/
namespace IdQ
open PySem PySem.Spec PyProof.Rows PySem.SeqAt L2
section
variable {A : Around} {s : Shared} {K : PySem.W.Frag} {x C : Addr} {ox : Obj} {od : Option Obj}
theorem rc_same (hu : A.units < cLine) (X : K.In s.heap) (I : PySem.W.InstAt s.heap x ox C od) (c : IdC K C) : RcAt A s (.ref x) (.ref x) true := fun prog w E Q h => by
  have one : wpAny (model prog w) A (tryCompare (.ref x) "__eq__" (.ref x)) (fun r s' => r = some (.bool true) ∧ s' = s) E s := by
    unfold tryCompare
    exact wpAny_bind (sp_eq_same X I c (wpAny_pure ⟨rfl, rfl⟩))
  simp only [richCompare, cmpInfo_Eq, oneThing_ref]
  refine wpAny_holding (wpAny_bind (wpAny_cRoomFor hu ?_))
  refine wpAny_bind (I.type.here ?_)
  refine wpAny_bind (I.type.here ?_)
  split
  · rename_i q
    exact absurd q (by simp)
  · refine wpAny_bind (wpAny_pure ?_)
    simp only [Bool.false_eq_true, if_false, Bool.not_false, if_true]
    refine wpAny_bind (m := tryCompare (.ref x) _ (.ref x)) (wpAny_mono one (fun r s1 z => ?_) fun _ _ e => e)
    obtain ⟨z1, z2⟩ := z
    subst z1
    subst z2
    exact wpAny_pure h
def rEqS (C : Addr) : R2 := fun x y H Q => ∃ a dx fs, x = .ref a ∧ y = .ref a ∧ H a = some (.ins C dx fs) ∧ Q (.bl true) H
theorem op_eq_same {X : Cx} {C : Addr} {k : Nat} (hr : Room k X.A) (c : IdC X.K C) : OpR X (compareOp .Eq) (rEqS C) := by
  intro pins s σ H x y v u Q I rx ry h
  obtain ⟨a, dx, fs, rfl, rfl, ha, q⟩ := h
  cases rx
  cases ry
  obtain ⟨ox, od, J⟩ := idv_at I ha
  exact rc_same hr.units0 I.kIn J c _ _ _ _ ⟨.bl true, H, I, rfl, q⟩
end
end IdQ
end

section
set_option Elab.async false
set_option linter.all false
set_option maxRecDepth 100000
set_option maxHeartbeats 4000000
namespace K52
open PySem PySem.Spec PyProof.Rows L2 He
theorem sc_InvalidKind_init : FnScope [("self" : Str), ("rule" : Str), ("item" : Str)] [("self" : Str), ("rule" : Str), ("item" : Str)] (defScope s_InvalidKind_init) := ⟨rfl, rfl, rfl, by decide +kernel, rfl, by decide +kernel, by decide +kernel⟩
theorem sc_InvalidBook_init : FnScope [("self" : Str), ("spot" : Str)] [("self" : Str), ("spot" : Str)] (defScope s_InvalidBook_init) := ⟨rfl, rfl, rfl, by decide +kernel, rfl, by decide +kernel, by decide +kernel⟩
theorem sc_NoKind_init : FnScope [("self" : Str), ("name" : Str)] [("self" : Str), ("name" : Str)] (defScope s_NoKind_init) := ⟨rfl, rfl, rfl, by decide +kernel, rfl, by decide +kernel, by decide +kernel⟩
theorem sc_line_above : FnScope [("above" : Str), ("rows" : Str), ("line" : Str), ("head" : Str)] [("above" : Str)] (defScope s_line_above) := ⟨rfl, rfl, rfl, by decide +kernel, rfl, by decide +kernel, by decide +kernel⟩
theorem sc__rows_of : FnScope [("above" : Str), ("kind" : Str)] [("above" : Str)] (defScope s__rows_of) := ⟨rfl, rfl, rfl, by decide +kernel, rfl, by decide +kernel, by decide +kernel⟩
theorem sc__free_head : FnScope [("rows" : Str), ("row" : Str)] [("rows" : Str)] (defScope s__free_head) := ⟨rfl, rfl, rfl, by decide +kernel, rfl, by decide +kernel, by decide +kernel⟩
theorem sc__head_of_row_with : FnScope [("kind" : Str), ("rows" : Str), ("row" : Str)] [("kind" : Str), ("rows" : Str)] (defScope s__head_of_row_with) := ⟨rfl, rfl, rfl, by decide +kernel, rfl, by decide +kernel, by decide +kernel⟩
theorem sc__without : FnScope [("head" : Str), ("rows" : Str), ("rest" : Str), ("row" : Str), ("kind" : Str)] [("head" : Str), ("rows" : Str)] (defScope s__without) := ⟨rfl, rfl, rfl, by decide +kernel, rfl, by decide +kernel, by decide +kernel⟩
theorem sc__ring_in : FnScope [("rows" : Str), ("path" : Str), ("head" : Str), ("ring" : Str)] [("rows" : Str)] (defScope s__ring_in) := ⟨rfl, rfl, rfl, by decide +kernel, rfl, by decide +kernel, by decide +kernel⟩
theorem sc_is_name : FnScope [("value" : Str), ("sign" : Str)] [("value" : Str)] (defScope s_is_name) := ⟨rfl, rfl, rfl, by decide +kernel, rfl, by decide +kernel, by decide +kernel⟩
theorem sc_check_members : FnScope [("members" : Str), ("names" : Str), ("place" : Str), ("member" : Str), ("name" : Str)] [("members" : Str)] (defScope s_check_members) := ⟨rfl, rfl, rfl, by decide +kernel, rfl, by decide +kernel, by decide +kernel⟩
theorem sc_check_options : FnScope [("options" : Str), ("option" : Str)] [("options" : Str)] (defScope s_check_options) := ⟨rfl, rfl, rfl, by decide +kernel, rfl, by decide +kernel, by decide +kernel⟩
theorem sc_check_above : FnScope [("above" : Str), ("seen" : Str), ("place" : Str), ("kind" : Str)] [("above" : Str)] (defScope s_check_above) := ⟨rfl, rfl, rfl, by decide +kernel, rfl, by decide +kernel, by decide +kernel⟩
theorem sc_check_mixture : FnScope [("line" : Str), ("sorts" : Str), ("kind" : Str), ("member" : Str)] [("line" : Str)] (defScope s_check_mixture) := ⟨rfl, rfl, rfl, by decide +kernel, rfl, by decide +kernel, by decide +kernel⟩
theorem sc_check_frozen : FnScope [("line" : Str), ("kind" : Str)] [("line" : Str)] (defScope s_check_frozen) := ⟨rfl, rfl, rfl, by decide +kernel, rfl, by decide +kernel, by decide +kernel⟩
theorem sc_check_defaults : FnScope [("members" : Str), ("is_behind" : Str), ("member" : Str)] [("members" : Str)] (defScope s_check_defaults) := ⟨rfl, rfl, rfl, by decide +kernel, rfl, by decide +kernel, by decide +kernel⟩
theorem sc_whole_members : FnScope [("line" : Str), ("whole" : Str), ("kind" : Str), ("member" : Str)] [("line" : Str)] (defScope s_whole_members) := ⟨rfl, rfl, rfl, by decide +kernel, rfl, by decide +kernel, by decide +kernel⟩
theorem sc__by_names : FnScope [("kinds" : Str), ("found" : Str), ("spot" : Str), ("kind" : Str)] [("kinds" : Str)] (defScope s__by_names) := ⟨rfl, rfl, rfl, by decide +kernel, rfl, by decide +kernel, by decide +kernel⟩
theorem sc_Kind_init : FnScope [("self" : Str), ("name" : Str), ("above" : Str), ("members" : Str), ("options" : Str)] [("self" : Str), ("name" : Str), ("above" : Str), ("members" : Str), ("options" : Str)] (defScope s_Kind_init) := ⟨rfl, rfl, rfl, by decide +kernel, rfl, by decide +kernel, by decide +kernel⟩
theorem sc_Kind__declare : FnScope [("self" : Str), ("members" : Str), ("above" : Str), ("options" : Str), ("line" : Str)] [("self" : Str), ("members" : Str), ("above" : Str), ("options" : Str)] (defScope s_Kind__declare) := ⟨rfl, rfl, rfl, by decide +kernel, rfl, by decide +kernel, by decide +kernel⟩
theorem sc_Kind__set_own : FnScope [("self" : Str), ("members" : Str), ("hooks" : Str), ("member" : Str)] [("self" : Str), ("members" : Str)] (defScope s_Kind__set_own) := ⟨rfl, rfl, rfl, by decide +kernel, rfl, by decide +kernel, by decide +kernel⟩
theorem sc_Kind__set_options : FnScope [("self" : Str), ("options" : Str)] [("self" : Str), ("options" : Str)] (defScope s_Kind__set_options) := ⟨rfl, rfl, rfl, by decide +kernel, rfl, by decide +kernel, by decide +kernel⟩
theorem sc_Kind__set_whole : FnScope [("self" : Str), ("whole" : Str), ("data" : Str), ("member" : Str), ("kind" : Str), ("_" : Str), ("named" : Str), ("field" : Str)] [("self" : Str), ("whole" : Str)] (defScope s_Kind__set_whole) := ⟨rfl, rfl, rfl, by decide +kernel, rfl, by decide +kernel, by decide +kernel⟩
theorem sc_Book_init : FnScope [("self" : Str), ("kinds" : Str)] [("self" : Str), ("kinds" : Str)] (defScope s_Book_init) := ⟨rfl, rfl, rfl, by decide +kernel, rfl, by decide +kernel, by decide +kernel⟩
theorem sc_Book_kind_names : FnScope [("self" : Str)] [("self" : Str)] (defScope s_Book_kind_names) := ⟨rfl, rfl, rfl, by decide +kernel, rfl, by decide +kernel, by decide +kernel⟩
theorem sc_Book_len : FnScope [("self" : Str)] [("self" : Str)] (defScope s_Book_len) := ⟨rfl, rfl, rfl, by decide +kernel, rfl, by decide +kernel, by decide +kernel⟩
theorem sc_Book_contains : FnScope [("self" : Str), ("name" : Str)] [("self" : Str), ("name" : Str)] (defScope s_Book_contains) := ⟨rfl, rfl, rfl, by decide +kernel, rfl, by decide +kernel, by decide +kernel⟩
theorem sc_Book_getitem : FnScope [("self" : Str), ("name" : Str)] [("self" : Str), ("name" : Str)] (defScope s_Book_getitem) := ⟨rfl, rfl, rfl, by decide +kernel, rfl, by decide +kernel, by decide +kernel⟩
theorem sc_Book_add : FnScope [("self" : Str), ("other" : Str), ("kinds" : Str)] [("self" : Str), ("other" : Str)] (defScope s_Book_add) := ⟨rfl, rfl, rfl, by decide +kernel, rfl, by decide +kernel, by decide +kernel⟩
theorem sc__law_mixed : FnScope [("cell" : Str), ("n" : Str), ("turned" : Str)] [("cell" : Str), ("n" : Str)] (defScope s__law_mixed) := ⟨rfl, rfl, rfl, by decide +kernel, rfl, by decide +kernel, by decide +kernel⟩
theorem sc__law_folded : FnScope [("script" : Str), ("n" : Str), ("found" : Str), ("cell" : Str)] [("script" : Str)] (defScope s__law_folded) := ⟨rfl, rfl, rfl, by decide +kernel, rfl, by decide +kernel, by decide +kernel⟩
theorem sc__law_draw : FnScope [("m" : Str), ("top" : Str), ("n" : Str), ("at" : Str), ("cell" : Str)] [("m" : Str), ("top" : Str)] (defScope s__law_draw) := ⟨rfl, rfl, rfl, by decide +kernel, rfl, by decide +kernel, by decide +kernel⟩
theorem sc__law_begun : FnScope [("script" : Str), ("m" : Str), ("cell" : Str)] [("script" : Str)] (defScope s__law_begun) := ⟨rfl, rfl, rfl, by decide +kernel, rfl, by decide +kernel, by decide +kernel⟩
theorem sc__law_mixed_up : FnScope [("m" : Str), ("things" : Str), ("stock" : Str), ("found" : Str), ("n" : Str)] [("m" : Str), ("things" : Str)] (defScope s__law_mixed_up) := ⟨rfl, rfl, rfl, by decide +kernel, rfl, by decide +kernel, by decide +kernel⟩
theorem sc__law_class : FnScope [("error" : Str)] [("error" : Str)] (defScope s__law_class) := ⟨rfl, rfl, rfl, by decide +kernel, rfl, by decide +kernel, by decide +kernel⟩
theorem sc__law_name_class : FnScope [("error" : Str)] [("error" : Str)] (defScope s__law_name_class) := ⟨rfl, rfl, rfl, by decide +kernel, rfl, by decide +kernel, by decide +kernel⟩
theorem sc__law_told : FnScope [("deed" : Str), ("error" : Str), ("found" : Str), ("e" : Str)] [("deed" : Str)] (defScope s__law_told) := ⟨rfl, rfl, rfl, by decide +kernel, rfl, by decide +kernel, by decide +kernel⟩
theorem sc__law_first : FnScope [("words" : Str), ("n" : Str), ("word" : Str)] [("words" : Str)] (defScope s__law_first) := ⟨rfl, rfl, rfl, by decide +kernel, rfl, by decide +kernel, by decide +kernel⟩
theorem sc__law_made : FnScope [("words" : Str), ("some" : Str), ("word" : Str)] [("words" : Str)] (defScope s__law_made) := ⟨rfl, rfl, rfl, by decide +kernel, rfl, by decide +kernel, by decide +kernel⟩
theorem sc__law_shown_right : FnScope [("book" : Str), ("words" : Str), ("told" : Str), ("odd" : Str), ("word" : Str)] [("book" : Str), ("words" : Str)] (defScope s__law_shown_right) := ⟨rfl, rfl, rfl, by decide +kernel, rfl, by decide +kernel, by decide +kernel⟩
theorem sc_law : FnScope [("script" : Str), ("m" : Str), ("bout" : Str), ("words" : Str), ("told" : Str), ("spot" : Str), ("near" : Str), ("far" : Str), ("both" : Str), ("found" : Str), ("kind_here" : Str), ("one" : Str), ("two" : Str), ("n" : Str)] [("script" : Str)] (defScope s_law) := ⟨rfl, rfl, rfl, by decide +kernel, rfl, by decide +kernel, by decide +kernel⟩
theorem emptyTup_ok {K : PySem.W.Frag} {a : Addr} (h : emptyTup K a = true) (H : Hp) : SqT K H a [] := by
  unfold emptyTup at h
  cases q : K.lookup a with
  | none =>
    rw [q] at h
    cases h
  | some o =>
    obtain ⟨oc, od, dt, osl⟩ := o
    rw [q] at h
    cases oc with
    | type c =>
      cases dt with
      | seq its n =>
        obtain ⟨h1, h2⟩ := He.ba (show (decide (c = "tuple") && decide (its.toList = [])) = true from h)
        have e2 : its.toList = [] := of_decide_eq_true h2
        refine .inr ⟨_, its, n, q, congrArg Value.type (of_decide_eq_true h1), rfl, ?_, by rw [e2]; exact .nil⟩
        rw [← Array.length_toList, e2]
        exact Nat.zero_le _
      | _ => cases h
    | _ => cases dt <;> cases h
theorem idcB_ok {K : PySem.W.Frag} {C : Addr} (h : idcB K C = true) : IdQ.IdC K C := by
  obtain ⟨h1, h⟩ := He.ba h
  obtain ⟨h2, h⟩ := He.ba h
  obtain ⟨h3, h4⟩ := He.ba h
  exact ⟨of_decide_eq_true h1, eqO_ok h2, eqO_ok h3, of_decide_eq_true h4⟩
theorem propB_ok {K : PySem.W.Frag} {C : Addr} {f : Str} (h : propB K C f = true) : PropOf K C f (ma K C f) (He5.wf K C "property" f) := by
  obtain ⟨h1, h⟩ := He.ba h
  obtain ⟨h2, h⟩ := He.ba h
  obtain ⟨h3, h4⟩ := He.ba h
  refine ⟨eqO_ok h3, eqO_ok h1, of_decide_eq_true h2, ?_⟩
  unfold He5.wf
  revert h4
  cases q : PySem.W.recIn K (ma K C f) "property" with
  | none => intro h4; cases h4
  | some l =>
    cases l with
    | nil => intro h4; cases h4
    | cons v r => cases v <;> intro h4 <;> first | exact ⟨r, rfl⟩ | cases h4
theorem excB_ok {K : PySem.W.Frag} {D : Addr} (h : excB K D = true) (T : XfC K D) : ExcC K D := by
  obtain ⟨h1, h⟩ := He.ba h
  obtain ⟨h2, h⟩ := He.ba h
  obtain ⟨h3, h4⟩ := He.ba h
  exact ⟨T.ga, T.gg, T.exC, T.hdC, eqO_ok h1, eqO_ok h2, of_decide_eq_true h3, of_decide_eq_true h4⟩
theorem erkB_ok {K : PySem.W.Frag} {D : Addr} {x y : Str} (h : erkB K D x = true) (hy : y ∈ errNames) : PySem.W.kitOne K (.ref D) (.ref (ga K y)) = some (decide (y = x)) := of_decide_eq_true (List.all_eq_true.mp h y hy)

/-- what the walk knows of the program as the top left it -/
structure Txt (K : PySem.W.Frag) (mg : Str → Option Value) : Prop where
  g_line_above : mg "line_above" = some (.ref (ga K "line_above"))
  g__rows_of : mg "_rows_of" = some (.ref (ga K "_rows_of"))
  g__free_head : mg "_free_head" = some (.ref (ga K "_free_head"))
  g__head_of_row_with : mg "_head_of_row_with" = some (.ref (ga K "_head_of_row_with"))
  g__without : mg "_without" = some (.ref (ga K "_without"))
  g__ring_in : mg "_ring_in" = some (.ref (ga K "_ring_in"))
  g_is_name : mg "is_name" = some (.ref (ga K "is_name"))
  g_check_members : mg "check_members" = some (.ref (ga K "check_members"))
  g_check_options : mg "check_options" = some (.ref (ga K "check_options"))
  g_check_above : mg "check_above" = some (.ref (ga K "check_above"))
  g_check_mixture : mg "check_mixture" = some (.ref (ga K "check_mixture"))
  g_check_frozen : mg "check_frozen" = some (.ref (ga K "check_frozen"))
  g_check_defaults : mg "check_defaults" = some (.ref (ga K "check_defaults"))
  g_whole_members : mg "whole_members" = some (.ref (ga K "whole_members"))
  g__by_names : mg "_by_names" = some (.ref (ga K "_by_names"))
  g__law_mixed : mg "_law_mixed" = some (.ref (ga K "_law_mixed"))
  g__law_folded : mg "_law_folded" = some (.ref (ga K "_law_folded"))
  g__law_draw : mg "_law_draw" = some (.ref (ga K "_law_draw"))
  g__law_begun : mg "_law_begun" = some (.ref (ga K "_law_begun"))
  g__law_mixed_up : mg "_law_mixed_up" = some (.ref (ga K "_law_mixed_up"))
  g__law_class : mg "_law_class" = some (.ref (ga K "_law_class"))
  g__law_name_class : mg "_law_name_class" = some (.ref (ga K "_law_name_class"))
  g__law_told : mg "_law_told" = some (.ref (ga K "_law_told"))
  g__law_first : mg "_law_first" = some (.ref (ga K "_law_first"))
  g__law_made : mg "_law_made" = some (.ref (ga K "_law_made"))
  g__law_shown_right : mg "_law_shown_right" = some (.ref (ga K "_law_shown_right"))
  g_law : mg "law" = some (.ref (ga K "law"))
  g_Kind : mg "Kind" = some (.ref (ga K "Kind"))
  g_Lined : mg "Lined" = some (.ref (ga K "Lined"))
  g_InvalidKind : mg "InvalidKind" = some (.ref (ga K "InvalidKind"))
  g_Book : mg "Book" = some (.ref (ga K "Book"))
  g_InvalidMember : mg "InvalidMember" = some (.ref (ga K "InvalidMember"))
  g_InvalidBook : mg "InvalidBook" = some (.ref (ga K "InvalidBook"))
  g_InvalidData : mg "InvalidData" = some (.ref (ga K "InvalidData"))
  g_ParseError : mg "ParseError" = some (.ref (ga K "ParseError"))
  g_TooManyValues : mg "TooManyValues" = some (.ref (ga K "TooManyValues"))
  g_LimitExceeded : mg "LimitExceeded" = some (.ref (ga K "LimitExceeded"))
  g_MissingNames : mg "MissingNames" = some (.ref (ga K "MissingNames"))
  g_NoEntry : mg "NoEntry" = some (.ref (ga K "NoEntry"))
  g_InvalidName : mg "InvalidName" = some (.ref (ga K "InvalidName"))
  g_UnknownName : mg "UnknownName" = some (.ref (ga K "UnknownName"))
  g_GivenTwice : mg "GivenTwice" = some (.ref (ga K "GivenTwice"))
  g_NoField : mg "NoField" = some (.ref (ga K "NoField"))
  g_Unset : mg "Unset" = some (.ref (ga K "Unset"))
  g_Frozen : mg "Frozen" = some (.ref (ga K "Frozen"))
  g_NoKind : mg "NoKind" = some (.ref (ga K "NoKind"))
  g_NameTaken : mg "NameTaken" = some (.ref (ga K "NameTaken"))
  g_NoRecord : mg "NoRecord" = some (.ref (ga K "NoRecord"))
  g_Duplicate : mg "Duplicate" = some (.ref (ga K "Duplicate"))
  g_NotKeyable : mg "NotKeyable" = some (.ref (ga K "NotKeyable"))
  g_NotOrdered : mg "NotOrdered" = some (.ref (ga K "NotOrdered"))
  g_NothingToUndo : mg "NothingToUndo" = some (.ref (ga K "NothingToUndo"))
  g_TooDeep : mg "TooDeep" = some (.ref (ga K "TooDeep"))
  g_RecordcraftError : mg "RecordcraftError" = some (.ref (ga K "RecordcraftError"))
  g_BARRED_WORDS : mg "BARRED_WORDS" = some (.ref (ga K "BARRED_WORDS"))
  n_len : mg "len" = none
  n_isinstance : mg "isinstance" = none
  n_tuple : mg "tuple" = none
  n_list : mg "list" = none
  n_range : mg "range" = none
  n_enumerate : mg "enumerate" = none
  n_any : mg "any" = none
  n_str : mg "str" = none
  n_min : mg "min" = none
  n_int : mg "int" = none
  n_ValueError : mg "ValueError" = none
  maxLen : ∃ t, mg "MAX_LENGTH" = some (.int 40 t)
  digits : ∃ t, mg "DIGITS" = some (.str digitSigns t)
  signs : ∃ t, mg "NAME_SIGNS" = some (.str nameSigns t)
  cls : Cls K (kC K)
  clsO : Cls K (kO K)
  a_name : NoAttr K (kC K) "name"
  a_above : NoAttr K (kC K) "above"
  a_line : NoAttr K (kC K) "line"
  a_own_hook : NoAttr K (kC K) "own_hook"
  a_own_members : NoAttr K (kC K) "own_members"
  a_own_methods : NoAttr K (kC K) "own_methods"
  a_equal : NoAttr K (kC K) "equal"
  a_order : NoAttr K (kC K) "order"
  a_frozen : NoAttr K (kC K) "frozen"
  a_only_named : NoAttr K (kC K) "only_named"
  a_show : NoAttr K (kC K) "show"
  a__data : NoAttr K (kC K) "_data"
  a__shared : NoAttr K (kC K) "_shared"
  a__other_members : NoAttr K (kC K) "_other_members"
  a_fields : NoAttr K (kC K) "fields"
  a_field_names : NoAttr K (kC K) "field_names"
  a_compare_names : NoAttr K (kC K) "compare_names"
  a_show_names : NoAttr K (kC K) "show_names"
  a_key_names : NoAttr K (kC K) "key_names"
  a__init_only : NoAttr K (kC K) "_init_only"
  a__by_position : NoAttr K (kC K) "_by_position"
  a__by_name : NoAttr K (kC K) "_by_name"
  a__parameters : NoAttr K (kC K) "_parameters"
  a__parameter_names : NoAttr K (kC K) "_parameter_names"
  b_kinds : NoAttr K (kO K) "_kinds"
  m__declare : Meth K (kC K) "_declare" (ma K (kC K) "_declare")
  m__set_own : Meth K (kC K) "_set_own" (ma K (kC K) "_set_own")
  m__set_options : Meth K (kC K) "_set_options" (ma K (kC K) "_set_options")
  m__set_whole : Meth K (kC K) "_set_whole" (ma K (kC K) "_set_whole")
  kmk : Mk K (kC K) (ma K (kC K) "__init__")
  bmk : Mk K (kO K) (ma K (kO K) "__init__")
  mInit : Meth K (kE K) "__init__" (ma K (kE K) "__init__")
  e_rule : NoAttr K (kE K) "rule"
  e_item : NoAttr K (kE K) "item"
  mInitB : Meth K (kB K) "__init__" (ma K (kB K) "__init__")
  e_spot : NoAttr K (kB K) "spot"
  mInitN : Meth K (kN K) "__init__" (ma K (kN K) "__init__")
  e_name : NoAttr K (kN K) "name"
  exmB : PySem.W.exmOne K (.ref (kB K)) (.ref (kR K)) = some true
  exmN : PySem.W.exmOne K (.ref (kN K)) (.ref (kR K)) = some true
  exm : PySem.W.exmOne K (.ref (kE K)) (.ref (kE K)) = some true
  barred : ∀ H : Hp, SqT K H (ga K "BARRED_WORDS") (barred.map V.str)
  maxMem : ∃ u, Con K (kC K) "MAX_MEMBERS" (.int 16) u
  maxLine : ∃ u, Con K (kC K) "MAX_LINE" (.int 12) u
  idc : IdQ.IdC K (kC K)
  ins : insB K (kC K) = true
  isL : PySem.W.kitOne K (.ref (kC K)) (.ref (ga K "Lined")) = some true
  oex : OexC K (kE K)
  xf : XfC K (kE K)
  tInit : PySem.W.typeIn K (.ref (ma K (kE K) "__init__")) = some (.type "function")
  e1 : ∀ H : Hp, SqT K H (kwAbove K) []
  oexB : OexC K (kB K)
  xfB : XfC K (kB K)
  tInitB : PySem.W.typeIn K (.ref (ma K (kB K) "__init__")) = some (.type "function")
  excbB : excB K (kB K) = true
  errB : erkB K (kB K) "InvalidBook" = true
  oexN : OexC K (kN K)
  xfN : XfC K (kN K)
  tInitN : PySem.W.typeIn K (.ref (ma K (kN K) "__init__")) = some (.type "function")
  excbN : excB K (kN K) = true
  errN : erkB K (kN K) "NoKind" = true
  lin : linB K = true
  knK : knB K (kC K) = true
  isK : PySem.W.kitOne K (.ref (kC K)) (.ref (kC K)) = some true
  isO : PySem.W.kitOne K (.ref (kO K)) (.ref (kO K)) = some true
  insO : insB K (kO K) = true
  dLen : OwD.DunC K (kO K) "__len__" (ma K (kO K) "__len__")
  dHas : OwD.DunC K (kO K) "__contains__" (ma K (kO K) "__contains__")
  dGet : OwD.DunC K (kO K) "__getitem__" (ma K (kO K) "__getitem__")
  dAdd : OwD.DunC K (kO K) "__add__" (ma K (kO K) "__add__")
  fGet : PySem.W.fnIn K (ma K (kO K) "__getitem__") = true
  sfO : PySem.W.selfFirst K (kO K) = true
  pNames : PropOf K (kO K) "kind_names" (ma K (kO K) "kind_names") (He5.wf K (kO K) "property" "kind_names")
  F_InvalidKind_init : ∃ fd, FunD K "__init__" "InvalidKind.__init__" (defArgs s_InvalidKind_init) (defBody s_InvalidKind_init) (defScope s_InvalidKind_init) (He5.DefA.dvs K d_InvalidKind_init) (He5.DefA.kws K d_InvalidKind_init) (ma K (ga K "InvalidKind") "__init__") fd
  F_InvalidBook_init : ∃ fd, Fun K "__init__" "InvalidBook.__init__" s_InvalidBook_init (ma K (ga K "InvalidBook") "__init__") fd
  F_NoKind_init : ∃ fd, Fun K "__init__" "NoKind.__init__" s_NoKind_init (ma K (ga K "NoKind") "__init__") fd
  F_line_above : ∃ fd, Fun K "line_above" "line_above" s_line_above (ga K "line_above") fd
  F__rows_of : ∃ fd, Fun K "_rows_of" "_rows_of" s__rows_of (ga K "_rows_of") fd
  F__free_head : ∃ fd, Fun K "_free_head" "_free_head" s__free_head (ga K "_free_head") fd
  F__head_of_row_with : ∃ fd, Fun K "_head_of_row_with" "_head_of_row_with" s__head_of_row_with (ga K "_head_of_row_with") fd
  F__without : ∃ fd, Fun K "_without" "_without" s__without (ga K "_without") fd
  F__ring_in : ∃ fd, Fun K "_ring_in" "_ring_in" s__ring_in (ga K "_ring_in") fd
  F_is_name : ∃ fd, Fun K "is_name" "is_name" s_is_name (ga K "is_name") fd
  F_check_members : ∃ fd, Fun K "check_members" "check_members" s_check_members (ga K "check_members") fd
  F_check_options : ∃ fd, Fun K "check_options" "check_options" s_check_options (ga K "check_options") fd
  F_check_above : ∃ fd, Fun K "check_above" "check_above" s_check_above (ga K "check_above") fd
  F_check_mixture : ∃ fd, Fun K "check_mixture" "check_mixture" s_check_mixture (ga K "check_mixture") fd
  F_check_frozen : ∃ fd, Fun K "check_frozen" "check_frozen" s_check_frozen (ga K "check_frozen") fd
  F_check_defaults : ∃ fd, Fun K "check_defaults" "check_defaults" s_check_defaults (ga K "check_defaults") fd
  F_whole_members : ∃ fd, Fun K "whole_members" "whole_members" s_whole_members (ga K "whole_members") fd
  F__by_names : ∃ fd, Fun K "_by_names" "_by_names" s__by_names (ga K "_by_names") fd
  F_Kind_init : ∃ fd, FunD K "__init__" "Kind.__init__" (defArgs s_Kind_init) (defBody s_Kind_init) (defScope s_Kind_init) (He5.DefA.dvs K d_Kind_init) (He5.DefA.kws K d_Kind_init) (ma K (ga K "Kind") "__init__") fd
  F_Kind__declare : ∃ fd, Fun K "_declare" "Kind._declare" s_Kind__declare (ma K (ga K "Kind") "_declare") fd
  F_Kind__set_own : ∃ fd, Fun K "_set_own" "Kind._set_own" s_Kind__set_own (ma K (ga K "Kind") "_set_own") fd
  F_Kind__set_options : ∃ fd, Fun K "_set_options" "Kind._set_options" s_Kind__set_options (ma K (ga K "Kind") "_set_options") fd
  F_Kind__set_whole : ∃ fd, Fun K "_set_whole" "Kind._set_whole" s_Kind__set_whole (ma K (ga K "Kind") "_set_whole") fd
  F_Book_init : ∃ fd, Fun K "__init__" "Book.__init__" s_Book_init (ma K (ga K "Book") "__init__") fd
  F_Book_kind_names : ∃ fd, Fun K "kind_names" "Book.kind_names" s_Book_kind_names (He5.wf K (ga K "Book") "property" "kind_names") fd
  F_Book_len : ∃ fd, Fun K "__len__" "Book.__len__" s_Book_len (ma K (ga K "Book") "__len__") fd
  F_Book_contains : ∃ fd, Fun K "__contains__" "Book.__contains__" s_Book_contains (ma K (ga K "Book") "__contains__") fd
  F_Book_getitem : ∃ fd, Fun K "__getitem__" "Book.__getitem__" s_Book_getitem (ma K (ga K "Book") "__getitem__") fd
  F_Book_add : ∃ fd, Fun K "__add__" "Book.__add__" s_Book_add (ma K (ga K "Book") "__add__") fd
  F__law_mixed : ∃ fd, Fun K "_law_mixed" "_law_mixed" s__law_mixed (ga K "_law_mixed") fd
  F__law_folded : ∃ fd, Fun K "_law_folded" "_law_folded" s__law_folded (ga K "_law_folded") fd
  F__law_draw : ∃ fd, Fun K "_law_draw" "_law_draw" s__law_draw (ga K "_law_draw") fd
  F__law_begun : ∃ fd, Fun K "_law_begun" "_law_begun" s__law_begun (ga K "_law_begun") fd
  F__law_mixed_up : ∃ fd, Fun K "_law_mixed_up" "_law_mixed_up" s__law_mixed_up (ga K "_law_mixed_up") fd
  F__law_class : ∃ fd, Fun K "_law_class" "_law_class" s__law_class (ga K "_law_class") fd
  F__law_name_class : ∃ fd, Fun K "_law_name_class" "_law_name_class" s__law_name_class (ga K "_law_name_class") fd
  F__law_told : ∃ fd, Fun K "_law_told" "_law_told" s__law_told (ga K "_law_told") fd
  F__law_first : ∃ fd, Fun K "_law_first" "_law_first" s__law_first (ga K "_law_first") fd
  F__law_made : ∃ fd, Fun K "_law_made" "_law_made" s__law_made (ga K "_law_made") fd
  F__law_shown_right : ∃ fd, Fun K "_law_shown_right" "_law_shown_right" s__law_shown_right (ga K "_law_shown_right") fd
  F_law : ∃ fd, Fun K "law" "law" s_law (ga K "law") fd
theorem txt_of {K : PySem.W.Frag} {mg : Str → Option Value} {h h0 : Heap} (X : K.In h) (G : h.Ns mainGlobals mg) (c : HkQ.SaysQ fa fn tf exs h0 K) : Txt K mg := by
  constructor
  · exact glo_ok X G (c.a.fact 0 (f := .glo "line_above") rfl)
  · exact glo_ok X G (c.a.fact 1 (f := .glo "_rows_of") rfl)
  · exact glo_ok X G (c.a.fact 2 (f := .glo "_free_head") rfl)
  · exact glo_ok X G (c.a.fact 3 (f := .glo "_head_of_row_with") rfl)
  · exact glo_ok X G (c.a.fact 4 (f := .glo "_without") rfl)
  · exact glo_ok X G (c.a.fact 5 (f := .glo "_ring_in") rfl)
  · exact glo_ok X G (c.a.fact 6 (f := .glo "is_name") rfl)
  · exact glo_ok X G (c.a.fact 7 (f := .glo "check_members") rfl)
  · exact glo_ok X G (c.a.fact 8 (f := .glo "check_options") rfl)
  · exact glo_ok X G (c.a.fact 9 (f := .glo "check_above") rfl)
  · exact glo_ok X G (c.a.fact 10 (f := .glo "check_mixture") rfl)
  · exact glo_ok X G (c.a.fact 11 (f := .glo "check_frozen") rfl)
  · exact glo_ok X G (c.a.fact 12 (f := .glo "check_defaults") rfl)
  · exact glo_ok X G (c.a.fact 13 (f := .glo "whole_members") rfl)
  · exact glo_ok X G (c.a.fact 14 (f := .glo "_by_names") rfl)
  · exact glo_ok X G (c.a.fact 15 (f := .glo "_law_mixed") rfl)
  · exact glo_ok X G (c.a.fact 16 (f := .glo "_law_folded") rfl)
  · exact glo_ok X G (c.a.fact 17 (f := .glo "_law_draw") rfl)
  · exact glo_ok X G (c.a.fact 18 (f := .glo "_law_begun") rfl)
  · exact glo_ok X G (c.a.fact 19 (f := .glo "_law_mixed_up") rfl)
  · exact glo_ok X G (c.a.fact 20 (f := .glo "_law_class") rfl)
  · exact glo_ok X G (c.a.fact 21 (f := .glo "_law_name_class") rfl)
  · exact glo_ok X G (c.a.fact 22 (f := .glo "_law_told") rfl)
  · exact glo_ok X G (c.a.fact 23 (f := .glo "_law_first") rfl)
  · exact glo_ok X G (c.a.fact 24 (f := .glo "_law_made") rfl)
  · exact glo_ok X G (c.a.fact 25 (f := .glo "_law_shown_right") rfl)
  · exact glo_ok X G (c.a.fact 26 (f := .glo "law") rfl)
  · exact glo_ok X G (c.a.fact 27 (f := .glo "Kind") rfl)
  · exact glo_ok X G (c.a.fact 28 (f := .glo "Lined") rfl)
  · exact glo_ok X G (c.a.fact 29 (f := .glo "InvalidKind") rfl)
  · exact glo_ok X G (c.a.fact 30 (f := .glo "Book") rfl)
  · exact glo_ok X G (c.a.fact 31 (f := .glo "InvalidMember") rfl)
  · exact glo_ok X G (c.a.fact 32 (f := .glo "InvalidBook") rfl)
  · exact glo_ok X G (c.a.fact 33 (f := .glo "InvalidData") rfl)
  · exact glo_ok X G (c.a.fact 34 (f := .glo "ParseError") rfl)
  · exact glo_ok X G (c.a.fact 35 (f := .glo "TooManyValues") rfl)
  · exact glo_ok X G (c.a.fact 36 (f := .glo "LimitExceeded") rfl)
  · exact glo_ok X G (c.a.fact 37 (f := .glo "MissingNames") rfl)
  · exact glo_ok X G (c.a.fact 38 (f := .glo "NoEntry") rfl)
  · exact glo_ok X G (c.a.fact 39 (f := .glo "InvalidName") rfl)
  · exact glo_ok X G (c.a.fact 40 (f := .glo "UnknownName") rfl)
  · exact glo_ok X G (c.a.fact 41 (f := .glo "GivenTwice") rfl)
  · exact glo_ok X G (c.a.fact 42 (f := .glo "NoField") rfl)
  · exact glo_ok X G (c.a.fact 43 (f := .glo "Unset") rfl)
  · exact glo_ok X G (c.a.fact 44 (f := .glo "Frozen") rfl)
  · exact glo_ok X G (c.a.fact 45 (f := .glo "NoKind") rfl)
  · exact glo_ok X G (c.a.fact 46 (f := .glo "NameTaken") rfl)
  · exact glo_ok X G (c.a.fact 47 (f := .glo "NoRecord") rfl)
  · exact glo_ok X G (c.a.fact 48 (f := .glo "Duplicate") rfl)
  · exact glo_ok X G (c.a.fact 49 (f := .glo "NotKeyable") rfl)
  · exact glo_ok X G (c.a.fact 50 (f := .glo "NotOrdered") rfl)
  · exact glo_ok X G (c.a.fact 51 (f := .glo "NothingToUndo") rfl)
  · exact glo_ok X G (c.a.fact 52 (f := .glo "TooDeep") rfl)
  · exact glo_ok X G (c.a.fact 53 (f := .glo "RecordcraftError") rfl)
  · exact glo_ok X G (c.a.fact 67 (f := .glo "BARRED_WORDS") rfl)
  · exact free_ok X G (c.a.fact 54 (f := .free "len") rfl)
  · exact free_ok X G (c.a.fact 55 (f := .free "isinstance") rfl)
  · exact free_ok X G (c.a.fact 56 (f := .free "tuple") rfl)
  · exact free_ok X G (c.a.fact 57 (f := .free "list") rfl)
  · exact free_ok X G (c.a.fact 58 (f := .free "range") rfl)
  · exact free_ok X G (c.a.fact 59 (f := .free "enumerate") rfl)
  · exact free_ok X G (c.a.fact 60 (f := .free "any") rfl)
  · exact free_ok X G (c.a.fact 61 (f := .free "str") rfl)
  · exact free_ok X G (c.a.fact 62 (f := .free "min") rfl)
  · exact free_ok X G (c.a.fact 63 (f := .free "int") rfl)
  · exact free_ok X G (c.a.fact 104 (f := .free "ValueError") rfl)
  · exact int_ok X G (c.a.fact 64 (f := .int "MAX_LENGTH" 40) rfl)
  · exact str_ok X G (c.a.fact 65 (f := .str "DIGITS" digitSigns) rfl)
  · exact str_ok X G (c.a.fact 66 (f := .str "NAME_SIGNS" nameSigns) rfl)
  · exact cls_ok (c.a.fact 68 (f := .cls "Kind") rfl)
  · exact cls_ok (c.a.fact 69 (f := .cls "Book") rfl)
  · exact noat_ok (c.a.fact 70 (f := .noat "Kind" "name") rfl)
  · exact noat_ok (c.a.fact 71 (f := .noat "Kind" "above") rfl)
  · exact noat_ok (c.a.fact 72 (f := .noat "Kind" "line") rfl)
  · exact noat_ok (c.a.fact 73 (f := .noat "Kind" "own_hook") rfl)
  · exact noat_ok (c.a.fact 74 (f := .noat "Kind" "own_members") rfl)
  · exact noat_ok (c.a.fact 75 (f := .noat "Kind" "own_methods") rfl)
  · exact noat_ok (c.a.fact 76 (f := .noat "Kind" "equal") rfl)
  · exact noat_ok (c.a.fact 77 (f := .noat "Kind" "order") rfl)
  · exact noat_ok (c.a.fact 78 (f := .noat "Kind" "frozen") rfl)
  · exact noat_ok (c.a.fact 79 (f := .noat "Kind" "only_named") rfl)
  · exact noat_ok (c.a.fact 80 (f := .noat "Kind" "show") rfl)
  · exact noat_ok (c.a.fact 81 (f := .noat "Kind" "_data") rfl)
  · exact noat_ok (c.a.fact 82 (f := .noat "Kind" "_shared") rfl)
  · exact noat_ok (c.a.fact 83 (f := .noat "Kind" "_other_members") rfl)
  · exact noat_ok (c.a.fact 84 (f := .noat "Kind" "fields") rfl)
  · exact noat_ok (c.a.fact 85 (f := .noat "Kind" "field_names") rfl)
  · exact noat_ok (c.a.fact 86 (f := .noat "Kind" "compare_names") rfl)
  · exact noat_ok (c.a.fact 87 (f := .noat "Kind" "show_names") rfl)
  · exact noat_ok (c.a.fact 88 (f := .noat "Kind" "key_names") rfl)
  · exact noat_ok (c.a.fact 89 (f := .noat "Kind" "_init_only") rfl)
  · exact noat_ok (c.a.fact 90 (f := .noat "Kind" "_by_position") rfl)
  · exact noat_ok (c.a.fact 91 (f := .noat "Kind" "_by_name") rfl)
  · exact noat_ok (c.a.fact 92 (f := .noat "Kind" "_parameters") rfl)
  · exact noat_ok (c.a.fact 93 (f := .noat "Kind" "_parameter_names") rfl)
  · exact noat_ok (c.a.fact 94 (f := .noat "Book" "_kinds") rfl)
  · exact meth_ok (c.a.fact 95 (f := .meth "Kind" "_declare") rfl)
  · exact meth_ok (c.a.fact 96 (f := .meth "Kind" "_set_own") rfl)
  · exact meth_ok (c.a.fact 97 (f := .meth "Kind" "_set_options") rfl)
  · exact meth_ok (c.a.fact 98 (f := .meth "Kind" "_set_whole") rfl)
  · exact mkr_ok (c.a.fact 99 (f := .mkr "Kind") rfl)
  · exact mkr_ok (c.a.fact 100 (f := .mkr "Book") rfl)
  · exact meth_ok (c.a.fact 101 (f := .meth "InvalidKind" "__init__") rfl)
  · exact noat_ok (c.a.fact 102 (f := .noat "InvalidKind" "rule") rfl)
  · exact noat_ok (c.a.fact 103 (f := .noat "InvalidKind" "item") rfl)
  · exact meth_ok (c.a.fact 105 (f := .meth "InvalidBook" "__init__") rfl)
  · exact noat_ok (c.a.fact 106 (f := .noat "InvalidBook" "spot") rfl)
  · exact meth_ok (c.a.fact 108 (f := .meth "NoKind" "__init__") rfl)
  · exact noat_ok (c.a.fact 109 (f := .noat "NoKind" "name") rfl)
  · exact exm_ok (c.a.fact 107 (f := .exm "InvalidBook" "RecordcraftError" true) rfl)
  · exact exm_ok (c.a.fact 110 (f := .exm "NoKind" "RecordcraftError" true) rfl)
  · exact exm_ok (c.a.fact 111 (f := .exm "InvalidKind" "InvalidKind" true) rfl)
  · exact fun H => tupB_ok (x := "BARRED_WORDS") (vs := barred.map He.Dv.str) (c.ex 0 (f := x0) rfl) H
  · exact conB_ok (C := "Kind") (f := "MAX_MEMBERS") (v := .int 16) (c.ex 1 (f := x1) rfl)
  · exact conB_ok (C := "Kind") (f := "MAX_LINE") (v := .int 12) (c.ex 2 (f := x2) rfl)
  · exact idcB_ok (c.ex 3 (f := x3) rfl)
  · exact c.ex 4 (f := x4) rfl
  · exact of_decide_eq_true (c.ex 5 (f := x5) rfl)
  · exact HkQ.oexB_ok (c.ex 6 (f := x6) rfl)
  · exact xfB_ok (c.ex 7 (f := x7) rfl)
  · exact of_decide_eq_true (c.ex 8 (f := x8) rfl)
  · exact fun H => emptyTup_ok (c.ex 9 (f := x9) rfl) H
  · exact HkQ.oexB_ok (c.ex 10 (f := x10) rfl)
  · exact xfB_ok (c.ex 11 (f := x11) rfl)
  · exact of_decide_eq_true (c.ex 12 (f := x12) rfl)
  · exact c.ex 13 (f := x13) rfl
  · exact c.ex 14 (f := x14) rfl
  · exact HkQ.oexB_ok (c.ex 15 (f := x15) rfl)
  · exact xfB_ok (c.ex 16 (f := x16) rfl)
  · exact of_decide_eq_true (c.ex 17 (f := x17) rfl)
  · exact c.ex 18 (f := x18) rfl
  · exact c.ex 19 (f := x19) rfl
  · exact c.ex 20 (f := x20) rfl
  · exact c.ex 21 (f := x21) rfl
  · exact of_decide_eq_true (c.ex 22 (f := x22) rfl)
  · exact of_decide_eq_true (c.ex 23 (f := x23) rfl)
  · exact c.ex 24 (f := x24) rfl
  · exact OwD.dunB_ok (c.ex 25 (f := x25) rfl)
  · exact OwD.dunB_ok (c.ex 26 (f := x26) rfl)
  · exact OwD.dunB_ok (c.ex 27 (f := x27) rfl)
  · exact OwD.dunB_ok (c.ex 28 (f := x28) rfl)
  · exact c.ex 29 (f := x29) rfl
  · exact c.ex 30 (f := x30) rfl
  · exact propB_ok (c.ex 31 (f := x31) rfl)
  · exact c.a.def_ 0 (d := d_InvalidKind_init) rfl
  · exact (c.a.def_ 1 (d := d_InvalidBook_init) rfl).imp fun fd F => He5.fun_of F
  · exact (c.a.def_ 2 (d := d_NoKind_init) rfl).imp fun fd F => He5.fun_of F
  · exact (c.a.def_ 3 (d := d_line_above) rfl).imp fun fd F => He5.fun_of F
  · exact (c.a.def_ 4 (d := d__rows_of) rfl).imp fun fd F => He5.fun_of F
  · exact (c.a.def_ 5 (d := d__free_head) rfl).imp fun fd F => He5.fun_of F
  · exact (c.a.def_ 6 (d := d__head_of_row_with) rfl).imp fun fd F => He5.fun_of F
  · exact (c.a.def_ 7 (d := d__without) rfl).imp fun fd F => He5.fun_of F
  · exact (c.a.def_ 8 (d := d__ring_in) rfl).imp fun fd F => He5.fun_of F
  · exact (c.a.def_ 9 (d := d_is_name) rfl).imp fun fd F => He5.fun_of F
  · exact (c.a.def_ 10 (d := d_check_members) rfl).imp fun fd F => He5.fun_of F
  · exact (c.a.def_ 11 (d := d_check_options) rfl).imp fun fd F => He5.fun_of F
  · exact (c.a.def_ 12 (d := d_check_above) rfl).imp fun fd F => He5.fun_of F
  · exact (c.a.def_ 13 (d := d_check_mixture) rfl).imp fun fd F => He5.fun_of F
  · exact (c.a.def_ 14 (d := d_check_frozen) rfl).imp fun fd F => He5.fun_of F
  · exact (c.a.def_ 15 (d := d_check_defaults) rfl).imp fun fd F => He5.fun_of F
  · exact (c.a.def_ 16 (d := d_whole_members) rfl).imp fun fd F => He5.fun_of F
  · exact (c.a.def_ 17 (d := d__by_names) rfl).imp fun fd F => He5.fun_of F
  · exact c.a.def_ 18 (d := d_Kind_init) rfl
  · exact (c.a.def_ 19 (d := d_Kind__declare) rfl).imp fun fd F => He5.fun_of F
  · exact (c.a.def_ 20 (d := d_Kind__set_own) rfl).imp fun fd F => He5.fun_of F
  · exact (c.a.def_ 21 (d := d_Kind__set_options) rfl).imp fun fd F => He5.fun_of F
  · exact (c.a.def_ 22 (d := d_Kind__set_whole) rfl).imp fun fd F => He5.fun_of F
  · exact (c.a.def_ 23 (d := d_Book_init) rfl).imp fun fd F => He5.fun_of F
  · exact (c.a.def_ 24 (d := d_Book_kind_names) rfl).imp fun fd F => He5.fun_of F
  · exact (c.a.def_ 25 (d := d_Book_len) rfl).imp fun fd F => He5.fun_of F
  · exact (c.a.def_ 26 (d := d_Book_contains) rfl).imp fun fd F => He5.fun_of F
  · exact (c.a.def_ 27 (d := d_Book_getitem) rfl).imp fun fd F => He5.fun_of F
  · exact (c.a.def_ 28 (d := d_Book_add) rfl).imp fun fd F => He5.fun_of F
  · exact (c.a.def_ 29 (d := d__law_mixed) rfl).imp fun fd F => He5.fun_of F
  · exact (c.a.def_ 30 (d := d__law_folded) rfl).imp fun fd F => He5.fun_of F
  · exact (c.a.def_ 31 (d := d__law_draw) rfl).imp fun fd F => He5.fun_of F
  · exact (c.a.def_ 32 (d := d__law_begun) rfl).imp fun fd F => He5.fun_of F
  · exact (c.a.def_ 33 (d := d__law_mixed_up) rfl).imp fun fd F => He5.fun_of F
  · exact (c.a.def_ 34 (d := d__law_class) rfl).imp fun fd F => He5.fun_of F
  · exact (c.a.def_ 35 (d := d__law_name_class) rfl).imp fun fd F => He5.fun_of F
  · exact (c.a.def_ 36 (d := d__law_told) rfl).imp fun fd F => He5.fun_of F
  · exact (c.a.def_ 37 (d := d__law_first) rfl).imp fun fd F => He5.fun_of F
  · exact (c.a.def_ 38 (d := d__law_made) rfl).imp fun fd F => He5.fun_of F
  · exact (c.a.def_ 39 (d := d__law_shown_right) rfl).imp fun fd F => He5.fun_of F
  · exact (c.a.def_ 40 (d := d_law) rfl).imp fun fd F => He5.fun_of F
end K52
end

section
set_option Elab.async false
set_option linter.all false
set_option maxRecDepth 100000
set_option maxHeartbeats 4000000
namespace K52
open PySem PySem.Spec PyProof.Rows L2 He Cn Evl
section
variable {P : Program} {w : World} {K : PySem.W.Frag} {mg : Str → Option Value} {base : Heap}
/-! ### the law's numbers -/
def spMixed : Sp := fun vs H Q _ => ∃ c n : Int, vs = [.int c, .int n] ∧ 0 ≤ n ∧ n < 1000000 ∧ ∀ r : Int, 0 ≤ r → r < 2147483647 → Q (.int r) H
theorem can_mixed (T : Txt K mg) : Can P w K mg base CX0 1 "_law_mixed" ["cell", "n"] spMixed := by
  refine can_of T.g__law_mixed T.F__law_mixed (fun fd F => ?_) (fun _ _ _ _ _ _ us hl => match us, hl with | [_, _], _ => rfl)
  refine F.ok sc__law_mixed (fun vs H Q E h => ?_) (fun cdv A outer s H vs Q E hr h => ?_)
  · obtain ⟨c, n, rfl, _⟩ := h
    rfl
  · obtain ⟨c, n, rfl, h0, h1, k⟩ := h
    refine ⟨_, pss_cons (ps_set (i := 2) sc__law_mixed.nd rfl (.inl rfl) (pe_op op_add (pe_op op_add (pe_op op_mod (pe_op op_mul (pe_op op_mul (pv 0) (pe_op op_add pe_int (pe_op op_mul pe_int (pv 1)))) pe_int) pe_int) (pe_op op_mul (pe_op op_mul pe_int (pv 1)) (pv 1))) (pe_op op_mul pe_int (pv 1))))
      (pss_one (ps_ret (pe_op op_fdiv (pe_op op_mod (pe_op op_mul (pv 2) pe_int) pe_int) pe_int))), ?_⟩
    have n64 : -(2 ^ 64) < n ∧ n < 2 ^ 64 := ⟨by omega, by omega⟩
    refine ⟨_, rfl, _, rfl, _, _, rfl, rfl, .inr n64, _, _, rfl, rfl, _, _, rfl, rfl, .inr ⟨by omega, by omega⟩, _, _, rfl, rfl, .inr ⟨by decide, by decide⟩, _, _, rfl, rfl, (by show (0 : Int) < 2147483647; decide),
      _, rfl, _, _, rfl, rfl, .inl ⟨by decide, by decide⟩, _, rfl, _, _, rfl, rfl, .inr n64, _, _, rfl, rfl, _, rfl, _, _, rfl, rfl, .inl ⟨by decide, by decide⟩, _, _, rfl, rfl, ?_⟩
    refine ⟨_, rfl, _, _, rfl, rfl, .inr ⟨by decide, by decide⟩, _, _, rfl, rfl, (by show (0 : Int) < 2147483629; decide), _, _, rfl, rfl, ⟨by decide, by decide⟩, ?_⟩
    exact k _ (by omega) (by omega)
/-- 64 numbers below 2147483647 -/
def FoldAt (H : Hp) (p : Addr) : Prop := ∃ xs : List Int, xs.length = 64 ∧ (∀ x, x ∈ xs → 0 ≤ x ∧ x < 2147483647) ∧ H p = some (.lst (xs.map V.int))
def spFolded (K : PySem.W.Frag) : Sp := fun vs H Q _ => ∃ (a : Addr) (ns : List Int), vs = [.ref a] ∧ SqL K H a (ns.map V.int) ∧ ns.length ≤ 63 ∧ ∀ p H', H p = none → Ex H H' → FoldAt H' p → Q (.ref p) H'
theorem fold_at {xs : List Int} (h : xs.length = 64) {j : Nat} (hj : j < 64) : ∃ x, xs[j]? = some x := ⟨xs[j]'(by omega), List.getElem?_eq_getElem (by omega)⟩
theorem map_at {xs : List Int} {j : Nat} {x : Int} (h : xs[j]? = some x) : (xs.map V.int)[j]? = some (V.int x) := by rw [List.getElem?_map, h] <;> rfl
theorem fold_set {xs : List Int} {j : Nat} {y : Int} (h : ∀ x, x ∈ xs → 0 ≤ x ∧ x < 2147483647) (hy : 0 ≤ y ∧ y < 2147483647) : ∀ x, x ∈ xs.set j y → 0 ≤ x ∧ x < 2147483647 := fun x hx => by
  rcases List.mem_or_eq_of_mem_set hx with q | q
  · exact h x q
  · rw [q]; exact hy
theorem can_folded (T : Txt K mg) : Can P w K mg base CX0 1 "_law_folded" ["script"] (spFolded K) := by
  refine can_of T.g__law_folded T.F__law_folded (fun fd F => ?_) (fun _ _ _ _ _ _ us hl => match us, hl with | [_], _ => rfl)
  refine F.ok sc__law_folded (fun vs H Q E h => ?_) (fun cdv A outer s H vs Q E hr h => ?_)
  · obtain ⟨c, n, rfl, _⟩ := h
    rfl
  · obtain ⟨a, ns, rfl, hS, hlen, k⟩ := h
    have nd := sc__law_folded.nd
    refine ⟨_, pss_cons (ps_setLc (i := 2) (own := [("n", 1)]) (g := gName 1) (tt := tYes) rfl nd rfl rfl (sw_true rfl rfl rfl (by decide +kernel)) (pi_range1 rfl T.n_range (pa_cons pe_int pa_nil)) (blkOk_by (N := ["script", "n", "found", "cell"]) (sc := defScope s__law_folded) (by decide +kernel)) (fun _ _ _ _ _ => pg_name (i := 1) nd rfl (.inl rfl)) (fun _ _ _ _ _ => pts_nil) (fun _ _ _ _ _ => pe_op op_add pe_int (pv 1)))
      (pss_cons (ps_for PassesOwn.never rfl (pi_enum (by rfl) T.n_enumerate (pa_cons (pv 0) pa_nil)) (pg_tup rfl (pgs_cons (pg_name (i := 1) nd rfl (.inl rfl)) (pgs_cons (pg_name (i := 3) nd rfl (.inl rfl)) pgs_nil)))
        (pss_one (ps_asg (pe_op op_mod (pe_op op_add (pe_op op_mul (pe_ix ix_list (pv 2) (pe_op op_mod (pv 1) pe_int) (fun _ _ => rfl)) pe_int) (pv 3)) pe_int) (pg_sub (pv 2) (pe_op op_mod (pv 1) pe_int) set_list))))
      (pss_cons (ps_for PassesOwn.never rfl (pi_range2 rfl T.n_range (pa_cons pe_int (pa_cons pe_int pa_nil))) (pg_name (i := 1) nd rfl (.inl rfl))
        (pss_one (ps_asg (pe_op op_mod (pe_op op_add (pe_ix ix_list (pv 2) (pv 1) (fun _ _ => rfl)) (pe_op op_mul (pe_ix ix_list (pv 2) (pe_op op_sub (pv 1) pe_int) (fun _ _ => rfl)) pe_int)) pe_int) (pg_sub (pv 2) (pv 1) set_list))))
      (pss_one (ps_ret (pv 2))))), ?_⟩
    refine q_asgL (el_lcR1 (n := 64) (fun _ => true) (fun i => .int (17 + (i : Int))) (ea_cons ev_c ea_nil) (by decide) (fun x => rfl) (fun i H1 _ _ => ?_) (fun i H1 _ _ _ => ev_op ev_c (ev_var rfl) rv_I0)) fun p H1 hp e1 h1 => ?_
    · exact fun H2 _ Q q => q H2 (Ex.refl H2)
    have f1 : FoldAt H1 p := ⟨(List.range 64).map (fun (i : Nat) => 17 + (i : Int)), by simp, fun x hx => by
      obtain ⟨i, hi, rfl⟩ := List.mem_map.mp hx
      have := List.mem_range.mp hi
      omega, by rw [h1, List.map_map] <;> rfl⟩
    have keep : ∀ {H2 : Hp} {xs : List Int} {j : Nat} {y : Int}, Ex H H2 → xs.length = 64 → (∀ x, x ∈ xs → 0 ≤ x ∧ x < 2147483647) → (0 ≤ y ∧ y < 2147483647) → Ex H (upd H2 p (.lst ((xs.map V.int).set j (.int y)))) ∧ FoldAt (upd H2 p (.lst ((xs.map V.int).set j (.int y)))) p := fun {H2 xs j y} e l b hy => by
      refine ⟨Ex.mut e hp, xs.set j y, by rw [List.length_set]; exact l, fold_set b hy, ?_⟩
      rw [upd_same, List.map_set]
    have ix : ∀ {H2 : Hp} {xs : List Int} {σ : L2.St} {j : Nat} {x : Int} {tb : TE}, H2 p = some (.lst (xs.map V.int)) → σ[2]? = some (some (.ref p)) → Ev tb σ H2 (.int (j : Int)) → xs[j]? = some x → Ev (tOp (rIxL K) (tVar 2) tb) σ H2 (.int x) := fun h hv ht hx =>
      ev_op (ev_var hv) ht (rv_ixL (sq_of h) (at_of rfl (map_at hx)))
    refine ⟨_, rfl, a, _, rfl, ex_l e1 hS, for_it walk_enum (fun i σ H2 => Ex H H2 ∧ FoldAt H2 p ∧ ∃ v1 v3, σ = [some (.ref a), v1, some (.ref p), v3]) ⟨e1, f1, _, _, rfl⟩ (fun i σ H2 _ q => ex_l q.1 hS) ?_ ?_⟩
    · rintro i x σ H2 H3 hi ⟨e2, ⟨xs, lx, bx, hx⟩, v1, v3, rfl⟩ ⟨T, y, z, rfl, hT, rfl, hy, hz⟩
      obtain rfl := Option.some.inj hy
      obtain ⟨c, hc, rfl⟩ : ∃ c, ns[i]? = some c ∧ V.int c = z := by
        have hz : (ns.map V.int)[i]? = some z := hz
        rw [List.getElem?_map] at hz
        cases e : ns[i]? with
        | none => rw [e] at hz; cases hz
        | some c => rw [e] at hz; exact ⟨c, rfl, Option.some.inj hz⟩
      have hi64 : i < 64 := by rw [List.length_map] at hi; omega
      obtain ⟨x0, hx0⟩ := fold_at lx hi64
      have bx0 := bx x0 (List.mem_of_getElem? hx0)
      have hp3 : upd H2 T (.tup [.int (i : Nat), .int c]) p = some (.lst (xs.map V.int)) := by rw [upd_ne (ne_of_none hx hT)]; exact hx
      have e3 : Ex H (upd H2 T (.tup [.int (i : Nat), .int c])) := e2.trans (Ex.new hT)
      have hm : ∀ {H4 : Hp}, Ev (tOp (rI (fun _ j => 0 < j) fun i j => .int (i % j)) (tVar 1) (tC (.int 64))) [some (.ref a), some (.int (i : Nat)), some (.ref p), some (.int c)] H4 (.int ((i : Nat) : Int)) := fun {H4} =>
        ev_is (ev_op (ev_var rfl) ev_c (rv_I (by show (0 : Int) < 64; decide))) (by show V.int ((i : Int) % 64) = _; rw [Int.emod_eq_of_lt (by omega) (by omega)])
      refine ⟨T, _, rfl, st_of upd_same, rfl, _, _, rfl, _, _, rfl, rfl, ?_⟩
      refine s_setL (xs := xs.map V.int) (j := i) (v := .int ((x0 * 48271 + c) % 2147483647)) hp3 (ev_op (ev_op (ev_op (ix hp3 rfl hm hx0) ev_c (rv_I (.inr ⟨by decide, by decide⟩))) (ev_var rfl) rv_I0) ev_c (rv_I (by show (0 : Int) < 2147483647; decide))) (ev_var rfl) hm (by rw [List.length_map]; omega) fun H4 e4 => ?_
      have e5 := keep (H2 := H4) (xs := xs) (j := i) (y := (x0 * 48271 + c) % 2147483647) (e3.trans e4) lx bx ⟨by omega, by omega⟩
      exact ⟨e5.1, e5.2, _, _, rfl⟩
    · rintro σ H2 ⟨e2, f2, v1, v3, rfl⟩
      refine q_forR2 (lo := 1) (n := 64) (ea_cons ev_c (ea_cons ev_c ea_nil)) (by decide) (fun i σ H3 => Ex H H3 ∧ FoldAt H3 p ∧ ∃ v1 v3, σ = [some (.ref a), v1, some (.ref p), v3]) (fun H3 e3 => ⟨e2.trans e3, ?_, _, _, rfl⟩) ?_ ?_
      · obtain ⟨xs, lx, bx, hx⟩ := f2
        exact ⟨xs, lx, bx, e3 _ _ hx⟩
      · rintro i σ H3 hi ⟨e3, ⟨xs, lx, bx, hx⟩, v1, v3, rfl⟩
        obtain ⟨x1, hx1⟩ := fold_at lx (j := i + 1) (by omega)
        obtain ⟨x0, hx0⟩ := fold_at lx (j := i) (by omega)
        have ei : (1 : Int) + (i : Int) = ((i + 1 : Nat) : Int) := by omega
        show tAsg _ _ _ [some (.ref a), some (.int ((1 : Int) + (i : Int))), some (.ref p), v3] H3
        rw [ei]
        refine s_setL (xs := xs.map V.int) (j := i + 1) (v := .int ((x1 + x0 * 16807) % 2147483647)) hx (ev_op (ev_op (ix hx rfl (ev_var rfl) hx1) (ev_op (ix hx rfl (ev_is (ev_op (ev_var rfl) ev_c rv_I0) (by show V.int (((i + 1 : Nat) : Int) - 1) = _; congr 1; omega)) hx0) ev_c (rv_I (.inr ⟨by decide, by decide⟩))) rv_I0) ev_c (rv_I (by show (0 : Int) < 2147483647; decide))) (ev_var rfl) (ev_var rfl) (by rw [List.length_map]; omega) fun H4 e4 => ?_
        have e5 := keep (H2 := H4) (xs := xs) (j := i + 1) (y := (x1 + x0 * 16807) % 2147483647) (e3.trans e4) lx bx ⟨by omega, by omega⟩
        exact ⟨e5.1, e5.2, _, _, rfl⟩
      · rintro σ H3 ⟨e3, f3, v1, v3, rfl⟩
        exact s_ret (ev_var rfl) fun H4 e4 => k p H4 hp (e3.trans e4) (by
          obtain ⟨xs, lx, bx, hx⟩ := f3
          exact ⟨xs, lx, bx, e4 _ _ hx⟩)
/-! ### the dict m of the law -/
theorem ev_dget {σ : L2.St} {H : Hp} {td ty : TE} {d : Addr} {k : L2.Key} {kvs : List (L2.Key × V)} {v : V} (ha : Ev td σ H (.ref d)) (hk : Ev ty σ H (kV k)) (hd : H d = some (.dK kvs)) (hv : valV kvs k = some v) : Ev (tDGet td ty) σ H v := fun H1 e Q q =>
  ha H1 e _ fun H2 e2 => hk H2 (e.trans e2) _ fun H3 e3 => ⟨d, v, rfl, by
    have := DGet.k (k := k) (((e.trans e2).trans e3) d _ hd)
    rw [hv] at this
    exact this, q H3 (e2.trans e3)⟩
theorem rv_eqE {H : Hp} {neg : Bool} {p q : Addr} {xs : List V} (hx : SqL K H p xs) (hy : SqL K H q []) : RV (rEqE K neg) (.ref p) (.ref q) H (.bl (if neg then !xs.isEmpty else xs.isEmpty)) := fun H1 e _ k =>
  ⟨p, q, xs, rfl, rfl, ex_l e hx, ex_l e hy, k H1 (Ex.refl H1)⟩
def mK (c g : Addr) (sp : Int) : List (L2.Key × V) := [(.inr "cells", .ref c), (.inr "great", .ref g), (.inr "spot", .int sp)]
structure MAt (H : Hp) (d c g : Addr) (sp : Int) : Prop where
  ob : H d = some (.dK (mK c g sp))
  cells : FoldAt H c
  great : ∃ ys : List Int, ys.length ≤ 63 ∧ H g = some (.lst (ys.map V.int))
  ne : c ≠ g
theorem mK_cells {c g : Addr} {sp : Int} : valV (mK c g sp) (.inr "cells") = some (.ref c) := valV_pos rfl
theorem mK_great {c g : Addr} {sp : Int} : valV (mK c g sp) (.inr "great") = some (.ref g) := (valV_neg (by show ¬ (Sum.inr ("cells" : Str) : L2.Key) = Sum.inr ("great" : Str); decide +kernel)).trans (valV_pos rfl)
theorem mK_spot {c g : Addr} {sp : Int} : valV (mK c g sp) (.inr "spot") = some (.int sp) := (valV_neg (by show ¬ (Sum.inr ("cells" : Str) : L2.Key) = Sum.inr ("spot" : Str); decide +kernel)).trans ((valV_neg (by show ¬ (Sum.inr ("great" : Str) : L2.Key) = Sum.inr ("spot" : Str); decide +kernel)).trans (valV_pos rfl))
theorem kne1 : ¬ (Sum.inr ("cells" : Str) : L2.Key) = Sum.inr ("spot" : Str) := by decide +kernel
theorem kne2 : ¬ (Sum.inr ("great" : Str) : L2.Key) = Sum.inr ("spot" : Str) := by decide +kernel
theorem kne3 : ¬ (Sum.inr ("cells" : Str) : L2.Key) = Sum.inr ("great" : Str) := by decide +kernel
theorem kne4 : ¬ (Sum.inr ("spot" : Str) : L2.Key) = Sum.inr ("great" : Str) := by decide +kernel
theorem mK_put {c g : Addr} {sp y : Int} : putK (mK c g sp) (.inr "spot") (.int y) = mK c g y := by
  unfold putK mK
  rw [if_pos (by simp)]
  simp only [List.map_cons, List.map_nil, kne1, kne2, if_false, if_true]
theorem mK_putG {c g g' : Addr} {sp : Int} : putK (mK c g sp) (.inr "great") (.ref g') = mK c g' sp := by
  unfold putK mK
  rw [if_pos (by simp)]
  simp only [List.map_cons, List.map_nil, kne3, kne4, if_false, if_true]
theorem mK_merge {c g : Addr} {sp : Int} : mergeK [] (mK c g sp) = mK c g sp := by
  have s1 : ¬ ("cells" : Str) = "great" := by decide +kernel
  have s2 : ¬ ("cells" : Str) = "spot" := by decide +kernel
  have s3 : ¬ ("great" : Str) = "spot" := by decide +kernel
  unfold mK mergeK
  simp [putK, s1, s2, s3]
/-- what evaluates to something of which P holds -/
def EvP (te : TE) (σ : L2.St) (H : Hp) (p : V → Prop) : Prop := ∀ H1, Ex H H1 → ∀ Q : VK, (∀ v H2, p v → Ex H1 H2 → Q v H2) → te σ H1 Q
def IsI (v : V) : Prop := ∃ i : Int, v = .int i
theorem ep_of {te : TE} {σ : L2.St} {H : Hp} {v : V} {p : V → Prop} (h : Ev te σ H v) (hp : p v) : EvP te σ H p := fun H1 e Q q => h H1 e Q fun H2 e2 => q v H2 hp e2
theorem ep_mixed {ta tb : TE} {σ : L2.St} {H : Hp} {n : Int} (ha : EvP ta σ H IsI) (hb : Ev tb σ H (.int n)) (h0 : 0 ≤ n) (h1 : n < 1000000) : EvP (tCall spMixed [] E0 (tCons ta (tCons tb tNil))) σ H IsI := fun H1 e Q q =>
  ha H1 e _ fun v H2 ⟨i, ei⟩ e2 => hb H2 (e.trans e2) _ fun H3 e3 => ⟨i, n, by rw [ei] <;> rfl, h0, h1, fun r _ _ => q (.int r) H3 ⟨r, rfl⟩ (e2.trans e3)⟩
def spDraw : Sp := fun vs H Q _ => ∃ (d c g : Addr) (sp top : Int), vs = [.ref d, .int top] ∧ MAt H d c g sp ∧ 0 ≤ sp ∧ sp < 500000 ∧ 0 < top ∧ top < 1000000 ∧
  ∀ (r : Int) (H' : Hp), 0 ≤ r → r < top → MAt H' d c g (sp + 1) → (∀ b o, H b = some o → b ≠ d → b ≠ g → H' b = some o) → Q (.int r) H'
theorem can_draw (T : Txt K mg) : Can P w K mg base CX0 2 "_law_draw" ["m", "top"] spDraw := by
  have CM : Can P w K mg base CX0 1 "_law_mixed" ["cell", "n"] spMixed := can_mixed T
  refine can_of T.g__law_draw T.F__law_draw (fun fd F => ?_) (fun _ _ _ _ _ _ us hl => match us, hl with | [_, _], _ => rfl)
  refine F.ok sc__law_draw (fun vs H Q E h => ?_) (fun cdv A outer s H vs Q E hr h => ?_)
  · obtain ⟨d, c, g, sp, top, rfl, _⟩ := h
    rfl
  · obtain ⟨d, c, g, sp, top, rfl, M, h0, h1, t0, t1, k⟩ := h
    have nd := sc__law_draw.nd
    have hu := hu_of hr
    refine ⟨_, pss_cons (ps_set (i := 2) nd rfl (.inl rfl) (pe_dget hu (pv 0) pe_str (fun _ _ => rfl)))
      (pss_cons (ps_dput hu (pv 0) pe_str (pe_op op_add (pv 2) pe_int) rfl)
      (pss_cons (ps_if (pt_cmpR (op_ne_nil hr) (pe_dget hu (pv 0) pe_str (fun _ _ => rfl)) (pe_lst pa_nil) (nomark _))
        (pss_cons (ps_set (i := 3) nd rfl (.inl rfl) (pe_op op_mod (pv 2) (pe_callB call_len_seq (by rfl) T.n_len PySem.boot_len (pa_cons (pe_dget hu (pv 0) pe_str (fun _ _ => rfl)) pa_nil))))
        (pss_cons (ps_set (i := 4) nd rfl (.inl rfl) (pe_ix ix_list (pe_dget hu (pv 0) pe_str (fun _ _ => rfl)) (pv 3) (fun _ _ => rfl)))
        (pss_one (ps_if (pt_cmpR op_gt (pv 4) pe_int (nomark _))
          (pss_cons (ps_asg (pe_op op_fdiv (pv 4) (pv 1)) (pg_sub (pe_dget hu (pv 0) pe_str (fun _ _ => rfl)) (pv 3) set_list))
          (pss_one (ps_ret (pe_op op_mod (pv 4) (pv 1))))) pss_nil)))) pss_nil)
      (pss_one (ps_ret (pe_op op_mod (pe_can CM hr pass0 (pa_cons (pe_can CM hr pass0 (pa_cons (pe_op op_add (pe_ix ix_list (pe_dget hu (pv 0) pe_str (fun _ _ => rfl)) (pe_op op_mod (pv 2) pe_int) (fun _ _ => rfl)) (pe_op op_mul pe_int (pe_op op_fdiv (pv 2) pe_int))) (pa_cons (pv 2) pa_nil))) (pa_cons (pe_op op_add (pv 2) pe_int) pa_nil))) (pv 1)))))), ?_⟩
    refine q_asg (ev_dget (k := .inr "spot") (ev_var rfl) ev_c M.ob mK_spot) fun H1 e1 => ?_
    have hd1 : H1 d = some (.dK (mK c g sp)) := e1 _ _ M.ob
    refine ⟨_, rfl, _, _, rfl, rfl, _, rfl, d, _, rfl, DPut.k (k := .inr "spot") hd1 (by show 3 < sizeLine; decide), ?_⟩
    rw [mK_put]
    have cg := M.ne
    obtain ⟨cs, lc, bc, hc⟩ := M.cells
    obtain ⟨ys, ly, hg⟩ := M.great
    have dc : c ≠ d := ne_of hc M.ob (by intro z; cases z)
    have dg : g ≠ d := ne_of hg M.ob (by intro z; cases z)
    generalize hH2 : upd H1 d (.dK (mK c g (sp + 1))) = H2
    have hd2 : H2 d = some (.dK (mK c g (sp + 1))) := by rw [← hH2, upd_same]
    have hc2 : H2 c = some (.lst (cs.map V.int)) := by rw [← hH2, upd_ne dc]; exact e1 _ _ hc
    have hg2 : H2 g = some (.lst (ys.map V.int)) := by rw [← hH2, upd_ne dg]; exact e1 _ _ hg
    have fr2 : ∀ b o, H b = some o → b ≠ d → H2 b = some o := fun b o e hb => by rw [← hH2, upd_ne hb]; exact e1 _ _ e
    have M2 : MAt H2 d c g (sp + 1) := ⟨hd2, ⟨cs, lc, bc, hc2⟩, ⟨ys, ly, hg2⟩, cg⟩
    have gg : ∀ {H3 : Hp} {σ : L2.St}, Ex H2 H3 → σ[0]? = some (some (.ref d)) → Ev (tDGet (tVar 0) (tC (.str "great"))) σ H3 (.ref g) := fun e hv => ev_dget (k := .inr "great") (ev_var hv) ev_c (e _ _ hd2) mK_great
    -- the end: drawn from the cells
    have last : ∀ (σ : L2.St) (H3 : Hp) (D : Ends), Ex H2 H3 → σ[0]? = some (some (.ref d)) → σ[1]? = some (some (.int top)) → σ[2]? = some (some (.int sp)) → D.rt = Q →
        tRet (tOp (rI (fun _ j => 0 < j) fun i j => .int (i % j)) (tCall spMixed [] E0 (tCons (tCall spMixed [] E0 (tCons (tOp (rI0 fun i j => .int (i + j)) (tOp (rIxL K) (tDGet (tVar 0) (tC (.str "cells"))) (tOp (rI (fun _ j => 0 < j) fun i j => .int (i % j)) (tVar 2) (tC (.int 64)))) (tOp (rI CMul fun i j => .int (i * j)) (tC (.int 31)) (tOp (rI CDiv fun i j => .int (i / j)) (tVar 2) (tC (.int 64))))) (tCons (tVar 2) tNil))) (tCons (tOp (rI0 fun i j => .int (i + j)) (tVar 2) (tC (.int 7))) tNil))) (tVar 1)) D σ H3 := fun σ H3 D e3 v0 v1 v2 eD => by
      obtain ⟨j, ej⟩ : ∃ j : Nat, sp % 64 = (j : Int) := ⟨(sp % 64).toNat, by omega⟩
      obtain ⟨x0, hx0⟩ := fold_at lc (j := j) (by omega)
      have hcell : Ev (tOp (rI0 fun i j => .int (i + j)) (tOp (rIxL K) (tDGet (tVar 0) (tC (.str "cells"))) (tOp (rI (fun _ j => 0 < j) fun i j => .int (i % j)) (tVar 2) (tC (.int 64)))) (tOp (rI CMul fun i j => .int (i * j)) (tC (.int 31)) (tOp (rI CDiv fun i j => .int (i / j)) (tVar 2) (tC (.int 64))))) σ H3 (.int (x0 + 31 * (sp / 64))) :=
        ev_op (ev_op (ev_dget (k := .inr "cells") (ev_var v0) ev_c (e3 _ _ hd2) mK_cells) (ev_op (ev_var v2) ev_c (rv_I (by show (0 : Int) < 64; decide))) (rv_ixL (sq_of (e3 _ _ hc2)) (at_of ej (map_at hx0)))) (ev_op ev_c (ev_op (ev_var v2) ev_c (rv_I ⟨by decide, by decide⟩)) (rv_I (.inl ⟨by decide, by decide⟩))) rv_I0
      refine ep_mixed (ep_mixed (ep_of hcell ⟨_, rfl⟩) (ev_var v2) h0 (by omega)) (ev_op (ev_var v2) ev_c rv_I0) (by omega) (by omega) H3 (Ex.refl H3) _ fun v H4 ⟨r2, er⟩ e4 => ?_
      refine ⟨_, v1, r2, top, er, rfl, t0, ?_⟩
      have e5 := e3.trans e4
      show D.rt _ _
      rw [eD]
      refine k _ _ (Int.emod_nonneg _ (by omega)) (Int.emod_lt_of_pos _ t0) ⟨e5 _ _ hd2, ⟨cs, lc, bc, e5 _ _ hc2⟩, ⟨ys, ly, e5 _ _ hg2⟩, cg⟩ fun b o e hb _ => e5 _ _ (fr2 b o e hb)
    refine q_if (et_test (ev_opL (gg (Ex.refl _) rfl) (el_lst ea_nil (by decide)) fun p H3 hp e3 => rv_eqE (sq_of (e3 _ _ hg2)) (sq_of hp))) (fun hb H3 e3 => ?_) (fun hb H3 e3 => last _ H3 _ e3 rfl rfl rfl rfl)
    have hpos : 0 < ys.length := by
      cases ys with
      | nil => cases hb
      | cons a r => exact Nat.succ_pos _
    obtain ⟨j, ej⟩ : ∃ j : Nat, sp % (ys.length : Int) = (j : Int) := ⟨(sp % (ys.length : Int)).toNat, by have := Int.emod_nonneg sp (b := (ys.length : Int)) (by omega); omega⟩
    have hj : j < ys.length := by
      have := Int.emod_lt_of_pos sp (b := (ys.length : Int)) (by omega)
      omega
    obtain ⟨x0, hx0⟩ : ∃ x, ys[j]? = some x := ⟨ys[j], List.getElem?_eq_getElem hj⟩
    refine q_asg (v := .int (j : Int)) ?_ fun H4 e4 => ?_
    · refine ev_is (ev_op (ev_var rfl) (ev_cb (z := .int (ys.length : Int)) (ea_cons (gg e3 rfl) ea_nil) ?_) (rv_I (by show (0 : Int) < _; omega))) (by show V.int (sp % (ys.length : Int)) = _; rw [ej])
      exact fun H5 e5 Q q => ⟨g, _, rfl, .inl (ex_l e5 (sq_of (e3 _ _ hg2))), by rw [List.length_map]; exact q H5 (Ex.refl H5)⟩
    have e24 := e3.trans e4
    refine q_asg (v := .int x0) (ev_op (gg e24 rfl) (ev_var rfl) (rv_ixL (sq_of (e24 _ _ hg2)) (at_of rfl (map_at hx0)))) fun H5 e5 => ?_
    have e25 := e24.trans e5
    refine s_if (et_test (ev_op (ev_var rfl) ev_c rv_I0)) (fun hb H6 e6 => ?_) (fun hb H6 e6 => ?_)
    · have e26 := e25.trans e6
      refine q_setL (xs := ys.map V.int) (j := j) (v := .int (x0 / top)) (e26 _ _ hg2) (ev_op (ev_var rfl) (ev_var rfl) (rv_I ⟨t0, by omega⟩)) (gg e26 rfl) (ev_var rfl) (by rw [List.length_map]; exact hj) fun H7 e7 => ?_
      have e27 := e26.trans e7
      refine s_ret (ev_op (ev_var rfl) (ev_var rfl) (rv_I t0)) fun H8 e8 => ?_
      refine k _ _ (Int.emod_nonneg _ (by omega)) (Int.emod_lt_of_pos _ t0) ⟨e8 _ _ (by rw [upd_ne (Ne.symm dg)]; exact e27 _ _ hd2), ⟨cs, lc, bc, e8 _ _ (by rw [upd_ne cg]; exact e27 _ _ hc2)⟩, ⟨ys.set j (x0 / top), by rw [List.length_set]; exact ly, e8 _ _ (by rw [upd_same, List.map_set])⟩, cg⟩ fun b o e hb hg => e8 _ _ (by rw [upd_ne hg]; exact e27 _ _ (fr2 b o e hb))
    · exact last _ H6 _ (e25.trans e6) rfl rfl rfl rfl
theorem q_dputL {σ : L2.St} {H : Hp} {te td ty : TE} {tz : TS} {D : Ends} {xs : List V} (h : EvL te σ H xs) (k : ∀ p H1, H p = none → Ex H H1 → H1 p = some (.lst xs) → td σ H1 fun x H2 => ty σ H2 fun y H3 => ∃ a H4, x = .ref a ∧ DPut H3 a y (.ref p) H4 ∧ tz D σ H4) :
    tSeq (sDPut td ty te) tz D σ H := h H (Ex.refl H) _ k
theorem given_all {n : Nat} {v : Nat → V} : given n (fun _ => true) v = (List.range n).map v := by
  unfold given
  rw [List.filter_eq_self.mpr fun _ _ => rfl]
def spBegun (K : PySem.W.Frag) : Sp := fun vs H Q _ => ∃ (a : Addr) (ns : List Int), vs = [.ref a] ∧ SqL K H a (ns.map V.int) ∧ ns.length ≤ 63 ∧
  ∀ (d c g : Addr) (H' : Hp), H d = none → H c = none → H g = none → Ex H H' → MAt H' d c g 0 → Q (.ref d) H'
theorem can_begun (T : Txt K mg) : Can P w K mg base CX0 2 "_law_begun" ["script"] (spBegun K) := by
  have CF : Can P w K mg base CX0 1 "_law_folded" ["script"] (spFolded K) := can_folded T
  refine can_of T.g__law_begun T.F__law_begun (fun fd F => ?_) (fun _ _ _ _ _ _ us hl => match us, hl with | [_], _ => rfl)
  refine F.ok sc__law_begun (fun vs H Q E h => ?_) (fun cdv A outer s H vs Q E hr h => ?_)
  · obtain ⟨a, ns, rfl, _⟩ := h
    rfl
  · obtain ⟨a, ns, rfl, hS, hlen, k⟩ := h
    have nd := sc__law_begun.nd
    have hu := hu_of hr
    refine ⟨_, pss_cons (ps_set (i := 1) nd rfl (.inl rfl) (pe_disp (pps_cons pe_str (pe_can CF hr pass0 (pa_cons (pv 0) pa_nil)) (pps_cons pe_str (pe_lst pa_nil) (pps_cons pe_str pe_int pps_nil))) (by rfl) (by rfl) (fun z => by cases z) (by decide)))
      (pss_cons (ps_dput hu (pv 1) pe_str (pe_lc (own := [("cell", 2)]) (g := gName 2) (tt := tYes) rfl nd (pi_list (pv 0)) (blkOk_by (N := ["script", "m", "cell"]) (sc := defScope s__law_begun) (by decide +kernel)) (fun _ _ _ _ _ => pg_name (i := 2) nd rfl (.inl rfl)) (fun _ _ _ _ _ => pts_nil)
        (fun _ _ _ _ _ => pe_ifExp (pt_cmpR op_ge (pv 2) (pe_op op_pow pe_int pe_int) (nomark _)) (pv 2) pe_int)) rfl)
      (pss_one (ps_ret (pv 1)))), ?_⟩
    intro d hd
    refine ⟨_, rfl, a, ns, rfl, ex_l (Ex.new hd) hS, hlen, fun c H1 hc e1 f1 => ?_⟩
    refine ⟨by decide, fun g hg => ?_⟩
    have hd1 : H1 d = some (.dK []) := e1 _ _ upd_same
    have e0 : Ex H H1 := (Ex.new hd).trans e1
    have dg : d ≠ g := ne_of_none hd1 hg
    refine ⟨by rw [upd_ne dg]; exact hd1, mK c g 0, rfl, (by show 3 ≤ 15; decide), ?_⟩
    rw [mK_merge]
    have cd : c ≠ d := fun q => by
      rw [q, upd_same] at hc
      cases hc
    have cH : H c = none := by
      rw [upd_ne cd] at hc
      exact hc
    obtain ⟨cs, lc, bc, hcs⟩ := f1
    have cg : c ≠ g := ne_of_none hcs hg
    generalize hH2 : upd (upd H1 g (.lst [])) d (.dK (mK c g 0)) = H2
    have e2 : Ex H H2 := by
      rw [← hH2]
      exact Ex.mut (e0.trans (Ex.new hg)) hd
    have hd2 : H2 d = some (.dK (mK c g 0)) := by rw [← hH2, upd_same]
    have hc2 : H2 c = some (.lst (cs.map V.int)) := by rw [← hH2, upd_ne cd, upd_ne cg]; exact hcs
    -- m['great'] = [..]
    refine q_dputL (el_lcL (xs := ns.map V.int) (fun _ => true) (fun i => .int (((ns.map fun c => if (10 ^ 18 : Int) ≤ c then c else 0)[i]?).getD 0)) (ev_var rfl) (ex_l e2 hS) (by rw [List.length_map]; omega) (fun x => ?_) (fun i x H3 _ _ => ?_) (fun i x H3 e3 hx _ => ?_)) fun g2 H3 hg2 e3 hq => ?_
    · rfl
    · exact fun H4 _ Q q => q H4 (Ex.refl H4)
    · obtain ⟨z, hz, rfl⟩ : ∃ z, ns[i]? = some z ∧ V.int z = x := by
        rw [List.getElem?_map] at hx
        cases e : ns[i]? with
        | none => rw [e] at hx; cases hx
        | some c => rw [e] at hx; exact ⟨c, rfl, Option.some.inj hx⟩
      have ez : ((ns.map fun c => if (10 ^ 18 : Int) ≤ c then c else 0)[i]?).getD 0 = if (10 ^ 18 : Int) ≤ z then z else 0 := by
        rw [List.getElem?_map, hz]
        rfl
      rw [ez]
      refine ev_if (b := decide ((10 : Int) ^ (18 : Int).toNat ≤ z)) (et_test (ev_op (ev_var rfl) (ev_op ev_c ev_c (rv_I ⟨by decide, by decide, by decide⟩)) rv_I0)) (fun hb => ?_) (fun hb => ?_)
      · have hb : (10 : Int) ^ 18 ≤ z := of_decide_eq_true hb
        rw [if_pos hb]
        exact ev_var rfl
      · have hb : ¬ (10 : Int) ^ 18 ≤ z := of_decide_eq_false hb
        rw [if_neg hb]
        exact ev_c
    rw [given_all] at hq
    refine ⟨_, rfl, d, _, rfl, DPut.k (k := .inr "great") (e3 _ _ hd2) (by show 3 < sizeLine; decide), ?_⟩
    rw [mK_putG]
    have gc2 : c ≠ g2 := ne_of_none hc2 hg2
    have gd2 : d ≠ g2 := ne_of_none hd2 hg2
    refine ⟨_, rfl, ?_⟩
    refine k d c g2 _ hd cH (fresh_back e2 hg2) (Ex.mut (e2.trans e3) hd) ⟨upd_same, ⟨cs, lc, bc, by rw [upd_ne cd]; exact e3 _ _ hc2⟩, ⟨(List.range ns.length).map fun i => (((ns.map fun c => if (10 ^ 18 : Int) ≤ c then c else 0)[i]?).getD 0), by rw [List.length_map, List.length_range]; exact hlen, ?_⟩, gc2⟩
    rw [upd_ne gd2.symm, hq, List.map_map, List.length_map]
    rfl
theorem erase_permQ {α : Type} : ∀ (l : List α) (i : Nat) (y : α), l[i]? = some y → (y :: l.eraseIdx i).Perm l
  | [], i, y, h => by simp at h
  | a :: r, 0, y, h => by
    obtain rfl : a = y := by simpa using h
    exact List.Perm.refl _
  | a :: r, i + 1, y, h => by
    have h' : r[i]? = some y := by simpa using h
    exact (List.Perm.swap a y _).trans ((erase_permQ r i y h').cons a)
def spUp (K : PySem.W.Frag) : Sp := fun vs H Q _ => ∃ (d c g t : Addr) (sp : Int) (xs : List V), vs = [.ref d, .ref t] ∧ MAt H d c g sp ∧ 0 ≤ sp ∧ sp < 400000 ∧ SqL K H t xs ∧ xs.length ≤ 100 ∧
  ∀ (p : Addr) (ys : List V) (H' : Hp), ys.Perm xs → H p = none → MAt H' d c g (sp + xs.length) → H' p = some (.lst ys) → (∀ b o, H b = some o → b ≠ d → b ≠ g → H' b = some o) → Q (.ref p) H'
theorem can_up (T : Txt K mg) : Can P w K mg base CX0 3 "_law_mixed_up" ["m", "things"] (spUp K) := by
  have CD : Can P w K mg base CX0 2 "_law_draw" ["m", "top"] spDraw := can_draw T
  refine can_of T.g__law_mixed_up T.F__law_mixed_up (fun fd F => ?_) (fun _ _ _ _ _ _ us hl => match us, hl with | [_, _], _ => rfl)
  refine F.ok sc__law_mixed_up (fun vs H Q E h => ?_) (fun cdv A outer s H vs Q E hr h => ?_)
  · obtain ⟨d, c, g, t, sp, xs, rfl, _⟩ := h
    rfl
  · obtain ⟨d, c, g, t, sp, xs, rfl, M, h0, h1, hS, hlen, k⟩ := h
    have nd := sc__law_mixed_up.nd
    refine ⟨_, pss_cons (ps_par (i := 2) (j := 3) (by rfl) nd rfl rfl (by decide) rfl rfl (pa_cons (pe_callTy call_list_of (by rfl) T.n_list (by decide +kernel) (pa_cons (pv 1) pa_nil)) (pa_cons (pe_lst pa_nil) pa_nil)) (by rfl))
      (pss_cons (ps_for PassesOwn.never rfl (pi_range1 rfl T.n_range (pa_cons (pe_callB call_len_seq (by rfl) T.n_len PySem.boot_len (pa_cons (pv 2) pa_nil)) pa_nil)) (pg_name (i := 4) nd rfl (.inl rfl))
        (pss_one (ps_expr (pe_bm PySem.F.plainAttrs_list PySem.F.slot_list_append PySem.F.type_list_append mt_append (pv 3) (pa_cons (pe_bm PySem.F.plainAttrs_list PySem.F.slot_list_pop PySem.F.type_list_pop mt_popAt (pv 2)
          (pa_cons (pe_can CD hr pass0 (pa_cons (pv 0) (pa_cons (pe_callB call_len_seq (by rfl) T.n_len PySem.boot_len (pa_cons (pv 2) pa_nil)) pa_nil))) pa_nil)) pa_nil)))))
      (pss_one (ps_ret (pv 3)))), ?_⟩
    refine ⟨_, rfl, t, xs, rfl, .inl hS, fun a ha => ⟨by decide, fun f hf => ⟨_, _, rfl, ?_⟩⟩⟩
    obtain ⟨hd, hc, hg, hcg⟩ := id M
    have af : a ≠ f := fun q => by
      rw [← q, upd_same] at hf
      cases hf
    have hf' : H f = none := by
      rw [upd_ne (Ne.symm af)] at hf
      exact hf
    obtain ⟨cs, lc, bc, hcs⟩ := hc
    obtain ⟨ys, ly, hys⟩ := hg
    have na : d ≠ a := ne_of_none hd ha
    have nf : d ≠ f := ne_of_none hd hf'
    have ca : c ≠ a := ne_of_none hcs ha
    have cf : c ≠ f := ne_of_none hcs hf'
    have ga' : g ≠ a := ne_of_none hys ha
    have gf : g ≠ f := ne_of_none hys hf'
    have M1 : MAt (upd (upd H a (.lst xs)) f (.lst [])) d c g sp := ⟨by rw [upd_ne nf, upd_ne na]; exact hd, ⟨cs, lc, bc, by rw [upd_ne cf, upd_ne ca]; exact hcs⟩, ⟨ys, ly, by rw [upd_ne gf, upd_ne ga']; exact hys⟩, hcg⟩
    refine q_forR1 (n := (xs.length : Int)) (ea_cons (ev_len (ev_var rfl) (sq_of (by rw [upd_ne af, upd_same]))) ea_nil) ⟨by omega, by omega⟩
      (fun i σ H2 => ∃ (st fo : List V) (v : Option V), σ = [some (.ref d), some (.ref t), some (.ref a), some (.ref f), v] ∧ (fo ++ st).Perm xs ∧ st.length + i = xs.length ∧ H2 a = some (.lst st) ∧ H2 f = some (.lst fo) ∧ MAt H2 d c g (sp + (i : Int)) ∧ (∀ b o, H b = some o → b ≠ d → b ≠ g → H2 b = some o)) ?_ ?_ ?_
    · intro H1 e1
      refine ⟨xs, [], none, rfl, by simp, by simp, e1 _ _ (by rw [upd_ne af, upd_same]), e1 _ _ upd_same, ?_, fun b o e hb _ => e1 _ _ (by rw [upd_ne (ne_of_none e hf'), upd_ne (ne_of_none e ha)]; exact e)⟩
      obtain ⟨q1, ⟨cs1, l1, b1, q2⟩, ⟨y1, l2, q3⟩, q4⟩ := M1
      rw [show sp + ((0 : Nat) : Int) = sp by omega]
      exact ⟨e1 _ _ q1, ⟨cs1, l1, b1, e1 _ _ q2⟩, ⟨y1, l2, e1 _ _ q3⟩, q4⟩
    · rintro i σ H2 hi ⟨st, fo, v, rfl, hp, hl, h2a, h2f, M2, fr⟩
      have lfo : fo.length ≤ 100 := by
        have := hp.length_eq
        rw [List.length_append] at this
        omega
      refine ⟨_, rfl, .inl ⟨rfl, _, sq_of h2f⟩, _, rfl, .inl ⟨rfl, _, sq_of h2a⟩, _, rfl, _, rfl, a, st, rfl, .inl (sq_of h2a), ?_⟩
      refine ⟨d, c, g, sp + (i : Int), (st.length : Int), rfl, M2, by omega, by omega, by omega, by omega, fun r H3 hr0 hr1 M3 fr3 => ?_⟩
      have h3a : H3 a = some (.lst st) := fr3 _ _ h2a na.symm ga'.symm
      have h3f : H3 f = some (.lst fo) := fr3 _ _ h2f nf.symm gf.symm
      obtain ⟨j, rfl⟩ : ∃ j : Nat, r = (j : Int) := ⟨r.toNat, by omega⟩
      have hj : j < st.length := by omega
      refine ⟨a, st, (j : Int), j, st[j], rfl, rfl, h3a, by omega, by omega, ?_, List.getElem?_eq_getElem hj, ?_⟩
      · have := PySem.StrLaws.seqIndex_nonneg (i := (j : Int)) (n := st.length) (by omega) (by omega)
        rw [this]
        rfl
      refine ⟨f, fo, _, rfl, rfl, by rw [upd_ne (Ne.symm af)]; exact h3f, sz_lt (by omega), st.eraseIdx j, fo ++ [st[j]], _, rfl, ?_, ?_, by rw [upd_ne af, upd_same], upd_same, ?_, ?_⟩
      · refine List.Perm.trans ?_ hp
        rw [List.append_assoc]
        exact List.Perm.append_left fo (erase_permQ st j _ (List.getElem?_eq_getElem hj))
      · rw [List.length_eraseIdx_of_lt hj]
        omega
      · obtain ⟨q1, ⟨cs1, l1, b1, q2⟩, ⟨y1, l2, q3⟩, q4⟩ := M3
        rw [show sp + ((i + 1 : Nat) : Int) = sp + (i : Int) + 1 by omega]
        exact ⟨by rw [upd_ne nf, upd_ne na]; exact q1, ⟨cs1, l1, b1, by rw [upd_ne cf, upd_ne ca]; exact q2⟩, ⟨y1, l2, by rw [upd_ne gf, upd_ne ga']; exact q3⟩, q4⟩
      · intro b o e hb hg'
        rw [upd_ne (ne_of_none e hf'), upd_ne (ne_of_none e ha)]
        exact fr3 _ _ (fr _ _ e hb hg') hb hg'
    · rintro σ H2 ⟨st, fo, v, rfl, hp, hl, h2a, h2f, M2, fr⟩
      have e0 : st = [] := by
        have : st.length = 0 := by
          have e := Int.toNat_natCast xs.length
          omega
        exact List.length_eq_zero_iff.mp this
      subst e0
      rw [List.append_nil] at hp
      refine ⟨_, rfl, ?_⟩
      exact k f fo H2 hp hf' (by
        have e := Int.toNat_natCast xs.length
        rw [e] at M2
        exact M2) h2f fr
end
end K52
end

section
set_option Elab.async false
set_option linter.all false
set_option maxRecDepth 100000
set_option maxHeartbeats 4000000
namespace K52
open PySem PySem.Spec PyProof.Rows L2 He Cn Evl
/-! ### kinds and rows in the heap -/
def KO (C : Addr) (H : Hp) (a : Addr) : Prop := ∃ dx fs, H a = some (.ins C dx fs)
theorem KO.ex {C : Addr} {H H' : Hp} {a : Addr} (e : Ex H H') (h : KO C H a) : KO C H' a := by
  obtain ⟨dx, fs, h⟩ := h
  exact ⟨dx, fs, e _ _ h⟩
theorem KO.id {C : Addr} {H : Hp} {a : Addr} (h : KO C H a) : IdV C H (.ref a) := by
  obtain ⟨dx, fs, h⟩ := h
  exact .inr ⟨a, dx, fs, rfl, h⟩
def refs (r : List Addr) : List V := r.map V.ref
theorem mem_refs {a : Addr} {r : List Addr} : V.ref a ∈ refs r ↔ a ∈ r := by
  unfold refs
  rw [List.mem_map]
  constructor
  · rintro ⟨b, h, e⟩
    injection e with e
    exact e ▸ h
  · intro h
    exact ⟨a, h, rfl⟩
theorem ids {C : Addr} {H : Hp} {r : List Addr} (h : ∀ a, a ∈ r → KO C H a) : ∀ z, z ∈ refs r → IdV C H z := fun z hz => by
  obtain ⟨b, hb, rfl⟩ := List.mem_map.mp hz
  exact (h b hb).id
/-- a list at p whose i-th item is a list (S := SqL K), a tuple (SqT K) of the i-th row's kinds -/
def Rw (K : PySem.W.Frag) (S : Hp → Addr → List V → Prop) (H : Hp) (p : Addr) (rows : List (List Addr)) : Prop :=
  ∃ ps : List Addr, SqL K H p (refs ps) ∧ ps.length = rows.length ∧ ∀ (i : Nat) (q : Addr) (r : List Addr), ps[i]? = some q → rows[i]? = some r → S H q (refs r)
def Ks (C : Addr) (H : Hp) (rows : List (List Addr)) : Prop := ∀ r, r ∈ rows → ∀ a, a ∈ r → KO C H a
theorem Ks.ex {C : Addr} {H H' : Hp} {rows : List (List Addr)} (e : Ex H H') (h : Ks C H rows) : Ks C H' rows := fun r hr a ha => (h r hr a ha).ex e
theorem Rw.exL {K : PySem.W.Frag} {H H' : Hp} {p : Addr} {rows : List (List Addr)} (e : Ex H H') (h : Rw K (SqL K) H p rows) : Rw K (SqL K) H' p rows := by
  obtain ⟨ps, h1, h2, h3⟩ := h
  exact ⟨ps, ex_l e h1, h2, fun i q r a b => ex_l e (h3 i q r a b)⟩
theorem Rw.exT {K : PySem.W.Frag} {H H' : Hp} {p : Addr} {rows : List (List Addr)} (e : Ex H H') (h : Rw K (SqT K) H p rows) : Rw K (SqT K) H' p rows := by
  obtain ⟨ps, h1, h2, h3⟩ := h
  exact ⟨ps, ex_l e h1, h2, fun i q r a b => ex_t e (h3 i q r a b)⟩
theorem refs_at {ps : List Addr} {i : Nat} {x : V} (h : (refs ps)[i]? = some x) : ∃ q, ps[i]? = some q ∧ x = .ref q := by
  unfold refs at h
  rw [List.getElem?_map] at h
  cases e : ps[i]? with
  | none => rw [e] at h; cases h
  | some q => rw [e] at h; exact ⟨q, rfl, (Option.some.inj h).symm⟩
theorem at_refs {ps : List Addr} {i : Nat} {q : Addr} (h : ps[i]? = some q) : (refs ps)[i]? = some (.ref q) := by
  unfold refs
  rw [List.getElem?_map, h]
  rfl
theorem at_some {α : Type} {l : List α} {i : Nat} (h : i < l.length) : ∃ x, l[i]? = some x := ⟨l[i], List.getElem?_eq_getElem h⟩
/-- what H' knows beyond H -/
def newp (H H' : Hp) : Hp := fun a => match H a with
  | none => H' a
  | some _ => none
theorem newp_at {H H' : Hp} {a : Addr} (h : H a = none) : newp H H' a = H' a := by
  unfold newp
  rw [h]
theorem newp_no {H H' : Hp} {a : Addr} {o : HO} (h : H a = some o) : newp H H' a = none := by
  unfold newp
  rw [h]
theorem newp_ex {H H' : Hp} : Ex (newp H H') H' := fun a o h => by
  cases e : H a with
  | none => rw [newp_at e] at h; exact h
  | some u => rw [newp_no e] at h; cases h
theorem newp_mono {H H1 H2 : Hp} (e : Ex H1 H2) : Ex (newp H H1) (newp H H2) := fun a o h => by
  cases q : H a with
  | none =>
    rw [newp_at q] at h ⊢
    exact e _ _ h
  | some u => rw [newp_no q] at h; cases h
def optR : Option Addr → V
  | none => .non
  | some a => .ref a
section
variable {P : Program} {w : World} {K : PySem.W.Frag} {mg : Str → Option Value} {base : Heap}
theorem rv_in_id {H : Hp} {neg : Bool} {a p : Addr} {r : List Addr} (hS : SqL K H p (refs r) ∨ SqT K H p (refs r)) (ha : KO (kC K) H a) (hr : ∀ b, b ∈ r → KO (kC K) H b) : RV (rInI K (kC K) neg) (.ref a) (.ref p) H (.bl (if neg then !decide (a ∈ r) else decide (a ∈ r))) := fun H1 e Q q => by
  refine ⟨p, refs r, rfl, hS.imp (ex_l e) (ex_t e), (ha.ex e).id, ids fun b hb => (hr b hb).ex e, ?_⟩
  have : decide (V.ref a ∈ refs r) = decide (a ∈ r) := by simp only [mem_refs]
  rw [this]
  exact q H1 (Ex.refl H1)
theorem rv_ne_id {H : Hp} {a b : Addr} (ha : KO (kC K) H a) (hb : KO (kC K) H b) : RV (rNeI (kC K)) (.ref a) (.ref b) H (.bl (!decide (a = b))) := fun H1 e Q q => by
  obtain ⟨dx, fs, h⟩ := ha.ex e
  refine ⟨⟨a, dx, fs, rfl, h⟩, (hb.ex e).id, ?_⟩
  have : decide (V.ref a = V.ref b) = decide (a = b) := by simp
  rw [this]
  exact q H1 (Ex.refl H1)
theorem rv_ne_idN {H : Hp} {a : Addr} (ha : KO (kC K) H a) : RV (rNeI (kC K)) (.ref a) .non H (.bl true) := fun H1 e Q q => by
  obtain ⟨dx, fs, h⟩ := ha.ex e
  exact ⟨⟨a, dx, fs, rfl, h⟩, .inl rfl, q H1 (Ex.refl H1)⟩
theorem et_isN {σ : L2.St} {H : Hp} {te : TE} {x : V} (h : Ev te σ H x) : EvT (tB (tIsN te)) σ H (decide (x = .non)) := fun H1 e Q q => h H1 e _ fun H2 e2 => ⟨_, rfl, q H2 e2⟩
theorem et_tru {σ : L2.St} {H : Hp} {te : TE} {x : V} {b : Bool} (h : Ev te σ H x) (ht : ∀ H1, Ex H H1 → TruV K x H1 b) : EvT (fun σ H Q => te σ H fun x H' => ∃ k, TruV K x H' k ∧ Q k H') σ H b := fun H1 e Q q => h H1 e _ fun H2 e2 => ⟨b, ht H2 (e.trans e2), q H2 e2⟩
/-! ### the head of the first row with a kind behind its head -/
def spHrw (K : PySem.W.Frag) : Sp := fun vs H Q _ => ∃ (k p : Addr) (rows : List (List Addr)), vs = [.ref k, .ref p] ∧ Rw K (SqL K) H p rows ∧ Mg.NoNil rows ∧ Ks (kC K) H rows ∧ KO (kC K) H k ∧
  ∀ H', Ex H H' → Q (optR (Mg.hrw k rows)) H'
theorem drop_at {α : Type} {l : List α} {i : Nat} {x : α} (h : l[i]? = some x) : l.drop i = x :: l.drop (i + 1) := by
  obtain ⟨h1, h2⟩ := List.getElem?_eq_some_iff.mp h
  rw [List.drop_eq_getElem_cons h1, h2]
theorem can_hrw (T : Txt K mg) : Can P w K mg base CX0 1 "_head_of_row_with" ["kind", "rows"] (spHrw K) := by
  refine can_of T.g__head_of_row_with T.F__head_of_row_with (fun fd F => ?_) (fun _ _ _ _ _ _ us hl => match us, hl with | [_, _], _ => rfl)
  refine F.ok sc__head_of_row_with (fun vs H Q E h => ?_) (fun cdv A outer s H vs Q E hr h => ?_)
  · obtain ⟨k, p, rows, rfl, _⟩ := h
    rfl
  · obtain ⟨k, p, rows, rfl, ⟨ps, hp, hlen, hrow⟩, nn, ks, hk, fin⟩ := h
    have nd := sc__head_of_row_with.nd
    refine ⟨_, pss_cons (ps_for PassesOwn.never rfl (pi_list (pv 1)) (pg_name (i := 2) nd rfl (.inl rfl))
        (pss_one (ps_if (PW.pt (pw_and (pt_cmpR (op_ne_id hr T.idc) (pv 0) (pe_ix ix_list (pv 2) pe_int (fun _ _ => rfl)) (nomark _)) (pw_and1 (pt_cmpR (op_in_id hr T.idc) (pv 0) (pv 2) rfl))))
          (pss_one (ps_ret (pe_ix ix_list (pv 2) pe_int (fun _ _ => rfl)))) pss_nil)))
      (pss_one (ps_ret pe_non)), ?_⟩
    refine q_forLn (xs := refs ps) (ev_var rfl) hp (fun i σ H' => ∃ v, σ = [some (.ref k), some (.ref p), v] ∧ Ex H H' ∧ Mg.hrw k (rows.drop i) = Mg.hrw k rows) (fun H1 e => ⟨_, rfl, e, rfl⟩) (fun i σ H' _ ⟨v, _, e, _⟩ => ex_l e hp) ?_ ?_
    · rintro i x σ H' hx ⟨v, rfl, e, hd⟩
      obtain ⟨q, hq, rfl⟩ := refs_at hx
      have hil : i < rows.length := by
        have := (List.getElem?_eq_some_iff.mp hq).1
        omega
      obtain ⟨r, hri⟩ := at_some hil
      have hS := ex_l e (hrow i q r hq hri)
      have hmem := List.mem_of_getElem? hri
      have hkr := fun a ha => (ks r hmem a ha).ex e
      cases r with
      | nil => exact absurd rfl (nn _ hmem)
      | cons h t =>
        have hix : Ev (tOp (rIxL K) (tVar 2) (tC (.int 0))) [some (.ref k), some (.ref p), some (.ref q)] H' (.ref h) := ev_op (ev_var rfl) ev_c (rv_ixL hS (at_of (j := 0) rfl rfl))
        rw [drop_at hri] at hd
        have hd : (if k ≠ h ∧ k ∈ h :: t then some h else Mg.hrw k (rows.drop (i + 1))) = Mg.hrw k rows := hd
        refine s_when (et_and (et_test (ev_op (ev_var rfl) hix (rv_ne_id (hk.ex e) (hkr h (List.mem_cons_self ..))))) fun _ => et_test (ev_op (ev_var rfl) (ev_var rfl) (rv_in_id (neg := false) (.inl hS) (hk.ex e) hkr))) (fun hb H1 e1 => ?_) (fun hb H1 e1 => ?_)
        · have hb : (!decide (k = h) && decide (k ∈ h :: t)) = true := hb
          have c : k ≠ h ∧ k ∈ h :: t := by simpa using hb
          rw [if_pos c] at hd
          refine s_ret (hix.mono e1) fun H2 e2 => ?_
          have := fin H2 ((e.trans e1).trans e2)
          rw [← hd] at this
          exact this
        · have hb : (!decide (k = h) && decide (k ∈ h :: t)) = false := hb
          have c : ¬ (k ≠ h ∧ k ∈ h :: t) := by
            intro c
            simp [c.1] at hb
            rcases List.mem_cons.mp c.2 with q | q
            · exact c.1 q
            · exact hb q
          rw [if_neg c] at hd
          exact ⟨_, rfl, e.trans e1, hd⟩
    · rintro σ H' ⟨v, rfl, e, hd⟩
      have e0 : Mg.hrw k rows = none := by
        rw [← hd]
        have : (refs ps).length = rows.length := by unfold refs; rw [List.length_map]; exact hlen
        rw [this, List.drop_length]
        rfl
      refine s_ret ev_c fun H1 e1 => ?_
      have := fin H1 (e.trans e1)
      rw [e0] at this
      exact this
/-! ### the first head that is free -/
def spFreeHead (K : PySem.W.Frag) : Sp := fun vs H Q _ => ∃ (p : Addr) (rows : List (List Addr)), vs = [.ref p] ∧ Rw K (SqL K) H p rows ∧ Mg.NoNil rows ∧ Mg.Nd rows ∧ Ks (kC K) H rows ∧
  ∀ H', Ex H H' → Q (optR (Mg.frees rows).head?) H'
theorem ev_hrw {σ : L2.St} {H : Hp} {ta tb : TE} {k p : Addr} {rows : List (List Addr)} (ha : Ev ta σ H (.ref k)) (hb : Ev tb σ H (.ref p)) (hR : Rw K (SqL K) H p rows) (nn : Mg.NoNil rows) (ks : Ks (kC K) H rows) (hk : KO (kC K) H k) :
    Ev (tCall (spHrw K) [] E0 (tCons ta (tCons tb tNil))) σ H (optR (Mg.hrw k rows)) :=
  ev_call (ea_cons ha (ea_cons hb ea_nil)) fun H1 e Q q E => ⟨k, p, rows, rfl, hR.exL e, nn, ks.ex e, hk.ex e, fun H2 e2 => q H2 e2⟩
theorem optR_non (o : Option Addr) : decide (optR o = V.non) = o.isNone := by
  cases o <;> simp [optR]
theorem can_freeHead (T : Txt K mg) : Can P w K mg base CX0 2 "_free_head" ["rows"] (spFreeHead K) := by
  have CH : Can P w K mg base CX0 1 "_head_of_row_with" ["kind", "rows"] (spHrw K) := can_hrw T
  refine can_of T.g__free_head T.F__free_head (fun fd F => ?_) (fun _ _ _ _ _ _ us hl => match us, hl with | [_], _ => rfl)
  refine F.ok sc__free_head (fun vs H Q E h => ?_) (fun cdv A outer s H vs Q E hr h => ?_)
  · obtain ⟨p, rows, rfl, _⟩ := h
    rfl
  · obtain ⟨p, rows, rfl, R, nn, ndr, ks, fin⟩ := h
    obtain ⟨ps, hp, hlen, hrow⟩ := id R
    have nd := sc__free_head.nd
    refine ⟨_, pss_cons (ps_for PassesOwn.never rfl (pi_list (pv 0)) (pg_name (i := 1) nd rfl (.inl rfl))
        (pss_one (ps_if (pt_cmp (pc_isN (pe_can CH hr pass0 (pa_cons (pe_ix ix_list (pv 1) pe_int (fun _ _ => rfl)) (pa_cons (pv 0) pa_nil)))))
          (pss_one (ps_ret (pe_ix ix_list (pv 1) pe_int (fun _ _ => rfl)))) pss_nil)))
      (pss_one (ps_ret pe_non)), ?_⟩
    have hfind := Mg.frees_find ndr
    refine q_forLn (xs := refs ps) (ev_var rfl) hp (fun i σ H' => ∃ v, σ = [some (.ref p), v] ∧ Ex H H' ∧ (Mg.heads (rows.drop i)).find? (fun h => (Mg.hrw h rows).isNone) = (Mg.frees rows).head?) (fun H1 e => ⟨_, rfl, e, hfind.symm⟩) (fun i σ H' _ ⟨v, _, e, _⟩ => ex_l e hp) ?_ ?_
    · rintro i x σ H' hx ⟨v, rfl, e, hd⟩
      obtain ⟨q, hq, rfl⟩ := refs_at hx
      have hil : i < rows.length := by
        have := (List.getElem?_eq_some_iff.mp hq).1
        omega
      obtain ⟨r, hri⟩ := at_some hil
      have hS := ex_l e (hrow i q r hq hri)
      have hmem := List.mem_of_getElem? hri
      have hkr := fun a ha => (ks r hmem a ha).ex e
      cases r with
      | nil => exact absurd rfl (nn _ hmem)
      | cons h t =>
        have hix : Ev (tOp (rIxL K) (tVar 1) (tC (.int 0))) [some (.ref p), some (.ref q)] H' (.ref h) := ev_op (ev_var rfl) ev_c (rv_ixL hS (at_of (j := 0) rfl rfl))
        rw [drop_at hri, Mg.heads_cons, List.find?_cons] at hd
        refine s_when (et_is (et_isN (ev_hrw hix (ev_var rfl) (R.exL e) nn (ks.ex e) (hkr h (List.mem_cons_self ..)))) (optR_non _)) (fun hb H1 e1 => ?_) (fun hb H1 e1 => ?_)
        · rw [hb] at hd
          refine s_ret (hix.mono e1) fun H2 e2 => ?_
          have := fin H2 ((e.trans e1).trans e2)
          rw [← hd] at this
          exact this
        · rw [hb] at hd
          exact ⟨_, rfl, e.trans e1, hd⟩
    · rintro σ H' ⟨v, rfl, e, hd⟩
      have e0 : (Mg.frees rows).head? = none := by
        rw [← hd]
        have : (refs ps).length = rows.length := by unfold refs; rw [List.length_map]; exact hlen
        rw [this, List.drop_length]
        rfl
      refine s_ret ev_c fun H1 e1 => ?_
      have := fin H1 (e.trans e1)
      rw [e0] at this
      exact this
/-! ### the rows without a kind -/
def spWithout (K : PySem.W.Frag) (S : Hp → Addr → List V → Prop) : Sp := fun vs H Q _ => ∃ (o : Option Addr) (p : Addr) (rows : List (List Addr)), vs = [optR o, .ref p] ∧ Rw K S H p rows ∧ Ks (kC K) H rows ∧ (∀ a, o = some a → KO (kC K) H a) ∧
  rows.length ≤ 40 ∧ (∀ r, r ∈ rows → r.length ≤ 40) ∧ ∀ p' H', H p' = none → Ex H H' → Rw K (SqL K) (newp H H') p' (Mg.wo o rows) → Q (.ref p') H'
end
end K52
end

section
set_option Elab.async false
set_option linter.all false
set_option maxRecDepth 100000
set_option maxHeartbeats 4000000
namespace K52
open PySem PySem.Spec PyProof.Rows L2 He Cn Evl
theorem Rw.of_prs {K : PySem.W.Frag} {S : Hp → Addr → List V → Prop} {H : Hp} {p : Addr} {prs : List (Addr × List Addr)} (h : SqL K H p (refs (prs.map Prod.fst))) (h2 : ∀ x, x ∈ prs → S H x.1 (refs x.2)) : Rw K S H p (prs.map Prod.snd) := by
  refine ⟨prs.map Prod.fst, h, by rw [List.length_map, List.length_map], fun i q r hq hr => ?_⟩
  rw [List.getElem?_map] at hq hr
  cases e : prs[i]? with
  | none => rw [e] at hq; cases hq
  | some x =>
    rw [e] at hq hr
    obtain rfl := Option.some.inj hq
    obtain rfl := Option.some.inj hr
    exact h2 x (List.mem_of_getElem? e)
theorem Rw.prs {K : PySem.W.Frag} {S : Hp → Addr → List V → Prop} {H : Hp} {p : Addr} {rows : List (List Addr)} (h : Rw K S H p rows) : ∃ prs : List (Addr × List Addr), SqL K H p (refs (prs.map Prod.fst)) ∧ rows = prs.map Prod.snd ∧ ∀ x, x ∈ prs → S H x.1 (refs x.2) := by
  obtain ⟨ps, h1, h2, h3⟩ := h
  refine ⟨ps.zip rows, ?_, ?_, fun x hx => ?_⟩
  · rw [List.map_fst_zip (by omega)]
    exact h1
  · rw [List.map_snd_zip (by omega)]
  · obtain ⟨i, hi⟩ := List.mem_iff_getElem?.mp hx
    obtain ⟨e1, e2⟩ := List.getElem?_zip_eq_some.mp hi
    exact h3 i _ _ e1 e2
/-- a comprehension over what a walk gives -/
theorem el_lcW {J : It} {G : Hp → Prop} {xs : List V} {it : TI} {σ : L2.St} {H : Hp} {j : Nat} {t : TT} {te : TE} {vs : List Nat} (wk : Walk J xs.length G (YAt xs)) (hi : ∀ H0, Ex H H0 → ∀ R : It → Hp → Prop, R J H0 → it σ H0 R) (hG : ∀ H', Ex H H' → G H') (f : Nat → Bool) (v : Nat → V) (hz : xs.length ≤ 40000)
    (hw : ∀ x, wipe ((wipe σ vs).set j (some x)) vs = wipe σ vs) (ht : ∀ (i : Nat) (x : V) H1, Ex H H1 → xs[i]? = some x → EvT t ((wipe σ vs).set j (some x)) H1 (f i))
    (he : ∀ (i : Nat) (x : V) H1, Ex H H1 → xs[i]? = some x → f i = true → Ev te ((wipe σ vs).set j (some x)) H1 (v i)) : EvL (tLc it (gName j) t te vs) σ H (given xs.length f v) := fun H1 e Q q =>
  hi H1 e _ fun Dl hD => lc_it wk (Cw H1 f v Dl) ⟨hD, Ex.new hD, upd_same⟩ (fun i H' _ p => hG H' (e.trans p.2.1))
    (fun i x Ha Hb hi p y => by
      obtain ⟨rfl, hx⟩ := y
      exact ⟨hw x, cw_turn p (by omega) (ht i x H1 e hx) (fun hf => he i x H1 e hx hf)⟩)
    (fun H' p => q Dl H' p.1 p.2.1 p.2.2)
theorem given_filter {α : Type} (l : List α) (p : α → Bool) (g : α → V) (f : Nat → Bool) (v : Nat → V) (hf : ∀ i x, l[i]? = some x → f i = p x) (hv : ∀ i x, l[i]? = some x → v i = g x) : given l.length f v = (l.filter p).map g := by
  have key : ∀ k, k ≤ l.length → given k f v = ((l.take k).filter p).map g := by
    intro k
    induction k with
    | zero => intro _; rfl
    | succ k ih =>
      intro hk
      have ih := ih (by omega)
      obtain ⟨x, hx⟩ := at_some (l := l) (i := k) (by omega)
      have et : l.take (k + 1) = l.take k ++ [x] := by rw [List.take_add_one, hx] <;> rfl
      rw [et, List.filter_append, List.map_append, ← ih]
      cases q : p x with
      | true =>
        rw [given_yes ((hf k x hx).trans q), hv k x hx, List.filter_cons, if_pos q]
        rfl
      | false =>
        rw [given_no ((hf k x hx).trans q), List.filter_cons, if_neg (by rw [q]; decide)]
        simp
  have := key l.length (Nat.le_refl _)
  rw [List.take_length] at this
  exact this
/-- how the rows' own items are walked -/
structure Wk (K : PySem.W.Frag) (S : Hp → Addr → List V → Prop) (it : TE → TI) : Prop where
  wk : ∀ (te : TE) (σ : L2.St) (H : Hp) (q : Addr) (xs : List V), Ev te σ H (.ref q) → S H q xs → ∃ J : It, Walk J xs.length (fun H => S H q xs) (YAt xs) ∧ ∀ H0, Ex H H0 → ∀ R : It → Hp → Prop, (∀ H1, Ex H0 H1 → R J H1) → it te σ H0 R
  ex : ∀ {H H' : Hp} {q : Addr} {xs : List V}, Ex H H' → S H q xs → S H' q xs
theorem wk_list {K : PySem.W.Frag} : Wk K (SqL K) (iList K) :=
  ⟨fun te σ H q xs h hs => ⟨Itl K q, walk_list, fun H0 e R hR => h H0 e _ fun H1 e1 => ⟨q, rfl, ⟨xs, ex_l (e.trans e1) hs⟩, hR H1 e1⟩⟩, ex_l⟩
theorem wk_tup {K : PySem.W.Frag} : Wk K (SqT K) (iTup K) :=
  ⟨fun te σ H q xs h hs => ⟨Itt K q, walk_tup, fun H0 e R hR => h H0 e _ fun H1 e1 => ⟨q, rfl, ⟨xs, ex_t (e.trans e1) hs⟩, hR H1 e1⟩⟩, ex_t⟩
theorem el_lcK {K : PySem.W.Frag} {S : Hp → Addr → List V → Prop} {it : TE → TI} (W : Wk K S it) {tl : TE} {q : Addr} {xs : List V} {σ : L2.St} {H : Hp} {j : Nat} {t : TT} {te : TE} {vs : List Nat} (hl : Ev tl σ H (.ref q)) (hs : S H q xs) (f : Nat → Bool) (v : Nat → V) (hz : xs.length ≤ 40000)
    (hw : ∀ x, wipe ((wipe σ vs).set j (some x)) vs = wipe σ vs) (ht : ∀ (i : Nat) (x : V) H1, Ex H H1 → xs[i]? = some x → EvT t ((wipe σ vs).set j (some x)) H1 (f i))
    (he : ∀ (i : Nat) (x : V) H1, Ex H H1 → xs[i]? = some x → f i = true → Ev te ((wipe σ vs).set j (some x)) H1 (v i)) : EvL (tLc (it tl) (gName j) t te vs) σ H (given xs.length f v) := fun H1 e Q q' => by
  obtain ⟨J, wk, hi⟩ := W.wk tl σ H q xs hl hs
  refine hi H1 e _ fun H2 e2 => ?_
  intro Dl hD
  exact lc_it wk (Cw H2 f v Dl) ⟨hD, Ex.new hD, upd_same⟩ (fun i H' _ p => W.ex ((e.trans e2).trans p.2.1) hs)
    (fun i x Ha Hb hi p y => by
      obtain ⟨rfl, hx⟩ := y
      exact ⟨hw x, cw_turn p (by omega) (ht i x H2 (e.trans e2) hx) (fun hf => he i x H2 (e.trans e2) hx hf)⟩)
    (fun H' p => q' Dl H' (fresh_back e2 p.1) (e2.trans p.2.1) p.2.2)
section
variable {P : Program} {w : World} {K : PySem.W.Frag} {mg : Str → Option Value} {base : Heap}
def tTruQ (K : PySem.W.Frag) (ta : TE) : TT := fun σ H Q => ta σ H fun x H' => ∃ k, TruV K x H' k ∧ Q k H'
/-- the scope of a comprehension within which another one reads head -/
def scW1 : Scope := { kind := .function, names := [(".0", .local), ("row", .local), ("head", .cell)], isGenerator := false, isCoroutine := false }
/-- a row without a kind -/
def outO (o : Option Addr) (r : List Addr) : List Addr := match o with
  | some h => r.filter fun x => decide (x ≠ h)
  | none => r
theorem wo_eq (o : Option Addr) (rows : List (List Addr)) : Mg.wo o rows = (rows.map (outO o)).filter fun r => !r.isEmpty := by
  cases o with
  | some h => rfl
  | none =>
    show Mg.full rows = _
    rw [show rows.map (outO none) = rows from List.map_id rows]
    rfl
theorem outO_filter (o : Option Addr) (r : List Addr) : outO o r = r.filter fun x => !decide (some x = o) := by
  cases o with
  | some h =>
    show (r.filter fun x => decide (x ≠ h)) = r.filter fun x => !decide (some x = some h)
    congr 1
    funext x
    by_cases e : x = h <;> simp [e]
  | none =>
    unfold outO
    rw [List.filter_eq_self.mpr]
    intro x _
    simp
theorem rv_ne_o {H : Hp} {a : Addr} {o : Option Addr} (ha : KO (kC K) H a) (ho : ∀ b, o = some b → KO (kC K) H b) : RV (rNeI (kC K)) (.ref a) (optR o) H (.bl (!decide (some a = o))) := by
  cases o with
  | none => exact rv_ne_idN ha
  | some b =>
    have : (!decide (some a = some b)) = !decide (a = b) := by simp
    rw [this]
    exact rv_ne_id ha (ho b rfl)
theorem el_outO {S : Hp → Addr → List V → Prop} {it : TE → TI} (W : Wk K S it) {σ : L2.St} {H : Hp} {q : Addr} {o : Option Addr} {r : List Addr} (hs : S H q (refs r)) (hr : ∀ a, a ∈ r → KO (kC K) H a) (ho : ∀ b, o = some b → KO (kC K) H b) (hl : r.length ≤ 40) (h0 : σ[0]? = some (some (optR o))) (h3 : σ[3]? = some (some (.ref q))) (h5 : σ.length = 5) :
    EvL (tLc (it (tVar 3)) (gName 4) (tTest (tOp (rNeI (kC K)) (tVar 4) (tVar 0))) (tVar 4) [4]) σ H (refs (outO o r)) := by
  have lr : (refs r).length = r.length := by unfold refs; rw [List.length_map]
  have h := el_lcK W (j := 4) (t := tTest (tOp (rNeI (kC K)) (tVar 4) (tVar 0))) (te := tVar 4) (vs := [4]) (ev_var h3) hs (fun i => match r[i]? with | some a => !decide (some a = o) | none => false) (fun i => match r[i]? with | some a => .ref a | none => .non) (by omega) (fun x => by
      match σ, h5 with
      | [a, b, c, d, e], _ => rfl) (fun i x H1 e hx => by
      obtain ⟨a, ha, rfl⟩ := refs_at hx
      have : (match r[i]? with | some a => !decide (some a = o) | none => false) = !decide (some a = o) := by rw [ha]
      rw [this]
      have ha' := (hr a (List.mem_of_getElem? ha)).ex e
      refine et_test (ev_op (x := .ref a) (y := optR o) (ev_var ?_) (ev_var ?_) (rv_ne_o ha' fun b hb => (ho b hb).ex e))
      · match σ, h5 with
        | [a, b, c, d, e], _ => rfl
      · match σ, h5, h0 with
        | [a, b, c, d, e], _, h0 => exact h0) (fun i x H1 e hx _ => by
      obtain ⟨a, ha, rfl⟩ := refs_at hx
      have : (match r[i]? with | some a => V.ref a | none => .non) = .ref a := by rw [ha]
      rw [this]
      refine ev_var ?_
      match σ, h5 with
        | [a, b, c, d, e], _ => rfl)
  rw [lr, given_filter r (fun x => !decide (some x = o)) V.ref _ _ (fun i x hx => by rw [hx]) (fun i x hx => by rw [hx]), ← outO_filter] at h
  exact h
/-- what makes a new list of new rows -/
def EvR (K : PySem.W.Frag) (te : TE) (σ : L2.St) (H : Hp) (rows : List (List Addr)) : Prop := ∀ H1, Ex H H1 → ∀ Q : VK, (∀ p H2, H1 p = none → Ex H1 H2 → Rw K (SqL K) (newp H1 H2) p rows → Q (.ref p) H2) → te σ H1 Q
theorem yes_then {te : TE} {σ : L2.St} {H : Hp} {Q : VK} {N : Hp → Prop} (h : te σ H Q) : tYes σ H (fun b H3 => if b = true then te σ H3 Q else N H3) := by
  show if true = true then te σ H Q else N H
  rw [if_pos rfl]
  exact h
theorem q_asgR {te : TE} {σ : L2.St} {H : Hp} {rows : List (List Addr)} {i : Nat} {tz : TS} {D : Ends} (h : EvR K te σ H rows) (k : ∀ p H1, H p = none → Ex H H1 → Rw K (SqL K) (newp H H1) p rows → tz D (σ.set i (some (.ref p))) H1) : tSeq (tAsg te (gName i)) tz D σ H := h H (Ex.refl H) _ k
theorem s_retR {te : TE} {σ : L2.St} {H : Hp} {rows : List (List Addr)} {D : Ends} (h : EvR K te σ H rows) (k : ∀ p H1, H p = none → Ex H H1 → Rw K (SqL K) (newp H H1) p rows → D.rt (.ref p) H1) : tRet te D σ H := h H (Ex.refl H) _ k
theorem er_outO {S : Hp → Addr → List V → Prop} {it : TE → TI} (W : Wk K S it) {σ : L2.St} {H : Hp} {p : Addr} {o : Option Addr} {rows : List (List Addr)} (R : Rw K S H p rows) (ks : Ks (kC K) H rows) (ho : ∀ b, o = some b → KO (kC K) H b) (l1 : rows.length ≤ 40) (l2 : ∀ r, r ∈ rows → r.length ≤ 40)
    (h0 : σ[0]? = some (some (optR o))) (h1 : σ[1]? = some (some (.ref p))) (h5 : σ.length = 5) :
    EvR K (tLc (iList K (tVar 1)) (gName 3) tYes (tLc (it (tVar 3)) (gName 4) (tTest (tOp (rNeI (kC K)) (tVar 4) (tVar 0))) (tVar 4) [4]) [3]) σ H (rows.map (outO o)) := fun H1 e1 Q q => by
  obtain ⟨prs, hp, rfl, hrow⟩ := R.prs
  refine ⟨_, h1, p, rfl, ⟨_, ex_l e1 hp⟩, fun D hD => ?_⟩
  refine lc_list (xs := refs (prs.map Prod.fst)) (fun i H' => Ex H1 H' ∧ ∃ qrs : List (Addr × List Addr), H' D = some (.lst (refs (qrs.map Prod.fst))) ∧ qrs.map Prod.snd = ((prs.take i).map Prod.snd).map (outO o) ∧ (∀ x, x ∈ qrs → x.1 ≠ D ∧ H1 x.1 = none ∧ H' x.1 = some (.lst (refs x.2)))) ⟨Ex.new hD, [], upd_same, by simp, fun x hx => by cases hx⟩
    (fun i H' _ ⟨e2, _⟩ => ex_l (e1.trans e2) hp) ?_ ?_
  · rintro i x H2 hx ⟨e2, qrs, hD2, hsnd, hqs⟩
    obtain ⟨q0, hq0, rfl⟩ := refs_at hx
    rw [List.getElem?_map] at hq0
    cases ei : prs[i]? with
    | none => rw [ei] at hq0; cases hq0
    | some pr =>
      rw [ei] at hq0
      obtain rfl := Option.some.inj hq0
      have hmem := List.mem_of_getElem? ei
      have hm2 : pr.2 ∈ prs.map Prod.snd := List.mem_map_of_mem hmem
      have e12 := e1.trans e2
      refine ⟨?_, ?_⟩
      · match σ, h5 with
        | [a, b, c, d, e], _ => rfl
      refine yes_then ?_
      refine el_outO W (W.ex e12 (hrow pr hmem)) (fun a ha => (ks pr.2 hm2 a ha).ex e12) (fun b hb => (ho b hb).ex e12) (l2 pr.2 hm2) ?_ ?_ ?_ H2 (Ex.refl H2) _ fun pn H3 hpn e3 h3 => ?_
      · match σ, h5, h0 with
        | [a, b, c, d, e], _, h0 => exact h0
      · match σ, h5 with
        | [a, b, c, d, e], _ => rfl
      · match σ, h5 with
        | [a, b, c, d, e], _ => rfl
      have hlen : qrs.length = i := by
        have := congrArg List.length hsnd
        rw [List.length_map, List.length_map, List.length_map, List.length_take] at this
        have hi := (List.getElem?_eq_some_iff.mp ei).1
        omega
      have hi := (List.getElem?_eq_some_iff.mp ei).1
      rw [List.length_map] at l1
      have nD : pn ≠ D := (ne_of_none hD2 hpn).symm
      refine ⟨refs (qrs.map Prod.fst), e3 _ _ hD2, sz_lt (by unfold refs; rw [List.length_map, List.length_map]; omega), Ex.mut (e2.trans e3) hD, qrs ++ [(pn, outO o pr.2)], ?_, ?_, fun x hx => ?_⟩
      · rw [upd_same]
        unfold refs
        simp
      · rw [List.map_append, hsnd, List.take_add_one, ei]
        simp
      · rcases List.mem_append.mp hx with hx | hx
        · obtain ⟨n1, n0, n2⟩ := hqs x hx
          exact ⟨n1, n0, by rw [upd_ne n1]; exact e3 _ _ n2⟩
        · obtain rfl := List.mem_singleton.mp hx
          exact ⟨nD, fresh_back e2 hpn, by rw [upd_ne nD]; exact h3⟩
  · rintro H2 ⟨e2, qrs, hD2, hsnd, hqs⟩
    have ll : (refs (prs.map Prod.fst)).length = prs.length := by unfold refs; rw [List.length_map, List.length_map]
    rw [ll, List.take_length] at hsnd
    rw [← hsnd] at q
    exact q D H2 hD e2 (Rw.of_prs (sq_of (by rw [newp_at hD]; exact hD2)) fun x hx => sq_of (by rw [newp_at (hqs x hx).2.1]; exact (hqs x hx).2.2))
theorem full_rows (rows : List (List Addr)) : Mg.full rows = rows.filter fun r => !r.isEmpty := rfl
/-- the rest of the rows that hold something -/
theorem er_some {σ : L2.St} {G H : Hp} {p : Addr} {rows : List (List Addr)} (eG : Ex G H) (R : Rw K (SqL K) G p rows) (l1 : rows.length ≤ 40) (h2 : σ[2]? = some (some (.ref p))) (h5 : σ.length = 5) :
    ∀ H1, Ex H H1 → ∀ Q : VK, (∀ p H2, H1 p = none → Ex H1 H2 → (∀ G', Ex G G' → G' p = H2 p → Rw K (SqL K) G' p (rows.filter fun r => !r.isEmpty)) → Q (.ref p) H2) → tLc (iList K (tVar 2)) (gName 3) (tTruQ K (tVar 3)) (tVar 3) [3] σ H1 Q := fun H1 e1 Q q => by
  obtain ⟨prs, hp, rfl, hrow⟩ := R.prs
  have ll : (refs (prs.map Prod.fst)).length = prs.length := by unfold refs; rw [List.length_map, List.length_map]
  rw [List.length_map] at l1
  have h := el_lcK wk_list (tl := tVar 2) (σ := σ) (H := H) (j := 3) (t := tTruQ K (tVar 3)) (te := tVar 3) (vs := [3]) (ev_var h2) (ex_l eG hp) (fun i => match prs[i]? with | some a => !a.2.isEmpty | none => false) (fun i => match prs[i]? with | some a => .ref a.1 | none => .non) (by omega) (fun x => by
      match σ, h5 with
      | [a, b, c, d, e], _ => rfl) (fun i x H1 e hx => by
      obtain ⟨a, ha, rfl⟩ := refs_at hx
      rw [List.getElem?_map] at ha
      cases ei : prs[i]? with
      | none => rw [ei] at ha; cases ha
      | some pr =>
        rw [ei] at ha
        obtain rfl := Option.some.inj ha
        have hm := List.mem_of_getElem? ei
        refine et_tru (x := .ref pr.1) (ev_var ?_) fun H2 e2 => .inl ⟨refs pr.2, ex_l ((eG.trans e).trans e2) (hrow pr hm), ?_⟩
        · match σ, h5 with
          | [a, b, c, d, e], _ => rfl
        · obtain ⟨pr1, pr2⟩ := pr
          cases pr2 <;> rfl) (fun i x H1 e hx _ => by
      obtain ⟨a, ha, rfl⟩ := refs_at hx
      rw [List.getElem?_map] at ha
      cases ei : prs[i]? with
      | none => rw [ei] at ha; cases ha
      | some pr =>
        rw [ei] at ha
        obtain rfl := Option.some.inj ha
        refine ev_var ?_
        match σ, h5 with
        | [a, b, c, d, e], _ => rfl)
  rw [ll, given_filter prs (fun x => !x.2.isEmpty) (fun x => V.ref x.1) _ _ (fun i x hx => by rw [hx]) (fun i x hx => by rw [hx])] at h
  refine h H1 e1 _ fun p2 H2 hp2 e2 h2 => ?_
  have er : (prs.filter fun x => !x.2.isEmpty).map Prod.snd = (prs.map Prod.snd).filter fun r => !r.isEmpty := by
    rw [List.filter_map]
    rfl
  rw [← er] at q
  refine q p2 H2 hp2 e2 fun G' eg hg => Rw.of_prs (sq_of ?_) fun x hx => ex_l eg (hrow x (List.mem_filter.mp hx).1)
  rw [hg, h2]
  unfold refs
  rw [List.map_map]
  rfl
theorem rd_without {S : Hp → Addr → List V → Prop} {it : TE → TI} (W : Wk K S it) {σ : L2.St} {H : Hp} {p : Addr} {o : Option Addr} {rows : List (List Addr)} {D : Ends} (R : Rw K S H p rows) (ks : Ks (kC K) H rows) (ho : ∀ b, o = some b → KO (kC K) H b) (l1 : rows.length ≤ 40) (l2 : ∀ r, r ∈ rows → r.length ≤ 40)
    (h0 : σ[0]? = some (some (optR o))) (h1 : σ[1]? = some (some (.ref p))) (h5 : σ.length = 5) (fin : ∀ p' H', H p' = none → Ex H H' → Rw K (SqL K) (newp H H') p' (Mg.wo o rows) → D.rt (.ref p') H') :
    tSeq (tAsg (tLc (iList K (tVar 1)) (gName 3) tYes (tLc (it (tVar 3)) (gName 4) (tTest (tOp (rNeI (kC K)) (tVar 4) (tVar 0))) (tVar 4) [4]) [3]) (gName 2)) (tRet (tLc (iList K (tVar 2)) (gName 3) (tTruQ K (tVar 3)) (tVar 3) [3])) D σ H := by
  refine q_asgR (er_outO W R ks ho l1 l2 h0 h1 h5) fun pr H1 hpr e1 R1 => ?_
  refine er_some (newp_ex (H := H) (H' := H1)) R1 (by rw [List.length_map]; exact l1) ?_ (by rw [List.length_set]; exact h5) H1 (Ex.refl H1) _ fun p2 H2 hp2 e2 R2 => ?_
  · match σ, h5 with
    | [a, b, c, d, e], _ => rfl
  · have R3 := R2 (newp H H2) (newp_mono e2) (newp_at (fresh_back e1 hp2))
    rw [← wo_eq] at R3
    exact fin p2 H2 (fresh_back e1 hp2) (e1.trans e2) R3
theorem can_withoutL (T : Txt K mg) : Can P w K mg base CX0 1 "_without" ["head", "rows"] (spWithout K (SqL K)) := by
  refine can_of T.g__without T.F__without (fun fd F => ?_) (fun _ _ _ _ _ _ us hl => match us, hl with | [_, _], _ => rfl)
  refine F.ok sc__without (fun vs H Q E h => ?_) (fun cdv A outer s H vs Q E hr h => ?_)
  · obtain ⟨o, p, rows, rfl, _⟩ := h
    rfl
  · obtain ⟨o, p, rows, rfl, R, ks, ho, l1, l2, fin⟩ := h
    have nd := sc__without.nd
    refine ⟨_, pss_cons (ps_setLc (i := 2) (own := [("row", 3)]) (g := gName 3) (tt := tYes) rfl nd rfl rfl (sw_true rfl rfl rfl (by decide +kernel)) (pi_list (pv 1)) (blkOk_by (N := ["head", "rows", "rest", "row", "kind"]) (sc := defScope s__without) (by decide +kernel)) (fun _ _ _ _ _ => pg_name (i := 3) nd rfl (.inl rfl)) (fun _ _ _ _ _ => pts_nil)
        (fun s1 H1 C1 cl1 fp1 => pe_lc (own := [("kind", 4)]) (wi := iList K (tVar 3)) (g := gName 4) (tt := tTest (tOp (rNeI (kC K)) (tVar 4) (tVar 0))) rfl nd (pi_list (pv 3)) (blkOk_by (N := ["head", "rows", "rest", "row", "kind"]) (sc := scW1) (by decide +kernel)) (fun _ _ _ _ _ => pg_name (i := 4) nd rfl (.inl rfl)) (fun _ _ _ _ _ => pts_one (pt_cmpR (op_ne_id hr T.idc) (pv 4) (pv 0) (nomark _))) (fun _ _ _ _ _ => pv 4)))
      (pss_one (ps_ret (pe_lc (own := [("row", 3)]) (wi := iList K (tVar 2)) (g := gName 3) (tt := tTruQ K (tVar 3)) rfl nd (pi_list (pv 2)) (blkOk_by (N := ["head", "rows", "rest", "row", "kind"]) (sc := defScope s__without) (by decide +kernel)) (fun _ _ _ _ _ => pg_name (i := 3) nd rfl (.inl rfl)) (fun _ _ _ _ _ => pts_one (pt_truth (pv 3) (by intro _; rfl))) (fun _ _ _ _ _ => pv 3)))), ?_⟩
    exact rd_without wk_list R ks ho l1 l2 rfl rfl rfl fin
theorem can_withoutT (T : Txt K mg) : Can P w K mg base CX0 1 "_without" ["head", "rows"] (spWithout K (SqT K)) := by
  refine can_of T.g__without T.F__without (fun fd F => ?_) (fun _ _ _ _ _ _ us hl => match us, hl with | [_, _], _ => rfl)
  refine F.ok sc__without (fun vs H Q E h => ?_) (fun cdv A outer s H vs Q E hr h => ?_)
  · obtain ⟨o, p, rows, rfl, _⟩ := h
    rfl
  · obtain ⟨o, p, rows, rfl, R, ks, ho, l1, l2, fin⟩ := h
    have nd := sc__without.nd
    refine ⟨_, pss_cons (ps_setLc (i := 2) (own := [("row", 3)]) (g := gName 3) (tt := tYes) rfl nd rfl rfl (sw_true rfl rfl rfl (by decide +kernel)) (pi_list (pv 1)) (blkOk_by (N := ["head", "rows", "rest", "row", "kind"]) (sc := defScope s__without) (by decide +kernel)) (fun _ _ _ _ _ => pg_name (i := 3) nd rfl (.inl rfl)) (fun _ _ _ _ _ => pts_nil)
        (fun s1 H1 C1 cl1 fp1 => pe_lc (own := [("kind", 4)]) (wi := iTup K (tVar 3)) (g := gName 4) (tt := tTest (tOp (rNeI (kC K)) (tVar 4) (tVar 0))) rfl nd (pi_tup (pv 3)) (blkOk_by (N := ["head", "rows", "rest", "row", "kind"]) (sc := scW1) (by decide +kernel)) (fun _ _ _ _ _ => pg_name (i := 4) nd rfl (.inl rfl)) (fun _ _ _ _ _ => pts_one (pt_cmpR (op_ne_id hr T.idc) (pv 4) (pv 0) (nomark _))) (fun _ _ _ _ _ => pv 4)))
      (pss_one (ps_ret (pe_lc (own := [("row", 3)]) (wi := iList K (tVar 2)) (g := gName 3) (tt := tTruQ K (tVar 3)) rfl nd (pi_list (pv 2)) (blkOk_by (N := ["head", "rows", "rest", "row", "kind"]) (sc := defScope s__without) (by decide +kernel)) (fun _ _ _ _ _ => pg_name (i := 3) nd rfl (.inl rfl)) (fun _ _ _ _ _ => pts_one (pt_truth (pv 3) (by intro _; rfl))) (fun _ _ _ _ _ => pv 3)))), ?_⟩
    exact rd_without wk_tup R ks ho l1 l2 rfl rfl rfl fin
end
end K52
end

section
set_option Elab.async false
set_option linter.all false
set_option maxRecDepth 100000
set_option maxHeartbeats 4000000
namespace K52
open PySem PySem.Spec PyProof.Rows L2 He Cn Evl
theorem nodup_len {α : Type} [DecidableEq α] : ∀ (l m : List α), l.Nodup → (∀ x, x ∈ l → x ∈ m) → l.length ≤ m.length
  | [], m, _, _ => Nat.zero_le _
  | a :: l, m, nd, h => by
    obtain ⟨n1, n2⟩ := List.nodup_cons.mp nd
    have ha := h a (List.mem_cons_self ..)
    have ih := nodup_len l (m.erase a) n2 fun x hx => (List.mem_erase_of_ne (fun e => n1 (by rw [← e]; exact hx))).mpr (h x (List.mem_cons_of_mem _ hx))
    have := List.length_erase_of_mem ha
    have : 0 < m.length := List.length_pos_of_mem ha
    rw [List.length_cons]
    omega
theorem idx_refs {a : Addr} : ∀ {r : List Addr}, (refs r).idxOf (.ref a) = r.idxOf a
  | [] => rfl
  | b :: r => by
    have ih := idx_refs (a := a) (r := r)
    show (V.ref b :: refs r).idxOf (.ref a) = _
    rw [List.idxOf_cons, List.idxOf_cons, ih]
    by_cases e : b = a
    · subst e
      simp
    · have e1 : (V.ref b == V.ref a) = false := by simpa using e
      have e2 : (b == a) = false := by simpa using e
      rw [e1, e2]
section
variable {P : Program} {w : World} {K : PySem.W.Frag} {mg : Str → Option Value} {base : Heap}
/-! ### the ring -/
def spRingIn (K : PySem.W.Frag) : Sp := fun vs H Q _ => ∃ (p : Addr) (rows : List (List Addr)), vs = [.ref p] ∧ Rw K (SqL K) H p rows ∧ Mg.NoNil rows ∧ Mg.Nd rows ∧ Ks (kC K) H rows ∧ rows ≠ [] ∧ Mg.frees rows = [] ∧ rows.length ≤ 40 ∧
  ∀ t ring H', H t = none → Ex H H' → H' t = some (.tup (refs ring)) → Mg.Ring rows ring → (∀ a, a ∈ ring → ∃ r, r ∈ rows ∧ a ∈ r) → ring.length ≤ 40 → Q (.ref t) H'
theorem cut_drop {xs : List V} {i : Nat} (h : i ≤ xs.length) : cutV xs (some (i : Int)) none = xs.drop i := by
  unfold cutV
  rw [HT.sIx_nat, HT.sIx_none, Nat.min_eq_left h, List.take_of_length_le]
  rw [List.length_drop]
  exact Nat.le_refl _
theorem can_ringIn (T : Txt K mg) : Can P w K mg base CX0 2 "_ring_in" ["rows"] (spRingIn K) := by
  have CH : Can P w K mg base CX0 1 "_head_of_row_with" ["kind", "rows"] (spHrw K) := can_hrw T
  refine can_of T.g__ring_in T.F__ring_in (fun fd F => ?_) (fun _ _ _ _ _ _ us hl => match us, hl with | [_], _ => rfl)
  refine F.ok sc__ring_in (fun vs H Q E h => ?_) (fun cdv A outer s H vs Q E hr h => ?_)
  · obtain ⟨p, rows, rfl, _⟩ := h
    rfl
  · obtain ⟨p, rows, rfl, R, nn, ndr, ks, hne, hfr, l1, fin⟩ := h
    have nd := sc__ring_in.nd
    refine ⟨_, pss_cons (ps_set (i := 1) nd rfl (.inl rfl) (pe_lst (pa_cons (pe_ix ix_list (pe_ix ix_list (pv 0) pe_int (fun _ _ => rfl)) pe_int (fun _ _ => rfl)) pa_nil)))
      (pss_one (ps_while PassesOwn.never (pt_val pe_bl)
        (pss_cons (ps_set (i := 2) nd rfl (.inl rfl) (pe_can CH hr pass0 (pa_cons (pe_ix ix_list (pv 1) (pe_un un_neg pe_int) (fun _ _ => rfl)) (pa_cons (pv 0) pa_nil))))
        (pss_cons (ps_if (pt_cmpR (op_in_id hr T.idc) (pv 2) (pv 1) rfl)
          (pss_cons (ps_set (i := 3) nd rfl (.inl rfl) (pe_slice sl_list (pv 1) (po_some (pe_bm PySem.F.plainAttrs_list PySem.F.slot_list_index PySem.F.type_list_index (mt_index_id hr T.idc) (pv 1) (pa_cons (pv 2) pa_nil))) po_none))
          (pss_one (ps_ret (pe_callTy call_tuple_of (by rfl) T.n_tuple (by decide +kernel) (pa_cons (pe_revL (pv 3)) pa_nil))))) pss_nil)
        (pss_one (ps_expr (pe_bm PySem.F.plainAttrs_list PySem.F.slot_list_append PySem.F.type_list_append mt_append (pv 1) (pa_cons (pv 2) pa_nil)))))))), ?_⟩
    obtain ⟨ps, hp, hlen, hrow⟩ := id R
    cases rows with
    | nil => exact absurd rfl hne
    | cons r0 rest =>
    have hm0 := List.mem_cons_self (a := r0) (l := rest)
    cases r0 with
    | nil => exact absurd rfl (nn _ hm0)
    | cons h0 t0 =>
    generalize hrw : (h0 :: t0) :: rest = rows at *
    have hr0 : rows[0]? = some (h0 :: t0) := by rw [← hrw] <;> rfl
    obtain ⟨q0, hq0⟩ := at_some (l := ps) (i := 0) (by rw [hlen, ← hrw]; exact Nat.succ_pos _)
    have hS0 := hrow 0 q0 _ hq0 hr0
    have hin : ∀ x, x ∈ Mg.heads rows → ∃ r, r ∈ rows ∧ x ∈ r := fun x hx => by
      obtain ⟨t, ht⟩ := Mg.mem_heads.mp hx
      exact ⟨_, ht, List.mem_cons_self ..⟩
    have hko : ∀ x, x ∈ Mg.heads rows → KO (kC K) H x := fun x hx => by
      obtain ⟨r, hr, hx⟩ := hin x hx
      exact ks r hr x hx
    refine q_asgL (el_lst (ea_cons (ev_op (ev_op (ev_var rfl) ev_c (rv_ixL hp (at_of (j := 0) rfl (at_refs hq0)))) ev_c (rv_ixL hS0 (at_of (j := 0) (v := .ref h0) rfl rfl))) ea_nil) (by show 1 ≤ 100000; decide)) fun pt H1 hpt e1 h1 => ?_
    have hhd : h0 ∈ Mg.heads rows := by
      rw [← hrw, Mg.heads_cons]
      exact List.mem_cons_self ..
    refine s_while (fun m σ' H' => ∃ (pa : List Addr) (v2 : Option V), σ' = [some (.ref p), some (.ref pt), v2, none] ∧ Ex H H' ∧ H' pt = some (.lst (refs pa)) ∧ pa ≠ [] ∧ pa.Nodup ∧ (∀ x, x ∈ pa → x ∈ Mg.heads rows) ∧
      (∀ (j : Nat) (x y : Addr), pa[j]? = some x → pa[j + 1]? = some y → Mg.Before rows y x) ∧ m = (Mg.heads rows).length + 1 - pa.length) _ ⟨[h0], none, rfl, e1, h1, by simp, by simp, by simpa using hhd, fun j x y a b => by simp at b, rfl⟩ ?_
    rintro m σ' H' ⟨pa, v2, rfl, e2, h2, pne, pnd, phd, chain, rfl⟩
    have plen := nodup_len pa _ pnd phd
    rw [Mg.heads_len nn] at plen
    have ppos : 0 < pa.length := List.length_pos_iff.mpr pne
    obtain ⟨lst, hlst⟩ := at_some (l := pa) (i := pa.length - 1) (by omega)
    have hlm := phd lst (List.mem_of_getElem? hlst)
    obtain ⟨h, hh⟩ := Mg.hrw_stuck ndr hfr hlm
    have hhm := Mg.hrw_head hh
    obtain ⟨_, _, _, hnl⟩ := Mg.hrw_some hh
    refine ⟨true, et_B ev_c, fun _ H2 e3 => ?_, fun q => by cases q⟩
    have e13 := e2.trans e3
    have h3 := e3 _ _ h2
    refine ⟨fun σ2 H2 => ∃ m', m' < (Mg.heads rows).length + 1 - pa.length ∧ ∃ (pa : List Addr) (v2 : Option V), σ2 = [some (.ref p), some (.ref pt), v2, none] ∧ Ex H H2 ∧ H2 pt = some (.lst (refs pa)) ∧ pa ≠ [] ∧ pa.Nodup ∧ (∀ x, x ∈ pa → x ∈ Mg.heads rows) ∧
      (∀ (j : Nat) (x y : Addr), pa[j]? = some x → pa[j + 1]? = some y → Mg.Before rows y x) ∧ m' = (Mg.heads rows).length + 1 - pa.length, fun _ _ z => z, ?_⟩
    have hat : atI (refs pa) (-1) = some (.ref lst) := by
      have lr : (refs pa).length = pa.length := by unfold refs; rw [List.length_map]
      unfold atI ixN
      rw [lr, if_neg (by decide), if_pos (by omega)]
      show (refs pa)[((-1 : Int) + (pa.length : Int)).toNat]? = _
      rw [show ((-1 : Int) + (pa.length : Int)).toNat = pa.length - 1 by omega]
      exact at_refs hlst
    have hpaK : ∀ H3, Ex H2 H3 → ∀ x, x ∈ pa → KO (kC K) H3 x := fun H3 e x hx => (hko x (phd x hx)).ex (e13.trans e)
    refine q_asg (v := .ref h) ?_ fun H3 e4 => ?_
    · have := ev_hrw (ta := tOp (rIxL K) (tVar 1) (tUn (rU fun i => .int (-i)) (tC (.int 1)))) (tb := tVar 0) (σ := [some (.ref p), some (.ref pt), v2, none]) (k := lst) (ev_op (ev_var rfl) (ev_un ev_c ru_neg) (rv_ixL (sq_of h3) hat)) (ev_var rfl) (R.exL e13) nn (ks.ex e13) ((hko _ hlm).ex e13)
      rw [hh] at this
      exact this
    have e14 := e13.trans e4
    have h4 := e4 _ _ h3
    have hK4 := hpaK H3 e4
    have hhK := (hko h hhm).ex e14
    refine q_when (et_test (ev_op (ev_var rfl) (ev_var rfl) (rv_in_id (neg := false) (.inl (sq_of h4)) hhK hK4))) (fun hb H4 e5 => ?_) (fun hb H4 e5 => ?_)
    · have hmem : h ∈ pa := of_decide_eq_true hb
      have hix : pa.idxOf h < pa.length := List.idxOf_lt_length_of_mem hmem
      have hiat : pa[pa.idxOf h]? = some h := by
        rw [List.getElem?_eq_getElem hix, List.getElem_idxOf hix]
      have h5 := e5 _ _ h4
      have e15 := e14.trans e5
      have lr : (refs pa).length = pa.length := by unfold refs; rw [List.length_map]
      refine q_asgL (xs := refs (pa.drop (pa.idxOf h))) ?_ fun pr H5 hpr e6 h6 => ?_
      · have := el_sl (K := K) (te := tVar 1) (σ := [some (.ref p), some (.ref pt), some (.ref h), none]) (H := H4) (xs := refs pa) (tl := tPart (tBM K "list" (rIndexI (kC K) (SqL K)) (tVar 1) (tCons (tVar 2) tNil))) (th := tNoPart) (lo := some ((pa.idxOf h : Nat) : Int)) (hi := none) (a := pt) (ev_var rfl) (eo_some fun H5 e6 Q q => by
          refine ⟨.ref pt, rfl, .inl ⟨rfl, _, sq_of (e6 _ _ h5)⟩, _, rfl, pt, .ref h, refs pa, rfl, rfl, sq_of (e6 _ _ h5), (hhK.ex (e5.trans e6)).id, ids fun x hx => (hK4 x hx).ex (e5.trans e6), mem_refs.mpr hmem, ?_⟩
          rw [idx_refs]
          exact q H5 (Ex.refl H5)) eo_none (sq_of h5)
        rw [cut_drop (by omega)] at this
        unfold refs at this ⊢
        rw [List.map_drop]
        exact this
      refine ⟨_, rfl, pr, _, rfl, sq_of h6, fun pv hpv => ⟨pv, _, rfl, .inl ⟨sq_of upd_same, fun t ht => ?_⟩⟩⟩
      have hrev : (refs (pa.drop (pa.idxOf h))).reverse = refs (pa.drop (pa.idxOf h)).reverse := by
        unfold refs
        rw [List.map_reverse]
      have hmm : ∀ a, a ∈ (pa.drop (pa.idxOf h)).reverse → a ∈ pa := fun a ha => List.mem_of_mem_drop (List.mem_reverse.mp ha)
      have ht5 : H5 t = none := fresh_back (Ex.new hpv) ht
      refine fin t (pa.drop (pa.idxOf h)).reverse _ (fresh_back (e15.trans e6) ht5) (((e15.trans e6).trans (Ex.new hpv)).trans (Ex.new ht)) (by rw [upd_same, hrev]) ?_ (fun a ha => hin a (phd a (hmm a ha))) (by rw [List.length_reverse, List.length_drop]; omega)
      refine Mg.ring_of chain (fun x hx => ?_) hiat fun x hx => ?_
      · have : x = lst := Option.some.inj (hx.symm.trans hlst)
        rw [this]
        exact Mg.hrw_before hh
      · have : x = lst := Option.some.inj (hx.symm.trans hlst)
        rw [this]
        exact hnl
    · have hmem : h ∉ pa := of_decide_eq_false hb
      refine s_app (e5 _ _ h4) (ev_var rfl) (ev_var rfl) (by unfold refs; rw [List.length_map]; omega) fun H5 e6 => ?_
      have nd' : (pa ++ [h]).Nodup := List.nodup_append.mpr ⟨pnd, by simp, fun a ha b hb => by
        obtain rfl := List.mem_singleton.mp hb
        exact fun e => hmem (e ▸ ha)⟩
      have hd' : ∀ x, x ∈ pa ++ [h] → x ∈ Mg.heads rows := fun x hx => by
        rcases List.mem_append.mp hx with hx | hx
        · exact phd x hx
        · obtain rfl := List.mem_singleton.mp hx
          exact hhm
      have pl' := nodup_len _ _ nd' hd'
      rw [List.length_append] at pl'
      refine ⟨_, ?_, pa ++ [h], _, rfl, Ex.mut ((e14.trans e5).trans e6) hpt, by rw [upd_same]; unfold refs; simp, by simp, nd', hd', fun j x y a b => ?_, rfl⟩
      · rw [List.length_append]
        simp at pl' ⊢
        omega
      · by_cases hj : j + 1 < pa.length
        · rw [List.getElem?_append_left (by omega)] at a
          rw [List.getElem?_append_left hj] at b
          exact chain j x y a b
        · have hj1 : j + 1 < (pa ++ [h]).length := (List.getElem?_eq_some_iff.mp b).1
          rw [List.length_append] at hj1
          have hj2 : j = pa.length - 1 := by simp at hj1; omega
          subst hj2
          rw [List.getElem?_append_left (by omega)] at a
          have : x = lst := Option.some.inj (a.symm.trans hlst)
          subst this
          rw [List.getElem?_append_right (by omega)] at b
          have : y = h := by
            rw [show pa.length - 1 + 1 - pa.length = 0 by omega] at b
            simpa using b.symm
          subst this
          exact Mg.hrw_before hh
end
end K52
end

section
set_option Elab.async false
set_option linter.all false
set_option maxRecDepth 100000
set_option maxHeartbeats 4000000
namespace K52
open PySem PySem.Spec PyProof.Rows L2 He Cn Evl
/-- a kind as it stands when it is made: its line l, no member of its own, not frozen -/
def KdAt (K : PySem.W.Frag) (H : Hp) (a : Addr) (l : List Addr) : Prop := ∃ (dx q m : Addr) (fs : List (Str × V)), H a = some (.ins (kC K) dx fs) ∧ fs.lookup ("line" : Str) = some (.ref q) ∧ SqD K H q (refs l) ∧
  fs.lookup ("own_members" : Str) = some (.ref m) ∧ SqT K H m [] ∧ fs.lookup ("frozen" : Str) = some (.bl false)
theorem KdAt.ex {K : PySem.W.Frag} {H H' : Hp} {a : Addr} {l : List Addr} (e : Ex H H') (h : KdAt K H a l) : KdAt K H' a l := by
  obtain ⟨dx, q, m, fs, h1, h2, h3, h4, h5, h6⟩ := h
  exact ⟨dx, q, m, fs, e _ _ h1, h2, h3.ex e, h4, ex_t e h5, h6⟩
theorem KdAt.ko {K : PySem.W.Frag} {H : Hp} {a : Addr} {l : List Addr} (h : KdAt K H a l) : KO (kC K) H a := by
  obtain ⟨dx, q, m, fs, h1, _⟩ := h
  exact ⟨dx, fs, h1⟩
theorem ev_fld {K : PySem.W.Frag} {σ : L2.St} {H : Hp} {te : TE} {a C dx : Addr} {fs : List (Str × V)} {f : Str} {v : V} (h : Ev te σ H (.ref a)) (ha : H a = some (.ins C dx fs)) (c : Cls K C) (n : NoAttr K C f) (l : fs.lookup f = some v) : Ev (tFld K te f) σ H v := fun H1 e Q q =>
  h H1 e _ fun H2 e2 => ⟨a, C, dx, fs, v, rfl, (e.trans e2) _ _ ha, c, n, l, q H2 e2⟩
theorem el_cat {σ : L2.St} {H : Hp} {ta tb : TE} {xs ys : List V} (ha : EvL ta σ H xs) (hb : EvL tb σ H ys) (hz : xs.length + ys.length ≤ 100000) : EvL (tOp rCat ta tb) σ H (xs ++ ys) := fun H1 e Q q =>
  ha H1 e _ fun p1 H2 hp1 e2 h1 => hb H2 (e.trans e2) _ fun p2 H3 hp2 e3 h2 => ⟨p1, p2, xs, ys, rfl, rfl, e3 _ _ h1, h2, sz_of hz, fun p3 hp3 => q p3 _ (fresh_back (e2.trans e3) hp3) ((e2.trans e3).trans (Ex.new hp3)) upd_same⟩
section
variable {P : Program} {w : World} {K : PySem.W.Frag} {mg : Str → Option Value} {base : Heap}
/-! ### the error -/
def spIK (K : PySem.W.Frag) : Sp := fun vs H Q _ => ∃ (a : Addr) (r it : V), vs = [.ref a, r, it] ∧ H a = some (exo a (kE K) none) ∧
  ∀ (d : Addr) (H' : Hp), H d = none → d ≠ a → H' a = some (exo a (kE K) (some d)) → H' d = some (exd d [("item", it), ("rule", r)]) → (∀ b o, H b = some o → b ≠ a → H' b = some o) → Q .non H'
theorem ok_ik (T : Txt K mg) : ∃ fd, FnOk P w K mg base CX0 1 (ma K (kE K) "__init__") fd ["self", "rule", "item"] (spIK K) ∧ Binds K fd ["self", "rule", "item"] [] := by
  obtain ⟨fd, F⟩ := T.F_InvalidKind_init
  refine ⟨fd, F.ok sc_InvalidKind_init (fun vs H Q E h => ?_) (fun cdv A outer s H vs Q E hr h => ?_), ?_⟩
  · obtain ⟨a, r, it, rfl, _⟩ := h
    rfl
  · obtain ⟨a, r, it, rfl, ha, k⟩ := h
    refine ⟨_, pss_cons (ps_ost (pv 0) (pv 1)) (pss_one (ps_ost (pv 0) (pv 2))), ?_⟩
    refine ⟨_, rfl, _, rfl, a, kE K, rfl, T.oex, T.e_rule, .inl ⟨ha, fun d hd hda => ?_⟩⟩
    refine ⟨_, rfl, _, rfl, a, kE K, rfl, T.oex, T.e_item, .inr ⟨d, _, upd_same, by rw [upd_ne hda, upd_same], by show 1 ≤ 900; decide, ?_⟩⟩
    refine k d _ hd hda (by rw [upd_ne (Ne.symm hda), upd_same]) upd_same fun b o e hb => ?_
    rw [upd_ne (ne_of_none e hd), upd_ne hb, upd_ne (ne_of_none e hd)]
    exact e
  · obtain ⟨ds, hv, hb⟩ := F.binds1 (ps := ["self", "rule", "item"]) 3 1 (by simp [He5.DefA.dvs, d_InvalidKind_init]) rfl (fun T kV doc pm an cdv ct us its h1 h2 => match us, its, h1, h2 with | [_, _, _], [_], _, _ => ⟨_, rfl, rfl⟩)
    have : ds = [] := by
      have hv : Vals [] ds := hv
      cases hv
      rfl
    rw [this] at hb
    exact hb
theorem ik_then {H1 : Hp} {r it : V} {Q : XK} (k : ∀ (d : Addr) (H' : Hp), H1 d = none → Ex H1 H' → H' d = some (.xd [("item", it), ("rule", r)]) → Q (.ref (kE K)) (some d) H') :
    ([r, it] : List V).length ≤ 1000 ∧ ∀ a, H1 a = none → spIK K (.ref a :: ([r, it] ++ [])) (upd H1 a (exo a (kE K) none))
      (fun v H2 => v = .non ∧ ∃ (d : Addr) (fs : List (Str × V)), H2 a = some (exo a (kE K) (some d)) ∧ H2 d = some (exd d fs) ∧ H1 d = none ∧ Q (.ref (kE K)) (some d) (upd (del H2 a) d (.xd fs))) (fun _ _ _ => False) := by
  refine ⟨by show 2 ≤ 1000; decide, fun a ha => ⟨a, r, it, rfl, upd_same, fun d H' hd hda ha' hd' fr => ⟨rfl, d, _, ha', hd', ?_, ?_⟩⟩⟩
  · rw [upd_ne hda] at hd
    exact hd
  · rw [upd_ne hda] at hd
    refine k d _ hd (fun b o e => ?_) upd_same
    rw [upd_ne (ne_of_none e hd), del_ne (ne_of_none e ha)]
    refine fr b o ?_ (ne_of_none e ha)
    rw [upd_ne (ne_of_none e ha)]
    exact e
/-! ### the rows of the line -/
def Tops (K : PySem.W.Frag) (H : Hp) (t : Addr) (tops : List Addr) (lines : List (List Addr)) : Prop := SqT K H t (refs tops) ∧ tops.length = lines.length ∧ ∀ (i : Nat) (a : Addr) (l : List Addr), tops[i]? = some a → lines[i]? = some l → KdAt K H a l
theorem Tops.ex {H H' : Hp} {t : Addr} {tops : List Addr} {lines : List (List Addr)} (e : Ex H H') (h : Tops K H t tops lines) : Tops K H' t tops lines := by
  obtain ⟨h1, h2, h3⟩ := h
  exact ⟨ex_t e h1, h2, fun i a l ha hl => (h3 i a l ha hl).ex e⟩
/-- S: what is known of the tuples -/
def spRowsOf (K : PySem.W.Frag) (S : Hp → Addr → List V → Prop) : Sp := fun vs H Q _ => ∃ (t : Addr) (tops : List Addr) (lines : List (List Addr)), vs = [.ref t] ∧ Tops K H t tops lines ∧ S H t (refs tops) ∧ tops.length ≤ 30 ∧
  ∀ p H', H p = none → Ex H H' → Rw K S H' p (lines ++ [tops]) → Q (.ref p) H'
theorem can_rowsOf {S : Hp → Addr → List V → Prop} (hSD : ∀ H q xs, SqD K H q xs → S H q xs) (hSe : ∀ H H' q xs, Ex H H' → S H q xs → S H' q xs) (T : Txt K mg) : Can P w K mg base CX0 1 "_rows_of" ["above"] (spRowsOf K S) := by
  refine can_of T.g__rows_of T.F__rows_of (fun fd F => ?_) (fun _ _ _ _ _ _ us hl => match us, hl with | [_], _ => rfl)
  refine F.ok sc__rows_of (fun vs H Q E h => ?_) (fun cdv A outer s H vs Q E hr h => ?_)
  · obtain ⟨t, tops, lines, rfl, _⟩ := h
    rfl
  · obtain ⟨t, tops, lines, rfl, ⟨hT, hl, hk⟩, hST, hz, fin⟩ := h
    have nd := sc__rows_of.nd
    refine ⟨_, pss_one (ps_ret (pe_op op_cat (pe_lc (own := [("kind", 1)]) (wi := iTup K (tVar 0)) (g := gName 1) (tt := tYes) (te := tFld K (tVar 1) "line") rfl nd (pi_tup (pv 0)) (blkOk_by (N := ["above", "kind"]) (sc := defScope s__rows_of) (by decide +kernel)) (fun _ _ _ _ _ => pg_name (i := 1) nd rfl (.inl rfl)) (fun _ _ _ _ _ => pts_nil) (fun _ _ _ _ _ => pe_fld (pv 1) rfl)) (pe_lst (pa_cons (pv 0) pa_nil)))), ?_⟩
    have ex1 : ∀ i : Nat, ∃ q : Addr, ∀ (a : Addr) (l : List Addr), tops[i]? = some a → lines[i]? = some l → ∃ dx fs, H a = some (.ins (kC K) dx fs) ∧ fs.lookup ("line" : Str) = some (.ref q) ∧ S H q (refs l) := fun i => by
      cases ha : tops[i]? with
      | none => exact ⟨0, fun a l h => by cases h⟩
      | some a =>
        cases hl' : lines[i]? with
        | none => exact ⟨0, fun a l _ h => by cases h⟩
        | some l =>
          obtain ⟨dx, q, m, fs, h1, h2, h3, _⟩ := hk i a l ha hl'
          refine ⟨q, fun a' l' e1 e2 => ?_⟩
          obtain rfl := Option.some.inj e1
          obtain rfl := Option.some.inj e2
          exact ⟨dx, fs, h1, h2, hSD _ _ _ h3⟩
    obtain ⟨f, hf⟩ := Classical.axiomOfChoice ex1
    have lr : (refs tops).length = tops.length := by unfold refs; rw [List.length_map]
    have hA := el_lcK (K := K) wk_tup (tl := tVar 0) (σ := [some (.ref t), none]) (H := H) (j := 1) (t := tYes) (te := tFld K (tVar 1) "line") (vs := [1]) (ev_var rfl) hT (fun _ => true) (fun i => .ref (f i)) (by omega) (fun x => rfl) (fun i x H1 _ _ => fun H2 _ Q q => q H2 (Ex.refl H2)) (fun i x H1 e hx _ => by
      obtain ⟨a, ha, rfl⟩ := refs_at hx
      obtain ⟨l, hli⟩ := at_some (l := lines) (i := i) (by have := (List.getElem?_eq_some_iff.mp ha).1; omega)
      obtain ⟨dx, fs, h1, h2, _⟩ := hf i a l ha hli
      exact ev_fld (ev_var rfl) (e _ _ h1) T.cls T.a_line h2)
    rw [lr, given_all] at hA
    refine s_retL (el_cat hA (el_lst (vs := [.ref t]) (ea_cons (ev_var rfl) ea_nil) (by show 1 ≤ 100000; decide)) (by simp; omega)) fun p3 H3 hp3 e13 h3 => ?_
    refine fin p3 _ hp3 e13 ⟨(List.range tops.length).map f ++ [t], sq_of (by rw [h3]; unfold refs; rw [List.map_append, List.map_map]; rfl), by simp; omega, fun i q r hq hr => ?_⟩
    by_cases hi : i < tops.length
    · rw [List.getElem?_append_left (by rw [List.length_map, List.length_range]; exact hi)] at hq
      rw [List.getElem?_append_left (by omega)] at hr
      rw [List.getElem?_map, List.getElem?_range hi] at hq
      obtain rfl := Option.some.inj hq
      obtain ⟨a, ha⟩ := at_some hi
      obtain ⟨dx, fs, _, _, h3⟩ := hf i a r ha hr
      exact hSe _ _ _ _ e13 h3
    · rw [List.getElem?_append_right (by rw [List.length_map, List.length_range]; omega)] at hq
      rw [List.getElem?_append_right (by omega)] at hr
      have e1 : i - lines.length = 0 := by
        have := (List.getElem?_eq_some_iff.mp hr).1
        simp at this
        omega
      rw [e1] at hr
      rw [List.length_map, List.length_range, hl, e1] at hq
      obtain rfl : t = q := by simpa using hq
      obtain rfl : tops = r := by simpa using hr
      exact hSe _ _ _ _ e13 hST
end
end K52
end

section
set_option Elab.async false
set_option linter.all false
set_option maxRecDepth 100000
set_option maxHeartbeats 4000000
namespace K52
open PySem PySem.Spec PyProof.Rows L2 He Cn Evl
section
variable {P : Program} {w : World} {K : PySem.W.Frag} {mg : Str → Option Value} {base : Heap}
/-- what a refusal of the line tells -/
def LineErr (K : PySem.W.Frag) (H : Hp) (rows : List (List Addr)) (E : XK) : Prop := ∀ (d t : Addr) (ring : List Addr) (H' : Hp), H d = none → Ex H H' → H' d = some (.xd [("item", .ref t), ("rule", .str "line")]) → H' t = some (.tup (refs ring)) →
  Mg.Ring rows ring → (∀ a, a ∈ ring → ∃ r, r ∈ rows ∧ a ∈ r) → ring.length ≤ 40 → E (.ref (kE K)) (some d) H'
def spLineAbove (K : PySem.W.Frag) : Sp := fun vs H Q E => ∃ (t : Addr) (tops cs : List Addr) (lines : List (List Addr)) (k : Nat), vs = [.ref t] ∧ Tops K H t tops lines ∧ tops.length ≤ 30 ∧ Mg.Nd (lines ++ [tops]) ∧ (∀ l, l ∈ lines → l.length ≤ 40) ∧ Ks (kC K) H (lines ++ [tops]) ∧
  Mg.Within cs (lines ++ [tops]) ∧ Mg.cnt cs (lines ++ [tops]) < k ∧ k ≤ 1000 ∧
  (∀ l, Mg.merge k (lines ++ [tops]) = some l → ∀ p H', H p = none → Ex H H' → H' p = some (.lst (refs l)) → Q (.ref p) H') ∧
  (Mg.merge k (lines ++ [tops]) = none → LineErr K H (lines ++ [tops]) E)
theorem can_lineAbove (T : Txt K mg) : Can P w K mg base (L2.CX P w) 3 "line_above" ["above"] (spLineAbove K) := by
  have CR : Can P w K mg base CX0 1 "_rows_of" ["above"] (spRowsOf K (SqT K)) := can_rowsOf (fun _ _ _ h => h.1) (fun _ _ _ _ e h => ex_t e h) T
  have CWT : Can P w K mg base CX0 1 "_without" ["head", "rows"] (spWithout K (SqT K)) := can_withoutT T
  have CWL : Can P w K mg base CX0 1 "_without" ["head", "rows"] (spWithout K (SqL K)) := can_withoutL T
  have CF : Can P w K mg base CX0 2 "_free_head" ["rows"] (spFreeHead K) := can_freeHead T
  have CG : Can P w K mg base CX0 2 "_ring_in" ["rows"] (spRingIn K) := can_ringIn T
  obtain ⟨fdI, FI, bI⟩ := ok_ik (P := P) (w := w) (base := base) T
  refine can_of T.g_line_above T.F_line_above (fun fd F => ?_) (fun _ _ _ _ _ _ us hl => match us, hl with | [_], _ => rfl)
  refine F.okX sc_line_above (fun vs H Q E h => ?_) (fun cdv A outer s H vs Q E hr h => ?_)
  · obtain ⟨t, tops, cs, lines, k, rfl, _⟩ := h
    rfl
  · obtain ⟨t, tops, cs, lines, k, rfl, hT, hz, ndr, hll, ks, hw, hc, hk, fin, err⟩ := h
    have nd := sc_line_above.nd
    refine ⟨_, pss_cons (ps_set (i := 1) nd rfl (.inl rfl) (pe_can CWT hr pass0 (pa_cons pe_non (pa_cons (pe_can CR hr pass0 (pa_cons (pv 0) pa_nil)) pa_nil))))
      (pss_cons (ps_set (i := 2) nd rfl (.inl rfl) (pe_lst pa_nil))
      (pss_cons (ps_while (passes_of rfl) (pt_truth (pv 1) (by intro _; rfl))
        (pss_cons (ps_set (i := 3) nd rfl (.inl rfl) (pe_can CF hr pass0 (pa_cons (pv 1) pa_nil)))
        (pss_cons (ps_if (pt_cmp (pc_isN (pv 3)))
          (pss_one (ps_raise rfl (takes_of rfl rfl rfl rfl) (pmk_oex T.oex T.mInit.at_ T.tInit FI (hr.mono (by decide)) bI .nil pass0 rfl T.g_InvalidKind (pa_cons pe_str (pa_cons (pe_can CG hr pass0 (pa_cons (pv 1) pa_nil)) pa_nil))))) pss_nil)
        (pss_cons (ps_expr (pe_bm PySem.F.plainAttrs_list PySem.F.slot_list_append PySem.F.type_list_append mt_append (pv 2) (pa_cons (pv 3) pa_nil)))
        (pss_one (ps_set (i := 1) nd rfl (.inl rfl) (pe_can CWL hr pass0 (pa_cons (pv 3) (pa_cons (pv 1) pa_nil)))))))))
      (pss_one (ps_ret (pv 2))))), ?_⟩
    generalize hr0 : lines ++ [tops] = rows0 at *
    have hlen0 : rows0.length ≤ 31 := by
      rw [← hr0, List.length_append, ← hT.2.1]
      simp
      exact hz
    have hrl0 : ∀ r, r ∈ rows0 → r.length ≤ 40 := fun r hr => by
      rw [← hr0] at hr
      rcases List.mem_append.mp hr with q | q
      · exact hll r q
      · rw [List.mem_singleton.mp q]
        omega
    refine ⟨_, rfl, t, tops, lines, rfl, hT, hT.1, hz, fun pr H1 hpr e1 R1 => ?_⟩
    rw [hr0] at R1
    refine ⟨none, pr, rows0, rfl, R1, ks.ex e1, (fun _ h => by cases h), by omega, hrl0, fun p1 H2 hp1 e2 R2 => ?_⟩
    have e12 := e1.trans e2
    refine q_asgL (el_lst ea_nil (by decide)) fun pl H3 hpl e3 h3 => ?_
    have e13 := e12.trans e3
    have hplH : H pl = none := fresh_back e12 hpl
    refine q_while (fun m σ' H' => ∃ (rows : List (List Addr)) (p : Addr) (acc : List Addr) (v3 : Option V) (G : Hp), σ' = [some (.ref t), some (.ref p), some (.ref pl), v3] ∧ Ex H H' ∧ H' pl = some (.lst (refs acc)) ∧ Ex G H' ∧ G pl = none ∧ Rw K (SqL K) G p rows ∧ Mg.NoNil rows ∧ Mg.Nd rows ∧
      rows.length ≤ 31 ∧ (∀ r, r ∈ rows → r.length ≤ 40) ∧ (∀ x, (∃ r, r ∈ rows ∧ x ∈ r) → ∃ r, r ∈ rows0 ∧ x ∈ r) ∧ (∀ x y, Mg.Before rows x y → Mg.Before rows0 x y) ∧ Mg.Within cs rows ∧ Mg.cnt cs rows < m ∧ Mg.merge k rows0 = (Mg.merge m rows).map (acc ++ ·) ∧ acc.length + m ≤ 1000)
      k ?_ ?_
    · refine ⟨Mg.wo none rows0, p1, [], none, newp H1 H2, rfl, e13, h3, newp_ex.trans e3, ?_, R2, Mg.nonil_full _, Mg.wo_nd ndr, Nat.le_trans Mg.wo_len hlen0, Mg.wo_rlen hrl0, fun x hx => Mg.wo_in hx, fun x y b => Mg.wo_before ndr b, Mg.wo_within hw, ?_, ?_, by simpa using hk⟩
      · cases q : newp H1 H2 pl with
        | none => rfl
        | some o =>
          have := newp_ex _ _ q
          rw [hpl] at this
          cases this
      · show Mg.cnt cs (Mg.full rows0) < k
        rw [Mg.cnt_full]
        exact hc
      · show _ = (Mg.merge k (Mg.full rows0)).map _
        rw [Mg.merge_full]
        cases Mg.merge k rows0 <;> simp
    rintro m σ' H' ⟨rows, p, acc, v3, G, rfl, e4, h4, eG, hGp, R, nn, ndr2, l1, l2, hin, hbf, hw2, hc2, hm, hac⟩
    obtain ⟨ps, hps, hpl2, _⟩ := id R
    refine ⟨!rows.isEmpty, et_tru (x := .ref p) (ev_var rfl) fun H5 e5 => .inl ⟨refs ps, ex_l (eG.trans e5) hps, ?_⟩, fun hb H5 e5 => ?_, fun hb H5 e5 => ?_⟩
    · cases rows <;> cases ps <;> first | rfl | (simp at hpl2)
    · have rne : rows ≠ [] := by
        intro q
        rw [q] at hb
        cases hb
      have hne := Mg.heads_ne nn rne
      obtain ⟨m', rfl⟩ : ∃ m', m = m' + 1 := ⟨m - 1, by omega⟩
      refine ⟨fun σ2 H2 => ∃ m2, m2 < m' + 1 ∧ ∃ (rows : List (List Addr)) (p : Addr) (acc : List Addr) (v3 : Option V) (G : Hp), σ2 = [some (.ref t), some (.ref p), some (.ref pl), v3] ∧ Ex H H2 ∧ H2 pl = some (.lst (refs acc)) ∧ Ex G H2 ∧ G pl = none ∧ Rw K (SqL K) G p rows ∧ Mg.NoNil rows ∧ Mg.Nd rows ∧
        rows.length ≤ 31 ∧ (∀ r, r ∈ rows → r.length ≤ 40) ∧ (∀ x, (∃ r, r ∈ rows ∧ x ∈ r) → ∃ r, r ∈ rows0 ∧ x ∈ r) ∧ (∀ x y, Mg.Before rows x y → Mg.Before rows0 x y) ∧ Mg.Within cs rows ∧ Mg.cnt cs rows < m2 ∧ Mg.merge k rows0 = (Mg.merge m2 rows).map (acc ++ ·) ∧ acc.length + m2 ≤ 1000, fun _ _ z => z, ?_⟩
      have e45 := e4.trans e5
      have ks2 : ∀ {H6 : Hp}, Ex H H6 → Ks (kC K) H6 rows := fun e r hr a ha => by
        obtain ⟨r', hr', ha'⟩ := hin a ⟨r, hr, ha⟩
        exact (ks r' hr' a ha').ex e
      refine q_asg (v := optR (Mg.frees rows).head?) (ev_call (ea_cons (ev_var rfl) ea_nil) fun H6 e6 Q q E => ⟨p, rows, rfl, R.exL ((eG.trans e5).trans e6), nn, ndr2, ks2 (e45.trans e6), fun H7 e7 => q H7 e7⟩) fun H6 e6 => ?_
      have e46 := e45.trans e6
      have eG6 := (eG.trans e5).trans e6
      have h6 := e6 _ _ (e5 _ _ h4)
      refine q_when (et_is (et_isN (ev_var rfl)) (optR_non _)) (fun hb2 H7 e7 => ?_) (fun hb2 H7 e7 => ?_)
      · -- the line stops
        have hf : Mg.frees rows = [] := by
          cases q : Mg.frees rows with
          | nil => rfl
          | cons a l => rw [q] at hb2; cases hb2
        rw [Mg.merge_stuck hne hf] at hm
        have er := err hm
        refine ⟨_, rfl, p, rows, rfl, R.exL (eG6.trans e7), nn, ndr2, ks2 (e46.trans e7), rne, hf, by omega, fun t2 ring H8 ht2 e8 h8 hR hin2 hlr => ?_⟩
        refine ik_then fun d H9 hd e9 h9 => ?_
        exact er d t2 ring H9 (fresh_back ((e46.trans e7).trans e8) hd) (((e46.trans e7).trans e8).trans e9) h9 (e9 _ _ h8) (hR.imp hbf) (fun a ha => hin a (hin2 a ha)) hlr
      · obtain ⟨h, hh⟩ : ∃ h, (Mg.frees rows).head? = some h := by
          cases q : (Mg.frees rows).head? with
          | none => rw [q] at hb2; cases hb2
          | some h => exact ⟨h, rfl⟩
        obtain ⟨tl, htl⟩ : ∃ tl, Mg.frees rows = h :: tl := by
          cases q : Mg.frees rows with
          | nil => rw [q] at hh; cases hh
          | cons a l =>
            rw [q] at hh
            obtain rfl := Option.some.inj hh
            exact ⟨l, rfl⟩
        rw [hh]
        have hcd := Mg.wo_cnt hw2 htl
        refine q_app (e7 _ _ h6) (ev_var rfl) (v := .ref h) (ev_var rfl) (by unfold refs; rw [List.length_map]; omega) fun H8 e8 => ?_
        have hG8 : Ex G (upd H8 pl (.lst (refs acc ++ [.ref h]))) := Ex.mut ((eG6.trans e7).trans e8) hGp
        have hH8 : Ex H (upd H8 pl (.lst (refs acc ++ [.ref h]))) := Ex.mut ((e46.trans e7).trans e8) hplH
        have hha : ∃ r, r ∈ rows ∧ h ∈ r := by
          obtain ⟨t', ht'⟩ := Mg.mem_heads.mp (Mg.frees_head htl).1
          exact ⟨_, ht', List.mem_cons_self ..⟩
        refine ⟨_, rfl, _, rfl, some h, p, rows, rfl, R.exL hG8, ks2 hH8, fun a ha => ?_, by omega, l2, fun p' H9 hp' e9 R9 => ?_⟩
        · obtain rfl := Option.some.inj ha
          obtain ⟨r, hr, hx⟩ := hha
          exact ks2 hH8 r hr _ hx
        refine ⟨m', Nat.lt_succ_self _, Mg.wo (some h) rows, p', acc ++ [h], _, _, rfl, hH8.trans e9, e9 _ _ (by rw [upd_same]; unfold refs; simp), newp_ex, newp_no upd_same, R9, Mg.nonil_full _, Mg.wo_nd ndr2, Nat.le_trans Mg.wo_len l1, Mg.wo_rlen l2, fun x hx => hin x (Mg.wo_in hx), fun x y b => hbf x y (Mg.wo_before ndr2 b), Mg.wo_within hw2, by omega, ?_, by rw [List.length_append]; simp; omega⟩
        rw [hm, Mg.merge_step htl]
        cases Mg.merge m' (Mg.wo (some h) rows) <;> simp
    · have rne : rows = [] := by
        cases rows with
        | nil => rfl
        | cons a l => cases hb
      subst rne
      obtain ⟨m', rfl⟩ : ∃ m', m = m' + 1 := ⟨m - 1, by omega⟩
      rw [Mg.merge_done] at hm
      refine s_ret (ev_var rfl) fun H6 e6 => ?_
      exact fin acc (by rw [hm]; simp) pl H6 hplH ((e4.trans e5).trans e6) (e6 _ _ (e5 _ _ h4))
end
end K52
end

section
set_option Elab.async false
set_option linter.all false
set_option maxRecDepth 100000
set_option maxHeartbeats 4000000
namespace K52
open PySem PySem.Spec PyProof.Rows L2 He Cn Evl
section
variable {P : Program} {w : World} {K : PySem.W.Frag} {mg : Str → Option Value} {base : Heap}
theorem ty_kind (T : Txt K mg) {H : Hp} {a : Addr} (h : KO (kC K) H a) : TyX K H (.ref a) (.ref (kC K)) := by
  obtain ⟨dx, fs, e⟩ := h
  obtain ⟨h1, h2⟩ := He.ba T.ins
  obtain ⟨h2, h3⟩ := He.ba h2
  obtain ⟨h3, h4⟩ := He.ba h3
  exact .base (.ins e T.cls (eqO_ok h1) (eqO_ok h2) (of_decide_eq_true h3) (of_decide_eq_true h4))
theorem ev_isL (T : Txt K mg) {σ : L2.St} {H : Hp} {ta : TE} {a : Addr} (h : Ev ta σ H (.ref a)) (hk : KO (kC K) H a) : Ev (tCB (rIsi K) (tCons ta (tCons (tC (.ref (ga K "Lined"))) tNil))) σ H (.bl true) :=
  ev_cb (ea_cons h (ea_cons ev_c ea_nil)) fun H1 e Q q => ⟨.ref a, .ref (ga K "Lined"), .ref (kC K), .ref (ga K "Lined"), true, rfl, .own _, ty_kind T (hk.ex e), T.isL, q H1 (Ex.refl H1)⟩
def S0 (K : PySem.W.Frag) : List V → Hp → VK → Prop := fun vs H Q => ∃ (a : Addr) (bs : List Bool), vs = [V.ref a] ∧ SqL K H a (bs.map V.bl) ∧ Q (.bl (bs.any id)) H
theorem ev_any {σ : L2.St} {H : Hp} {tl : TE} {bs : List Bool} (h : EvL tl σ H (bs.map V.bl)) : Ev (tCB (rAny K) (tCons tl tNil)) σ H (.bl (bs.any id)) := fun H1 e Q q =>
  h H1 e _ fun p H2 _ e2 h2 => ⟨p, bs, rfl, sq_of h2, q H2 e2⟩
theorem Rw.imp {S S' : Hp → Addr → List V → Prop} {H H' : Hp} {p : Addr} {rows : List (List Addr)} (R : Rw K S H p rows) (h : ∀ q xs, S H q xs → S' H' q xs) (e : Ex H H') : Rw K S' H' p rows := by
  obtain ⟨ps, h1, h2, h3⟩ := R
  exact ⟨ps, ex_l e h1, h2, fun i q r a b => h q _ (h3 i q r a b)⟩
theorem ev_tix {σ : L2.St} {H : Hp} {to ta : TE} {q a : Addr} {r : List Addr} (ho : Ev to σ H (.ref q)) (ha : Ev ta σ H (.ref a)) (hS : SqD K H q (refs r)) (hk : KO (kC K) H a) (hr : ∀ b, b ∈ r → KO (kC K) H b) (hm : a ∈ r) : Ev (tBMD K (rIndexI (kC K) (SqT K)) to (tCons ta tNil)) σ H (.int ((r.idxOf a : Nat) : Int)) := fun H1 e Q k =>
  ho H1 e _ fun H2 e2 => ⟨⟨q, _, rfl, hS.ex (e.trans e2)⟩, ha H2 (e.trans e2) _ fun H3 e3 => ⟨q, .ref a, refs r, rfl, rfl, ex_t ((e.trans e2).trans e3) hS.1, (hk.ex ((e.trans e2).trans e3)).id, ids fun b hb => (hr b hb).ex ((e.trans e2).trans e3), mem_refs.mpr hm, by
    rw [idx_refs]
    exact k H3 (e2.trans e3)⟩⟩
theorem can_rowsOfD (T : Txt K mg) : Can P w K mg base CX0 1 "_rows_of" ["above"] (spRowsOf K (SqD K)) := can_rowsOf (fun _ _ _ h => h) (fun _ _ _ _ e h => h.ex e) T
end
end K52
end

section
set_option Elab.async false
set_option linter.all false
set_option maxRecDepth 100000
set_option maxHeartbeats 4000000
namespace K52
open PySem PySem.Spec PyProof.Rows L2 He Cn Evl
def gNo : TG := fun _ _ _ _ => False
theorem pg_no {X : Cx} {e : Expr} : PG X e gNo := ⟨fun _ _ _ _ _ _ _ _ _ h => h.elim⟩
section
variable {P : Program} {w : World} {K : PySem.W.Frag} {mg : Str → Option Value} {base : Heap}
theorem ty_tup {H : Hp} {a : Addr} {xs : List V} (h : SqT K H a xs) : TyX K H (.ref a) (.type "tuple") := by
  rcases h with h | ⟨o, its, n, h1, h2, _⟩
  · rcases h with h | ⟨o, h⟩
    · exact .base (.tup h)
    · exact .fTuple h
  · exact .kTuple h1 h2
theorem ev_isT {σ : L2.St} {H : Hp} {ta : TE} {a : Addr} {xs : List V} (h : Ev ta σ H (.ref a)) (hk : SqT K H a xs) : Ev (tCB (rIsi K) (tCons ta (tCons (tC (.ty "tuple")) tNil))) σ H (.bl true) :=
  ev_cb (ea_cons h (ea_cons ev_c ea_nil)) fun H1 e Q q => ⟨.ref a, .ty "tuple", .type "tuple", .type "tuple", true, rfl, .ty _, ty_tup (ex_t e hk), kit_ty (by decide +kernel), q H1 (Ex.refl H1)⟩
/-- no turn at all -/
theorem for_none {K : PySem.W.Frag} {a : Addr} {g : TG} {tb : TS} {D : Ends} {σ : L2.St} {H : Hp} (h : SqT K H a []) (hd : D.nx σ H) :
    ∃ W : Nat → Nat → L2.St → Hp → Prop, (∃ m, W 0 m σ H) ∧ ∀ i m σ H, W i m σ H →
      ((Itt K a).stop i H ∧ D.nx σ H) ∨ ((Itt K a).go i H ∧ ∃ N : L2.St → Hp → Prop, (∀ σ' H', N σ' H' → ∃ m', m' < m ∧ W (i + 1) m' σ' H') ∧ ∀ x H', (Itt K a).yld i H x H' → g x σ H' fun σ2 H2 => tb { D with nx := N, ct := N, bk := D.nx } σ2 H2) :=
  for_tup (fun _ σ' H' => σ' = σ ∧ H' = H) ⟨rfl, rfl⟩ (fun i σ' H' _ ⟨_, e⟩ => by rw [e]; exact h) (fun i x σ' H' hx _ => by simp at hx) (fun σ' H' ⟨e1, e2⟩ => by rw [e1, e2]; exact hd)
/-! ### the checks of a declaration -/
def spChkMembers (K : PySem.W.Frag) : Sp := fun vs H Q _ => ∃ m : Addr, vs = [.ref m] ∧ SqT K H m [] ∧ ∀ H', Ex H H' → Q .non H'
theorem can_chkMembers (T : Txt K mg) : Can P w K mg base CX0 1 "check_members" ["members"] (spChkMembers K) := by
  refine can_of T.g_check_members T.F_check_members (fun fd F => ?_) (fun _ _ _ _ _ _ us hl => match us, hl with | [_], _ => rfl)
  refine F.ok sc_check_members (fun vs H Q E h => ?_) (fun cdv A outer s H vs Q E hr h => ?_)
  · obtain ⟨m, rfl, _⟩ := h
    rfl
  · obtain ⟨m, rfl, hm, fin⟩ := h
    have nd := sc_check_members.nd
    refine ⟨_, pss_cons (ps_if (pt_not (pt_val (pe_callB call_isi (by rfl) T.n_isinstance (by decide +kernel) (pa_cons (pv 0) (pa_cons (pe_bltn rfl T.n_tuple (v := .ty "tuple") (by decide +kernel) rfl) pa_nil))))) (pss_one ps_never) pss_nil)
      (pss_cons (ps_set (i := 1) nd rfl (.inl rfl) (pe_lst pa_nil))
      (pss_one (ps_for PassesOwn.never rfl (pi_enumT (by rfl) T.n_enumerate (pa_cons (pv 0) pa_nil)) pg_no (pss_cons ps_never (pss_cons ps_never (pss_one ps_never)))))), ?_⟩
    refine q_when (et_not (a := true) (et_B (ev_isT (ev_var rfl) hm))) (fun h => by cases h) fun _ H1 e1 => ?_
    refine q_asgL (el_lst ea_nil (by decide)) fun p H2 hp e2 h2 => ?_
    refine ⟨_, rfl, m, [], rfl, ex_t (e1.trans e2) hm, for_it walk_enumT (fun _ σ' H' => Ex H H' ∧ SqT K H' m []) ⟨e1.trans e2, ex_t (e1.trans e2) hm⟩ (fun i σ' H' _ q => q.2) (fun i x σ' H' H'' hi _ _ => absurd hi (Nat.not_lt_zero _)) (fun σ' H' q => fin H' q.1)⟩
def spChkOptions : Sp := fun vs H Q _ => ∃ d : Addr, vs = [.ref d] ∧ H d = some (.dK []) ∧ ∀ H', Ex H H' → Q .non H'
theorem can_chkOptions (T : Txt K mg) : Can P w K mg base CX0 1 "check_options" ["options"] spChkOptions := by
  refine can_of T.g_check_options T.F_check_options (fun fd F => ?_) (fun _ _ _ _ _ _ us hl => match us, hl with | [_], _ => rfl)
  refine F.ok sc_check_options (fun vs H Q E h => ?_) (fun cdv A outer s H vs Q E hr h => ?_)
  · obtain ⟨m, rfl, _⟩ := h
    rfl
  · obtain ⟨d, rfl, hd, fin⟩ := h
    have nd := sc_check_options.nd
    refine ⟨_, pss_one (ps_lock (ps_for PassesOwn.never rfl (pi_keys (pv 0)) pg_no (pss_cons ps_never (pss_one ps_never)))), ?_⟩
    refine ⟨d, _, hd, trivial, fun od => ?_⟩
    refine ⟨_, rfl, d, od, rfl, .inl ⟨[], upd_same, for_it walk_keys (fun _ σ' H' => H' = upd H d (.frz od (.dK []))) rfl (fun i σ' H' _ q => by rw [q]; exact upd_same) (fun i x σ' H' H'' hi _ _ => absurd hi (Nat.not_lt_zero _)) (fun σ' H' q => ?_)⟩⟩
    subst q
    refine ⟨upd_same, fin _ fun b o e => ?_⟩
    by_cases hb : b = d
    · subst hb
      rw [hd] at e
      rw [upd_same]
      exact e
    · rw [upd_ne hb, upd_ne hb]
      exact e
def spChkAbove (K : PySem.W.Frag) : Sp := fun vs H Q _ => ∃ (t : Addr) (tops : List Addr), vs = [.ref t] ∧ SqT K H t (refs tops) ∧ tops.Nodup ∧ (∀ a, a ∈ tops → KO (kC K) H a) ∧ tops.length ≤ 40 ∧ ∀ H', Ex H H' → Q .non H'
theorem can_chkAbove (T : Txt K mg) : Can P w K mg base CX0 1 "check_above" ["above"] (spChkAbove K) := by
  refine can_of T.g_check_above T.F_check_above (fun fd F => ?_) (fun _ _ _ _ _ _ us hl => match us, hl with | [_], _ => rfl)
  refine F.ok sc_check_above (fun vs H Q E h => ?_) (fun cdv A outer s H vs Q E hr h => ?_)
  · obtain ⟨m, tops, rfl, _⟩ := h
    rfl
  · obtain ⟨t, tops, rfl, ht, ndt, hk, hz, fin⟩ := h
    have nd := sc_check_above.nd
    refine ⟨_, pss_cons (ps_if (pt_not (pt_val (pe_callB call_isi (by rfl) T.n_isinstance (by decide +kernel) (pa_cons (pv 0) (pa_cons (pe_bltn rfl T.n_tuple (v := .ty "tuple") (by decide +kernel) rfl) pa_nil))))) (pss_one ps_never) pss_nil)
      (pss_cons (ps_set (i := 1) nd rfl (.inl rfl) (pe_lst pa_nil))
      (pss_one (ps_for PassesOwn.never rfl (pi_enumT (by rfl) T.n_enumerate (pa_cons (pv 0) pa_nil)) (pg_tup rfl (pgs_cons (pg_name (i := 2) nd rfl (.inl rfl)) (pgs_cons (pg_name (i := 3) nd rfl (.inl rfl)) pgs_nil)))
        (pss_cons (ps_if (PW.pt (pw_or (pt_not (pt_val (pe_callB call_isi (by rfl) T.n_isinstance (by decide +kernel) (pa_cons (pv 3) (pa_cons (pe_glob rfl T.g_Lined (v := .ref (ga K "Lined")) rfl) pa_nil))))) (pw_or1 (pt_cmpR (op_in_id hr T.idc) (pv 3) (pv 1) rfl)))) (pss_one ps_never) pss_nil)
        (pss_one (ps_expr (pe_bm PySem.F.plainAttrs_list PySem.F.slot_list_append PySem.F.type_list_append mt_append (pv 1) (pa_cons (pv 3) pa_nil)))))))), ?_⟩
    refine q_when (et_not (a := true) (et_B (ev_isT (ev_var rfl) ht))) (fun h => by cases h) fun _ H1 e1 => ?_
    refine q_asgL (el_lst ea_nil (by decide)) fun p H2 hp e2 h2 => ?_
    have hpH : H p = none := fresh_back e1 hp
    have lr : (refs tops).length = tops.length := by unfold refs; rw [List.length_map]
    refine ⟨_, rfl, t, refs tops, rfl, ex_t (e1.trans e2) ht, for_it walk_enumT (fun i σ' H' => ∃ v2 v3, σ' = [some (.ref t), some (.ref p), v2, v3] ∧ Ex H H' ∧ H' p = some (.lst (refs (tops.take i)))) ⟨_, _, rfl, e1.trans e2, h2⟩ (fun i σ' H' _ ⟨_, _, _, q, _⟩ => ex_t q ht) ?_ (fun σ' H' ⟨_, _, _, q, _⟩ => fin H' q)⟩
    rintro i x σ' H3 H4 hi ⟨v2, v3, rfl, e3, h3⟩ ⟨Tp, y, z, rfl, hT, rfl, hy, hz2⟩
    obtain rfl := Option.some.inj hy
    obtain ⟨a, ha, rfl⟩ := refs_at hz2
    have hpT : p ≠ Tp := ne_of_none h3 hT
    have e4 : Ex H (upd H3 Tp (.tup [.int (i : Nat), .ref a])) := e3.trans (Ex.new hT)
    have h4 : upd H3 Tp (.tup [.int (i : Nat), .ref a]) p = some (.lst (refs (tops.take i))) := by rw [upd_ne hpT]; exact h3
    have ham := List.mem_of_getElem? ha
    have hia := (List.getElem?_eq_some_iff.mp ha).1
    have hna : a ∉ tops.take i := fun q => by
      obtain ⟨j, hj⟩ := List.mem_iff_getElem?.mp q
      have hji : j < i := by
        have := (List.getElem?_eq_some_iff.mp hj).1
        rw [List.length_take] at this
        omega
      rw [List.getElem?_take_of_lt hji] at hj
      have hjl := (List.getElem?_eq_some_iff.mp hj).1
      have := nd_ix ndt hj ha
      omega
    refine ⟨Tp, _, rfl, st_of upd_same, rfl, _, _, rfl, _, _, rfl, rfl, ?_⟩
    refine q_when (b := false) (et_is (et_or (et_not (a := true) (et_B (ev_isL T (ev_var rfl) ((hk a ham).ex e4)))) fun _ => et_test (ev_op (ev_var rfl) (ev_var rfl) (rv_in_id (neg := false) (.inl (sq_of h4)) ((hk a ham).ex e4) fun b hb => (hk b (List.mem_of_mem_take hb)).ex e4))) (by simp [hna])) (fun h => by cases h) fun _ H5 e5 => ?_
    refine s_app (e5 _ _ h4) (ev_var rfl) (ev_var rfl) (by unfold refs; rw [List.length_map, List.length_take]; omega) fun H6 e6 => ?_
    refine ⟨_, _, rfl, Ex.mut ((e4.trans e5).trans e6) hpH, ?_⟩
    rw [upd_same, List.take_add_one, ha]
    unfold refs
    simp
/-- a kind without members of its own, not frozen -/
def Plain (K : PySem.W.Frag) (H : Hp) (a : Addr) : Prop := ∃ (dx m : Addr) (fs : List (Str × V)), H a = some (.ins (kC K) dx fs) ∧ fs.lookup ("own_members" : Str) = some (.ref m) ∧ SqT K H m [] ∧ fs.lookup ("frozen" : Str) = some (.bl false)
theorem Plain.ex {H H' : Hp} {a : Addr} (e : Ex H H') (h : Plain K H a) : Plain K H' a := by
  obtain ⟨dx, m, fs, h1, h2, h3, h4⟩ := h
  exact ⟨dx, m, fs, e _ _ h1, h2, ex_t e h3, h4⟩
theorem KdAt.plain {H : Hp} {a : Addr} {l : List Addr} (h : KdAt K H a l) : Plain K H a := by
  obtain ⟨dx, q, m, fs, h1, h2, h3, h4, h5, h6⟩ := h
  exact ⟨dx, m, fs, h1, h4, h5, h6⟩
theorem rev_refs (l : List Addr) : (refs l).reverse = refs l.reverse := by
  unfold refs
  rw [List.map_reverse]
/-- for member in kind.own_members: .. (there is none) -/
theorem s_noMembers (T : Txt K mg) {σ : L2.St} {H : Hp} {te : TE} {a : Addr} {g : TG} {tb : TS} {D : Ends} (h : Ev te σ H (.ref a)) (hp : Plain K H a) (k : ∀ H1, Ex H H1 → D.nx σ H1) : tFor (iTup K (tFld K te "own_members")) g tb D σ H := by
  obtain ⟨dx, m, fs, h1, h2, h3, h4⟩ := hp
  refine ev_fld h h1 T.cls T.a_own_members h2 H (Ex.refl H) _ fun H1 e1 => ⟨m, rfl, ⟨[], ex_t e1 h3⟩, for_none (ex_t e1 h3) (k H1 e1)⟩
def spMixture (K : PySem.W.Frag) : Sp := fun vs H Q _ => ∃ (l : Addr) (line : List Addr), vs = [.ref l] ∧ SqT K H l (refs line) ∧ (∀ a, a ∈ line → Plain K H a) ∧ line.length ≤ 100 ∧ ∀ H', Ex H H' → Q .non H'
theorem can_mixture (T : Txt K mg) : Can P w K mg base CX0 1 "check_mixture" ["line"] (spMixture K) := by
  refine can_of T.g_check_mixture T.F_check_mixture (fun fd F => ?_) (fun _ _ _ _ _ _ us hl => match us, hl with | [_], _ => rfl)
  refine F.ok sc_check_mixture (fun vs H Q E h => ?_) (fun cdv A outer s H vs Q E hr h => ?_)
  · obtain ⟨m, tops, rfl, _⟩ := h
    rfl
  · obtain ⟨l, line, rfl, hl, hpl, hz, fin⟩ := h
    have nd := sc_check_mixture.nd
    refine ⟨_, pss_cons (ps_set (i := 1) nd rfl (.inl rfl) pe_dnewK)
      (pss_one (ps_for PassesOwn.never rfl (pi_tup (pe_revT (pv 0))) (pg_name (i := 2) nd rfl (.inl rfl)) (pss_one (ps_for PassesOwn.never rfl (pi_tup (pe_fld (pv 2) rfl)) pg_no (pss_one ps_never))))), ?_⟩
    intro d hd
    have e1 : Ex H (upd H d (.dK [])) := Ex.new hd
    refine ⟨_, rfl, l, refs line, rfl, ex_t e1 hl, fun pr hpr => ?_⟩
    have e2 : Ex H (upd (upd H d (.dK [])) pr (.tup (refs line).reverse)) := e1.trans (Ex.new hpr)
    refine ⟨pr, rfl, ⟨_, st_of upd_same⟩, for_tup (xs := (refs line).reverse) (fun i σ' H' => ∃ v, σ' = [some (.ref l), some (.ref d), v, none] ∧ Ex (upd (upd H d (.dK [])) pr (.tup (refs line).reverse)) H') ⟨_, rfl, Ex.refl _⟩ (fun i σ' H' _ ⟨_, _, e⟩ => st_of (e _ _ upd_same)) ?_ (fun σ' H' ⟨_, _, e⟩ => fin H' (e2.trans e))⟩
    rintro i x σ' H' hx ⟨v, rfl, e⟩
    rw [rev_refs] at hx
    obtain ⟨a, ha, rfl⟩ := refs_at hx
    exact s_noMembers T (ev_var rfl) ((hpl a (List.mem_reverse.mp (List.mem_of_getElem? ha))).ex (e2.trans e)) fun H1 e1 => ⟨_, rfl, e.trans e1⟩
def spWholeMembers (K : PySem.W.Frag) : Sp := fun vs H Q _ => ∃ (l : Addr) (line : List Addr), vs = [.ref l] ∧ SqT K H l (refs line) ∧ (∀ a, a ∈ line → Plain K H a) ∧ line.length ≤ 100 ∧ ∀ p H', H p = none → Ex H H' → H' p = some (.lst []) → Q (.ref p) H'
theorem can_wholeMembers (T : Txt K mg) : Can P w K mg base CX0 1 "whole_members" ["line"] (spWholeMembers K) := by
  refine can_of T.g_whole_members T.F_whole_members (fun fd F => ?_) (fun _ _ _ _ _ _ us hl => match us, hl with | [_], _ => rfl)
  refine F.ok sc_whole_members (fun vs H Q E h => ?_) (fun cdv A outer s H vs Q E hr h => ?_)
  · obtain ⟨m, tops, rfl, _⟩ := h
    rfl
  · obtain ⟨l, line, rfl, hl, hpl, hz, fin⟩ := h
    have nd := sc_whole_members.nd
    refine ⟨_, pss_cons (ps_set (i := 1) nd rfl (.inl rfl) pe_dnewK)
      (pss_cons (ps_for PassesOwn.never rfl (pi_tup (pe_revT (pv 0))) (pg_name (i := 2) nd rfl (.inl rfl)) (pss_one (ps_for PassesOwn.never rfl (pi_tup (pe_fld (pv 2) rfl)) pg_no (pss_one ps_never))))
      (pss_one (ps_ret (pe_listVals rfl (pv 1) rfl T.n_list (by decide +kernel))))), ?_⟩
    intro d hd
    have e1 : Ex H (upd H d (.dK [])) := Ex.new hd
    refine ⟨_, rfl, l, refs line, rfl, ex_t e1 hl, fun pr hpr => ?_⟩
    have e2 : Ex H (upd (upd H d (.dK [])) pr (.tup (refs line).reverse)) := e1.trans (Ex.new hpr)
    refine ⟨pr, rfl, ⟨_, st_of upd_same⟩, for_tup (xs := (refs line).reverse) (fun i σ' H' => ∃ v, σ' = [some (.ref l), some (.ref d), v, none] ∧ Ex (upd (upd H d (.dK [])) pr (.tup (refs line).reverse)) H') ⟨_, rfl, Ex.refl _⟩ (fun i σ' H' _ ⟨_, _, e⟩ => st_of (e _ _ upd_same)) ?_ (fun σ' H' ⟨v, es, e⟩ => ?_)⟩
    · rintro i x σ' H' hx ⟨v, rfl, e⟩
      rw [rev_refs] at hx
      obtain ⟨a, ha, rfl⟩ := refs_at hx
      exact s_noMembers T (ev_var rfl) ((hpl a (List.mem_reverse.mp (List.mem_of_getElem? ha))).ex (e2.trans e)) fun H1 e1 => ⟨_, rfl, e.trans e1⟩
    · subst es
      have hdp : d ≠ pr := fun q => by
        rw [← q, upd_same] at hpr
        cases hpr
      refine ⟨_, rfl, d, [], rfl, e _ _ (by rw [upd_ne hdp]; exact upd_same), fun p hp => ?_⟩
      exact fin p _ (fresh_back (e2.trans e) hp) ((e2.trans e).trans (Ex.new hp)) upd_same
def spFrozen (K : PySem.W.Frag) : Sp := fun vs H Q _ => ∃ (l a0 : Addr) (line : List Addr), vs = [.ref l] ∧ SqT K H l (refs (a0 :: line)) ∧ (∀ a, a ∈ a0 :: line → Plain K H a) ∧ line.length ≤ 100 ∧ ∀ H', Ex H H' → Q .non H'
theorem can_frozen (T : Txt K mg) : Can P w K mg base CX0 1 "check_frozen" ["line"] (spFrozen K) := by
  refine can_of T.g_check_frozen T.F_check_frozen (fun fd F => ?_) (fun _ _ _ _ _ _ us hl => match us, hl with | [_], _ => rfl)
  refine F.ok sc_check_frozen (fun vs H Q E h => ?_) (fun cdv A outer s H vs Q E hr h => ?_)
  · obtain ⟨m, a0, tops, rfl, _⟩ := h
    rfl
  · obtain ⟨l, a0, line, rfl, hl, hpl, hz, fin⟩ := h
    have nd := sc_check_frozen.nd
    refine ⟨_, pss_one (ps_for PassesOwn.never rfl (pi_tup (pe_slice sl_tup (pv 0) (po_some pe_int) po_none)) (pg_name (i := 1) nd rfl (.inl rfl))
        (pss_one (ps_if (PW.pt (pw_and (pt_cmpR op_ne (pe_fld (pv 1) rfl) (pe_fld (pe_ix ix_tup (pv 0) pe_int (fun _ _ => rfl)) rfl) (nomark _)) (pw_and1 pt_never))) (pss_one ps_never) pss_nil))), ?_⟩
    have fz : ∀ {σ : L2.St} {H1 : Hp} {te : TE} {a : Addr}, Ex H H1 → a ∈ a0 :: line → Ev te σ H1 (.ref a) → Ev (tFld K te "frozen") σ H1 (.bl false) := fun e ha h => by
      obtain ⟨dx, m, fs, h1, h2, h3, h4⟩ := hpl _ ha
      exact ev_fld h (e _ _ h1) T.cls T.a_frozen h4
    have lr : (refs (a0 :: line)).length = line.length + 1 := by unfold refs; rw [List.length_map, List.length_cons]
    refine ⟨_, rfl, 1, rfl, l, refs (a0 :: line), rfl, hl, ?_, fun pr hpr => ?_⟩
    · rw [lr]
      rintro ⟨h1, h2⟩
      have : HT.sIx (line.length + 1) 0 (some ((1 : Nat) : Int)) = min 1 (line.length + 1) := HT.sIx_nat _ _ _
      rw [show (some (1 : Int)) = some ((1 : Nat) : Int) from rfl, this] at h1
      omega
    have ec : cutV (refs (a0 :: line)) (some 1) none = refs line := by
      rw [show (some (1 : Int)) = some ((1 : Nat) : Int) from rfl, cut_drop (by omega)]
      rfl
    rw [ec]
    have e2 : Ex H (upd H pr (.tup (refs line))) := Ex.new hpr
    refine ⟨pr, rfl, ⟨_, st_of upd_same⟩, for_tup (xs := refs line) (fun i σ' H' => ∃ v, σ' = [some (.ref l), v] ∧ Ex (upd H pr (.tup (refs line))) H') ⟨_, rfl, Ex.refl _⟩ (fun i σ' H' _ ⟨_, _, e⟩ => st_of (e _ _ upd_same)) ?_ (fun σ' H' ⟨_, _, e⟩ => fin H' (e2.trans e))⟩
    rintro i x σ' H' hx ⟨v, rfl, e⟩
    obtain ⟨a, ha, rfl⟩ := refs_at hx
    refine s_when (b := false) (et_is (et_and (a := false) (b := false) (et_test (ev_is (ev_op (fz (e2.trans e) (List.mem_cons_of_mem _ (List.mem_of_getElem? ha)) (ev_var rfl)) (fz (e2.trans e) (List.mem_cons_self ..) (ev_op (ev_var rfl) ev_c (rv_ixT (ex_t (e2.trans e) hl) (at_of (j := 0) rfl rfl)))) (rv_ne rfl)) (by simp))) (fun h => by cases h)) rfl) (fun h => by cases h) fun _ H5 e5 => ⟨_, rfl, e.trans e5⟩
def spDefaults (K : PySem.W.Frag) : Sp := fun vs H Q _ => ∃ l : Addr, vs = [.ref l] ∧ SqL K H l [] ∧ ∀ H', Ex H H' → Q .non H'
theorem can_defaults (T : Txt K mg) : Can P w K mg base CX0 1 "check_defaults" ["members"] (spDefaults K) := by
  refine can_of T.g_check_defaults T.F_check_defaults (fun fd F => ?_) (fun _ _ _ _ _ _ us hl => match us, hl with | [_], _ => rfl)
  refine F.ok sc_check_defaults (fun vs H Q E h => ?_) (fun cdv A outer s H vs Q E hr h => ?_)
  · obtain ⟨m, rfl, _⟩ := h
    rfl
  · obtain ⟨l, rfl, hl, fin⟩ := h
    have nd := sc_check_defaults.nd
    refine ⟨_, pss_cons (ps_set (i := 1) nd rfl (.inl rfl) pe_bl) (pss_one (ps_for PassesOwn.never rfl (pi_list (pv 0)) pg_no (pss_one ps_never))), ?_⟩
    exact ⟨_, rfl, l, rfl, ⟨_, hl⟩, for_list (xs := []) (fun _ σ' H' => H' = H) rfl (fun i σ' H' _ q => by rw [q]; exact hl) (fun i x σ' H' hx _ => by simp at hx) (fun σ' H' q => by rw [q]; exact fin H (Ex.refl H))⟩
end
end K52
end

section
set_option Elab.async false
set_option linter.all false
set_option maxRecDepth 100000
set_option maxHeartbeats 4000000
namespace K52
open PySem PySem.Spec PyProof.Rows L2 He Cn Evl
section
variable {P : Program} {w : World} {K : PySem.W.Frag} {mg : Str → Option Value} {base : Heap}
/-- a name that a kind may have -/
def goodName (z : Str) : Bool := (z.cps.toList.all fun c => decide (c ∈ nameSigns.cps.toList)) && (decide (z.cps.toList.length ≤ 40) && ((match z.cps.toList with
  | [] => false
  | c :: _ => !decide (c ∈ digitSigns.cps.toList)) && !inV (.str z) (barred.map V.str)))
theorem flat_barred : (barred.map V.str).all flatV = true := by decide +kernel
def spIsName : Sp := fun vs H Q _ => ∃ z : Str, vs = [.str z] ∧ goodName z = true ∧ ∀ H', Ex H H' → Q (.bl true) H'
theorem can_isName (T : Txt K mg) : Can P w K mg base CX0 1 "is_name" ["value"] spIsName := by
  refine can_of T.g_is_name T.F_is_name (fun fd F => ?_) (fun _ _ _ _ _ _ us hl => match us, hl with | [_], _ => rfl)
  refine F.ok sc_is_name (fun vs H Q E h => ?_) (fun cdv A outer s H vs Q E hr h => ?_)
  · obtain ⟨z, rfl, _⟩ := h
    rfl
  · obtain ⟨z, rfl, hz, fin⟩ := h
    have nd := sc_is_name.nd
    obtain ⟨t1, hmax⟩ := T.maxLen
    obtain ⟨t2, hdig⟩ := T.digits
    obtain ⟨t3, hsig⟩ := T.signs
    refine ⟨_, pss_cons (ps_if (PW.pt (pw_or (pt_not (pt_val (pe_callB call_isi (by rfl) T.n_isinstance (by decide +kernel) (pa_cons (pv 0) (pa_cons (pe_bltn rfl T.n_str (v := .ty "str") (by decide +kernel) rfl) pa_nil))))) (pw_or (pt_cmpR op_eq (pv 0) pe_str (nomark _)) (pw_or1 (pt_cmpR op_gt (pe_callB call_len_str (by rfl) T.n_len PySem.boot_len (pa_cons (pv 0) pa_nil)) (pe_glob rfl hmax (v := .int 40) ⟨_, rfl⟩) (nomark _)))))) (pss_one (ps_ret pe_bl)) pss_nil)
      (pss_cons (ps_for PassesOwn.never rfl (pi_str (pv 0)) (pg_name (i := 1) nd rfl (.inl rfl)) (pss_one (ps_if (pt_cmpR op_notIn_sign (pv 1) (pe_glob rfl hsig (v := .str nameSigns) ⟨_, rfl⟩) rfl) (pss_one (ps_ret pe_bl)) pss_nil)))
      (pss_one (ps_ret (pe_and (pe_cmpR op_notIn_sign (pe_ix ix_str (pv 0) pe_int (fun _ _ => rfl)) (pe_glob rfl hdig (v := .str digitSigns) ⟨_, rfl⟩) rfl) (pe_one (pe_cmpR op_notIn_seq (pv 0) (pe_glob rfl T.g_BARRED_WORDS (v := .ref (ga K "BARRED_WORDS")) rfl) rfl)))))), ?_⟩
    obtain ⟨z1, z2⟩ := He.ba hz
    obtain ⟨z2, z3⟩ := He.ba z2
    obtain ⟨z3, z4⟩ := He.ba z3
    have z2 : z.cps.toList.length ≤ 40 := of_decide_eq_true z2
    have hne : ¬ z = "" := fun q => by
      subst q
      cases z3
    have hlen : z.length = z.cps.toList.length := (Array.length_toList).symm
    refine q_when (b := false) (et_is (et_or (a := false) (b := false) (et_not (a := true) (et_B (ev_cb (ea_cons (ev_var rfl) (ea_cons ev_c ea_nil)) fun H1 e Q q => ⟨.str z, .ty "str", .type "str", .type "str", true, rfl, .ty _, .base (.str z), kit_ty (by decide +kernel), q H1 (Ex.refl H1)⟩)))
      (fun _ => et_or (a := false) (b := false) (et_is (et_test (ev_op (ev_var rfl) ev_c (rv_eq rfl))) (by simp [hne])) (fun _ => et_is (et_test (ev_op (ev_cb (z := .int (z.length : Int)) (ea_cons (ev_var rfl) ea_nil) fun H1 e Q q => ⟨z, rfl, sz_of (by omega), q H1 (Ex.refl H1)⟩) ev_c rv_I0)) (by simp; omega)))) rfl) (fun h => by cases h) fun _ H1 e1 => ?_
    have hsize : z.cps.size = z.cps.toList.length := (Array.length_toList).symm
    refine ⟨_, rfl, z, rfl, for_it walk_str (fun i σ' H' => (∃ v, σ' = [some (.str z), v]) ∧ Ex H H') ⟨⟨_, rfl⟩, e1⟩ (fun _ _ _ _ _ => trivial) ?_ ?_⟩
    · rintro i x σ' H' H'' hi ⟨⟨v, rfl⟩, e⟩ ⟨rfl, c, hc, rfl⟩
      have hcm : c ∈ z.cps.toList := by
        rw [← Array.getElem?_toList] at hc
        exact List.mem_of_getElem? hc
      have hcs : c ∈ nameSigns.cps.toList := of_decide_eq_true (List.all_eq_true.mp z1 c hcm)
      refine s_when (b := false) (et_is (et_test (ev_op (z := .bl (!decide (c ∈ nameSigns.cps.toList))) (ev_var rfl) ev_c fun H1 e Q q => ⟨c, nameSigns, rfl, rfl, q H1 (Ex.refl H1)⟩)) (by simp [hcs])) (fun h => by cases h) fun _ H5 e5 => ⟨⟨_, rfl⟩, e.trans e5⟩
    · rintro σ' H' ⟨⟨v, rfl⟩, e⟩
      cases hcz : z.cps.toList with
      | nil => rw [hcz] at z3; cases z3
      | cons c r =>
        rw [hcz] at z3
        have hcd : ¬ c ∈ digitSigns.cps.toList := by simpa using z3
        have z4 : inV (.str z) (barred.map V.str) = false := by simpa using z4
        have hat : atI z.cps.toList 0 = some c := by
          rw [hcz]
          simp [atI, ixN]
        dsimp only
        refine s_ret (v := .bl true) ?_ fun H5 e5 => fin H5 (e.trans e5)
        refine ev_is (ev_andV (a := true) (b := true) ?_ fun _ => ?_) rfl
        · refine ev_is (ev_op (x := .str ⟨#[c]⟩) (y := .str digitSigns) (z := .bl (!decide (c ∈ digitSigns.cps.toList))) ?_ ev_c fun H1 e Q q => ⟨c, digitSigns, rfl, rfl, q H1 (Ex.refl H1)⟩) (by simp [hcd])
          exact ev_op (x := .str z) (y := .int 0) (z := .str ⟨#[c]⟩) (ev_var rfl) ev_c (rv_ixS (w := z) (c := c) (by omega) hat)
        · exact ev_is (ev_op (x := .str z) (y := .ref (ga K "BARRED_WORDS")) (ev_var rfl) ev_c (rv_niT (T.barred H') rfl flat_barred)) (by rw [z4] <;> rfl)
theorem good_New : goodName "New" = true := by decide +kernel
end
end K52
end

section
set_option Elab.async false
set_option linter.all false
set_option maxRecDepth 100000
set_option maxHeartbeats 4000000
namespace K52
open PySem PySem.Spec PyProof.Rows L2 He Cn Evl
theorem lkNe {f g : Str} {v : V} {fs : List (Str × V)} (h : g ≠ f) : (putF f v fs).lookup g = fs.lookup g := by
  rw [lookup_putF, if_neg h]
theorem lkEq {f : Str} {v : V} {fs : List (Str × V)} : (putF f v fs).lookup f = some v := by
  rw [lookup_putF, if_pos rfl]
def tNoT : TT := fun _ _ _ => False
theorem pt_no {X : Cx} {e : Expr} : PT X e tNoT := ⟨fun _ _ _ _ _ _ h => h.elim⟩
/-- a new object -/
def EvN (te : TE) (σ : L2.St) (H : Hp) (o : HO) : Prop := ∀ H1, Ex H H1 → ∀ Q : VK, (∀ p H2, H1 p = none → Ex H1 H2 → H2 p = some o → Q (.ref p) H2) → te σ H1 Q
section
variable {K : PySem.W.Frag}
theorem q_putN {te to : TE} {σ : L2.St} {H : Hp} {a C dx : Addr} {fs : List (Str × V)} {f : Str} {o : HO} {tz : TS} {D : Ends} (h : EvN te σ H o) (ho : ∀ H1, Ex H H1 → Ev to σ H1 (.ref a)) (ha : H a = some (.ins C dx fs)) (c : Cls K C) (n : NoAttr K C f) (hl : fs.length < 1000)
    (k : ∀ p H', H p = none → H' a = some (.ins C dx (putF f (.ref p) fs)) → H' p = some o → (∀ b u, H b = some u → b ≠ a → H' b = some u) → tz D σ H') : tSeq (sFld K to te f) tz D σ H := by
  refine h H (Ex.refl H) _ fun p H1 hp e1 h1 => ho H1 e1 H1 (Ex.refl H1) _ fun H2 e2 => ⟨a, C, dx, fs, rfl, (e1.trans e2) _ _ ha, c, n, hl, ?_⟩
  have hne : p ≠ a := (ne_of_none ha hp).symm
  exact k p _ hp upd_same (by rw [upd_ne hne]; exact e2 _ _ h1) fun b u hb hba => by rw [upd_ne hba]; exact (e1.trans e2) _ _ hb
theorem q_putV {te to : TE} {σ : L2.St} {H : Hp} {a C dx : Addr} {fs : List (Str × V)} {f : Str} {v : V} {tz : TS} {D : Ends} (h : Ev te σ H v) (ho : ∀ H1, Ex H H1 → Ev to σ H1 (.ref a)) (ha : H a = some (.ins C dx fs)) (c : Cls K C) (n : NoAttr K C f) (hl : fs.length < 1000)
    (k : ∀ H', H' a = some (.ins C dx (putF f v fs)) → (∀ b u, H b = some u → b ≠ a → H' b = some u) → tz D σ H') : tSeq (sFld K to te f) tz D σ H := by
  refine h H (Ex.refl H) _ fun H1 e1 => ho H1 e1 H1 (Ex.refl H1) _ fun H2 e2 => ⟨a, C, dx, fs, rfl, (e1.trans e2) _ _ ha, c, n, hl, ?_⟩
  exact k _ upd_same fun b u hb hba => by rw [upd_ne hba]; exact (e1.trans e2) _ _ hb
theorem s_putN {te to : TE} {σ : L2.St} {H : Hp} {a C dx : Addr} {fs : List (Str × V)} {f : Str} {o : HO} {D : Ends} (h : EvN te σ H o) (ho : ∀ H1, Ex H H1 → Ev to σ H1 (.ref a)) (ha : H a = some (.ins C dx fs)) (c : Cls K C) (n : NoAttr K C f) (hl : fs.length < 1000)
    (k : ∀ p H', H p = none → H' a = some (.ins C dx (putF f (.ref p) fs)) → H' p = some o → (∀ b u, H b = some u → b ≠ a → H' b = some u) → D.nx σ H') : sFld K to te f D σ H := by
  refine h H (Ex.refl H) _ fun p H1 hp e1 h1 => ho H1 e1 H1 (Ex.refl H1) _ fun H2 e2 => ⟨a, C, dx, fs, rfl, (e1.trans e2) _ _ ha, c, n, hl, ?_⟩
  have hne : p ≠ a := (ne_of_none ha hp).symm
  exact k p _ hp upd_same (by rw [upd_ne hne]; exact e2 _ _ h1) fun b u hb hba => by rw [upd_ne hba]; exact (e1.trans e2) _ _ hb
theorem s_putV {te to : TE} {σ : L2.St} {H : Hp} {a C dx : Addr} {fs : List (Str × V)} {f : Str} {v : V} {D : Ends} (h : Ev te σ H v) (ho : ∀ H1, Ex H H1 → Ev to σ H1 (.ref a)) (ha : H a = some (.ins C dx fs)) (c : Cls K C) (n : NoAttr K C f) (hl : fs.length < 1000)
    (k : ∀ H', H' a = some (.ins C dx (putF f v fs)) → (∀ b u, H b = some u → b ≠ a → H' b = some u) → D.nx σ H') : sFld K to te f D σ H := by
  refine h H (Ex.refl H) _ fun H1 e1 => ho H1 e1 H1 (Ex.refl H1) _ fun H2 e2 => ⟨a, C, dx, fs, rfl, (e1.trans e2) _ _ ha, c, n, hl, ?_⟩
  exact k _ upd_same fun b u hb hba => by rw [upd_ne hba]; exact (e1.trans e2) _ _ hb
/-- comprehensions over nothing -/
theorem en_list {tl : TE} {q : Addr} {σ : L2.St} {H : Hp} {g : TG} {t : TT} {te : TE} {vs : List Nat} (hl : Ev tl σ H (.ref q)) (hs : SqL K H q []) : EvN (tLc (iList K tl) g t te vs) σ H (.lst []) := fun H1 e Q k =>
  hl H1 e _ fun H2 e2 => ⟨q, rfl, ⟨[], ex_l (e.trans e2) hs⟩, fun D hD => lc_list (xs := []) (fun _ H' => H' = upd H2 D (.lst [])) rfl (fun i H' _ q => by rw [q]; exact ex_l ((e.trans e2).trans (Ex.new hD)) hs) (fun i x H' hx _ => by simp at hx) (fun H' q => by rw [q]; exact k D _ (fresh_back e2 hD) (e2.trans (Ex.new hD)) upd_same)⟩
theorem en_tup {tl : TE} {q : Addr} {σ : L2.St} {H : Hp} {g : TG} {t : TT} {te : TE} {vs : List Nat} (hl : Ev tl σ H (.ref q)) (hs : SqT K H q []) : EvN (tLc (iTup K tl) g t te vs) σ H (.lst []) := fun H1 e Q k =>
  hl H1 e _ fun H2 e2 => ⟨q, rfl, ⟨[], ex_t (e.trans e2) hs⟩, fun D hD => lc_tup (xs := []) (fun _ H' => H' = upd H2 D (.lst [])) rfl (fun i H' _ q => by rw [q]; exact ex_t ((e.trans e2).trans (Ex.new hD)) hs) (fun i x H' hx _ => by simp at hx) (fun H' q => by rw [q]; exact k D _ (fresh_back e2 hD) (e2.trans (Ex.new hD)) upd_same)⟩
theorem en_dcT {tl : TE} {q : Addr} {σ : L2.St} {H : Hp} {g : TG} {t : TT} {tk tv : TE} {vs : List Nat} (hl : Ev tl σ H (.ref q)) (hs : SqT K H q []) : EvN (tDc (iTup K tl) g t tk tv vs) σ H (.dK []) := fun H1 e Q k =>
  hl H1 e _ fun H2 e2 => ⟨q, rfl, ⟨[], ex_t (e.trans e2) hs⟩, fun D hD => by
    have e3 : Ex H2 (upd H2 D (.dK [])) := Ex.new hD
    refine ⟨fun i m H' => i = 0 ∧ H' = upd H2 D (.dK []), ⟨0, rfl, rfl⟩, ?_⟩
    rintro i m H' ⟨rfl, rfl⟩
    exact .inl ⟨⟨[], ex_t ((e.trans e2).trans e3) hs, Nat.le_refl _⟩, k D _ (fresh_back e2 hD) (e2.trans e3) upd_same⟩⟩
theorem en_dcL {tl : TE} {q : Addr} {σ : L2.St} {H : Hp} {g : TG} {t : TT} {tk tv : TE} {vs : List Nat} (hl : Ev tl σ H (.ref q)) (hs : SqL K H q []) : EvN (tDc (iList K tl) g t tk tv vs) σ H (.dK []) := fun H1 e Q k =>
  hl H1 e _ fun H2 e2 => ⟨q, rfl, ⟨[], ex_l (e.trans e2) hs⟩, fun D hD => by
    have e3 : Ex H2 (upd H2 D (.dK [])) := Ex.new hD
    refine ⟨fun i m H' => i = 0 ∧ H' = upd H2 D (.dK []), ⟨0, rfl, rfl⟩, ?_⟩
    rintro i m H' ⟨rfl, rfl⟩
    exact .inl ⟨⟨[], ex_l ((e.trans e2).trans e3) hs, Nat.le_refl _⟩, k D _ (fresh_back e2 hD) (e2.trans e3) upd_same⟩⟩
def rTupOf (K : PySem.W.Frag) : List V → Hp → VK → Prop := fun xs H Q => ∃ p ys, xs = [.ref p] ∧ ((SqL K H p ys ∧ ∀ l, H l = none → Q (.ref l) (upd H l (.tup ys))) ∨ (SqT K H p ys ∧ Q (.ref p) H))
theorem en_tupOf {tl : TE} {σ : L2.St} {H : Hp} {xs : List V} (h : EvN tl σ H (.lst xs)) : EvN (tCB (rTupOf K) (tCons tl tNil)) σ H (.tup xs) := fun H1 e Q k =>
  h H1 e _ fun p H2 hp e2 h2 => ⟨p, xs, rfl, .inl ⟨sq_of h2, fun l hl => k l _ (fresh_back e2 hl) (e2.trans (Ex.new hl)) upd_same⟩⟩
end
section
variable {P : Program} {w : World} {K : PySem.W.Frag} {mg : Str → Option Value} {base : Heap}
/-! ### the options -/
def put5 (fs : List (Str × V)) : List (Str × V) := putF "show" (.bl true) (putF "only_named" (.bl false) (putF "frozen" (.bl false) (putF "order" (.bl false) (putF "equal" (.bl true) fs))))
def FrB (a : Addr) (H H' : Hp) : Prop := ∀ b u, H b = some u → b ≠ a → H' b = some u
theorem FrB.trans {a : Addr} {H H1 H2 : Hp} (h : FrB a H H1) (k : FrB a H1 H2) : FrB a H H2 := fun b u e hb => k b u (h b u e hb) hb
theorem FrB.ex {a : Addr} {H H1 H2 : Hp} (h : FrB a H H1) (e : Ex H1 H2) : FrB a H H2 := fun b u e' hb => e _ _ (h b u e' hb)
theorem sqt_fr {a t : Addr} {H H' : Hp} {xs : List V} (f : FrB a H H') (hne : t ≠ a) (h : SqT K H t xs) : SqT K H' t xs := by
  rcases h with h | h
  · rcases h with h | ⟨o, h⟩
    · exact .inl (.inl (f _ _ h hne))
    · exact .inl (.inr ⟨o, f _ _ h hne⟩)
  · exact .inr h
theorem fr_fresh {a p : Addr} {H H' : Hp} {u0 : HO} (f : FrB a H H') (ha : H' a = some u0) (h : H' p = none) : H p = none := by
  cases q : H p with
  | none => rfl
  | some u =>
    by_cases e : p = a
    · subst e
      rw [ha] at h
      cases h
    · have := f p u q e
      rw [h] at this
      cases this
def spSetOptions (K : PySem.W.Frag) : Sp := fun vs H Q _ => ∃ (a d dx : Addr) (fs : List (Str × V)), vs = [.ref a, .ref d] ∧ H a = some (.ins (kC K) dx fs) ∧ H d = some (.dK []) ∧ fs.length ≤ 900 ∧ ∀ H', H' a = some (.ins (kC K) dx (put5 fs)) → FrB a H H' → Q .non H'
theorem can_setOptions (T : Txt K mg) : ∃ fd, FnOk P w K mg base CX0 1 (ma K (kC K) "_set_options") fd ["self", "options"] (spSetOptions K) ∧ Binds K fd ["self", "options"] [] := by
  obtain ⟨fd, F⟩ := T.F_Kind__set_options
  refine ⟨fd, F.ok sc_Kind__set_options (fun vs H Q E h => ?_) (fun cdv A outer s H vs Q E hr h => ?_), F.binds (ps := ["self", "options"]) fun _ _ _ _ _ _ us hl => match us, hl with | [_, _], _ => rfl⟩
  · obtain ⟨a, d, dx, fs, rfl, _⟩ := h
    rfl
  · obtain ⟨a, d, dx, fs, rfl, ha, hd, hl, fin⟩ := h
    have hu := hu_of hr
    refine ⟨_, pss_cons (ps_fld (pv 0) (pe_dget2 hu (pv 1) pe_str pe_bl ⟨rfl, rfl, rfl, rfl⟩) rfl) (pss_cons (ps_fld (pv 0) (pe_dget2 hu (pv 1) pe_str pe_bl ⟨rfl, rfl, rfl, rfl⟩) rfl) (pss_cons (ps_fld (pv 0) (pe_dget2 hu (pv 1) pe_str pe_bl ⟨rfl, rfl, rfl, rfl⟩) rfl)
      (pss_cons (ps_fld (pv 0) (pe_dget2 hu (pv 1) pe_str pe_bl ⟨rfl, rfl, rfl, rfl⟩) rfl) (pss_one (ps_fld (pv 0) (pe_dget2 hu (pv 1) pe_str pe_bl ⟨rfl, rfl, rfl, rfl⟩) rfl))))), ?_⟩
    have hda : d ≠ a := ne_of hd ha (by intro z; cases z)
    have get : ∀ {H1 : Hp} {σ : L2.St} {s : Str} {b : Bool}, H1 d = some (.dK []) → σ[1]? = some (some (.ref d)) → Ev (tDGet2 (tVar 1) (tC (.str s)) (tC (.bl b))) σ H1 (.bl b) := fun {H1 σ s b} h hv H2 e Q q =>
      ⟨.ref d, hv, d, rfl, .inl ⟨[], .inl (e _ _ h)⟩, none, DGet.k (k := .inr s) (e _ _ h), q H2 (Ex.refl H2)⟩
    have len : ∀ (f : Str) (v : V) (gs : List (Str × V)) (n : Nat), gs.length ≤ n → (putF f v gs).length ≤ n + 1 := fun f v gs n h => by have := length_putF f v gs; omega
    refine q_putV (get hd rfl) (fun _ _ => ev_var rfl) ha T.cls T.a_equal (by omega) fun H1 a1 f1 => ?_
    refine q_putV (get (f1 _ _ hd hda) rfl) (fun _ _ => ev_var rfl) a1 T.cls T.a_order (by have := len "equal" (.bl true) fs _ hl; omega) fun H2 a2 f2 => ?_
    have f12 : FrB a H H2 := FrB.trans f1 f2
    refine q_putV (get (f12 _ _ hd hda) rfl) (fun _ _ => ev_var rfl) a2 T.cls T.a_frozen (by have := len "order" (.bl false) _ _ (len "equal" (.bl true) fs _ hl); omega) fun H3 a3 f3 => ?_
    have f13 : FrB a H H3 := FrB.trans f12 f3
    refine q_putV (get (f13 _ _ hd hda) rfl) (fun _ _ => ev_var rfl) a3 T.cls T.a_only_named (by have := len "frozen" (.bl false) _ _ (len "order" (.bl false) _ _ (len "equal" (.bl true) fs _ hl)); omega) fun H4 a4 f4 => ?_
    have f14 : FrB a H H4 := FrB.trans f13 f4
    refine s_putV (get (f14 _ _ hd hda) rfl) (fun _ _ => ev_var rfl) a4 T.cls T.a_show (by have := len "only_named" (.bl false) _ _ (len "frozen" (.bl false) _ _ (len "order" (.bl false) _ _ (len "equal" (.bl true) fs _ hl))); omega) fun H5 a5 f5 => ?_
    exact fin H5 a5 (FrB.trans f14 f5)
/-! ### the kind's own members: none -/
def put3 (m d : Addr) (fs : List (Str × V)) : List (Str × V) := putF "own_methods" (.ref d) (putF "own_members" (.ref m) (putF "own_hook" .non fs))
def spSetOwn (K : PySem.W.Frag) : Sp := fun vs H Q _ => ∃ (a t dx : Addr) (fs : List (Str × V)), vs = [.ref a, .ref t] ∧ H a = some (.ins (kC K) dx fs) ∧ SqT K H t [] ∧ t ≠ a ∧ fs.length ≤ 900 ∧
  ∀ m d H', H m = none → H d = none → m ≠ a → H' a = some (.ins (kC K) dx (put3 m d fs)) → H' m = some (.tup []) → FrB a H H' → Q .non H'
theorem can_setOwn (T : Txt K mg) : ∃ fd, FnOk P w K mg base CX0 1 (ma K (kC K) "_set_own") fd ["self", "members"] (spSetOwn K) ∧ Binds K fd ["self", "members"] [] := by
  obtain ⟨fd, F⟩ := T.F_Kind__set_own
  refine ⟨fd, F.ok sc_Kind__set_own (fun vs H Q E h => ?_) (fun cdv A outer s H vs Q E hr h => ?_), F.binds (ps := ["self", "members"]) fun _ _ _ _ _ _ us hl => match us, hl with | [_, _], _ => rfl⟩
  · obtain ⟨a, d, dx, fs, rfl, _⟩ := h
    rfl
  · obtain ⟨a, t, dx, fs, rfl, ha, ht, hta, hl, fin⟩ := h
    have nd := sc_Kind__set_own.nd
    refine ⟨_, pss_cons (ps_setLc (i := 2) (own := [("member", 3)]) (wi := iTup K (tVar 1)) (g := gNo) (tt := tNoT) (te := tNoE) rfl nd rfl rfl (sw_true rfl rfl rfl (by decide +kernel)) (pi_tup (pv 1)) (blkOk_by (N := ["self", "members", "hooks", "member"]) (sc := defScope s_Kind__set_own) (by decide +kernel)) (fun _ _ _ _ _ => pg_no) (fun _ _ _ _ _ => pts_one pt_no) (fun _ _ _ _ _ => pe_never))
      (pss_cons (ps_fld (pv 0) (pe_ifExp (pt_truth (pv 2) (by intro _; rfl)) pe_never pe_non) rfl)
      (pss_cons (ps_fld (pv 0) (pe_callTy call_tuple_of (by rfl) T.n_tuple (by decide +kernel) (pa_cons (pe_lc (own := [("member", 3)]) (wi := iTup K (tVar 1)) (g := gNo) (tt := tNoT) (te := tNoE) rfl nd (pi_tup (pv 1)) (blkOk_by (N := ["self", "members", "hooks", "member"]) (sc := defScope s_Kind__set_own) (by decide +kernel)) (fun _ _ _ _ _ => pg_no) (fun _ _ _ _ _ => pts_one pt_no) (fun _ _ _ _ _ => pe_never)) pa_nil)) rfl)
      (pss_one (ps_fld (pv 0) (pe_dc (own := [("member", 3)]) (wi := iTup K (tFld K (tVar 0) "own_members")) (g := gNo) (tt := tNoT) (tk := tNoE) (tv := tNoE) rfl nd (pi_tup (pe_fld (pv 0) rfl)) (blkOk_by (N := ["self", "members", "hooks", "member"]) (sc := defScope s_Kind__set_own) (by decide +kernel)) (fun _ _ _ _ _ => pg_no) (fun _ _ _ _ _ => pts_one pt_no) (fun _ _ _ _ _ => pe_never) (fun _ _ _ _ _ => pe_never)) rfl)))), ?_⟩
    refine q_asgL (xs := []) (en_tup (ev_var rfl) ht) fun ph H1 hph e1 h1 => ?_
    have a1 := e1 _ _ ha
    have len : ∀ (f : Str) (v : V) (gs : List (Str × V)) (n : Nat), gs.length ≤ n → (putF f v gs).length ≤ n + 1 := fun f v gs n h => by have := length_putF f v gs; omega
    have hph2 : ∀ {H2 : Hp}, Ex H1 H2 → TruV K (.ref ph) H2 false := fun e => .inl ⟨[], sq_of (e _ _ h1), rfl⟩
    refine q_putV (v := .non) (ev_if (b := false) (et_tru (ev_var rfl) fun H2 e2 => hph2 e2) (fun h => by cases h) fun _ => ev_c) (fun _ _ => ev_var rfl) a1 T.cls T.a_own_hook (by omega) fun H2 a2 f2 => ?_
    have fr2 : FrB a H H2 := fun b u hb hba => f2 b u (e1 _ _ hb) hba
    refine q_putN (o := .tup []) (en_tupOf (en_tup (ev_var rfl) (sqt_fr fr2 hta ht))) (fun _ _ => ev_var rfl) a2 T.cls T.a_own_members (by have := len "own_hook" .non fs _ hl; omega) fun m H3 hm a3 h3 f3 => ?_
    have hmH : H m = none := by
      cases q : H m with
      | none => rfl
      | some u =>
        by_cases hma : m = a
        · subst hma
          rw [a2] at hm
          cases hm
        · have := fr2 m u q hma
          rw [hm] at this
          cases this
    have hma : m ≠ a := (ne_of_none a2 hm).symm
    refine s_putN (o := .dK []) (en_dcT (ev_fld (ev_var rfl) a3 T.cls T.a_own_members lkEq) (st_of h3)) (fun _ _ => ev_var rfl) a3 T.cls T.a_own_methods (by have := len "own_members" (.ref m) _ _ (len "own_hook" .non fs _ hl); omega) fun d H4 hd a4 h4 f4 => ?_
    have fr3 : FrB a H H3 := FrB.trans fr2 f3
    have hdH : H d = none := by
      cases q : H d with
      | none => rfl
      | some u =>
        by_cases hda : d = a
        · subst hda
          rw [a3] at hd
          cases hd
        · have := fr3 d u q hda
          rw [hd] at this
          cases this
    exact fin m d H4 hmH hdH hma a4 (f4 _ _ h3 hma) (FrB.trans fr3 f4)
end
end K52
end

section
set_option Elab.async false
set_option linter.all false
set_option maxRecDepth 100000
set_option maxHeartbeats 4000000
namespace K52
open PySem PySem.Spec PyProof.Rows L2 He Cn Evl
section
variable {P : Program} {w : World} {K : PySem.W.Frag} {mg : Str → Option Value} {base : Heap}
/-! ### what is whole: nothing -/
def wholeKeys : List Str := [("_data" : Str), ("_shared" : Str), ("_other_members" : Str), ("fields" : Str), ("field_names" : Str), ("compare_names" : Str), ("show_names" : Str), ("key_names" : Str), ("_init_only" : Str), ("_by_position" : Str), ("_by_name" : Str), ("_parameters" : Str), ("_parameter_names" : Str)]
theorem ev_con {σ : L2.St} {H : Hp} {te : TE} {a C dx : Addr} {fs : List (Str × V)} {f : Str} {v : V} {u : Value} (h : Ev te σ H (.ref a)) (ha : H a = some (.ins C dx fs)) (c : Cls K C) (n : Con K C f v u) (l : fs.lookup f = none) : Ev (tCon K te f) σ H v := fun H1 e Q q =>
  h H1 e _ fun H2 e2 => ⟨a, C, dx, fs, v, u, rfl, (e.trans e2) _ _ ha, c, n, l, q H2 e2⟩
theorem en_cat {σ : L2.St} {H : Hp} {ta tb : TE} {p q : Addr} {xs ys : List V} (ha : Ev ta σ H (.ref p)) (hb : Ev tb σ H (.ref q)) (hp : H p = some (.lst xs)) (hq : H q = some (.lst ys)) (hz : xs.length + ys.length ≤ 100000) : EvN (tOp rCat ta tb) σ H (.lst (xs ++ ys)) := fun H1 e Q k =>
  ha H1 e _ fun H2 e2 => hb H2 (e.trans e2) _ fun H3 e3 => ⟨p, q, xs, ys, rfl, rfl, ((e.trans e2).trans e3) _ _ hp, ((e.trans e2).trans e3) _ _ hq, sz_of hz, fun l hl => k l _ (fresh_back (e2.trans e3) hl) ((e2.trans e3).trans (Ex.new hl)) upd_same⟩
def spSetWhole (K : PySem.W.Frag) : Sp := fun vs H Q _ => ∃ (a l dx q : Addr) (fs : List (Str × V)) (line : List Addr), vs = [.ref a, .ref l] ∧ H a = some (.ins (kC K) dx fs) ∧ H l = some (.lst []) ∧ fs.lookup ("line" : Str) = some (.ref q) ∧ SqT K H q (refs line) ∧ q ≠ a ∧ line.length ≤ 12 ∧
  fs.lookup ("MAX_MEMBERS" : Str) = none ∧ fs.lookup ("MAX_LINE" : Str) = none ∧ fs.length ≤ 900 ∧
  ∀ (fs' : List (Str × V)) (bp : Addr) (H' : Hp), H' a = some (.ins (kC K) dx fs') → fs'.lookup ("_by_position" : Str) = some (.ref bp) → H' bp = some (.lst []) → (∀ g, g ∉ wholeKeys → fs'.lookup g = fs.lookup g) → fs'.length ≤ fs.length + 13 → FrB a H H' → Q .non H'
theorem can_setWhole (T : Txt K mg) : ∃ fd, FnOk P w K mg base CX0 1 (ma K (kC K) "_set_whole") fd ["self", "whole"] (spSetWhole K) ∧ Binds K fd ["self", "whole"] [] := by
  obtain ⟨fd, F⟩ := T.F_Kind__set_whole
  refine ⟨fd, F.ok sc_Kind__set_whole (fun vs H Q E h => ?_) (fun cdv A outer s H vs Q E hr h => ?_), F.binds (ps := ["self", "whole"]) fun _ _ _ _ _ _ us hl => match us, hl with | [_, _], _ => rfl⟩
  · obtain ⟨a, l, dx, q, fs, line, rfl, _⟩ := h
    rfl
  · obtain ⟨a, l, dx, q, fs, line, rfl, ha, hl, hq, hqT, hqa, hll, hm1, hm2, hlen, fin⟩ := h
    have nd := sc_Kind__set_whole.nd
    obtain ⟨u1, c1⟩ := T.maxMem
    obtain ⟨u2, c2⟩ := T.maxLine
    refine ⟨_, pss_cons (ps_setLc (i := 2) (own := [("member", 3), ("kind", 4)]) (wi := iList K (tVar 1)) (g := gNo) (tt := tNoT) (te := tNoE) rfl nd rfl rfl (sw_true rfl rfl rfl (by decide +kernel)) (pi_list (pv 1)) (blkOk_by (N := ["self", "whole", "data", "member", "kind", "_", "named", "field"]) (sc := defScope s_Kind__set_whole) (by decide +kernel)) (fun _ _ _ _ _ => pg_no) (fun _ _ _ _ _ => pts_one pt_no) (fun _ _ _ _ _ => pe_never))
      (pss_cons (ps_if (PW.pt (pw_or (pt_cmpR op_gt (pe_callB call_len_seq (by rfl) T.n_len PySem.boot_len (pa_cons (pv 2) pa_nil)) (pe_con (pv 0) rfl) (nomark _)) (pw_or1 (pt_cmpR op_gt (pe_callB call_len_seq (by rfl) T.n_len PySem.boot_len (pa_cons (pe_fld (pv 0) rfl) pa_nil)) (pe_con (pv 0) rfl) (nomark _))))) (pss_one ps_never) pss_nil)
      (pss_cons (ps_fld (pv 0) (pv 2) rfl)
      (pss_cons (ps_fld (pv 0) (pe_dc (own := [("member", 3), ("_", 5)]) (wi := iList K (tVar 1)) (g := gNo) (tt := tNoT) (tk := tNoE) (tv := tNoE) rfl nd (pi_list (pv 1)) (blkOk_by (N := ["self", "whole", "data", "member", "kind", "_", "named", "field"]) (sc := defScope s_Kind__set_whole) (by decide +kernel)) (fun _ _ _ _ _ => pg_no) (fun _ _ _ _ _ => pts_one pt_no) (fun _ _ _ _ _ => pe_never) (fun _ _ _ _ _ => pe_never)) rfl)
      (pss_cons (ps_fld (pv 0) (pe_lc (own := [("member", 3), ("_", 5)]) (wi := iList K (tVar 1)) (g := gNo) (tt := tNoT) (te := tNoE) rfl nd (pi_list (pv 1)) (blkOk_by (N := ["self", "whole", "data", "member", "kind", "_", "named", "field"]) (sc := defScope s_Kind__set_whole) (by decide +kernel)) (fun _ _ _ _ _ => pg_no) (fun _ _ _ _ _ => pts_one pt_no) (fun _ _ _ _ _ => pe_never)) rfl)
      (pss_cons (ps_fld (pv 0) (pe_callTy call_tuple_of (by rfl) T.n_tuple (by decide +kernel) (pa_cons (pe_lc (own := [("member", 3), ("_", 5)]) (wi := iList K (tVar 2)) (g := gNo) (tt := tNoT) (te := tNoE) rfl nd (pi_list (pv 2)) (blkOk_by (N := ["self", "whole", "data", "member", "kind", "_", "named", "field"]) (sc := defScope s_Kind__set_whole) (by decide +kernel)) (fun _ _ _ _ _ => pg_no) (fun _ _ _ _ _ => pts_one pt_no) (fun _ _ _ _ _ => pe_never)) pa_nil)) rfl)
      (pss_cons (ps_fld (pv 0) (pe_callTy call_tuple_of (by rfl) T.n_tuple (by decide +kernel) (pa_cons (pe_lc (own := [("field", 7)]) (wi := iTup K (tFld K (tVar 0) "fields")) (g := gNo) (tt := tYes) (te := tNoE) rfl nd (pi_tup (pe_fld (pv 0) rfl)) (blkOk_by (N := ["self", "whole", "data", "member", "kind", "_", "named", "field"]) (sc := defScope s_Kind__set_whole) (by decide +kernel)) (fun _ _ _ _ _ => pg_no) (fun _ _ _ _ _ => pts_nil) (fun _ _ _ _ _ => pe_never)) pa_nil)) rfl)
      (pss_cons (ps_fld (pv 0) (pe_callTy call_tuple_of (by rfl) T.n_tuple (by decide +kernel) (pa_cons (pe_lc (own := [("field", 7)]) (wi := iTup K (tFld K (tVar 0) "fields")) (g := gNo) (tt := tNoT) (te := tNoE) rfl nd (pi_tup (pe_fld (pv 0) rfl)) (blkOk_by (N := ["self", "whole", "data", "member", "kind", "_", "named", "field"]) (sc := defScope s_Kind__set_whole) (by decide +kernel)) (fun _ _ _ _ _ => pg_no) (fun _ _ _ _ _ => pts_one pt_no) (fun _ _ _ _ _ => pe_never)) pa_nil)) rfl)
      (pss_cons (ps_fld (pv 0) (pe_callTy call_tuple_of (by rfl) T.n_tuple (by decide +kernel) (pa_cons (pe_lc (own := [("field", 7)]) (wi := iTup K (tFld K (tVar 0) "fields")) (g := gNo) (tt := tNoT) (te := tNoE) rfl nd (pi_tup (pe_fld (pv 0) rfl)) (blkOk_by (N := ["self", "whole", "data", "member", "kind", "_", "named", "field"]) (sc := defScope s_Kind__set_whole) (by decide +kernel)) (fun _ _ _ _ _ => pg_no) (fun _ _ _ _ _ => pts_one pt_no) (fun _ _ _ _ _ => pe_never)) pa_nil)) rfl)
      (pss_cons (ps_fld (pv 0) (pe_callTy call_tuple_of (by rfl) T.n_tuple (by decide +kernel) (pa_cons (pe_lc (own := [("field", 7)]) (wi := iTup K (tFld K (tVar 0) "fields")) (g := gNo) (tt := tNoT) (te := tNoE) rfl nd (pi_tup (pe_fld (pv 0) rfl)) (blkOk_by (N := ["self", "whole", "data", "member", "kind", "_", "named", "field"]) (sc := defScope s_Kind__set_whole) (by decide +kernel)) (fun _ _ _ _ _ => pg_no) (fun _ _ _ _ _ => pts_one pt_no) (fun _ _ _ _ _ => pe_never)) pa_nil)) rfl)
      (pss_cons (ps_fld (pv 0) (pe_lc (own := [("member", 3), ("_", 5)]) (wi := iList K (tVar 2)) (g := gNo) (tt := tNoT) (te := tNoE) rfl nd (pi_list (pv 2)) (blkOk_by (N := ["self", "whole", "data", "member", "kind", "_", "named", "field"]) (sc := defScope s_Kind__set_whole) (by decide +kernel)) (fun _ _ _ _ _ => pg_no) (fun _ _ _ _ _ => pts_one pt_no) (fun _ _ _ _ _ => pe_never)) rfl)
      (pss_cons (ps_fld (pv 0) (pe_lc (own := [("member", 3), ("named", 6)]) (wi := iList K (tVar 2)) (g := gNo) (tt := tNoT) (te := tNoE) rfl nd (pi_list (pv 2)) (blkOk_by (N := ["self", "whole", "data", "member", "kind", "_", "named", "field"]) (sc := defScope s_Kind__set_whole) (by decide +kernel)) (fun _ _ _ _ _ => pg_no) (fun _ _ _ _ _ => pts_one pt_no) (fun _ _ _ _ _ => pe_never)) rfl)
      (pss_cons (ps_fld (pv 0) (pe_lc (own := [("member", 3), ("named", 6)]) (wi := iList K (tVar 2)) (g := gNo) (tt := tNoT) (te := tNoE) rfl nd (pi_list (pv 2)) (blkOk_by (N := ["self", "whole", "data", "member", "kind", "_", "named", "field"]) (sc := defScope s_Kind__set_whole) (by decide +kernel)) (fun _ _ _ _ _ => pg_no) (fun _ _ _ _ _ => pts_one pt_no) (fun _ _ _ _ _ => pe_never)) rfl)
      (pss_cons (ps_fld (pv 0) (pe_op op_cat (pe_fld (pv 0) rfl) (pe_fld (pv 0) rfl)) rfl)
      (pss_one (ps_fld (pv 0) (pe_lc (own := [("member", 3)]) (wi := iList K (tFld K (tVar 0) "_parameters")) (g := gNo) (tt := tYes) (te := tNoE) rfl nd (pi_list (pe_fld (pv 0) rfl)) (blkOk_by (N := ["self", "whole", "data", "member", "kind", "_", "named", "field"]) (sc := defScope s_Kind__set_whole) (by decide +kernel)) (fun _ _ _ _ _ => pg_no) (fun _ _ _ _ _ => pts_nil) (fun _ _ _ _ _ => pe_never)) rfl))))))))))))))), ?_⟩
    have hla : l ≠ a := ne_of hl ha (by intro z; cases z)
    refine q_asgL (xs := []) (en_list (ev_var rfl) (sq_of hl)) fun pd H0 hpd e0 h0 => ?_
    have a0 := e0 _ _ ha
    have hpda : pd ≠ a := (ne_of_none ha hpd).symm
    have lr : (refs line).length = line.length := by unfold refs; rw [List.length_map]
    refine q_when (b := false) (et_is (et_or (a := false) (b := false) (et_is (et_test (ev_op (x := .int 0) (y := .int 16) (ev_cb (z := .int 0) (ea_cons (ev_var rfl) ea_nil) fun H1 e Q k => ⟨pd, [], rfl, .inl (sq_of (e _ _ h0)), k H1 (Ex.refl H1)⟩) (ev_con (ev_var rfl) a0 T.cls c1 hm1) rv_I0)) (by decide))
      (fun _ => et_is (et_test (ev_op (x := .int (line.length : Int)) (y := .int 12) (ev_cb (z := .int (line.length : Int)) (ea_cons (ev_fld (ev_var rfl) a0 T.cls T.a_line hq) ea_nil) fun H1 e Q k => ⟨q, _, rfl, .inr (ex_t (e0.trans e) hqT), by rw [lr]; exact k H1 (Ex.refl H1)⟩) (ev_con (ev_var rfl) a0 T.cls c2 hm2) rv_I0)) (by simp; omega))) rfl) (fun h => by cases h) fun _ H1 e1 => ?_
    have a1 := e1 _ _ a0
    have fr1 : FrB a H H1 := fun b u hb _ => e1 _ _ (e0 _ _ hb)
    have fd1 : ∀ {H' : Hp}, FrB a H1 H' → H' pd = some (.lst []) := fun f => f _ _ (e1 _ _ h0) hpda
    have fl1 : ∀ {H' : Hp}, FrB a H1 H' → H' l = some (.lst []) := fun f => f _ _ (fr1 _ _ hl hla) hla
    have r1 : FrB a H1 H1 := fun b u h _ => h
    have L1 : fs.length ≤ fs.length := Nat.le_refl _
    refine q_putV (v := .ref pd) (ev_var rfl) (fun _ _ => ev_var rfl) a1 T.cls T.a__data (by omega) fun H2 a2 f2 => ?_
    have r2 : FrB a H1 H2 := FrB.trans r1 f2
    have L2 : (putF "_data" (.ref pd) fs).length ≤ fs.length + 1 := by have := length_putF "_data" (.ref pd) fs; omega
    refine q_putN (o := .dK []) (en_dcL (ev_var rfl) (sq_of (fl1 r2))) (fun _ _ => ev_var rfl) a2 T.cls T.a__shared (by omega) fun p3 H3 np3 a3 h3 f3 => ?_
    have r3 : FrB a H1 H3 := FrB.trans r2 f3
    have L3 : (putF "_shared" (.ref p3) (putF "_data" (.ref pd) fs)).length ≤ fs.length + 2 := by have := length_putF "_shared" (.ref p3) (putF "_data" (.ref pd) fs); omega
    refine q_putN (o := .lst []) (en_list (ev_var rfl) (sq_of (fl1 r3))) (fun _ _ => ev_var rfl) a3 T.cls T.a__other_members (by omega) fun p4 H4 np4 a4 h4 f4 => ?_
    have r4 : FrB a H1 H4 := FrB.trans r3 f4
    have L4 : (putF "_other_members" (.ref p4) (putF "_shared" (.ref p3) (putF "_data" (.ref pd) fs))).length ≤ fs.length + 3 := by have := length_putF "_other_members" (.ref p4) (putF "_shared" (.ref p3) (putF "_data" (.ref pd) fs)); omega
    refine q_putN (o := .tup []) (en_tupOf (en_list (ev_var rfl) (sq_of (fd1 r4)))) (fun _ _ => ev_var rfl) a4 T.cls T.a_fields (by omega) fun p5 H5 np5 a5 h5 f5 => ?_
    have r5 : FrB a H1 H5 := FrB.trans r4 f5
    have L5 : (putF "fields" (.ref p5) (putF "_other_members" (.ref p4) (putF "_shared" (.ref p3) (putF "_data" (.ref pd) fs)))).length ≤ fs.length + 4 := by have := length_putF "fields" (.ref p5) (putF "_other_members" (.ref p4) (putF "_shared" (.ref p3) (putF "_data" (.ref pd) fs))); omega
    have pfa : p5 ≠ a := (ne_of_none a4 np5).symm
    have pfk : ∀ {H' : Hp}, FrB a H1 H' → FrB a H5 H' → H' p5 = some (.tup []) := fun _ f => f _ _ h5 pfa
    have g5 : FrB a H5 H5 := fun b u h _ => h
    refine q_putN (o := .tup []) (en_tupOf (en_tup (ev_fld (ev_var rfl) a5 T.cls T.a_fields lkEq) (st_of (pfk r5 g5)))) (fun _ _ => ev_var rfl) a5 T.cls T.a_field_names (by omega) fun p6 H6 np6 a6 h6 f6 => ?_
    have r6 : FrB a H1 H6 := FrB.trans r5 f6
    have L6 : (putF "field_names" (.ref p6) (putF "fields" (.ref p5) (putF "_other_members" (.ref p4) (putF "_shared" (.ref p3) (putF "_data" (.ref pd) fs))))).length ≤ fs.length + 5 := by have := length_putF "field_names" (.ref p6) (putF "fields" (.ref p5) (putF "_other_members" (.ref p4) (putF "_shared" (.ref p3) (putF "_data" (.ref pd) fs)))); omega
    have g6 : FrB a H5 H6 := FrB.trans g5 f6
    refine q_putN (o := .tup []) (en_tupOf (en_tup (ev_fld (ev_var rfl) a6 T.cls T.a_fields ((lkNe (by decide +kernel)).trans lkEq)) (st_of (pfk r6 g6)))) (fun _ _ => ev_var rfl) a6 T.cls T.a_compare_names (by omega) fun p7 H7 np7 a7 h7 f7 => ?_
    have r7 : FrB a H1 H7 := FrB.trans r6 f7
    have L7 : (putF "compare_names" (.ref p7) (putF "field_names" (.ref p6) (putF "fields" (.ref p5) (putF "_other_members" (.ref p4) (putF "_shared" (.ref p3) (putF "_data" (.ref pd) fs)))))).length ≤ fs.length + 6 := by have := length_putF "compare_names" (.ref p7) (putF "field_names" (.ref p6) (putF "fields" (.ref p5) (putF "_other_members" (.ref p4) (putF "_shared" (.ref p3) (putF "_data" (.ref pd) fs))))); omega
    have g7 : FrB a H5 H7 := FrB.trans g6 f7
    refine q_putN (o := .tup []) (en_tupOf (en_tup (ev_fld (ev_var rfl) a7 T.cls T.a_fields ((lkNe (by decide +kernel)).trans ((lkNe (by decide +kernel)).trans lkEq))) (st_of (pfk r7 g7)))) (fun _ _ => ev_var rfl) a7 T.cls T.a_show_names (by omega) fun p8 H8 np8 a8 h8 f8 => ?_
    have r8 : FrB a H1 H8 := FrB.trans r7 f8
    have L8 : (putF "show_names" (.ref p8) (putF "compare_names" (.ref p7) (putF "field_names" (.ref p6) (putF "fields" (.ref p5) (putF "_other_members" (.ref p4) (putF "_shared" (.ref p3) (putF "_data" (.ref pd) fs))))))).length ≤ fs.length + 7 := by have := length_putF "show_names" (.ref p8) (putF "compare_names" (.ref p7) (putF "field_names" (.ref p6) (putF "fields" (.ref p5) (putF "_other_members" (.ref p4) (putF "_shared" (.ref p3) (putF "_data" (.ref pd) fs)))))); omega
    have g8 : FrB a H5 H8 := FrB.trans g7 f8
    refine q_putN (o := .tup []) (en_tupOf (en_tup (ev_fld (ev_var rfl) a8 T.cls T.a_fields ((lkNe (by decide +kernel)).trans ((lkNe (by decide +kernel)).trans ((lkNe (by decide +kernel)).trans lkEq)))) (st_of (pfk r8 g8)))) (fun _ _ => ev_var rfl) a8 T.cls T.a_key_names (by omega) fun p9 H9 np9 a9 h9 f9 => ?_
    have r9 : FrB a H1 H9 := FrB.trans r8 f9
    have L9 : (putF "key_names" (.ref p9) (putF "show_names" (.ref p8) (putF "compare_names" (.ref p7) (putF "field_names" (.ref p6) (putF "fields" (.ref p5) (putF "_other_members" (.ref p4) (putF "_shared" (.ref p3) (putF "_data" (.ref pd) fs)))))))).length ≤ fs.length + 8 := by have := length_putF "key_names" (.ref p9) (putF "show_names" (.ref p8) (putF "compare_names" (.ref p7) (putF "field_names" (.ref p6) (putF "fields" (.ref p5) (putF "_other_members" (.ref p4) (putF "_shared" (.ref p3) (putF "_data" (.ref pd) fs))))))); omega
    have g9 : FrB a H5 H9 := FrB.trans g8 f9
    refine q_putN (o := .lst []) (en_list (ev_var rfl) (sq_of (fd1 r9))) (fun _ _ => ev_var rfl) a9 T.cls T.a__init_only (by omega) fun p10 H10 np10 a10 h10 f10 => ?_
    have r10 : FrB a H1 H10 := FrB.trans r9 f10
    have L10 : (putF "_init_only" (.ref p10) (putF "key_names" (.ref p9) (putF "show_names" (.ref p8) (putF "compare_names" (.ref p7) (putF "field_names" (.ref p6) (putF "fields" (.ref p5) (putF "_other_members" (.ref p4) (putF "_shared" (.ref p3) (putF "_data" (.ref pd) fs))))))))).length ≤ fs.length + 9 := by have := length_putF "_init_only" (.ref p10) (putF "key_names" (.ref p9) (putF "show_names" (.ref p8) (putF "compare_names" (.ref p7) (putF "field_names" (.ref p6) (putF "fields" (.ref p5) (putF "_other_members" (.ref p4) (putF "_shared" (.ref p3) (putF "_data" (.ref pd) fs)))))))); omega
    have g10 : FrB a H5 H10 := FrB.trans g9 f10
    refine q_putN (o := .lst []) (en_list (ev_var rfl) (sq_of (fd1 r10))) (fun _ _ => ev_var rfl) a10 T.cls T.a__by_position (by omega) fun p11 H11 np11 a11 h11 f11 => ?_
    have r11 : FrB a H1 H11 := FrB.trans r10 f11
    have L11 : (putF "_by_position" (.ref p11) (putF "_init_only" (.ref p10) (putF "key_names" (.ref p9) (putF "show_names" (.ref p8) (putF "compare_names" (.ref p7) (putF "field_names" (.ref p6) (putF "fields" (.ref p5) (putF "_other_members" (.ref p4) (putF "_shared" (.ref p3) (putF "_data" (.ref pd) fs)))))))))).length ≤ fs.length + 10 := by have := length_putF "_by_position" (.ref p11) (putF "_init_only" (.ref p10) (putF "key_names" (.ref p9) (putF "show_names" (.ref p8) (putF "compare_names" (.ref p7) (putF "field_names" (.ref p6) (putF "fields" (.ref p5) (putF "_other_members" (.ref p4) (putF "_shared" (.ref p3) (putF "_data" (.ref pd) fs))))))))); omega
    have g11 : FrB a H5 H11 := FrB.trans g10 f11
    have pba : p11 ≠ a := (ne_of_none a10 np11).symm
    have b11 : FrB a H11 H11 := fun b u h _ => h
    refine q_putN (o := .lst []) (en_list (ev_var rfl) (sq_of (fd1 r11))) (fun _ _ => ev_var rfl) a11 T.cls T.a__by_name (by omega) fun p12 H12 np12 a12 h12 f12 => ?_
    have r12 : FrB a H1 H12 := FrB.trans r11 f12
    have L12 : (putF "_by_name" (.ref p12) (putF "_by_position" (.ref p11) (putF "_init_only" (.ref p10) (putF "key_names" (.ref p9) (putF "show_names" (.ref p8) (putF "compare_names" (.ref p7) (putF "field_names" (.ref p6) (putF "fields" (.ref p5) (putF "_other_members" (.ref p4) (putF "_shared" (.ref p3) (putF "_data" (.ref pd) fs))))))))))).length ≤ fs.length + 11 := by have := length_putF "_by_name" (.ref p12) (putF "_by_position" (.ref p11) (putF "_init_only" (.ref p10) (putF "key_names" (.ref p9) (putF "show_names" (.ref p8) (putF "compare_names" (.ref p7) (putF "field_names" (.ref p6) (putF "fields" (.ref p5) (putF "_other_members" (.ref p4) (putF "_shared" (.ref p3) (putF "_data" (.ref pd) fs)))))))))); omega
    have g12 : FrB a H5 H12 := FrB.trans g11 f12
    have b12 : FrB a H11 H12 := FrB.trans b11 f12
    refine q_putN (o := .lst ([] ++ [])) (en_cat (ev_fld (ev_var rfl) a12 T.cls T.a__by_position ((lkNe (by decide +kernel)).trans lkEq)) (ev_fld (ev_var rfl) a12 T.cls T.a__by_name lkEq) (b12 _ _ h11 pba) h12 (by decide)) (fun _ _ => ev_var rfl) a12 T.cls T.a__parameters (by omega) fun p13 H13 np13 a13 h13 f13 => ?_
    have r13 : FrB a H1 H13 := FrB.trans r12 f13
    have L13 : (putF "_parameters" (.ref p13) (putF "_by_name" (.ref p12) (putF "_by_position" (.ref p11) (putF "_init_only" (.ref p10) (putF "key_names" (.ref p9) (putF "show_names" (.ref p8) (putF "compare_names" (.ref p7) (putF "field_names" (.ref p6) (putF "fields" (.ref p5) (putF "_other_members" (.ref p4) (putF "_shared" (.ref p3) (putF "_data" (.ref pd) fs)))))))))))).length ≤ fs.length + 12 := by have := length_putF "_parameters" (.ref p13) (putF "_by_name" (.ref p12) (putF "_by_position" (.ref p11) (putF "_init_only" (.ref p10) (putF "key_names" (.ref p9) (putF "show_names" (.ref p8) (putF "compare_names" (.ref p7) (putF "field_names" (.ref p6) (putF "fields" (.ref p5) (putF "_other_members" (.ref p4) (putF "_shared" (.ref p3) (putF "_data" (.ref pd) fs))))))))))); omega
    have g13 : FrB a H5 H13 := FrB.trans g12 f13
    have b13 : FrB a H11 H13 := FrB.trans b12 f13
    refine s_putN (o := .lst []) (en_list (ev_fld (ev_var rfl) a13 T.cls T.a__parameters lkEq) (sq_of h13)) (fun _ _ => ev_var rfl) a13 T.cls T.a__parameter_names (by omega) fun p14 H14 np14 a14 h14 f14 => ?_
    have r14 : FrB a H1 H14 := FrB.trans r13 f14
    have L14 : (putF "_parameter_names" (.ref p14) (putF "_parameters" (.ref p13) (putF "_by_name" (.ref p12) (putF "_by_position" (.ref p11) (putF "_init_only" (.ref p10) (putF "key_names" (.ref p9) (putF "show_names" (.ref p8) (putF "compare_names" (.ref p7) (putF "field_names" (.ref p6) (putF "fields" (.ref p5) (putF "_other_members" (.ref p4) (putF "_shared" (.ref p3) (putF "_data" (.ref pd) fs))))))))))))).length ≤ fs.length + 13 := by have := length_putF "_parameter_names" (.ref p14) (putF "_parameters" (.ref p13) (putF "_by_name" (.ref p12) (putF "_by_position" (.ref p11) (putF "_init_only" (.ref p10) (putF "key_names" (.ref p9) (putF "show_names" (.ref p8) (putF "compare_names" (.ref p7) (putF "field_names" (.ref p6) (putF "fields" (.ref p5) (putF "_other_members" (.ref p4) (putF "_shared" (.ref p3) (putF "_data" (.ref pd) fs)))))))))))); omega
    have g14 : FrB a H5 H14 := FrB.trans g13 f14
    have b14 : FrB a H11 H14 := FrB.trans b13 f14
    refine fin _ p11 H14 a14 ((lkNe (by decide +kernel)).trans ((lkNe (by decide +kernel)).trans ((lkNe (by decide +kernel)).trans lkEq))) (b14 _ _ h11 pba) (fun g hg => ?_) L14 (FrB.trans fr1 r14)
    have ne : ∀ k, k ∈ wholeKeys → g ≠ k := fun k hk e => hg (by rw [e]; exact hk)
    exact (lkNe (ne _ (by simp [wholeKeys]))).trans ((lkNe (ne _ (by simp [wholeKeys]))).trans ((lkNe (ne _ (by simp [wholeKeys]))).trans ((lkNe (ne _ (by simp [wholeKeys]))).trans ((lkNe (ne _ (by simp [wholeKeys]))).trans ((lkNe (ne _ (by simp [wholeKeys]))).trans ((lkNe (ne _ (by simp [wholeKeys]))).trans ((lkNe (ne _ (by simp [wholeKeys]))).trans ((lkNe (ne _ (by simp [wholeKeys]))).trans ((lkNe (ne _ (by simp [wholeKeys]))).trans ((lkNe (ne _ (by simp [wholeKeys]))).trans ((lkNe (ne _ (by simp [wholeKeys]))).trans (lkNe (ne _ (by simp [wholeKeys]))))))))))))))
end
end K52
end

section
set_option Elab.async false
set_option linter.all false
set_option maxRecDepth 100000
set_option maxHeartbeats 4000000
namespace K52
open PySem PySem.Spec PyProof.Rows L2 He Cn Evl
section
variable {P : Program} {w : World} {K : PySem.W.Frag} {mg : Str → Option Value} {base : Heap}
theorem LineErr.mono {G H : Hp} {rows : List (List Addr)} {E : XK} (e : Ex G H) (h : LineErr K G rows E) : LineErr K H rows E := fun d t ring H' hd e2 a b c f g => h d t ring H' (fresh_back e hd) (e.trans e2) a b c f g
theorem frb_ex {a : Addr} {H H' : Hp} (f : FrB a H H') : Ex (del H a) H' := fun b o h => by
  by_cases e : b = a
  · subst e
    rw [del_same] at h
    cases h
  · rw [del_ne e] at h
    exact f b o h e
theorem del_ex {a : Addr} {H : Hp} : Ex (del H a) H := fun b o h => by
  by_cases e : b = a
  · subst e
    rw [del_same] at h
    cases h
  · rw [del_ne e] at h
    exact h
def noKeys : List Str := [("_declare" : Str), ("_set_options" : Str), ("_set_own" : Str), ("_set_whole" : Str), ("MAX_MEMBERS" : Str), ("MAX_LINE" : Str)]
def NoM (fs : List (Str × V)) : Prop := ∀ m, m ∈ noKeys → fs.lookup m = none
theorem NoM.put {fs : List (Str × V)} {f : Str} {v : V} (h : NoM fs) (hf : f ∉ noKeys) : NoM (putF f v fs) := fun m hm => by
  rw [lkNe (fun e => hf (by rw [← e]; exact hm))]
  exact h m hm
theorem q_selfLine {σ : L2.St} {H : Hp} {a pl C dx : Addr} {fs : List (Str × V)} {l : List Addr} {tz : TS} {D : Ends} {f : Str} (v0 : σ[0]? = some (some (.ref a))) (v4 : σ[4]? = some (some (.ref pl))) (hl : SqL K H pl (refs l)) (hz : l.length ≤ 1000) (ha : H a = some (.ins C dx fs)) (c : Cls K C) (n : NoAttr K C f) (hlen : fs.length < 1000)
    (k : ∀ (pt : Addr) (o : Obj), H pt = none → o.dict = none → tz D σ (upd (upd H pt (.frz o (.tup (refs (a :: l))))) a (.ins C dx (putF f (.ref pt) fs)))) : tSeq (sFld K (tVar 0) (tTupZ (tCons (tVar 0) (StX.tStar K (tVar 4) tNil))) f) tz D σ H := by
  refine ⟨_, v0, _, v4, pl, refs l, rfl, .inr hl, ?_⟩
  have e1 : (V.ref a :: (refs l ++ [])) = refs (a :: l) := by
    rw [List.append_nil]
    rfl
  have ll : (refs (a :: l)).length = l.length + 1 := by unfold refs; rw [List.length_map, List.length_cons]
  show ((V.ref a :: (refs l ++ [])).length ≤ sizeLine ∧ ∀ (p : Addr) (o : Obj), H p = none → o.dict = none → tVar 0 σ (upd H p (.frz o (.tup (V.ref a :: (refs l ++ []))))) _)
  rw [e1]
  refine ⟨sz_of (by rw [ll]; omega), fun pt o hpt ho => ?_⟩
  have hpta : pt ≠ a := (ne_of_none ha hpt).symm
  exact ⟨_, v0, a, C, dx, fs, rfl, by rw [upd_ne hpta.symm]; exact ha, c, n, hlen, k pt o hpt ho⟩
/-- a kind that is declared -/
structure Made (K : PySem.W.Frag) (H : Hp) (a dx : Addr) (n : Nat) (l : List Addr) : Prop where
  kd : KdAt K H a l
  fs : ∃ fs, H a = some (.ins (kC K) dx fs) ∧ NoM fs ∧ fs.length ≤ n
/-- the name it has -/
def Nmd (K : PySem.W.Frag) (H : Hp) (a dx : Addr) (v : Option V) : Prop := ∃ fs, H a = some (.ins (kC K) dx fs) ∧ fs.lookup ("name" : Str) = v
def spDeclare (K : PySem.W.Frag) : Sp := fun vs H Q E => ∃ (a m t d dx : Addr) (fs : List (Str × V)) (tops cs : List Addr) (lines : List (List Addr)) (k : Nat), vs = [.ref a, .ref m, .ref t, .ref d] ∧ H a = some (.ins (kC K) dx fs) ∧ NoM fs ∧ fs.length ≤ 100 ∧
  SqT K (del H a) m [] ∧ m ≠ a ∧ Tops K (del H a) t tops lines ∧ (del H a) d = some (.dK []) ∧ tops.Nodup ∧ tops.length ≤ 30 ∧ Mg.Nd (lines ++ [tops]) ∧ (∀ l, l ∈ lines → l.length ≤ 40) ∧ (∀ r, r ∈ lines ++ [tops] → ∀ b, b ∈ r → Plain K (del H a) b) ∧
  Mg.Within cs (lines ++ [tops]) ∧ Mg.cnt cs (lines ++ [tops]) < k ∧ k ≤ 1000 ∧
  (∀ l, Mg.merge k (lines ++ [tops]) = some l → l.length ≤ 11 ∧ ∀ H', Made K H' a dx (fs.length + 30) (a :: l) → Nmd K H' a dx (fs.lookup ("name" : Str)) → FrB a H H' → Q .non H') ∧
  (Mg.merge k (lines ++ [tops]) = none → LineErr K (del H a) (lines ++ [tops]) E)
theorem can_declare (T : Txt K mg) : ∃ fd, FnOk P w K mg base (L2.CX P w) 4 (ma K (kC K) "_declare") fd ["self", "members", "above", "options"] (spDeclare K) ∧ Binds K fd ["self", "members", "above", "options"] [] := by
  have C1 : Can P w K mg base CX0 1 "check_members" ["members"] (spChkMembers K) := can_chkMembers T
  have C2 : Can P w K mg base CX0 1 "check_options" ["options"] spChkOptions := can_chkOptions T
  have C3 : Can P w K mg base CX0 1 "check_above" ["above"] (spChkAbove K) := can_chkAbove T
  have C4 : Can P w K mg base (L2.CX P w) 3 "line_above" ["above"] (spLineAbove K) := can_lineAbove T
  have C5 : Can P w K mg base CX0 1 "check_mixture" ["line"] (spMixture K) := can_mixture T
  have C6 : Can P w K mg base CX0 1 "check_frozen" ["line"] (spFrozen K) := can_frozen T
  have C7 : Can P w K mg base CX0 1 "whole_members" ["line"] (spWholeMembers K) := can_wholeMembers T
  have C8 : Can P w K mg base CX0 1 "check_defaults" ["members"] (spDefaults K) := can_defaults T
  obtain ⟨fdO, FO, bO⟩ := can_setOptions (P := P) (w := w) (base := base) T
  obtain ⟨fdN, FN, bN⟩ := can_setOwn (P := P) (w := w) (base := base) T
  obtain ⟨fdW, FW, bW⟩ := can_setWhole (P := P) (w := w) (base := base) T
  obtain ⟨fd, F⟩ := T.F_Kind__declare
  refine ⟨fd, F.okX sc_Kind__declare (fun vs H Q E h => ?_) (fun cdv A outer s H vs Q E hr h => ?_), F.binds (ps := ["self", "members", "above", "options"]) fun _ _ _ _ _ _ us hl => match us, hl with | [_, _, _, _], _ => rfl⟩
  · obtain ⟨a, m, t, d, dx, fs, tops, cs, lines, k, rfl, _⟩ := h
    rfl
  · obtain ⟨a, m, t, d, dx, fs, tops, cs, lines, k, rfl, ha, nm, hlen, hm, hma, hT, hd, ndt, hz, ndr, hll, hpl, hw, hc, hk, fin, err⟩ := h
    have nd := sc_Kind__declare.nd
    have hr1 : Room 1 _ := hr.mono (by decide)
    refine ⟨_, pss_cons (ps_expr (pe_can C1 hr pass0 (pa_cons (pv 1) pa_nil)))
      (pss_cons (ps_expr (pe_can C2 hr pass0 (pa_cons (pv 3) pa_nil)))
      (pss_cons (ps_expr (pe_can C3 hr pass0 (pa_cons (pv 2) pa_nil)))
      (pss_cons (ps_fld (pv 0) (pv 2) rfl)
      (pss_cons (ps_expr (pe_meth (pv 0) T.cls T.m__set_options FO hr1 bO .nil pass0 (pa_cons (pv 3) pa_nil)))
      (pss_cons (ps_expr (pe_meth (pv 0) T.cls T.m__set_own FN hr1 bN .nil pass0 (pa_cons (pv 1) pa_nil)))
      (pss_cons (ps_set (i := 4) nd rfl (.inl rfl) (pe_can C4 hr (passes_call (takes_of rfl rfl rfl rfl) fun _ _ _ _ h => h) (pa_cons (pv 2) pa_nil)))
      (pss_cons (ps_fld (pv 0) (pe_tupZ (pa_cons (pv 0) (StX.pa_star (pv 4) pa_nil))) rfl)
      (pss_cons (ps_expr (pe_can C5 hr pass0 (pa_cons (pe_fld (pv 0) rfl) pa_nil)))
      (pss_cons (ps_expr (pe_can C6 hr pass0 (pa_cons (pe_fld (pv 0) rfl) pa_nil)))
      (pss_cons (ps_if (PW.pt (pw_and (pt_val (pe_fld (pv 0) rfl)) (pw_and1 (pt_not (pt_val (pe_fld (pv 0) rfl)))))) (pss_one ps_never) pss_nil)
      (pss_cons (ps_expr (pe_meth (pv 0) T.cls T.m__set_whole FW hr1 bW .nil pass0 (pa_cons (pe_can C7 hr pass0 (pa_cons (pe_fld (pv 0) rfl) pa_nil)) pa_nil)))
      (pss_one (ps_expr (pe_can C8 hr pass0 (pa_cons (pe_fld (pv 0) rfl) pa_nil))))))))))))))), ?_⟩
    generalize hr0 : lines ++ [tops] = rows0 at *
    generalize hG : del H a = G at *
    have eG : Ex G H := by rw [← hG]; exact del_ex
    have ga : G a = none := by rw [← hG]; exact del_same
    have frG : ∀ {H1 H2 : Hp}, Ex G H1 → FrB a H1 H2 → Ex G H2 := fun {H1 H2} e f b o h => by
      have hb : b ≠ a := fun q => by
        rw [q, ga] at h
        cases h
      exact f b o (e b o h) hb
    have ks : Ks (kC K) G rows0 := fun r hr b hb => by
      obtain ⟨dx', m', fs', h1, _⟩ := hpl r hr b hb
      exact ⟨dx', fs', h1⟩
    have htk : ∀ b, b ∈ tops → KO (kC K) G b := fun b hb => ks tops (by rw [← hr0]; simp) b hb
    have lp : ∀ (f : Str) (v : V) (gs : List (Str × V)), (putF f v gs).length ≤ gs.length + 1 := length_putF
    -- the three checks
    refine q_drop (v := .non) (ev_call (ea_cons (ev_var rfl) ea_nil) fun H1 e Q q E => ⟨m, rfl, ex_t (eG.trans e) hm, fun H2 e2 => q H2 e2⟩) fun H1 e1 => ?_
    refine q_drop (v := .non) (ev_call (ea_cons (ev_var rfl) ea_nil) fun H2 e Q q E => ⟨d, rfl, ((eG.trans e1).trans e) _ _ hd, fun H2 e2 => q H2 e2⟩) fun H2 e2 => ?_
    have e02 := e1.trans e2
    refine q_drop (v := .non) (ev_call (ea_cons (ev_var rfl) ea_nil) fun H3 e Q q E => ⟨t, tops, rfl, ex_t ((eG.trans e02).trans e) hT.1, ndt, fun b hb => (htk b hb).ex ((eG.trans e02).trans e), by omega, fun H2 e2 => q H2 e2⟩) fun H3 e3 => ?_
    have e03 := e02.trans e3
    have a3 := e03 _ _ ha
    have f03 : FrB a H H3 := fun b u hb _ => e03 _ _ hb
    -- self.above
    refine q_putV (v := .ref t) (ev_var rfl) (fun _ _ => ev_var rfl) a3 T.cls T.a_above (by omega) fun H4 a4 f4 => ?_
    have f04 : FrB a H H4 := FrB.trans f03 f4
    have e4 : Ex G H4 := frG eG f04
    have n4 : NoM (putF "above" (.ref t) fs) := nm.put (by decide +kernel)
    have l4 := lp "above" (.ref t) fs
    have nm4 : (putF "above" (.ref t) fs).lookup ("name" : Str) = fs.lookup ("name" : Str) := lkNe (by decide +kernel)
    generalize putF "above" (.ref t) fs = fs4 at *
    -- the options
    refine ⟨_, rfl, a, dx, fs4, rfl, a4, n4 _ (by simp [noKeys]), _, rfl, a, d, dx, fs4, rfl, a4, e4 _ _ hd, by omega, fun H5 a5 f5 => ?_⟩
    have f05 : FrB a H H5 := FrB.trans f04 f5
    have e5 : Ex G H5 := frG eG f05
    have n5 : NoM (put5 fs4) := ((((n4.put (by decide +kernel)).put (by decide +kernel)).put (by decide +kernel)).put (by decide +kernel)).put (by decide +kernel)
    have l5 : (put5 fs4).length ≤ fs4.length + 5 := by
      have h1 := lp "equal" (.bl true) fs4
      have h2 := lp "order" (.bl false) (putF "equal" (.bl true) fs4)
      have h3 := lp "frozen" (.bl false) (putF "order" (.bl false) (putF "equal" (.bl true) fs4))
      have h4 := lp "only_named" (.bl false) (putF "frozen" (.bl false) (putF "order" (.bl false) (putF "equal" (.bl true) fs4)))
      have h5 := lp "show" (.bl true) (putF "only_named" (.bl false) (putF "frozen" (.bl false) (putF "order" (.bl false) (putF "equal" (.bl true) fs4))))
      unfold put5
      omega
    have kf : (put5 fs4).lookup ("frozen" : Str) = some (.bl false) := (lkNe (by decide +kernel)).trans ((lkNe (by decide +kernel)).trans lkEq)
    have ko : (put5 fs4).lookup ("order" : Str) = some (.bl false) := (lkNe (by decide +kernel)).trans ((lkNe (by decide +kernel)).trans ((lkNe (by decide +kernel)).trans lkEq))
    have nm5 : (put5 fs4).lookup ("name" : Str) = fs4.lookup ("name" : Str) := (lkNe (by decide +kernel)).trans ((lkNe (by decide +kernel)).trans ((lkNe (by decide +kernel)).trans ((lkNe (by decide +kernel)).trans (lkNe (by decide +kernel)))))
    generalize put5 fs4 = fs5 at *
    -- the own members
    refine ⟨_, rfl, a, dx, fs5, rfl, a5, n5 _ (by simp [noKeys]), _, rfl, a, m, dx, fs5, rfl, a5, ex_t e5 hm, hma, by omega, fun om od H6 hom hod homa a6 h6 f6 => ?_⟩
    have f06 : FrB a H H6 := FrB.trans f05 f6
    have e6 : Ex G H6 := frG eG f06
    have n6 : NoM (put3 om od fs5) := ((n5.put (by decide +kernel)).put (by decide +kernel)).put (by decide +kernel)
    have l6 : (put3 om od fs5).length ≤ fs5.length + 3 := by
      have h1 := lp "own_hook" .non fs5
      have h2 := lp "own_members" (.ref om) (putF "own_hook" .non fs5)
      have h3 := lp "own_methods" (.ref od) (putF "own_members" (.ref om) (putF "own_hook" .non fs5))
      unfold put3
      omega
    have kf6 : (put3 om od fs5).lookup ("frozen" : Str) = some (.bl false) := (lkNe (by decide +kernel)).trans ((lkNe (by decide +kernel)).trans ((lkNe (by decide +kernel)).trans kf))
    have ko6 : (put3 om od fs5).lookup ("order" : Str) = some (.bl false) := (lkNe (by decide +kernel)).trans ((lkNe (by decide +kernel)).trans ((lkNe (by decide +kernel)).trans ko))
    have km6 : (put3 om od fs5).lookup ("own_members" : Str) = some (.ref om) := (lkNe (by decide +kernel)).trans lkEq
    have nm6 : (put3 om od fs5).lookup ("name" : Str) = fs5.lookup ("name" : Str) := (lkNe (by decide +kernel)).trans ((lkNe (by decide +kernel)).trans (lkNe (by decide +kernel)))
    generalize put3 om od fs5 = fs6 at *
    -- the line
    refine ⟨_, rfl, t, tops, cs, lines, k, rfl, hT.ex e6, hz, (by rw [hr0]; exact ndr), hll, (by rw [hr0]; exact ks.ex e6), (by rw [hr0]; exact hw), (by rw [hr0]; exact hc), hk, ?_, fun hn => (by rw [hr0] at hn ⊢; exact (err hn).mono e6)⟩
    intro l hl pl H7 hpl7 e67 h7
    rw [hr0] at hl
    obtain ⟨hll11, fin⟩ := fin l hl
    have hmem := (Mg.merge_nodup k rows0 l hl).2
    have a7 := e67 _ _ a6
    have f07 : FrB a H H7 := FrB.ex f06 e67
    have e7 : Ex G H7 := frG eG f07
    have h67 : H7 om = some (.tup []) := e67 _ _ h6
    refine q_selfLine rfl rfl (sq_of h7) (by omega) a7 T.cls T.a_line (by omega) fun pt o hpt ho => ?_
    have hpta : pt ≠ a := (ne_of_none a7 hpt).symm
    have hptm : pt ≠ om := (ne_of_none h67 hpt).symm
    have n8 : NoM (putF "line" (.ref pt) fs6) := n6.put (by decide +kernel)
    have l8 := lp "line" (.ref pt) fs6
    have kl8 : (putF "line" (.ref pt) fs6).lookup ("line" : Str) = some (.ref pt) := lkEq
    have kf8 : (putF "line" (.ref pt) fs6).lookup ("frozen" : Str) = some (.bl false) := (lkNe (by decide +kernel)).trans kf6
    have ko8 : (putF "line" (.ref pt) fs6).lookup ("order" : Str) = some (.bl false) := (lkNe (by decide +kernel)).trans ko6
    have km8 : (putF "line" (.ref pt) fs6).lookup ("own_members" : Str) = some (.ref om) := (lkNe (by decide +kernel)).trans km6
    have nm8 : (putF "line" (.ref pt) fs6).lookup ("name" : Str) = fs6.lookup ("name" : Str) := lkNe (by decide +kernel)
    generalize putF "line" (.ref pt) fs6 = fs8 at *
    generalize hH8 : upd (upd H7 pt (.frz o (.tup (refs (a :: l))))) a (.ins (kC K) dx fs8) = H8
    have a8 : H8 a = some (.ins (kC K) dx fs8) := by rw [← hH8, upd_same]
    have t8 : H8 pt = some (.frz o (.tup (refs (a :: l)))) := by rw [← hH8, upd_ne hpta, upd_same]
    have m8 : H8 om = some (.tup []) := by rw [← hH8, upd_ne homa, upd_ne hptm.symm]; exact h67
    have f78 : FrB a H7 H8 := fun b u hb hba => by rw [← hH8, upd_ne hba, upd_ne (ne_of_none hb hpt)]; exact hb
    have f08 : FrB a H H8 := FrB.trans f07 f78
    have e8 : Ex G H8 := frG eG f08
    have plain : ∀ {H9 : Hp}, Ex H8 H9 → ∀ b, b ∈ a :: l → Plain K H9 b := fun {H9} e b hb => by
      rcases List.mem_cons.mp hb with q | q
      · subst q
        exact ⟨dx, om, fs8, e _ _ a8, km8, st_of (e _ _ m8), kf8⟩
      · obtain ⟨r, hr, hx⟩ := (hmem b).mp q
        exact (hpl r hr b hx).ex (e8.trans e)
    have tt : ∀ {H9 : Hp}, Ex H8 H9 → SqT K H9 pt (refs (a :: l)) := fun e => .inl (.inr ⟨o, e _ _ t8⟩)
    have evl : ∀ {H9 : Hp} {σ : L2.St}, Ex H8 H9 → σ[0]? = some (some (.ref a)) → Ev (tFld K (tVar 0) "line") σ H9 (.ref pt) := fun e hv => ev_fld (ev_var hv) (e _ _ a8) T.cls T.a_line kl8
    refine q_drop (v := .non) (ev_call (ea_cons (evl (Ex.refl _) rfl) ea_nil) fun H9 e Q q E => ⟨pt, a :: l, rfl, tt e, plain e, by rw [List.length_cons]; omega, fun H2 e2 => q H2 e2⟩) fun H9 e9 => ?_
    refine q_drop (v := .non) (ev_call (ea_cons (evl e9 rfl) ea_nil) fun H10 e Q q E => ⟨pt, a, l, rfl, tt (e9.trans e), plain (e9.trans e), by omega, fun H2 e2 => q H2 e2⟩) fun H10 e10 => ?_
    have e8A := e9.trans e10
    refine q_when (b := false) (et_is (et_and (a := false) (b := false) (et_B (ev_fld (ev_var rfl) (e8A _ _ a8) T.cls T.a_order ko8)) (fun h => by cases h)) rfl) (fun h => by cases h) fun _ H11 e11 => ?_
    have e8B := e8A.trans e11
    -- what is whole
    refine ⟨_, rfl, a, dx, fs8, rfl, e8B _ _ a8, n8 _ (by simp [noKeys]), ?_⟩
    refine evl e8B rfl H11 (Ex.refl _) _ fun H12 e12 => ?_
    have e8C := e8B.trans e12
    refine ⟨pt, a :: l, rfl, tt e8C, plain e8C, by rw [List.length_cons]; omega, fun pw H13 hpw e13 h13 => ?_⟩
    have e8D := e8C.trans e13
    refine ⟨a, pw, dx, pt, fs8, a :: l, rfl, e8D _ _ a8, h13, kl8, tt e8D, hpta, by rw [List.length_cons]; omega, n8 _ (by simp [noKeys]), n8 _ (by simp [noKeys]), by omega, fun fs' bp H14 a14 kbp h14 keep l14 f14 => ?_⟩
    have ebp : Ev (tFld K (tVar 0) "_by_position") _ H14 (.ref bp) := ev_fld (ev_var (i := 0) (σ := [some (.ref a), some (.ref m), some (.ref t), some (.ref d), some (.ref pl)]) rfl) a14 T.cls T.a__by_position kbp
    refine s_drop (v := .non) (ev_call (ea_cons ebp ea_nil) fun H15 e Q q E => ⟨bp, rfl, sq_of (e _ _ h14), fun H2 e2 => q H2 e2⟩) fun H15 e15 => ?_
    have f8E : FrB a H8 H14 := FrB.trans (fun b u hb _ => e8D _ _ hb) f14
    have f0E : FrB a H H14 := FrB.trans f08 f8E
    have nk : ∀ g, g ∉ wholeKeys → fs'.lookup g = fs8.lookup g := keep
    refine fin H15 ⟨⟨dx, pt, om, fs', e15 _ _ a14, (nk _ (by decide +kernel)).trans kl8, SqD.of (e15 _ _ (f8E _ _ t8 hpta)) ho, (nk _ (by decide +kernel)).trans km8, st_of (e15 _ _ (f8E _ _ m8 homa)), (nk _ (by decide +kernel)).trans kf8⟩, fs', e15 _ _ a14, fun g hg => ?_, by omega⟩ ⟨fs', e15 _ _ a14, (nk _ (by decide +kernel)).trans (nm8.trans (nm6.trans (nm5.trans nm4)))⟩ (FrB.ex f0E e15)
    rw [nk g ?_]
    · exact n8 g hg
    · have : ∀ g, g ∈ noKeys → g ∉ wholeKeys := by decide +kernel
      exact this g hg
end
end K52
end

section
set_option Elab.async false
set_option linter.all false
set_option maxRecDepth 100000
set_option maxHeartbeats 4000000
namespace K52
open PySem PySem.Spec PyProof.Rows L2 He Cn Evl
section
variable {P : Program} {w : World} {K : PySem.W.Frag} {mg : Str → Option Value} {base : Heap}
/-- what stands above a kind that is declared -/
structure Abv (K : PySem.W.Frag) (G : Hp) (t : Addr) (tops cs : List Addr) (lines : List (List Addr)) (k : Nat) : Prop where
  tp : Tops K G t tops lines
  nd : tops.Nodup
  len : tops.length ≤ 30
  ndr : Mg.Nd (lines ++ [tops])
  ll : ∀ l, l ∈ lines → l.length ≤ 40
  pl : ∀ r, r ∈ lines ++ [tops] → ∀ b, b ∈ r → Plain K G b
  wi : Mg.Within cs (lines ++ [tops])
  ct : Mg.cnt cs (lines ++ [tops]) < k
  kl : k ≤ 1000
theorem Abv.ex {G H : Hp} {t : Addr} {tops cs : List Addr} {lines : List (List Addr)} {k : Nat} (e : Ex G H) (h : Abv K G t tops cs lines k) : Abv K H t tops cs lines k :=
  ⟨h.tp.ex e, h.nd, h.len, h.ndr, h.ll, fun r hr b hb => (h.pl r hr b hb).ex e, h.wi, h.ct, h.kl⟩
/-- the body of Kind.__init__: self, name, above, members, options -/
def spInitB (K : PySem.W.Frag) : Sp := fun vs H Q E => ∃ (a t m d dx : Addr) (z : Str) (tops cs : List Addr) (lines : List (List Addr)) (k : Nat), vs = [.ref a, .str z, .ref t, .ref m, .ref d] ∧ goodName z = true ∧ H a = some (.ins (kC K) dx []) ∧
  SqT K (del H a) m [] ∧ m ≠ a ∧ (del H a) d = some (.dK []) ∧ Abv K (del H a) t tops cs lines k ∧
  (∀ l, Mg.merge k (lines ++ [tops]) = some l → l.length ≤ 11 ∧ ∀ H', Made K H' a dx 40 (a :: l) → Nmd K H' a dx (some (.str z)) → FrB a H H' → Q .non H') ∧
  (Mg.merge k (lines ++ [tops]) = none → LineErr K (del H a) (lines ++ [tops]) E)
theorem init_body (T : Txt K mg) {cdv : Value} {A : Around} {outer : List Env} {s : Shared} {H : Hp} {vs : List V} {Q : VK} {E : XK} {f : Addr} (hr : Room 4 (A.deeper (envOfC "Kind.__init__" (defScope s_Kind_init) s.heap.objs.size f cdv))) (h : spInitB K vs H Q E) :
    ∃ t, PSs (cxOf (L2.CX P w) P w K mg base ["self", "name", "above", "members", "options"] "Kind.__init__" (defScope s_Kind_init) f cdv A outer s H E) (defBody s_Kind_init) t ∧ t { nx := fun _ H' => Q .non H', rt := Q } (start ["self", "name", "above", "members", "options"] vs) H := by
  have C1 : Can P w K mg base CX0 1 "is_name" ["value"] spIsName := can_isName T
  obtain ⟨fdD, FD, bD⟩ := can_declare (P := P) (w := w) (base := base) T
  obtain ⟨a, t, m, d, dx, z, tops, cs, lines, k, rfl, hz, ha, hm, hma, hd, hA, fin, err⟩ := h
  have nd := sc_Kind_init.nd
  refine ⟨_, pss_cons (ps_if (pt_not (pt_val (pe_can C1 hr pass0 (pa_cons (pv 1) pa_nil)))) (pss_one ps_never) pss_nil)
    (pss_cons (ps_fld (pv 0) (pv 1) rfl)
    (pss_one (ps_expr (pe_meth (pv 0) T.cls T.m__declare FD hr bD .nil (passes_call (takes_of rfl rfl rfl rfl) fun _ _ _ _ h => h) (pa_cons (pv 3) (pa_cons (pv 2) (pa_cons (pv 4) pa_nil))))))), ?_⟩
  refine q_when (et_not (a := true) (et_B (ev_call (ea_cons (ev_var rfl) ea_nil) fun H1 e Q q E => ⟨z, rfl, hz, fun H2 e2 => q H2 e2⟩))) (fun h => by cases h) fun _ H1 e1 => ?_
  have a1 := e1 _ _ ha
  refine q_putV (v := .str z) (ev_var rfl) (fun _ _ => ev_var rfl) a1 T.cls T.a_name (by decide) fun H2 a2 f2 => ?_
  have f02 : FrB a H H2 := fun b u hb hba => f2 b u (e1 _ _ hb) hba
  have n2 : NoM (putF "name" (.str z) []) := NoM.put (fun m _ => rfl) (by decide +kernel)
  have l2 := length_putF "name" (.str z) []
  have e2 : Ex (del H a) (del H2 a) := fun b o h => by
    have h' := frb_ex f02 b o h
    by_cases e : b = a
    · subst e
      rw [del_same] at h
      cases h
    · rw [del_ne e]
      exact h'
  have nz : (putF "name" (.str z) ([] : List (Str × V))).lookup ("name" : Str) = some (.str z) := lkEq
  generalize putF "name" (.str z) [] = fs2 at *
  have l2 : fs2.length ≤ 1 := l2
  have hA2 := hA.ex e2
  refine ⟨_, rfl, a, dx, fs2, rfl, a2, n2 _ (by simp [noKeys]), _, rfl, _, rfl, _, rfl, a, m, t, d, dx, fs2, tops, cs, lines, k, rfl, a2, n2, by omega, ex_t e2 hm, hma, hA2.tp, e2 _ _ hd, hA2.nd, hA2.len, hA2.ndr, hA2.ll, hA2.pl, hA2.wi, hA2.ct, hA2.kl, fun l hl => ⟨(fin l hl).1, fun H3 M3 N3 f3 => (fin l hl).2 H3 ⟨M3.kd, ?_⟩ (by rw [nz] at N3; exact N3) (FrB.trans f02 f3)⟩, fun hn => (err hn).mono e2⟩
  obtain ⟨fs3, h1, h2, h3⟩ := M3.fs
  exact ⟨fs3, h1, h2, by omega⟩
/-- Kind(name) -/
def spInit1 (K : PySem.W.Frag) : Sp := fun vs H Q _ => ∃ (a dx : Addr) (z : Str), vs = [.ref a, .str z] ∧ goodName z = true ∧ H a = some (.ins (kC K) dx []) ∧ ∀ H', Made K H' a dx 40 [a] → Nmd K H' a dx (some (.str z)) → FrB a H H' → Q .non H'
theorem abv_nil (T : Txt K mg) {G : Hp} : Abv K G (kwAbove K) [] [] [] 1 := by
  refine ⟨⟨T.e1 G, rfl, fun i a l h => by simp at h⟩, List.nodup_nil, Nat.zero_le _, fun r hr => ?_, (fun l h => by cases h), fun r hr b hb => ?_, fun r hr b hb => ?_, by decide, by decide⟩
  all_goals
    obtain rfl := List.mem_singleton.mp hr
    first | exact List.nodup_nil | cases hb
/-- what a fresh pair of an empty tuple and an empty dict changes -/
theorem ex_two {H : Hp} {p d : Addr} {u v : HO} (hp : H p = none) (hd : H d = none) (hne : d ≠ p) : Ex H (upd (upd H p u) d v) := (Ex.new hp).trans (Ex.new (by rw [upd_ne hne]; exact hd))
theorem del_mono {a : Addr} {H H' : Hp} (e : Ex H H') : Ex (del H a) (del H' a) := fun b o h => by
  by_cases q : b = a
  · subst q
    rw [del_same] at h
    cases h
  · rw [del_ne q] at h ⊢
    exact e b o h
theorem initB_of {H : Hp} {a dx t p d : Addr} {z : Str} {tops cs : List Addr} {lines : List (List Addr)} {k : Nat} {Q : VK} {E : XK} (hz : goodName z = true) (ha : H a = some (.ins (kC K) dx [])) (hp : H p = none) (hd : H d = none) (hne : d ≠ p) (hA : Abv K (del H a) t tops cs lines k)
    (fin : ∀ l, Mg.merge k (lines ++ [tops]) = some l → l.length ≤ 11 ∧ ∀ H', Made K H' a dx 40 (a :: l) → Nmd K H' a dx (some (.str z)) → FrB a H H' → Q .non H') (err : Mg.merge k (lines ++ [tops]) = none → LineErr K (del H a) (lines ++ [tops]) E) :
    spInitB K [.ref a, .str z, .ref t, .ref p, .ref d] (upd (upd H p (.tup [])) d (.dK [])) Q E := by
  have e : Ex H (upd (upd H p (.tup [])) d (.dK [])) := ex_two hp hd hne
  have hpa : p ≠ a := (ne_of_none ha hp).symm
  have hda : d ≠ a := (ne_of_none ha hd).symm
  exact ⟨a, t, p, d, dx, z, tops, cs, lines, k, rfl, hz, e _ _ ha, st_of (by rw [del_ne hpa, upd_ne hne.symm, upd_same]), hpa, by rw [del_ne hda, upd_same], hA.ex (del_mono e),
    fun l hl => ⟨(fin l hl).1, fun H' M N f => (fin l hl).2 H' M N fun b u hb hba => f b u (e _ _ hb) hba⟩, fun hn => (err hn).mono (del_mono e)⟩
theorem fnr_init (T : Txt K mg) : FnR P w K mg base (L2.CX P w) 5 (ma K (kC K) "__init__") (spInit1 K) := by
  obtain ⟨fd, F⟩ := T.F_Kind_init
  obtain ⟨oc, od, dV, kV, doc, pm, an, cdv, ct, osl, rfl, lk, hcd, hD, hK⟩ := F.ex
  have hD : DflV K dV [] := hD
  have hK : KwdV K kV [("above", .ref (kwAbove K))] := hK
  obtain rfl : dV = .none := by
    rcases hD with ⟨_, q⟩ | ⟨q, _⟩
    · exact q
    · exact absurd rfl q
  rcases hK with q | ⟨D, rfl, hK2⟩
  · cases q
  obtain ⟨u, hu, ru⟩ := hK2 _ (List.mem_singleton.mpr rfl)
  obtain rfl : u = Value.ref (kwAbove K) := ru
  intro A outer s H us vs Q E hr e0 rv h
  obtain ⟨a, dx, z, rfl, hz, ha, fin⟩ := h
  obtain ⟨u1, u2, rfl, r1, r2⟩ := vals2 rv
  refine InC.run_in (ps := ["self", "name", "above"]) (us := [u1, u2, .ref (kwAbove K)]) (vs := [.ref a, .str z, .ref (kwAbove K)]) (pv := "members") (pd := "options") (sp := spInitB K) lk hcd sc_Kind_init StX.cxUp hr e0 (InC.bnd_dflt hu ⟨_, _, _, _, _, _, rfl, rfl, rfl⟩) (.cons r1 (.cons r2 (.cons rfl .nil))) rfl (fun A outer s H vs Q E hr h => init_body T hr h) fun p d hp hd hne => ?_
  refine initB_of hz ha hp hd hne (abv_nil T) (fun l hl => ?_) fun hn => ?_
  · have : l = [] := by
      have e : Mg.merge 1 (([] : List (List Addr)) ++ [[]]) = some [] := rfl
      rw [e] at hl
      exact (Option.some.inj hl).symm
    subst this
    exact ⟨by decide, fin⟩
  · have e : Mg.merge 1 (([] : List (List Addr)) ++ [[]]) = some [] := rfl
    rw [e] at hn
    cases hn
/-- Kind(name, above=tops) -/
def spInitK (K : PySem.W.Frag) : List V → List V → Hp → VK → XK → Prop := fun vs zs H Q E => ∃ (a dx t : Addr) (z : Str) (tops cs : List Addr) (lines : List (List Addr)) (k : Nat), vs = [.ref a, .str z] ∧ zs = [.ref t] ∧ goodName z = true ∧ H a = some (.ins (kC K) dx []) ∧ Abv K (del H a) t tops cs lines k ∧
  (∀ l, Mg.merge k (lines ++ [tops]) = some l → l.length ≤ 11 ∧ ∀ H', Made K H' a dx 40 (a :: l) → Nmd K H' a dx (some (.str z)) → FrB a H H' → Q .non H') ∧ (Mg.merge k (lines ++ [tops]) = none → LineErr K (del H a) (lines ++ [tops]) E)
theorem fnk_init (T : Txt K mg) : InC.FnKw P w K mg base (L2.CX P w) 5 (ma K (kC K) "__init__") ["above"] (spInitK K) := by
  obtain ⟨fd, F⟩ := T.F_Kind_init
  obtain ⟨oc, od, dV, kV, doc, pm, an, cdv, ct, osl, rfl, lk, hcd, hD, hK⟩ := F.ex
  have hD : DflV K dV [] := hD
  have hK : KwdV K kV [("above", .ref (kwAbove K))] := hK
  obtain rfl : dV = .none := by
    rcases hD with ⟨_, q⟩ | ⟨q, _⟩
    · exact q
    · exact absurd rfl q
  rcases hK with q | ⟨D, rfl, hK2⟩
  · cases q
  intro A outer s H us ws vs zs Q E hr e0 rv rz hz0 h
  obtain ⟨a, dx, t, z, tops, cs, lines, k, rfl, rfl, hz, ha, hA, fin, err⟩ := h
  obtain ⟨u1, u2, rfl, r1, r2⟩ := vals2 rv
  obtain ⟨u3, rfl, r3⟩ := vals1 rz
  refine InC.run_in (ps := ["self", "name", "above"]) (us := [u1, u2, u3]) (vs := [.ref a, .str z, .ref t]) (pv := "members") (pd := "options") (sp := spInitB K) lk hcd sc_Kind_init StX.cxUp hr e0 (InC.bnd_all rfl) (.cons r1 (.cons r2 (.cons r3 .nil))) rfl (fun A outer s H vs Q E hr h => init_body T hr h) fun p d hp hd hne => ?_
  exact initB_of hz ha hp hd hne hA fin err
end
end K52
end

section
set_option Elab.async false
set_option linter.all false
set_option maxRecDepth 100000
set_option maxHeartbeats 4000000
namespace K52
open PySem PySem.Spec PyProof.Rows L2 He Cn Evl
section
variable {P : Program} {w : World} {K : PySem.W.Frag} {mg : Str → Option Value} {base : Heap}
/-! ### errors with one field -/
def spIX (C : Addr) (f : Str) : Sp := fun vs H Q _ => ∃ (a : Addr) (it : V), vs = [.ref a, it] ∧ H a = some (exo a C none) ∧
  ∀ (d : Addr) (H' : Hp), H d = none → d ≠ a → H' a = some (exo a C (some d)) → H' d = some (exd d [(f, it)]) → (∀ b o, H b = some o → b ≠ a → H' b = some o) → Q .non H'
theorem ok_ib (T : Txt K mg) : ∃ fd, FnOk P w K mg base CX0 1 (ma K (kB K) "__init__") fd ["self", "spot"] (spIX (kB K) "spot") ∧ Binds K fd ["self", "spot"] [] := by
  obtain ⟨fd, F⟩ := T.F_InvalidBook_init
  refine ⟨fd, F.ok sc_InvalidBook_init (fun vs H Q E h => ?_) (fun cdv A outer s H vs Q E hr h => ?_), F.binds fun _ _ _ _ _ _ us hl => match us, hl with | [_, _], _ => rfl⟩
  · obtain ⟨a, it, rfl, _⟩ := h
    rfl
  · obtain ⟨a, it, rfl, ha, k⟩ := h
    refine ⟨_, pss_one (ps_ost (pv 0) (pv 1)), ?_⟩
    refine ⟨_, rfl, _, rfl, a, kB K, rfl, T.oexB, T.e_spot, .inl ⟨ha, fun d hd hda => ?_⟩⟩
    refine k d _ hd hda upd_same (by rw [upd_ne hda, upd_same]) fun b o e hb => ?_
    rw [upd_ne hb, upd_ne (ne_of_none e hd)]
    exact e
theorem ok_nk (T : Txt K mg) : ∃ fd, FnOk P w K mg base CX0 1 (ma K (kN K) "__init__") fd ["self", "name"] (spIX (kN K) "name") ∧ Binds K fd ["self", "name"] [] := by
  obtain ⟨fd, F⟩ := T.F_NoKind_init
  refine ⟨fd, F.ok sc_NoKind_init (fun vs H Q E h => ?_) (fun cdv A outer s H vs Q E hr h => ?_), F.binds fun _ _ _ _ _ _ us hl => match us, hl with | [_, _], _ => rfl⟩
  · obtain ⟨a, it, rfl, _⟩ := h
    rfl
  · obtain ⟨a, it, rfl, ha, k⟩ := h
    refine ⟨_, pss_one (ps_ost (pv 0) (pv 1)), ?_⟩
    refine ⟨_, rfl, _, rfl, a, kN K, rfl, T.oexN, T.e_name, .inl ⟨ha, fun d hd hda => ?_⟩⟩
    refine k d _ hd hda upd_same (by rw [upd_ne hda, upd_same]) fun b o e hb => ?_
    rw [upd_ne hb, upd_ne (ne_of_none e hd)]
    exact e
theorem ix_then {C : Addr} {f : Str} {H1 : Hp} {it : V} {Q : XK} (k : ∀ (d : Addr) (H' : Hp), H1 d = none → Ex H1 H' → H' d = some (.xd [(f, it)]) → Q (.ref C) (some d) H') :
    ([it] : List V).length ≤ 1000 ∧ ∀ a, H1 a = none → spIX C f (.ref a :: ([it] ++ [])) (upd H1 a (exo a C none))
      (fun v H2 => v = .non ∧ ∃ (d : Addr) (fs : List (Str × V)), H2 a = some (exo a C (some d)) ∧ H2 d = some (exd d fs) ∧ H1 d = none ∧ Q (.ref C) (some d) (upd (del H2 a) d (.xd fs))) (fun _ _ _ => False) := by
  refine ⟨by show 1 ≤ 1000; decide, fun a ha => ⟨a, it, rfl, upd_same, fun d H' hd hda ha' hd' fr => ⟨rfl, d, _, ha', hd', ?_, ?_⟩⟩⟩
  · rw [upd_ne hda] at hd
    exact hd
  · rw [upd_ne hda] at hd
    refine k d _ hd (fun b o e => ?_) upd_same
    rw [upd_ne (ne_of_none e hd), del_ne (ne_of_none e ha)]
    refine fr b o ?_ (ne_of_none e ha)
    rw [upd_ne (ne_of_none e ha)]
    exact e
/-- the error of the class at C whose field f holds it -/
def XErr (C : Addr) (f : Str) (H : Hp) (it : V) (E : XK) : Prop := ∀ (d : Addr) (H' : Hp), H d = none → Ex H H' → H' d = some (.xd [(f, it)]) → E (.ref C) (some d) H'
theorem XErr.mono {C : Addr} {f : Str} {H H' : Hp} {it : V} {E : XK} (e : Ex H H') (h : XErr C f H it E) : XErr C f H' it E := fun d H2 hd e2 h2 => h d H2 (fresh_back e hd) (e.trans e2) h2
/-! ### what a book is made of -/
/-- a kind with this name -/
def NmK (K : PySem.W.Frag) (H : Hp) (a : Addr) (w : Str) : Prop := ∃ (dx : Addr) (fs : List (Str × V)), H a = some (.ins (kC K) dx fs) ∧ fs.lookup ("name" : Str) = some (.str w)
theorem NmK.ex {H H' : Hp} {a : Addr} {w : Str} (e : Ex H H') (h : NmK K H a w) : NmK K H' a w := by
  obtain ⟨dx, fs, h1, h2⟩ := h
  exact ⟨dx, fs, e _ _ h1, h2⟩
theorem NmK.ko {H : Hp} {a : Addr} {w : Str} (h : NmK K H a w) : KO (kC K) H a := by
  obtain ⟨dx, fs, h1, _⟩ := h
  exact ⟨dx, fs, h1⟩
abbrev Tg := Option (Str × Addr)
/-- a thing handed to a book: a kind of a name, or none -/
inductive ThR (K : PySem.W.Frag) (H : Hp) : V → Tg → Prop
  | kd {a : Addr} {w : Str} (h : NmK K H a w) : ThR K H (.ref a) (some (w, a))
  | non : ThR K H .non none
  | int (i : Int) : ThR K H (.int i) none
  | str (z : Str) : ThR K H (.str z) none
theorem ThR.ex {H H' : Hp} {x : V} {t : Tg} (e : Ex H H') (h : ThR K H x t) : ThR K H' x t := by
  cases h with
  | kd h => exact .kd (h.ex e)
  | non => exact .non
  | int i => exact .int i
  | str z => exact .str z
def ThsR (K : PySem.W.Frag) (H : Hp) (xs : List V) (ts : List Tg) : Prop := xs.length = ts.length ∧ ∀ (i : Nat) (x : V) (t : Tg), xs[i]? = some x → ts[i]? = some t → ThR K H x t
theorem ThsR.ex {H H' : Hp} {xs : List V} {ts : List Tg} (e : Ex H H') (h : ThsR K H xs ts) : ThsR K H' xs ts := ⟨h.1, fun i x t a b => (h.2 i x t a b).ex e⟩
/-- the first thing that is no kind, or whose name was there -/
def fbad : List Tg → List Str → Nat → Option Nat
  | [], _, _ => none
  | none :: _, _, i => some i
  | some (w, _) :: r, seen, i => if w ∈ seen then some i else fbad r (seen ++ [w]) (i + 1)
theorem fbad_none {ts : List Tg} : ∀ {seen : List Str} {i : Nat}, fbad ts seen i = none → ∃ ps : List (Str × Addr), ts = ps.map some := by
  induction ts with
  | nil => exact fun _ => ⟨[], rfl⟩
  | cons t r ih =>
    intro seen i h
    cases t with
    | none => cases h
    | some p =>
      obtain ⟨w, a⟩ := p
      unfold fbad at h
      by_cases hw : w ∈ seen
      · rw [if_pos hw] at h
        cases h
      · rw [if_neg hw] at h
        obtain ⟨ps, rfl⟩ := ih h
        exact ⟨(w, a) :: ps, rfl⟩
/-- the dict of a book -/
def bkv (ps : List (Str × Addr)) : List (L2.Key × V) := ps.map fun p => (.inr p.1, .ref p.2)
theorem bkv_val {ps : List (Str × Addr)} {w : Str} : valV (bkv ps) (.inr w) = (ps.find? fun p => decide (p.1 = w)).map fun p => V.ref p.2 := by
  induction ps with
  | nil => rfl
  | cons p r ih =>
    unfold bkv at ih ⊢
    rw [List.map_cons]
    by_cases h : p.1 = w
    · rw [valV_pos (by rw [h]), List.find?_cons, decide_eq_true h]
      rfl
    · rw [valV_neg (fun q => h (by injection q)), ih, List.find?_cons, decide_eq_false h]
theorem bkv_some {ps : List (Str × Addr)} {w : Str} : (valV (bkv ps) (.inr w)).isSome = decide (w ∈ ps.map Prod.fst) := by
  rw [bkv_val]
  refine Bool.eq_iff_iff.mpr ?_
  rw [Option.isSome_map, List.find?_isSome, decide_eq_true_iff, List.mem_map]
  constructor
  · rintro ⟨p, h1, h2⟩
    exact ⟨p, h1, of_decide_eq_true h2⟩
  · rintro ⟨p, h1, h2⟩
    exact ⟨p, h1, decide_eq_true h2⟩
theorem bkv_put {ps : List (Str × Addr)} {w : Str} {a : Addr} (h : w ∉ ps.map Prod.fst) : putK (bkv ps) (.inr w) (.ref a) = bkv (ps ++ [(w, a)]) := by
  unfold putK
  rw [valV_any, bkv_some, decide_eq_false h, if_neg (by decide)]
  unfold bkv
  rw [List.map_append]
  rfl
theorem not_kind (T : Txt K mg) {H : Hp} {x : V} (h : ThR K H x none) : ∃ t : String, TyX K H x (.type t) ∧ PySem.W.kitOne K (.type t) (.ref (kC K)) = some false := by
  have key : ∀ t, t ∈ (["NoneType", "str", "int"] : List String) → PySem.W.kitOne K (.type t) (.ref (kC K)) = some false := fun t ht => of_decide_eq_true (List.all_eq_true.mp T.knK t ht)
  cases h with
  | non => exact ⟨"NoneType", .base .non, key _ (by simp)⟩
  | int i => exact ⟨"int", .base (.int i), key _ (by simp)⟩
  | str z => exact ⟨"str", .base (.str z), key _ (by simp)⟩
theorem ev_isKind (T : Txt K mg) {σ : L2.St} {H : Hp} {ta : TE} {x : V} {t : Tg} (h : Ev ta σ H x) (hk : ThR K H x t) : Ev (tCB (rIsi K) (tCons ta (tCons (tC (.ref (kC K))) tNil))) σ H (.bl t.isSome) :=
  ev_cb (ea_cons h (ea_cons ev_c ea_nil)) fun H1 e Q q => by
    cases t with
    | none =>
      obtain ⟨t, ty, k⟩ := not_kind T (hk.ex e)
      exact ⟨x, .ref (kC K), .type t, .ref (kC K), false, rfl, .own _, ty, k, q H1 (Ex.refl H1)⟩
    | some p =>
      cases hk.ex e with
      | kd hn => exact ⟨_, .ref (kC K), .ref (kC K), .ref (kC K), true, rfl, .own _, ty_kind T hn.ko, T.isK, q H1 (Ex.refl H1)⟩
theorem ev_nm (T : Txt K mg) {σ : L2.St} {H : Hp} {te : TE} {a : Addr} {w : Str} (h : Ev te σ H (.ref a)) (hk : NmK K H a w) : Ev (tFld K te "name") σ H (.str w) := by
  obtain ⟨dx, fs, h1, h2⟩ := hk
  exact ev_fld h h1 T.cls T.a_name h2
theorem et_din {σ : L2.St} {H : Hp} {td ty : TE} {d : Addr} {z : Str} {kvs : List (L2.Key × V)} (hy : Ev ty σ H (.str z)) (hd : Ev td σ H (.ref d)) (h : H d = some (.dK kvs)) : Ev (tDIn ty td) σ H (.bl (valV kvs (.inr z)).isSome) := fun H1 e Q q =>
  hy H1 e _ fun H2 e2 => hd H2 (e.trans e2) _ fun H3 e3 => ⟨d, _, rfl, DGet.k (k := .inr z) (((e.trans e2).trans e3) _ _ h), q H3 (e2.trans e3)⟩
/-! ### _by_names -/
def spByNames (K : PySem.W.Frag) : Sp := fun vs H Q E => ∃ (t : Addr) (xs : List V) (ts : List Tg), vs = [.ref t] ∧ SqT K H t xs ∧ ThsR K H xs ts ∧ ts.length ≤ 1000 ∧ (∀ i, fbad ts [] 0 = some i → XErr (kB K) "spot" H (.int (i : Nat)) E) ∧
  (∀ ps : List (Str × Addr), fbad ts [] 0 = none → ts = ps.map some → (ps.map Prod.fst).Nodup → ∀ D H', H D = none → Ex H H' → H' D = some (.dK (bkv ps)) → Q (.ref D) H')
theorem can_byNames (T : Txt K mg) : Can P w K mg base (L2.CX P w) 3 "_by_names" ["kinds"] (spByNames K) := by
  obtain ⟨fdI, FI, bI⟩ := ok_ib (P := P) (w := w) (base := base) T
  refine can_of T.g__by_names T.F__by_names (fun fd F => ?_) (fun _ _ _ _ _ _ us hl => match us, hl with | [_], _ => rfl)
  refine F.okX sc__by_names (fun vs H Q E h => ?_) (fun cdv A outer s H vs Q E hr h => ?_)
  · obtain ⟨t, xs, ts, rfl, _⟩ := h
    rfl
  · obtain ⟨t, xs, ts, rfl, hT, hR, hz, err, fin⟩ := h
    have nd := sc__by_names.nd
    have hu := hu_of hr
    refine ⟨_, pss_cons (ps_set (i := 1) nd rfl (.inl rfl) pe_dnewK)
      (pss_cons (ps_for (passes_of rfl) rfl (pi_enumT (by rfl) T.n_enumerate (pa_cons (pv 0) pa_nil)) (pg_tup rfl (pgs_cons (pg_name (i := 2) nd rfl (.inl rfl)) (pgs_cons (pg_name (i := 3) nd rfl (.inl rfl)) pgs_nil)))
        (pss_cons (ps_if (PW.pt (pw_or (pt_not (pt_val (pe_callB call_isi (by rfl) T.n_isinstance (by decide +kernel) (pa_cons (pv 3) (pa_cons (pe_glob rfl T.g_Kind (v := .ref (kC K)) rfl) pa_nil))))) (pw_or1 (pt_cmp (pc_din hu (pe_fld (pv 3) rfl) (pv 1))))))
            (pss_one (ps_raise rfl (takes_of rfl rfl rfl rfl) (pmk_oex T.oexB T.mInitB.at_ T.tInitB FI (hr.mono (by decide)) bI .nil pass0 rfl T.g_InvalidBook (pa_cons (pv 2) pa_nil)))) pss_nil)
          (pss_one (ps_dput hu (pv 1) (pe_fld (pv 3) rfl) (pv 3) rfl))))
      (pss_one (ps_ret (pv 1)))), ?_⟩
    intro D hD
    have e1 : Ex H (upd H D (.dK [])) := Ex.new hD
    have hD1 : upd H D (.dK []) D = some (.dK (bkv [])) := upd_same
    generalize upd H D (.dK []) = H1 at *
    refine ⟨_, rfl, t, xs, rfl, ex_t e1 hT, for_it walk_enumT (fun i σ' H' => ∃ v2 v3 ps, σ' = [some (.ref t), some (.ref D), v2, v3] ∧ Ex H H' ∧ H' D = some (.dK (bkv ps)) ∧ ts.take i = ps.map some ∧ (ps.map Prod.fst).Nodup ∧ fbad ts [] 0 = fbad (ts.drop i) (ps.map Prod.fst) i) ⟨_, _, [], rfl, e1, hD1, rfl, List.nodup_nil, rfl⟩ (fun i σ' H' _ ⟨_, _, _, _, q, _⟩ => ex_t q hT) ?_ ?_⟩
    · rintro i x σ' H3 H4 hi ⟨v2, v3, ps, rfl, e3, h3, htk, hnd, hfb⟩ ⟨Tp, y, z, rfl, hTp, rfl, hy, hz2⟩
      obtain rfl := Option.some.inj hy
      have hDT : D ≠ Tp := ne_of_none h3 hTp
      have e4 : Ex H (upd H3 Tp (.tup [.int (i : Nat), z])) := e3.trans (Ex.new hTp)
      have h4 : upd H3 Tp (.tup [.int (i : Nat), z]) D = some (.dK (bkv ps)) := by rw [upd_ne hDT]; exact h3
      have hil : i < ts.length := by rw [← hR.1]; exact (List.getElem?_eq_some_iff.mp hz2).1
      obtain ⟨tg, htg⟩ := at_some hil
      have hth := (hR.2 i z tg hz2 htg).ex e4
      have hdr : ts.drop i = tg :: ts.drop (i + 1) := drop_at htg
      refine ⟨Tp, _, rfl, st_of upd_same, rfl, _, _, rfl, _, _, rfl, rfl, ?_⟩
      generalize upd H3 Tp (.tup [.int (i : Nat), z]) = H5 at *
      have hps : ps.length = i := by
        have := congrArg List.length htk
        rw [List.length_take, List.length_map] at this
        omega
      rw [hdr] at hfb
      cases tg with
      | none =>
        have hfb : fbad ts [] 0 = some i := hfb
        have b1 : EvT (tOr (tNot (tB (tCB (rIsi K) (tCons (tVar 3) (tCons (tC (.ref (kC K))) tNil))))) (tB (tDIn (tFld K (tVar 3) "name") (tVar 1)))) [some (.ref t), some (.ref D), some (.int (i : Nat)), some z] H5 (true || false) := et_or (et_not (a := false) (et_B (ev_isKind T (ev_var rfl) hth))) fun h => by cases h
        refine q_when b1 (fun _ H6 e6 => ?_) (fun h => by cases h)
        refine ⟨_, rfl, ix_then fun d H7 hd e7 h7 => err i hfb d H7 (fresh_back (e4.trans e6) hd) ((e4.trans e6).trans e7) h7⟩
      | some p =>
        obtain ⟨wd, a⟩ := p
        cases hth with
        | kd hk =>
          have b1 : EvT (tOr (tNot (tB (tCB (rIsi K) (tCons (tVar 3) (tCons (tC (.ref (kC K))) tNil))))) (tB (tDIn (tFld K (tVar 3) "name") (tVar 1)))) [some (.ref t), some (.ref D), some (.int (i : Nat)), some (.ref a)] H5 (false || decide (wd ∈ ps.map Prod.fst)) := et_or (et_not (a := true) (et_B (ev_isKind (t := some (wd, a)) T (ev_var rfl) (.kd hk)))) fun _ => by
            have := et_din (ev_nm T (ev_var (i := 3) (σ := [some (.ref t), some (.ref D), some (.int (i : Nat)), some (.ref a)]) rfl) hk) (ev_var (i := 1) rfl) h4
            rw [bkv_some] at this
            exact et_B this
          rw [Bool.false_or] at b1
          have hfb : fbad ts [] 0 = if wd ∈ ps.map Prod.fst then some i else fbad (ts.drop (i + 1)) (ps.map Prod.fst ++ [wd]) (i + 1) := hfb
          refine q_when b1 (fun hb H6 e6 => ?_) (fun hb H6 e6 => ?_)
          · rw [if_pos (of_decide_eq_true hb)] at hfb
            refine ⟨_, rfl, ix_then fun d H7 hd e7 h7 => err i hfb d H7 (fresh_back (e4.trans e6) hd) ((e4.trans e6).trans e7) h7⟩
          · have hw := of_decide_eq_false hb
            rw [if_neg hw] at hfb
            have h6 := e6 _ _ h4
            refine ⟨_, rfl, _, rfl, ?_⟩
            refine ev_nm T (ev_var (i := 3) (σ := [some (.ref t), some (.ref D), some (.int (i : Nat)), some (.ref a)]) rfl) (hk.ex e6) H6 (Ex.refl _) _ fun H7 e7 => ?_
            have h7 := e7 _ _ h6
            refine ⟨D, _, rfl, DPut.k (k := .inr wd) h7 (sz_lt (by unfold bkv; rw [List.length_map]; omega)), ?_⟩
            rw [bkv_put hw]
            refine ⟨_, _, ps ++ [(wd, a)], rfl, Ex.mut ((e4.trans e6).trans e7) hD, upd_same, ?_, ?_, ?_⟩
            · rw [List.take_add_one, htk, htg, List.map_append]
              rfl
            · rw [List.map_append]
              exact List.nodup_append.mpr ⟨hnd, by simp, fun x hx y hy => by
                obtain rfl := List.mem_singleton.mp hy
                exact fun q => hw (q ▸ hx)⟩
            · rw [List.map_append]
              exact hfb
    · rintro σ' H3 ⟨v2, v3, ps, rfl, e3, h3, htk, hnd, hfb⟩
      rw [hR.1, List.take_length] at htk
      rw [hR.1, List.drop_length] at hfb
      exact s_ret (ev_var rfl) fun H4 e4 => fin ps hfb htk hnd D H4 hD (e3.trans e4) (e4 _ _ h3)
end
end K52
end

section
set_option Elab.async false
set_option linter.all false
set_option maxRecDepth 100000
set_option maxHeartbeats 4000000
namespace K52
open PySem PySem.Spec PyProof.Rows L2 He Cn Evl
section
variable {P : Program} {w : World} {K : PySem.W.Frag} {mg : Str → Option Value} {base : Heap}
/-- a book of these kinds -/
structure BkAt (K : PySem.W.Frag) (H : Hp) (b : Addr) (ps : List (Str × Addr)) : Prop where
  o : ∃ (dx D : Addr) (fs : List (Str × V)), H b = some (.ins (kO K) dx fs) ∧ fs.lookup ("_kinds" : Str) = some (.ref D) ∧ H D = some (.dK (bkv ps))
  nd : (ps.map Prod.fst).Nodup
  ks : ∀ p, p ∈ ps → NmK K H p.2 p.1
  len : ps.length ≤ 100
theorem BkAt.ex {H H' : Hp} {b : Addr} {ps : List (Str × Addr)} (e : Ex H H') (B : BkAt K H b ps) : BkAt K H' b ps := by
  obtain ⟨⟨dx, D, fs, h1, h2, h3⟩, nd, ks, len⟩ := B
  exact ⟨⟨dx, D, fs, e _ _ h1, h2, e _ _ h3⟩, nd, fun p hp => (ks p hp).ex e, len⟩
theorem ev_kinds (T : Txt K mg) {σ : L2.St} {H : Hp} {te : TE} {b D dx : Addr} {fs : List (Str × V)} (h : Ev te σ H (.ref b)) (h1 : H b = some (.ins (kO K) dx fs)) (h2 : fs.lookup ("_kinds" : Str) = some (.ref D)) : Ev (tFld K te "_kinds") σ H (.ref D) := ev_fld h h1 T.clsO T.b_kinds h2
def rLenDk : List V → Hp → VK → Prop := fun xs H Q => ∃ a kvs, xs = [V.ref a] ∧ H a = some (.dK kvs) ∧ Q (.int kvs.length) H
/-! ### len -/
def spBLen (K : PySem.W.Frag) : Sp := fun vs H Q _ => ∃ (b : Addr) (ps : List (Str × Addr)), vs = [.ref b] ∧ BkAt K H b ps ∧ ∀ H', Ex H H' → Q (.int (ps.length : Nat)) H'
theorem ok_blen (T : Txt K mg) : FnR P w K mg base CX0 1 (ma K (kO K) "__len__") (spBLen K) := by
  obtain ⟨fd, F⟩ := T.F_Book_len
  have FO : FnOk P w K mg base CX0 1 (ma K (kO K) "__len__") fd ["self"] (spBLen K) := F.ok sc_Book_len (fun vs H Q E h => by obtain ⟨b, ps, rfl, _⟩ := h; rfl) (fun cdv A outer s H vs Q E hr h => by
    obtain ⟨b, ps, rfl, ⟨⟨dx, D, fs, h1, h2, h3⟩, nd', ks, len⟩, fin⟩ := h
    refine ⟨_, pss_one (ps_ret (pe_callB (show CallR _ _ rLenDk from call_lenD) (by rfl) T.n_len PySem.boot_len (pa_cons (pe_fld (pv 0) rfl) pa_nil))), ?_⟩
    have hl : ((bkv ps).length : Int) = (ps.length : Nat) := by unfold bkv; rw [List.length_map]
    refine s_ret (v := .int (ps.length : Nat)) (ev_cb (ea_cons (ev_kinds T (ev_var rfl) h1 h2) ea_nil) fun H1 e Q q => ⟨D, bkv ps, rfl, e _ _ h3, by rw [hl]; exact q H1 (Ex.refl H1)⟩) fun H2 e2 => fin H2 e2)
  have := FO.raw (F.binds (ps := ["self"]) fun _ _ _ _ _ _ us hl => match us, hl with | [_], _ => rfl) .nil
  exact this.imp fun vs H Q E h => by rw [List.append_nil]; exact h
/-! ### in -/
/-- not a text -/
inductive NoS (H : Hp) : V → Prop where
  | non : NoS H .non
  | bl (b : Bool) : NoS H (.bl b)
  | int (i : Int) : NoS H (.int i)
  | lst {p : Addr} {xs : List V} (h : H p = some (.lst xs)) : NoS H (.ref p)
  | tup {p : Addr} {xs : List V} (h : H p = some (.tup xs)) : NoS H (.ref p)
  | dK {p : Addr} {kvs : List (L2.Key × V)} (h : H p = some (.dK kvs)) : NoS H (.ref p)
theorem NoS.ex {H H' : Hp} {x : V} (e : Ex H H') (h : NoS H x) : NoS H' x := by
  cases h with
  | non => exact .non
  | bl b => exact .bl b
  | int i => exact .int i
  | lst h => exact .lst (e _ _ h)
  | tup h => exact .tup (e _ _ h)
  | dK h => exact .dK (e _ _ h)
theorem nos_ty {H : Hp} {x : V} (h : NoS H x) : ∃ t : String, TyX K H x (.type t) ∧ PySem.W.kitOne K (.type t) (.type "str") = some false := by
  cases h with
  | non => exact ⟨"NoneType", .base .non, kit_ty (by decide +kernel)⟩
  | bl b => exact ⟨"bool", .base (.bl b), kit_ty (by decide +kernel)⟩
  | int i => exact ⟨"int", .base (.int i), kit_ty (by decide +kernel)⟩
  | lst h => exact ⟨"list", .base (.lst h), kit_ty (by decide +kernel)⟩
  | tup h => exact ⟨"tuple", .base (.tup h), kit_ty (by decide +kernel)⟩
  | dK h => exact ⟨"dict", .base (.dK h), kit_ty (by decide +kernel)⟩
theorem ev_noS {σ : L2.St} {H : Hp} {ta : TE} {x : V} (h : Ev ta σ H x) (hk : NoS H x) : Ev (tCB (rIsi K) (tCons ta (tCons (tC (.ty "str")) tNil))) σ H (.bl false) :=
  ev_cb (ea_cons h (ea_cons ev_c ea_nil)) fun H1 e Q q => by
    obtain ⟨t, ty, k⟩ := nos_ty (K := K) (hk.ex e)
    exact ⟨x, .ty "str", .type t, .type "str", false, rfl, .ty _, ty, k, q H1 (Ex.refl H1)⟩
theorem ev_isS {σ : L2.St} {H : Hp} {ta : TE} {z : Str} (h : Ev ta σ H (.str z)) : Ev (tCB (rIsi K) (tCons ta (tCons (tC (.ty "str")) tNil))) σ H (.bl true) :=
  ev_cb (ea_cons h (ea_cons ev_c ea_nil)) fun H1 e Q q => ⟨.str z, .ty "str", .type "str", .type "str", true, rfl, .ty _, .base (.str z), kit_ty (by decide +kernel), q H1 (Ex.refl H1)⟩
def spBHas (K : PySem.W.Frag) : Sp := fun vs H Q _ => ∃ (b : Addr) (x : V) (ps : List (Str × Addr)), vs = [.ref b, x] ∧ BkAt K H b ps ∧ ((∃ z, x = .str z ∧ ∀ H', Ex H H' → Q (.bl (decide (z ∈ ps.map Prod.fst))) H') ∨ (NoS H x ∧ ∀ H', Ex H H' → Q (.bl false) H'))
theorem ok_bhas (T : Txt K mg) : FnR P w K mg base CX0 1 (ma K (kO K) "__contains__") (spBHas K) := by
  obtain ⟨fd, F⟩ := T.F_Book_contains
  have FO : FnOk P w K mg base CX0 1 (ma K (kO K) "__contains__") fd ["self", "name"] (spBHas K) := F.ok sc_Book_contains (fun vs H Q E h => by obtain ⟨b, x, ps, rfl, _⟩ := h; rfl) (fun cdv A outer s H vs Q E hr h => by
    obtain ⟨b, x, ps, rfl, ⟨⟨dx, D, fs, h1, h2, h3⟩, nd', ks, len⟩, fin⟩ := h
    have hu := hu_of hr
    refine ⟨_, pss_one (ps_ret (pe_and (pe_callB call_isi (by rfl) T.n_isinstance (by decide +kernel) (pa_cons (pv 1) (pa_cons (pe_bltn rfl T.n_str (v := .ty "str") (by decide +kernel) rfl) pa_nil))) (pe_one (pe_cmp (pc_din hu (pv 1) (pe_fld (pv 0) rfl)))))), ?_⟩
    rcases fin with ⟨z, rfl, fin⟩ | ⟨hn, fin⟩
    · have h0 := et_din (ev_var (i := 1) (σ := [some (.ref b), some (.str z)]) rfl) (ev_kinds T (ev_var (i := 0) rfl) h1 h2) h3
      rw [bkv_some] at h0
      refine s_ret (v := .bl (true && decide (z ∈ ps.map Prod.fst))) (ev_andV (a := true) (b := decide (z ∈ ps.map Prod.fst)) (ev_isS (K := K) (ev_var rfl)) fun _ => h0) fun H1 e1 => ?_
      rw [Bool.true_and]
      exact fin H1 e1
    · exact s_ret (v := .bl false) (ev_andV (a := false) (b := false) (ev_noS (K := K) (ev_var rfl) hn) fun h => by cases h) fun H1 e1 => fin H1 e1)
  have := FO.raw (F.binds (ps := ["self", "name"]) fun _ _ _ _ _ _ us hl => match us, hl with | [_, _], _ => rfl) .nil
  exact this.imp fun vs H Q E h => by rw [List.append_nil]; exact h
/-! ### book[name] -/
def spBGet (K : PySem.W.Frag) : Sp := fun vs H Q E => ∃ (b : Addr) (x : V) (ps : List (Str × Addr)), vs = [.ref b, x] ∧ BkAt K H b ps ∧
  ((∃ z, x = .str z ∧ (z ∉ ps.map Prod.fst → XErr (kN K) "name" H x E) ∧ (∀ a, (z, a) ∈ ps → ∀ H', Ex H H' → Q (.ref a) H')) ∨ (NoS H x ∧ XErr (kN K) "name" H x E))
theorem bkv_in {ps : List (Str × Addr)} {z : Str} (h : z ∈ ps.map Prod.fst) : ∃ a, (z, a) ∈ ps ∧ valV (bkv ps) (.inr z) = some (.ref a) := by
  rw [bkv_val]
  have : (ps.find? fun p => decide (p.1 = z)).isSome := by
    rw [List.find?_isSome]
    obtain ⟨p, h1, h2⟩ := List.mem_map.mp h
    exact ⟨p, h1, decide_eq_true h2⟩
  obtain ⟨p, hp⟩ := Option.isSome_iff_exists.mp this
  have h1 := List.mem_of_find?_eq_some hp
  have h2 : p.1 = z := of_decide_eq_true (List.find?_some (p := fun p : Str × Addr => decide (p.1 = z)) hp)
  refine ⟨p.2, ?_, by rw [hp]; rfl⟩
  rw [← h2]
  exact h1
theorem et_dnot {σ : L2.St} {H : Hp} {td ty : TE} {d : Addr} {z : Str} {kvs : List (L2.Key × V)} (hy : Ev ty σ H (.str z)) (hd : Ev td σ H (.ref d)) (h : H d = some (.dK kvs)) : Ev (tDNotIn ty td) σ H (.bl (!(valV kvs (.inr z)).isSome)) := fun H1 e Q q =>
  hy H1 e _ fun H2 e2 => hd H2 (e.trans e2) _ fun H3 e3 => ⟨d, _, rfl, DGet.k (k := .inr z) (((e.trans e2).trans e3) _ _ h), q H3 (e2.trans e3)⟩
theorem ok_bget (T : Txt K mg) : FnR P w K mg base (L2.CX P w) 3 (ma K (kO K) "__getitem__") (spBGet K) := by
  obtain ⟨fd, F⟩ := T.F_Book_getitem
  obtain ⟨fdI, FI, bI⟩ := ok_nk (P := P) (w := w) (base := base) T
  have FO : FnOk P w K mg base (L2.CX P w) 3 (ma K (kO K) "__getitem__") fd ["self", "name"] (spBGet K) := F.okX sc_Book_getitem (fun vs H Q E h => by obtain ⟨b, x, ps, rfl, _⟩ := h; rfl) (fun cdv A outer s H vs Q E hr h => by
    obtain ⟨b, x, ps, rfl, ⟨⟨dx, D, fs, h1, h2, h3⟩, nd', ks, len⟩, fin⟩ := h
    have hu := hu_of hr
    refine ⟨_, pss_cons (ps_if (PW.pt (pw_or (pt_not (pt_val (pe_callB call_isi (by rfl) T.n_isinstance (by decide +kernel) (pa_cons (pv 1) (pa_cons (pe_bltn rfl T.n_str (v := .ty "str") (by decide +kernel) rfl) pa_nil))))) (pw_or1 (pt_cmp (pc_dnotin hu (pv 1) (pe_fld (pv 0) rfl))))))
        (pss_one (ps_raise rfl (takes_of rfl rfl rfl rfl) (pmk_oex T.oexN T.mInitN.at_ T.tInitN FI (hr.mono (by decide)) bI .nil pass0 rfl T.g_NoKind (pa_cons (pv 1) pa_nil)))) pss_nil)
      (pss_one (ps_ret (pe_dget hu (pe_fld (pv 0) rfl) (pv 1) (fun _ _ => rfl)))), ?_⟩
    rcases fin with ⟨z, rfl, err, fin⟩ | ⟨hn, err⟩
    · have h0 := et_dnot (ev_var (i := 1) (σ := [some (.ref b), some (.str z)]) rfl) (ev_kinds T (ev_var (i := 0) rfl) h1 h2) h3
      rw [bkv_some] at h0
      have b1 := et_or (t := tNot (tB (tCB (rIsi K) (tCons (tVar 1) (tCons (tC (.ty "str")) tNil))))) (a := false) (et_not (a := true) (et_B (ev_isS (K := K) (ev_var (i := 1) (σ := [some (.ref b), some (.str z)]) rfl)))) fun _ => et_B h0
      rw [Bool.false_or] at b1
      refine q_when b1 (fun hb H1 e1 => ?_) (fun hb H1 e1 => ?_)
      · have hz : z ∉ ps.map Prod.fst := of_decide_eq_false (by simpa using hb)
        exact ⟨_, rfl, ix_then fun d H7 hd e7 h7 => err hz d H7 (fresh_back e1 hd) (e1.trans e7) h7⟩
      · have hz : z ∈ ps.map Prod.fst := of_decide_eq_true (by simpa using hb)
        obtain ⟨a, ha, hv⟩ := bkv_in hz
        exact s_ret (ev_dget (k := .inr z) (ev_kinds T (ev_var (i := 0) rfl) (e1 _ _ h1) h2) (ev_var rfl) (e1 _ _ h3) hv) fun H2 e2 => fin a ha H2 (e1.trans e2)
    · have b1 := et_or (t := tNot (tB (tCB (rIsi K) (tCons (tVar 1) (tCons (tC (.ty "str")) tNil))))) (u := tB (tDNotIn (tVar 1) (tFld K (tVar 0) "_kinds"))) (a := true) (b := false) (et_not (a := false) (et_B (ev_noS (K := K) (ev_var (i := 1) (σ := [some (.ref b), some x]) rfl) hn))) fun h => by cases h
      refine q_when b1 (fun _ H1 e1 => ?_) (fun h => by cases h)
      exact ⟨_, rfl, ix_then fun d H7 hd e7 h7 => err d H7 (fresh_back e1 hd) (e1.trans e7) h7⟩)
  have := FO.raw (F.binds (ps := ["self", "name"]) fun _ _ _ _ _ _ us hl => match us, hl with | [_, _], _ => rfl) .nil
  exact this.imp fun vs H Q E h => by rw [List.append_nil]; exact h
/-! ### kind_names -/
def spBNames (K : PySem.W.Frag) : Sp := fun vs H Q _ => ∃ (b : Addr) (ps : List (Str × Addr)), vs = [.ref b] ∧ BkAt K H b ps ∧ ∀ t H', H t = none → Ex H H' → H' t = some (.tup ((ps.map Prod.fst).map V.str)) → Q (.ref t) H'
theorem ok_bnames (T : Txt K mg) : ∃ fd, FnOk P w K mg base CX0 1 (He5.wf K (kO K) "property" "kind_names") fd ["self"] (spBNames K) ∧ Binds K fd ["self"] [] := by
  obtain ⟨fd, F⟩ := T.F_Book_kind_names
  refine ⟨fd, F.ok sc_Book_kind_names (fun vs H Q E h => by obtain ⟨b, ps, rfl, _⟩ := h; rfl) (fun cdv A outer s H vs Q E hr h => ?_), F.binds (ps := ["self"]) fun _ _ _ _ _ _ us hl => match us, hl with | [_], _ => rfl⟩
  obtain ⟨b, ps, rfl, ⟨⟨dx, D, fs, h1, h2, h3⟩, nd', ks, len⟩, fin⟩ := h
  refine ⟨_, pss_one (ps_ret (pe_callTy (call_tuple_dK rfl) (by rfl) T.n_tuple (by decide +kernel) (pa_cons (pe_fld (pv 0) rfl) pa_nil))), ?_⟩
  refine ev_kinds T (ev_var (i := 0) (σ := [some (.ref b)]) rfl) h1 h2 H (Ex.refl _) _ fun H1 e1 => ⟨D, bkv ps, rfl, e1 _ _ h3, fun q hq => ?_⟩
  refine fin q _ (fresh_back e1 hq) (e1.trans (Ex.new hq)) ?_
  rw [upd_same]
  unfold bkv
  rw [List.map_map, List.map_map]
  rfl
end
end K52
end

section
set_option Elab.async false
set_option linter.all false
set_option maxRecDepth 100000
set_option maxHeartbeats 4000000
namespace K52
open PySem PySem.Spec PyProof.Rows L2 He Cn Evl
section
variable {P : Program} {w : World} {K : PySem.W.Frag} {mg : Str → Option Value} {base : Heap}
theorem ths_in {H : Hp} {xs : List V} {ps : List (Str × Addr)} (h : ThsR K H xs (ps.map some)) : ∀ p, p ∈ ps → NmK K H p.2 p.1 := fun p hp => by
  obtain ⟨i, hi⟩ := List.mem_iff_getElem?.mp hp
  have hil := (List.getElem?_eq_some_iff.mp hi).1
  have ht : (ps.map some)[i]? = some (some p) := by rw [List.getElem?_map, hi]; rfl
  obtain ⟨x, hx⟩ := at_some (l := xs) (i := i) (by rw [h.1, List.length_map]; exact hil)
  have := h.2 i x _ hx ht
  cases this with
  | kd h => exact h
def spBInitB (K : PySem.W.Frag) : Sp := fun vs H Q E => ∃ (b t dx : Addr) (xs : List V) (ts : List Tg), vs = [.ref b, .ref t] ∧ H b = some (.ins (kO K) dx []) ∧ SqT K H t xs ∧ ThsR K H xs ts ∧ ts.length ≤ 100 ∧
  (∀ i, fbad ts [] 0 = some i → XErr (kB K) "spot" H (.int (i : Nat)) E) ∧ (∀ ps : List (Str × Addr), fbad ts [] 0 = none → ts = ps.map some → ∀ H', BkAt K H' b ps → (∀ c u, H c = some u → c ≠ b → H' c = some u) → Q .non H')
def spBInit (K : PySem.W.Frag) : Sp := fun vs H Q E => ∃ (b dx : Addr) (xs : List V) (ts : List Tg), vs = .ref b :: xs ∧ H b = some (.ins (kO K) dx []) ∧ ThsR K H xs ts ∧ ts.length ≤ 100 ∧
  (∀ i, fbad ts [] 0 = some i → XErr (kB K) "spot" H (.int (i : Nat)) E) ∧ (∀ ps : List (Str × Addr), fbad ts [] 0 = none → ts = ps.map some → ∀ H', BkAt K H' b ps → (∀ c u, H c = some u → c ≠ b → H' c = some u) → Q .non H')
theorem fnr_book (T : Txt K mg) : FnR P w K mg base (L2.CX P w) 4 (ma K (kO K) "__init__") (spBInit K) := by
  have CB : Can P w K mg base (L2.CX P w) 3 "_by_names" ["kinds"] (spByNames K) := can_byNames T
  obtain ⟨fd, F⟩ := T.F_Book_init
  obtain ⟨oc, od, kV, doc, pm, an, cdv, ct, osl, rfl, lk, hcd⟩ := F.ex
  have R := StX.fn_star (P := P) (w := w) (K := K) (mg := mg) (base := base) (CX := L2.CX P w) (k := 3) (ps := ["self"]) (pv := "kinds") (N := ["self", "kinds"]) (sp := spBInitB K) lk hcd sc_Book_init StX.cxUp (StX.bind_star1 (B := fun us => bindArgs (PySem.W.fnOf "__init__" "Book.__init__" (defArgs s_Book_init) (defBody s_Book_init) (defScope s_Book_init) Value.none kV doc pm an cdv ct) ⟨us, []⟩) (p1 := "self") (pv := "kinds") (fun a => rfl) (fun a r rs => rfl)) (fun A outer s H vs Q E hr h => by
    obtain ⟨b, t, dx, xs, ts, rfl, hb, hT, hR, hz, err, fin⟩ := h
    refine ⟨_, pss_one (ps_fld (pv 0) (pe_can CB hr (passes_call (takes_of rfl rfl rfl rfl) fun _ _ _ _ h => h) (pa_cons (pv 1) pa_nil)) rfl), ?_⟩
    refine ⟨_, rfl, t, xs, ts, rfl, hT, hR, by omega, err, fun ps hf htk hnd D H1 hD e1 h1 => ?_⟩
    have hDb : D ≠ b := (ne_of_none hb hD).symm
    refine ⟨_, rfl, b, kO K, dx, [], rfl, e1 _ _ hb, T.clsO, T.b_kinds, by decide, ?_⟩
    subst htk
    refine fin ps hf rfl _ ⟨⟨dx, D, _, upd_same, lkEq, by rw [upd_ne hDb]; exact h1⟩, hnd, fun p hp => ?_, by rw [List.length_map] at hz; omega⟩ fun c u hc hcb => by rw [upd_ne hcb]; exact e1 _ _ hc
    obtain ⟨dy, gs, k1, k2⟩ := ths_in hR p hp
    have hpb : p.2 ≠ b := fun q => by
      rw [q, hb] at k1
      injection k1 with k1
      injection k1 with _ _ k3
      rw [← k3] at k2
      cases k2
    exact ⟨dy, gs, by rw [upd_ne hpb]; exact e1 _ _ k1, k2⟩)
  refine R.imp fun vs H Q E h => ?_
  obtain ⟨b, dx, xs, ts, rfl, hb, hR, hz, err, fin⟩ := h
  refine ⟨[.ref b], xs, rfl, rfl, sz_of (by rw [hR.1]; omega), fun p hp => ?_⟩
  have e : Ex H (upd H p (.tup xs)) := Ex.new hp
  exact ⟨b, p, dx, xs, ts, rfl, e _ _ hb, st_of upd_same, hR.ex e, hz, fun i hi => (err i hi).mono e, fun ps h1 h2 H' B f => fin ps h1 h2 H' B fun c u hc hcb => f c u (e _ _ hc) hcb⟩
/-- a book is made -/
theorem mk_book {H1 : Hp} {xs : List V} {ts : List Tg} {Q : VK} {E : XK} (hR : ThsR K H1 xs ts) (hz : ts.length ≤ 100) (err : ∀ i, fbad ts [] 0 = some i → XErr (kB K) "spot" H1 (.int (i : Nat)) E)
    (fin : ∀ ps : List (Str × Addr), fbad ts [] 0 = none → ts = ps.map some → ∀ b H', H1 b = none → Ex H1 H' → BkAt K H' b ps → Q (.ref b) H') :
    ∀ x dx, H1 x = none → H1 dx = none → dx ≠ x → spBInit K (.ref x :: xs) (upd (upd H1 dx (.own x)) x (.ins (kO K) dx [])) (fun v H2 => v = .non ∧ Q (.ref x) H2) E := fun x dx hx hdx hne => by
  have e : Ex H1 (upd (upd H1 dx (.own x)) x (.ins (kO K) dx [])) := (Ex.new hdx).trans (Ex.new (by rw [upd_ne hne.symm]; exact hx))
  exact ⟨x, dx, xs, ts, rfl, upd_same, hR.ex e, hz, fun i hi => (err i hi).mono e, fun ps h1 h2 H' B f => ⟨rfl, fin ps h1 h2 x H' hx (fun c u hc => f c u (e _ _ hc) (ne_of_none hc hx)) B⟩⟩
theorem ty_book (T : Txt K mg) {H : Hp} {b : Addr} {ps : List (Str × Addr)} (B : BkAt K H b ps) : TyX K H (.ref b) (.ref (kO K)) := by
  obtain ⟨⟨dx, D, fs, e, _⟩, _⟩ := B
  obtain ⟨h1, h2⟩ := He.ba T.insO
  obtain ⟨h2, h3⟩ := He.ba h2
  obtain ⟨h3, h4⟩ := He.ba h3
  exact .base (.ins e T.clsO (eqO_ok h1) (eqO_ok h2) (of_decide_eq_true h3) (of_decide_eq_true h4))
theorem ev_isBook (T : Txt K mg) {σ : L2.St} {H : Hp} {ta : TE} {b : Addr} {ps : List (Str × Addr)} (h : Ev ta σ H (.ref b)) (B : BkAt K H b ps) : Ev (tCB (rIsi K) (tCons ta (tCons (tC (.ref (kO K))) tNil))) σ H (.bl true) :=
  ev_cb (ea_cons h (ea_cons ev_c ea_nil)) fun H1 e Q q => ⟨.ref b, .ref (kO K), .ref (kO K), .ref (kO K), true, rfl, .own _, ty_book T (B.ex e), T.isO, q H1 (Ex.refl H1)⟩
theorem el_vals (T : Txt K mg) {σ : L2.St} {H : Hp} {te : TE} {b : Addr} {ps : List (Str × Addr)} (h : Ev te σ H (.ref b)) (B : BkAt K H b ps) : EvL (tListVals (tFld K te "_kinds")) σ H (refs (ps.map Prod.snd)) := fun H1 e Q q => by
  obtain ⟨⟨dx, D, fs, h1, h2, h3⟩, _⟩ := B
  refine ev_kinds T h h1 h2 H1 e _ fun H2 e2 => ⟨D, bkv ps, rfl, (e.trans e2) _ _ h3, fun p hp => ?_⟩
  refine q p _ (fresh_back e2 hp) (e2.trans (Ex.new hp)) ?_
  rw [upd_same]
  unfold bkv refs
  rw [List.map_map, List.map_map]
  rfl
theorem ths_of {H : Hp} {ps : List (Str × Addr)} (h : ∀ p, p ∈ ps → NmK K H p.2 p.1) : ThsR K H (refs (ps.map Prod.snd)) (ps.map some) := by
  refine ⟨by unfold refs; rw [List.length_map, List.length_map, List.length_map], fun i x t hx ht => ?_⟩
  rw [List.getElem?_map] at ht
  unfold refs at hx
  rw [List.getElem?_map, List.getElem?_map] at hx
  cases q : ps[i]? with
  | none => rw [q] at ht; cases ht
  | some p =>
    rw [q] at ht hx
    obtain rfl := Option.some.inj ht
    obtain rfl := Option.some.inj hx
    exact .kd (h p (List.mem_of_getElem? q))
def spBAdd (K : PySem.W.Frag) : Sp := fun vs H Q E => ∃ (a b : Addr) (ps qs : List (Str × Addr)), vs = [.ref a, .ref b] ∧ BkAt K H a ps ∧ BkAt K H b qs ∧ ps.length + qs.length ≤ 100 ∧ (∀ i, fbad ((ps ++ qs).map some) [] 0 = some i → XErr (kB K) "spot" H (.int (i : Nat)) E) ∧
  (fbad ((ps ++ qs).map some) [] 0 = none → ∀ c H', H c = none → Ex H H' → BkAt K H' c (ps ++ qs) → Q (.ref c) H')
theorem map_some_inj {α : Type} {l r : List α} (h : l.map some = r.map some) : l = r := by
  induction l generalizing r with
  | nil =>
    cases r with
    | nil => rfl
    | cons a r => cases h
  | cons a l ih =>
    cases r with
    | nil => cases h
    | cons b r =>
      rw [List.map_cons, List.map_cons] at h
      injection h with h1 h2
      rw [Option.some.inj h1, ih h2]
theorem ok_badd (T : Txt K mg) : FnR P w K mg base (L2.CX P w) 6 (ma K (kO K) "__add__") (spBAdd K) := by
  have FI := fnr_book (P := P) (w := w) (base := base) T
  obtain ⟨fd, F⟩ := T.F_Book_add
  have FO : FnOk P w K mg base (L2.CX P w) 6 (ma K (kO K) "__add__") fd ["self", "other"] (spBAdd K) := F.okX sc_Book_add (fun vs H Q E h => by obtain ⟨a, b, ps, qs, rfl, _⟩ := h; rfl) (fun cdv A outer s H vs Q E hr h => by
    obtain ⟨a, b, ps, qs, rfl, B1, B2, hz, err, fin⟩ := h
    have nd := sc_Book_add.nd
    refine ⟨_, pss_cons (ps_if (pt_not (pt_val (pe_callB call_isi (by rfl) T.n_isinstance (by decide +kernel) (pa_cons (pv 1) (pa_cons (pe_glob rfl T.g_Book (v := .ref (kO K)) rfl) pa_nil))))) (pss_one ps_never) pss_nil)
      (pss_cons (ps_set (i := 2) nd rfl (.inl rfl) (pe_op op_cat (pe_listVals rfl (pe_fld (pv 0) rfl) rfl T.n_list (by decide +kernel)) (pe_listVals rfl (pe_fld (pv 1) rfl) rfl T.n_list (by decide +kernel))))
      (pss_one (ps_ret (OwD.pe_makeS1 T.bmk FI hr rfl T.g_Book (passes_call (takes_of rfl rfl rfl rfl) fun _ _ _ _ h => h) (pv 2))))), ?_⟩
    refine q_when (et_not (a := true) (et_B (ev_isBook T (ev_var rfl) B2))) (fun h => by cases h) fun _ H1 e1 => ?_
    have l1 : (refs (ps.map Prod.snd)).length = ps.length := by unfold refs; rw [List.length_map, List.length_map]
    have l2 : (refs (qs.map Prod.snd)).length = qs.length := by unfold refs; rw [List.length_map, List.length_map]
    refine q_asgL (el_cat (el_vals T (ev_var rfl) (B1.ex e1)) (el_vals T (ev_var rfl) (B2.ex e1)) (by omega)) fun p H2 hp e2 h2 => ?_
    have e12 := e1.trans e2
    have ea : refs (ps.map Prod.snd) ++ refs (qs.map Prod.snd) = refs ((ps ++ qs).map Prod.snd) := by unfold refs; rw [List.map_append, List.map_append]
    rw [ea] at h2
    refine ⟨_, rfl, p, _, rfl, .inr (sq_of h2), ?_⟩
    refine mk_book (ths_of (ps := ps ++ qs) fun q hq => ?_) (by rw [List.length_map, List.length_append]; exact hz) (fun i hi => (err i hi).mono e12) fun rs h1 h3 c H' hc e3 B => ?_
    · rcases List.mem_append.mp hq with hq | hq
      · exact (B1.ks q hq).ex e12
      · exact (B2.ks q hq).ex e12
    · obtain rfl := map_some_inj h3
      exact fin h1 c H' (fresh_back e12 hc) (e12.trans e3) B)
  have := FO.raw (F.binds (ps := ["self", "other"]) fun _ _ _ _ _ _ us hl => match us, hl with | [_, _], _ => rfl) .nil
  exact this.imp fun vs H Q E h => by rw [List.append_nil]; exact h
end
end K52
end

section
set_option Elab.async false
set_option linter.all false
set_option maxRecDepth 100000
set_option maxHeartbeats 4000000
namespace K52
open PySem PySem.Spec PyProof.Rows L2 He Cn Evl
section
variable {P : Program} {w : World} {K : PySem.W.Frag} {mg : Str → Option Value} {base : Heap}
/-- a caught error: its class, the name of the class, its field and what that holds -/
structure ErA (K : PySem.W.Frag) (H : Hp) (a D : Addr) (n f : Str) (x : V) : Prop where
  ex : ExcC K D
  at_ : ∃ d, H a = some (CxO (.ref D) (some d) a) ∧ H d = some (.xd [(f, x)])
  nm : erkB K D n = true
theorem ErA.e {H H' : Hp} {a D : Addr} {n f : Str} {x : V} (e : Ex H H') (h : ErA K H a D n f x) : ErA K H' a D n f x := by
  obtain ⟨h1, ⟨d, h2, h3⟩, h4⟩ := h
  exact ⟨h1, ⟨d, e _ _ h2, e _ _ h3⟩, h4⟩
def tIsE (K : PySem.W.Frag) (y : Str) : TE := tCB (rIsT K) (tCons (tVar 0) (tCons (tC (.ref (ga K y))) tNil))
theorem ev_isE {H : Hp} {σ : L2.St} {a D : Addr} {n f y : Str} {x : V} (hv : σ[0]? = some (some (.ref a))) (h : ErA K H a D n f x) (hy : y ∈ errNames) : Ev (tIsE K y) σ H (.bl (decide (y = n))) :=
  ev_cb (ea_cons (ev_var hv) (ea_cons ev_c ea_nil)) fun H1 e Q q => by
    obtain ⟨h1, ⟨d, h2, h3⟩, h4⟩ := h.e e
    exact ⟨a, D, d, _, .ref (ga K y), .ref (ga K y), _, rfl, h1, h2, h3, (fun u hu => hu), erkB_ok h4 hy, q H1 (Ex.refl H1)⟩
theorem er_xf {H : Hp} {σ : L2.St} {a D : Addr} {n f : Str} {x : V} (hv : σ[0]? = some (some (.ref a))) (h : ErA K H a D n f x) : Ev (tXfT D f (tVar 0)) σ H x := fun H1 e Q q => by
  obtain ⟨h1, ⟨d, h2, h3⟩, h4⟩ := h
  exact ⟨_, hv, a, d, _, x, rfl, e _ _ h2, e _ _ h3, by simp [List.lookup], q H1 (Ex.refl H1)⟩
theorem q_noE {H : Hp} {σ : L2.St} {a D : Addr} {n f y : Str} {x : V} {tu tz : TS} {Dn : Ends} (hv : σ[0]? = some (some (.ref a))) (h : ErA K H a D n f x) (hy : y ∈ errNames) (hn : decide (y = n) = false) (k : ∀ H1, Ex H H1 → tz Dn σ H1) : tSeq (tIfS (tB (tIsE K y)) tu tNext) tz Dn σ H :=
  q_when (et_B (ev_isE hv h hy)) (fun hb => by rw [hn] at hb; cases hb) fun _ H1 e1 => k H1 e1
theorem q_noE2 {H : Hp} {σ : L2.St} {a D : Addr} {n f y z : Str} {x : V} {tu tz : TS} {Dn : Ends} (hv : σ[0]? = some (some (.ref a))) (h : ErA K H a D n f x) (hy : y ∈ errNames) (hn : decide (y = n) = false) (hz : z ∈ errNames) (hm : decide (z = n) = false) (k : ∀ H1, Ex H H1 → tz Dn σ H1) : tSeq (tIfS (tOr (tB (tIsE K y)) (tB (tIsE K z))) tu tNext) tz Dn σ H :=
  q_when (et_is (et_or (a := false) (b := false) (et_is (et_B (ev_isE hv h hy)) hn) fun _ => et_is (et_B (ev_isE hv h hz)) hm) rfl) (fun hb => by cases hb) fun _ H1 e1 => k H1 e1
def spName (K : PySem.W.Frag) : Sp := fun vs H Q _ => ∃ (a : Addr) (x : V), vs = [.ref a] ∧ ErA K H a (kN K) "NoKind" "name" x ∧ ∀ t H', H t = none → Ex H H' → H' t = some (.tup [.str "NoKind", x]) → Q (.ref t) H'
theorem mem_err {y : Str} (h : (errNames.any fun z => decide (z = y)) = true) : y ∈ errNames := by
  obtain ⟨z, h1, h2⟩ := List.any_eq_true.mp h
  exact of_decide_eq_true h2 ▸ h1
theorem can_nameClass (T : Txt K mg) : Can P w K mg base CX0 1 "_law_name_class" ["error"] (spName K) := by
  refine can_of T.g__law_name_class T.F__law_name_class (fun fd F => ?_) (fun _ _ _ _ _ _ us hl => match us, hl with | [_], _ => rfl)
  refine F.ok sc__law_name_class (fun vs H Q E h => ?_) (fun cdv A outer s H vs Q E hr h => ?_)
  · obtain ⟨a, x, rfl, _⟩ := h
    rfl
  · obtain ⟨a, x, rfl, hE, fin⟩ := h
    refine ⟨_, pss_cons (ps_if (PW.pt (pw_or (pt_val (pe_callB call_isT (by rfl) T.n_isinstance (by decide +kernel) (pa_cons (pv 0) (pa_cons (pe_glob rfl T.g_UnknownName (v := .ref (ga K "UnknownName")) rfl) pa_nil)))) (pw_or1 (pt_val (pe_callB call_isT (by rfl) T.n_isinstance (by decide +kernel) (pa_cons (pv 0) (pa_cons (pe_glob rfl T.g_GivenTwice (v := .ref (ga K "GivenTwice")) rfl) pa_nil))))))) (pss_one ps_never) pss_nil)
      (pss_cons (ps_if (PW.pt (pw_or (pt_val (pe_callB call_isT (by rfl) T.n_isinstance (by decide +kernel) (pa_cons (pv 0) (pa_cons (pe_glob rfl T.g_NoField (v := .ref (ga K "NoField")) rfl) pa_nil)))) (pw_or1 (pt_val (pe_callB call_isT (by rfl) T.n_isinstance (by decide +kernel) (pa_cons (pv 0) (pa_cons (pe_glob rfl T.g_Unset (v := .ref (ga K "Unset")) rfl) pa_nil))))))) (pss_one ps_never) pss_nil)
      (pss_cons (ps_if (PW.pt (pw_or (pt_val (pe_callB call_isT (by rfl) T.n_isinstance (by decide +kernel) (pa_cons (pv 0) (pa_cons (pe_glob rfl T.g_Frozen (v := .ref (ga K "Frozen")) rfl) pa_nil)))) (pw_or1 (pt_val (pe_callB call_isT (by rfl) T.n_isinstance (by decide +kernel) (pa_cons (pv 0) (pa_cons (pe_glob rfl T.g_NoKind (v := .ref (ga K "NoKind")) rfl) pa_nil)))))))
          (pss_one (ps_ret (pe_tup (pa_cons (pe_ifExp (pt_val (pe_callB call_isT (by rfl) T.n_isinstance (by decide +kernel) (pa_cons (pv 0) (pa_cons (pe_glob rfl T.g_Frozen (v := .ref (ga K "Frozen")) rfl) pa_nil)))) pe_str pe_str) (pa_cons (pe_xfT T.xfN T.e_name (pv 0)) pa_nil))))) pss_nil)
      (pss_cons ps_never (pss_cons ps_never (pss_cons ps_never (pss_cons ps_never (pss_one ps_never))))))), ?_⟩
    refine q_noE2 (y := "UnknownName") (z := "GivenTwice") rfl hE (mem_err (by decide +kernel)) (by decide +kernel) (mem_err (by decide +kernel)) (by decide +kernel) fun H1 e1 => ?_
    refine q_noE2 (y := "NoField") (z := "Unset") rfl (hE.e e1) (mem_err (by decide +kernel)) (by decide +kernel) (mem_err (by decide +kernel)) (by decide +kernel) fun H2 e2 => ?_
    have e12 := e1.trans e2
    refine q_when (b := true) (et_is (et_or (a := false) (b := true) (et_is (et_B (ev_isE (y := "Frozen") rfl (hE.e e12) (mem_err (by decide +kernel)))) (by decide +kernel)) fun _ => et_is (et_B (ev_isE (y := "NoKind") rfl (hE.e e12) (mem_err (by decide +kernel)))) (by decide +kernel)) rfl) (fun _ H3 e3 => ?_) (fun h => by cases h)
    have e13 := e12.trans e3
    have hE3 := hE.e e13
    refine ev_if (b := false) (v := .str "NoKind") (et_is (et_B (ev_isE (y := "Frozen") (σ := [some (.ref a)]) rfl hE3 (mem_err (by decide +kernel)))) (by decide +kernel)) (fun h => by cases h) (fun _ => ev_c) H3 (Ex.refl _) _ fun H4 e4 => ?_
    refine er_xf (σ := [some (.ref a)]) rfl (hE3.e e4) H4 (Ex.refl _) _ fun H5 e5 => ⟨by show 2 ≤ sizeLine; decide, fun t ht => ?_⟩
    have e15 := e13.trans (e4.trans e5)
    exact fin t _ (fresh_back e15 ht) (e15.trans (Ex.new ht)) upd_same
def spClass (K : PySem.W.Frag) : Sp := fun vs H Q _ => ∃ (a : Addr) (x : V), vs = [.ref a] ∧
  ((ErA K H a (kB K) "InvalidBook" "spot" x ∧ ∀ t H', H t = none → Ex H H' → H' t = some (.tup [.str "InvalidBook", x]) → Q (.ref t) H') ∨
   (ErA K H a (kN K) "NoKind" "name" x ∧ ∀ t H', H t = none → Ex H H' → H' t = some (.tup [.str "NoKind", x]) → Q (.ref t) H'))
theorem can_class (T : Txt K mg) : Can P w K mg base CX0 2 "_law_class" ["error"] (spClass K) := by
  have CN : Can P w K mg base CX0 1 "_law_name_class" ["error"] (spName K) := can_nameClass T
  refine can_of T.g__law_class T.F__law_class (fun fd F => ?_) (fun _ _ _ _ _ _ us hl => match us, hl with | [_], _ => rfl)
  refine F.ok sc__law_class (fun vs H Q E h => ?_) (fun cdv A outer s H vs Q E hr h => ?_)
  · obtain ⟨a, x, rfl, _⟩ := h
    rfl
  · obtain ⟨a, x, rfl, h⟩ := h
    refine ⟨_, pss_cons (ps_if (pt_val (pe_callB call_isT (by rfl) T.n_isinstance (by decide +kernel) (pa_cons (pv 0) (pa_cons (pe_glob rfl T.g_InvalidKind (v := .ref (ga K "InvalidKind")) rfl) pa_nil)))) (pss_one ps_never) pss_nil)
      (pss_cons (ps_if (pt_val (pe_callB call_isT (by rfl) T.n_isinstance (by decide +kernel) (pa_cons (pv 0) (pa_cons (pe_glob rfl T.g_InvalidMember (v := .ref (ga K "InvalidMember")) rfl) pa_nil)))) (pss_one ps_never) pss_nil)
      (pss_cons (ps_if (pt_val (pe_callB call_isT (by rfl) T.n_isinstance (by decide +kernel) (pa_cons (pv 0) (pa_cons (pe_glob rfl T.g_InvalidBook (v := .ref (ga K "InvalidBook")) rfl) pa_nil)))) (pss_one (ps_ret (pe_tup (pa_cons pe_str (pa_cons (pe_xfT T.xfB T.e_spot (pv 0)) pa_nil))))) pss_nil)
      (pss_cons (ps_if (pt_val (pe_callB call_isT (by rfl) T.n_isinstance (by decide +kernel) (pa_cons (pv 0) (pa_cons (pe_glob rfl T.g_InvalidData (v := .ref (ga K "InvalidData")) rfl) pa_nil)))) (pss_one ps_never) pss_nil)
      (pss_cons (ps_if (pt_val (pe_callB call_isT (by rfl) T.n_isinstance (by decide +kernel) (pa_cons (pv 0) (pa_cons (pe_glob rfl T.g_ParseError (v := .ref (ga K "ParseError")) rfl) pa_nil)))) (pss_one ps_never) pss_nil)
      (pss_cons (ps_if (PW.pt (pw_or (pt_val (pe_callB call_isT (by rfl) T.n_isinstance (by decide +kernel) (pa_cons (pv 0) (pa_cons (pe_glob rfl T.g_TooManyValues (v := .ref (ga K "TooManyValues")) rfl) pa_nil)))) (pw_or1 (pt_val (pe_callB call_isT (by rfl) T.n_isinstance (by decide +kernel) (pa_cons (pv 0) (pa_cons (pe_glob rfl T.g_LimitExceeded (v := .ref (ga K "LimitExceeded")) rfl) pa_nil))))))) (pss_one ps_never) pss_nil)
      (pss_cons (ps_if (pt_val (pe_callB call_isT (by rfl) T.n_isinstance (by decide +kernel) (pa_cons (pv 0) (pa_cons (pe_glob rfl T.g_MissingNames (v := .ref (ga K "MissingNames")) rfl) pa_nil)))) (pss_one ps_never) pss_nil)
      (pss_cons (ps_if (PW.pt (pw_or (pt_val (pe_callB call_isT (by rfl) T.n_isinstance (by decide +kernel) (pa_cons (pv 0) (pa_cons (pe_glob rfl T.g_NoEntry (v := .ref (ga K "NoEntry")) rfl) pa_nil)))) (pw_or1 (pt_val (pe_callB call_isT (by rfl) T.n_isinstance (by decide +kernel) (pa_cons (pv 0) (pa_cons (pe_glob rfl T.g_InvalidName (v := .ref (ga K "InvalidName")) rfl) pa_nil))))))) (pss_one ps_never) pss_nil)
      (pss_one (ps_ret (pe_can CN hr pass0 (pa_cons (pv 0) pa_nil))))))))))), ?_⟩
    rcases h with ⟨hE, fin⟩ | ⟨hE, fin⟩
    · refine q_noE (y := "InvalidKind") rfl hE (mem_err (by decide +kernel)) (by decide +kernel) fun H1 e1 => ?_
      refine q_noE (y := "InvalidMember") rfl (hE.e e1) (mem_err (by decide +kernel)) (by decide +kernel) fun H2 e2 => ?_
      have e12 := e1.trans e2
      refine q_when (b := true) (et_is (et_B (ev_isE (y := "InvalidBook") rfl (hE.e e12) (mem_err (by decide +kernel)))) (by decide +kernel)) (fun _ H3 e3 => ?_) (fun h => by cases h)
      have e13 := e12.trans e3
      refine er_xf (σ := [some (.ref a)]) rfl (hE.e e13) H3 (Ex.refl _) _ fun H5 e5 => ⟨by show 2 ≤ sizeLine; decide, fun t ht => ?_⟩
      have e15 := e13.trans e5
      exact fin t _ (fresh_back e15 ht) (e15.trans (Ex.new ht)) upd_same
    · refine q_noE (y := "InvalidKind") rfl hE (mem_err (by decide +kernel)) (by decide +kernel) fun H1 e1 => ?_
      refine q_noE (y := "InvalidMember") rfl (hE.e e1) (mem_err (by decide +kernel)) (by decide +kernel) fun H2 e2 => ?_
      have c2 := e1.trans e2
      refine q_noE (y := "InvalidBook") rfl (hE.e c2) (mem_err (by decide +kernel)) (by decide +kernel) fun H3 e3 => ?_
      have c3 := c2.trans e3
      refine q_noE (y := "InvalidData") rfl (hE.e c3) (mem_err (by decide +kernel)) (by decide +kernel) fun H4 e4 => ?_
      have c4 := c3.trans e4
      refine q_noE (y := "ParseError") rfl (hE.e c4) (mem_err (by decide +kernel)) (by decide +kernel) fun H5 e5 => ?_
      have c5 := c4.trans e5
      refine q_noE2 (y := "TooManyValues") (z := "LimitExceeded") rfl (hE.e c5) (mem_err (by decide +kernel)) (by decide +kernel) (mem_err (by decide +kernel)) (by decide +kernel) fun H6 e6 => ?_
      have c6 := c5.trans e6
      refine q_noE (y := "MissingNames") rfl (hE.e c6) (mem_err (by decide +kernel)) (by decide +kernel) fun H7 e7 => ?_
      have c7 := c6.trans e7
      refine q_noE2 (y := "NoEntry") (z := "InvalidName") rfl (hE.e c7) (mem_err (by decide +kernel)) (by decide +kernel) (mem_err (by decide +kernel)) (by decide +kernel) fun H8 e8 => ?_
      have c8 := c7.trans e8
      exact ⟨_, rfl, a, x, rfl, hE.e c8, fun t H9 ht e9 h9 => fin t H9 (fresh_back c8 ht) (c8.trans e9) h9⟩
end
end K52
end

section
set_option Elab.async false
set_option linter.all false
set_option maxRecDepth 100000
set_option maxHeartbeats 4000000
namespace K52
open PySem PySem.Spec PyProof.Rows L2 He Cn Evl
section
variable {P : Program} {w : World} {K : PySem.W.Frag} {mg : Str → Option Value} {base : Heap}
theorem takes_len {X : Cx} {W : WX} (t : Takes X W) : Takes X (fun cls d σ H => σ.length = X.N.length → W cls d σ H) := fun u s' ⟨a, B, sI, pins, σ, H, cls, d, e, I, nb, up, sky, na, os, ag, w⟩ =>
  t u s' ⟨a, B, sI, pins, σ, H, cls, d, e, I, nb, up, sky, na, os, ag, w I.len⟩
theorem pss_by {X : Cx} {body : List Stmt} {t' : TS} (h : ∀ D σ H, t' D σ H → ∃ t, PSs X body t ∧ t D σ H) : PSs X body t' := ⟨fun pins s σ H D I h' => by
  obtain ⟨t, ht, q⟩ := h D σ H h'
  exact ht.run pins s σ H D I q⟩
/-- what _law_told makes of an error -/
def TErr (K : PySem.W.Frag) (Q : VK) : XK := fun cls d H' => (cls = .ref (kB K) ∧ ∃ (dd : Addr) (x : V), d = some dd ∧ H' dd = some (.xd [("spot", x)]) ∧ ∀ t H2, H' t = none → Ex H' H2 → H2 t = some (.tup [.str "InvalidBook", x]) → Q (.ref t) H2) ∨
  (cls = .ref (kN K) ∧ ∃ (dd : Addr) (x : V), d = some dd ∧ H' dd = some (.xd [("name", x)]) ∧ ∀ t H2, H' t = none → Ex H' H2 → H2 t = some (.tup [.str "NoKind", x]) → Q (.ref t) H2)
def TTold (K : PySem.W.Frag) : (XK → Hp → VK → Prop) → Hp → VK → Prop := fun tl H Q => ∀ H1, Ex H H1 → tl (TErr K Q) H1 fun v H' => ∀ l, H' l = none → Q (.ref l) (upd H' l (.lst [v]))
def tBack (K : PySem.W.Frag) : TE := tIf (tB (tIsN (tVar 1))) (tVar 2) (tCall (spClass K) [] E0 (tCons (tVar 1) tNil))
theorem told_iff {f : Addr} {v : V} {H' : Hp} {Q : VK} {nx : L2.St → Hp → Prop} : (1 ≤ sizeLine ∧ ∀ l, H' l = none → tRet (tBack K) { nx := nx, rt := Q } [some (.ref f), some .non, some (.ref l), none] (upd H' l (.lst [v]))) ↔ ∀ l, H' l = none → Q (.ref l) (upd H' l (.lst [v])) := by
  constructor
  · rintro ⟨_, h⟩ l hl
    obtain ⟨x, hx, b, hb, h⟩ := h l hl
    obtain rfl : V.non = x := Option.some.inj (Option.some.inj hx)
    obtain rfl : true = b := by
      injection hb
    obtain ⟨y, hy, h⟩ := h
    obtain rfl : V.ref l = y := Option.some.inj (Option.some.inj hy)
    exact h
  · intro h
    exact ⟨by show 1 ≤ sizeLine; decide, fun l hl => ⟨_, rfl, true, rfl, _, rfl, h l hl⟩⟩
theorem told_gives (T : Txt K mg) {X : Cx} (hK : X.K = K) (hmg : X.mg = mg) (hr : Room 3 X.A) {q : Str} {g : Addr} {cdg : Value} :
    LamX.GivesTo X ["deed", "error", "found", "e"] "_law_told" (defScope s__law_told) g cdg (defBody s__law_told) "deed" q (TTold K) := by
  intro f c' s H Q tl act hc h
  subst hK hmg
  have nd := sc__law_told.nd
  have CC : Can X.prog X.w X.K X.mg X.base CX0 2 "_law_class" ["error"] (spClass X.K) := can_class T
  have hr2 : Room 2 (X.A.deeper (envOfC "_law_told" (defScope s__law_told) s.heap.objs.size g cdg)) := hr.deeper _
  refine ⟨_, pss_cons (ps_set (i := 1) nd rfl (.inl rfl) pe_non)
    (pss_cons (ps_set (i := 2) nd rfl (.inl rfl) (pe_lst pa_nil))
    (pss_try_track (i := 3) (X := (cxOf CX0 X.prog X.w X.K X.mg X.base ["deed", "error", "found", "e"] "_law_told" (defScope s__law_told) g cdg X.A X.stack s H E0).nox)
      (tb := fun W D σ H => ∃ Ech : XK, (∀ cls d (σ' : L2.St) H', Ech cls d H' → σ'.length = 4 → W cls d σ' H') ∧ σ[0]? = some (some (.ref f)) ∧ H c' = some (LamX.CodeO c' q) ∧ tl Ech H fun v H' => 1 ≤ sizeLine ∧ ∀ l, H' l = none → D.nx (σ.set 2 (some (.ref l))) (upd H' l (.lst [v])))
      rfl rfl nd rfl rfl ⟨rfl, by decide, .inl T.g_RecordcraftError⟩ LamX.takes0 (fun W pn xe tk _ => ?_)
      (fun a oe cls d pn hz hf => pss_one (ps_set (i := 1) nd rfl (.inl rfl) (pv 3)))
      (pss_one (ps_ret (pe_ifExp (pt_cmp (pc_isN (pv 1))) (pv 2) (pe_can CC hr2 pass0 (pa_cons (pv 1) pa_nil))))) rfl)), ?_⟩
  · exact pss_by fun D σ H' ⟨Ech, hW, h1, h2, h3⟩ => ⟨_, pss_one (ps_set (i := 2) nd rfl (.inl rfl) (pe_lst (pa_cons (act _ pn xe Ech _ _ (takes_len tk) hW) pa_nil))), h1, h2, h3⟩
  · refine ⟨by show 0 ≤ sizeLine; decide, fun lf hlf => ?_⟩
    have e1 : Ex H (upd H lf (.lst [])) := Ex.new hlf
    have h1 := h _ e1
    refine ⟨TErr X.K Q, fun cls d σ' H' hE h4 => ?_, rfl, e1 _ _ hc, ?_⟩
    · match σ', h4 with
      | [s0, s1, s2, s3], _ =>
        rcases hE with ⟨rfl, dd, x, rfl, hdd, k⟩ | ⟨rfl, dd, x, rfl, hdd, k⟩
        · refine ⟨true, T.exmB, fun _ a ha => ⟨_, rfl, fun na => ?_⟩, fun q => by cases q⟩
          have e2 : Ex H' (upd H' a (CxO (.ref (kB X.K)) (some dd) a)) := Ex.new na
          exact ⟨_, rfl, false, rfl, _, rfl, a, x, rfl, .inl ⟨⟨excB_ok T.excbB T.xfB, ⟨dd, upd_same, e2 _ _ hdd⟩, T.errB⟩, fun t H3 ht e3 h3 => k t H3 (fresh_back e2 ht) (e2.trans e3) h3⟩⟩
        · refine ⟨true, T.exmN, fun _ a ha => ⟨_, rfl, fun na => ?_⟩, fun q => by cases q⟩
          have e2 : Ex H' (upd H' a (CxO (.ref (kN X.K)) (some dd) a)) := Ex.new na
          exact ⟨_, rfl, false, rfl, _, rfl, a, x, rfl, .inr ⟨⟨excB_ok T.excbN T.xfN, ⟨dd, upd_same, e2 _ _ hdd⟩, T.errN⟩, fun t H3 ht e3 h3 => k t H3 (fresh_back e2 ht) (e2.trans e3) h3⟩⟩
    · have eq : (fun v H' => ∀ l, H' l = none → Q (.ref l) (upd H' l (.lst [v]))) = (fun v H' => 1 ≤ sizeLine ∧ ∀ l, H' l = none → tRet (tBack X.K) { nx := fun _ H' => Q .non H', rt := Q } [some (.ref f), some .non, some (.ref l), none] (upd H' l (.lst [v]))) := by
        funext v H'
        exact propext told_iff.symm
      rw [eq] at h1
      exact h1
end
end K52
end

section
set_option Elab.async false
set_option linter.all false
set_option maxRecDepth 100000
set_option maxHeartbeats 4000000
namespace K52
open PySem PySem.Spec PyProof.Rows L2 He Cn Evl
section
variable {P : Program} {w : World} {K : PySem.W.Frag} {mg : Str → Option Value} {base : Heap}
abbrev wtx (ws : List Str) : List V := ws.map V.str
theorem inV_wtx (z : Str) (ws : List Str) : inV (.str z) (wtx ws) = decide (z ∈ ws) := by
  unfold inV
  rw [List.any_map]
  refine Bool.eq_iff_iff.mpr ?_
  rw [List.any_eq_true, decide_eq_true_iff]
  constructor
  · rintro ⟨x, h1, h2⟩
    have : x = z := by
      have h2 : (x == z) = true := h2
      exact beq_iff_eq.mp h2
    exact this ▸ h1
  · intro h
    exact ⟨z, h, show (z == z) = true from beq_self_eq_true z⟩
theorem wtx_flat (ws : List Str) : (wtx ws).all flatV = true := by
  rw [List.all_eq_true]
  intro x hx
  obtain ⟨z, _, rfl⟩ := List.mem_map.mp hx
  rfl
theorem cut_take {xs : List V} {k : Nat} : cutV xs none (some (k : Int)) = xs.take k := by
  unfold cutV
  rw [HT.sIx_none, HT.sIx_nat, List.drop_zero, Nat.sub_zero]
  by_cases h : k ≤ xs.length
  · rw [Nat.min_eq_left h]
  · rw [Nat.min_eq_right (by omega), List.take_of_length_le (Nat.le_refl _), List.take_of_length_le (by omega)]
/-- the first word that was there, or is empty -/
def ffst : List Str → List Str → Nat → Option Nat
  | [], _, _ => none
  | z :: r, seen, i => if z = "" ∨ z ∈ seen then some i else ffst r (seen ++ [z]) (i + 1)
def outF : Option Nat → V
  | some i => .int (i : Nat)
  | none => .non
def spFirst (K : PySem.W.Frag) : Sp := fun vs H Q _ => ∃ (p : Addr) (ws : List Str), vs = [.ref p] ∧ SqL K H p (wtx ws) ∧ ws.length ≤ 100 ∧ ∀ H', Ex H H' → Q (outF (ffst ws [] 0)) H'
theorem wtx_at {ws : List Str} {i : Nat} {x : V} (h : (wtx ws)[i]? = some x) : ∃ z, ws[i]? = some z ∧ x = .str z := by
  rw [List.getElem?_map] at h
  cases q : ws[i]? with
  | none => rw [q] at h; cases h
  | some z =>
    rw [q] at h
    exact ⟨z, rfl, (Option.some.inj h).symm⟩
theorem can_first (T : Txt K mg) : Can P w K mg base CX0 1 "_law_first" ["words"] (spFirst K) := by
  refine can_of T.g__law_first T.F__law_first (fun fd F => ?_) (fun _ _ _ _ _ _ us hl => match us, hl with | [_], _ => rfl)
  refine F.ok sc__law_first (fun vs H Q E h => ?_) (fun cdv A outer s H vs Q E hr h => ?_)
  · obtain ⟨p, ws, rfl, _⟩ := h
    rfl
  · obtain ⟨p, ws, rfl, hS, hz, fin⟩ := h
    have nd := sc__law_first.nd
    refine ⟨_, pss_cons (ps_for PassesOwn.never rfl (pi_enum (by rfl) T.n_enumerate (pa_cons (pv 0) pa_nil)) (pg_tup rfl (pgs_cons (pg_name (i := 1) nd rfl (.inl rfl)) (pgs_cons (pg_name (i := 2) nd rfl (.inl rfl)) pgs_nil)))
        (pss_one (ps_if (PW.pt (pw_or (pt_cmpR op_eq (pv 2) pe_str (nomark _)) (pw_or1 (pt_cmpR op_in_seq (pv 2) (pe_slice sl_list (pv 0) po_none (po_some (pv 1))) rfl)))) (pss_one (ps_ret (pv 1))) pss_nil)))
      (pss_one (ps_ret pe_non)), ?_⟩
    refine ⟨_, rfl, p, wtx ws, rfl, hS, for_it walk_enum (fun i σ' H' => ∃ v1 v2, σ' = [some (.ref p), v1, v2] ∧ Ex H H' ∧ ffst ws [] 0 = ffst (ws.drop i) (ws.take i) i) ⟨_, _, rfl, Ex.refl _, rfl⟩ (fun i σ' H' _ ⟨_, _, _, e, _⟩ => ex_l e hS) ?_ ?_⟩
    · rintro i x σ' H3 H4 hi ⟨v1, v2, rfl, e3, hf⟩ ⟨Tp, y, z, rfl, hTp, rfl, hy, hz2⟩
      obtain rfl := Option.some.inj hy
      obtain ⟨wd, hwd, rfl⟩ := wtx_at hz2
      have e4 : Ex H (upd H3 Tp (.tup [.int (i : Nat), .str wd])) := e3.trans (Ex.new hTp)
      refine ⟨Tp, _, rfl, st_of upd_same, rfl, _, _, rfl, _, _, rfl, rfl, ?_⟩
      generalize upd H3 Tp (.tup [.int (i : Nat), .str wd]) = H5 at *
      have hdr : ws.drop i = wd :: ws.drop (i + 1) := drop_at hwd
      rw [hdr] at hf
      have hf : ffst ws [] 0 = if wd = "" ∨ wd ∈ ws.take i then some i else ffst (ws.drop (i + 1)) (ws.take i ++ [wd]) (i + 1) := hf
      have b1 : EvT (tOr (tTest (tOp rEq (tVar 2) (tC (.str "")))) (tTest (tOp (rIn K false) (tVar 2) (tSl (rSlL K) (tVar 0) tNoPart (tPart (tVar 1)))))) [some (.ref p), some (.int (i : Nat)), some (.str wd)] H5 (decide (V.str wd = .str "") || decide (wd ∈ ws.take i)) := et_or (et_test (ev_op (ev_var rfl) ev_c (rv_eq rfl))) fun _ => fun H6 e6 Q q => by
        refine ⟨_, rfl, _, rfl, _, rfl, _, rfl, p, wtx ws, rfl, ex_l (e4.trans e6) hS, fun pc hpc => ⟨pc, _, rfl, .inl (sq_of upd_same), rfl, ?_, _, rfl, ?_⟩⟩
        · rw [cut_take]
          show (List.take i (wtx ws)).all flatV = true
          unfold wtx
          rw [← List.map_take]
          exact wtx_flat _
        · rw [cut_take]
          have : inV (.str wd) (List.take i (wtx ws)) = decide (wd ∈ ws.take i) := by
            unfold wtx
            rw [← List.map_take]
            exact inV_wtx _ _
          rw [this]
          exact q _ (Ex.new hpc)
      refine s_when b1 (fun hb H6 e6 => ?_) (fun hb H6 e6 => ?_)
      · have : wd = "" ∨ wd ∈ ws.take i := by
          rcases Bool.or_eq_true_iff.mp hb with h | h
          · have := of_decide_eq_true h
            injection this with this
            exact .inl this
          · exact .inr (of_decide_eq_true h)
        rw [if_pos this] at hf
        refine ⟨_, rfl, ?_⟩
        have := fin H6 (e4.trans e6)
        rw [hf] at this
        exact this
      · have : ¬ (wd = "" ∨ wd ∈ ws.take i) := by
          rintro (h | h)
          · rw [h] at hb
            simp at hb
          · rw [decide_eq_true h, Bool.or_true] at hb
            cases hb
        rw [if_neg this] at hf
        refine ⟨_, _, rfl, e4.trans e6, ?_⟩
        rw [List.take_add_one, hwd]
        exact hf
    · rintro σ' H3 ⟨v1, v2, rfl, e3, hf⟩
      have hf : ffst ws [] 0 = none := by
        rw [hf]
        unfold wtx
        rw [List.length_map, List.drop_length]
        rfl
      have := fin H3 e3
      rw [hf] at this
      exact this
end
end K52
end

section
set_option Elab.async false
set_option linter.all false
set_option maxRecDepth 100000
set_option maxHeartbeats 4000000
namespace K52
open PySem PySem.Spec PyProof.Rows L2 He Cn Evl
section
variable {P : Program} {w : World} {K : PySem.W.Frag} {mg : Str → Option Value} {base : Heap}
theorem pass_no {P : Program} {w : World} {X : Cx} : Passes (L2.CX P w) X E0 := fun _ _ _ _ _ _ _ h => by
  obtain ⟨_, _, _, _, _, _, _, _, _, _, _, _, z⟩ := h
  exact z.elim
/-- Fun.ok, the code object known -/
theorem okC {x qual : Str} {st : Stmt} {f : Addr} {fd : FuncData} {N ps : List Str} {k : Nat} {sp : Sp} (F : Fun K x qual st f fd) (S : FnScope N ps (defScope st)) (len : ∀ vs H Q E, sp vs H Q E → vs.length = ps.length)
    (hbody : ∀ (A : Around) (outer : List Env) (s : Shared) (H : Hp) (vs : List V) (Q : VK) (E : XK), Room k (A.deeper (envOfC qual (defScope st) s.heap.objs.size f (.ref (HkQ.cOf K f)))) → sp vs H Q E →
      ∃ t, PSs (cxOf CX0 P w K mg base N qual (defScope st) f (.ref (HkQ.cOf K f)) A outer s H E).nox (defBody st) t ∧ t { nx := fun _ H' => Q .non H', rt := Q } (start N vs) H) : FnOk P w K mg base CX0 (k + 1) f fd ps sp := by
  obtain ⟨oc, od, kV, doc, pm, an, cdv, ct, osl, rfl, lk, hcd⟩ := F.ex
  obtain ⟨c, rfl⟩ := codeIn_ref hcd
  have ec := HkQ.cOf_eq lk rfl
  refine fn_of lk hcd S len fun A outer s H vs Q E hr hsp => ?_
  obtain ⟨t, h, q⟩ := hbody A outer s H vs Q E (by rw [ec]; exact hr) hsp
  rw [ec] at h
  exact ⟨t, h.nox, q⟩
abbrev pMade (K : PySem.W.Frag) : Addr := (HkQ.cP K fun K => ga K "_law_made").2
abbrev pShown (K : PySem.W.Frag) : Addr := (HkQ.cP K fun K => ga K "_law_shown_right").2
abbrev pLaw (K : PySem.W.Frag) : Addr := (HkQ.cP K fun K => ga K "law").2
/-- the tables of the defs that make lambdas -/
def tabs (K : PySem.W.Frag) : List (Addr × Str) := [(pMade K, "_law_made.<locals>.<lambda>"), (pShown K, "_law_shown_right.<locals>.<lambda>"), (pLaw K, "law.<locals>.<lambda>")]
structure TabsOk (K : PySem.W.Frag) (mg : Str → Option Value) (base : Heap) : Prop where
  a : LamX.TabB base mg (HkQ.cOf K (ga K "_law_made")) (pMade K)
  b : LamX.TabB base mg (HkQ.cOf K (ga K "_law_shown_right")) (pShown K)
  c : LamX.TabB base mg (HkQ.cOf K (ga K "law")) (pLaw K)
  ab : pMade K ≠ pShown K
  ac : pMade K ≠ pLaw K
  bc : pShown K ≠ pLaw K
theorem tabs_a (B : TabsOk K mg base) {p : Addr × Str} (hp : p ∈ tabs K) (e : p.1 = pMade K) : p.2 = "_law_made.<locals>.<lambda>" := by
  rcases List.mem_cons.mp hp with q | q
  · rw [q]
  · rcases List.mem_cons.mp q with q | q
    · rw [q] at e; exact absurd e.symm B.ab
    · rw [List.mem_singleton.mp q] at e; exact absurd e.symm B.ac
theorem tabs_b (B : TabsOk K mg base) {p : Addr × Str} (hp : p ∈ tabs K) (e : p.1 = pShown K) : p.2 = "_law_shown_right.<locals>.<lambda>" := by
  rcases List.mem_cons.mp hp with q | q
  · rw [q] at e; exact absurd e B.ab
  · rcases List.mem_cons.mp q with q | q
    · rw [q]
    · rw [List.mem_singleton.mp q] at e; exact absurd e.symm B.bc
theorem tabs_c (B : TabsOk K mg base) {p : Addr × Str} (hp : p ∈ tabs K) (e : p.1 = pLaw K) : p.2 = "law.<locals>.<lambda>" := by
  rcases List.mem_cons.mp hp with q | q
  · rw [q] at e; exact absurd e B.ac
  · rcases List.mem_cons.mp q with q | q
    · rw [q] at e; exact absurd e B.bc
    · rw [List.mem_singleton.mp q]
theorem NmK.xn {H H' : Hp} {a : Addr} {z : Str} (x : LamX.ExtN H H') (h : NmK K H a z) : NmK K H' a z := by
  obtain ⟨dx, fs, h1, h2⟩ := h
  exact ⟨dx, fs, x _ _ h1 (fun _ q => nomatch q), h2⟩
theorem ThR.xn {H H' : Hp} {x : V} {t : Tg} (e : LamX.ExtN H H') (h : ThR K H x t) : ThR K H' x t := by
  cases h with
  | kd h => exact .kd (h.xn e)
  | non => exact .non
  | int i => exact .int i
  | str z => exact .str z
theorem ThsR.xn {H H' : Hp} {xs : List V} {ts : List Tg} (e : LamX.ExtN H H') (h : ThsR K H xs ts) : ThsR K H' xs ts := ⟨h.1, fun i x t a b => (h.2 i x t a b).xn e⟩
theorem BkAt.xn {H H' : Hp} {b : Addr} {ps : List (Str × Addr)} (e : LamX.ExtN H H') (B : BkAt K H b ps) : BkAt K H' b ps := by
  obtain ⟨⟨dx, D, fs, h1, h2, h3⟩, nd, ks, len⟩ := B
  exact ⟨⟨dx, D, fs, e _ _ h1 (fun _ q => nomatch q), h2, e _ _ h3 (fun _ q => nomatch q)⟩, nd, fun p hp => (ks p hp).xn e, len⟩
theorem NmK.mut {H : Hp} {a D : Addr} {z : Str} {xs : List V} {u : HO} (hD : H D = some (.lst xs)) (h : NmK K H a z) : NmK K (upd H D u) a z := by
  obtain ⟨dx, fs, h1, h2⟩ := h
  exact ⟨dx, fs, by rw [upd_ne (ne_of h1 hD (by intro q; cases q))]; exact h1, h2⟩
theorem ThsR.mut {H : Hp} {D : Addr} {ys : List V} {u : HO} {xs : List V} {ts : List Tg} (hD : H D = some (.lst ys)) (h : ThsR K H xs ts) : ThsR K (upd H D u) xs ts := ⟨h.1, fun i x t a b => by
  cases h.2 i x t a b with
  | kd h => exact .kd (h.mut hD)
  | non => exact .non
  | int i => exact .int i
  | str z => exact .str z⟩
theorem ThsR.snoc {H : Hp} {xs : List V} {ts : List Tg} {x : V} {t : Tg} (h : ThsR K H xs ts) (h1 : ThR K H x t) : ThsR K H (xs ++ [x]) (ts ++ [t]) := by
  refine ⟨by rw [List.length_append, List.length_append, h.1]; rfl, fun i y u hy hu => ?_⟩
  by_cases hi : i < xs.length
  · rw [List.getElem?_append_left hi] at hy
    rw [List.getElem?_append_left (by rw [← h.1]; exact hi)] at hu
    exact h.2 i y u hy hu
  · rw [List.getElem?_append_right (by omega)] at hy
    rw [List.getElem?_append_right (by rw [← h.1]; omega), ← h.1] at hu
    have e : i - xs.length = 0 := by
      have := (List.getElem?_eq_some_iff.mp hy).1
      simp at this
      omega
    rw [e] at hy hu
    obtain rfl : x = y := by simpa using hy
    obtain rfl : t = u := by simpa using hu
    exact h1
/-- the name that a word stands for -/
def nmOf (z : Str) : Option Str := if z = "" then none else some z
theorem fbad_ffst {ts : List Tg} : ∀ {ws : List Str} {seen : List Str} {i : Nat}, ts.map (Option.map Prod.fst) = ws.map nmOf → fbad ts seen i = ffst ws seen i := by
  induction ts with
  | nil =>
    intro ws seen i h
    cases ws with
    | nil => rfl
    | cons z r => cases h
  | cons t r ih =>
    intro ws seen i h
    cases ws with
    | nil => cases h
    | cons z ws =>
      rw [List.map_cons, List.map_cons] at h
      injection h with h1 h2
      unfold nmOf at h1
      by_cases hz : z = ""
      · rw [if_pos hz] at h1
        cases t with
        | none =>
          show some i = if z = "" ∨ z ∈ seen then some i else _
          rw [if_pos (.inl hz)]
        | some p => cases h1
      · rw [if_neg hz] at h1
        cases t with
        | none => cases h1
        | some p =>
          obtain ⟨z', a⟩ := p
          obtain rfl : z' = z := Option.some.inj h1
          show (if z' ∈ seen then some i else fbad r (seen ++ [z']) (i + 1)) = if z' = "" ∨ z' ∈ seen then some i else ffst ws (seen ++ [z']) (i + 1)
          by_cases hs : z' ∈ seen
          · rw [if_pos hs, if_pos (.inr hs)]
          · rw [if_neg hs, if_neg (by rintro (q | q); exact hz q; exact hs q)]
            exact ih h2
/-- a kind is made -/
theorem mk_kind (T : Txt K mg) {H1 : Hp} {z : Str} {Q : VK} {E : XK} (hz : goodName z = true) (k : ∀ a H', H1 a = none → Ex H1 H' → NmK K H' a z → Q (.ref a) H') :
    ∀ x dx, H1 x = none → H1 dx = none → dx ≠ x → spInit1 K (.ref x :: [.str z]) (upd (upd H1 dx (.own x)) x (.ins (kC K) dx [])) (fun v H2 => v = .non ∧ Q (.ref x) H2) E := fun x dx hx hdx hne => by
  have e : Ex H1 (upd (upd H1 dx (.own x)) x (.ins (kC K) dx [])) := (Ex.new hdx).trans (Ex.new (by rw [upd_ne hne.symm]; exact hx))
  refine ⟨x, dx, z, rfl, hz, upd_same, fun H' M N f => ⟨rfl, ?_⟩⟩
  obtain ⟨fs, h1, h2⟩ := N
  exact k x H' hx (fun c u hc => f c u (e _ _ hc) (ne_of_none hc hx)) ⟨dx, fs, h1, h2⟩
end
end K52
end

section
set_option Elab.async false
set_option linter.all false
set_option maxRecDepth 100000
set_option maxHeartbeats 4000000
namespace K52
open PySem PySem.Spec PyProof.Rows L2 He Cn Evl
section
variable {P : Program} {w : World} {K : PySem.W.Frag} {mg : Str → Option Value} {base : Heap}
/-- what a try to make a book of these words came to -/
def Outc (K : PySem.W.Frag) (H : Hp) (r : Addr) (ws : List Str) : Prop := match ffst ws [] 0 with
  | some i => H r = some (.tup [.str "InvalidBook", .int (i : Nat)])
  | none => ∃ b ps, H r = some (.lst [.ref b]) ∧ BkAt K H b ps ∧ ps.map Prod.fst = ws
theorem names_of {ps : List (Str × Addr)} : ∀ {ws : List Str} {seen : List Str} {i : Nat}, ffst ws seen i = none → (ps.map some).map (Option.map Prod.fst) = ws.map nmOf → ps.map Prod.fst = ws := by
  induction ps with
  | nil =>
    intro ws seen i _ h
    cases ws with
    | nil => rfl
    | cons z r => cases h
  | cons p ps ih =>
    intro ws seen i hf h
    cases ws with
    | nil => cases h
    | cons z ws =>
      rw [List.map_cons, List.map_cons, List.map_cons] at h
      injection h with h1 h2
      unfold nmOf at h1
      unfold ffst at hf
      by_cases hz : z = "" ∨ z ∈ seen
      · rw [if_pos hz] at hf
        cases hf
      · rw [if_neg hz] at hf
        rw [if_neg fun q => hz (.inl q)] at h1
        have : p.1 = z := Option.some.inj h1
        rw [List.map_cons, this, ih hf h2]
/-- the outcome of Book(..), told -/
theorem told_book {H1 : Hp} {xs : List V} {ts : List Tg} {ws : List Str} {Q : VK} (hR : ThsR K H1 xs ts) (hl : ts.length ≤ 100) (hw : ts.map (Option.map Prod.fst) = ws.map nmOf) (fin : ∀ r H', Ex H1 H' → Outc K H' r ws → Q (.ref r) H') :
    ∀ x dx, H1 x = none → H1 dx = none → dx ≠ x → spBInit K (.ref x :: xs) (upd (upd H1 dx (.own x)) x (.ins (kO K) dx [])) (fun v H2 => v = .non ∧ (fun v H' => ∀ l, H' l = none → Q (.ref l) (upd H' l (.lst [v]))) (.ref x) H2) (TErr K Q) := by
  have hff := fbad_ffst (seen := []) (i := 0) hw
  refine mk_book (Q := fun v H' => ∀ l, H' l = none → Q (.ref l) (upd H' l (.lst [v]))) hR hl (fun i hi => ?_) fun ps h1 h2 b H' hb e B l hl0 => ?_
  · intro d H2 hd e2 h2
    refine .inl ⟨rfl, d, _, rfl, h2, fun t H3 ht e3 h3 => fin t H3 (e2.trans e3) ?_⟩
    unfold Outc
    rw [← hff, hi]
    exact h3
  · refine fin l _ (e.trans (Ex.new hl0)) ?_
    unfold Outc
    rw [← hff, h1]
    rw [hff] at h1
    subst h2
    exact ⟨b, ps, upd_same, B.ex (Ex.new hl0), names_of h1 hw⟩
def tKindOr (K : PySem.W.Frag) (j : Nat) : TE := tIf (tTest (tOp rNe (tVar j) (tC (.str "")))) (StX.tMakeR (kC K) (spInit1 K) E0 (tCons (tVar j) tNil)) (tVar j)
theorem ev_kindOr (T : Txt K mg) {σ : L2.St} {H : Hp} {j : Nat} {z : Str} {Q : VK} (hv : σ[j]? = some (some (.str z))) (hz : z = "" ∨ goodName z = true) (k : ∀ x t H', Ex H H' → ThR K H' x t → t.map Prod.fst = nmOf z → Q x H') : tKindOr K j σ H Q := by
  have ht : EvT (tTest (tOp rNe (tVar j) (tC (.str "")))) σ H (!decide (V.str z = .str "")) := et_test (ev_op (ev_var hv) ev_c (rv_ne rfl))
  refine ht H (Ex.refl H) _ fun H1 e1 => ?_
  by_cases h0 : z = ""
  · subst h0
    rw [show (!decide (V.str "" = V.str "")) = false by simp]
    refine iteF ?_
    refine ⟨_, hv, k _ none H1 e1 (.str _) ?_⟩
    unfold nmOf
    rw [if_pos rfl]
    rfl
  · have hne : ¬ (V.str z = .str "") := fun q => h0 (by injection q)
    rw [decide_eq_false hne]
    refine iteT ?_
    refine ⟨_, hv, ?_⟩
    refine mk_kind T (hz.resolve_left h0) fun a H' ha e2 N => k (.ref a) (some (z, a)) H' (e1.trans e2) (.kd N) ?_
    unfold nmOf
    rw [if_neg h0]
    rfl
def tMd (K : PySem.W.Frag) : TE := LamX.tLam (tabs K) (TTold K) fun E => StX.tMakeR (kO K) (spBInit K) E (tCons (tOp (rIxL K) (tVar 1) (tC (.int 0))) (tCons (tOp (rIxL K) (tVar 1) (tC (.int 1))) (tCons (tOp (rIxL K) (tVar 1) (tC (.int 2))) (tCons (tOp (rIxL K) (tVar 1) (tC (.int 3))) tNil))))
def spMade (K : PySem.W.Frag) : Sp := fun vs H Q _ => ∃ (p : Addr) (ws : List Str), vs = [.ref p] ∧ H p = some (.lst (wtx ws)) ∧ ws.length = 4 ∧ (∀ z, z ∈ ws → z = "" ∨ goodName z = true) ∧ LamX.Tabs (tabs K) H ∧
  ∀ r H', LamX.ExtN H H' → LamX.Tabs (tabs K) H' → Outc K H' r ws → Q (.ref r) H'
theorem can_made (T : Txt K mg) (TB : TabsOk K mg base) : Can P w K mg base CX0 9 "_law_made" ["words"] (spMade K) := by
  have FK := fnr_init (P := P) (w := w) (base := base) T
  have FB := fnr_book (P := P) (w := w) (base := base) T
  obtain ⟨fdR, FR⟩ := T.F__law_told
  have bR := FR.binds (ps := ["deed"]) fun _ _ _ _ _ _ us hl => match us, hl with | [_], _ => rfl
  obtain ⟨ocR, odR, kVR, docR, pmR, anR, cdR, ctR, oslR, eR, lkR, hcR⟩ := FR.ex
  subst eR
  refine can_of T.g__law_made T.F__law_made (fun fd F => ?_) (fun _ _ _ _ _ _ us hl => match us, hl with | [_], _ => rfl)
  refine okC F sc__law_made (fun vs H Q E h => ?_) (fun A outer s H vs Q E hr h => ?_)
  · obtain ⟨p, ws, rfl, _⟩ := h
    rfl
  · obtain ⟨p, ws, rfl, hp, h4, hg, hT, fin⟩ := h
    have nd := sc__law_made.nd
    refine ⟨_, pss_cons (ps_set (i := 1) nd rfl (.inr rfl) (pe_lc (own := [("word", 2)]) (wi := iList K (tVar 0)) (g := gName 2) (tt := tYes) (te := tKindOr K 2) rfl nd (pi_list (pv 0)) (blkOk_by (N := ["words", "some", "word"]) (sc := defScope s__law_made) (by decide +kernel)) (fun _ _ _ _ _ => pg_name (i := 2) nd rfl (.inl rfl)) (fun _ _ _ _ _ => pts_nil)
        (fun _ _ _ _ _ => pe_ifExp (pt_cmpR op_ne (pv 2) pe_str (nomark _)) (StX.pe_makeR T.kmk FK (hr.mono (by decide)) rfl T.g_Kind pass_no (pa_cons (pv 2) pa_nil)) (pv 2))))
      (pss_one (ps_ret (?_ : PE _ _ (tMd K)))), ?_⟩
    · exact LamX.pe_lamcall (T := tabs K) (TT := TTold K) (k := 5) rfl T.g__law_told FR.kp lkR hcR bR sc__law_told rfl (.inl rfl) (told_gives T rfl rfl (hr.mono (by decide))) TB.a rfl (List.mem_cons.mpr (.inl (congrArg (Prod.mk _) (by rfl)))) (fun p hp e => tabs_a TB hp e) (hr.mono (by decide)) (LamX.lamS_by (sc := defScope s__law_made) (by decide +kernel)) rfl (fun _ _ _ _ _ => rfl)
        (fun A outer s H E f c' hr => StX.pe_makeR T.bmk FB hr rfl T.g_Book (passes_call (takes_of rfl rfl rfl rfl) fun _ _ _ _ h => h) (pa_cons (pe_ix ix_list (pv 1) pe_int (fun _ _ => rfl)) (pa_cons (pe_ix ix_list (pv 1) pe_int (fun _ _ => rfl)) (pa_cons (pe_ix ix_list (pv 1) pe_int (fun _ _ => rfl)) (pa_cons (pe_ix ix_list (pv 1) pe_int (fun _ _ => rfl)) pa_nil)))))
    · refine ⟨_, rfl, p, rfl, ⟨_, sq_of hp⟩, fun D hD => ?_⟩
      refine lc_list (xs := wtx ws) (fun i H' => Ex H H' ∧ ∃ xs ts, H' D = some (.lst xs) ∧ ThsR K H' xs ts ∧ ts.map (Option.map Prod.fst) = (ws.take i).map nmOf) ⟨Ex.new hD, [], [], upd_same, ⟨rfl, fun i x t h => by simp at h⟩, rfl⟩ (fun i H' _ ⟨e, _⟩ => sq_of (e _ _ hp)) ?_ ?_
      · rintro i x H2 hx ⟨e2, xs, ts, h2, hR, hw⟩
        obtain ⟨z, hz, rfl⟩ := wtx_at hx
        refine ⟨rfl, yes_then ?_⟩
        refine ev_kindOr T (j := 2) rfl (hg z (List.mem_of_getElem? hz)) fun y t H3 e3 hy ht => ?_
        have h3 := e3 _ _ h2
        have hi : i < 4 := by rw [← h4]; exact (List.getElem?_eq_some_iff.mp hz).1
        have hl : ts.length = i := by
          have := congrArg List.length hw
          rw [List.length_map, List.length_map, List.length_take] at this
          omega
        refine ⟨xs, h3, sz_lt (by rw [hR.1]; omega), Ex.mut (e2.trans e3) hD, xs ++ [y], ts ++ [t], upd_same, ((hR.ex e3).snoc hy).mut h3, ?_⟩
        rw [List.map_append, hw, List.take_add_one, hz, List.map_append]
        show _ ++ [t.map Prod.fst] = _ ++ [nmOf z]
        rw [ht]
      · rintro H2 ⟨e2, xs, ts, h2, hR, hw⟩
        rw [List.length_map, List.take_length] at hw
        have hl : ts.length = 4 := by
          have := congrArg List.length hw
          rw [List.length_map, List.length_map] at this
          omega
        refine ⟨hT.ext e2, fun H3 x3 T3 H4 e4 => ?_⟩
        have hR4 := (hR.xn x3).ex e4
        have h4' := e4 _ _ (x3 _ _ h2 (fun _ q => nomatch q))
        obtain ⟨x0, x1, x2, x3', rfl⟩ : ∃ a b c d, xs = [a, b, c, d] := by
          have : xs.length = 4 := by rw [hR.1]; exact hl
          match xs, this with
          | [a, b, c, d], _ => exact ⟨a, b, c, d, rfl⟩
        refine ⟨_, rfl, D, _, 0, x0, rfl, rfl, sq_of h4', at_of (j := 0) rfl rfl, _, rfl, D, _, 1, x1, rfl, rfl, sq_of h4', at_of (j := 1) rfl rfl, _, rfl, D, _, 2, x2, rfl, rfl, sq_of h4', at_of (j := 2) rfl rfl, _, rfl, D, _, 3, x3', rfl, rfl, sq_of h4', at_of (j := 3) rfl rfl, ?_⟩
        exact told_book hR4 (by omega) hw fun r H' e5 O => fin r H' ((LamX.ExtN.of e2).trans (x3.trans (LamX.ExtN.of (e4.trans e5)))) (T3.ext (e4.trans e5)) O
end
end K52
end

section
set_option Elab.async false
set_option linter.all false
set_option maxRecDepth 100000
set_option maxHeartbeats 4000000
namespace K52
open PySem PySem.Spec PyProof.Rows L2 He Cn Evl
section
variable {P : Program} {w : World} {K : PySem.W.Frag} {mg : Str → Option Value} {base : Heap}
theorem tfor_E {te : TE} {g : TG} {tb tz : TS} {D : Ends} {σ : L2.St} {H : Hp} (h : te σ H fun x H1 => ∃ a, x = .ref a ∧ (∃ xs, SqL K H1 a xs) ∧ ∃ W : Nat → Nat → L2.St → Hp → Prop, (∃ m, W 0 m σ H1) ∧ ∀ i m σ H, W i m σ H →
    ((Itl K a).stop i H ∧ tz D σ H) ∨ ((Itl K a).go i H ∧ ∃ N : L2.St → Hp → Prop, (∀ σ' H', N σ' H' → ∃ m', m' < m ∧ W (i + 1) m' σ' H') ∧ ∀ x H', (Itl K a).yld i H x H' → g x σ H' fun σ2 H2 => tb { D with nx := N, ct := N, bk := tz D } σ2 H2)) : tSeq (tFor (iList K te) g tb) tz D σ H := h
theorem q_asgE {te : TE} {g : TG} {tz : TS} {D : Ends} {σ : L2.St} {H : Hp} (h : te σ H fun v H1 => g v σ H1 fun σ2 H2 => tz D σ2 H2) : tSeq (tAsg te g) tz D σ H := h
theorem tSeq_nx {a : TS} {tz : TS} {D : Ends} {σ : L2.St} {H : Hp} (h : a { D with nx := tz D } σ H) : tSeq a tz D σ H := h
/-! ### what stands there while a book is looked at -/
structure Sb (K : PySem.W.Frag) (H : Hp) (b p : Addr) (ps : List (Str × Addr)) (ws : List Str) : Prop where
  bk : BkAt K H b ps
  wl : H p = some (.lst (wtx ws))
  nm : ps.map Prod.fst = ws
  tb : LamX.Tabs (tabs K) H
variable {H H' : Hp} {b p : Addr} {ps : List (Str × Addr)} {ws : List Str}
theorem Sb.e (e : Ex H H') (S : Sb K H b p ps ws) : Sb K H' b p ps ws := ⟨S.bk.ex e, e _ _ S.wl, S.nm, S.tb.ext e⟩
theorem Sb.xn (x : LamX.ExtN H H') (T : LamX.Tabs (tabs K) H') (S : Sb K H b p ps ws) : Sb K H' b p ps ws := ⟨S.bk.xn x, x _ _ S.wl (fun _ q => nomatch q), S.nm, T⟩
theorem ev_inB {σ : L2.St} {i j : Nat} {z : Str} (S : Sb K H b p ps ws) (hi : σ[i]? = some (some (.str z))) (hj : σ[j]? = some (some (.ref b))) : Ev (tOp (OwD.rInO (kO K) (spBHas K) E0 false) (tVar i) (tVar j)) σ H (.bl (decide (z ∈ ws))) := fun H1 e Q q => by
  have B := S.bk.ex e
  obtain ⟨dx, D, fs, h1, _⟩ := B.o
  refine ⟨_, hi, _, hj, b, dx, fs, rfl, h1, b, .str z, ps, rfl, B, .inl ⟨z, rfl, fun H2 e2 => ⟨_, rfl, ?_⟩⟩⟩
  rw [S.nm]
  exact q H2 e2
theorem ev_inO {σ : L2.St} {i j : Nat} {x : V} (S : Sb K H b p ps ws) (hi : σ[i]? = some (some x)) (hn : NoS H x) (hj : σ[j]? = some (some (.ref b))) : Ev (tOp (OwD.rInO (kO K) (spBHas K) E0 false) (tVar i) (tVar j)) σ H (.bl false) := fun H1 e Q q => by
  have B := S.bk.ex e
  obtain ⟨dx, D, fs, h1, _⟩ := B.o
  exact ⟨_, hi, _, hj, b, dx, fs, rfl, h1, b, x, ps, rfl, B, .inr ⟨hn.ex e, fun H2 e2 => ⟨_, rfl, q H2 e2⟩⟩⟩
theorem et_inW {σ : L2.St} {i j : Nat} {z : Str} {neg : Bool} (S : Sb K H b p ps ws) (hi : σ[i]? = some (some (.str z))) (hj : σ[j]? = some (some (.ref p))) : Ev (tOp (rIn K neg) (tVar i) (tVar j)) σ H (.bl (if neg then !decide (z ∈ ws) else decide (z ∈ ws))) := by
  have := ev_op (ev_var hi) (ev_var hj) (rv_inL (K := K) (neg := neg) (sq_of S.wl) (x := .str z) rfl (wtx_flat ws))
  rw [inV_wtx] at this
  exact this
/-- book[..], told -/
def tGet (K : PySem.W.Frag) (j : Nat) : TE := LamX.tLam (tabs K) (TTold K) fun E => tOp (OwD.rSubO (kO K) (spBGet K) E) (tVar 0) (tVar j)
theorem rd_getW {σ : L2.St} {j : Nat} {z : Str} {Q : VK} (S : Sb K H b p ps ws) (h0 : σ[0]? = some (some (.ref b))) (hj : σ[j]? = some (some (.str z)))
    (k : ∀ r H', LamX.ExtN H H' → LamX.Tabs (tabs K) H' → ((z ∈ ws ∧ ∃ a, H' r = some (.lst [.ref a]) ∧ NmK K H' a z) ∨ (z ∉ ws ∧ H' r = some (.tup [.str "NoKind", .str z]))) → Q (.ref r) H') : tGet K j σ H Q := by
  refine ⟨S.tb, fun H1 x1 T1 H2 e2 => ?_⟩
  have S2 := (S.xn x1 T1).e e2
  obtain ⟨dx, D, fs, h1, _⟩ := S2.bk.o
  refine ⟨_, h0, _, hj, b, dx, fs, rfl, h1, b, .str z, ps, rfl, S2.bk, .inl ⟨z, rfl, fun hz d H3 hd e3 h3 => .inr ⟨rfl, d, _, rfl, h3, fun t H4 ht e4 h4 => ?_⟩, fun a ha H3 e3 l hl => ?_⟩⟩
  · have e24 := e2.trans (e3.trans e4)
    exact k t H4 (x1.trans (LamX.ExtN.of e24)) (T1.ext e24) (.inr ⟨by rw [← S.nm]; exact hz, h4⟩)
  · have e5 : Ex H3 (upd H3 l (.lst [.ref a])) := Ex.new hl
    have e25 := e2.trans (e3.trans e5)
    exact k l _ (x1.trans (LamX.ExtN.of e25)) (T1.ext e25) (.inl ⟨by rw [← S.nm]; exact List.mem_map.mpr ⟨_, ha, rfl⟩, a, upd_same, (S2.bk.ks _ ha).ex (e3.trans e5)⟩)
theorem NoS.xn {x : V} (e : LamX.ExtN H H') (h : NoS H x) : NoS H' x := by
  cases h with
  | non => exact .non
  | bl b => exact .bl b
  | int i => exact .int i
  | lst h => exact .lst (e _ _ h fun _ q => nomatch q)
  | tup h => exact .tup (e _ _ h fun _ q => nomatch q)
  | dK h => exact .dK (e _ _ h fun _ q => nomatch q)
theorem rd_getO {σ : L2.St} {j : Nat} {x : V} {Q : VK} (S : Sb K H b p ps ws) (h0 : σ[0]? = some (some (.ref b))) (hj : σ[j]? = some (some x)) (hn : NoS H x)
    (k : ∀ r H', LamX.ExtN H H' → LamX.Tabs (tabs K) H' → H' r = some (.tup [.str "NoKind", x]) → Q (.ref r) H') : tGet K j σ H Q := by
  refine ⟨S.tb, fun H1 x1 T1 H2 e2 => ?_⟩
  have S2 := (S.xn x1 T1).e e2
  obtain ⟨dx, D, fs, h1, _⟩ := S2.bk.o
  refine ⟨_, h0, _, hj, b, dx, fs, rfl, h1, b, x, ps, rfl, S2.bk, .inr ⟨(hn.xn x1).ex e2, fun d H3 hd e3 h3 => .inr ⟨rfl, d, _, rfl, h3, fun t H4 ht e4 h4 => ?_⟩⟩⟩
  have e24 := e2.trans (e3.trans e4)
  exact k t H4 (x1.trans (LamX.ExtN.of e24)) (T1.ext e24) h4
def tNo : TS := tRet (tC (.bl false))
def tTurnW (K : PySem.W.Frag) : TS := tSeq (tIfS (tTest (tOp rNe (tOp (OwD.rInO (kO K) (spBHas K) E0 false) (tVar 4) (tVar 0)) (tOp (rIn K false) (tVar 4) (tVar 1)))) tNo tNext) (tSeq (tAsg (tGet K 4) (gName 2))
  (tSeq (tIfS (tAnd (tTest (tOp (rIn K false) (tVar 4) (tVar 1))) (tOr (tNot (tB (tCB (rIsi K) (tCons (tVar 2) (tCons (tC (.ty "list")) tNil))))) (tTest (tOp rNe (tFld K (tOp (rIxL K) (tVar 2) (tC (.int 0))) "name") (tVar 4))))) tNo tNext)
  (tIfS (tAnd (tTest (tOp (rIn K true) (tVar 4) (tVar 1))) (tTest (tOp (rNeST K) (tVar 2) (tTup (tCons (tC (.str "NoKind")) (tCons (tVar 4) tNil)))))) tNo tNext)))
theorem et_sameT {σ : L2.St} {H : Hp} {r : Addr} {x : V} {i j : Nat} (hi : σ[i]? = some (some (.ref r))) (hj : σ[j]? = some (some x)) (hr : H r = some (.tup [.str "NoKind", x])) (hx : flatV x = true ∨ ∃ a, x = .ref a) : EvT (tTest (tOp (rNeST K) (tVar i) (tTup (tCons (tC (.str "NoKind")) (tCons (tVar j) tNil))))) σ H false := fun H1 e Q q => by
  refine ⟨_, hi, _, hj, by show 2 ≤ sizeLine; decide, fun t ht => ⟨r, t, [.str "NoKind", x], rfl, rfl, st_of ?_, st_of upd_same, fun z hz => ?_, _, rfl, q _ (Ex.new ht)⟩⟩
  · exact (Ex.new ht) _ _ (e _ _ hr)
  · rcases List.mem_cons.mp hz with rfl | hz
    · exact .inl rfl
    · rw [List.mem_singleton.mp hz]
      exact hx
theorem rd_turnW (T : Txt K mg) {D : Ends} {z : Str} {w2 w3 : Option V} (S : Sb K H b p ps ws)
    (k : ∀ w2 H', LamX.ExtN H H' → LamX.Tabs (tabs K) H' → D.nx [some (.ref b), some (.ref p), w2, w3, some (.str z)] H') : tTurnW K D [some (.ref b), some (.ref p), w2, w3, some (.str z)] H := by
  unfold tTurnW
  refine q_when (b := false) (et_is (et_test (ev_op (ev_inB S rfl rfl) (Evl.ev_is (v := .bl (decide (z ∈ ws))) (et_inW (neg := false) (S) rfl rfl) rfl) (rv_ne rfl))) (by simp)) (fun h => by cases h) fun _ H1 e1 => ?_
  have S1 := S.e e1
  refine q_asgE (rd_getW S1 rfl rfl fun r H2 x2 T2 hc => ?_)
  have S2 := S1.xn x2 T2
  have x02 := (LamX.ExtN.of e1).trans x2
  show tSeq _ _ D [some (.ref b), some (.ref p), some (.ref r), w3, some (.str z)] H2
  rcases hc with ⟨hz, a, hr, hN⟩ | ⟨hz, hr⟩
  · have hd : (z ∈ ws) := hz
    refine q_when (b := false) (et_is (et_and (a := true) (b := false) (et_is (et_test (et_inW (neg := false) S2 rfl rfl)) (by simp [hd])) fun _ => et_is (et_or (a := false) (b := false) (et_is (et_not (a := true) (et_B (ev_cb (ea_cons (ev_var rfl) (ea_cons ev_c ea_nil)) fun H3 e3 Q q => ⟨.ref r, .ty "list", .type "list", .type "list", true, rfl, .ty _, .base (.lst (e3 _ _ hr)), kit_ty (by decide +kernel), q H3 (Ex.refl H3)⟩))) rfl) fun _ => et_is (et_test (ev_op (ev_nm T (ev_op (ev_var rfl) ev_c (rv_ixL (sq_of hr) (at_of (j := 0) rfl rfl))) hN) (ev_var rfl) (rv_ne rfl))) (by simp)) rfl) rfl) (fun h => by cases h) fun _ H3 e3 => ?_
    have S3 := S2.e e3
    refine s_when (b := false) (et_is (et_and (a := false) (b := false) (et_is (et_test (et_inW (neg := true) S3 rfl rfl)) (by simp [hd])) fun h => by cases h) rfl) (fun h => by cases h) fun _ H4 e4 => ?_
    exact k _ H4 (x02.trans (LamX.ExtN.of (e3.trans e4))) (T2.ext (e3.trans e4))
  · have hd : ¬ (z ∈ ws) := hz
    refine q_when (b := false) (et_is (et_and (a := false) (b := false) (et_is (et_test (et_inW (neg := false) S2 rfl rfl)) (by simp [hd])) fun h => by cases h) rfl) (fun h => by cases h) fun _ H3 e3 => ?_
    have S3 := S2.e e3
    refine s_when (b := false) (et_is (et_and (a := true) (b := false) (et_is (et_test (et_inW (neg := true) S3 rfl rfl)) (by simp [hd])) fun _ => et_sameT rfl rfl (e3 _ _ hr) (.inl rfl)) rfl) (fun h => by cases h) fun _ H4 e4 => ?_
    exact k _ H4 (x02.trans (LamX.ExtN.of (e3.trans e4))) (T2.ext (e3.trans e4))
def tTurnO (K : PySem.W.Frag) : TS := tIfS (tOr (tTest (tOp (OwD.rInO (kO K) (spBHas K) E0 false) (tVar 3) (tVar 0))) (tTest (tOp (rNeST K) (tGet K 3) (tTup (tCons (tC (.str "NoKind")) (tCons (tVar 3) tNil)))))) tNo tNext
theorem rd_turnO {D : Ends} {x : V} {w2 w4 : Option V} (S : Sb K H b p ps ws) (hn : NoS H x) (hx : flatV x = true ∨ ∃ a, x = .ref a)
    (k : ∀ H', LamX.ExtN H H' → LamX.Tabs (tabs K) H' → D.nx [some (.ref b), some (.ref p), w2, some x, w4] H') : tTurnO K D [some (.ref b), some (.ref p), w2, some x, w4] H := by
  unfold tTurnO
  have ht : EvT (tTest (tOp (OwD.rInO (kO K) (spBHas K) E0 false) (tVar 3) (tVar 0))) [some (.ref b), some (.ref p), w2, some x, w4] H false := et_test (ev_inO S rfl hn rfl)
  refine ht H (Ex.refl H) _ fun H1 e1 => ?_
  refine iteF ?_
  refine rd_getO (S.e e1) rfl rfl (hn.ex e1) fun r H2 x2 T2 h2 => ?_
  refine ⟨_, rfl, by show 2 ≤ sizeLine; decide, fun t ht => ⟨r, t, [.str "NoKind", x], rfl, rfl, st_of ((Ex.new ht) _ _ h2), st_of upd_same, fun z hz => ?_, _, rfl, ?_⟩⟩
  · rcases List.mem_cons.mp hz with rfl | hz
    · exact .inl rfl
    · rw [List.mem_singleton.mp hz]
      exact hx
  · refine iteF ?_
    exact k _ ((LamX.ExtN.of e1).trans (x2.trans (LamX.ExtN.of (Ex.new ht)))) (T2.ext (Ex.new ht))
end
end K52
end

section
set_option Elab.async false
set_option linter.all false
set_option maxRecDepth 100000
set_option maxHeartbeats 4000000
namespace K52
open PySem PySem.Spec PyProof.Rows L2 He Cn Evl
section
variable {P : Program} {w : World} {K : PySem.W.Frag} {mg : Str → Option Value} {base : Heap}
def spShown (K : PySem.W.Frag) : Sp := fun vs H Q _ => ∃ (b p : Addr) (ps : List (Str × Addr)) (ws : List Str), vs = [.ref b, .ref p] ∧ Sb K H b p ps ws ∧ ws.length ≤ 100 ∧ ∀ H', LamX.ExtN H H' → LamX.Tabs (tabs K) H' → Q (.bl true) H'
def six : List Str := ["P", "Q", "R", "S", "T", "U"]
def tSix : TE := tLst (tCons (tC (.str "P")) (tCons (tC (.str "Q")) (tCons (tC (.str "R")) (tCons (tC (.str "S")) (tCons (tC (.str "T")) (tCons (tC (.str "U")) tNil))))))
def tOdd : TE := tLst (tCons (tC .non) (tCons (tC (.int 0)) (tCons (tC (.bl true)) (tCons (tTup (tCons (tC (.str "P")) tNil)) (tCons (tLst (tCons (tC (.str "P")) tNil)) (tCons (tDisp [(tC (.str "P"), tC (.int 1))]) tNil))))))
theorem rd_words (T : Txt K mg) {H : Hp} {b p : Addr} {ps : List (Str × Addr)} {ws : List Str} {D : Ends} {tz : TS} {w2 w3 w4 : Option V} (S : Sb K H b p ps ws)
    (k : ∀ w2 w4 H', LamX.ExtN H H' → LamX.Tabs (tabs K) H' → tz D [some (.ref b), some (.ref p), w2, w3, w4] H') : tSeq (tFor (iList K tSix) (gName 4) (tTurnW K)) tz D [some (.ref b), some (.ref p), w2, w3, w4] H := by
  refine tfor_E ?_
  refine ⟨by show 6 ≤ sizeLine; decide, fun lw hlw => ?_⟩
  have e2 : Ex H (upd H lw (.lst [.str "P", .str "Q", .str "R", .str "S", .str "T", .str "U"])) := Ex.new hlw
  have S2 := S.e e2
  have hw2 : upd H lw (.lst [.str "P", .str "Q", .str "R", .str "S", .str "T", .str "U"]) lw = some (.lst [.str "P", .str "Q", .str "R", .str "S", .str "T", .str "U"]) := upd_same
  generalize upd H lw (.lst [.str "P", .str "Q", .str "R", .str "S", .str "T", .str "U"]) = H2 at *
  refine ⟨lw, rfl, ⟨_, sq_of hw2⟩, ?_⟩
  refine for_list (D := { D with nx := tz D }) (xs := [.str "P", .str "Q", .str "R", .str "S", .str "T", .str "U"]) (fun i σ' H' => ∃ w2 w4, σ' = [some (.ref b), some (.ref p), w2, w3, w4] ∧ LamX.ExtN H2 H' ∧ LamX.Tabs (tabs K) H') ⟨_, _, rfl, LamX.ExtN.refl _, S2.tb⟩ ?_ ?_ ?_
  · rintro i σ' H' _ ⟨_, _, _, x, _⟩
    exact sq_of (x _ _ hw2 fun _ q => nomatch q)
  · rintro i x σ' H' hx ⟨w2, w4, rfl, x2, T2⟩
    obtain ⟨z, hz, rfl⟩ := wtx_at (ws := six) (x := x) (i := i) hx
    exact rd_turnW T (S2.xn x2 T2) fun w2' H3 x3 T3 => ⟨_, _, rfl, x2.trans x3, T3⟩
  · rintro σ' H3 ⟨w2, w4, rfl, x3, T3⟩
    exact k _ _ H3 ((LamX.ExtN.of e2).trans x3) T3
theorem rd_odds {H : Hp} {b p : Addr} {ps : List (Str × Addr)} {ws : List Str} {D : Ends} {tz : TS} {w2 w3 w4 : Option V} (S3 : Sb K H b p ps ws)
    (k : ∀ w3 H', LamX.ExtN H H' → LamX.Tabs (tabs K) H' → tz D [some (.ref b), some (.ref p), w2, w3, w4] H') : tSeq (tFor (iList K tOdd) (gName 3) (tTurnO K)) tz D [some (.ref b), some (.ref p), w2, w3, w4] H := by
  refine tfor_E ?_
  refine ⟨by show 1 ≤ sizeLine; decide, fun t1 ht1 => ⟨by show 1 ≤ sizeLine; decide, fun l1 hl1 => fun d1 hd1 => ⟨upd_same, [(.inr "P", .int 1)], rfl, by decide, by show 6 ≤ sizeLine; decide, fun lo hlo => ?_⟩⟩⟩
  have x1 : Ex H (upd H t1 (.tup [.str "P"])) := Ex.new ht1
  have y1 : upd H t1 (.tup [.str "P"]) t1 = some (.tup [.str "P"]) := upd_same
  generalize upd H t1 (.tup [.str "P"]) = A1 at *
  have x2 : Ex A1 (upd A1 l1 (.lst [.str "P"])) := Ex.new hl1
  have y2 : upd A1 l1 (.lst [.str "P"]) l1 = some (.lst [.str "P"]) := upd_same
  generalize upd A1 l1 (.lst [.str "P"]) = A2 at *
  have x3' : Ex A2 (upd (upd A2 d1 (.dK [])) d1 (.dK (mergeK [] [(.inr "P", .int 1)]))) := Ex.mut (Ex.new hd1) hd1
  have y3 : upd (upd A2 d1 (.dK [])) d1 (.dK (mergeK [] [(.inr "P", .int 1)])) d1 = some (.dK (mergeK [] [(.inr "P", .int 1)])) := upd_same
  generalize upd (upd A2 d1 (.dK [])) d1 (.dK (mergeK [] [(.inr "P", .int 1)])) = A3 at *
  have x4 : Ex A3 (upd A3 lo (.lst [.non, .int 0, .bl true, .ref t1, .ref l1, .ref d1])) := Ex.new hlo
  have y4 : upd A3 lo (.lst [.non, .int 0, .bl true, .ref t1, .ref l1, .ref d1]) lo = some (.lst [.non, .int 0, .bl true, .ref t1, .ref l1, .ref d1]) := upd_same
  generalize upd A3 lo (.lst [.non, .int 0, .bl true, .ref t1, .ref l1, .ref d1]) = A4 at *
  have x34 := x1.trans (x2.trans (x3'.trans x4))
  have S4 := S3.e x34
  refine ⟨lo, rfl, ⟨_, sq_of y4⟩, ?_⟩
  refine for_list (D := { D with nx := tz D }) (xs := [.non, .int 0, .bl true, .ref t1, .ref l1, .ref d1]) (fun i σ' H' => ∃ w3, σ' = [some (.ref b), some (.ref p), w2, w3, w4] ∧ LamX.ExtN A4 H' ∧ LamX.Tabs (tabs K) H') ⟨_, rfl, LamX.ExtN.refl _, S4.tb⟩ ?_ ?_ ?_
  · rintro i σ' H' _ ⟨_, _, x, _⟩
    exact sq_of (x _ _ y4 fun _ q => nomatch q)
  · rintro i x σ' H' hx ⟨w3, rfl, x5, T5⟩
    have S5 := S4.xn x5 T5
    have hn : NoS A4 x ∧ (flatV x = true ∨ ∃ a, x = .ref a) := by
      have hi := (List.getElem?_eq_some_iff.mp hx).1
      match i, hi, hx with
      | 0, _, hx => obtain rfl := Option.some.inj hx; exact ⟨.non, .inl rfl⟩
      | 1, _, hx => obtain rfl := Option.some.inj hx; exact ⟨.int _, .inl rfl⟩
      | 2, _, hx => obtain rfl := Option.some.inj hx; exact ⟨.bl _, .inl rfl⟩
      | 3, _, hx => obtain rfl := Option.some.inj hx; exact ⟨.tup ((x2.trans (x3'.trans x4)) _ _ y1), .inr ⟨_, rfl⟩⟩
      | 4, _, hx => obtain rfl := Option.some.inj hx; exact ⟨.lst ((x3'.trans x4) _ _ y2), .inr ⟨_, rfl⟩⟩
      | 5, _, hx => obtain rfl := Option.some.inj hx; exact ⟨.dK (x4 _ _ y3), .inr ⟨_, rfl⟩⟩
    exact rd_turnO S5 (hn.1.xn x5) hn.2 fun H6 x6 T6 => ⟨_, rfl, x5.trans x6, T6⟩
  · rintro σ' H5 ⟨w3, rfl, x5, T5⟩
    exact k _ H5 ((LamX.ExtN.of x34).trans x5) T5
theorem can_shown (T : Txt K mg) (TB : TabsOk K mg base) : Can P w K mg base CX0 9 "_law_shown_right" ["book", "words"] (spShown K) := by
  have FL := ok_blen (P := P) (w := w) (base := base) T
  have FH := ok_bhas (P := P) (w := w) (base := base) T
  have FG := ok_bget (P := P) (w := w) (base := base) T
  obtain ⟨fdN, FN, bN⟩ := ok_bnames (P := P) (w := w) (base := base) T
  obtain ⟨fdR, FR⟩ := T.F__law_told
  have bR := FR.binds (ps := ["deed"]) fun _ _ _ _ _ _ us hl => match us, hl with | [_], _ => rfl
  obtain ⟨ocR, odR, kVR, docR, pmR, anR, cdR, ctR, oslR, eR, lkR, hcR⟩ := FR.ex
  subst eR
  refine can_of T.g__law_shown_right T.F__law_shown_right (fun fd F => ?_) (fun _ _ _ _ _ _ us hl => match us, hl with | [_, _], _ => rfl)
  refine okC F sc__law_shown_right (fun vs H Q E h => ?_) (fun A outer s H vs Q E hr h => ?_)
  · obtain ⟨b, p, ps, ws, rfl, _⟩ := h
    rfl
  · obtain ⟨b, p, ps, ws, rfl, S, hl, fin⟩ := h
    have nd := sc__law_shown_right.nd
    refine ⟨_, pss_cons (ps_if (PW.pt (pw_or (pt_cmpR (op_ne_sameT hr) (pe_prop (pv 0) T.clsO T.pNames FN (hr.mono (by decide)) bN .nil pass0 rfl) (pe_callTy call_tuple_of (by rfl) T.n_tuple (by decide +kernel) (pa_cons (pv 1) pa_nil)) (nomark _))
          (pw_or1 (pt_cmpR op_ne (pe_callB (OwD.call_lenOwn T.dLen FL (hr.mono (by decide)) pass0) (by rfl) T.n_len PySem.boot_len (pa_cons (pv 0) pa_nil)) (pe_callB call_len_seq (by rfl) T.n_len PySem.boot_len (pa_cons (pv 1) pa_nil)) (nomark _))))) (pss_one (ps_ret pe_bl)) pss_nil)
      (pss_cons (ps_for PassesOwn.never rfl (pi_list (pe_lst (pa_cons pe_str (pa_cons pe_str (pa_cons pe_str (pa_cons pe_str (pa_cons pe_str (pa_cons pe_str pa_nil)))))))) (pg_name (i := 4) nd rfl (.inr rfl)) (?_ : PSs _ _ (tTurnW K)))
      (pss_cons (ps_for PassesOwn.never rfl (pi_list (pe_lst (pa_cons pe_non (pa_cons pe_int (pa_cons pe_bl (pa_cons (pe_tup (pa_cons pe_str pa_nil)) (pa_cons (pe_lst (pa_cons pe_str pa_nil)) (pa_cons (pe_disp (pps_cons pe_str pe_int pps_nil) (by rfl) (by rfl) (fun z => by cases z) (by decide)) pa_nil)))))))) (pg_name (i := 3) nd rfl (.inr rfl)) (?_ : PSs _ _ (tTurnO K)))
      (pss_one (ps_ret pe_bl)))), ?_⟩
    · refine pss_cons (ps_if (pt_cmpR op_ne (pe_cmpR (OwD.op_inOwn T.dHas FH (hr.mono (by decide)) pass0) (pv 4) (pv 0) rfl) (pe_cmpR op_in_seq (pv 4) (pv 1) rfl) (nomark _)) (pss_one (ps_ret pe_bl)) pss_nil)
        (pss_cons (ps_set (i := 2) nd rfl (.inl rfl) ?_)
        (pss_cons (ps_if (PW.pt (pw_and (pt_cmpR op_in_seq (pv 4) (pv 1) rfl) (pw_and1 (PW.pt (pw_or (pt_not (pt_val (pe_callB call_isi (by rfl) T.n_isinstance (by decide +kernel) (pa_cons (pv 2) (pa_cons (pe_bltn rfl T.n_list (v := .ty "list") (by decide +kernel) rfl) pa_nil))))) (pw_or1 (pt_cmpR op_ne (pe_fld (pe_ix ix_list (pv 2) pe_int (fun _ _ => rfl)) rfl) (pv 4) (nomark _)))))))) (pss_one (ps_ret pe_bl)) pss_nil)
        (pss_one (ps_if (PW.pt (pw_and (pt_cmpR op_notIn_seq (pv 4) (pv 1) rfl) (pw_and1 (pt_cmpR (op_ne_sameT hr) (pv 2) (pe_tup (pa_cons pe_str (pa_cons (pv 4) pa_nil))) (nomark _))))) (pss_one (ps_ret pe_bl)) pss_nil))))
      exact LamX.pe_lamcall (T := tabs K) (TT := TTold K) (k := 5) rfl T.g__law_told FR.kp lkR hcR bR sc__law_told rfl (.inl rfl) (told_gives T rfl rfl (hr.mono (by decide))) TB.b rfl (List.mem_cons.mpr (.inr (List.mem_cons.mpr (.inl (congrArg (Prod.mk _) (by rfl)))))) (fun p hp e => tabs_b TB hp e) (hr.mono (by decide)) (LamX.lamS_by (sc := defScope s__law_shown_right) (by decide +kernel)) rfl (fun _ _ _ _ _ => rfl)
        (fun A outer s H E f c' hr => OwD.ix_own T.dGet T.fGet FG (hr.mono (by decide)) (passes_call (takes_of rfl rfl rfl rfl) fun _ _ _ _ h => h) (fun v u => by with_unfolding_all rfl) (pv 0) (pv 4))
    · refine pss_one (ps_if (PW.pt (pw_or (pt_cmpR (OwD.op_inOwn T.dHas FH (hr.mono (by decide)) pass0) (pv 3) (pv 0) rfl) (pw_or1 (pt_cmpR (op_ne_sameT hr) ?_ (pe_tup (pa_cons pe_str (pa_cons (pv 3) pa_nil))) (nomark _))))) (pss_one (ps_ret pe_bl)) pss_nil)
      exact LamX.pe_lamcall (T := tabs K) (TT := TTold K) (k := 5) rfl T.g__law_told FR.kp lkR hcR bR sc__law_told rfl (.inl rfl) (told_gives T rfl rfl (hr.mono (by decide))) TB.b rfl (List.mem_cons.mpr (.inr (List.mem_cons.mpr (.inl (congrArg (Prod.mk _) (by rfl)))))) (fun p hp e => tabs_b TB hp e) (hr.mono (by decide)) (LamX.lamS_by (sc := defScope s__law_shown_right) (by decide +kernel)) rfl (fun _ _ _ _ _ => rfl)
        (fun A outer s H E f c' hr => OwD.ix_own T.dGet T.fGet FG (hr.mono (by decide)) (passes_call (takes_of rfl rfl rfl rfl) fun _ _ _ _ h => h) (fun v u => by with_unfolding_all rfl) (pv 0) (pv 3))
    · have hps : ps.length = ws.length := by rw [← S.nm, List.length_map]
      obtain ⟨dx, D, fs, h1, h2, h3⟩ := S.bk.o
      have hA : EvT (tTest (tOp (rNeST K) (tProp (kO K) (spBNames K) [] E0 (tVar 0)) (tCB (rTupOf K) (tCons (tVar 1) tNil)))) (start ["book", "words", "told", "odd", "word"] [.ref b, .ref p]) H false := fun H1 e Q q => by
        refine ⟨_, rfl, b, dx, fs, rfl, e _ _ h1, b, ps, rfl, S.bk.ex e, fun t H2 ht e2 h2' => ?_⟩
        refine ⟨_, rfl, p, wtx ws, rfl, .inl ⟨sq_of ((e.trans e2) _ _ S.wl), fun l hl => ?_⟩⟩
        refine ⟨t, l, wtx ws, rfl, rfl, st_of ?_, st_of upd_same, fun z hz => .inl ?_, _, rfl, q _ (e2.trans (Ex.new hl))⟩
        · rw [upd_ne (ne_of_none h2' hl), h2', S.nm]
        · obtain ⟨y, _, rfl⟩ := List.mem_map.mp hz
          rfl
      have hB : Ev (tCB (OwD.rLenO (kO K) (spBLen K) E0) (tCons (tVar 0) tNil)) (start ["book", "words", "told", "odd", "word"] [.ref b, .ref p]) H (.int (ws.length : Nat)) := fun H1 e Q q => by
        refine ⟨_, rfl, b, dx, fs, rfl, e _ _ h1, b, ps, rfl, S.bk.ex e, fun H2 e2 => ⟨_, rfl, by omega, by omega, ?_⟩⟩
        rw [hps]
        exact q H2 e2
      refine q_when (b := false) (et_is (et_or (a := false) (b := false) hA fun _ => et_is (et_test (ev_op hB (Evl.ev_is (ev_len (ev_var rfl) (sq_of S.wl)) (by rw [List.length_map])) (rv_ne rfl))) (by simp)) rfl) (fun h => by cases h) fun _ H1 e1 => ?_
      have S1 := S.e e1
      refine rd_words T S1 fun w2 w4 H3 x3 T3 => ?_
      have S3 := S1.xn x3 T3
      refine rd_odds S3 fun w3 H5 x5 T5 => ?_
      exact fin H5 ((LamX.ExtN.of e1).trans (x3.trans x5)) T5
end
end K52
end

section
set_option Elab.async false
set_option linter.all false
set_option maxRecDepth 100000
set_option maxHeartbeats 4000000
namespace K52
open PySem PySem.Spec PyProof.Rows L2 He Cn Evl
/-- the draws change these two only -/
def Fr2 (dm gm : Addr) (H H' : Hp) : Prop := ∀ b o, H b = some o → b ≠ dm → b ≠ gm → H' b = some o
theorem mat_ex {H H' : Hp} {d c g : Addr} {sp : Int} (e : Ex H H') (M : MAt H d c g sp) : MAt H' d c g sp := by
  obtain ⟨q1, ⟨cs, lc, bc, q2⟩, ⟨ys, ly, q3⟩, q4⟩ := M
  exact ⟨e _ _ q1, ⟨cs, lc, bc, e _ _ q2⟩, ⟨ys, ly, e _ _ q3⟩, q4⟩
theorem mat_xn {H H' : Hp} {d c g : Addr} {sp : Int} (x : LamX.ExtN H H') (M : MAt H d c g sp) : MAt H' d c g sp := by
  obtain ⟨q1, ⟨cs, lc, bc, q2⟩, ⟨ys, ly, q3⟩, q4⟩ := M
  exact ⟨x _ _ q1 (fun _ z => nomatch z), ⟨cs, lc, bc, x _ _ q2 (fun _ z => nomatch z)⟩, ⟨ys, ly, x _ _ q3 (fun _ z => nomatch z)⟩, q4⟩
/-- the tables stand through a draw -/
theorem tabs_fr {T : List (Addr × Str)} {H H' : Hp} {dm c gm : Addr} {sp : Int} (M : MAt H dm c gm sp) (f : Fr2 dm gm H H') (t : LamX.Tabs T H) : LamX.Tabs T H' := by
  obtain ⟨q1, _, ⟨ys, _, q3⟩, _⟩ := M
  have keep : ∀ b o, H b = some o → (∀ kvs, o ≠ .dK kvs) → (∀ xs, o ≠ .lst xs) → H' b = some o := fun b o h h1 h2 => f b o h
    (fun z => by rw [z, q1] at h; exact h1 _ (Option.some.inj h).symm) (fun z => by rw [z, q3] at h; exact h2 _ (Option.some.inj h).symm)
  intro pr hpr
  obtain ⟨ps, h1, h2, h3⟩ := t pr hpr
  refine ⟨ps, keep _ _ h1 (fun _ z => nomatch z) (fun _ z => nomatch z), h2, fun pos cv hc => ?_⟩
  obtain ⟨c, ec, hcc⟩ := h3 pos cv hc
  exact ⟨c, ec, keep _ _ hcc (fun _ z => nomatch z) (fun _ z => nomatch z)⟩
def TbK (H H' : Hp) : Prop := ∀ b o, H b = some o → (∀ kvs, o ≠ .dK kvs) → (∀ xs, o ≠ .lst xs) → H' b = some o
theorem tabs_k {T : List (Addr × Str)} {H H' : Hp} (keep : TbK H H') (t : LamX.Tabs T H) : LamX.Tabs T H' := by
  intro pr hpr
  obtain ⟨ps, h1, h2, h3⟩ := t pr hpr
  refine ⟨ps, keep _ _ h1 (fun _ z => nomatch z) (fun _ z => nomatch z), h2, fun pos cv hc => ?_⟩
  obtain ⟨c, ec, hcc⟩ := h3 pos cv hc
  exact ⟨c, ec, keep _ _ hcc (fun _ z => nomatch z) (fun _ z => nomatch z)⟩
theorem tbk_lst {H : Hp} {p : Addr} {xs : List V} {u : HO} (h : H p = some (.lst xs)) : TbK H (upd H p u) := fun b o hb _ h2 => by
  rw [upd_ne (fun z => by rw [z, h] at hb; exact h2 _ (Option.some.inj hb).symm)]
  exact hb
section
variable {dm gm c : Addr} {H H1 H2 : Hp} {sp : Int}
theorem fr2_ex (e : Ex H H1) : Fr2 dm gm H H1 := fun b o h _ _ => e b o h
theorem Fr2.trans (a : Fr2 dm gm H H1) (b : Fr2 dm gm H1 H2) : Fr2 dm gm H H2 := fun x o h h1 h2 => b x o (a x o h h1 h2) h1 h2
theorem MAt.dm_ne {p : Addr} (M : MAt H dm c gm sp) (hp : H p = none) : p ≠ dm := fun q => by rw [q, M.ob] at hp; cases hp
theorem MAt.gm_ne {p : Addr} (M : MAt H dm c gm sp) (hp : H p = none) : p ≠ gm := fun q => by
  obtain ⟨gs', _, q5⟩ := M.great
  rw [q, q5] at hp; cases hp
theorem MAt.c_ne {p : Addr} (M : MAt H dm c gm sp) (hp : H p = none) : p ≠ c := fun q => by
  obtain ⟨gs', _, _, q5⟩ := M.cells
  rw [q, q5] at hp; cases hp
theorem MAt.mut {p : Addr} {o : HO} (M : MAt H dm c gm sp) (h1 : p ≠ dm) (h2 : p ≠ gm) (h3 : p ≠ c) : MAt (upd H p o) dm c gm sp := by
  obtain ⟨q1, ⟨cs, lc, bc, q2⟩, ⟨ys, ly, q3⟩, q4⟩ := M
  exact ⟨by rw [upd_ne h1.symm]; exact q1, ⟨cs, lc, bc, by rw [upd_ne h3.symm]; exact q2⟩, ⟨ys, ly, by rw [upd_ne h2.symm]; exact q3⟩, q4⟩
end
section
variable {K : PySem.W.Frag} {mg : Str → Option Value} {dm gm c : Addr} {H H1 H2 : Hp} {sp : Int}
def GoodW (ws : List Str) : Prop := ∀ z, z ∈ ws → z = "" ∨ goodName z = true
def tSev : TE := tLst (tCons (tC (.str "P")) (tCons (tC (.str "Q")) (tCons (tC (.str "R")) (tCons (tC (.str "S")) (tCons (tC (.str "T")) (tCons (tC (.str "U")) (tCons (tC (.str "")) tNil)))))))
def sev : List Str := ["P", "Q", "R", "S", "T", "U", ""]
theorem good_sev {j : Nat} {z : Str} (h : sev[j]? = some z) : z = "" ∨ goodName z = true := by
  have hj := (List.getElem?_eq_some_iff.mp h).1
  match j, hj, h with
  | 0, _, h => obtain rfl := Option.some.inj h; exact .inr (by decide +kernel)
  | 1, _, h => obtain rfl := Option.some.inj h; exact .inr (by decide +kernel)
  | 2, _, h => obtain rfl := Option.some.inj h; exact .inr (by decide +kernel)
  | 3, _, h => obtain rfl := Option.some.inj h; exact .inr (by decide +kernel)
  | 4, _, h => obtain rfl := Option.some.inj h; exact .inr (by decide +kernel)
  | 5, _, h => obtain rfl := Option.some.inj h; exact .inr (by decide +kernel)
  | 6, _, h => obtain rfl := Option.some.inj h; exact .inl rfl
def tWords (K : PySem.W.Frag) : TE := tLc (iRng1 (tCons (tC (.int 4)) tNil)) (gName 13) tYes (tOp (rIxL K) tSev (tCall spDraw [] E0 (tCons (tVar 1) (tCons (tC (.int 7)) tNil)))) [13]
theorem rd_words4 {D : Ends} {tz : TS} {va v2 v3 v4 v5 v6 v7 v8 v9 v10 v11 v12 : Option V} (M : MAt H dm c gm sp) (s0 : 0 ≤ sp) (s1 : sp < 300000) (hT : LamX.Tabs (tabs K) H)
    (k : ∀ (pw : Addr) (ws : List Str) (H' : Hp) (sp' : Int), H' pw = some (.lst (wtx ws)) → ws.length = 4 → GoodW ws → MAt H' dm c gm sp' → sp ≤ sp' → sp' ≤ sp + 10 → LamX.Tabs (tabs K) H' → tz D [va, some (.ref dm), v2, some (.ref pw), v4, v5, v6, v7, v8, v9, v10, v11, v12, none] H') :
    tSeq (tAsg (tWords K) (gName 3)) tz D [va, some (.ref dm), v2, v3, v4, v5, v6, v7, v8, v9, v10, v11, v12, none] H := by
  refine ⟨4, rfl, by decide, by decide, fun Dl hD => ?_⟩
  have D1 := M.dm_ne hD
  have D2 := M.gm_ne hD
  have D3 := M.c_ne hD
  refine lc_range (lo := 0) (n := 4) (fun i H' => ∃ (ws : List Str) (sp' : Int), H' Dl = some (.lst (wtx ws)) ∧ ws.length = i ∧ GoodW ws ∧ MAt H' dm c gm sp' ∧ sp ≤ sp' ∧ sp' ≤ sp + (i : Int) ∧ LamX.Tabs (tabs K) H') ⟨[], sp, upd_same, rfl, (fun z h => by cases h), M.mut D1 D2 D3, by omega, by omega, hT.ext (Ex.new hD)⟩ ?_ ?_
  · rintro i H' hi ⟨ws, sp', h1, hl, hg, M', a1, a2, T'⟩
    refine ⟨rfl, yes_then ?_⟩
    refine ⟨by show 7 ≤ sizeLine; decide, fun l hl' => ⟨_, rfl, dm, c, gm, sp', 7, rfl, mat_ex (Ex.new hl') M', by omega, by omega, by decide, by decide, fun r H2 r0 r1 M2 f2 => ?_⟩⟩
    obtain ⟨j, rfl⟩ : ∃ j : Nat, r = (j : Int) := ⟨r.toNat, by omega⟩
    obtain ⟨z, hz⟩ := at_some (l := sev) (i := j) (by show j < 7; omega)
    have hz' : (wtx sev)[j]? = some (.str z) := by rw [List.getElem?_map, hz]; rfl
    have f02 : Fr2 dm gm H' H2 := (fr2_ex (Ex.new hl')).trans f2
    have h2 := f02 _ _ h1 D1 D2
    refine ⟨l, wtx sev, (j : Int), .str z, rfl, rfl, sq_of (f2 l _ upd_same (M'.dm_ne hl') (M'.gm_ne hl')), at_of (j := j) rfl hz', wtx ws, h2, sz_lt (by rw [List.length_map]; omega), ws ++ [z], sp' + 1, ?_, by rw [List.length_append, hl]; rfl, fun y hy => ?_, M2.mut D1 D2 D3, by omega, by omega, tabs_k (tbk_lst h2) (tabs_fr M' f02 T')⟩
    · rw [upd_same]
      unfold wtx
      rw [List.map_append]
      rfl
    · rcases List.mem_append.mp hy with hy | hy
      · exact hg y hy
      · rw [List.mem_singleton.mp hy]
        exact good_sev hz
  · rintro H' ⟨ws, sp', h1, hl, hg, M', a1, a2, T'⟩
    exact k Dl ws H' sp' h1 hl hg M' a1 (by omega) T'
theorem perm_wtx {ys : List V} {r : List Str} (h : ys.Perm (wtx r)) : ∃ zs, ys = wtx zs ∧ zs.Perm r := by
  let f : V → Str := fun v => match v with
    | .str z => z
    | _ => ""
  have e1 : (wtx r).map f = r := by
    unfold wtx
    rw [List.map_map]
    conv => rhs; rw [← List.map_id r]
    apply List.map_congr_left
    intro x _
    rfl
  refine ⟨ys.map f, ?_, ?_⟩
  · unfold wtx
    rw [List.map_map]
    conv => lhs; rw [← List.map_id ys]
    apply List.map_congr_left
    intro v hv
    obtain ⟨n, _, rfl⟩ := List.mem_map.mp (h.mem_iff.mp hv)
    rfl
  · have := h.map f
    rw [e1] at this
    exact this
def tTwoUp (K : PySem.W.Frag) (tl : TE) : TE := tSl (rSlL K) (tCall (spUp K) [] E0 (tCons (tVar 1) (tCons tl tNil))) tNoPart (tPart (tC (.int 2)))
/-- two words of a list, in some order -/
theorem rd_twoUp {σ : L2.St} {tl : TE} {ws : List Str} {Q : VK} (v1 : σ[1]? = some (some (.ref dm))) (hl : EvL tl σ H (wtx ws)) (h2 : 2 ≤ ws.length) (h9 : ws.length ≤ 9) (hnd : ws.Nodup) (hg : ∀ z, z ∈ ws → goodName z = true) (M : MAt H dm c gm sp) (s0 : 0 ≤ sp) (s1 : sp < 300000)
    (k : ∀ (pn : Addr) (z1 z2 : Str) (H' : Hp) (sp' : Int), z1 ≠ z2 → goodName z1 = true → goodName z2 = true → H pn = none → H' pn = some (.lst (wtx [z1, z2])) → Fr2 dm gm H H' → MAt H' dm c gm sp' → sp ≤ sp' → sp' ≤ sp + 10 → Q (.ref pn) H') : tTwoUp K tl σ H Q := by
  refine ⟨_, v1, ?_⟩
  refine hl H (Ex.refl H) _ fun p1 H1 hp1 e1 h1 => ?_
  refine ⟨dm, c, gm, p1, sp, wtx ws, rfl, mat_ex e1 M, s0, by omega, sq_of h1, by rw [List.length_map]; omega, fun py ys H4 hperm hpy M4 h4 f4 => ?_⟩
  rw [List.length_map] at M4
  obtain ⟨zs, rfl, hz⟩ := perm_wtx hperm
  have zl := hz.length_eq
  obtain ⟨z1, z2, r, rfl⟩ : ∃ a b r, zs = a :: b :: r := by
    match zs, (show 2 ≤ zs.length by omega) with
    | a :: b :: r, _ => exact ⟨a, b, r, rfl⟩
  have hn := hz.nodup_iff.mpr hnd
  refine ⟨2, rfl, py, _, rfl, sq_of h4, fun pc hpc => ?_⟩
  have ec : cutV (wtx (z1 :: z2 :: r)) none (some (2 : Int)) = wtx [z1, z2] := by
    rw [show (2 : Int) = ((2 : Nat) : Int) from rfl, cut_take]
    rfl
  rw [ec]
  have fr : Fr2 dm gm H H4 := (fr2_ex e1).trans f4
  have pcH : H pc = none := by
    cases q : H pc with
    | none => rfl
    | some u =>
      by_cases y1 : pc = dm
      · rw [y1, M4.ob] at hpc; cases hpc
      · by_cases y2 : pc = gm
        · obtain ⟨gs', _, q5⟩ := M4.great
          rw [y2, q5] at hpc; cases hpc
        · rw [fr pc u q y1 y2] at hpc; cases hpc
  refine k pc z1 z2 _ (sp + (ws.length : Int)) (fun q => ?_) (hg z1 (hz.mem_iff.mp (by simp))) (hg z2 (hz.mem_iff.mp (by simp))) pcH upd_same (fr.trans (fr2_ex (Ex.new hpc))) (mat_ex (Ex.new hpc) M4) (by omega) (by omega)
  have := (List.nodup_cons.mp hn).1
  rw [q] at this
  exact this (List.mem_cons_self ..)
theorem mk_kindQ {x dx : Addr} {z : Str} {Q2 : VK} {E : XK} (hz : goodName z = true) (hx : H1 x = none) (hdx : H1 dx = none) (hne : dx ≠ x) (k : ∀ H', Ex H1 H' → NmK K H' x z → Q2 .non H') : spInit1 K [.ref x, .str z] (upd (upd H1 dx (.own x)) x (.ins (kC K) dx [])) Q2 E := by
  have e : Ex H1 (upd (upd H1 dx (.own x)) x (.ins (kC K) dx [])) := (Ex.new hdx).trans (Ex.new (by rw [upd_ne hne.symm]; exact hx))
  refine ⟨x, dx, z, rfl, hz, upd_same, fun H' M N f => ?_⟩
  obtain ⟨fs, h1, h2⟩ := N
  exact k H' (fun c u hc => f c u (e _ _ hc) (ne_of_none hc hx)) ⟨dx, fs, h1, h2⟩
def tKnd (K : PySem.W.Frag) (te : TE) : TE := StX.tMakeR (kC K) (spInit1 K) E0 (tCons te tNil)
def tBk2 (K : PySem.W.Frag) (j : Nat) : TE := StX.tMakeR (kO K) (spBInit K) E0 (tCons (tKnd K (tOp (rIxL K) (tVar j) (tC (.int 0)))) (tCons (tKnd K (tOp (rIxL K) (tVar j) (tC (.int 1)))) tNil))
theorem ths2 {H : Hp} {a1 a2 : Addr} {z1 z2 : Str} (h1 : NmK K H a1 z1) (h2 : NmK K H a2 z2) : ThsR K H [.ref a1, .ref a2] ([(z1, a1), (z2, a2)].map some) := by
  have := ths_of (K := K) (H := H) (ps := [(z1, a1), (z2, a2)]) fun p hp => by
    rcases List.mem_cons.mp hp with rfl | hp
    · exact h1
    · rw [List.mem_singleton.mp hp]
      exact h2
  exact this
theorem rd_bk2 (T : Txt K mg) {σ : L2.St} {j : Nat} {pj : Addr} {z1 z2 : Str} {Q : VK} (hj : σ[j]? = some (some (.ref pj))) (hp : H pj = some (.lst (wtx [z1, z2]))) (hne : z1 ≠ z2) (g1 : goodName z1 = true) (g2 : goodName z2 = true)
    (k : ∀ (b : Addr) (ps : List (Str × Addr)) (H' : Hp), H b = none → Ex H H' → BkAt K H' b ps → ps.map Prod.fst = [z1, z2] → Q (.ref b) H') : tBk2 K j σ H Q := by
  refine ⟨_, hj, pj, _, 0, .str z1, rfl, rfl, sq_of hp, at_of (j := 0) rfl rfl, ?_⟩
  intro a1 d1 ha1 hd1 hn1
  refine mk_kindQ g1 ha1 hd1 hn1 fun H1 e1 N1 => ⟨rfl, ?_⟩
  refine ⟨_, hj, pj, _, 1, .str z2, rfl, rfl, sq_of (e1 _ _ hp), at_of (j := 1) rfl rfl, ?_⟩
  intro a2 d2 ha2 hd2 hn2
  refine mk_kindQ g2 ha2 hd2 hn2 fun H2 e2 N2 => ⟨rfl, ?_⟩
  have hf : fbad ([(z1, a1), (z2, a2)].map some) [] 0 = none := by
    show (if z1 ∈ [] then some 0 else (if z2 ∈ ([] ++ [z1] : List Str) then some 1 else none)) = none
    rw [if_neg (by simp), if_neg (by simp; exact fun q => hne q.symm)]
  refine mk_book (ths2 (N1.ex e2) N2) (by show 2 ≤ 100; decide) (fun i hi => by rw [hf] at hi; cases hi) fun ps h1 h2 b H' hb e3 B => ?_
  obtain rfl := map_some_inj h2
  exact k b _ H' (fresh_back (e1.trans e2) hb) ((e1.trans e2).trans e3) B rfl
end
end K52
end

section
set_option Elab.async false
set_option linter.all false
set_option maxRecDepth 100000
set_option maxHeartbeats 4000000
namespace K52
open PySem PySem.Spec PyProof.Rows L2 He Cn Evl
section
variable {K : PySem.W.Frag} {mg : Str → Option Value} {H H1 H2 : Hp}
theorem et_notN {σ : L2.St} {te : TE} {x : V} (h : Ev te σ H x) : EvT (tB (tNotN te)) σ H (!decide (x = .non)) := fun H1 e Q q => h H1 e _ fun H2 e2 => ⟨_, rfl, q H2 e2⟩
theorem et_sameI {σ : L2.St} {r : Addr} {x : V} {i : Nat} {tx : TE} (hi : σ[i]? = some (some (.ref r))) (hx : Ev tx σ H x) (hr : H r = some (.tup [.str "InvalidBook", x])) (fx : flatV x = true) : EvT (tTest (tOp (rNeST K) (tVar i) (tTup (tCons (tC (.str "InvalidBook")) (tCons tx tNil))))) σ H false := fun H1 e Q q => by
  refine ⟨_, hi, ?_⟩
  refine hx H1 e _ fun H2 e2 => ⟨by show 2 ≤ sizeLine; decide, fun t ht => ⟨r, t, [.str "InvalidBook", x], rfl, rfl, st_of ?_, st_of upd_same, fun z hz => ?_, _, rfl, q _ (e2.trans (Ex.new ht))⟩⟩
  · exact (Ex.new ht) _ _ (e2 _ _ (e _ _ hr))
  · rcases List.mem_cons.mp hz with rfl | hz
    · exact .inl rfl
    · rw [List.mem_singleton.mp hz]
      exact .inl fx
theorem Outc.xn {r : Addr} {ws : List Str} (x : LamX.ExtN H H1) (h : Outc K H r ws) : Outc K H1 r ws := by
  unfold Outc at h ⊢
  revert h
  cases ffst ws [] 0 with
  | some i => exact fun h => x _ _ h fun _ q => nomatch q
  | none =>
    rintro ⟨b, ps, h1, h2, h3⟩
    exact ⟨b, ps, x _ _ h1 (fun _ q => nomatch q), h2.xn x, h3⟩
theorem Outc.e {r : Addr} {ws : List Str} (x : Ex H H1) (h : Outc K H r ws) : Outc K H1 r ws := h.xn (LamX.ExtN.of x)
def tShow (K : PySem.W.Frag) (tb tw : TE) : TT := tNot (tB (tCall (spShown K) [] E0 (tCons tb (tCons tw tNil))))
/-- _law_shown_right(book, words) is True -/
theorem rd_show {σ : L2.St} {tb tw : TE} {ws : List Str} {R : Bool → Hp → Prop} (hT : LamX.Tabs (tabs K) H) (hl : ws.length ≤ 100)
    (hb : ∀ QV : VK, (∀ b ps H1, Ex H H1 → BkAt K H1 b ps → ps.map Prod.fst = ws → QV (.ref b) H1) → tb σ H QV)
    (hw : ∀ H1, Ex H H1 → ∀ QV : VK, (∀ p H2, Ex H1 H2 → H2 p = some (.lst (wtx ws)) → QV (.ref p) H2) → tw σ H1 QV)
    (k : ∀ H', LamX.ExtN H H' → LamX.Tabs (tabs K) H' → R false H') : tShow K tb tw σ H R := by
  refine hb _ fun b ps H1 e1 B1 hnm => ?_
  refine hw H1 e1 _ fun p H2 e2 h2 => ?_
  refine ⟨b, p, ps, ws, rfl, ⟨B1.ex e2, h2, hnm, hT.ext (e1.trans e2)⟩, hl, fun H3 x3 T3 => ⟨true, rfl, ?_⟩⟩
  exact k H3 ((LamX.ExtN.of (e1.trans e2)).trans x3) T3
def tChk1 (K : PySem.W.Frag) (jt js : Nat) : TS := tIfS (tAnd (tB (tNotN (tVar js))) (tTest (tOp (rNeST K) (tVar jt) (tTup (tCons (tC (.str "InvalidBook")) (tCons (tVar js) tNil)))))) tNo tNext
def tChk2 (K : PySem.W.Frag) (jt js : Nat) (tw : TE) : TS := tIfS (tAnd (tB (tIsN (tVar js))) (tOr (tNot (tB (tCB (rIsi K) (tCons (tVar jt) (tCons (tC (.ty "list")) tNil))))) (tShow K (tOp (rIxL K) (tVar jt) (tC (.int 0))) tw))) tNo tNext
theorem rd_chk {σ : L2.St} {jt js : Nat} {tw : TE} {r : Addr} {ws : List Str} {D : Ends} {tz : TS} (h1 : σ[jt]? = some (some (.ref r))) (h2 : σ[js]? = some (some (outF (ffst ws [] 0)))) (O : Outc K H r ws) (hT : LamX.Tabs (tabs K) H) (hl : ws.length ≤ 100)
    (hw : ∀ H1, Ex H H1 → ∀ QV : VK, (∀ p H2, Ex H1 H2 → H2 p = some (.lst (wtx ws)) → QV (.ref p) H2) → tw σ H1 QV)
    (k : ∀ H', LamX.ExtN H H' → LamX.Tabs (tabs K) H' → tz D σ H') : tSeq (tChk1 K jt js) (tSeq (tChk2 K jt js tw) tz) D σ H := by
  unfold Outc at O
  unfold tChk1 tChk2
  revert h2 O
  cases ffst ws [] 0 with
  | some i =>
    intro h2 O
    have h2 : σ[js]? = some (some (.int (i : Nat))) := h2
    refine q_when (b := false) (et_is (et_and (a := true) (b := false) (et_is (et_notN (x := .int (i : Nat)) (ev_var h2)) (by simp)) fun _ => et_sameI h1 (ev_var h2) O rfl) rfl) (fun h => by cases h) fun _ H3 e3 => ?_
    refine q_when (b := false) (et_is (et_and (a := false) (b := false) (et_is (et_isN (x := .int (i : Nat)) (ev_var h2)) (by simp)) fun h => by cases h) rfl) (fun h => by cases h) fun _ H4 e4 => ?_
    exact k H4 (LamX.ExtN.of (e3.trans e4)) (hT.ext (e3.trans e4))
  | none =>
    rintro h2 ⟨b, ps, hr, B, hn⟩
    have h2 : σ[js]? = some (some .non) := h2
    refine q_when (b := false) (et_is (et_and (a := false) (b := false) (et_is (et_notN (x := .non) (ev_var h2)) rfl) fun h => by cases h) rfl) (fun h => by cases h) fun _ H3 e3 => ?_
    refine tSeq_nx ?_
    have hN : EvT (tB (tIsN (tVar js))) σ H3 true := et_is (et_isN (x := .non) (ev_var h2)) rfl
    unfold tIfS tAnd
    refine hN H3 (Ex.refl H3) _ fun H4 e4 => ?_
    refine iteT ?_
    have hI : EvT (tNot (tB (tCB (rIsi K) (tCons (tVar jt) (tCons (tC (.ty "list")) tNil))))) σ H4 false := et_is (et_not (a := true) (et_B (ev_cb (ea_cons (ev_var h1) (ea_cons ev_c ea_nil)) fun H5 e5 Q q => ⟨.ref r, .ty "list", .type "list", .type "list", true, rfl, .ty _, .base (.lst (e5 _ _ (e4 _ _ (e3 _ _ hr)))), kit_ty (by decide +kernel), q H5 (Ex.refl H5)⟩))) rfl
    unfold tOr
    refine hI H4 (Ex.refl H4) _ fun H5 e5 => ?_
    refine iteF ?_
    have c5 := e3.trans (e4.trans e5)
    refine rd_show (hT.ext c5) hl (fun QV q => ⟨_, h1, r, [.ref b], 0, .ref b, rfl, rfl, sq_of (c5 _ _ hr), at_of (j := 0) rfl rfl, q b ps H5 (Ex.refl _) (B.ex c5) hn⟩) (fun H6 e6 QV q => hw H6 (c5.trans e6) QV q) fun H7 x7 T7 => ?_
    refine iteF ?_
    exact k H7 ((LamX.ExtN.of c5).trans x7) T7
end
end K52
end

section
set_option Elab.async false
set_option linter.all false
set_option maxRecDepth 100000
set_option maxHeartbeats 4000000
namespace K52
open PySem PySem.Spec PyProof.Rows L2 He Cn Evl
section
variable {K : PySem.W.Frag} {mg : Str → Option Value} {H H1 H2 : Hp}
theorem good_ne {z : Str} (h : goodName z = true) : nmOf z = some z := by
  unfold nmOf
  rw [if_neg fun q => ?_]
  rw [q] at h
  revert h
  decide +kernel
theorem names_nm {ps : List (Str × Addr)} {ws : List Str} (h : ps.map Prod.fst = ws) (hg : ∀ z, z ∈ ws → goodName z = true) : (ps.map some).map (Option.map Prod.fst) = ws.map nmOf := by
  subst h
  rw [List.map_map, List.map_map]
  apply List.map_congr_left
  intro p hp
  show some p.1 = nmOf p.1
  exact (good_ne (hg p.1 (List.mem_map.mpr ⟨p, hp, rfl⟩))).symm
theorem fbad_nodup {ps : List (Str × Addr)} : ∀ {seen : List Str} {i : Nat}, (ps.map Prod.fst).Nodup → (∀ p, p ∈ ps → p.1 ∉ seen) → fbad (ps.map some) seen i = none := by
  induction ps with
  | nil => exact fun _ _ => rfl
  | cons p ps ih =>
    intro seen i hn hs
    obtain ⟨w, a⟩ := p
    rw [List.map_cons] at hn
    obtain ⟨h1, h2⟩ := List.nodup_cons.mp hn
    show (if w ∈ seen then some i else fbad (ps.map some) (seen ++ [w]) (i + 1)) = none
    rw [if_neg (hs (w, a) (List.mem_cons_self ..))]
    refine ih h2 fun q hq hm => ?_
    rcases List.mem_append.mp hm with hm | hm
    · exact hs q (List.mem_cons_of_mem _ hq) hm
    · exact h1 (List.mem_map.mpr ⟨q, hq, List.mem_singleton.mp hm⟩)
def tAddT (K : PySem.W.Frag) : TE := LamX.tLam (tabs K) (TTold K) fun E => tOp (OwD.rAddO (kO K) (spBAdd K) E) (tVar 11) (tVar 12)
/-- one + two, told -/
theorem rd_add {σ : L2.St} {a b : Addr} {ps qs : List (Str × Addr)} {ws : List Str} {Q : VK} (B1 : BkAt K H a ps) (B2 : BkAt K H b qs) (hz : ps.length + qs.length ≤ 100) (hw : (ps ++ qs).map Prod.fst = ws) (hg : ∀ z, z ∈ ws → goodName z = true) (hT : LamX.Tabs (tabs K) H)
    (h1 : σ[11]? = some (some (.ref a))) (h2 : σ[12]? = some (some (.ref b))) (k : ∀ r H', LamX.ExtN H H' → LamX.Tabs (tabs K) H' → Outc K H' r ws → Q (.ref r) H') : tAddT K σ H Q := by
  have hff := fbad_ffst (seen := []) (i := 0) (names_nm hw hg)
  refine ⟨hT, fun H1 x1 T1 H2 e2 => ?_⟩
  have C1 := (B1.xn x1).ex e2
  have C2 := (B2.xn x1).ex e2
  obtain ⟨dx, D, fs, y1, _⟩ := C1.o
  obtain ⟨dy, D', gs, y2, _⟩ := C2.o
  refine ⟨_, h1, _, h2, a, dx, fs, b, dy, gs, rfl, rfl, y1, y2, a, b, ps, qs, rfl, C1, C2, hz, fun i hi d H3 hd e3 h3 => .inl ⟨rfl, d, _, rfl, h3, fun t H4 ht e4 h4 => ?_⟩, fun hf c H3 hc e3 B => ⟨⟨_, rfl⟩, fun l hl => ?_⟩⟩
  · have e24 := e2.trans (e3.trans e4)
    refine k t H4 (x1.trans (LamX.ExtN.of e24)) (T1.ext e24) ?_
    unfold Outc
    rw [← hff, hi]
    exact h4
  · have e5 : Ex H3 (upd H3 l (.lst [.ref c])) := Ex.new hl
    have e25 := e2.trans (e3.trans e5)
    refine k l _ (x1.trans (LamX.ExtN.of e25)) (T1.ext e25) ?_
    unfold Outc
    rw [← hff, hf]
    exact ⟨c, ps ++ qs, upd_same, B.ex e5, hw⟩
def tOddT (K : PySem.W.Frag) : TE := LamX.tLam (tabs K) (TTold K) fun E => StX.tMakeR (kO K) (spBInit K) E (tCons (tKnd K (tC (.str "A"))) (tCons (tC .non) (tCons (tC (.int 7)) tNil)))
theorem good_A : goodName "A" = true := by decide +kernel
theorem rd_oddT {σ : L2.St} {Q : VK} (hT : LamX.Tabs (tabs K) H) (k : ∀ r H', LamX.ExtN H H' → LamX.Tabs (tabs K) H' → H' r = some (.tup [.str "InvalidBook", .int 1]) → Q (.ref r) H') : tOddT K σ H Q := by
  refine ⟨hT, fun H1 x1 T1 H2 e2 => ?_⟩
  intro a d ha hd hne
  refine mk_kindQ good_A ha hd hne fun H3 e3 N => ⟨rfl, ?_⟩
  have hR : ThsR K H3 [.ref a, .non, .int 7] [some (("A" : Str), a), none, none] := by
    refine ⟨rfl, fun i x t hx ht => ?_⟩
    have hi := (List.getElem?_eq_some_iff.mp hx).1
    match i, hi, hx, ht with
    | 0, _, hx, ht => obtain rfl := Option.some.inj hx; obtain rfl := Option.some.inj ht; exact .kd N
    | 1, _, hx, ht => obtain rfl := Option.some.inj hx; obtain rfl := Option.some.inj ht; exact .non
    | 2, _, hx, ht => obtain rfl := Option.some.inj hx; obtain rfl := Option.some.inj ht; exact .int 7
  have hf : fbad [some (("A" : Str), a), none, none] [] 0 = some 1 := by
    show (if ("A" : Str) ∈ ([] : List Str) then some 0 else some 1) = some 1
    rw [if_neg (by simp)]
  refine mk_book (Q := fun v H' => ∀ l, H' l = none → Q (.ref l) (upd H' l (.lst [v]))) hR (by show 3 ≤ 100; decide) (fun i hi => ?_) fun ps h1 _ _ _ _ _ _ => by rw [hf] at h1; cases h1
  rw [hf] at hi
  obtain rfl := Option.some.inj hi
  intro d2 H4 hd2 e4 h4
  refine .inl ⟨rfl, d2, _, rfl, h4, fun t H5 ht e5 h5 => ?_⟩
  have e25 := e2.trans (e3.trans (e4.trans e5))
  exact k t H5 (x1.trans (LamX.ExtN.of e25)) (T1.ext e25) h5
theorem mk_bookQ {x dx : Addr} {xs : List V} {ts : List Tg} {Q2 : VK} {E : XK} (hR : ThsR K H1 xs ts) (hz : ts.length ≤ 100) (hx : H1 x = none) (hdx : H1 dx = none) (hne : dx ≠ x) (err : ∀ i, fbad ts [] 0 = some i → XErr (kB K) "spot" H1 (.int (i : Nat)) E)
    (fin : ∀ ps : List (Str × Addr), fbad ts [] 0 = none → ts = ps.map some → ∀ H', Ex H1 H' → BkAt K H' x ps → Q2 .non H') : spBInit K (.ref x :: xs) (upd (upd H1 dx (.own x)) x (.ins (kO K) dx [])) Q2 E := by
  have e : Ex H1 (upd (upd H1 dx (.own x)) x (.ins (kO K) dx [])) := (Ex.new hdx).trans (Ex.new (by rw [upd_ne hne.symm]; exact hx))
  exact ⟨x, dx, xs, ts, rfl, upd_same, hR.ex e, hz, fun i hi => (err i hi).mono e, fun ps h1 h2 H' B f => fin ps h1 h2 H' (fun c u hc => f c u (e _ _ hc) (ne_of_none hc hx)) B⟩
def tTwoNil (K : PySem.W.Frag) : TE := tOp (OwD.rAddO (kO K) (spBAdd K) E0) (tVar 12) (StX.tMakeR (kO K) (spBInit K) E0 tNil)
theorem ths0 : ThsR K H [] [] := ⟨rfl, fun i x t h => by simp at h⟩
theorem rd_twoNil {σ : L2.St} {b : Addr} {ps : List (Str × Addr)} {Q : VK} (h12 : σ[12]? = some (some (.ref b))) (B : BkAt K H b ps) (hz : ps.length ≤ 50) (k : ∀ c qs H', Ex H H' → BkAt K H' c qs → qs.map Prod.fst = ps.map Prod.fst → Q (.ref c) H') : tTwoNil K σ H Q := by
  refine ⟨_, h12, ?_⟩
  intro c0 d0 hc hd0 hne0
  refine mk_bookQ (ts := []) ths0 (by decide) hc hd0 hne0 (fun i hi => by cases hi) fun qs h1 h2 H1 e1 B0 => ⟨rfl, ?_⟩
  have hq : qs = [] := by
    cases qs with
    | nil => rfl
    | cons a r => cases h2
  subst hq
  have B1 := B.ex e1
  obtain ⟨dx, D, fs, y1, _⟩ := B1.o
  obtain ⟨dy, D', gs, y2, _⟩ := B0.o
  have hf : fbad ((ps ++ []).map some) [] 0 = none := by
    rw [List.append_nil]
    exact fbad_nodup B.nd fun p _ => by simp
  refine ⟨b, dx, fs, c0, dy, gs, rfl, rfl, y1, y2, b, c0, ps, [], rfl, B1, B0, by simp; omega, (fun i hi => by rw [hf] at hi; cases hi), fun _ c H2 hc2 e2 B2 => ⟨⟨_, rfl⟩, ?_⟩⟩
  exact k c (ps ++ []) H2 (e1.trans e2) B2 (by rw [List.append_nil])
end
end K52
end

section
set_option Elab.async false
set_option linter.all false
set_option maxRecDepth 100000
set_option maxHeartbeats 4000000
namespace K52
open PySem PySem.Spec PyProof.Rows L2 He Cn Evl
section
variable {K : PySem.W.Frag} {mg : Str → Option Value} {dm gm c : Addr} {H : Hp} {sp : Int}
def tFourW : TE := tLst (tCons (tC (.str "P")) (tCons (tC (.str "Q")) (tCons (tC (.str "R")) (tCons (tC (.str "S")) tNil))))
def tFiveW : TE := tLst (tCons (tC (.str "P")) (tCons (tC (.str "Q")) (tCons (tC (.str "R")) (tCons (tC (.str "S")) (tCons (tC (.str "T")) tNil)))))
def four : List Str := ["P", "Q", "R", "S"]
def five : List Str := ["P", "Q", "R", "S", "T"]
theorem el_four {σ : L2.St} {H : Hp} : EvL tFourW σ H (wtx four) := el_lst (ea_cons ev_c (ea_cons ev_c (ea_cons ev_c (ea_cons ev_c ea_nil)))) (by decide)
theorem el_five {σ : L2.St} {H : Hp} : EvL tFiveW σ H (wtx five) := el_lst (ea_cons ev_c (ea_cons ev_c (ea_cons ev_c (ea_cons ev_c (ea_cons ev_c ea_nil))))) (by decide)
theorem good_five : ∀ z, z ∈ five → goodName z = true := by
  have : (five.all fun z => goodName z) = true := by decide +kernel
  exact fun z hz => List.all_eq_true.mp this z hz
theorem good_four : ∀ z, z ∈ four → goodName z = true := fun z hz => good_five z (by
  unfold four at hz
  unfold five
  simp only [List.mem_cons] at hz ⊢
  rcases hz with h | h | h | h | h
  · exact .inl h
  · exact .inr (.inl h)
  · exact .inr (.inr (.inl h))
  · exact .inr (.inr (.inr (.inl h)))
  · cases h)
theorem par_E {ta tb : TE} {i j : Nat} {tz : TS} {D : Ends} {σ : L2.St} {H : Hp} (h : ta σ H fun x H1 => tb σ H1 fun y H2 => ∃ v w, [x, y] = [v, w] ∧ tz D ((σ.set i (some v)).set j (some w)) H2) : tSeq (tPar i j (tCons ta (tCons tb tNil))) tz D σ H := h
theorem tup2_E {ta tb : TE} {σ : L2.St} {H : Hp} {Q : VK} (h : ta σ H fun x H1 => tb σ H1 fun y H2 => 2 ≤ sizeLine ∧ ∀ p, H2 p = none → Q (.ref p) (upd H2 p (.tup [x, y]))) : tTup (tCons ta (tCons tb tNil)) σ H Q := h
def tBout (K : PySem.W.Frag) : TS := tSeq (tAsg (tWords K) (gName 3))
  (tSeq (tPar 4 5 (tCons (tCall (spMade K) [] E0 (tCons (tVar 3) tNil)) (tCons (tCall (spFirst K) [] E0 (tCons (tVar 3) tNil)) tNil)))
  (tSeq (tChk1 K 4 5) (tSeq (tChk2 K 4 5 (tVar 3))
  (tSeq (tAsg (tTwoUp K tFourW) (gName 6)) (tSeq (tAsg (tTwoUp K tFiveW) (gName 7))
  (tSeq (tAsg (tTup (tCons (tBk2 K 6) (tCons (tBk2 K 7) tNil))) (gTup K 2 (gCons (gName 11) (gCons (gName 12) gNil))))
  (tSeq (tPar 8 5 (tCons (tAddT K) (tCons (tCall (spFirst K) [] E0 (tCons (tOp rCat (tVar 6) (tVar 7)) tNil)) tNil)))
  (tSeq (tChk1 K 8 5) (tSeq (tChk2 K 8 5 (tOp rCat (tVar 6) (tVar 7)))
  (tSeq (tIfS (tOr (tShow K (tVar 11) (tVar 6)) (tShow K (tTwoNil K) (tVar 7))) tNo tNext)
  (tIfS (tTest (tOp (rNeST K) (tOddT K) (tTup (tCons (tC (.str "InvalidBook")) (tCons (tC (.int 1)) tNil))))) tNo tNext)))))))))))
theorem rd_bout (T : Txt K mg) {D : Ends} {va v2 v3 v4 v5 v6 v7 v8 v9 v10 v11 v12 : Option V} (M : MAt H dm c gm sp) (s0 : 0 ≤ sp) (s1 : sp < 200000) (hT : LamX.Tabs (tabs K) H)
    (k : ∀ (w3 w4 w5 w6 w7 w8 w11 w12 : Option V) (H' : Hp) (sp' : Int), MAt H' dm c gm sp' → sp ≤ sp' → sp' ≤ sp + 100 → LamX.Tabs (tabs K) H' → D.nx [va, some (.ref dm), v2, w3, w4, w5, w6, w7, w8, v9, v10, w11, w12, none] H') :
    tBout K D [va, some (.ref dm), v2, v3, v4, v5, v6, v7, v8, v9, v10, v11, v12, none] H := by
  unfold tBout
  refine rd_words4 M s0 (by omega) hT fun pw ws H1 sp1 hpw hl4 hg M1 a1 a2 T1 => ?_
  refine ⟨_, rfl, pw, ws, rfl, hpw, hl4, hg, T1, fun r H2 x2 T2 O2 => ?_⟩
  have hpw2 := x2 _ _ hpw (fun _ q => nomatch q)
  refine ⟨_, rfl, pw, ws, rfl, sq_of hpw2, by omega, fun H4 e34 => ⟨_, _, rfl, ?_⟩⟩
  have M4 := mat_ex e34 (mat_xn x2 M1)
  have hpw4 := e34 _ _ hpw2
  show tSeq (tChk1 K 4 5) _ D [va, some (.ref dm), v2, some (.ref pw), some (.ref r), some (outF (ffst ws [] 0)), v6, v7, v8, v9, v10, v11, v12, none] H4
  refine rd_chk rfl rfl (O2.e e34) (T2.ext e34) (by omega) (fun H5 e5 QV q => ⟨_, rfl, q pw H5 (Ex.refl _) (e5 _ _ hpw4)⟩) fun H5 x5 T5 => ?_
  have M5 := mat_xn x5 M4
  -- near, far
  refine q_asgE ?_
  refine rd_twoUp rfl el_four (by decide) (by decide) (by decide +kernel) good_four M5 (by omega) (by omega) fun pn z1 z2 H6 sp6 hz gz1 gz2 hpn h6 f6 M6 b1 b2 => ?_
  have T6 : LamX.Tabs (tabs K) H6 := tabs_fr M5 f6 T5
  show tSeq (tAsg (tTwoUp K tFiveW) (gName 7)) _ D [va, some (.ref dm), v2, some (.ref pw), some (.ref r), some (outF (ffst ws [] 0)), some (.ref pn), v7, v8, v9, v10, v11, v12, none] H6
  refine q_asgE ?_
  refine rd_twoUp rfl el_five (by decide) (by decide) (by decide +kernel) good_five M6 (by omega) (by omega) fun pf y1 y2 H7 sp7 hy gy1 gy2 hpf h7 f7 M7 c1 c2 => ?_
  have T7 : LamX.Tabs (tabs K) H7 := tabs_fr M6 f7 T6
  have hn7 := f7 _ _ h6 (M5.dm_ne hpn) (M5.gm_ne hpn)
  -- one, two
  show tSeq (tAsg (tTup (tCons (tBk2 K 6) (tCons (tBk2 K 7) tNil))) (gTup K 2 (gCons (gName 11) (gCons (gName 12) gNil)))) _ D [va, some (.ref dm), v2, some (.ref pw), some (.ref r), some (outF (ffst ws [] 0)), some (.ref pn), some (.ref pf), v8, v9, v10, v11, v12, none] H7
  refine q_asgE ?_
  refine tup2_E ?_
  refine rd_bk2 (j := 6) (σ := [va, some (.ref dm), v2, some (.ref pw), some (.ref r), some (outF (ffst ws [] 0)), some (.ref pn), some (.ref pf), v8, v9, v10, v11, v12, none]) T rfl hn7 hz gz1 gz2 fun b1 ps1 H8 hb1 e8 B1 n1 => ?_
  refine rd_bk2 (j := 7) (σ := [va, some (.ref dm), v2, some (.ref pw), some (.ref r), some (outF (ffst ws [] 0)), some (.ref pn), some (.ref pf), v8, v9, v10, v11, v12, none]) T rfl (e8 _ _ h7) hy gy1 gy2 fun b2 ps2 H9 hb2 e9 B2 n2 => ?_
  refine ⟨by show 2 ≤ sizeLine; decide, fun tq htq => ⟨tq, _, rfl, st_of upd_same, rfl, _, _, rfl, _, _, rfl, rfl, ?_⟩⟩
  have e10 : Ex H9 (upd H9 tq (.tup [.ref b1, .ref b2])) := Ex.new htq
  generalize upd H9 tq (.tup [.ref b1, .ref b2]) = H10 at *
  have e710 := e8.trans (e9.trans e10)
  have M10 := mat_ex e710 M7
  have T10 := T7.ext e710
  have hn10 := e710 _ _ hn7
  have hf10 := e710 _ _ h7
  have B1' := B1.ex (e9.trans e10)
  have B2' := B2.ex e10
  have l1 : ps1.length = 2 := by
    have := congrArg List.length n1
    rw [List.length_map] at this
    exact this
  have l2 : ps2.length = 2 := by
    have := congrArg List.length n2
    rw [List.length_map] at this
    exact this
  have hgw : ∀ z, z ∈ [z1, z2, y1, y2] → goodName z = true := fun z hz' => by
    simp only [List.mem_cons, List.not_mem_nil, or_false] at hz'
    rcases hz' with rfl | rfl | rfl | rfl
    · exact gz1
    · exact gz2
    · exact gy1
    · exact gy2
  -- both, spot
  show tSeq (tPar 8 5 (tCons (tAddT K) (tCons (tCall (spFirst K) [] E0 (tCons (tOp rCat (tVar 6) (tVar 7)) tNil)) tNil))) _ D [va, some (.ref dm), v2, some (.ref pw), some (.ref r), some (outF (ffst ws [] 0)), some (.ref pn), some (.ref pf), v8, v9, v10, some (.ref b1), some (.ref b2), none] H10
  refine par_E ?_
  refine rd_add (ws := [z1, z2, y1, y2]) B1' B2' (by omega) (by rw [List.map_append, n1, n2]; rfl) hgw T10 rfl rfl fun r2 H11 x11 T11 O11 => ?_
  have hn11 := x11 _ _ hn10 (fun _ q => nomatch q)
  have hf11 := x11 _ _ hf10 (fun _ q => nomatch q)
  refine ⟨_, rfl, _, rfl, pn, pf, _, _, rfl, rfl, hn11, hf11, by show 2 + 2 ≤ sizeLine; decide, fun pc hpc => ?_⟩
  have e12 : Ex H11 (upd H11 pc (.lst (wtx [z1, z2] ++ wtx [y1, y2]))) := Ex.new hpc
  have h12c : upd H11 pc (.lst (wtx [z1, z2] ++ wtx [y1, y2])) pc = some (.lst (wtx [z1, z2, y1, y2])) := upd_same
  generalize upd H11 pc (.lst (wtx [z1, z2] ++ wtx [y1, y2])) = H12 at *
  refine ⟨pc, [z1, z2, y1, y2], rfl, sq_of h12c, by show 4 ≤ 100; decide, fun H14 e14 => ⟨_, _, rfl, ?_⟩⟩
  have e1114 := e12.trans e14
  have hn14 := e1114 _ _ hn11
  have hf14 := e1114 _ _ hf11
  have x1014 : LamX.ExtN H10 H14 := x11.trans (LamX.ExtN.of e1114)
  show tSeq (tChk1 K 8 5) _ D [va, some (.ref dm), v2, some (.ref pw), some (.ref r), some (outF (ffst [z1, z2, y1, y2] [] 0)), some (.ref pn), some (.ref pf), some (.ref r2), v9, v10, some (.ref b1), some (.ref b2), none] H14
  refine rd_chk (ws := [z1, z2, y1, y2]) rfl rfl (O11.e e1114) (T11.ext e1114) (by show 4 ≤ 100; decide) (fun H15 e15 QV q => ⟨_, rfl, _, rfl, pn, pf, _, _, rfl, rfl, e15 _ _ hn14, e15 _ _ hf14, by show 2 + 2 ≤ sizeLine; decide, fun pd hpd => q pd _ (Ex.new hpd) upd_same⟩) fun H15 x15 T15 => ?_
  have x1015 := x1014.trans x15
  have hn15 := x15 _ _ hn14 (fun _ q => nomatch q)
  have hf15 := x15 _ _ hf14 (fun _ q => nomatch q)
  -- both books shown
  refine tSeq_nx ?_
  unfold tIfS tOr
  refine rd_show (ws := [z1, z2]) T15 (by show 2 ≤ 100; decide) (fun QV q => ⟨_, rfl, q b1 ps1 H15 (Ex.refl _) (B1'.xn x1015) n1⟩) (fun H16 e16 QV q => ⟨_, rfl, q pn H16 (Ex.refl _) (e16 _ _ hn15)⟩) fun H16 x16 T16 => ?_
  refine iteF ?_
  have hf16 := x16 _ _ hf15 (fun _ q => nomatch q)
  have x1016 := x1015.trans x16
  refine rd_show (ws := [y1, y2]) T16 (by show 2 ≤ 100; decide) (fun QV q => rd_twoNil rfl (B2'.xn x1016) (by omega) fun c0 qs H17 e17 B hq => q c0 qs H17 e17 B (by rw [hq, n2])) (fun H17 e17 QV q => ⟨_, rfl, q pf H17 (Ex.refl _) (e17 _ _ hf16)⟩) fun H17 x17 T17 => ?_
  refine iteF ?_
  -- Book(Kind("A"), None, 7)
  show tIfS (tTest (tOp (rNeST K) (tOddT K) (tTup (tCons (tC (.str "InvalidBook")) (tCons (tC (.int 1)) tNil))))) tNo tNext D [va, some (.ref dm), v2, some (.ref pw), some (.ref r), some (outF (ffst [z1, z2, y1, y2] [] 0)), some (.ref pn), some (.ref pf), some (.ref r2), v9, v10, some (.ref b1), some (.ref b2), none] H17
  unfold tIfS
  refine rd_oddT T17 fun r3 H18 x18 T18 h18 => ?_
  refine ⟨by show 2 ≤ sizeLine; decide, fun tz htz => ⟨r3, tz, [.str "InvalidBook", .int 1], rfl, rfl, st_of ((Ex.new htz) _ _ h18), st_of upd_same, fun z hz' => ?_, _, rfl, ?_⟩⟩
  · rcases List.mem_cons.mp hz' with rfl | hz'
    · exact .inl rfl
    · rw [List.mem_singleton.mp hz']
      exact .inl rfl
  · refine iteF ?_
    have xf : LamX.ExtN H10 (upd H18 tz (.tup [.str "InvalidBook", .int 1])) := x1016.trans (x17.trans (x18.trans (LamX.ExtN.of (Ex.new htz))))
    exact k _ _ _ _ _ _ _ _ _ sp7 (mat_xn xf M10) (by omega) (by omega) (T18.ext (Ex.new htz))
end
end K52
end

section
set_option Elab.async false
set_option linter.all false
set_option maxRecDepth 100000
set_option maxHeartbeats 4000000
namespace K52
open PySem PySem.Spec PyProof.Rows L2 He Cn Evl
section
variable {K : PySem.W.Frag} {mg : Str → Option Value} {H : Hp}
theorem lst1_E {te : TE} {σ : L2.St} {Q : VK} (h : te σ H fun v H1 => 1 ≤ sizeLine ∧ ∀ l, H1 l = none → Q (.ref l) (upd H1 l (.lst [v]))) : tLst (tCons te tNil) σ H Q := h
theorem q_appE {te : TE} {tz : TS} {D : Ends} {σ : L2.St} {j : Nat} {l : Addr} {xs : List V} (vj : σ[j]? = some (some (.ref l))) (hl : SqL K H l xs)
    (h : te σ H fun v H1 => ∃ ys, H1 l = some (.lst ys) ∧ ys.length < sizeLine ∧ tz D σ (upd H1 l (.lst (ys ++ [v])))) : tSeq (tDrop (tBM K "list" rAppend (tVar j) (tCons te tNil))) tz D σ H := by
  refine ⟨_, vj, .inl ⟨rfl, _, hl⟩, ?_⟩
  have key : te σ H fun v H1 => ∃ (l' : Addr) (ys : List V) (v' : V), V.ref l = .ref l' ∧ [v] = [v'] ∧ H1 l' = some (.lst ys) ∧ ys.length < sizeLine ∧ tz D σ (upd H1 l' (.lst (ys ++ [v']))) := by
    have e : (fun (v : V) (H1 : Hp) => ∃ ys, H1 l = some (.lst ys) ∧ ys.length < sizeLine ∧ tz D σ (upd H1 l (.lst (ys ++ [v])))) = (fun v H1 => ∃ (l' : Addr) (ys : List V) (v' : V), V.ref l = .ref l' ∧ [v] = [v'] ∧ H1 l' = some (.lst ys) ∧ ys.length < sizeLine ∧ tz D σ (upd H1 l' (.lst (ys ++ [v'])))) := by
      funext v H1
      refine propext ⟨fun ⟨ys, a, b, c⟩ => ⟨l, ys, v, rfl, rfl, a, b, c⟩, fun ⟨l', ys, v', e1, e2, a, b, c⟩ => ?_⟩
      injection e1 with e1
      injection e2 with e2
      subst e1
      subst e2
      exact ⟨ys, a, b, c⟩
    rw [e] at h
    exact h
  exact key
/-- a book of the one kind -/
def tBk1 (K : PySem.W.Frag) : TE := StX.tMakeR (kO K) (spBInit K) E0 (tCons (tVar 10) tNil)
def tBk0 (K : PySem.W.Frag) : TE := StX.tMakeR (kO K) (spBInit K) E0 tNil
theorem ths1 {a : Addr} {z : Str} (N : NmK K H a z) : ThsR K H [.ref a] ([(z, a)].map some) := ths_of (K := K) (H := H) (ps := [(z, a)]) fun p hp => by
  rw [List.mem_singleton.mp hp]
  exact N
theorem rd_bk1 {σ : L2.St} {a : Addr} {Q : VK} (h10 : σ[10]? = some (some (.ref a))) (N : NmK K H a "A") (k : ∀ b H', Ex H H' → BkAt K H' b [(("A" : Str), a)] → Q (.ref b) H') : tBk1 K σ H Q := by
  refine ⟨_, h10, ?_⟩
  intro x dx hx hdx hne
  have hf : fbad ([(("A" : Str), a)].map some) [] 0 = none := fbad_nodup (by simp) fun p _ => by simp
  refine mk_bookQ (ths1 N) (by show 1 ≤ 100; decide) hx hdx hne (fun i hi => by rw [hf] at hi; cases hi) fun ps h1 h2 H' e B => ⟨rfl, ?_⟩
  obtain rfl := map_some_inj h2
  exact k x H' e B
theorem rd_bk0 {σ : L2.St} {Q : VK} (k : ∀ b H', Ex H H' → BkAt K H' b [] → Q (.ref b) H') : tBk0 K σ H Q := by
  intro x dx hx hdx hne
  refine mk_bookQ (ts := []) ths0 (by decide) hx hdx hne (fun i hi => by cases hi) fun ps h1 h2 H' e B => ⟨rfl, ?_⟩
  have hq : ps = [] := by
    cases ps with
    | nil => rfl
    | cons a r => cases h2
  subst hq
  exact k x H' e B
def tOneT (K : PySem.W.Frag) : TE := LamX.tLam (tabs K) (TTold K) fun E => StX.tMakeR (kO K) (spBInit K) E (tCons (tVar 10) (tCons (tVar 10) tNil))
def tPlusT (K : PySem.W.Frag) : TE := LamX.tLam (tabs K) (TTold K) fun E => tOp (OwD.rAddO (kO K) (spBAdd K) E) (tBk1 K) (tBk1 K)
theorem fbad_two {a b : Addr} : fbad ([(("A" : Str), a), ("A", b)].map some) [] 0 = some 1 := by
  show (if ("A" : Str) ∈ ([] : List Str) then some 0 else (if ("A" : Str) ∈ ([] ++ [("A" : Str)] : List Str) then some 1 else none)) = some 1
  rw [if_neg (by simp), if_pos (by simp)]
theorem rd_oneT {σ : L2.St} {a : Addr} {Q : VK} (h10 : σ[10]? = some (some (.ref a))) (N : NmK K H a "A") (hT : LamX.Tabs (tabs K) H) (k : ∀ r H', LamX.ExtN H H' → LamX.Tabs (tabs K) H' → H' r = some (.tup [.str "InvalidBook", .int 1]) → Q (.ref r) H') : tOneT K σ H Q := by
  refine ⟨hT, fun H1 x1 T1 H2 e2 => ?_⟩
  have N2 := (N.xn x1).ex e2
  refine ⟨_, h10, _, h10, ?_⟩
  intro x dx hx hdx hne
  have hR : ThsR K H2 [.ref a, .ref a] ([(("A" : Str), a), ("A", a)].map some) := ths2 N2 N2
  refine mk_bookQ hR (by show 2 ≤ 100; decide) hx hdx hne (fun i hi => ?_) fun ps h1 _ _ _ _ => by rw [fbad_two] at h1; cases h1
  rw [fbad_two] at hi
  obtain rfl := Option.some.inj hi
  intro d2 H4 hd2 e4 h4
  refine .inl ⟨rfl, d2, _, rfl, h4, fun t H5 ht e5 h5 => ?_⟩
  have e25 := e2.trans (e4.trans e5)
  exact k t H5 (x1.trans (LamX.ExtN.of e25)) (T1.ext e25) h5
theorem op_E {r : R2} {ta tb : TE} {σ : L2.St} {H : Hp} {Q : VK} (h : ta σ H fun x H1 => tb σ H1 fun y H2 => r x y H2 Q) : tOp r ta tb σ H Q := h
theorem rd_plusT {σ : L2.St} {a : Addr} {Q : VK} (h10 : σ[10]? = some (some (.ref a))) (N : NmK K H a "A") (hT : LamX.Tabs (tabs K) H) (k : ∀ r H', LamX.ExtN H H' → LamX.Tabs (tabs K) H' → H' r = some (.tup [.str "InvalidBook", .int 1]) → Q (.ref r) H') : tPlusT K σ H Q := by
  refine ⟨hT, fun H1 x1 T1 H2 e2 => ?_⟩
  have N2 := (N.xn x1).ex e2
  refine op_E ?_
  refine rd_bk1 h10 N2 fun b1 H3 e3 B1 => ?_
  refine rd_bk1 h10 (N2.ex e3) fun b2 H4 e4 B2 => ?_
  have B1' := B1.ex e4
  obtain ⟨dx, D, fs, y1, _⟩ := B1'.o
  obtain ⟨dy, D', gs, y2, _⟩ := B2.o
  have hf : fbad (([(("A" : Str), a)] ++ [(("A" : Str), a)]).map some) [] 0 = some 1 := fbad_two
  refine ⟨b1, dx, fs, b2, dy, gs, rfl, rfl, y1, y2, b1, b2, _, _, rfl, B1', B2, by show 1 + 1 ≤ 100; decide, fun i hi d H5 hd e5 h5 => ?_, fun hn => by rw [hf] at hn; cases hn⟩
  rw [hf] at hi
  obtain rfl := Option.some.inj hi
  refine .inl ⟨rfl, d, _, rfl, h5, fun t H6 ht e6 h6 => ?_⟩
  have e26 := e2.trans (e3.trans (e4.trans (e5.trans e6)))
  exact k t H6 (x1.trans (LamX.ExtN.of e26)) (T1.ext e26) h6
def tEnd1 (K : PySem.W.Frag) : TS := tIfS (tTest (tOp (rNeD K) (tVar 9) (tOp rRep (tLst (tCons (tTup (tCons (tC (.str "InvalidBook")) (tCons (tC (.int 1)) tNil))) tNil)) (tC (.int 2))))) tNo tNext
def tEnd2 (K : PySem.W.Frag) : TS := tRet (tAndV (tOp (IdQ.rEqS (kC K)) (tOp (OwD.rSubO (kO K) (spBGet K) E0) (tBk1 K) (tC (.str "A"))) (tVar 10)) (tAndV (tOp (rEqD K) (tProp (kO K) (spBNames K) [] E0 (tBk0 K)) (tTup tNil)) (tOp rEq (tCB (OwD.rLenO (kO K) (spBLen K) E0) (tCons (tBk0 K) tNil)) (tC (.int 0)))))
def tEnd (K : PySem.W.Frag) : TS := tSeq (tAsg (tKnd K (tC (.str "A"))) (gName 10)) (tSeq (tAsg (tLst (tCons (tOneT K) tNil)) (gName 9)) (tSeq (tDrop (tBM K "list" rAppend (tVar 9) (tCons (tPlusT K) tNil))) (tSeq (tEnd1 K) (tEnd2 K))))
def dOne : PyData := .tuple [.str "InvalidBook", .int 1]
theorem dp_one {t : Addr} (h : H t = some (.tup [.str "InvalidBook", .int 1])) : Dp K H (.ref t) dOne := .tup (st_of h) (.cons (.str _) (.cons (.int _) .nil))
theorem rd_end {D : Ends} {va v1 v2 v3 v4 v5 v6 v7 v8 v9 v10 v11 v12 : Option V} (hT : LamX.Tabs (tabs K) H) (fin : ∀ H', D.rt (.bl true) H') : tEnd K D [va, v1, v2, v3, v4, v5, v6, v7, v8, v9, v10, v11, v12, none] H := by
  unfold tEnd
  refine q_asgE ?_
  unfold tKnd
  intro a d ha hd hne
  refine mk_kindQ good_A ha hd hne fun H1 e1 N => ⟨rfl, ?_⟩
  have T1 := hT.ext e1
  show tSeq (tAsg (tLst (tCons (tOneT K) tNil)) (gName 9)) _ D [va, v1, v2, v3, v4, v5, v6, v7, v8, v9, some (.ref a), v11, v12, none] H1
  refine q_asgE (lst1_E ?_)
  refine rd_oneT rfl N T1 fun r1 H2 x2 T2 h2 => ⟨by show 1 ≤ sizeLine; decide, fun l hl => ?_⟩
  have e3 : Ex H2 (upd H2 l (.lst [.ref r1])) := Ex.new hl
  have h3l : upd H2 l (.lst [.ref r1]) l = some (.lst [.ref r1]) := upd_same
  generalize upd H2 l (.lst [.ref r1]) = H3 at *
  have N3 := (N.xn x2).ex e3
  have h3r := e3 _ _ h2
  show tSeq (tDrop (tBM K "list" rAppend (tVar 9) (tCons (tPlusT K) tNil))) _ D [va, v1, v2, v3, v4, v5, v6, v7, v8, some (.ref l), some (.ref a), v11, v12, none] H3
  refine q_appE rfl (sq_of h3l) ?_
  refine rd_plusT rfl N3 (T2.ext e3) fun r2 H4 x4 T4 h4 => ⟨[.ref r1], x4 _ _ h3l (fun _ q => nomatch q), by show 1 < sizeLine; decide, ?_⟩
  have h4l := x4 _ _ h3l (fun _ q => nomatch q)
  have N4 := (N3.xn x4).mut (u := .lst ([.ref r1] ++ [.ref r2])) h4l
  have h5l : upd H4 l (.lst ([.ref r1] ++ [.ref r2])) l = some (.lst [.ref r1, .ref r2]) := upd_same
  have h5r : upd H4 l (.lst ([.ref r1] ++ [.ref r2])) r1 = some (.tup [.str "InvalidBook", .int 1]) := by
    rw [upd_ne (ne_of (x4 _ _ h3r (fun _ q => nomatch q)) h4l (by intro q; cases q))]
    exact x4 _ _ h3r (fun _ q => nomatch q)
  have h5s : upd H4 l (.lst ([.ref r1] ++ [.ref r2])) r2 = some (.tup [.str "InvalidBook", .int 1]) := by
    rw [upd_ne (ne_of h4 h4l (by intro q; cases q))]
    exact h4
  generalize upd H4 l (.lst ([.ref r1] ++ [.ref r2])) = H5 at *
  -- found
  refine tSeq_nx ?_
  unfold tEnd1 tIfS
  refine ⟨_, rfl, by show 2 ≤ sizeLine; decide, fun t ht => ⟨by show 1 ≤ sizeLine; decide, fun l2 hl2 => ⟨l2, 2, [.ref t], rfl, rfl, upd_same, by decide, by decide, by show 1 * 2 ≤ sizeLine; decide, fun l3 hl3 => ?_⟩⟩⟩
  have c1 : Ex H5 (upd H5 t (.tup [.str "InvalidBook", .int 1])) := Ex.new ht
  have c2 : Ex (upd H5 t (.tup [.str "InvalidBook", .int 1])) (upd (upd H5 t (.tup [.str "InvalidBook", .int 1])) l2 (.lst [.ref t])) := Ex.new hl2
  have c3 : Ex (upd (upd H5 t (.tup [.str "InvalidBook", .int 1])) l2 (.lst [.ref t])) (upd (upd (upd H5 t (.tup [.str "InvalidBook", .int 1])) l2 (.lst [.ref t])) l3 (.lst [.ref t, .ref t])) := Ex.new hl3
  have c13 := c1.trans (c2.trans c3)
  have k1 := (c2.trans c3) _ _ (upd_same : upd H5 t (.tup [.str "InvalidBook", .int 1]) t = _)
  have k3 : upd (upd (upd H5 t (.tup [.str "InvalidBook", .int 1])) l2 (.lst [.ref t])) l3 (.lst [.ref t, .ref t]) l3 = some (.lst [.ref t, .ref t]) := upd_same
  refine ⟨.list [dOne, dOne], .list [dOne, dOne], .lst (sq_of (c13 _ _ h5l)) (.cons (dp_one (c13 _ _ h5r)) (.cons (dp_one (c13 _ _ h5s)) .nil)), .lst (sq_of k3) (.cons (dp_one k1) (.cons (dp_one k1) .nil)), by decide +kernel, by decide +kernel, false, by decide +kernel, ?_⟩
  refine iteF ?_
  have N6 := N4.ex c13
  show tEnd2 K D [va, v1, v2, v3, v4, v5, v6, v7, v8, some (.ref l), some (.ref a), v11, v12, none] (upd (upd (upd H5 t (.tup [.str "InvalidBook", .int 1])) l2 (.lst [.ref t])) l3 (.lst [.ref t, .ref t]))
  generalize upd (upd (upd H5 t (.tup [.str "InvalidBook", .int 1])) l2 (.lst [.ref t])) l3 (.lst [.ref t, .ref t]) = H6 at *
  -- the answer
  unfold tEnd2 tRet tAndV
  refine op_E (op_E ?_)
  refine rd_bk1 rfl N6 fun b1 H7 e7 B1 => ?_
  obtain ⟨dx, Dd, fs, y1, _⟩ := B1.o
  refine ⟨b1, dx, fs, rfl, y1, b1, .str "A", _, rfl, B1, .inl ⟨"A", rfl, fun hq => absurd (by simp) hq, fun a' ha' H8 e8 => ?_⟩⟩
  have ea : a' = a := by
    have := List.mem_singleton.mp ha'
    injection this
  subst ea
  obtain ⟨dk, gs, z1, _⟩ := N6.ex (e7.trans e8)
  refine ⟨_, rfl, a', dk, gs, rfl, rfl, z1, true, rfl, iteT ?_⟩
  refine op_E ?_
  unfold tProp
  refine rd_bk0 fun b2 H9 e9 B2 => ?_
  obtain ⟨dx2, D2, fs2, y2, _⟩ := B2.o
  refine ⟨b2, dx2, fs2, rfl, y2, b2, [], rfl, B2, fun tn H10 htn e10 h10 => ⟨by show 0 ≤ sizeLine; decide, fun t0 ht0 => ⟨.tuple [], .tuple [], .tup (st_of ((Ex.new ht0) _ _ h10)) .nil, .tup (st_of upd_same) .nil, by decide +kernel, by decide +kernel, true, by decide +kernel, iteT ?_⟩⟩⟩
  refine op_E ?_
  have hB : ∀ {σ : L2.St} {H : Hp} {Q : VK}, (∀ H', Q (.int 0) H') → tCB (OwD.rLenO (kO K) (spBLen K) E0) (tCons (tBk0 K) tNil) σ H Q := fun {σ H Q} q => by
    show tBk0 K σ H fun v H1 => OwD.rLenO (kO K) (spBLen K) E0 [v] H1 Q
    refine rd_bk0 (σ := σ) fun b3 H11 e11 B3 => ?_
    obtain ⟨dx3, D3, fs3, y3, _⟩ := B3.o
    exact ⟨b3, dx3, fs3, rfl, y3, b3, [], rfl, B3, fun H12 e12 => ⟨0, rfl, by decide, by decide, q H12⟩⟩
  refine hB fun H' => ⟨rfl, ?_⟩
  exact fin _
end
end K52
end

section
set_option Elab.async false
set_option linter.all false
set_option maxRecDepth 100000
set_option maxHeartbeats 4000000
namespace K52
open PySem PySem.Spec PyProof.Rows L2 He Cn Evl
section
variable {P : Program} {w : World} {K : PySem.W.Frag} {mg : Str → Option Value} {base : Heap}
def spLaw (K : PySem.W.Frag) : Sp := fun vs H Q _ => ∃ (a : Addr) (ns : List Int), vs = [.ref a] ∧ SqL K H a (ns.map V.int) ∧ ns.length ≤ 63 ∧ LamX.Tabs (tabs K) H ∧ ∀ H', Q (.bl true) H'
def tLaw (K : PySem.W.Frag) : TS := tSeq (tAsg (tCall (spBegun K) [] E0 (tCons (tVar 0) tNil)) (gName 1)) (tSeq (tFor (iRng1 (tCons (tC (.int 6)) tNil)) (gName 2) (tBout K)) (tEnd K))
theorem rd_law (T : Txt K mg) {D : Ends} {H : Hp} {a : Addr} {ns : List Int} (S : SqL K H a (ns.map V.int)) (hlen : ns.length ≤ 63) (hT : LamX.Tabs (tabs K) H) (fin : ∀ H', D.rt (.bl true) H') :
    tLaw K D [some (.ref a), none, none, none, none, none, none, none, none, none, none, none, none, none] H := by
  unfold tLaw
  refine ⟨_, rfl, a, ns, rfl, S, hlen, fun dm c gm H1 hd hc hg e1 M1 => ?_⟩
  have T1 := hT.ext e1
  show tSeq (tFor (iRng1 (tCons (tC (.int 6)) tNil)) (gName 2) (tBout K)) (tEnd K) D [some (.ref a), some (.ref dm), none, none, none, none, none, none, none, none, none, none, none, none] H1
  refine q_forR1 (n := 6) (ea_cons ev_c ea_nil) (by decide) (fun i σ H' => ∃ (w2 w3 w4 w5 w6 w7 w8 w11 w12 : Option V) (sp' : Int), σ = [some (.ref a), some (.ref dm), w2, w3, w4, w5, w6, w7, w8, none, none, w11, w12, none] ∧ MAt H' dm c gm sp' ∧ 0 ≤ sp' ∧ sp' ≤ 100 * (i : Int) ∧ LamX.Tabs (tabs K) H') ?_ ?_ ?_
  · intro H2 e2
    exact ⟨_, _, _, _, _, _, _, _, _, 0, rfl, mat_ex e2 M1, by omega, by omega, T1.ext e2⟩
  · rintro i σ H2 hi ⟨w2, w3, w4, w5, w6, w7, w8, w11, w12, sp', rfl, M2, s0, s1, T2⟩
    refine rd_bout T M2 s0 (by omega) T2 fun w3 w4 w5 w6 w7 w8 w11 w12 H3 sp3 M3 b1 b2 T3 => ?_
    exact ⟨_, w3, w4, w5, w6, w7, w8, w11, w12, sp3, rfl, M3, by omega, by omega, T3⟩
  · rintro σ H2 ⟨w2, w3, w4, w5, w6, w7, w8, w11, w12, sp', rfl, M2, s0, s1, T2⟩
    exact rd_end T2 fin
theorem ok_law (T : Txt K mg) (TB : TabsOk K mg base) {fd : FuncData} (F : Fun K "law" "law" s_law (ga K "law") fd) : FnOk P w K mg base CX0 23 (ga K "law") fd ["script"] (spLaw K) := by
  have FK := fnr_init (P := P) (w := w) (base := base) T
  have FB := fnr_book (P := P) (w := w) (base := base) T
  have FL := ok_blen (P := P) (w := w) (base := base) T
  have FG := ok_bget (P := P) (w := w) (base := base) T
  have FA := ok_badd (P := P) (w := w) (base := base) T
  obtain ⟨fdN, FN, bN⟩ := ok_bnames (P := P) (w := w) (base := base) T
  obtain ⟨fdR, FR⟩ := T.F__law_told
  have bR := FR.binds (ps := ["deed"]) fun _ _ _ _ _ _ us hl => match us, hl with | [_], _ => rfl
  obtain ⟨ocR, odR, kVR, docR, pmR, anR, cdR, ctR, oslR, eR, lkR, hcR⟩ := FR.ex
  subst eR
  have CB : Can P w K mg base CX0 2 "_law_begun" ["script"] (spBegun K) := can_begun T
  have CD : Can P w K mg base CX0 2 "_law_draw" ["m", "top"] spDraw := can_draw T
  have CU : Can P w K mg base CX0 3 "_law_mixed_up" ["m", "things"] (spUp K) := can_up T
  have CF : Can P w K mg base CX0 1 "_law_first" ["words"] (spFirst K) := can_first T
  have CM : Can P w K mg base CX0 9 "_law_made" ["words"] (spMade K) := can_made T TB
  have CS : Can P w K mg base CX0 9 "_law_shown_right" ["book", "words"] (spShown K) := can_shown T TB
  refine okC F sc_law (fun vs H Q E h => ?_) (fun A outer s H vs Q E hr h => ?_)
  · obtain ⟨a, ns, rfl, _⟩ := h
    rfl
  · obtain ⟨a, ns, rfl, hS, hlen, hT, fin⟩ := h
    have nd := sc_law.nd
    have hu := hu_of hr
    refine ⟨tLaw K, ?_, rd_law T hS hlen hT fin⟩
    have lam : ∀ {body : Expr} {params : Arguments} {scope : Scope} {lpos p pos : Pos} {t : XK → TE}, LamX.LamS (cxOf CX0 P w K mg base ["script", "m", "bout", "words", "told", "spot", "near", "far", "both", "found", "kind_here", "one", "two", "n"] "law" (defScope s_law) (ga K "law") (.ref (HkQ.cOf K (ga K "law"))) A outer s H E).nox.env.scope scope → defaultsOf params (cxOf CX0 P w K mg base ["script", "m", "bout", "words", "told", "spot", "near", "far", "both", "found", "kind_here", "one", "two", "n"] "law" (defScope s_law) (ga K "law") (.ref (HkQ.cOf K (ga K "law"))) A outer s H E).nox.env = ([], []) →
        (∀ (q : Str) (cl : List (Str × Addr)) (pm cv ctv : Value), bindArgs (PySem.W.kla_fn "<lambda>" q params body scope cl pm cv ctv) ⟨[], []⟩ = pure []) →
        (∀ (A' : Around) (outer' : List Env) (s' : Shared) (H' : Hp) (E' : XK) (f c' : Addr), Room 10 (A'.deeper (LamX.lamEnv (cxOf CX0 P w K mg base ["script", "m", "bout", "words", "told", "spot", "near", "far", "both", "found", "kind_here", "one", "two", "n"] "law" (defScope s_law) (ga K "law") (.ref (HkQ.cOf K (ga K "law"))) A outer s H E).nox scope s'.heap.objs.size f c')) → PE (LamX.lamCx (cxOf CX0 P w K mg base ["script", "m", "bout", "words", "told", "spot", "near", "far", "both", "found", "kind_here", "one", "two", "n"] "law" (defScope s_law) (ga K "law") (.ref (HkQ.cOf K (ga K "law"))) A outer s H E).nox A' outer' s' H' E' scope f c') body (t E')) →
        PE (cxOf CX0 P w K mg base ["script", "m", "bout", "words", "told", "spot", "near", "far", "both", "found", "kind_here", "one", "two", "n"] "law" (defScope s_law) (ga K "law") (.ref (HkQ.cOf K (ga K "law"))) A outer s H E).nox (.Call (.Name "_law_told" p) [.Lambda params body scope lpos] [] pos) (LamX.tLam (tabs K) (TTold K) t) := fun hL hd hb hB =>
      LamX.pe_lamcall (T := tabs K) (TT := TTold K) (k := 10) rfl T.g__law_told FR.kp lkR hcR bR sc__law_told rfl (.inl rfl) (told_gives T rfl rfl (hr.mono (by decide))) TB.c rfl (List.mem_cons.mpr (.inr (List.mem_cons.mpr (.inr (List.mem_singleton.mpr (congrArg (Prod.mk _) (by rfl))))))) (fun p hp e => tabs_c TB hp e) (hr.mono (by decide)) hL hd hb hB
    refine pss_cons (ps_set (i := 1) nd rfl (.inr rfl) (pe_can CB hr pass0 (pa_cons (pv 0) pa_nil))) (pss_cons (ps_for PassesOwn.never rfl (pi_range1 rfl T.n_range (pa_cons pe_int pa_nil)) (pg_name (i := 2) nd rfl (.inl rfl)) (?_ : PSs _ _ (tBout K))) (?_ : PSs _ _ (tEnd K)))
    · refine pss_cons (ps_setLc (i := 3) (own := [("n", 13)]) (g := gName 13) (tt := tYes) rfl nd rfl rfl (sw_true rfl rfl rfl (by decide +kernel)) (pi_range1 rfl T.n_range (pa_cons pe_int pa_nil)) (blkOk_by (N := ["script", "m", "bout", "words", "told", "spot", "near", "far", "both", "found", "kind_here", "one", "two", "n"]) (sc := defScope s_law) (by decide +kernel)) (fun _ _ _ _ _ => pg_name (i := 13) nd rfl (.inl rfl)) (fun _ _ _ _ _ => pts_nil) (fun _ _ _ _ _ => pe_ix ix_list (pe_lst (pa_cons pe_str (pa_cons pe_str (pa_cons pe_str (pa_cons pe_str (pa_cons pe_str (pa_cons pe_str (pa_cons pe_str pa_nil)))))))) (pe_can CD hr pass0 (pa_cons (pv 1) (pa_cons pe_int pa_nil))) (fun _ _ => rfl))) ?_
      refine pss_cons (ps_par (i := 4) (j := 5) rfl nd rfl rfl (by decide) rfl rfl (pa_cons (pe_can CM hr pass0 (pa_cons (pv 3) pa_nil)) (pa_cons (pe_can CF hr pass0 (pa_cons (pv 3) pa_nil)) pa_nil)) rfl) ?_
      refine pss_cons (ps_if (PW.pt (pw_and (pt_cmp (pc_notN (pv 5))) (pw_and1 (pt_cmpR (op_ne_sameT hr) (pv 4) (pe_tup (pa_cons pe_str (pa_cons (pv 5) pa_nil))) (nomark _))))) (pss_one (ps_ret pe_bl)) pss_nil) ?_
      refine pss_cons (ps_if (PW.pt (pw_and (pt_cmp (pc_isN (pv 5))) (pw_and1 (PW.pt (pw_or (pt_not (pt_val (pe_callB call_isi (by rfl) T.n_isinstance (by decide +kernel) (pa_cons (pv 4) (pa_cons (pe_bltn rfl T.n_list (v := .ty "list") (by decide +kernel) rfl) pa_nil))))) (pw_or1 (pt_not (pt_val (pe_can CS hr pass0 (pa_cons (pe_ix ix_list (pv 4) pe_int (fun _ _ => rfl)) (pa_cons (pv 3) pa_nil))))))))))) (pss_one (ps_ret pe_bl)) pss_nil) ?_
      refine pss_cons (ps_set (i := 6) nd rfl (.inl rfl) (pe_slice sl_list (pe_can CU hr pass0 (pa_cons (pv 1) (pa_cons (pe_lst (pa_cons pe_str (pa_cons pe_str (pa_cons pe_str (pa_cons pe_str pa_nil))))) pa_nil))) po_none (po_some pe_int))) ?_
      refine pss_cons (ps_set (i := 7) nd rfl (.inl rfl) (pe_slice sl_list (pe_can CU hr pass0 (pa_cons (pv 1) (pa_cons (pe_lst (pa_cons pe_str (pa_cons pe_str (pa_cons pe_str (pa_cons pe_str (pa_cons pe_str pa_nil)))))) pa_nil))) po_none (po_some pe_int))) ?_
      refine pss_cons (ps_asg (pe_tup (pa_cons (StX.pe_makeR T.bmk FB (hr.mono (by decide)) rfl T.g_Book pass_no (pa_cons (StX.pe_makeR T.kmk FK (hr.mono (by decide)) rfl T.g_Kind pass_no (pa_cons (pe_ix ix_list (pv 6) pe_int (fun _ _ => rfl)) pa_nil)) (pa_cons (StX.pe_makeR T.kmk FK (hr.mono (by decide)) rfl T.g_Kind pass_no (pa_cons (pe_ix ix_list (pv 6) pe_int (fun _ _ => rfl)) pa_nil)) pa_nil))) (pa_cons (StX.pe_makeR T.bmk FB (hr.mono (by decide)) rfl T.g_Book pass_no (pa_cons (StX.pe_makeR T.kmk FK (hr.mono (by decide)) rfl T.g_Kind pass_no (pa_cons (pe_ix ix_list (pv 7) pe_int (fun _ _ => rfl)) pa_nil)) (pa_cons (StX.pe_makeR T.kmk FK (hr.mono (by decide)) rfl T.g_Kind pass_no (pa_cons (pe_ix ix_list (pv 7) pe_int (fun _ _ => rfl)) pa_nil)) pa_nil))) pa_nil))) (pg_tup rfl (pgs_cons (pg_name (i := 11) nd rfl (.inr rfl)) (pgs_cons (pg_name (i := 12) nd rfl (.inr rfl)) pgs_nil)))) ?_
      refine pss_cons (ps_par (i := 8) (j := 5) rfl nd rfl rfl (by decide) rfl rfl (pa_cons (lam (LamX.lamS_by (sc := defScope s_law) (by decide +kernel)) rfl (fun _ _ _ _ _ => rfl) (fun A outer s H E f c' hr => pe_op (OwD.op_addOwn T.dAdd T.sfO FA (hr.mono (by decide)) (passes_call (takes_of rfl rfl rfl rfl) fun _ _ _ _ h => h)) (pv 11) (pv 12))) (pa_cons (pe_can CF hr pass0 (pa_cons (pe_op op_cat (pv 6) (pv 7)) pa_nil)) pa_nil)) rfl) ?_
      refine pss_cons (ps_if (PW.pt (pw_and (pt_cmp (pc_notN (pv 5))) (pw_and1 (pt_cmpR (op_ne_sameT hr) (pv 8) (pe_tup (pa_cons pe_str (pa_cons (pv 5) pa_nil))) (nomark _))))) (pss_one (ps_ret pe_bl)) pss_nil) ?_
      refine pss_cons (ps_if (PW.pt (pw_and (pt_cmp (pc_isN (pv 5))) (pw_and1 (PW.pt (pw_or (pt_not (pt_val (pe_callB call_isi (by rfl) T.n_isinstance (by decide +kernel) (pa_cons (pv 8) (pa_cons (pe_bltn rfl T.n_list (v := .ty "list") (by decide +kernel) rfl) pa_nil))))) (pw_or1 (pt_not (pt_val (pe_can CS hr pass0 (pa_cons (pe_ix ix_list (pv 8) pe_int (fun _ _ => rfl)) (pa_cons (pe_op op_cat (pv 6) (pv 7)) pa_nil))))))))))) (pss_one (ps_ret pe_bl)) pss_nil) ?_
      refine pss_cons (ps_if (PW.pt (pw_or (pt_not (pt_val (pe_can CS hr pass0 (pa_cons (pv 11) (pa_cons (pv 6) pa_nil))))) (pw_or1 (pt_not (pt_val (pe_can CS hr pass0 (pa_cons (pe_op (OwD.op_addOwn T.dAdd T.sfO FA (hr.mono (by decide)) pass_no) (pv 12) (OwD.pe_make0 T.bmk FB (hr.mono (by decide)) rfl T.g_Book pass_no)) (pa_cons (pv 7) pa_nil)))))))) (pss_one (ps_ret pe_bl)) pss_nil) ?_
      refine pss_one (ps_if (pt_cmpR (op_ne_sameT hr) (lam (LamX.lamS_by (sc := defScope s_law) (by decide +kernel)) rfl (fun _ _ _ _ _ => rfl) (fun A outer s H E f c' hr => StX.pe_makeR T.bmk FB (hr.mono (by decide)) rfl T.g_Book (passes_call (takes_of rfl rfl rfl rfl) fun _ _ _ _ h => h) (pa_cons (StX.pe_makeR T.kmk FK (hr.mono (by decide)) rfl T.g_Kind pass_no (pa_cons pe_str pa_nil)) (pa_cons pe_non (pa_cons pe_int pa_nil))))) (pe_tup (pa_cons pe_str (pa_cons pe_int pa_nil))) (nomark _)) (pss_one (ps_ret pe_bl)) pss_nil)
    · refine pss_cons (ps_set (i := 10) nd rfl (.inr rfl) (StX.pe_makeR T.kmk FK (hr.mono (by decide)) rfl T.g_Kind pass_no (pa_cons pe_str pa_nil))) ?_
      refine pss_cons (ps_set (i := 9) nd rfl (.inl rfl) (pe_lst (pa_cons (lam (LamX.lamS_by (sc := defScope s_law) (by decide +kernel)) rfl (fun _ _ _ _ _ => rfl) (fun A outer s H E f c' hr => StX.pe_makeR T.bmk FB (hr.mono (by decide)) rfl T.g_Book (passes_call (takes_of rfl rfl rfl rfl) fun _ _ _ _ h => h) (pa_cons (pv 10) (pa_cons (pv 10) pa_nil)))) pa_nil))) ?_
      refine pss_cons (ps_expr (pe_bm PySem.F.plainAttrs_list PySem.F.slot_list_append PySem.F.type_list_append mt_append (pv 9) (pa_cons (lam (LamX.lamS_by (sc := defScope s_law) (by decide +kernel)) rfl (fun _ _ _ _ _ => rfl) (fun A outer s H E f c' hr => pe_op (OwD.op_addOwn T.dAdd T.sfO FA (hr.mono (by decide)) (passes_call (takes_of rfl rfl rfl rfl) fun _ _ _ _ h => h)) (StX.pe_makeR T.bmk FB (hr.mono (by decide)) rfl T.g_Book pass_no (pa_cons (pv 10) pa_nil)) (StX.pe_makeR T.bmk FB (hr.mono (by decide)) rfl T.g_Book pass_no (pa_cons (pv 10) pa_nil)))) pa_nil))) ?_
      refine pss_cons (ps_if (pt_cmpR (op_neD hr.units) (pv 9) (pe_op op_rep (pe_lst (pa_cons (pe_tup (pa_cons pe_str (pa_cons pe_int pa_nil))) pa_nil)) pe_int) (nomark _)) (pss_one (ps_ret pe_bl)) pss_nil) ?_
      refine pss_one (ps_ret (pe_and (pe_cmpR (IdQ.op_eq_same hr T.idc) (OwD.ix_own T.dGet T.fGet FG (hr.mono (by decide)) pass_no (fun v u => by with_unfolding_all rfl) (StX.pe_makeR T.bmk FB (hr.mono (by decide)) rfl T.g_Book pass_no (pa_cons (pv 10) pa_nil)) pe_str) (pv 10) (nomark _)) (pe_and (pe_cmpR (op_eqD hr.units) ?_ (pe_tup pa_nil) (nomark _)) (pe_one (pe_cmpR op_eq (pe_callB (OwD.call_lenOwn T.dLen FL (hr.mono (by decide)) pass0) (by rfl) T.n_len PySem.boot_len (pa_cons (OwD.pe_make0 T.bmk FB (hr.mono (by decide)) rfl T.g_Book pass_no) pa_nil)) pe_int (nomark _))))))
      exact pe_prop (OwD.pe_make0 T.bmk FB (hr.mono (by decide)) rfl T.g_Book pass_no) T.clsO T.pNames FN (hr.mono (by decide)) bN .nil pass0 (abase_call (by decide))
end
end K52
end

section
set_option Elab.async false
set_option linter.all false
set_option maxRecDepth 100000
set_option maxHeartbeats 4000000
namespace K52
open PySem PySem.Spec PyProof.Rows L2 He Cn Evl
theorem says_less {h : Heap} {K : PySem.W.Frag} (c : HkQ.SaysQ fa fn tf exs2 h K) : HkQ.SaysQ fa fn tf exs h K ∧ xne K = true :=
  ⟨⟨c.a, List.all_eq_true.mpr fun f hf => List.all_eq_true.mp c.more f (List.mem_append_left _ hf), c.hd, c.out, c.empty⟩,
   List.all_eq_true.mp c.more xne (List.mem_append_right _ (List.mem_singleton.mpr rfl))⟩
abbrev lw : PySem.W.OpenLaw := PySem.Challenge.rw_recordcraft_k52_books_by_hand
theorem law_at (w : World) {K : PySem.W.Frag} {mg : Str → Option Value} {f : Addr} {h : Heap} (hK : K.In h) (c : HkQ.SaysQ fa fn tf exs2 h K) (G : h.Ns mainGlobals mg) (hmg : mg "law" = some (.ref f)) : LamX.LawAtS lw w K CX0 23 63 "script" mg f h := by
  obtain ⟨c1, cne⟩ := says_less c
  have T : Txt K mg := txt_of hK G c1
  obtain ⟨fd, F⟩ := T.F_law
  have ef : f = ga K "law" := by
    have q := T.g_law
    rw [hmg] at q
    have q' := Option.some.inj q
    injection q'
  subst ef
  obtain ⟨n1, n23⟩ := He.ba (show (!(pMade K == pShown K) && (!(pMade K == pLaw K) && !(pShown K == pLaw K))) = true from cne)
  obtain ⟨n2, n3⟩ := He.ba n23
  have ne : ∀ {x y : Addr}, (!(x == y)) = true → x ≠ y := fun {x y} h q => by
    rw [q] at h
    simp at h
  have m1 : (fun K => ga K "_law_made" : HkQ.TabF) ∈ tf := List.mem_cons.mpr (.inl rfl)
  have m2 : (fun K => ga K "_law_shown_right" : HkQ.TabF) ∈ tf := List.mem_cons.mpr (.inr (List.mem_cons.mpr (.inl rfl)))
  have m3 : (fun K => ga K "law" : HkQ.TabF) ∈ tf := List.mem_cons.mpr (.inr (List.mem_cons.mpr (.inr (List.mem_singleton.mpr rfl))))
  have all3 : ∀ {C : Addr × Addr → Prop}, C (HkQ.cP K fun K => ga K "_law_made") → C (HkQ.cP K fun K => ga K "_law_shown_right") → C (HkQ.cP K fun K => ga K "law") → ∀ p ∈ [HkQ.cP K fun K => ga K "_law_made", HkQ.cP K fun K => ga K "_law_shown_right", HkQ.cP K fun K => ga K "law"], C p := fun a b c p hp => by
    rcases List.mem_cons.mp hp with q | q
    · rw [q]; exact a
    · rcases List.mem_cons.mp q with q | q
      · rw [q]; exact b
      · rw [List.mem_singleton.mp q]; exact c
  refine ⟨fd, [HkQ.cP K fun K => ga K "_law_made", HkQ.cP K fun K => ga K "_law_shown_right", HkQ.cP K fun K => ga K "law"], spLaw K, all3 (c1.empty _ m1) (c1.empty _ m2) (c1.empty _ m3), all3 (c1.out _ m1) (c1.out _ m2) (c1.out _ m3), all3 (PySem.W.codeHd_of_K hK (c1.hd _ m1)) (PySem.W.codeHd_of_K hK (c1.hd _ m2)) (PySem.W.codeHd_of_K hK (c1.hd _ m3)), ?_, ?_, ?_⟩
  · intro s u
    obtain ⟨oc, od, kV, doc, pm, an, cdv, ct, osl, rfl, lk, hcd⟩ := F.ex
    exact .of_eq rfl
  · intro H a ns hl hb hT hS
    refine ⟨a, ns, rfl, hS, hl, fun p hp => ?_, fun _ => rfl⟩
    rcases List.mem_cons.mp hp with q | q
    · rw [q]
      exact LamX.TabS.nil (hT _ (List.mem_cons.mpr (.inl rfl)))
    · rcases List.mem_cons.mp q with q | q
      · rw [q]
        exact LamX.TabS.nil (hT _ (List.mem_cons.mpr (.inr (List.mem_cons.mpr (.inl rfl)))))
      · rw [List.mem_singleton.mp q]
        exact LamX.TabS.nil (hT _ (List.mem_cons.mpr (.inr (List.mem_cons.mpr (.inr (List.mem_singleton.mpr rfl))))))
  · intro base hKb hG TB
    exact ok_law T ⟨TB _ (List.mem_cons.mpr (.inl rfl)), TB _ (List.mem_cons.mpr (.inr (List.mem_cons.mpr (.inl rfl)))), TB _ (List.mem_cons.mpr (.inr (List.mem_cons.mpr (.inr (List.mem_singleton.mpr rfl))))), ne n1, ne n2, ne n3⟩ F
end K52
end

section
set_option Elab.async false
set_option linter.all false
set_option maxRecDepth 100000
set_option maxHeartbeats 0
namespace K52
open PySem PySem.Spec PyProof.Rows L2 He Cn Evl
theorem walk_law {d : DefRec} (hn : d.name = "law") (hd : d.params.defaults = []) : PySem.W.WalkO qv names (PySem.W.XL qv []) hk.says R.toRowW d [] fun f vs => PySem.call f vs :=
  LamX.walk_ofTsE (l := lw) (n := 63) (k := 23) (CX := fun _ => CX0) (x := "script") rfl (by decide) hd ⟨rfl, by decide, by decide⟩
    (fun w mg f h Y G hmg => by
      obtain ⟨K, hK, c⟩ := Y
      rw [hn] at hmg
      exact ⟨K, hK, law_at w hK c G hmg⟩) (fun _ _ _ _ _ h => h)
end K52
open PySem PySem.W PySem.Calls PyProof.Rows
theorem PySem.Challenge.cw_recordcraft_k52_books_by_hand_holds : PySem.Challenge.rw_recordcraft_k52_books_by_hand.Holds := by
  w_on; o_law
  refine HandSHeadRun.head_any (r := OpenLaw.row PySem.Challenge.rw_recordcraft_k52_books_by_hand) (q := K52.qv) (H := K52.hk) (ob := K52.ob) (M := 20000) (loose := K52.names) (kwd := []) K52.ob_eq (by kernel_rfl) (fun s => by kernel_rfl) K52.run (by rfl) (by rfl) (by rfl) (by rfl) (by first | assumption | decide +kernel) (by decide +kernel) ⟨rfl, rfl, rfl, rfl, rfl, by decide +kernel⟩ ?hw ?hc
  case hw => w_witness2
  case hc => exact K52.walk_law rfl rfl
end
