import PyProof.Rows.All
import Wide.All
import OpenK.AllK
import Wide.FinOn
import PyProof.EqAt
import PyProof.EqKinds
import PyProof.NeKinds
import PyProof.InstEq
import PyProof.TupleCall
import HandS.Base
import HandS.Call
import HandS.List
import HandS.More
import HandS.Strs
import KE.GoesMore
import KE.GoesEnum
import HandS.Comp
import HandS.Iter
import HandS.Style
import HandS.Walk
import KE.KStar
import KE.KCallOwn
import HandS.Dict
import HandS.Exc
import HandS.Slots
import HandS.Star
import HandS.Defaults
import HandS.Words
import PyProof.DictValues
import KE.KDictList
import HandS.ListItems
import HandS.Lambda
import HandS.ForMost
import HandS.Evl
import HandS.TryOnly
import HandS.ExcInit
import HandS.ExcField
import HandS.WordsExc
import HandS.IsInst
import HandS.ClsMeth
import HandS.DictComp
import HandS.TupAny
import HandS.Flow
import KE.KNest
import KE.KNestM
import HandS.EndTab
import HandS.HeadHook1
import HandS.HeadHook2
import HandS.HeadHook3
import HandS.HeadHook4
import HandS.HeadNt
import HandS.HeadWalk
import PySem.Challenge.RW_recordcraft_k28_rings_checked
import HandS.Text
import HandS.ExcOwn
import HandS.TupMul
import KE.KStateDown
import Lean
import HandS.Head0
import HandS.Head1
import HandS.Head2
section
/-! The merge of rows: heads, free heads, what is left; a ring where it stops. Core Lean alone. -/
set_option linter.all false
namespace Mg
variable {α : Type} [DecidableEq α]
def heads (rows : List (List α)) : List α := rows.filterMap List.head?
def isFree (rows : List (List α)) (h : α) : Bool := rows.all fun r => decide (h ∉ r.tail)
def frees (rows : List (List α)) : List α := (heads rows).filter (isFree rows)
def drop (h : α) (rows : List (List α)) : List (List α) := rows.map fun r => r.filter fun x => decide (x ≠ h)
def pop (h : α) (rows : List (List α)) : List (List α) := rows.map fun r => if r.take 1 = [h] then r.tail else r
def full (rows : List (List α)) : List (List α) := rows.filter fun r => !r.isEmpty
/-- the merge with so many turns; none: it stops | the turns do not suffice -/
def merge : Nat → List (List α) → Option (List α)
  | 0, _ => none
  | k + 1, rows => if heads rows = [] then some [] else match frees rows with
    | [] => none
    | h :: _ => (merge k (drop h rows)).map (h :: ·)
/-- every row has no item twice -/
def Nd (rows : List (List α)) : Prop := ∀ r ∈ rows, r.Nodup
theorem heads_nil {rows : List (List α)} : heads rows = [] ↔ full rows = [] := by
  unfold heads full
  rw [List.filterMap_eq_nil_iff, List.filter_eq_nil_iff]
  constructor
  · intro h r hr
    have := h r hr
    cases r with
    | nil => simp
    | cons a t => simp at this
  · intro h r hr
    have := h r hr
    cases r with
    | nil => rfl
    | cons a t => simp at this
theorem heads_full (rows : List (List α)) : heads (full rows) = heads rows := by
  unfold heads full
  induction rows with
  | nil => rfl
  | cons r rows ih =>
    cases r with
    | nil =>
      rw [List.filterMap_cons_none (by rfl), List.filter_cons, if_neg (by simp)]
      exact ih
    | cons a t =>
      rw [List.filterMap_cons_some (b := a) (by rfl), List.filter_cons, if_pos (by simp), List.filterMap_cons_some (b := a) (by rfl), ih]
theorem isFree_full (rows : List (List α)) (h : α) : isFree (full rows) h = isFree rows h := by
  unfold isFree full
  induction rows with
  | nil => rfl
  | cons r rows ih =>
    cases r with
    | nil => simpa using ih
    | cons a t => simp only [List.filter_cons, List.isEmpty_cons, Bool.not_false, if_true, List.all_cons, ih]
theorem frees_full (rows : List (List α)) : frees (full rows) = frees rows := by
  unfold frees
  rw [heads_full]
  congr 1
  funext h
  exact isFree_full rows h
theorem full_drop (h : α) (rows : List (List α)) : full (drop h (full rows)) = full (drop h rows) := by
  unfold full drop
  induction rows with
  | nil => rfl
  | cons r rows ih =>
    cases r with
    | nil => simpa using ih
    | cons a t =>
      have e1 : ((a :: t) :: rows).filter (fun r => !r.isEmpty) = (a :: t) :: rows.filter (fun r => !r.isEmpty) := by rw [List.filter_cons, if_pos (by simp)]
      rw [e1, List.map_cons, List.map_cons]
      generalize (a :: t).filter (fun x => decide (x ≠ h)) = z
      rw [List.filter_cons, List.filter_cons, ih]
theorem nd_drop {rows : List (List α)} (h : Nd rows) (x : α) : Nd (drop x rows) := by
  intro r hr
  obtain ⟨r', hr', rfl⟩ := List.mem_map.mp hr
  exact (h r' hr').filter _
theorem nd_full {rows : List (List α)} (h : Nd rows) : Nd (full rows) := fun r hr => h r (List.mem_filter.mp hr).1
theorem mem_drop {x y : α} {rows : List (List α)} : (∃ r ∈ drop x rows, y ∈ r) ↔ (y ≠ x ∧ ∃ r ∈ rows, y ∈ r) := by
  unfold drop
  constructor
  · rintro ⟨r, hr, hy⟩
    obtain ⟨r', hr', rfl⟩ := List.mem_map.mp hr
    obtain ⟨h1, h2⟩ := List.mem_filter.mp hy
    exact ⟨of_decide_eq_true h2, r', hr', h1⟩
  · rintro ⟨hn, r, hr, hy⟩
    exact ⟨_, List.mem_map.mpr ⟨r, hr, rfl⟩, List.mem_filter.mpr ⟨hy, decide_eq_true hn⟩⟩
/-- a free head stands nowhere but at heads: taking it off the heads is taking it away -/
theorem pop_drop {rows : List (List α)} (nd : Nd rows) {h : α} (hf : isFree rows h = true) : pop h rows = drop h rows := by
  unfold pop drop
  apply List.map_congr_left
  intro r hr
  have h1 : h ∉ r.tail := of_decide_eq_true (List.all_eq_true.mp hf r hr)
  cases r with
  | nil => simp
  | cons a t =>
    have ht : t.filter (fun x => decide (x ≠ h)) = t := List.filter_eq_self.mpr fun x hx => decide_eq_true fun e => h1 (by rw [← e]; exact hx)
    by_cases e : a = h
    · subst e
      rw [if_pos (by simp), List.filter_cons, if_neg (by simp), ht]
      rfl
    · have e2 : ¬ (a :: t).take 1 = [h] := by
        intro q
        have q2 : a = h := by simpa using q
        exact e q2
      rw [if_neg e2, List.filter_cons, if_pos (decide_eq_true e), ht]
theorem mem_frees {rows : List (List α)} {h : α} : h ∈ frees rows ↔ h ∈ heads rows ∧ isFree rows h = true := by
  unfold frees
  exact List.mem_filter
theorem mem_heads {rows : List (List α)} {h : α} : h ∈ heads rows ↔ ∃ t, (h :: t) ∈ rows := by
  unfold heads
  rw [List.mem_filterMap]
  constructor
  · rintro ⟨r, hr, e⟩
    cases r with
    | nil => cases e
    | cons a t =>
      have e2 : a = h := Option.some.inj e
      subst e2
      exact ⟨t, hr⟩
  · rintro ⟨t, ht⟩
    exact ⟨_, ht, rfl⟩
/-! ### the turns suffice -/
/-- how many of the candidates occur -/
def cnt (cs : List α) (rows : List (List α)) : Nat := (cs.filter fun x => rows.any fun r => decide (x ∈ r)).length
def Within (cs : List α) (rows : List (List α)) : Prop := ∀ r ∈ rows, ∀ x ∈ r, x ∈ cs
theorem within_drop {cs : List α} {rows : List (List α)} (h : Within cs rows) (x : α) : Within cs (drop x rows) := by
  intro r hr y hy
  obtain ⟨r', hr', rfl⟩ := List.mem_map.mp hr
  exact h r' hr' y (List.mem_filter.mp hy).1
theorem any_iff {rows : List (List α)} {x : α} : (rows.any fun r => decide (x ∈ r)) = true ↔ ∃ r ∈ rows, x ∈ r := by
  rw [List.any_eq_true]
  constructor
  · rintro ⟨r, hr, h⟩
    exact ⟨r, hr, of_decide_eq_true h⟩
  · rintro ⟨r, hr, h⟩
    exact ⟨r, hr, decide_eq_true h⟩
theorem filter_lt {p q : α → Bool} {l : List α} {x : α} (hx : x ∈ l) (hp : p x = true) (hq : q x = false) (h : ∀ y, q y = true → p y = true) : (l.filter q).length < (l.filter p).length := by
  induction l with
  | nil => cases hx
  | cons a l ih =>
    have le : ∀ l : List α, (l.filter q).length ≤ (l.filter p).length := by
      intro l
      induction l with
      | nil => exact Nat.le_refl _
      | cons b l ih2 =>
        rw [List.filter_cons, List.filter_cons]
        by_cases hb : q b = true
        · rw [if_pos hb, if_pos (h b hb), List.length_cons, List.length_cons]
          omega
        · rw [if_neg hb]
          split
          · rw [List.length_cons]
            omega
          · exact ih2
    rw [List.filter_cons, List.filter_cons]
    by_cases ha : x = a
    · subst ha
      have h1 := le l
      rw [if_pos hp, hq]
      simp only [Bool.false_eq_true, if_false, List.length_cons]
      omega
    · have hx' : x ∈ l := by
        rcases List.mem_cons.mp hx with e | e
        · exact absurd e ha
        · exact e
      have h2 := ih hx'
      by_cases hb : q a = true
      · rw [if_pos hb, if_pos (h a hb), List.length_cons, List.length_cons]
        omega
      · rw [if_neg hb]
        split
        · rw [List.length_cons]
          omega
        · exact h2
theorem cnt_drop {cs : List α} {rows : List (List α)} {h : α} (hw : Within cs rows) (hh : h ∈ heads rows) : cnt cs (drop h rows) < cnt cs rows := by
  obtain ⟨t, ht⟩ := mem_heads.mp hh
  unfold cnt
  refine filter_lt (x := h) (hw _ ht h (List.mem_cons_self ..)) (any_iff.mpr ⟨_, ht, List.mem_cons_self ..⟩) ?_ fun y hy => ?_
  · cases q : (drop h rows).any fun r => decide (h ∈ r) with
    | false => rfl
    | true => exact absurd rfl (mem_drop.mp (any_iff.mp q)).1
  · exact any_iff.mpr (mem_drop.mp (any_iff.mp hy)).2
theorem frees_head {rows : List (List α)} {h : α} {t : List α} (e : frees rows = h :: t) : h ∈ heads rows ∧ isFree rows h = true := mem_frees.mp (by rw [e]; exact List.mem_cons_self ..)
/-- more turns change nothing -/
theorem merge_more {cs : List α} : ∀ (k j : Nat) (rows : List (List α)), Within cs rows → cnt cs rows < k → cnt cs rows < j → merge k rows = merge j rows
  | 0, _, _, _, h, _ => absurd h (Nat.not_lt_zero _)
  | _, 0, _, _, _, h => absurd h (Nat.not_lt_zero _)
  | k + 1, j + 1, rows, hw, h1, h2 => by
    unfold merge
    split
    · rfl
    · cases e : frees rows with
      | nil => rfl
      | cons h t =>
        have hl := cnt_drop hw (frees_head e).1
        simp only
        rw [merge_more k j (drop h rows) (within_drop hw h) (by omega) (by omega)]
theorem cnt_le (cs : List α) (rows : List (List α)) : cnt cs rows ≤ cs.length := List.length_filter_le _ _
/-- what the merge gives: no item twice, just the items of the rows, each one behind those ahead of it in a row -/
theorem merge_nodup : ∀ (k : Nat) (rows : List (List α)) (l : List α), merge k rows = some l → l.Nodup ∧ ∀ x, x ∈ l ↔ ∃ r ∈ rows, x ∈ r
  | 0, _, _, h => by cases h
  | k + 1, rows, l, h => by
    unfold merge at h
    split at h
    · rename_i hn
      cases h
      refine ⟨List.nodup_nil, fun x => ⟨(fun q => by cases q), ?_⟩⟩
      rintro ⟨r, hr, hx⟩
      have hf := heads_nil.mp hn
      have : r ∈ full rows := List.mem_filter.mpr ⟨hr, by cases r with | nil => cases hx | cons a t => rfl⟩
      rw [hf] at this
      cases this
    · cases e : frees rows with
      | nil =>
        rw [e] at h
        cases h
      | cons a t =>
        rw [e] at h
        simp only at h
        cases q : merge k (drop a rows) with
        | none =>
          rw [q] at h
          cases h
        | some l' =>
          rw [q] at h
          have el : a :: l' = l := Option.some.inj h
          subst el
          obtain ⟨n1, n2⟩ := merge_nodup k _ _ q
          obtain ⟨hh, _⟩ := frees_head e
          obtain ⟨t', ht'⟩ := mem_heads.mp hh
          refine ⟨List.nodup_cons.mpr ⟨fun hm => absurd rfl (mem_drop.mp ((n2 a).mp hm)).1, n1⟩, fun x => ?_⟩
          rw [List.mem_cons, n2 x, mem_drop]
          constructor
          · rintro (rfl | ⟨_, hx⟩)
            · exact ⟨_, ht', List.mem_cons_self ..⟩
            · exact hx
          · intro hx
            by_cases hxa : x = a
            · exact .inl hxa
            · exact .inr ⟨hxa, hx⟩
/-! ### names in the place of numbers -/
section
variable {β : Type} [DecidableEq β] {f : α → β}
def mapR (f : α → β) (rows : List (List α)) : List (List β) := rows.map (List.map f)
theorem heads_map (rows : List (List α)) : heads (mapR f rows) = (heads rows).map f := by
  unfold heads mapR
  induction rows with
  | nil => rfl
  | cons r rows ih =>
    cases r with
    | nil =>
      rw [List.map_cons, List.filterMap_cons_none (by rfl), List.filterMap_cons_none (by rfl)]
      exact ih
    | cons a t =>
      rw [List.map_cons, List.filterMap_cons_some (b := f a) (by rfl), List.filterMap_cons_some (b := a) (by rfl), List.map_cons, ih]
theorem mem_inj {cs : List α} (hi : ∀ x ∈ cs, ∀ y ∈ cs, f x = f y → x = y) {x : α} (hx : x ∈ cs) {r : List α} (hr : ∀ y ∈ r, y ∈ cs) : f x ∈ r.map f ↔ x ∈ r := by
  constructor
  · intro h
    obtain ⟨y, hy, e⟩ := List.mem_map.mp h
    rw [hi x hx y (hr y hy) e.symm]
    exact hy
  · exact fun h => List.mem_map.mpr ⟨x, h, rfl⟩
theorem isFree_map {cs : List α} (hi : ∀ x ∈ cs, ∀ y ∈ cs, f x = f y → x = y) {rows : List (List α)} (hw : Within cs rows) {h : α} (hh : h ∈ cs) : isFree (mapR f rows) (f h) = isFree rows h := by
  unfold isFree mapR
  rw [List.all_map]
  have : ∀ r ∈ rows, ((fun r : List β => decide (f h ∉ r.tail)) ∘ List.map f) r = decide (h ∉ r.tail) := by
    intro r hr
    show decide (f h ∉ (r.map f).tail) = _
    rw [← List.map_tail]
    have := mem_inj hi hh (r := r.tail) fun y hy => hw r hr y (List.mem_of_mem_tail hy)
    exact decide_eq_decide.mpr (not_congr this)
  rw [Bool.eq_iff_iff, List.all_eq_true, List.all_eq_true]
  constructor
  · intro h r hr
    rw [← this r hr]
    exact h r hr
  · intro h r hr
    rw [this r hr]
    exact h r hr
theorem frees_map {cs : List α} (hi : ∀ x ∈ cs, ∀ y ∈ cs, f x = f y → x = y) {rows : List (List α)} (hw : Within cs rows) : frees (mapR f rows) = (frees rows).map f := by
  unfold frees
  rw [heads_map, List.filter_map]
  congr 1
  apply List.filter_congr
  intro x hx
  obtain ⟨t, ht⟩ := mem_heads.mp hx
  exact isFree_map hi hw (hw _ ht x (List.mem_cons_self ..))
theorem drop_map {cs : List α} (hi : ∀ x ∈ cs, ∀ y ∈ cs, f x = f y → x = y) {rows : List (List α)} (hw : Within cs rows) {h : α} (hh : h ∈ cs) : drop (f h) (mapR f rows) = mapR f (drop h rows) := by
  unfold drop mapR
  rw [List.map_map, List.map_map]
  apply List.map_congr_left
  intro r hr
  show (r.map f).filter _ = (r.filter _).map f
  rw [List.filter_map]
  congr 1
  apply List.filter_congr
  intro x hx
  show decide (f x ≠ f h) = decide (x ≠ h)
  exact decide_eq_decide.mpr (not_congr ⟨fun e => hi x (hw r hr x hx) h hh e, fun e => by rw [e]⟩)
theorem merge_map {cs : List α} (hi : ∀ x ∈ cs, ∀ y ∈ cs, f x = f y → x = y) : ∀ (k : Nat) {rows : List (List α)}, Within cs rows → merge k (mapR f rows) = (merge k rows).map (List.map f)
  | 0, _, _ => rfl
  | k + 1, rows, hw => by
    unfold merge
    rw [heads_map, frees_map hi hw]
    by_cases e : heads rows = []
    · rw [if_pos e, if_pos (by rw [e]; rfl)]
      rfl
    · rw [if_neg e, if_neg (by simpa using e)]
      cases q : frees rows with
      | nil => rfl
      | cons a t =>
        obtain ⟨hh, _⟩ := frees_head q
        obtain ⟨t', ht'⟩ := mem_heads.mp hh
        have ha : a ∈ cs := hw _ ht' a (List.mem_cons_self ..)
        show (merge k (drop (f a) (mapR f rows))).map (f a :: ·) = ((merge k (drop a rows)).map (a :: ·)).map (List.map f)
        rw [drop_map hi hw ha, merge_map hi k (within_drop hw a)]
        cases merge k (drop a rows) <;> rfl
end
/-! ### one row above: no ring -/
theorem merge_one : ∀ (l : List α) (k : Nat), l.Nodup → l.length < k → merge k [l] = some l
  | [], 0, _, h => absurd h (Nat.not_lt_zero _)
  | [], k + 1, _, _ => by
    unfold merge
    rw [if_pos (show heads [[]] = ([] : List α) from rfl)]
  | a :: l, 0, _, h => absurd h (Nat.not_lt_zero _)
  | a :: l, k + 1, nd, h => by
    obtain ⟨n1, n2⟩ := List.nodup_cons.mp nd
    unfold merge
    have e1 : heads [a :: l] = [a] := rfl
    have e2 : isFree [a :: l] a = true := by
      show (decide (a ∉ l) && true) = true
      rw [decide_eq_true n1]
      rfl
    have e3 : frees [a :: l] = [a] := by
      unfold frees
      rw [e1, List.filter_cons, if_pos e2]
      rfl
    rw [e1, if_neg (by simp), e3]
    have e4 : drop a [a :: l] = [l] := by
      show [(a :: l).filter _] = [l]
      rw [List.filter_cons, if_neg (by simp)]
      congr 1
      exact List.filter_eq_self.mpr fun x hx => decide_eq_true fun e => n1 (by rw [← e]; exact hx)
    show (merge k (drop a [a :: l])).map (a :: ·) = some (a :: l)
    rw [e4, merge_one l k n2 (by rw [List.length_cons] at h; omega)]
    rfl
/-- a line and the one kind that it is of -/
theorem merge_top (a : α) (l : List α) (k : Nat) (nd : (a :: l).Nodup) (h : (a :: l).length < k) : merge k [a :: l, [a]] = some (a :: l) := by
  obtain ⟨n1, n2⟩ := List.nodup_cons.mp nd
  cases k with
  | zero => exact absurd h (Nat.not_lt_zero _)
  | succ k =>
    unfold merge
    have e1 : heads [a :: l, [a]] = [a, a] := rfl
    have e2 : isFree [a :: l, [a]] a = true := by
      show (decide (a ∉ l) && (decide (a ∉ ([] : List α)) && true)) = true
      rw [decide_eq_true n1, decide_eq_true (by simp)]
      rfl
    have e3 : frees [a :: l, [a]] = [a, a] := by
      unfold frees
      rw [e1, List.filter_cons, if_pos e2, List.filter_cons, if_pos e2]
      rfl
    rw [e1, if_neg (by simp), e3]
    have e4 : drop a [a :: l, [a]] = [l, []] := by
      show [(a :: l).filter _, [a].filter _] = [l, []]
      have q1 : (a :: l).filter (fun x => decide (x ≠ a)) = l := by
        rw [List.filter_cons, if_neg (by simp)]
        exact List.filter_eq_self.mpr fun x hx => decide_eq_true fun e => n1 (by rw [← e]; exact hx)
      have q2 : [a].filter (fun x => decide (x ≠ a)) = [] := by
        rw [List.filter_cons, if_neg (by simp)]
        rfl
      rw [q1, q2]
    show (merge k (drop a [a :: l, [a]])).map (a :: ·) = some (a :: l)
    have e5 : ∀ (k : Nat) (l : List α), merge k [l, []] = merge k [l] := by
      intro k
      induction k with
      | zero => intro l; rfl
      | succ k ih =>
        intro l
        unfold merge
        have f1 : full [l, []] = full [l] := by
          unfold full
          cases l <;> rfl
        have h1 : heads [l, []] = heads [l] := by rw [← heads_full [l, []], f1, heads_full]
        have h2 : frees [l, []] = frees [l] := by rw [← frees_full [l, []], f1, frees_full]
        rw [h1, h2]
        have h3 : ∀ x, merge k (drop x [l, []]) = merge k (drop x [l]) := fun x => ih (l.filter _)
        simp only [h3]
    rw [e4, e5, merge_one l k n2 (by rw [List.length_cons] at h; omega)]
    rfl
/-! ### rings -/
/-- x stands before y in some row -/
def Before (rows : List (List α)) (x y : α) : Prop := ∃ r ∈ rows, x ∈ r ∧ y ∈ r ∧ r.idxOf x < r.idxOf y
/-- each one stands before the next one, the last one before the first one -/
structure Ring (rows : List (List α)) (ring : List α) : Prop where
  two : 2 ≤ ring.length
  nxt : ∀ (i : Nat) (x y : α), ring[i]? = some x → ring[i + 1]? = some y → Before rows x y
  lst : ∀ (x y : α), ring[ring.length - 1]? = some x → ring[0]? = some y → Before rows x y
theorem idx_ne {a x : α} (h : ¬ a = x) (l : List α) : (a :: l).idxOf x = l.idxOf x + 1 := by
  rw [List.idxOf_cons]
  have e : (a == x) = false := by simpa using h
  rw [e]
  rfl
theorem before_drop {rows : List (List α)} (nd : Nd rows) {h x y : α} (b : Before (drop h rows) x y) : Before rows x y := by
  obtain ⟨r, hr, hx, hy, hlt⟩ := b
  obtain ⟨r', hr', rfl⟩ := List.mem_map.mp hr
  have hx' := (List.mem_filter.mp hx).1
  have hy' := (List.mem_filter.mp hy).1
  have px := (List.mem_filter.mp hx).2
  have py := (List.mem_filter.mp hy).2
  refine ⟨r', hr', hx', hy', ?_⟩
  have hne : x ≠ y := fun e => by rw [e] at hlt; exact Nat.lt_irrefl _ hlt
  clear hr hr' nd
  induction r' with
  | nil => cases hx'
  | cons a t ih =>
    by_cases hax : a = x
    · subst hax
      rw [List.idxOf_cons_self, idx_ne hne]
      omega
    · by_cases hay : a = y
      · exfalso
        subst hay
        rw [List.filter_cons, if_pos py, List.idxOf_cons_self] at hlt
        exact Nat.not_lt_zero _ hlt
      · have hx2 : x ∈ t := by
          rcases List.mem_cons.mp hx' with e | e
          · exact absurd e.symm hax
          · exact e
        have hy2 : y ∈ t := by
          rcases List.mem_cons.mp hy' with e | e
          · exact absurd e.symm hay
          · exact e
        rw [idx_ne hax, idx_ne hay]
        have : t.idxOf x < t.idxOf y := by
          refine ih (List.mem_filter.mpr ⟨hx2, px⟩) (List.mem_filter.mpr ⟨hy2, py⟩) ?_ hx2 hy2
          rw [List.filter_cons] at hlt
          split at hlt
          · rw [idx_ne hax, idx_ne hay] at hlt
            omega
          · exact hlt
        omega
theorem before_full {rows : List (List α)} {x y : α} (b : Before (full rows) x y) : Before rows x y := by
  obtain ⟨r, hr, h⟩ := b
  exact ⟨r, (List.mem_filter.mp hr).1, h⟩
theorem Ring.imp {rows rows' : List (List α)} {ring : List α} (R : Ring rows ring) (h : ∀ x y, Before rows x y → Before rows' x y) : Ring rows' ring :=
  ⟨R.two, fun i x y a b => h _ _ (R.nxt i x y a b), fun x y a b => h _ _ (R.lst x y a b)⟩
/-- the head of a row stands before what stands behind it -/
theorem before_head {rows : List (List α)} {h x : α} {t : List α} (hr : (h :: t) ∈ rows) (hx : x ∈ h :: t) (hne : x ≠ h) : Before rows h x := by
  refine ⟨_, hr, List.mem_cons_self .., hx, ?_⟩
  rw [List.idxOf_cons_self, idx_ne (fun e => hne e.symm)]
  omega
/-- a path along «the head of the first row in which it stands behind the head»: from where it comes back, it is a ring the other way round -/
theorem ring_of {rows : List (List α)} {path : List α} {i : Nat} {h : α} (chain : ∀ (j : Nat) (x y : α), path[j]? = some x → path[j + 1]? = some y → Before rows y x) (hl : ∀ x, path[path.length - 1]? = some x → Before rows h x)
    (hi : path[i]? = some h) (hne : ∀ x, path[path.length - 1]? = some x → x ≠ h) : Ring rows (path.drop i).reverse := by
  have hlt : i < path.length := (List.getElem?_eq_some_iff.mp hi).1
  have hn : i ≠ path.length - 1 := fun e => by
    rw [e] at hi
    exact hne h hi rfl
  have hlen : (path.drop i).reverse.length = path.length - i := by simp
  have at_ : ∀ j, j < path.length - i → (path.drop i).reverse[j]? = path[path.length - 1 - j]? := fun j hj => by
    rw [List.getElem?_reverse (by simpa using hj), List.getElem?_drop, List.length_drop]
    congr 1
    omega
  refine ⟨by rw [hlen]; omega, fun j x y hx hy => ?_, fun x y hx hy => ?_⟩
  · have hj : j + 1 < path.length - i := by
      have := (List.getElem?_eq_some_iff.mp hy).1
      rw [hlen] at this
      exact this
    rw [at_ j (by omega)] at hx
    rw [at_ (j + 1) hj] at hy
    refine chain (path.length - 1 - (j + 1)) y x hy ?_
    rw [← hx]
    congr 1
    omega
  · rw [hlen, at_ (path.length - i - 1) (by omega)] at hx
    rw [at_ 0 (by omega)] at hy
    have e1 : path.length - 1 - (path.length - i - 1) = i := by omega
    rw [e1, hi] at hx
    cases hx
    exact hl y (by rw [← hy]; congr 1)
/-- where nothing is free, every head stands behind the head of another row -/
theorem stuck {rows : List (List α)} (nd : Nd rows) (h0 : frees rows = []) {h : α} (hh : h ∈ heads rows) : ∃ a t, (a :: t) ∈ rows ∧ h ∈ a :: t ∧ h ≠ a := by
  have hf : isFree rows h = false := by
    cases q : isFree rows h with
    | false => rfl
    | true =>
      have : h ∈ frees rows := mem_frees.mpr ⟨hh, q⟩
      rw [h0] at this
      cases this
  unfold isFree at hf
  rw [List.all_eq_false] at hf
  obtain ⟨r, hr, hd⟩ := hf
  have hm : h ∈ r.tail := by simpa using hd
  cases r with
  | nil => cases hm
  | cons a t =>
    refine ⟨a, t, hr, List.mem_cons_of_mem _ hm, fun e => ?_⟩
    rw [e] at hm
    exact (List.nodup_cons.mp (nd _ hr)).1 hm
end Mg
end

section
set_option linter.all false
/-! more of the merge: the head of a row with an item not ahead of it -/
namespace Mg
variable {α : Type} [DecidableEq α]
/-- the head of the first row that has x behind its head -/
def hrw (x : α) : List (List α) → Option α
  | [] => none
  | [] :: rest => hrw x rest
  | (h :: t) :: rest => if x ≠ h ∧ x ∈ h :: t then some h else hrw x rest
/-- no row is empty -/
def NoNil (rows : List (List α)) : Prop := ∀ r ∈ rows, r ≠ []
theorem hrw_none {x : α} : ∀ {rows : List (List α)}, Nd rows → (hrw x rows = none ↔ isFree rows x = true)
  | [], _ => by simp [hrw, isFree]
  | [] :: rest, nd => by
    have ih := hrw_none (x := x) (rows := rest) fun r hr => nd r (List.mem_cons_of_mem _ hr)
    unfold hrw
    rw [ih]
    simp [isFree]
  | (h :: t) :: rest, nd => by
    have ih := hrw_none (x := x) (rows := rest) fun r hr => nd r (List.mem_cons_of_mem _ hr)
    have n1 := nd _ (List.mem_cons_self ..)
    obtain ⟨n2, _⟩ := List.nodup_cons.mp n1
    unfold hrw
    by_cases c : x ≠ h ∧ x ∈ h :: t
    · rw [if_pos c]
      obtain ⟨c1, c2⟩ := c
      have : x ∈ t := by
        rcases List.mem_cons.mp c2 with q | q
        · exact absurd q c1
        · exact q
      simp [isFree, this]
    · rw [if_neg c, ih]
      have : x ∉ t := fun q => c ⟨fun e => n2 (e ▸ q), List.mem_cons_of_mem _ q⟩
      simp [isFree, this]
theorem hrw_some {x h : α} : ∀ {rows : List (List α)}, hrw x rows = some h → ∃ t, (h :: t) ∈ rows ∧ x ∈ h :: t ∧ x ≠ h
  | [], e => by cases e
  | [] :: rest, e => by
    obtain ⟨t, h1, h2⟩ := hrw_some (rows := rest) e
    exact ⟨t, List.mem_cons_of_mem _ h1, h2⟩
  | (g :: t) :: rest, e => by
    unfold hrw at e
    by_cases c : x ≠ g ∧ x ∈ g :: t
    · rw [if_pos c] at e
      obtain rfl := Option.some.inj e
      exact ⟨t, List.mem_cons_self .., c.2, c.1⟩
    · rw [if_neg c] at e
      obtain ⟨t', h1, h2⟩ := hrw_some (rows := rest) e
      exact ⟨t', List.mem_cons_of_mem _ h1, h2⟩
theorem hrw_head {x h : α} {rows : List (List α)} (e : hrw x rows = some h) : h ∈ heads rows := by
  obtain ⟨t, ht, _⟩ := hrw_some e
  exact mem_heads.mpr ⟨t, ht⟩
theorem hrw_before {x h : α} {rows : List (List α)} (e : hrw x rows = some h) : Before rows h x := by
  obtain ⟨t, ht, hx, hne⟩ := hrw_some e
  exact before_head ht hx hne
/-- where nothing is free each head stands behind another -/
theorem hrw_stuck {rows : List (List α)} (nd : Nd rows) (h0 : frees rows = []) {x : α} (hx : x ∈ heads rows) : ∃ h, hrw x rows = some h := by
  cases e : hrw x rows with
  | some h => exact ⟨h, rfl⟩
  | none =>
    have f := (hrw_none nd).mp e
    have : x ∈ frees rows := mem_frees.mpr ⟨hx, f⟩
    rw [h0] at this
    cases this
/-- the first head that is free -/
theorem frees_find {rows : List (List α)} (nd : Nd rows) : (frees rows).head? = (heads rows).find? fun h => (hrw h rows).isNone := by
  unfold frees
  rw [List.head?_filter]
  congr 1
  funext h
  cases e : hrw h rows with
  | none => rw [(hrw_none nd).mp e] <;> rfl
  | some g =>
    cases f : isFree rows h with
    | false => rfl
    | true =>
      rw [(hrw_none nd).mpr f] at e
      cases e
/-- drop, then leave the empty rows out -/
def wo (o : Option α) (rows : List (List α)) : List (List α) := full (match o with
  | some h => drop h rows
  | none => rows)
theorem nonil_full (rows : List (List α)) : NoNil (full rows) := fun r hr e => by
  have := (List.mem_filter.mp hr).2
  rw [e] at this
  cases this
theorem heads_cons {h : α} {t : List α} {rows : List (List α)} : heads ((h :: t) :: rows) = h :: heads rows := rfl
theorem heads_len {rows : List (List α)} (nn : NoNil rows) : (heads rows).length = rows.length := by
  induction rows with
  | nil => rfl
  | cons r rest ih =>
    cases r with
    | nil => exact absurd rfl (nn [] (List.mem_cons_self ..))
    | cons h t =>
      rw [heads_cons, List.length_cons, List.length_cons, ih fun r hr => nn r (List.mem_cons_of_mem _ hr)]
theorem heads_at {rows : List (List α)} (nn : NoNil rows) : ∀ {i : Nat} {h : α} {t : List α}, rows[i]? = some (h :: t) → (heads rows)[i]? = some h := by
  induction rows with
  | nil => intro i h t e; simp at e
  | cons r rest ih =>
    intro i h t e
    cases r with
    | nil => exact absurd rfl (nn [] (List.mem_cons_self ..))
    | cons g u =>
      rw [heads_cons]
      cases i with
      | zero =>
        have e' : g :: u = h :: t := by simpa using e
        injection e' with e1 e2
        rw [e1]
        rfl
      | succ i =>
        have e' : rest[i]? = some (h :: t) := by simpa using e
        simpa using ih (fun r hr => nn r (List.mem_cons_of_mem _ hr)) e'
/-- the rows that are left, merged: what stays out changes nothing -/
theorem merge_full : ∀ (k : Nat) (rows : List (List α)), merge k (full rows) = merge k rows
  | 0, _ => rfl
  | k + 1, rows => by
    unfold merge
    rw [heads_full, frees_full]
    cases frees rows with
    | nil => rfl
    | cons h t =>
      show (if heads rows = [] then _ else (merge k (drop h (full rows))).map _) = (if heads rows = [] then _ else (merge k (drop h rows)).map _)
      rw [← merge_full k (drop h (full rows)), full_drop, merge_full k (drop h rows)]
theorem merge_step {k : Nat} {rows : List (List α)} {h : α} {t : List α} (e : frees rows = h :: t) : merge (k + 1) rows = (merge k (wo (some h) rows)).map (h :: ·) := by
  have hh : heads rows ≠ [] := fun q => by
    have := (frees_head e).1
    rw [q] at this
    cases this
  show (if heads rows = [] then some [] else match frees rows with
    | [] => none
    | h :: _ => (merge k (drop h rows)).map (h :: ·)) = _
  rw [if_neg hh, e]
  show (merge k (drop h rows)).map (h :: ·) = (merge k (full (drop h rows))).map (h :: ·)
  rw [merge_full]
theorem merge_stuck {k : Nat} {rows : List (List α)} (hh : heads rows ≠ []) (e : frees rows = []) : merge (k + 1) rows = none := by
  show (if heads rows = [] then some [] else match frees rows with
    | [] => none
    | h :: _ => (merge k (drop h rows)).map (h :: ·)) = _
  rw [if_neg hh, e]
theorem merge_done {k : Nat} : merge (k + 1) ([] : List (List α)) = some [] := rfl
theorem any_full (x : α) (rows : List (List α)) : ((full rows).any fun r => decide (x ∈ r)) = rows.any fun r => decide (x ∈ r) := by
  induction rows with
  | nil => rfl
  | cons r rest ih =>
    unfold full at ih ⊢
    cases r with
    | nil => simpa using ih
    | cons a l => simp [ih]
theorem cnt_full (cs : List α) (rows : List (List α)) : cnt cs (full rows) = cnt cs rows := by
  unfold cnt
  congr 1
  apply List.filter_congr
  intro x _
  exact any_full x rows
theorem mem_full {rows : List (List α)} {r : List α} : r ∈ full rows ↔ r ∈ rows ∧ r ≠ [] := by
  unfold full
  rw [List.mem_filter]
  cases r <;> simp
theorem wo_in {o : Option α} {rows : List (List α)} {x : α} (h : ∃ r ∈ wo o rows, x ∈ r) : ∃ r ∈ rows, x ∈ r := by
  obtain ⟨r, hr, hx⟩ := h
  have := (mem_full.mp hr).1
  cases o with
  | none => exact ⟨r, this, hx⟩
  | some h => exact (mem_drop.mp ⟨r, this, hx⟩).2
theorem wo_nd {o : Option α} {rows : List (List α)} (nd : Nd rows) : Nd (wo o rows) := by
  cases o with
  | none => exact nd_full nd
  | some h => exact nd_full (nd_drop nd h)
theorem wo_before {o : Option α} {rows : List (List α)} (nd : Nd rows) {x y : α} (b : Before (wo o rows) x y) : Before rows x y := by
  have b2 := before_full b
  cases o with
  | none => exact b2
  | some h => exact before_drop nd b2
theorem wo_within {cs : List α} {o : Option α} {rows : List (List α)} (h : Within cs rows) : Within cs (wo o rows) := by
  intro r hr
  have := (mem_full.mp hr).1
  cases o with
  | none => exact h r this
  | some g => exact within_drop h g r this
theorem wo_len {o : Option α} {rows : List (List α)} : (wo o rows).length ≤ rows.length := by
  unfold wo full
  refine Nat.le_trans (List.length_filter_le _ _) ?_
  cases o with
  | none => exact Nat.le_refl _
  | some h =>
    show (drop h rows).length ≤ _
    unfold drop
    rw [List.length_map]
    exact Nat.le_refl _
theorem wo_rlen {o : Option α} {rows : List (List α)} {n : Nat} (h : ∀ r ∈ rows, r.length ≤ n) : ∀ r ∈ wo o rows, r.length ≤ n := by
  intro r hr
  have := (mem_full.mp hr).1
  cases o with
  | none => exact h r this
  | some g =>
    obtain ⟨r', hr', rfl⟩ := List.mem_map.mp this
    exact Nat.le_trans (List.length_filter_le _ _) (h r' hr')
theorem wo_cnt {cs : List α} {rows : List (List α)} {h : α} {t : List α} (hw : Within cs rows) (e : frees rows = h :: t) : cnt cs (wo (some h) rows) < cnt cs rows := by
  show cnt cs (full (drop h rows)) < _
  rw [cnt_full]
  exact cnt_drop hw (frees_head e).1
theorem heads_ne {rows : List (List α)} (nn : NoNil rows) (h : rows ≠ []) : heads rows ≠ [] := by
  cases rows with
  | nil => exact absurd rfl h
  | cons r rest =>
    cases r with
    | nil => exact absurd rfl (nn [] (List.mem_cons_self ..))
    | cons a l =>
      rw [heads_cons]
      simp
end Mg
end

section
set_option Elab.async false
set_option linter.all false
set_option maxRecDepth 100000
set_option maxHeartbeats 2000000
/-! Instances of a class without an own __eq__: ==, !=, in, index, by identity. -/
namespace IdQ
open PySem PySem.Spec PyProof.Rows PySem.SeqAt
section
variable {M : Model} {prog : Program} {w : World} {A : Around} {E : Value → Shared → Prop} {s : Shared} {K : PySem.W.Frag} {x y C : Addr} {ox oy : Obj} {od oe : Option Obj}
/-- the class has object's own == and != -/
structure IdC (K : PySem.W.Frag) (C : Addr) : Prop where
  ob : PySem.W.mroIn K C (.type "object") = some true
  eq : PySem.W.findIn K (.ref C) "__eq__" = some (some (.builtin "object.__eq__"))
  ne : PySem.W.findIn K (.ref C) "__ne__" = some (some (.builtin "object.__ne__"))
  nn : PySem.W.mroIn K C (.type "NoneType") = some false
def neV : Value → Value
  | .bool b => .bool (!b)
  | v => v
theorem entry_eq_other {Q : Fin → Shared → Prop} (hxy : x ≠ y) (hx : s.heap.get? x = some ox) (hy : s.heap.get? y = some oy) (hnt : ox.cls ≠ .type "tuple")
    (hq : Q (.done (.ret .notImplemented)) s) : wpAny M A (Builtin.«object.__eq__» ⟨[.ref x, .ref y], []⟩) Q E s := objEq_entry_other hxy hx hy hnt hq
theorem call_eq_other {Q : Value → Shared → Prop} (X : K.In s.heap) (I : PySem.W.InstAt s.heap x ox C od) (c : IdC K C) (hxy : x ≠ y) (hy : s.heap.get? y = some oy) (hq : Q .notImplemented s) :
    wpAny (model prog w) A (call (.builtin "object.__eq__") [.ref x, .ref y]) Q E s :=
  wpAny_call (codeAny_call_builtin F.cmp_object.eq.plain F.cmpEntry_eq (PySem.W.check_slot F.cmpKind_eq F.cmpSplit_eq (I.type.andThen (PySem.W.looks_mroIn X c.ob)) (F.cmpArgs_eq _ _)
    (entry_eq_other hxy I.at_ hy (by rw [I.cls]; intro z; cases z) hq)))
theorem call_eq_same {Q : Value → Shared → Prop} (X : K.In s.heap) (I : PySem.W.InstAt s.heap x ox C od) (c : IdC K C) (hq : Q (.bool true) s) :
    wpAny (model prog w) A (call (.builtin "object.__eq__") [.ref x, .ref x]) Q E s :=
  wpAny_call (codeAny_call_builtin F.cmp_object.eq.plain F.cmpEntry_eq (PySem.W.check_slot F.cmpKind_eq F.cmpSplit_eq (I.type.andThen (PySem.W.looks_mroIn X c.ob)) (F.cmpArgs_eq _ _) (objEq_entry_same hq)))
theorem sp_eq_other {Q : Option Value → Shared → Prop} (X : K.In s.heap) (I : PySem.W.InstAt s.heap x ox C od) (c : IdC K C) (hxy : x ≠ y) (hy : s.heap.get? y = some oy) (hq : Q (some .notImplemented) s) :
    wpAny (model prog w) A (callSpecialIfBound? (.ref x) "__eq__" [.ref y]) Q E s := HN.ifBound_objEq X I c.eq (call_eq_other X I c hxy hy hq)
theorem sp_eq_same {Q : Option Value → Shared → Prop} (X : K.In s.heap) (I : PySem.W.InstAt s.heap x ox C od) (c : IdC K C) (hq : Q (some (.bool true)) s) :
    wpAny (model prog w) A (callSpecialIfBound? (.ref x) "__eq__" [.ref x]) Q E s := HN.ifBound_objEq X I c.eq (call_eq_same X I c hq)
theorem sp_eq_none {Q : Option Value → Shared → Prop} (X : K.In s.heap) (I : PySem.W.InstAt s.heap x ox C od) (c : IdC K C) (hq : Q (some .notImplemented) s) :
    wpAny (model prog w) A (callSpecialIfBound? (.ref x) "__eq__" [.none]) Q E s := HN.ifBound_objEq X I c.eq (HN.call_objEq X I c.ob hq)
/-- the same for != -/
theorem ifBound_objNe {args : List Value} {Q : Option Value → Shared → Prop} (X : K.In s.heap) (I : PySem.W.InstAt s.heap x ox C od) (hs : PySem.W.findIn K (.ref C) "__ne__" = some (some (.builtin "object.__ne__")))
    (h : wpAny M A (call (.builtin "object.__ne__") (.ref x :: args)) (fun v => Q (some v)) E s) : wpAny M A (callSpecialIfBound? (.ref x) "__ne__" args) Q E s := by
  simp only [callSpecialIfBound?, bindSpecialIfBound?]
  refine wpAny_holding (wpAny_bind (wpAny_bind (wpAny_bind (I.type.here ((PySem.W.looks_findIn X hs).here ?_)))))
  refine wpAny_bind (wpAny_askSetting (wpAny_ite ?_))
  have fin : wpAny M A (call (.builtin "object.__ne__") ([.ref x] ++ args) >>= fun v => pure (some v)) Q E s := wpAny_bind (wpAny_mono h (fun v s' h' => wpAny_pure h') fun _ _ h' => h')
  split
  · exact wpAny_bind (wpAny_of_eq (F.cmp_object.ne.bind _) (wpAny_pure (by exact fin)))
  · exact wpAny_tryCatch (wpAny_bind (wpAny_of_eq (F.cmp_object.ne.bind _) (wpAny_pure (by exact fin))))
theorem entry_ne {z : Value} {r : Value} {Q : Fin → Shared → Prop} (hu : A.units < cLine)
    (h : ∀ Q' : Option Value → Shared → Prop, Q' (some r) s → wpAny M A (callSpecialIfBound? (.ref x) "__eq__" [z]) Q' E s)
    (hq : Q (.done (.ret (neV r))) s) (hr : r = .notImplemented ∨ ∃ b, r = .bool b) : wpAny M A (Builtin.«object.__ne__» ⟨[.ref x, z], []⟩) Q E s := by
  rcases hr with rfl | ⟨b, rfl⟩
  · unfold Builtin.«object.__ne__»
    repeat (first | with_reducible refine wpAny_cRoomFor hu ?_ | with_reducible refine h _ ?_ | wp_step)
    exact hq
  · unfold Builtin.«object.__ne__»
    repeat (first | with_reducible refine wpAny_cRoomFor hu ?_ | with_reducible refine h _ ?_ | wp_step)
    exact hq
theorem call_ne {z : Value} {r : Value} {Q : Value → Shared → Prop} (X : K.In s.heap) (I : PySem.W.InstAt s.heap x ox C od) (c : IdC K C) (hu : A.units + 1 < cLine)
    (h : ∀ Q' : Option Value → Shared → Prop, Q' (some r) s → wpAny (model prog w) A.in1 (callSpecialIfBound? (.ref x) "__eq__" [z]) Q' (fun e s' => E e s') s) (hr : r = .notImplemented ∨ ∃ b, r = .bool b)
    (hq : Q (neV r) s) : wpAny (model prog w) A (call (.builtin "object.__ne__") [.ref x, z]) Q E s :=
  wpAny_call (codeAny_call_builtin F.cmp_object.ne.plain F.cmpEntry_ne (PySem.W.check_slot F.cmpKind_ne F.cmpSplit_ne (I.type.andThen (PySem.W.looks_mroIn X c.ob)) (F.cmpArgs_ne _ _)
    (entry_ne (A := A.in1) (r := r) hu h hq hr)))
theorem tail_ne {Q : Value → Shared → Prop} {b : Bool} {m : Sem Bool} (h : Q (.bool (!b)) s) (hm : wpAny (model prog w) A m (fun r s' => r = b ∧ s' = s) E s) :
    wpAny (model prog w) A (do rule "compare.ne-identity"; return Value.bool (!(← m))) Q E s :=
  wpAny_bind (wpAny_rule (wpAny_bind (wpAny_mono hm (fun r s' z => by obtain ⟨z1, z2⟩ := z; subst z1; subst z2; exact wpAny_pure h) fun _ _ z => z)))
/-- x == y, both of C, two objects -/
theorem rc_other (hu : A.units < cLine) (X : K.In s.heap) (I : PySem.W.InstAt s.heap x ox C od) (J : PySem.W.InstAt s.heap y oy C oe) (c : IdC K C) (hxy : x ≠ y) : RcAt A s (.ref x) (.ref y) false := fun prog w E Q h => by
  have one : wpAny (model prog w) A (tryCompare (.ref x) "__eq__" (.ref y)) (fun r s' => r = none ∧ s' = s) E s := by
    unfold tryCompare
    exact wpAny_bind (sp_eq_other X I c hxy J.at_ (wpAny_pure ⟨rfl, rfl⟩))
  have two : wpAny (model prog w) A (tryCompare (.ref y) "__eq__" (.ref x)) (fun r s' => r = none ∧ s' = s) E s := by
    unfold tryCompare
    exact wpAny_bind (sp_eq_other X J c (fun e => hxy e.symm) I.at_ (wpAny_pure ⟨rfl, rfl⟩))
  simp only [richCompare, cmpInfo_Eq, oneThing_ref]
  refine wpAny_holding (wpAny_bind (wpAny_cRoomFor hu ?_))
  refine wpAny_bind (I.type.here ?_)
  refine wpAny_bind (J.type.here ?_)
  split
  · rename_i q
    exact absurd q (by simp)
  · refine wpAny_bind (wpAny_pure ?_)
    simp only [Bool.false_eq_true, if_false, Bool.not_false, if_true]
    refine wpAny_bind (m := tryCompare (.ref x) _ (.ref y)) (wpAny_mono one (fun r s1 z => ?_) fun _ _ e => e)
    obtain ⟨z1, z2⟩ := z
    subst z1
    subst z2
    refine wpAny_bind (m := tryCompare (.ref y) _ (.ref x)) (wpAny_mono two (fun r s2 z => ?_) fun _ _ e => e)
    obtain ⟨z1, z2⟩ := z
    subst z1
    subst z2
    exact wpAny_bind (wpAny_rule (wpAny_bind (wpAny_isSame_ref_other hxy I.at_ J.at_ (by rw [I.cls]; intro z; cases z) (wpAny_pure h))))
theorem none_ref_eq (hu : A.units < cLine) (X : K.In s.heap) (I : PySem.W.InstAt s.heap x ox C od) (c : IdC K C) : RcAt A s .none (.ref x) false := fun prog w E Q h => by
  have one : wpAny (model prog w) A (tryCompare (.ref x) "__eq__" .none) (fun r s' => r = none ∧ s' = s) E s := by
    unfold tryCompare
    exact wpAny_bind (sp_eq_none X I c (wpAny_pure ⟨rfl, rfl⟩))
  have two : wpAny (model prog w) A (tryCompare .none "__eq__" (.ref x)) (fun r s' => r = none ∧ s' = s) E s :=
    wpAny_tryCompare_declines (show s.TypeIs .none "NoneType" from rfl) F.slot_NoneType_eq_refl (call_gives F.slot_NoneType_eq_refl rfl F.entry_NoneType_eq (F.args_NoneType_eq_2 _ _) (NoneType___eq___none_ref_0 x) ⟨rfl, rfl, rfl⟩)
  have e0 : oneThing? .Eq .none (.ref x) = none := rfl
  simp only [richCompare, cmpInfo_Eq, e0]
  refine wpAny_holding (wpAny_bind (wpAny_cRoomFor hu ?_))
  refine wpAny_bind (wpAny_typeOf (show s.TypeIs .none "NoneType" from rfl) ?_)
  refine wpAny_bind (I.type.here ?_)
  have sb : PySem.W.Looks (model prog w) s.heap (isSubtype (.ref C) (.type "NoneType")) false := PySem.W.looks_mroIn X c.nn
  split
  · refine wpAny_bind (sb.here ?_)
    simp only [Bool.false_eq_true, if_false, Bool.not_false, if_true]
    refine wpAny_bind (m := tryCompare .none _ (.ref x)) (wpAny_mono two (fun r s1 z => ?_) fun _ _ e => e)
    obtain ⟨z1, z2⟩ := z
    subst z1
    subst z2
    refine wpAny_bind (m := tryCompare (.ref x) _ .none) (wpAny_mono one (fun r s2 z => ?_) fun _ _ e => e)
    obtain ⟨z1, z2⟩ := z
    subst z1
    subst z2
    exact wpAny_bind (wpAny_rule (wpAny_bind (wpAny_of_eq (rfl : isSame .none (.ref x) = pure false) (wpAny_pure h))))
  · rename_i q
    exact absurd (by simp) q
/-- x != z, x of C, z of C too or None; r: what x's == says of it -/
theorem rc_ne {z : Value} {r : Value} {b : Bool} (hu : A.units + 1 < cLine) (X : K.In s.heap) (I : PySem.W.InstAt s.heap x ox C od) (c : IdC K C) (hz : z = .none ∨ ∃ y oy oe, z = .ref y ∧ PySem.W.InstAt s.heap y oy C oe)
    (e : z = .ref x → b = false) (n : z ≠ .ref x → b = true) : ∀ (prog : Program) (w : World) (E : Value → Shared → Prop) (Q : Value → Shared → Prop), Q (.bool b) s → wpAny (model prog w) A (richCompare .NotEq (.ref x) z) Q E s := fun prog w E Q h => by
  have hu0 : A.units < cLine := Nat.lt_of_succ_lt hu
  have key : ∀ (z : Value) (r : Value) (a : Option Value) (y : Addr) (oy : Obj) (oe : Option Obj), PySem.W.InstAt s.heap y oy C oe → (∀ (A : Around) (E : Value → Shared → Prop) (Q' : Option Value → Shared → Prop), Q' (some r) s → wpAny (model prog w) A (callSpecialIfBound? (.ref y) "__eq__" [z]) Q' E s) →
      ((r = .notImplemented ∧ a = none) ∨ ∃ b, r = .bool b ∧ a = some (.bool (!b))) →
      wpAny (model prog w) A (tryCompare (.ref y) "__ne__" z) (fun r s' => r = a ∧ s' = s) E s := fun z r a y oy oe J hh hr => by
    unfold tryCompare
    rcases hr with ⟨rfl, rfl⟩ | ⟨b, rfl, rfl⟩
    · exact wpAny_bind (ifBound_objNe X J c.ne (call_ne (r := .notImplemented) X J c hu (fun Q' q => hh _ _ Q' q) (.inl rfl) (wpAny_pure ⟨rfl, rfl⟩)))
    · exact wpAny_bind (ifBound_objNe X J c.ne (call_ne (r := .bool b) X J c hu (fun Q' q => hh _ _ Q' q) (.inr ⟨b, rfl⟩) (wpAny_pure ⟨rfl, rfl⟩)))
  simp only [richCompare, cmpInfo_NotEq, oneThing_ref]
  refine wpAny_holding (wpAny_bind (wpAny_cRoomFor hu0 ?_))
  refine wpAny_bind (I.type.here ?_)
  rcases hz with rfl | ⟨y, oy, oe, rfl, J⟩
  · obtain rfl : b = true := n (fun q => nomatch q)
    have one := key .none .notImplemented none x ox od I (fun A E Q' q => sp_eq_none X I c q) (.inl ⟨rfl, rfl⟩)
    have two : wpAny (model prog w) A (tryCompare .none "__ne__" (.ref x)) (fun r s' => r = none ∧ s' = s) E s :=
      wpAny_tryCompare_declines (show s.TypeIs .none "NoneType" from rfl) F.slot_NoneType_ne_refl (call_gives F.slot_NoneType_ne_refl rfl F.entry_NoneType_ne (F.args_NoneType_ne_2 _ _) (NoneType___ne___none_ref_0 x) ⟨rfl, rfl, rfl⟩)
    refine wpAny_bind (wpAny_typeOf (show s.TypeIs .none "NoneType" from rfl) ?_)
    split
    · refine wpAny_bind ((PySem.W.looks_subIn X HN.sub_none).here ?_)
      simp only [Bool.false_eq_true, if_false, Bool.not_false, if_true]
      refine wpAny_bind (m := tryCompare (.ref x) _ .none) (wpAny_mono one (fun r s1 z => ?_) fun _ _ e => e)
      obtain ⟨z1, z2⟩ := z
      subst z1
      subst z2
      refine wpAny_bind (m := tryCompare .none _ (.ref x)) (wpAny_mono two (fun r s2 z => ?_) fun _ _ e => e)
      obtain ⟨z1, z2⟩ := z
      subst z1
      subst z2
      exact wpAny_bind (wpAny_rule (wpAny_bind (wpAny_of_eq (rfl : isSame (.ref x) .none = pure false) (wpAny_pure h))))
    · rename_i q
      exact absurd (by simp) q
  · refine wpAny_bind (J.type.here ?_)
    split
    · rename_i q
      exact absurd q (by simp)
    · refine wpAny_bind (wpAny_pure ?_)
      simp only [Bool.false_eq_true, if_false, Bool.not_false, if_true]
      by_cases hxy : x = y
      · subst hxy
        obtain rfl : b = false := e rfl
        have one := key (.ref x) (.bool true) (some (.bool false)) x ox od I (fun A E Q' q => sp_eq_same X I c q) (.inr ⟨true, rfl, rfl⟩)
        refine wpAny_bind (m := tryCompare (.ref x) _ (.ref x)) (wpAny_mono one (fun r s1 z => ?_) fun _ _ e => e)
        obtain ⟨z1, z2⟩ := z
        subst z1
        subst z2
        exact wpAny_pure h
      · obtain rfl : b = true := n (fun q => hxy (by injection q with q; exact q.symm))
        have one := key (.ref y) .notImplemented none x ox od I (fun A E Q' q => sp_eq_other X I c hxy J.at_ q) (.inl ⟨rfl, rfl⟩)
        have two := key (.ref x) .notImplemented none y oy oe J (fun A E Q' q => sp_eq_other X J c (fun e => hxy e.symm) I.at_ q) (.inl ⟨rfl, rfl⟩)
        refine wpAny_bind (m := tryCompare (.ref x) _ (.ref y)) (wpAny_mono one (fun r s1 z => ?_) fun _ _ e => e)
        obtain ⟨z1, z2⟩ := z
        subst z1
        subst z2
        refine wpAny_bind (m := tryCompare (.ref y) _ (.ref x)) (wpAny_mono two (fun r s2 z => ?_) fun _ _ e => e)
        obtain ⟨z1, z2⟩ := z
        subst z1
        subst z2
        exact wpAny_bind (wpAny_rule (wpAny_bind (wpAny_isSame_ref_other hxy I.at_ J.at_ (by rw [I.cls]; intro z; cases z) (wpAny_pure h))))
theorem eqAt_rn (hu : A.units < cLine) (X : K.In s.heap) (I : PySem.W.InstAt s.heap x ox C od) (c : IdC K C) : EqAt A s (.ref x) .none false := HN.eqAt_none hu X I c.ob c.eq
theorem eqAt_nr (hu : A.units < cLine) (X : K.In s.heap) (I : PySem.W.InstAt s.heap x ox C od) (c : IdC K C) : EqAt A s .none (.ref x) false := fun prog w E Q h => by
  unfold eqBool
  refine wpAny_holding ?_
  refine wpAny_ite_split (fun hab => absurd (eq_of_beq hab) nofun) (fun _ => ?_)
  exact wpAny_bind (none_ref_eq hu X I c prog w E _ (wpAny_truthy_bool h))
end
end IdQ

namespace L2
open PySem PySem.Spec PyProof.Rows IdQ
/-- None, or an instance of C -/
def IdV (C : Addr) (H : Hp) (z : V) : Prop := z = .non ∨ ∃ a dx fs, z = .ref a ∧ H a = some (.ins C dx fs)
/-- == of two such values, read off the values -/
def sameU (x : V) (u : Value) : Bool := match u with
  | .none => decide (V.non = x)
  | .ref a => decide (V.ref a = x)
  | _ => false
section
variable {X : Cx} {C : Addr} {pins : List (Addr × Obj)} {σ : St} {H : Hp} {s : Shared} {A : Around}
theorem idv_at {a dx : Addr} {fs : List (Str × V)} (I : Inv X pins σ H s) (h : H a = some (.ins C dx fs)) : ∃ ox od, PySem.W.InstAt s.heap a ox C od := by
  obtain ⟨mA, O, _⟩ := ins_get I.hok h
  obtain ⟨od, J, _⟩ := O.look
  exact ⟨_, _, J⟩
theorem sameU_of {C : Addr} {H : Hp} {x y : V} {u : Value} (r : RelV y u) (f : IdV C H y) : sameU x u = decide (y = x) := by
  rcases f with rfl | ⟨a, dx, fs, rfl, _⟩
  · cases r; rfl
  · cases r; rfl
theorem eqAt_id (I : Inv X pins σ H s) (c : IdC X.K C) (hu : A.units < cLine) {x y : V} {u v : Value} (ry : RelV y u) (rx : RelV x v) (fy : IdV C H y) (fx : IdV C H x) : SeqAt.EqAt A s u v (decide (y = x)) := by
  rcases fy with rfl | ⟨a, dx, fs, rfl, ha⟩
  · cases ry
    rcases fx with rfl | ⟨b, dy, gs, rfl, hb⟩
    · cases rx
      exact SeqAt.EqAt.same _
    · cases rx
      obtain ⟨ox, od, J⟩ := idv_at I hb
      exact eqAt_nr hu I.kIn J c
  · cases ry
    obtain ⟨ox, od, J⟩ := idv_at I ha
    rcases fx with rfl | ⟨b, dy, gs, rfl, hb⟩
    · cases rx
      exact eqAt_rn hu I.kIn J c
    · cases rx
      obtain ⟨oy, oe, J'⟩ := idv_at I hb
      by_cases e : a = b
      · subst e
        rw [decide_eq_true rfl]
        exact SeqAt.EqAt.same _
      · rw [decide_eq_false (fun q => e (V.ref.inj q))]
        exact SeqAt.EqAt.of_refs e (rc_other hu I.kIn J J' c e)
theorem any_id {x : V} : ∀ {xs : List V} {us : List Value}, Vals xs us → (∀ z ∈ xs, IdV C H z) → us.any (sameU x) = decide (x ∈ xs)
  | _, _, .nil, _ => by simp
  | y :: xs, u :: us, .cons r t, f => by
    rw [List.any_cons, sameU_of r (f y (List.mem_cons_self ..)), any_id t fun z hz => f z (List.mem_cons_of_mem _ hz)]
    by_cases e : y = x
    · subst e
      simp
    · have e' : ¬ x = y := fun q => e q.symm
      simp [e, e']
theorem mem_id (I : Inv X pins σ H s) (c : IdC X.K C) (hu : A.units < cLine) {x : V} {v : Value} (rx : RelV x v) (fx : IdV C H x) : ∀ {xs : List V} {us : List Value}, Vals xs us → (∀ z ∈ xs, IdV C H z) → ∀ u ∈ us, SeqAt.EqAt A s u v (sameU x u)
  | _, _, .nil, _ => fun u hu => by cases hu
  | y :: xs, u :: us, .cons r t, f => fun u' hu' => by
    rcases List.mem_cons.mp hu' with rfl | hu'
    · rw [sameU_of r (f y (List.mem_cons_self ..))]
      exact eqAt_id I c hu r rx (f y (List.mem_cons_self ..)) fx
    · exact mem_id I c hu rx fx t (fun z hz => f z (List.mem_cons_of_mem _ hz)) u' hu'
end
/-- x in a list or tuple of such -/
def rInI (K : PySem.W.Frag) (C : Addr) (neg : Bool) : R2 := fun x y H Q => ∃ p xs, y = .ref p ∧ (SqL K H p xs ∨ SqT K H p xs) ∧ IdV C H x ∧ (∀ z ∈ xs, IdV C H z) ∧ Q (.bl (if neg then !decide (x ∈ xs) else decide (x ∈ xs))) H
section
variable {X : Cx} {C : Addr}
theorem in1_lt {k : Nat} (hr : Room k X.A) : X.A.in1.units < cLine := by
  have := hr.units
  show X.A.units + 1 < cLine
  omega
theorem op_in_id {k : Nat} (hr : Room k X.A) (c : IdC X.K C) : OpR X (compareOp .In) (rInI X.K C false) := by
  intro pins s σ H x y v u Q I rx ry h
  obtain ⟨p, xs, rfl, hq, fx, fs, q⟩ := h
  cases ry
  rcases hq with hq | hq
  · obtain ⟨its, r, pl, hz⟩ := I.list hq
    refine SeqAt.in_listAt (sameU x) pl.isList (fun w hw => mem_id I c (in1_lt hr) rx fx r fs w (by simpa using hw)) ⟨.bl _, H, I, rfl, ?_⟩
    rw [show its.toArray.any (sameU x) = its.any (sameU x) by simp, any_id r fs]
    exact q
  · obtain ⟨its, r, pl, hz⟩ := I.tuple hq
    refine SeqAt.in_tupleAt (sameU x) pl (fun w hw => mem_id I c (in1_lt hr) rx fx r fs w (by simpa using hw)) ⟨.bl _, H, I, rfl, ?_⟩
    rw [show its.toArray.any (sameU x) = its.any (sameU x) by simp, any_id r fs]
    exact q
theorem op_notIn_id {k : Nat} (hr : Room k X.A) (c : IdC X.K C) : OpR X (compareOp .NotIn) (rInI X.K C true) := by
  intro pins s σ H x y v u Q I rx ry h
  obtain ⟨p, xs, rfl, hq, fx, fs, q⟩ := h
  cases ry
  rcases hq with hq | hq
  · obtain ⟨its, r, pl, hz⟩ := I.list hq
    refine SeqAt.notIn_listAt (sameU x) pl.isList (fun w hw => mem_id I c (in1_lt hr) rx fx r fs w (by simpa using hw)) ⟨.bl _, H, I, rfl, ?_⟩
    rw [show its.toArray.any (sameU x) = its.any (sameU x) by simp, any_id r fs]
    exact q
  · obtain ⟨its, r, pl, hz⟩ := I.tuple hq
    refine SeqAt.notIn_tupleAt (sameU x) pl (fun w hw => mem_id I c (in1_lt hr) rx fx r fs w (by simpa using hw)) ⟨.bl _, H, I, rfl, ?_⟩
    rw [show its.toArray.any (sameU x) = its.any (sameU x) by simp, any_id r fs]
    exact q
/-- x != y, x an instance of C, y such or None -/
def rNeI (C : Addr) : R2 := fun x y H Q => (∃ a dx fs, x = .ref a ∧ H a = some (.ins C dx fs)) ∧ IdV C H y ∧ Q (.bl (!decide (x = y))) H
theorem op_ne_id {k : Nat} (hr : Room k X.A) (c : IdC X.K C) : OpR X (compareOp .NotEq) (rNeI C) := by
  intro pins s σ H x y v u Q I rx ry h
  obtain ⟨⟨a, dx, fs, rfl, ha⟩, fy, q⟩ := h
  cases rx
  obtain ⟨ox, od, J⟩ := idv_at I ha
  have hu : X.A.units + 1 < cLine := by
    have := hr.units
    omega
  rcases fy with rfl | ⟨b, dy, gs, rfl, hb⟩
  · cases ry
    refine rc_ne (r := .none) (b := true) hu I.kIn J c (.inl rfl) (fun q => nomatch q) (fun _ => rfl) _ _ _ _ ⟨.bl _, H, I, rfl, ?_⟩
    exact q
  · cases ry
    obtain ⟨oy, oe, J'⟩ := idv_at I hb
    by_cases e : a = b
    · subst e
      rw [decide_eq_true rfl] at q
      exact rc_ne (r := .none) (b := false) hu I.kIn J c (.inr ⟨_, _, _, rfl, J'⟩) (fun _ => rfl) (fun q => absurd rfl q) _ _ _ _ ⟨.bl _, H, I, rfl, q⟩
    · rw [decide_eq_false (fun q => e (V.ref.inj q))] at q
      exact rc_ne (r := .none) (b := true) hu I.kIn J c (.inr ⟨_, _, _, rfl, J'⟩) (fun q => absurd (by injection q with q; exact q.symm) e) (fun _ => rfl) _ _ _ _ ⟨.bl _, H, I, rfl, q⟩
/-- l.index(x), t.index(x): x is there -/
def rIndexI (C : Addr) (S : Hp → Addr → List V → Prop) : V → List V → Hp → VK → Prop := fun x xs H Q => ∃ (a : Addr) (y : V) (ys : List V), x = V.ref a ∧ xs = [y] ∧ S H a ys ∧ IdV C H y ∧ (∀ z ∈ ys, IdV C H z) ∧ y ∈ ys ∧ Q (.int (ys.idxOf y : Nat)) H
theorem ix_hit {ys : List V} {y : V} (hm : y ∈ ys) : ys[ys.idxOf y]? = some y := by
  have hl : ys.idxOf y < ys.length := List.idxOf_lt_length_of_mem hm
  rw [List.getElem?_eq_getElem hl, List.getElem_idxOf hl]
theorem ix_miss {ys : List V} {y z : V} {m : Nat} (hm : m < ys.idxOf y) (h : ys[m]? = some z) : z ≠ y := by
  intro e
  subst e
  have h1 : m < ys.length := (List.getElem?_eq_some_iff.mp h).1
  have h2 : ys[m] = z := (List.getElem?_eq_some_iff.mp h).2
  have h3 := List.not_of_lt_findIdx (p := (· == z)) (xs := ys) (i := m) hm
  rw [h2] at h3
  simp at h3
theorem mt_index_id {k : Nat} (hr : Room k X.A) (c : IdC X.K C) : MtR X "list.index" (rIndexI C (SqL X.K)) := by
  intro pins s σ H x xs v us Q I rx rs h
  obtain ⟨p, y, ys, rfl, rfl, hq, fy, fs, hm, q⟩ := h
  cases rx
  obtain ⟨u, rfl, ry⟩ := vals1 rs
  obtain ⟨its, r, pl, hz⟩ := I.list hq
  obtain ⟨⟨cls, dd, dt, sl⟩, ho, hc, n, hd⟩ := pl.isList
  simp only at hc hd
  subst hc
  subst hd
  have hsl := sizeLine_eq
  have hl : its.toArray.size = ys.length := by rw [List.size_toArray, ← r.length]
  have hjl : ys.idxOf y < ys.length := List.idxOf_lt_length_of_mem hm
  have hj : ys.idxOf y < its.toArray.size := by rw [hl]; exact hjl
  have at' : ∀ (m : Nat) (hm : m < its.toArray.size), ∃ z, ys[m]? = some z ∧ RelV z its.toArray[m] := fun m hm => by
    have hm' : m < ys.length := by rw [← hl]; exact hm
    obtain ⟨w, hw, hr⟩ := r.get (i := m) (x := ys[m]) (by simp [hm'])
    refine ⟨ys[m], List.getElem?_eq_getElem hm', ?_⟩
    have e := (List.getElem?_eq_some_iff.mp hw).2
    have e2 : its.toArray[m] = w := by simpa using e
    rw [e2]
    exact hr
  refine call_meets PySem.F.slot_list_index ⟨_, ho, rfl⟩ PySem.F.entry_list_index (PySem.F.args_list_index_2 _ _) (SeqAt.list_indexAt p its.toArray n dd sl u (sameU y) (ys.idxOf y) hj (by omega) ?_ ?_)
    ⟨ho, fun w hw => mem_id I c (in1_lt hr) ry fy r fs w (by simpa using hw), ⟨.int (ys.idxOf y : Nat), H, I.tok _, ⟨_, rfl⟩, q⟩⟩
  · obtain ⟨z, h1, h2⟩ := at' _ hj
    rw [ix_hit hm] at h1
    cases h1
    rw [sameU_of h2 fy]
    exact decide_eq_true rfl
  · intro m hm' hmj
    obtain ⟨z, h1, h2⟩ := at' m hm'
    rw [sameU_of h2 (fs z (List.mem_of_getElem? h1))]
    exact decide_eq_false (ix_miss hmj h1)
theorem mt_tindex_id {k : Nat} (hr : Room k X.A) (c : IdC X.K C) : MtR X "tuple.index" (rIndexI C (SqT X.K)) := by
  intro pins s σ H x xs v us Q I rx rs h
  obtain ⟨p, y, ys, rfl, rfl, hq, fy, fs, hm, q⟩ := h
  cases rx
  obtain ⟨u, rfl, ry⟩ := vals1 rs
  obtain ⟨its, r, pl, hz⟩ := I.tuple hq
  obtain ⟨⟨cls, dd, dt, sl⟩, ho, hc, n, hd⟩ := pl
  simp only at hc hd
  subst hc
  subst hd
  have hl : its.toArray.size = ys.length := by rw [List.size_toArray, ← r.length]
  have hjl : ys.idxOf y < ys.length := List.idxOf_lt_length_of_mem hm
  have hj : ys.idxOf y < its.toArray.size := by rw [hl]; exact hjl
  have at' : ∀ (m : Nat) (hm : m < its.toArray.size), ∃ z, ys[m]? = some z ∧ RelV z its.toArray[m] := fun m hm => by
    have hm' : m < ys.length := by rw [← hl]; exact hm
    obtain ⟨w, hw, hr⟩ := r.get (i := m) (x := ys[m]) (by simp [hm'])
    refine ⟨ys[m], List.getElem?_eq_getElem hm', ?_⟩
    have e := (List.getElem?_eq_some_iff.mp hw).2
    have e2 : its.toArray[m] = w := by simpa using e
    rw [e2]
    exact hr
  refine call_meets PySem.F.slot_tuple_index ⟨_, ho, rfl⟩ PySem.F.entry_tuple_index (PySem.F.args_tuple_index_2 _ _) (TI.tuple_indexAt p its.toArray n dd sl u (sameU y) (ys.idxOf y) hj ?_ ?_)
    ⟨ho, fun w hw => mem_id I c (in1_lt hr) ry fy r fs w (by simpa using hw), ⟨.int (ys.idxOf y : Nat), H, I.tok _, ⟨_, rfl⟩, q⟩⟩
  · obtain ⟨z, h1, h2⟩ := at' _ hj
    rw [ix_hit hm] at h1
    cases h1
    rw [sameU_of h2 fy]
    exact decide_eq_true rfl
  · intro m hm' hmj
    obtain ⟨z, h1, h2⟩ := at' m hm'
    rw [sameU_of h2 (fs z (List.mem_of_getElem? h1))]
    exact decide_eq_false (ix_miss hmj h1)
/-- == of two lists of such -/
def rEqLI (K : PySem.W.Frag) (C : Addr) : R2 := fun x y H Q => ∃ p q xs ys, x = .ref p ∧ y = .ref q ∧ p ≠ q ∧ SqL K H p xs ∧ SqL K H q ys ∧ (∀ z ∈ xs, IdV C H z) ∧ (∀ z ∈ ys, IdV C H z) ∧ Q (.bl (decide (xs = ys))) H
theorem all_range_eq {xs ys : List V} (hl : xs.length = ys.length) : (List.range xs.length).all (fun j => decide (xs[j]? = ys[j]?)) = decide (xs = ys) := by
  by_cases e : xs = ys
  · subst e
    simp
  · rw [decide_eq_false e]
    cases h : (List.range xs.length).all (fun j => decide (xs[j]? = ys[j]?)) with
    | false => rfl
    | true =>
      exfalso
      apply e
      apply List.ext_getElem? fun i => ?_
      by_cases hi : i < xs.length
      · have := List.all_eq_true.mp h i (List.mem_range.mpr hi)
        exact of_decide_eq_true this
      · rw [List.getElem?_eq_none (by omega), List.getElem?_eq_none (by omega)]
theorem op_eq_lid {k : Nat} (hr : Room k X.A) (c : IdC X.K C) : OpR X (compareOp .Eq) (rEqLI X.K C) := by
  intro pins s σ H x y v u Q I rx ry h
  obtain ⟨p, q, xs, ys, rfl, rfl, hne, hx, hy, fx, fy, qq⟩ := h
  cases rx
  cases ry
  obtain ⟨its, r, pl, hz⟩ := I.list hx
  obtain ⟨its2, r2, pl2, hz2⟩ := I.list hy
  have hu : X.A.units < cLine := hr.units0
  by_cases hl : xs.length = ys.length
  · have hsz : its.toArray.size = its2.toArray.size := by rw [List.size_toArray, List.size_toArray, ← r.length, ← r2.length, hl]
    refine SeqAt.RcAt.lists (e := fun j => decide (xs[j]? = ys[j]?)) pl.isList pl2.isList hsz hu (fun j h1 h2 => ?_) _ _ _ _ ⟨.bl _, H, I, rfl, ?_⟩
    · have g1 : j < xs.length := by rw [r.length]; simpa using h1
      have g2 : j < ys.length := by rw [r2.length]; simpa using h2
      obtain ⟨w1, hw1, rr1⟩ := r.get (i := j) (x := xs[j]) (by simp [g1])
      obtain ⟨w2, hw2, rr2⟩ := r2.get (i := j) (x := ys[j]) (by simp [g2])
      have e1 : its.toArray[j] = w1 := by simpa using (List.getElem?_eq_some_iff.mp hw1).2
      have e2 : its2.toArray[j] = w2 := by simpa using (List.getElem?_eq_some_iff.mp hw2).2
      have ed : decide (xs[j]? = ys[j]?) = decide (xs[j] = ys[j]) := by simp [g1, g2]
      rw [e1, e2, ed]
      exact eqAt_id I c (in1_lt hr) rr1 rr2 (fx _ (List.getElem_mem g1)) (fy _ (List.getElem_mem g2))
    · have es : its.toArray.size = xs.length := by rw [List.size_toArray, ← r.length]
      rw [es, all_range_eq hl]
      exact qq
  · have hsz : (its.toArray.size != its2.toArray.size) = true := by
      rw [List.size_toArray, List.size_toArray, ← r.length, ← r2.length]
      simpa using hl
    refine SeqAt.RcAt.lists_lengths pl.isList pl2.isList hsz hu _ _ _ _ ⟨.bl _, H, I, rfl, ?_⟩
    rw [decide_eq_false (fun e => hl (by rw [e]))] at qq
    exact qq
end
end L2
end

section
set_option Elab.async false
set_option linter.all false
set_option maxRecDepth 100000
set_option maxHeartbeats 2000000
/-! what is never reached; t[::-1] of a tuple; enumerate(t) of a tuple -/
namespace HT
open PySem PySem.Spec PyProof.Rows
section
variable {prog : Program} {w : World} {A : Around} {E : Value → Shared → Prop} {s : Shared}
theorem adjust_rev (n : Nat) : Builtin.Slice.sliceAdjust none none (-1) (n : Int) = ((n : Int) - 1, -1) := by
  unfold Builtin.Slice.sliceAdjust
  rfl
theorem places_rev (n : Nat) : Builtin.Slice.slicePlaces ((n : Int) - 1) (-1) (-1) = n := by
  unfold Builtin.Slice.slicePlaces
  have h1 : ¬ (-1 : Int) > 0 := by omega
  simp only [h1, if_false, Int.neg_neg, Int.ediv_one]
  split <;> omega
theorem sliceApplied_rev {sl : Addr} {vs : Value} {n : Nat} {Q : Int × Int × Nat → Shared → Prop} (hs : s.heap.IsSliceOf sl .none .none vs) (ps : IsPart vs (some (-1)))
    (h : Q ((n : Int) - 1, -1, n) s) : wpAny (model prog w) A (Builtin.Slice.sliceApplied (.ref sl) (pure (n : Int))) Q E s := by
  obtain ⟨os, hos, hcs, hds⟩ := id hs
  unfold Builtin.Slice.sliceApplied Builtin.Slice.sliceFields
  refine wpAny_bind (wpAny_bind (wpAny_field hos hds (x := .none) rfl (wpAny_bind (wpAny_field hos hds (x := .none) rfl (wpAny_bind (wpAny_field hos hds (x := vs) rfl (wpAny_pure ?_)))))))
  refine wpAny_bind (slicePart_ ps ?_)
  show wpAny _ _ (if ((-1 : Int) == 0) = true then _ else _) _ _ s
  rw [if_neg (by decide)]
  refine wpAny_bind (slicePart_none (wpAny_bind (slicePart_none (wpAny_bind (wpAny_pure ?_)))))
  show wpAny _ _ (match Builtin.Slice.sliceAdjust none none (-1) (n : Int) with | (lo, hi) => pure (lo, (-1 : Int), Builtin.Slice.slicePlaces lo hi (-1))) _ _ s
  rw [adjust_rev n]
  show wpAny _ _ (pure ((n : Int) - 1, (-1 : Int), Builtin.Slice.slicePlaces ((n : Int) - 1) (-1) (-1))) _ _ s
  rw [places_rev]
  exact wpAny_pure h
theorem pick_rev (xs : Array Value) : ((List.range xs.size).filterMap fun (m : Nat) => xs[(((xs.size : Int) - 1) + (m : Int) * (-1)).toNat]?).toArray = xs.toList.reverse.toArray := by
  congr 1
  have e : (fun (m : Nat) => xs[(((xs.size : Int) - 1) + (m : Int) * (-1)).toNat]?) = fun m => if m < xs.size then xs[xs.size - 1 - m]? else xs[0]? := by
    funext m
    by_cases hm : m < xs.size
    · rw [if_pos hm]
      have : (((xs.size : Int) - 1) + (m : Int) * (-1)).toNat = xs.size - 1 - m := by omega
      rw [this]
    · rw [if_neg hm]
      have : (((xs.size : Int) - 1) + (m : Int) * (-1)).toNat = 0 := by omega
      rw [this]
  rw [e]
  have e2 : (List.range xs.size).filterMap (fun m => if m < xs.size then xs[xs.size - 1 - m]? else xs[0]?) = (List.range xs.size).filterMap (fun m => xs[xs.size - 1 - m]?) := by
    have key : ∀ l : List Nat, (∀ m ∈ l, m < xs.size) → l.filterMap (fun m => if m < xs.size then xs[xs.size - 1 - m]? else xs[0]?) = l.filterMap (fun m => xs[xs.size - 1 - m]?) := by
      intro l
      induction l with
      | nil => intro _; rfl
      | cons m l ih =>
        intro h
        rw [List.filterMap_cons, List.filterMap_cons, if_pos (h m List.mem_cons_self), ih fun k hk => h k (List.mem_cons_of_mem _ hk)]
    exact key _ fun m hm => List.mem_range.mp hm
  have e3 := PySem.W.krv_range xs.size
  have e4 : (List.range xs.size).filterMap (fun m => xs[xs.size - 1 - m]?) = ((List.range xs.size).map (fun k => xs.size - 1 - k)).filterMap (xs[·]?) := by
    rw [List.filterMap_map]
    rfl
  rw [e2, e4, e3, List.filterMap_reverse, PySem.W.krv_all]
theorem getItem_tuple_rev {t sl : Addr} {items : Array Value} {vs : Value} {Q : Value → Shared → Prop} (ht : IsTup s.heap t items) (hs : s.heap.IsSliceOf sl .none .none vs) (ps : IsPart vs (some (-1)))
    (h : Q (.ref s.heap.objs.size) { s with heap := s.heap.push { cls := .type "tuple", data := .seq items.toList.reverse.toArray } })
    (hsz : items.size ≤ sizeLine) : wpAny (model prog w) A (getItem (.ref t) (.ref sl)) Q E s := by
  have htake : sizeOk (.seq items.toList.reverse.toArray) := by
    show items.toList.reverse.toArray.size ≤ sizeLine
    rw [List.size_toArray, List.length_reverse, Array.length_toList]
    omega
  obtain ⟨os, hos, hcs, hds⟩ := id hs
  have hTs : s.TypeIs (.ref sl) "slice" := ⟨os, hos, hcs⟩
  unfold getItem
  try with_reducible refine wpAny_holding ?_
  first | refine wpAny_bind (wpAny_pure ?_) | skip
  refine wpAny_bind (wpAny_sequenceKey ht.typeIs (by decide) ?_)
  refine wpAny_bind (wpAny_callSpecial?_slot (name := Str.ofString "__getitem__") ht.typeIs PyProof.Rows.slot_tuple_getitem
    (wpAny_call_entry PyProof.Rows.slot_tuple_getitem ht.typeIs entry_tuple_getitem ?_ (args_tuple_getitem _ _)))
  show wpAny _ _ (Builtin.Tuple.tupleItemsOf (.ref t) >>= _) _ _ s
  refine wpAny_bind (tupleItemsOf_ ht ?_)
  refine wpAny_bind (wpAny_typeOf hTs ?_)
  rw [if_pos (by decide)]
  refine wpAny_bind (sliceApplied_rev hs ps ?_)
  have hno : ¬ ((((items.size : Int) - 1) == 0 && (-1 : Int) == 1 && items.size == items.size) = true) := by
    intro q
    rw [Bool.and_eq_true, Bool.and_eq_true] at q
    exact absurd (eq_of_beq q.1.2) (by decide)
  show wpAny _ _ (if (((items.size : Int) - 1) == 0 && (-1 : Int) == 1 && items.size == items.size) = true then _ else _) _ _ s
  rw [if_neg hno, pick_rev]
  first
    | exact wpAny_bind (m := Builtin.Tuple.tupleExact _) (wpAny_newObj_type (wpAny_pure ⟨_, rfl, wpAny_pure h⟩) htake)
    | exact wpAny_bind (m := Builtin.Tuple.tupleExact _) (wpAny_newObj_type (wpAny_bind (wpAny_pure (wpAny_pure ⟨_, rfl, wpAny_pure h⟩))) htake)
    | exact wpAny_bind (wpAny_bind (m := Builtin.Tuple.tupleExact _) (wpAny_newObj_type (wpAny_pure (wpAny_pure ⟨_, rfl, wpAny_pure h⟩)) htake))
    | exact wpAny_bind (wpAny_bind (m := Builtin.Tuple.tupleExact _) (wpAny_newObj_type (wpAny_pure ⟨_, rfl, wpAny_pure h⟩) htake))
end
end HT
namespace L2
open PySem PySem.Spec PyProof.Rows
section
variable {X : Cx} {e : Expr} {es : List Expr} {st : Stmt} {ss : List Stmt}
/-- what is never reached -/
def tNoE : TE := fun _ _ _ => False
theorem pe_never : PE X e tNoE := ⟨fun _ _ _ _ _ _ h => h.elim⟩
theorem pt_never : PT X e (fun _ _ _ => False) := ⟨fun _ _ _ _ _ _ h => h.elim⟩
theorem pa_never : PA X es (fun _ _ _ => False) := ⟨fun _ _ _ _ _ _ _ h => h.elim⟩
theorem pg_never : PG X e (fun _ _ _ _ => False) := ⟨fun _ _ _ _ _ _ _ _ _ h => h.elim⟩
def tRevT (K : PySem.W.Frag) (te : TE) : TE := fun σ H Q => te σ H fun x H1 => ∃ a xs, x = .ref a ∧ SqT K H1 a xs ∧ ∀ p, H1 p = none → Q (.ref p) (upd H1 p (.tup xs.reverse))
theorem pe_revT {te : TE} {k : Nat} {p1 p2 p3 pos : Pos} (he : PE X e te) : PE X (.Subscript e (.Slice none none (some (.UnaryOp .USub (.Constant (.int 1) k p1) p2)) p3) pos) (tRevT X.K te) := by
  refine ⟨fun pins s σ H Q I h => ?_⟩
  refine Subscript_ (thn (he.run pins s σ H _ I h) fun v s1 ⟨x, H1, I1, r1, q1⟩ => ?_)
  obtain ⟨a, xs, ex, hx, q⟩ := q1
  subst ex
  cases r1
  have hst : PO X (some (.UnaryOp .USub (.Constant (.int 1) k p1) p2)) (tPart (tUn (rU fun i => .int (-i)) (tC (.int 1)))) := po_some (pe_un un_neg pe_int)
  refine wpAny_Slice (thn (po_none.run pins s1 σ H1 (fun o H2 => o = none ∧ H2 = H1) I1 ⟨rfl, rfl⟩) fun vl s2 ⟨l, H2, I2, pl, el, e2⟩ => ?_)
  subst el e2
  refine thn (po_none.run pins s2 σ H2 (fun o H3 => o = none ∧ H3 = H2) I2 ⟨rfl, rfl⟩) fun vu s3 ⟨u, H3, I3, pu, eu, e3⟩ => ?_
  subst eu e3
  refine thn (hst.run pins s3 σ H3 (fun o H4 => o = some (-1) ∧ H4 = H3) I3 ⟨1, rfl, -1, rfl, rfl, rfl⟩) fun vs s4 ⟨o, H4, I4, ps, eo, e4⟩ => ?_
  subst eo e4
  have I5 : Inv X pins σ H4 { s4 with heap := s4.heap.push { cls := .type "slice", data := .fields #[vl, vu, vs] } } := I4.kept (t' := s4.toks) fun b ob q => Heap.get?_push_of_some _ q
  obtain ⟨its, r, ht, hz⟩ := I5.tuple hx
  have hlen := r.length
  cases pl
  cases pu
  show wpAny (model X.prog X.w) X.A (subscriptTail e (.Slice none none (some (.UnaryOp .USub (.Constant (.int 1) k p1) p2)) p3) (.ref a) (.ref s4.heap.objs.size)) (EP X pins σ Q) X.xe { s4 with heap := s4.heap.push { cls := .type "slice", data := .fields #[.none, .none, vs] } }
  refine tail_any (ops := [.ref a, .ref s4.heap.objs.size]) ht.typeIs (PyProof.Rows.slot_tuple_getitem.lookup) ?_ (by with_unfolding_all rfl)
  refine HT.getItem_tuple_rev ht (Heap.IsSliceOf.new _ .none .none vs) ps ?_ (by rw [List.size_toArray]; omega)
  refine ⟨.ref _, _, I5.laid (t' := s4.toks) (o := .tup xs.reverse) (fun b ob q => Heap.get?_push_of_some _ q) (Nat.le_refl _) ?_, rfl, q _ (I5.hok.fresh (Nat.le_refl _))⟩
  refine ⟨by rw [List.length_reverse]; exact hz, _, r.reverse, ?_⟩
  have e1 : its.toArray.toList.reverse.toArray = its.reverse.toArray := by simp
  rw [e1]
  exact PyProof.Rows.IsTup.new _ _

/-! ### enumerate(tuple) -/
def IteT (K : PySem.W.Frag) (a : Addr) : It :=
  ⟨fun i H => ∃ (xs : List V) (x : V), SqT K H a xs ∧ xs[i]? = some x, fun i H v H' => ∃ T x, v = .ref T ∧ H T = none ∧ H' = upd H T (.tup [.int (i : Nat), x]) ∧ ∀ xs, SqT K H a xs → xs[i]? = some x, fun i H => ∃ xs : List V, SqT K H a xs ∧ xs.length ≤ i⟩
theorem turn_enumT {P : Program} {w : World} {K : PySem.W.Frag} {elts : List Expr} {kk : Nat} {tpos : Pos} (a e it : Addr) :
    Turn P w K (.Tuple elts kk tpos) (IteT K a) [e, it] e (fun i h => (∃ old, IsEnum h e it ((i : Nat) : Int) old) ∧ h.IsTupleIter it a i ∧ e ≠ it) where
  mem := by simp
  obj := fun i h st b hb => by
    obtain ⟨⟨old, he⟩, ⟨o, ho, hc, hd⟩, _⟩ := st
    have e' : b = e ∨ b = it := by simpa using hb
    rcases e' with z | z
    · rw [z]; exact ⟨_, he, fun v q => nomatch q⟩
    · rw [z]; exact ⟨o, ho, fun v q => by rw [hd] at q; cases q⟩
  keep := fun i h h' st k => let ⟨⟨old, he⟩, hi, hne⟩ := st; ⟨⟨old, k e (by simp) _ he⟩, hi.at fun o q => k it (by simp) o q, hne⟩
  item := by
    intro X hP hw hK hc i pins s σ H E I hf st hg
    subst hP hw hK
    obtain ⟨⟨old, he⟩, hit, hne⟩ := st
    obtain ⟨xs, x, hq, hx⟩ := hg
    obtain ⟨its, rv, p, hz⟩ := I.tuple hq
    obtain ⟨u, hu, ru⟩ := rv.get hx
    have hel : e < s.heap.objs.size := Heap.lt_size he
    have hil : it < s.heap.objs.size := by obtain ⟨_, q, _⟩ := hit; exact Heap.lt_size q
    have hai : a ≠ it := fun z => by
      obtain ⟨o1, q1, c1, _⟩ := hit
      obtain ⟨o2, q2, c2, _⟩ := p
      rw [z] at q2
      rw [Option.some.inj (q2.symm.trans q1), c1] at c2
      exact absurd c2 (by simp)
    have hae : e ∉ [it, a] := fun z => by
      have z' : e = it ∨ e = a := by simpa using z
      rcases z' with z | z
      · exact hne z
      · obtain ⟨o2, q2, c2, _⟩ := p
        rw [← z] at q2
        have q1 : s.heap.get? e = some _ := he
        rw [← Option.some.inj (q1.symm.trans q2)] at c2
        exact absurd c2 (by simp)
    have hlt : i < its.toArray.size := by
      have := (List.getElem?_eq_some_iff.mp hu).1
      simpa using this
    have hux : its.toArray[i]? = some u := by simpa using hu
    refine wpAny_pyNext_enum_itemD (Draws.tuple (A := X.A.in1) (by exact I.ok.hd hc) it a hai its.toArray) he ⟨hit, p⟩ hlt hne hae fun x' h' tk hP ho hst hT hsz hk => ?_
    have ex : x' = u := Option.some.inj (hP.symm.trans hux)
    subst ex
    refine ⟨_, rfl, wpAny_letOwnedTupleGo_enum (s := { s with heap := h', toks := tk + 1 }) ho fun h'' he' sb => ?_⟩
    have hT2 : h''.get? s.heap.objs.size = some { cls := .type "tuple", data := .seq #[.int i tk, x'] } := (sb.2 _ (Nat.ne_of_gt hel)).trans hT
    have new : ObjOk X.prog X.w (upd H s.heap.objs.size (.tup [.int (i : Nat), x])) h'' s.heap.objs.size (.tup [.int (i : Nat), x]) :=
      ⟨by show 2 ≤ sizeLine; decide, [.int i tk, x'], .cons ⟨_, rfl⟩ (.cons ru .nil), ⟨_, hT2, rfl, _, rfl⟩⟩
    have I1 : Inv X pins σ (upd H s.heap.objs.size (.tup [.int (i : Nat), x])) { s with heap := h'', toks := tk + 1 } :=
      I.turnedNew (ch := [e, it]) (fun b ob hb q => (sb.2 b (fun z => hb (by simp [z]))).trans (hk b ob (fun z => hb (by simp [z])) (fun z => hb (by simp [z])) q)) hf (Nat.le_refl _) new
    refine ⟨.ref s.heap.objs.size, _, I1, rfl, ⟨_, x, rfl, I.hok.fresh (Nat.le_refl _), rfl, fun ys hy => by rw [I.tuple_inj hy hq]; exact hx⟩, ⟨⟨x', ?_⟩, hst.1.at fun o q => (sb.2 it (Ne.symm hne)).trans q, hne⟩, fun b hb => ?_⟩
    · have e1 : ((i + 1 : Nat) : Int) = (i : Int) + 1 := by omega
      rw [e1]; exact he'
    · have hb' : b < s.heap.objs.size := by
        have e' : b = e ∨ b = it := by simpa using hb
        rcases e' with z | z
        · rw [z]; exact hel
        · rw [z]; exact hil
      rw [upd_ne (Nat.ne_of_lt hb')]
      exact (hf b hb).1
  done := by
    intro X hP hw hK hc i pins s σ H E I hf st hg
    subst hP hw hK
    obtain ⟨⟨old, he⟩, hit, hne⟩ := st
    obtain ⟨xs, hq, hx⟩ := hg
    obtain ⟨its, rv, p, hz⟩ := I.tuple hq
    obtain ⟨f0, f1, f2, f3, f4, f5⟩ := hf it (by simp)
    have hl := rv.length
    have hh : X.A.handled = none := I.ok.hd hc
    have hT : s.TypeIs (.ref e) "enumerate" := ⟨_, he, rfl⟩
    have hend : its.toArray[i]? = none := by simp; omega
    unfold pyNext
    refine wpAny_bind (wpAny_attempt (wpAny_callSpecial?_slot (name := Str.ofString "__next__") hT F.slot_enumerate_next
      (wpAny_call_entry F.slot_enumerate_next hT F.entry_enumerate_next ?_ (F.args_enumerate_next_1 _))))
    show wpAny _ _ (field (.ref e) 2 >>= _) _ _ _
    refine wpAny_bind (wpAny_field he rfl (x := .ref it) rfl ?_)
    refine wpAny_bind (wpAny_nextOf_tuple_end (A := X.A.in1) hh hit p hend fun h' x he' hx' => ?_)
    obtain ⟨o, ho, hc⟩ := hx'
    refine wpAny_bind (wpAny_isInstance (T := "StopIteration") (b := true) ⟨o, ho, hc⟩ isSubtype_stop ?_)
    exact wpAny_pure ⟨rfl, I.turned (t' := s.toks) (fun b o hb q => he' b o hb q) f0 f1 f3 f4 f5⟩
  self := fun A i s Q E st h => let ⟨⟨_, he⟩, _⟩ := st; wpAny_pyIter_enum he h
theorem meets_enumerate_newT (l : Addr) (items : Array Value) (o : Obj) :
    Meets (Builtin.«enumerate.__new__» ⟨[.type "enumerate", .ref l], []⟩) (fun _ R s => s.heap.IsTuple l items ∧
      R (.ok (.ret (.ref (s.heap.push { cls := .type "tuple_iterator", data := .fields #[.ref l, .int 0 0] }).objs.size)))
        { s with heap := (s.heap.push { cls := .type "tuple_iterator", data := .fields #[.ref l, .int 0 0] }).push { cls := .type "enumerate", data := .fields #[.none, .bool false, .ref s.heap.objs.size, rawInt 0, .none, .none] } }) :=
  .of_wp fun prog w A R s h => by
    obtain ⟨hp, g, d, tk, os⟩ := s; obtain ⟨hl, h⟩ := h
    have hsub := sub_enumerate
    have q1 : ∀ {A' : Around} {E : Value → Shared → Prop} {Q : Value → Shared → Prop}, Q (.ref hp.objs.size) ⟨hp.push { cls := .type "tuple_iterator", data := .fields #[.ref l, .int 0 0] }, g, d, tk, os⟩ → wpAny (model prog w) A' (pyIter (.ref l)) Q E ⟨hp, g, d, tk, os⟩ :=
      fun q => wpAny_pyIter_tuple hl q
    wp_walk using q1
    refine wpAny_stack_any fun st => wpAny_pure ?_
    split
    · rename_i c _ _ _ _ _
      cases (c == Value.type "enumerate")
      · wp_walk using q1
        exact ⟨_, rfl, h⟩
      · wp_walk using q1
        exact ⟨_, rfl, h⟩
    · wp_walk using q1
      exact ⟨_, rfl, h⟩
theorem call_enumerate_tuple {prog : Program} {w : World} {A : Around} {E : Value → Shared → Prop} {s : Shared} {l : Addr} {items : Array Value} {Q : Value → Shared → Prop} (hL : s.heap.IsTuple l items)
    (h : ∀ h', IsEnum h' (s.heap.objs.size + 1) s.heap.objs.size 0 .none → h'.IsTupleIter s.heap.objs.size l 0 → h'.objs.size = s.heap.objs.size + 2 →
      (∀ b o, s.heap.get? b = some o → h'.get? b = some o) → Q (.ref (s.heap.objs.size + 1)) { s with heap := h' }) :
    wpAny (model prog w) A (call (.type "enumerate") [.ref l]) Q E s := by
  refine callType_new F.called_enumerate (by decide) (F.typeCall_enumerate_1 _) (F.newCall_enumerate_1 _) (fun obj => F.args_object_init_2 obj _) F.entry_enumerate_new
    (meets_enumerate_newT l items default) ⟨hL, ?_⟩
  have hz : (s.heap.push { cls := .type "tuple_iterator", data := .fields #[.ref l, .int 0 0] }).objs.size = s.heap.objs.size + 1 := Heap.size_push ..
  show _ ∧ _
  rw [hz]
  have he : IsEnum ((s.heap.push { cls := .type "tuple_iterator", data := .fields #[.ref l, .int 0 0] }).push
      { cls := .type "enumerate", data := .fields #[.none, .bool false, .ref s.heap.objs.size, rawInt 0, .none, .none] }) (s.heap.objs.size + 1) s.heap.objs.size 0 .none := by
    have := Heap.get?_push_size (s.heap.push { cls := .type "tuple_iterator", data := .fields #[.ref l, .int 0 0] }) (o := { cls := .type "enumerate", data := .fields #[.none, .bool false, .ref s.heap.objs.size, rawInt 0, .none, .none] }) rfl
    rw [hz] at this; exact this
  refine ⟨⟨_, he, rfl⟩, h _ he ⟨_, Heap.get?_push_of_some _ (Heap.get?_push_size _ rfl), rfl, rfl⟩ (by rw [Heap.size_push, hz]) fun b o x => Heap.get?_push_of_some _ (Heap.get?_push_of_some _ x)⟩
def iEnumT (K : PySem.W.Frag) (ta : TA) : TI := fun σ H R => ta σ H fun vs H1 => ∃ a xs, vs = [.ref a] ∧ SqT K H1 a xs ∧ R (IteT K a) H1
theorem pi_enumT {X : Cx} {e : Expr} {ta : TA} {p pos tpos : Pos} {elts : List Expr} {kk : Nat} (hg : Gl X "enumerate") (hm : X.mg "enumerate" = none) (ha : PA X [e] ta) (hs : starEach [e] X.env = [(false, eval e X.env)] := by rfl) :
    PI X (.Tuple elts kk tpos) (.Call (.Name "enumerate" p) [e] [] pos) (iEnumT X.K ta) := by
  refine ⟨fun pins s σ H R I h => ?_⟩
  refine Call_ (ld_blt I hg hm boot_enumerate (PyProof.Rows.callWith_type1 (thn (ha.run pos pins s σ H _ I h) fun us s1 ⟨vs, H1, I1, r1, q1⟩ => ?_) hs rfl))
  obtain ⟨a, xs, ex, hq, q⟩ := q1
  subst ex
  cases r1 with
  | cons r rr =>
    cases rr
    cases r
    obtain ⟨its, rv, p', hz⟩ := I1.tuple hq
    refine call_enumerate_tuple p' fun h' he hit hsz hk => wpAny_pyIter_enum he ?_
    have I2 : Inv X pins σ H1 { s1 with heap := h' } := I1.kept (t' := s1.toks) hk
    refine ⟨s1.heap.objs.size + 1, [s1.heap.objs.size + 1, s1.heap.objs.size], _, _, H1, rfl, I2, turn_enumT a (s1.heap.objs.size + 1) s1.heap.objs.size, ⟨⟨.none, he⟩, hit, Nat.succ_ne_self _⟩, fun b hb => ?_, q⟩
    have e' : b = s1.heap.objs.size + 1 ∨ b = s1.heap.objs.size := by simpa using hb
    have hle : s1.heap.objs.size ≤ b := by
      rcases e' with z | z
      · rw [z]; exact Nat.le_add_right _ _
      · rw [z]; exact Nat.le_refl _
    exact I1.fpOk hle (I1.hok.fresh hle)
theorem walk_enumT {K : PySem.W.Frag} {a : Addr} {xs : List V} : Walk (IteT K a) xs.length (fun H => SqT K H a xs) (YPair (fun i => some (.int (i : Nat))) (fun i => xs[i]?)) := by
  refine ⟨fun i _ hi q => ⟨xs, xs[i], q, by simp [hi]⟩, fun _ q => ⟨xs, q, Nat.le_refl _⟩, fun i H v H' _ q y => ?_⟩
  obtain ⟨T, x, h1, h2, h3, h4⟩ := y
  exact ⟨T, .int (i : Nat), x, h1, h2, h3, rfl, h4 xs q⟩
end
end L2
end

section
set_option Elab.async false
set_option linter.all false
set_option maxRecDepth 100000
set_option maxHeartbeats 2000000
/-! a def (a, b, *v, c=.., **d): called with a, b alone, or with a, b and c by name; a class called by a local name -/
namespace InC
open PySem PySem.Spec PyProof.Rows L2 StX
/-- what binding comes to: nothing left over, no further keywords -/
def BndOk (K : PySem.W.Frag) (fd : FuncData) (args : Args) (l : List (Str × Value)) (pv pd : Str) : Prop :=
  ∀ (M : Model) (A : Around) (Q : List (Str × Value) → Shared → Prop) (E : Value → Shared → Prop) (s : Shared), K.In s.heap →
    wpAny M A (newTuple [] >>= fun t => (alloc ({ cls := .type "dict", data := .dict #[] } : Obj) : Sem Addr) >>= fun d => pure (l ++ [(pv, t), (pd, Value.ref d)])) Q E s → wpAny M A (bindArgs fd args) Q E s
section
variable {CX : CXT} {P : Program} {w : World} {K : PySem.W.Frag} {mg : Str → Option Value} {base : Heap} {k : Nat} {f : Addr} {name qual : Str} {params : Arguments} {body : List Stmt} {scope : Scope} {dV kV doc pm cdv ct oc : Value} {an od : Option Addr}
  {osl : Array (Option Value)} {N ps : List Str} {sp : Sp} {pv pd : Str}
theorem run_in {A : Around} {outer : List Env} {s : Shared} {H : Hp} {args : Args} {us : List Value} {vs : List V} {Q : VK} {E : XK} (lk : K.lookup f = some ⟨oc, od, .func (PySem.W.fnOf name qual params body scope dV kV doc pm an cdv ct), osl⟩) (hcd : PySem.W.codeIn K cdv qual = true)
    (S : FnScope N (ps ++ [pv, pd]) scope) (hCX : CXUp CX) (hr : Room (k + 1) A) (e0 : Env0 P w K mg base A outer s H) (hb : BndOk K (PySem.W.fnOf name qual params body scope dV kV doc pm an cdv ct) args (ps.zip us) pv pd) (r : Vals vs us) (hl : vs.length = ps.length)
    (hbody : ∀ (A : Around) (outer : List Env) (s : Shared) (H : Hp) (vs : List V) (Q : VK) (E : XK), Room k (A.deeper (envOfC qual scope s.heap.objs.size f cdv)) → sp vs H Q E →
      ∃ t, PSs (cxOf CX P w K mg base N qual scope f cdv A outer s H E) body t ∧ t { nx := fun _ H' => Q .non H', rt := Q } (start N vs) H)
    (hq : ∀ p d, H p = Option.none → H d = Option.none → d ≠ p → sp (vs ++ [V.ref p, V.ref d]) (upd (upd H p (.tup [])) d (.dK [])) Q E) :
    codeAny (model P w) A (.call (.ref f) args) (CR CX outer P w H s Q E) s := by
  have hn : H s.heap.objs.size = Option.none := e0.hok.fresh (Nat.le_refl _)
  have hl1 : us.length = ps.length := by rw [← r.length]; exact hl
  have KX : K.In s.heap := e0.mod.kin.keeps fun b o e => (e0.bs b o e).1
  refine run_bnd lk hcd S hr e0 (G := fun xs H2 => ∃ p d, H p = Option.none ∧ H d = Option.none ∧ d ≠ p ∧ xs = vs ++ [V.ref p, V.ref d] ∧ H2 = upd (upd H p (.tup [])) d (.dK [])) (fun A' Ex Q' h => ?_) fun s2 H2 xs ⟨p, d, hp, hd, hne, ex, eH⟩ hr' => ?_
  · refine hb _ _ _ _ _ KX ?_
    refine wpAny_bind (wpAny_newTuple (wpAny_bind (wpAny_alloc (wpAny_pure ?_))) (by show 0 ≤ sizeLine; exact Nat.zero_le _))
    have new : ObjOk P w (upd H s.heap.objs.size (.tup [])) (s.heap.push ({ cls := .type "tuple", data := .seq ([] : List Value).toArray } : Obj)) s.heap.objs.size (.tup []) := ⟨Nat.zero_le _, [], .nil, ⟨_, Heap.get?_push_size _ rfl, rfl, _, rfl⟩⟩
    have e1 := env0_laid e0 new
    have un1 := un_laid (fs := frs outer) (s := s) (o := ({ cls := .type "tuple", data := .seq ([] : List Value).toArray } : Obj)) (u := .tup []) hn
    have hn2 := e1.hok.fresh (Nat.le_refl _)
    have e2 := env0_laid (u := .dK []) (o := ({ cls := .type "dict", data := .dict #[] } : Obj)) e1 (dk_empty _ (env0_big e1))
    have un2 := un1.trans (un_laid (fs := frs outer) (s := { s with heap := s.heap.push ({ cls := .type "tuple", data := .seq ([] : List Value).toArray } : Obj) }) (o := ({ cls := .type "dict", data := .dict #[] } : Obj)) (u := .dK []) hn2)
    have sz : (s.heap.push ({ cls := .type "tuple", data := .seq ([] : List Value).toArray } : Obj)).objs.size = s.heap.objs.size + 1 := Heap.size_push _ _
    have ne : (s.heap.push ({ cls := .type "tuple", data := .seq ([] : List Value).toArray } : Obj)).objs.size ≠ s.heap.objs.size := by
      rw [sz]
      exact Nat.succ_ne_self _
    have hd : H (s.heap.push ({ cls := .type "tuple", data := .seq ([] : List Value).toArray } : Obj)).objs.size = Option.none := e0.hok.fresh (by rw [sz]; exact Nat.le_succ _)
    have z := h _ _ (vs ++ [V.ref s.heap.objs.size, V.ref (s.heap.push ({ cls := .type "tuple", data := .seq ([] : List Value).toArray } : Obj)).objs.size]) (us ++ [Value.ref s.heap.objs.size, Value.ref (s.heap.push ({ cls := .type "tuple", data := .seq ([] : List Value).toArray } : Obj)).objs.size]) e2 un2 rfl
      (fun e s' => hCX outer s H _ _ E e s' un2 (fun b o q => Heap.get?_push_of_some _ (Heap.get?_push_of_some _ q)) rfl) (r.append (.cons rfl (.cons rfl .nil))) (by rw [List.length_append, List.length_append, hl] <;> rfl) ⟨_, _, hn, hd, ne, rfl, rfl⟩
    rw [List.zip_append hl1.symm] at z
    exact z
  · subst ex eH
    exact hbody A outer s2 _ _ Q E hr' (hq p d hp hd hne)
end
/-- with one keyword-only default that is looked up (the name c) -/
theorem bnd_dflt {K : PySem.W.Frag} {fd : FuncData} {args : Args} {l : List (Str × Value)} {pv pd c : Str} {D : Addr} {av : Value} (hk : PySem.W.nsIn K D c = some (some av))
    (h : ∃ (β γ : Type) (k1 : Option Value → Sem β) (k2 : β → Sem γ) (k3 : γ → Sem (List (Str × Value))) (a : β), bindArgs fd args = ((nsGet D c >>= k1) >>= k2) >>= k3 ∧ k1 (some av) = pure a ∧
      (k2 a >>= k3) = (newTuple [] >>= fun t => (alloc ({ cls := .type "dict", data := .dict #[] } : Obj) : Sem Addr) >>= fun d => pure (l ++ [(pv, t), (pd, Value.ref d)]))) : BndOk K fd args l pv pd := fun M A Q E s X q => by
  obtain ⟨β, γ, k1, k2, k3, a, e1, e2, e3⟩ := h
  have l1 : PySem.W.Looks M s.heap (nsGet D c >>= k1) a := (PySem.W.looks_nsIn X hk).andThen (PySem.W.Looks.of_pure e2)
  rw [e1, bind_assoc]
  refine wpAny_bind (l1.here ?_)
  rw [e3]
  exact q
theorem bnd_all {K : PySem.W.Frag} {fd : FuncData} {args : Args} {l : List (Str × Value)} {pv pd : Str}
    (h : bindArgs fd args = (newTuple [] >>= fun t => (alloc ({ cls := .type "dict", data := .dict #[] } : Obj) : Sem Addr) >>= fun d => pure (l ++ [(pv, t), (pd, Value.ref d)]))) : BndOk K fd args l pv pd := fun M A Q E s X q => by
  rw [h]
  exact q

/-! ### making an instance by a local name, and by keywords -/
section
variable {X : Cx} {CX : CXT} {k i : Nat} {f C : Addr} {sp : Sp} {E : XK} {x : Str} {e : Expr} {es : List Expr} {t tk : TA} {p pos : Pos} {kws : List Keyword}
/-- c(e, ..), c the def's own name that holds the class at C -/
theorem pe_makeL (M : Mk X.K C f) (F : FnR X.prog X.w X.K X.mg X.base CX k f sp) (hr : Room (k + 1) X.A) (hN : X.N[i]? = some x) (hv : Vis X.env.scope x) (hx : Passes CX X E) (ha : PA X (e :: es) t) (hd : (x == ("__debug__" : Str)) = false := by decide)
    (hcd : (x == ("__classdict__" : Str)) = false := by decide)
    (he : starEach (e :: es) X.env = (false, eval e X.env) :: starEach es X.env := by rfl) (hpl : (backTo pos (starEach es X.env)).any (·.1) = false := by rfl) :
    PE X (.Call (.Name x p) (e :: es) [] pos) (fun σ H Q => σ[i]? = some (some (.ref C)) ∧ tMakeR C sp E t σ H Q) := by
  refine ⟨fun pins s σ H Q I h => ?_⟩
  obtain ⟨hs, h⟩ := h
  refine wpAny_Call_Name_kw (thn ((pe_var (pos := p) (i := i) hN hv hd hcd).run pins s σ H (fun v H1 => v = .ref C ∧ H1 = H) I ⟨.ref C, hs, rfl, rfl⟩) fun u s1 ⟨v, H1, I1, r1, q1⟩ => ?_)
  obtain ⟨ev, eH⟩ := q1
  subst ev
  subst eH
  obtain rfl : u = Value.ref C := r1
  refine PySem.W.callWith_K (h₀ := X.base) I.ok.mod.kin M.kp (thn (ha.run pos pins s1 σ H1 _ I1 h) fun us s1 ⟨vs, H1, I1, r, q⟩ => ⟨I1.kIn, ?_⟩) he hpl
  exact run_makeR M F hr hx I1 r q
/-- a promise of a call with keywords: the positional values, the keywords' values (names ks) -/
def FnKw (P : Program) (w : World) (K : PySem.W.Frag) (mg : Str → Option Value) (base : Heap) (CX : CXT) (k : Nat) (f : Addr) (ks : List Str) (sp : List V → List V → Hp → VK → XK → Prop) : Prop :=
  ∀ (A : Around) (outer : List Env) (s : Shared) (H : Hp) (us ws : List Value) (vs zs : List V) (Q : VK) (E : XK), Room k A → Env0 P w K mg base A outer s H → Vals vs us → Vals zs ws → zs.length = ks.length → sp vs zs H Q E →
    codeAny (model P w) A (.call (.ref f) ⟨us, ks.zip ws⟩) (CR CX outer P w H s Q E) s
def tMakeKw (C : Addr) (m : Nat) (sp : List V → List V → Hp → VK → XK → Prop) (E : XK) (t tk : TA) : TE := fun σ H Q => t σ H fun vs H1 => tk σ H1 fun zs H2 => zs.length = m ∧ ∀ x dx, H2 x = Option.none → H2 dx = Option.none → dx ≠ x →
  sp (V.ref x :: vs) zs (upd (upd H2 dx (.own x)) x (.ins C dx [])) (fun v H3 => v = .non ∧ Q (.ref x) H3) E
/-- C(e, .., k = v, ..) -/
theorem pe_makeKw {ks : List Str} {sp : List V → List V → Hp → VK → XK → Prop} (M : Mk X.K C f) (F : FnKw X.prog X.w X.K X.mg X.base CX k f ks sp) (hr : Room (k + 1) X.A) (hg : Gl X x) (hm : X.mg x = some (.ref C)) (hx : Passes CX X E) (ha : PA X (e :: es) t) (hkw : PK X kws tk)
    (hall : (backToKw pos (keywordEach kws X.env)).all (·.1.isSome) = true := by rfl) (hks : (backToKw pos (keywordEach kws X.env)).filterMap (·.1) = ks := by rfl) (hdb : (x == ("__debug__" : Str)) = false := by decide)
    (he : starEach (e :: es) X.env = (false, eval e X.env) :: starEach es X.env := by rfl) (hpl : ((backTo pos (starEach (e :: es) X.env)).any (·.1) || (backToKw pos (keywordEach kws X.env)).any (·.1.isNone)) = false := by rfl) :
    PE X (.Call (.Name x p) (e :: es) kws pos) (tMakeKw C ks.length sp E t tk) := by
  refine ⟨fun pins s σ H Q I h => ?_⟩
  refine wpAny_Call_Name_kw (ld_glob I hg hm ?_ hdb)
  refine PySem.W.callWith_KW (h₀ := X.base) I.ok.mod.kin M.kp hall (thn (ha.run pos pins s σ H _ I h) fun us s1 ⟨vs, H1, I1, r, q⟩ => ?_) hpl he
  refine thn (hkw.run pos pins s1 σ H1 _ I1 q) fun ws s2 ⟨zs, H2, I2, rz, l3, q2⟩ => ⟨I2.kIn, ?_⟩
  rw [hks]
  have hq := q2 (s2.heap.objs.size + 1) s2.heap.objs.size (I2.hok.fresh (Nat.le_succ _)) (I2.hok.fresh (Nat.le_refl _)) (Nat.ne_of_lt (Nat.lt_succ_self _))
  have I3 := Inv.made (C := C) I2
  have r2 : Vals (V.ref (s2.heap.objs.size + 1) :: vs) (Value.ref (s2.heap.objs.size + 1) :: us) := .cons rfl r
  refine wpAny_call (make_map (f := f) I2.kIn M.makes M.init (beq_iff_eq.mp M.fn) (codeAny_mono (F _ X.stack _ _ (Value.ref (s2.heap.objs.size + 1) :: us) ws _ zs _ E (hr.make C us (ks.zip ws)) (I3.env0.make C us (ks.zip ws)) r2 rz l3 hq) fun r s' hq' => ?_))
  cases r with
  | error e => exact hx pins σ _ _ e s' I3 hq'
  | ok fl =>
    cases fl with
    | ret u =>
      obtain ⟨v, H', I4, rv, ev, q3⟩ := I3.after hq'
      subst ev
      exact ⟨rv, ⟨V.ref (s2.heap.objs.size + 1), H', I4, rfl, q3⟩⟩
    | next => exact False.elim hq'
    | brk => exact False.elim hq'
    | cont => exact False.elim hq'
end
end InC
end

section
set_option Elab.async false
set_option linter.all false
set_option maxRecDepth 100000
set_option maxHeartbeats 2000000
/-! xs == [], xs != []; list(d.values()); a lambda as a value -/
namespace L2
open PySem PySem.Spec PyProof.Rows
section
variable {X : Cx}
/-- == [] and != [], whatever the items are -/
def rEqE (K : PySem.W.Frag) (neg : Bool) : R2 := fun x y H Q => ∃ p q xs, x = .ref p ∧ y = .ref q ∧ SqL K H p xs ∧ SqL K H q [] ∧ Q (.bl (if neg then !xs.isEmpty else xs.isEmpty)) H
theorem op_eq_nil {k : Nat} (hr : Room k X.A) : OpR X (compareOp .Eq) (rEqE X.K false) := by
  intro pins s σ H x y v u Q I rx ry h
  obtain ⟨p, q, xs, rfl, rfl, hx, hy, qq⟩ := h
  cases rx
  cases ry
  obtain ⟨its, r, pl, hz⟩ := I.list hx
  obtain ⟨its2, r2, pl2, hz2⟩ := I.list hy
  have hu : X.A.units < cLine := hr.units0
  have e2 : its2 = [] := by
    cases r2
    rfl
  subst e2
  cases xs with
  | nil =>
    have e1 : its = [] := by
      cases r
      rfl
    subst e1
    refine SeqAt.RcAt.lists (e := fun _ => true) pl.isList pl2.isList rfl hu (fun j h1 h2 => absurd h1 (by simp)) _ _ _ _ ⟨.bl _, H, I, rfl, ?_⟩
    exact qq
  | cons y ys =>
    have hl := r.length
    refine SeqAt.RcAt.lists_lengths pl.isList pl2.isList ?_ hu _ _ _ _ ⟨.bl _, H, I, rfl, qq⟩
    rw [List.size_toArray, List.size_toArray, ← hl]
    simp
theorem op_ne_nil {k : Nat} (hr : Room k X.A) : OpR X (compareOp .NotEq) (rEqE X.K true) := by
  intro pins s σ H x y v u Q I rx ry h
  obtain ⟨p, q, xs, rfl, rfl, hx, hy, qq⟩ := h
  cases rx
  cases ry
  obtain ⟨its, r, pl, hz⟩ := I.list hx
  obtain ⟨its2, r2, pl2, hz2⟩ := I.list hy
  have hu : X.A.units < cLine := hr.units0
  have e2 : its2 = [] := by
    cases r2
    rfl
  subst e2
  cases xs with
  | nil =>
    have e1 : its = [] := by
      cases r
      rfl
    subst e1
    refine SeqAt.RcNeAt.lists (e := fun _ => true) pl.isList pl2.isList rfl hu (fun j h1 h2 => absurd h1 (by simp)) _ _ _ _ ⟨.bl _, H, I, rfl, ?_⟩
    exact qq
  | cons y ys =>
    have hl := r.length
    refine SeqAt.RcNeAt.lists_lengths pl.isList pl2.isList ?_ hu _ _ _ _ ⟨.bl _, H, I, rfl, qq⟩
    rw [List.size_toArray, List.size_toArray, ← hl]
    simp
/-! ### list(d.values()) -/
def tListVals (te : TE) : TE := fun σ H Q => te σ H fun x H1 => ∃ d kvs, x = .ref d ∧ H1 d = some (.dK kvs) ∧ ∀ p, H1 p = none → Q (.ref p) (upd H1 p (.lst (kvs.map (·.2))))
theorem kv_vals {κ : Type} : ∀ {kvs : List (κ × V)} {vs : List (κ × Value)}, KV kvs vs → Vals (kvs.map (·.2)) (vs.map (·.2))
  | _, _, .nil => .nil
  | _, _, .cons h t => .cons h.2 (kv_vals t)
theorem pe_listVals {e : Expr} {te : TE} {p apos cpos pos : Pos} (hc : X.calm = true) (he : PE X e te) (hg : Gl X "list") (hm : X.mg "list" = none) (hv : bootBuiltins "list" = some (.type "list")) (hbase : attributeBase e "values" X.env (eval e X.env) = eval e X.env := by rfl) (hline : (apos.endLine == cpos.line) = true := by rfl)
    (hs : starEach [.Call (.Attribute e "values" apos) [] [] cpos] X.env = (false, eval (.Call (.Attribute e "values" apos) [] [] cpos) X.env) :: starEach [] X.env := by rfl) :
    PE X (.Call (.Name "list" p) [.Call (.Attribute e "values" apos) [] [] cpos] [] pos) (tListVals te) := by
  refine ⟨fun pins s σ H Q I hq => ?_⟩
  refine wpAny_Call_Name_kw (ld_blt I hg hm hv ?_)
  refine PyProof.Rows.callWith_type1 ?_ hs rfl
  rw [hs]
  show wpAny _ _ (spliced ((false, eval (.Call (.Attribute e "values" apos) [] [] cpos) X.env) :: backTo pos (starEach [] X.env))) _ _ s
  refine Calls.spliced_cons ?_
  refine wpAny_Call_method (T := "dict") (id := "dict.values") hbase rfl hline F.plainAttrs_dict F.slot_dict_values F.type_dict_values (thn (he.run pins s σ H _ I hq) fun u s1 ⟨x, H1, I1, rx, d, kvs, ex, hd, q⟩ => ?_)
  subst ex
  obtain rfl : u = Value.ref d := rx
  obtain ⟨hz, hs0, vs, kv, hdo⟩ := I1.hok d _ hd
  obtain ⟨ep, hat⟩ := hdo.dictAt
  have lk : kvs.length = vs.length := Paired.length kv
  have I2 : Inv X pins σ H1 { s1 with heap := s1.heap.push { cls := .type "dict_values", data := .fields #[.ref d] } } := I1.kept (t' := s1.toks) fun b ob q => Heap.get?_push_of_some _ q
  refine ⟨hdo.typeIs, hdo.mapOf.noDict, ?_⟩
  show wpAny _ _ (callWith cpos (.builtin "dict.values") [.ref d] [] []) _ X.xe s1
  refine method_meetsIn F.slot_dict_values F.entry_dict_values rfl (PySem.evalArgs_none ⟨rfl, hdo.typeIs, F.args_dict_values_1 _, _, meets_dict_values (mixKind X.prog X.w) d hs0, ⟨vs, hdo⟩, ?_⟩)
  refine Calls.spliced_nil ?_
  refine PySem.W.kdl_call (PySem.W.kdl_values (knd := mixKind X.prog X.w) (kvs := vs) (ep := ep)) (I1.ok.hd hc) ⟨⟨_, Heap.get?_push_size _ rfl, rfl, rfl⟩, hat.push _⟩ (by omega) fun h' tk acc c hk hS hacc => ?_
  have hS' := hS
  have hle : s1.heap.objs.size ≤ (s1.heap.push { cls := .type "dict_values", data := .fields #[.ref d] }).objs.size := by
    rw [Heap.size_push]
    exact Nat.le_succ _
  have eacc : acc.toList = vs.map (·.2) := PySem.W.kdl_vals_eq acc.toList (by rw [Array.length_toList]; exact hacc.1) fun j v e => hacc.2 j v (by rw [← Array.getElem?_toList]; exact e)
  refine ⟨.ref _, _, I2.laid (t' := tk) (o := .lst (kvs.map (·.2))) hk (Nat.le_refl _) ?_, rfl, q _ (I2.hok.fresh (Nat.le_refl _))⟩
  refine ⟨by rw [List.length_map]; omega, acc.toList, c, by rw [eacc]; exact kv_vals kv, ?_⟩
  rw [Array.toArray_toList]
  exact hS'
end
end L2
namespace LamX
open PySem PySem.Spec PyProof.Rows L2
section
variable {X : Cx}
/-- a lambda as a value: a new function, nothing told of it -/
def tLamV (T : List (Addr × Str)) : TE := fun _ H Q => Tabs T H ∧ ∀ (H1 : Hp) (f : Addr), ExtN H H1 → Tabs T H1 → Q (.ref f) H1
theorem pe_lamV {T : List (Addr × Str)} {c P : Addr} {params : Arguments} {body : Expr} {scope : Scope} {pos : Pos} (TB : TabB X.base X.mg c P) (hcode : X.env.code = .ref c) (hmT : (P, X.env.qual ++ "<lambda>") ∈ T) (hu : ∀ p ∈ T, p.1 = P → p.2 = X.env.qual ++ "<lambda>")
    (L : LamS X.env.scope scope) (hdef : defaultsOf params X.env = ([], [])) : PE X (.Lambda params body scope pos) (tLamV T) := by
  refine ⟨fun pins s σ H Q I h => ?_⟩
  obtain ⟨hT, h⟩ := h
  exact lam_make2 I TB hcode hmT hu hT hdef (L.has I.ok) fun f c' pm ctv H1 s' I1 eN T1 hf hfn hfr hco => ⟨.ref f, H1, I1, rfl, h H1 f eN T1⟩
end
end LamX
end

section
set_option Elab.async false
set_option linter.all false
set_option maxRecDepth 100000
set_option maxHeartbeats 2000000
/-! tuples whose object is known: without a dict of their own, so that their methods are the type's -/
namespace L2
open PySem PySem.Spec PyProof.Rows
variable {X : Cx}
def NoD (K : PySem.W.Frag) (H : Hp) (a : Addr) : Prop := (∃ (o : Obj) (u : HO), H a = some (.frz o u) ∧ o.dict = Option.none) ∨ ∃ o : Obj, K.lookup a = some o ∧ o.dict = Option.none
def SqD (K : PySem.W.Frag) (H : Hp) (a : Addr) (xs : List V) : Prop := SqT K H a xs ∧ NoD K H a
theorem SqD.of {K : PySem.W.Frag} {H : Hp} {a : Addr} {xs : List V} {o : Obj} (h : H a = some (.frz o (.tup xs))) (d : o.dict = Option.none) : SqD K H a xs := ⟨.inl (.inr ⟨o, h⟩), .inl ⟨o, _, h, d⟩⟩
theorem SqD.ex {K : PySem.W.Frag} {H H' : Hp} {a : Addr} {xs : List V} (e : Evl.Ex H H') (h : SqD K H a xs) : SqD K H' a xs := by
  refine ⟨Evl.ex_t e h.1, ?_⟩
  rcases h.2 with ⟨o, u, h1, h2⟩ | h
  · exact .inl ⟨o, u, e _ _ h1, h2⟩
  · exact .inr h
theorem NoD.at_ {pins : List (Addr × Obj)} {σ : St} {H : Hp} {s : Shared} {a : Addr} (I : Inv X pins σ H s) (h : NoD X.K H a) : ∃ ob, s.heap.get? a = some ob ∧ ob.dict = Option.none := by
  rcases h with ⟨o, u, h1, h2⟩ | ⟨o, h1, h2⟩
  · obtain ⟨e, _⟩ := (show ObjOk X.prog X.w H s.heap a (.frz o u) from I.hok a _ h1)
    exact ⟨o, e, h2⟩
  · exact ⟨o, I.kIn _ _ h1, h2⟩
def tBMD (K : PySem.W.Frag) (r : V → List V → Hp → VK → Prop) (to : TE) (t : TA) : TE := fun σ H Q => to σ H fun x H1 => (∃ p xs, x = .ref p ∧ SqD K H1 p xs) ∧ t σ H1 fun xs H2 => r x xs H2 Q
variable {o e : Expr} {es : List Expr} {to : TE} {t : TA} {name : Str} {apos cpos pos : Pos} {T id : String} {r : V → List V → Hp → VK → Prop}
/-- t.m(e, ..), t such a tuple -/
theorem pe_bmD (slot : Slot "tuple" name id) (hty : typeOf (.builtin id) = pure (.type "method_descriptor")) (hm : MtR X id r) (ho : PE X o to) (ha : PA X (e :: es) t)
    (hbase : attributeBase o name X.env (eval o X.env) = eval o X.env := by rfl)
    (hfew : ((backTo cpos (starEach (e :: es) X.env)).all (fun x => !x.1) && (backToKw cpos (keywordEach [] X.env)).all (fun x => x.1.isSome)
      && decide ((e :: es).length + ([] : List Keyword).length + (if ([] : List Keyword).isEmpty then 0 else 1) < 30)) = true := by rfl)
    (hline : (apos.endLine == cpos.line) = true := by rfl) (hs : starEach (e :: es) X.env = (false, eval e X.env) :: starEach es X.env := by rfl) (hplain : (backTo cpos (starEach es X.env)).any (·.1) = false := by rfl) :
    PE X (.Call (.Attribute o name apos) (e :: es) [] cpos) (tBMD X.K r to t) := by
  refine ⟨fun pins s σ H Q I h => ?_⟩
  refine wpAny_Call_method_late hbase hfew hline rfl (thn (ho.run pins s σ H _ I h) fun v s1 ⟨x, H1, I1, r1, ty, q1⟩ => ?_)
  obtain ⟨p, xs, rfl, hx, hd⟩ := ty
  cases r1
  obtain ⟨its, rv, ht, hz⟩ := I1.tuple hx
  refine ⟨"tuple", id, PySem.F.plainAttrs_tuple, slot, hty, ht.typeIs, fun a e => by cases e; exact hd.at_ I1, ?_⟩
  have hA := ha.run cpos pins s1 σ H1 _ I1 q1
  rw [hs] at hA ⊢
  refine Calls.callWith_builtin (by show (false || (backTo cpos (starEach es X.env)).any (·.1)) = false; rw [hplain] <;> rfl) (Calls.evalArgs_plain ?_)
  exact thn hA fun us s2 ⟨vs, H2, I2, r2, q2⟩ => hm pins s2 σ H2 (.ref p) vs (Value.ref p) us Q I2 rfl r2 q2
def tTupZ (t : TA) : TE := fun σ H Q => t σ H fun xs H1 => xs.length ≤ sizeLine ∧ ∀ (p : Addr) (o : Obj), H1 p = Option.none → o.dict = Option.none → Q (.ref p) (upd H1 p (.frz o (.tup xs)))
theorem pe_tupZ {x1} (h : PA X es t) : PE X (.Tuple es x1 pos) (tTupZ t) := by
  refine ⟨fun pins s σ H Q I hq => ?_⟩
  refine wpAny_Tuple_spliced (thn (h.run pos pins s σ H _ I hq) fun us s1 ⟨xs, H1, I1, r, z, q⟩ => ⟨by rw [← r.length]; exact z, ?_⟩)
  have hf : H1 s1.heap.objs.size = none := I1.hok.fresh (Nat.le_refl _)
  refine ⟨.ref s1.heap.objs.size, upd H1 s1.heap.objs.size (.frz { cls := .type "tuple", data := .seq us.toArray } (.tup xs)), I1.laid (t' := s1.toks) (fun b u e => Heap.get?_push_of_some _ e) (Nat.le_refl _) ?_, rfl, q _ _ hf rfl⟩
  exact ⟨Heap.get?_push_size _ rfl, z, us, r, ⟨_, Heap.get?_push_size _ rfl, rfl, _, rfl⟩⟩
def rTupZ (K : PySem.W.Frag) : List V → Hp → VK → Prop := fun xs H Q => ∃ p ys, xs = [.ref p] ∧ SqL K H p ys ∧ ∀ (l : Addr) (o : Obj), H l = Option.none → o.dict = Option.none → Q (.ref l) (upd H l (.frz o (.tup ys)))
theorem call_tuple_ofZ : CallR X (.type "tuple") (rTupZ X.K) := by
  intro pins s σ H xs us Q I r h
  obtain ⟨p, ys, rfl, hq, q⟩ := h
  obtain ⟨u, rfl, rx⟩ := vals1 r
  cases rx
  obtain ⟨its, r', pl, hz⟩ := I.list hq
  have hlen := r'.length
  refine call_tuple_list pl.isList (fun h' kp => ?_) (by simp only [List.size_toArray] <;> omega)
  have I1 : Inv X pins σ H { s with heap := h' } := I.kept (t' := s.toks) kp
  have I2 : Inv X pins σ (upd H h'.objs.size (.frz { cls := .type "tuple", data := .seq its.toArray } (.tup ys))) { s with heap := h'.push { cls := .type "tuple", data := .seq its.toArray } } :=
    I1.laid (t' := s.toks) (fun b o e => Heap.get?_push_of_some _ e) (Nat.le_refl _) ⟨Heap.get?_push_size _ rfl, hz, its, r', IsTup.new _ _⟩
  exact ⟨.ref h'.objs.size, _, I2, rfl, q _ _ (I1.hok.fresh (Nat.le_refl _)) rfl⟩
end L2
end

section
set_option Elab.async false
set_option linter.all false
set_option maxRecDepth 100000
set_option maxHeartbeats 2000000
/-! list(range(n)) -/
namespace L2
open PySem PySem.Spec PyProof.Rows
variable {X : Cx}
theorem cr_range1 : CallR X (.type "range") (fun vs H Q => ∃ j, vs = [V.int j] ∧ ∀ p, H p = none → Q (.ref p) (upd H p (.rng 0 j))) := by
  intro pins s σ H vs us Q I r h
  obtain ⟨j, rfl, q⟩ := h
  obtain ⟨u1, rfl, t, rfl⟩ := vals1 r
  refine call_range_1 ⟨.ref s.heap.objs.size, upd H s.heap.objs.size (.rng 0 j), I.laid (t' := s.toks + 1 + 1) (fun b o e => Heap.get?_push_of_some _ e) (Nat.le_refl _) ?_, rfl, q _ (I.hok.fresh (Nat.le_refl _))⟩
  exact ⟨s.toks, t, s.toks + 1, Heap.get?_push_size _ rfl⟩
theorem vals_items : ∀ (n : Nat) (us : List Value), us.length = n → (∀ (i : Nat) (u : Value), us[i]? = some u → ∃ t, u = Value.int ((0 : Int) + (i : Int) * 1) t) → Vals ((List.range n).map fun (i : Nat) => V.int (i : Int)) us := by
  intro n us hl h
  have key : ∀ (k : Nat) (us : List Value), (∀ (i : Nat) (u : Value), us[i]? = some u → ∃ t, u = Value.int ((k : Int) + (i : Int)) t) → Vals ((List.range' k us.length).map fun (i : Nat) => V.int (i : Int)) us := by
    intro k us
    induction us generalizing k with
    | nil => intro _; exact .nil
    | cons u r ih =>
      intro h
      have h0 := h 0 u rfl
      obtain ⟨t, rfl⟩ := h0
      refine .cons ⟨t, ?_⟩ (ih (k + 1) fun i v hv => ?_)
      · simp
      · obtain ⟨t, e⟩ := h (i + 1) v (by simpa using hv)
        refine ⟨t, ?_⟩
        rw [e]
        congr 1
        push_cast
        omega
  have := key 0 us fun i u hu => by
    obtain ⟨t, e⟩ := h i u hu
    exact ⟨t, by rw [e]; congr 1; omega⟩
  rw [hl] at this
  rw [List.range_eq_range']
  exact this
theorem call_list_rng (hc : X.calm = true) : CallR X (.type "list") (fun xs H Q => ∃ (a : Addr) (n : Nat), xs = [.ref a] ∧ H a = some (.rng 0 (n : Int)) ∧ n ≤ 1000 ∧ ∀ l, H l = none → Q (.ref l) (upd H l (.lst ((List.range n).map fun (i : Nat) => V.int (i : Int))))) := by
  intro pins s σ H xs us Q I r h
  obtain ⟨a, n, rfl, ha, hn, q⟩ := h
  obtain ⟨u, rfl, rx⟩ := vals1 r
  cases rx
  obtain ⟨t, u, v, e⟩ := (show ∃ t u v, s.heap.get? a = some { cls := .type "range", data := .fields #[.int 0 t, .int (n : Int) u, .int 1 v] } from I.hok a _ ha)
  refine call_list_range (I.ok.hd hc) e (small_one (by decide) (by decide) (by omega) (by omega)) ?_ (n := n) (by omega) fun h' tk acc' c' kp he hit => ?_
  · unfold Builtin.Range.rangeSize
    rw [if_pos (by decide)]
    by_cases h0 : (0 : Int) < (n : Int)
    · rw [if_pos h0]
      omega
    · rw [if_neg h0]
      omega
  · obtain ⟨h1, h2⟩ := hit
    have rv := vals_items n acc'.toList (by rw [Array.length_toList]; exact h1) fun i u hu => h2 i u (by rw [← Array.getElem?_toList]; exact hu)
    have hlen : ((List.range n).map fun (i : Nat) => V.int (i : Int)).length ≤ sizeLine := by
      rw [List.length_map, List.length_range]
      exact Nat.le_trans hn (by decide)
    refine ⟨.ref s.heap.objs.size, _, I.laid (t' := tk) kp (Nat.le_refl _) (show ObjOk X.prog X.w _ h' _ (.lst ((List.range n).map fun (i : Nat) => V.int (i : Int))) from ⟨hlen, acc'.toList, c', rv, ?_⟩), rfl, q _ (I.hok.fresh (Nat.le_refl _))⟩
    rw [he]
end L2
end

section
set_option Elab.async false
set_option linter.all false
set_option maxRecDepth 100000
set_option maxHeartbeats 2000000
/-! a def by its global name, with its promise and how it binds -/
namespace Cn
open PySem L2
structure Can (P : Program) (w : World) (K : PySem.W.Frag) (mg : Str → Option Value) (base : Heap) (CX : CXT) (k : Nat) (x : Str) (ps : List Str) (sp : Sp) : Prop where
  ex : ∃ f fd, mg x = some (.ref f) ∧ FnOk P w K mg base CX k f fd ps sp ∧ PySem.W.keepIn K (.ref f) = true ∧ Binds K fd ps []
section
variable {X : Cx} {CX : CXT} {k j : Nat} {ps : List Str} {sp : Sp} {E : XK} {x : Str} {p pos : Pos} {e : Expr} {es : List Expr} {t : TA}
theorem room_le {A : Around} (h : j ≤ k) (hr : Room k A) : Room j A := hr.mono h
theorem pe_can (C : Can X.prog X.w X.K X.mg X.base CX j x ps sp) (hr : Room k X.A) (hx : Passes CX X E) (ha : PA X (e :: es) t) (hjk : j ≤ k := by decide) (hg : Gl X x := by rfl)
    (hdb : (x == ("__debug__" : Str)) = false := by decide) (he : starEach (e :: es) X.env = (false, eval e X.env) :: starEach es X.env := by rfl) (hpl : (backTo pos (starEach es X.env)).any (·.1) = false := by rfl) :
    PE X (.Call (.Name x p) (e :: es) [] pos) (tCall sp [] E t) := by
  obtain ⟨f, fd, hm, F, kp, b⟩ := C.ex
  exact pe_call F (hr.mono hjk) hg hm kp b .nil hx ha hdb he hpl
end
theorem can_of {P : Program} {w : World} {K : PySem.W.Frag} {mg : Str → Option Value} {base : Heap} {CX : CXT} {k : Nat} {x qual : Str} {ps : List Str} {sp : Sp} {st : Stmt} {f : Addr} (hm : mg x = some (.ref f)) (F : ∃ fd, Fun K x qual st f fd)
    (h : ∀ fd, Fun K x qual st f fd → FnOk P w K mg base CX k f fd ps sp)
    (hb : ∀ (kV doc pm : Value) (an : Option Addr) (cdv ct : Value) (us : List Value), us.length = ps.length → bindArgs (PySem.W.fnOf x qual (defArgs st) (defBody st) (defScope st) .none kV doc pm an cdv ct) ⟨us, []⟩ = pure (ps.zip us)) : Can P w K mg base CX k x ps sp := by
  obtain ⟨fd, F⟩ := F
  exact ⟨f, fd, hm, h fd F, F.kp, F.binds hb⟩
end Cn
end

section
set_option Elab.async false
set_option linter.all false
set_option maxRecDepth 100000
set_option maxHeartbeats 2000000
/-! a Hook that tells: facts, defs at any address, further Bools, empty tables of code objects that are left out -/
namespace HkQ
open PySem PySem.Spec PyProof.Rows L2 He
abbrev Frag := PySem.W.Frag
/-- the table of a code object at an address -/
abbrev TabF := Frag → Addr
def cOf (K : Frag) (a : Addr) : Addr := match K.lookup a with
  | some ⟨_, _, .func fd, _⟩ => (match fd.code with
    | .ref c => c
    | _ => 0)
  | _ => 0
theorem cOf_eq {K : Frag} {a : Addr} {oc : Value} {od : Option Addr} {osl : Array (Option Value)} {fd : FuncData} {c : Addr} (lk : K.lookup a = some ⟨oc, od, .func fd, osl⟩) (e : fd.code = .ref c) : cOf K a = c := by
  unfold cOf
  rw [lk]
  show (match fd.code with | .ref c => c | _ => 0) = c
  rw [e]
/-- the code object of the def at a, its table -/
def cP (K : Frag) (t : TabF) : Addr × Addr := (cOf K (t K), tabOf K (cOf K (t K)))
structure SaysQ (fa : List Fa) (fn : List He5.DefA) (tf : List TabF) (exs : List (Frag → Bool)) (h : Heap) (K : Frag) : Prop where
  a : He5.SaysA fa fn K
  more : (exs.all fun f => f K) = true
  hd : ∀ t ∈ tf, PySem.W.codeHdIn K (cP K t).1 (cP K t).2 = true
  out : ∀ t ∈ tf, K.lookup (cP K t).2 = none
  empty : ∀ t ∈ tf, h.get? (cP K t).2 = some { cls := .none, data := .fields #[] }
def tabsQ (g : Addr → Option Obj) (tf : List TabF) (K : Frag) : Bool := tf.all fun t => PySem.W.codeHdIn K (cP K t).1 (cP K t).2 && (match g (cP K t).2 with
  | some o => emptyTab o
  | none => false)
abbrev AlQ : Type := AlD × Bool
def obsQ (al : List Addr) (fa : List Fa) (fn : List He5.DefA) (tf : List TabF) (exs : List (Frag → Bool)) (g : Addr → Option Obj) : AlQ :=
  (He5.obsA fa fn (frT g al), (exs.all fun f => f (frT g al)) && tabsQ g tf (frT g al))
def valQ (fn : List He5.DefA) : AlQ := (He5.valA fn, true)
theorem saysQ_of {al : List Addr} {fa : List Fa} {fn : List He5.DefA} {tf : List TabF} {exs : List (Frag → Bool)} {h : Heap} (e : obsQ al fa fn tf exs h.get? = valQ fn) : SaysQ fa fn tf exs h (frT h.get? al) := by
  have e1 : He5.obsA fa fn (frT h.get? al) = He5.valA fn := congrArg (fun z : AlQ => z.1) e
  have e2 : ((exs.all fun f => f (frT h.get? al)) && tabsQ h.get? tf (frT h.get? al)) = true := congrArg (fun z : AlQ => z.2) e
  obtain ⟨h1, h2⟩ := He.ba e2
  have key : ∀ t ∈ tf, PySem.W.codeHdIn (frT h.get? al) (cP (frT h.get? al) t).1 (cP (frT h.get? al) t).2 = true ∧ ∃ o, h.get? (cP (frT h.get? al) t).2 = some o ∧ emptyTab o = true := fun t ht => by
    obtain ⟨h3, h4⟩ := He.ba (List.all_eq_true.mp h2 t ht)
    refine ⟨h3, ?_⟩
    cases q : h.get? (cP (frT h.get? al) t).2 with
    | none =>
      rw [q] at h4
      cases h4
    | some o =>
      rw [q] at h4
      exact ⟨o, rfl, h4⟩
  refine ⟨e1, h1, fun t ht => (key t ht).1, fun t ht => ?_, fun t ht => ?_⟩
  · obtain ⟨_, o, q, z⟩ := key t ht
    exact frT_none q z
  · obtain ⟨_, o, q, z⟩ := key t ht
    rw [q, emptyTab_eq z]
def hookQ (al : List Addr) (fa : List Fa) (fn : List He5.DefA) (tf : List TabF) (exs : List (Frag → Bool)) : PySem.W.Hook where
  α := AlQ
  obs := fun s => obsQ al fa fn tf exs s.heap.get?
  val := fun _ => valQ fn
  says := fun _ h => ∃ K : Frag, K.In h ∧ SaysQ fa fn tf exs h K
  of := fun _ _ e => ⟨_, frT_in, saysQ_of e⟩
  keeps := fun _ _ _ ⟨K, hK, c⟩ k => ⟨K, PySem.W.Frag.In.keeps hK k, ⟨c.a, c.more, c.hd, c.out, fun t ht => k _ _ (c.empty t ht)⟩⟩
theorem obsQ_eq {al : List Addr} {fa : List Fa} {fn : List He5.DefA} {tf : List TabF} {exs : List (Frag → Bool)} {g : Addr → Option Obj} {s : Shared} (h : ∀ a, g a = s.heap.get? a) : obsQ al fa fn tf exs g = (hookQ al fa fn tf exs).obs s := by
  have e : g = s.heap.get? := funext h
  rw [e] <;> rfl
theorem SaysQ.ex {fa : List Fa} {fn : List He5.DefA} {tf : List TabF} {exs : List (Frag → Bool)} {h : Heap} {K : Frag} (c : SaysQ fa fn tf exs h K) (i : Nat) {f : Frag → Bool} (e : exs[i]? = some f := by rfl) : f K = true :=
  List.all_eq_true.mp c.more f (List.mem_of_getElem? e)
/-! ### further Bools -/
/-- an own exception class over ValueError, with an __init__ of its own -/
def oexB (K : Frag) (C : Addr) : Bool := (match K.lookup C with
  | some ⟨.type "type", _, .cls cd, sl⟩ => (match cd.mro, sl.toList with
    | .ref C' :: bm, [_, _, _, _, some (.builtin n), _] => C' == C && (n == "ValueError.__new__" && (!cd.hasDel && (cd.hasDict && PySem.HandSPX.refsVE bm)))
    | _, _ => false)
  | _ => false) && (eqO (PySem.W.findIn K (.ref C) "__setattr__") (some (some (.builtin "object.__setattr__"))) && (decide (PySem.W.subIn K (.ref C) (.type "BaseException") = some true) && (decide (PySem.W.typeIn K (.ref C) = some (.type "type")) && PySem.W.keepIn K (.ref C))))
theorem oexB_ok {K : Frag} {C : Addr} (h : oexB K C = true) : OexC K C := by
  obtain ⟨q, h⟩ := He.ba h
  obtain ⟨h2, h⟩ := He.ba h
  obtain ⟨h3, h⟩ := He.ba h
  obtain ⟨h4, h5⟩ := He.ba h
  refine ⟨?_, eqO_ok h2, of_decide_eq_true h3, of_decide_eq_true h4, h5⟩
  split at q
  · rename_i dd cd sl ho
    split at q
    · rename_i C' bm k0 k1 k2 k3 n k5 hm hs
      obtain ⟨g1, q⟩ := He.ba q
      obtain ⟨g2, q⟩ := He.ba q
      obtain ⟨g3, q⟩ := He.ba q
      obtain ⟨g4, g5⟩ := He.ba q
      obtain rfl := eq_of_beq g1
      obtain rfl := eq_of_beq g2
      obtain ⟨nm, bs, mro, ns, qn, hd, sn, sub, ab, col, del⟩ := cd
      dsimp only at hm g3 g4
      have g3' : del = false := by simpa using g3
      subst hm g3' g4
      have hsl : sl = #[k0, k1, k2, k3, some (.builtin "ValueError.__new__"), k5] := by
        obtain ⟨l⟩ := sl
        simp only at hs
        rw [hs]
      subst hsl
      exact ⟨nm, qn, ns, bs, bm, sn, sub, ab, col, dd, k0, k1, k2, k3, k5, ho, g5⟩
    · cases q
  · cases q
end HkQ
end

section
set_option Elab.async false
set_option linter.all false
set_option maxRecDepth 100000
set_option maxHeartbeats 4000000
namespace K28
open PySem PySem.Spec PyProof.Rows L2 He
/-! ### the text by places -/
def top (i : Nat) : Stmt := PySem.Challenge.pw_recordcraft_k28_rings_checked.main.body.getD i (.Pass ⟨0, 0, 0, 0⟩)
abbrev s_InvalidKind_init : Stmt := inClass (top 4) 0
theorem sc_InvalidKind_init : FnScope [("self" : Str), ("rule" : Str), ("item" : Str)] [("self" : Str), ("rule" : Str), ("item" : Str)] (defScope s_InvalidKind_init) := ⟨rfl, rfl, rfl, by decide +kernel, rfl, by decide +kernel, by decide +kernel⟩
abbrev s_InvalidAnswer_init : Stmt := inClass (top 5) 0
theorem sc_InvalidAnswer_init : FnScope [("self" : Str), ("part" : Str)] [("self" : Str), ("part" : Str)] (defScope s_InvalidAnswer_init) := ⟨rfl, rfl, rfl, by decide +kernel, rfl, by decide +kernel, by decide +kernel⟩
abbrev s_check_ring : Stmt := top 10
theorem sc_check_ring : FnScope [("above" : Str), ("ring" : Str), ("rows" : Str), ("place" : Str)] [("above" : Str), ("ring" : Str)] (defScope s_check_ring) := ⟨rfl, rfl, rfl, by decide +kernel, rfl, by decide +kernel, by decide +kernel⟩
abbrev s_line_above : Stmt := top 11
theorem sc_line_above : FnScope [("above" : Str), ("rows" : Str), ("line" : Str), ("head" : Str)] [("above" : Str)] (defScope s_line_above) := ⟨rfl, rfl, rfl, by decide +kernel, rfl, by decide +kernel, by decide +kernel⟩
abbrev s__rows_of : Stmt := top 12
theorem sc__rows_of : FnScope [("above" : Str), ("kind" : Str)] [("above" : Str)] (defScope s__rows_of) := ⟨rfl, rfl, rfl, by decide +kernel, rfl, by decide +kernel, by decide +kernel⟩
abbrev s__free_head : Stmt := top 13
theorem sc__free_head : FnScope [("rows" : Str), ("row" : Str)] [("rows" : Str)] (defScope s__free_head) := ⟨rfl, rfl, rfl, by decide +kernel, rfl, by decide +kernel, by decide +kernel⟩
abbrev s__head_of_row_with : Stmt := top 14
theorem sc__head_of_row_with : FnScope [("kind" : Str), ("rows" : Str), ("row" : Str)] [("kind" : Str), ("rows" : Str)] (defScope s__head_of_row_with) := ⟨rfl, rfl, rfl, by decide +kernel, rfl, by decide +kernel, by decide +kernel⟩
abbrev s__without : Stmt := top 15
theorem sc__without : FnScope [("head" : Str), ("rows" : Str), ("rest" : Str), ("row" : Str), ("kind" : Str)] [("head" : Str), ("rows" : Str)] (defScope s__without) := ⟨rfl, rfl, rfl, by decide +kernel, rfl, by decide +kernel, by decide +kernel⟩
abbrev s__ring_in : Stmt := top 16
theorem sc__ring_in : FnScope [("rows" : Str), ("path" : Str), ("head" : Str), ("ring" : Str)] [("rows" : Str)] (defScope s__ring_in) := ⟨rfl, rfl, rfl, by decide +kernel, rfl, by decide +kernel, by decide +kernel⟩
abbrev s__is_in_rows : Stmt := top 17
theorem sc__is_in_rows : FnScope [("value" : Str), ("rows" : Str), ("row" : Str)] [("value" : Str), ("rows" : Str)] (defScope s__is_in_rows) := ⟨rfl, rfl, rfl, by decide +kernel, rfl, by decide +kernel, by decide +kernel⟩
abbrev s__is_before : Stmt := top 18
theorem sc__is_before : FnScope [("first" : Str), ("second" : Str), ("rows" : Str), ("row" : Str)] [("first" : Str), ("second" : Str), ("rows" : Str)] (defScope s__is_before) := ⟨rfl, rfl, rfl, by decide +kernel, rfl, by decide +kernel, by decide +kernel⟩
abbrev s_is_name : Stmt := top 24
theorem sc_is_name : FnScope [("value" : Str), ("sign" : Str)] [("value" : Str)] (defScope s_is_name) := ⟨rfl, rfl, rfl, by decide +kernel, rfl, by decide +kernel, by decide +kernel⟩
abbrev s_check_members : Stmt := top 54
theorem sc_check_members : FnScope [("members" : Str), ("names" : Str), ("place" : Str), ("member" : Str), ("name" : Str)] [("members" : Str)] (defScope s_check_members) := ⟨rfl, rfl, rfl, by decide +kernel, rfl, by decide +kernel, by decide +kernel⟩
abbrev s_check_options : Stmt := top 56
theorem sc_check_options : FnScope [("options" : Str), ("option" : Str)] [("options" : Str)] (defScope s_check_options) := ⟨rfl, rfl, rfl, by decide +kernel, rfl, by decide +kernel, by decide +kernel⟩
abbrev s_check_above : Stmt := top 57
theorem sc_check_above : FnScope [("above" : Str), ("seen" : Str), ("place" : Str), ("kind" : Str)] [("above" : Str)] (defScope s_check_above) := ⟨rfl, rfl, rfl, by decide +kernel, rfl, by decide +kernel, by decide +kernel⟩
abbrev s_check_mixture : Stmt := top 58
theorem sc_check_mixture : FnScope [("line" : Str), ("sorts" : Str), ("kind" : Str), ("member" : Str)] [("line" : Str)] (defScope s_check_mixture) := ⟨rfl, rfl, rfl, by decide +kernel, rfl, by decide +kernel, by decide +kernel⟩
abbrev s_check_frozen : Stmt := top 59
theorem sc_check_frozen : FnScope [("line" : Str), ("kind" : Str)] [("line" : Str)] (defScope s_check_frozen) := ⟨rfl, rfl, rfl, by decide +kernel, rfl, by decide +kernel, by decide +kernel⟩
abbrev s_check_defaults : Stmt := top 61
theorem sc_check_defaults : FnScope [("members" : Str), ("is_behind" : Str), ("member" : Str)] [("members" : Str)] (defScope s_check_defaults) := ⟨rfl, rfl, rfl, by decide +kernel, rfl, by decide +kernel, by decide +kernel⟩
abbrev s_whole_members : Stmt := top 62
theorem sc_whole_members : FnScope [("line" : Str), ("whole" : Str), ("kind" : Str), ("member" : Str)] [("line" : Str)] (defScope s_whole_members) := ⟨rfl, rfl, rfl, by decide +kernel, rfl, by decide +kernel, by decide +kernel⟩
abbrev s_Kind_init : Stmt := inClass (top 65) 2
theorem sc_Kind_init : FnScope [("self" : Str), ("name" : Str), ("above" : Str), ("members" : Str), ("options" : Str)] [("self" : Str), ("name" : Str), ("above" : Str), ("members" : Str), ("options" : Str)] (defScope s_Kind_init) := ⟨rfl, rfl, rfl, by decide +kernel, rfl, by decide +kernel, by decide +kernel⟩
abbrev s_Kind_of : Stmt := inClass (top 65) 3
theorem sc_Kind_of : FnScope [("cls" : Str), ("name" : Str), ("members" : Str), ("above" : Str), ("options" : Str), ("kind" : Str)] [("cls" : Str), ("name" : Str), ("members" : Str), ("above" : Str), ("options" : Str)] (defScope s_Kind_of) := ⟨rfl, rfl, rfl, by decide +kernel, rfl, by decide +kernel, by decide +kernel⟩
abbrev s_Kind__declare : Stmt := inClass (top 65) 4
theorem sc_Kind__declare : FnScope [("self" : Str), ("members" : Str), ("above" : Str), ("options" : Str), ("line" : Str)] [("self" : Str), ("members" : Str), ("above" : Str), ("options" : Str)] (defScope s_Kind__declare) := ⟨rfl, rfl, rfl, by decide +kernel, rfl, by decide +kernel, by decide +kernel⟩
abbrev s_Kind__set_own : Stmt := inClass (top 65) 5
theorem sc_Kind__set_own : FnScope [("self" : Str), ("members" : Str), ("hooks" : Str), ("member" : Str)] [("self" : Str), ("members" : Str)] (defScope s_Kind__set_own) := ⟨rfl, rfl, rfl, by decide +kernel, rfl, by decide +kernel, by decide +kernel⟩
abbrev s_Kind__set_options : Stmt := inClass (top 65) 6
theorem sc_Kind__set_options : FnScope [("self" : Str), ("options" : Str)] [("self" : Str), ("options" : Str)] (defScope s_Kind__set_options) := ⟨rfl, rfl, rfl, by decide +kernel, rfl, by decide +kernel, by decide +kernel⟩
abbrev s_Kind__set_whole : Stmt := inClass (top 65) 7
theorem sc_Kind__set_whole : FnScope [("self" : Str), ("whole" : Str), ("data" : Str), ("member" : Str), ("kind" : Str), ("_" : Str), ("named" : Str), ("field" : Str)] [("self" : Str), ("whole" : Str)] (defScope s_Kind__set_whole) := ⟨rfl, rfl, rfl, by decide +kernel, rfl, by decide +kernel, by decide +kernel⟩
abbrev s__law_mixed : Stmt := top 67
theorem sc__law_mixed : FnScope [("cell" : Str), ("n" : Str), ("turned" : Str)] [("cell" : Str), ("n" : Str)] (defScope s__law_mixed) := ⟨rfl, rfl, rfl, by decide +kernel, rfl, by decide +kernel, by decide +kernel⟩
abbrev s__law_folded : Stmt := top 68
theorem sc__law_folded : FnScope [("script" : Str), ("n" : Str), ("found" : Str), ("cell" : Str)] [("script" : Str)] (defScope s__law_folded) := ⟨rfl, rfl, rfl, by decide +kernel, rfl, by decide +kernel, by decide +kernel⟩
abbrev s__law_draw : Stmt := top 69
theorem sc__law_draw : FnScope [("m" : Str), ("top" : Str), ("n" : Str), ("at" : Str), ("cell" : Str)] [("m" : Str), ("top" : Str)] (defScope s__law_draw) := ⟨rfl, rfl, rfl, by decide +kernel, rfl, by decide +kernel, by decide +kernel⟩
abbrev s__law_begun : Stmt := top 70
theorem sc__law_begun : FnScope [("script" : Str), ("m" : Str), ("cell" : Str)] [("script" : Str)] (defScope s__law_begun) := ⟨rfl, rfl, rfl, by decide +kernel, rfl, by decide +kernel, by decide +kernel⟩
abbrev s__law_mixed_up : Stmt := top 71
theorem sc__law_mixed_up : FnScope [("m" : Str), ("things" : Str), ("stock" : Str), ("found" : Str), ("n" : Str)] [("m" : Str), ("things" : Str)] (defScope s__law_mixed_up) := ⟨rfl, rfl, rfl, by decide +kernel, rfl, by decide +kernel, by decide +kernel⟩
abbrev s__law_line : Stmt := top 72
theorem sc__law_line : FnScope [("plans" : Str), ("n" : Str), ("rows" : Str), ("at" : Str), ("row" : Str), ("found" : Str), ("turn" : Str), ("heads" : Str), ("free" : Str)] [("plans" : Str), ("n" : Str)] (defScope s__law_line) := ⟨rfl, rfl, rfl, by decide +kernel, rfl, by decide +kernel, by decide +kernel⟩
abbrev s__law_outcome : Stmt := top 73
theorem sc__law_outcome : FnScope [("call" : Str), ("found" : Str), ("error" : Str), ("e" : Str)] [("call" : Str)] (defScope s__law_outcome) := ⟨rfl, rfl, rfl, by decide +kernel, rfl, by decide +kernel, by decide +kernel⟩
abbrev s__law_before : Stmt := top 74
theorem sc__law_before : FnScope [("rows" : Str), ("near" : Str), ("far" : Str), ("row" : Str)] [("rows" : Str), ("near" : Str), ("far" : Str)] (defScope s__law_before) := ⟨rfl, rfl, rfl, by decide +kernel, rfl, by decide +kernel, by decide +kernel⟩
abbrev s__law_due : Stmt := top 75
theorem sc__law_due : FnScope [("rows" : Str), ("ring_here" : Str), ("n" : Str), ("at" : Str), ("row" : Str)] [("rows" : Str), ("ring_here" : Str)] (defScope s__law_due) := ⟨rfl, rfl, rfl, by decide +kernel, rfl, by decide +kernel, by decide +kernel⟩
abbrev s__law_walked : Stmt := top 76
theorem sc__law_walked : FnScope [("m" : Str), ("rows" : Str), ("size" : Str), ("every" : Str), ("path" : Str), ("row" : Str), ("n" : Str), ("some" : Str), ("at" : Str)] [("m" : Str), ("rows" : Str), ("size" : Str)] (defScope s__law_walked) := ⟨rfl, rfl, rfl, by decide +kernel, rfl, by decide +kernel, by decide +kernel⟩
abbrev s__law_rings : Stmt := top 77
theorem sc__law_rings : FnScope [("m" : Str), ("rows" : Str), ("many" : Str), ("found" : Str), ("turn" : Str), ("path" : Str), ("n" : Str)] [("m" : Str), ("rows" : Str), ("many" : Str)] (defScope s__law_rings) := ⟨rfl, rfl, rfl, by decide +kernel, rfl, by decide +kernel, by decide +kernel⟩
abbrev s__law_bent : Stmt := top 78
theorem sc__law_bent : FnScope [("m" : Str), ("path" : Str), ("many" : Str), ("at" : Str), ("odd" : Str), ("some" : Str)] [("m" : Str), ("path" : Str), ("many" : Str)] (defScope s__law_bent) := ⟨rfl, rfl, rfl, by decide +kernel, rfl, by decide +kernel, by decide +kernel⟩
abbrev s__law_real : Stmt := top 79
theorem sc__law_real : FnScope [("made" : Str), ("path" : Str), ("odd" : Str), ("found" : Str), ("at" : Str)] [("made" : Str), ("path" : Str)] (defScope s__law_real) := ⟨rfl, rfl, rfl, by decide +kernel, rfl, by decide +kernel, by decide +kernel⟩
abbrev s__law_refused : Stmt := top 80
theorem sc__law_refused : FnScope [("made" : Str), ("tops" : Str), ("error" : Str), ("e" : Str), ("at" : Str)] [("made" : Str), ("tops" : Str)] (defScope s__law_refused) := ⟨rfl, rfl, rfl, by decide +kernel, rfl, by decide +kernel, by decide +kernel⟩
abbrev s__law_right : Stmt := top 81
theorem sc__law_right : FnScope [("m" : Str), ("plans" : Str), ("made" : Str), ("picked" : Str), ("rows" : Str), ("many_here" : Str), ("some" : Str), ("ring_here" : Str), ("path" : Str), ("told" : Str), ("kept" : Str), ("odd" : Str), ("real" : Str), ("tops" : Str), ("at" : Str)] [("m" : Str), ("plans" : Str), ("made" : Str), ("picked" : Str)] (defScope s__law_right) := ⟨rfl, rfl, rfl, by decide +kernel, rfl, by decide +kernel, by decide +kernel⟩
abbrev s_law : Stmt := top 82
theorem sc_law : FnScope [("script" : Str), ("m" : Str), ("again" : Str), ("plans" : Str), ("made" : Str), ("n" : Str), ("tops" : Str), ("turn" : Str), ("picked" : Str), ("at" : Str)] [("script" : Str)] (defScope s_law) := ⟨rfl, rfl, rfl, by decide +kernel, rfl, by decide +kernel, by decide +kernel⟩
/-- the default of Kind.__init__'s above: an empty tuple -/
def kwAbove (K : PySem.W.Frag) : Addr := match K.lookup (ma K (ga K "Kind") "__init__") with
  | some ⟨_, _, .func fd, _⟩ => (match fd.kwdefaults with
    | .ref D => (match PySem.W.nsIn K D "above" with
      | some (some (.ref a)) => a
      | _ => 0)
    | _ => 0)
  | _ => 0
/-- the first default of Kind.of -/
def ofAbove (K : PySem.W.Frag) : Addr := match K.lookup (He5.wf K (ga K "Kind") "classmethod" "of") with
  | some ⟨_, _, .func fd, _⟩ => (match fd.defaults with
    | .ref T => (match K.lookup T with
      | some ⟨_, _, .seq its _, _⟩ => (match its.toList with
        | .ref a :: _ => a
        | _ => 0)
      | _ => 0)
    | _ => 0)
  | _ => 0
def emptyTup (K : PySem.W.Frag) (a : Addr) : Bool := match K.lookup a with
  | some ⟨.type c, _, .seq its _, _⟩ => decide (c = "tuple") && decide (its.toList = [])
  | _ => false
theorem emptyTup_ok {K : PySem.W.Frag} {a : Addr} (h : emptyTup K a = true) (H : Hp) : SqT K H a [] := by
  unfold emptyTup at h
  cases q : K.lookup a with
  | none =>
    rw [q] at h
    cases h
  | some o =>
    obtain ⟨oc, od, dt, osl⟩ := o
    rw [q] at h
    cases oc with
    | type c =>
      cases dt with
      | seq its n =>
        obtain ⟨h1, h2⟩ := He.ba (show (decide (c = "tuple") && decide (its.toList = [])) = true from h)
        have e2 : its.toList = [] := of_decide_eq_true h2
        refine .inr ⟨_, its, n, q, congrArg Value.type (of_decide_eq_true h1), rfl, ?_, by rw [e2]; exact .nil⟩
        rw [← Array.length_toList, e2]
        exact Nat.zero_le _
      | _ => cases h
    | _ => cases dt <;> cases h
def barred : List Str := ["and", "as", "class", "def", "else", "for", "if", "in", "is", "not", "or", "pass", "self"]
def nameSigns : Str := "ABCDEFGHIJKLMNOPQRSTUVWXYZabcdefghijklmnopqrstuvwxyz_0123456789"
def digitSigns : Str := "0123456789"
abbrev kC (K : PySem.W.Frag) : Addr := ga K "Kind"
abbrev kE (K : PySem.W.Frag) : Addr := ga K "InvalidKind"
abbrev kA (K : PySem.W.Frag) : Addr := ga K "InvalidAnswer"
def insB (K : PySem.W.Frag) (C : Addr) : Bool := eqO (PySem.W.findIn K (.ref C) "__class__") (some (some (.builtin "object.__class__"))) && (eqO (PySem.W.specialIn K (.builtin "object.__class__") "__get__") (some (some (.builtin "getset_descriptor.__get__"))) &&
  (decide (PySem.W.takesIn K (.builtin "object.__class__") = some true) && decide (PySem.W.mroIn K C (.type "object") = some true)))
def idcB (K : PySem.W.Frag) (C : Addr) : Bool := decide (PySem.W.mroIn K C (.type "object") = some true) && (eqO (PySem.W.findIn K (.ref C) "__eq__") (some (some (.builtin "object.__eq__"))) && (eqO (PySem.W.findIn K (.ref C) "__ne__") (some (some (.builtin "object.__ne__"))) &&
  decide (PySem.W.mroIn K C (.type "NoneType") = some false)))
theorem idcB_ok {K : PySem.W.Frag} {C : Addr} (h : idcB K C = true) : IdQ.IdC K C := by
  obtain ⟨h1, h⟩ := He.ba h
  obtain ⟨h2, h⟩ := He.ba h
  obtain ⟨h3, h4⟩ := He.ba h
  exact ⟨of_decide_eq_true h1, eqO_ok h2, eqO_ok h3, of_decide_eq_true h4⟩
def creadB (K : PySem.W.Frag) (C : Addr) : Bool := PySem.W.readsIn K C (.type "type") && eqO (PySem.W.specialIn K (.ref C) "__getattribute__") (some (some (.builtin "type.__getattribute__")))
theorem creadB_ok {K : PySem.W.Frag} {C : Addr} (h : creadB K C = true) : ClX.CRead K C (.type "type") := by
  obtain ⟨h1, h2⟩ := He.ba h
  exact ⟨h1, eqO_ok h2⟩
def linB (K : PySem.W.Frag) : Bool := (["NoneType", "str", "int", "tuple", "list"] : List String).all fun t => decide (PySem.W.kitOne K (.type t) (.ref (ga K "Lined")) = some false)
def ofB (K : PySem.W.Frag) (C : Addr) : Bool := He5.wrapB K C "classmethod" "classmethod.__get__" "of" && PySem.W.fnIn K (He5.wf K C "classmethod" "of")

/-! ### what is asked of the head -/
def d_InvalidKind_init : He5.DefA := ⟨fun K => ma K (ga K "InvalidKind") "__init__", "__init__", "InvalidKind.__init__", defArgs s_InvalidKind_init, defBody s_InvalidKind_init, defScope s_InvalidKind_init, [.non], []⟩
def d_InvalidAnswer_init : He5.DefA := ⟨fun K => ma K (ga K "InvalidAnswer") "__init__", "__init__", "InvalidAnswer.__init__", defArgs s_InvalidAnswer_init, defBody s_InvalidAnswer_init, defScope s_InvalidAnswer_init, [], []⟩
def d_check_ring : He5.DefA := ⟨fun K => ga K "check_ring", "check_ring", "check_ring", defArgs s_check_ring, defBody s_check_ring, defScope s_check_ring, [], []⟩
def d_line_above : He5.DefA := ⟨fun K => ga K "line_above", "line_above", "line_above", defArgs s_line_above, defBody s_line_above, defScope s_line_above, [], []⟩
def d__rows_of : He5.DefA := ⟨fun K => ga K "_rows_of", "_rows_of", "_rows_of", defArgs s__rows_of, defBody s__rows_of, defScope s__rows_of, [], []⟩
def d__free_head : He5.DefA := ⟨fun K => ga K "_free_head", "_free_head", "_free_head", defArgs s__free_head, defBody s__free_head, defScope s__free_head, [], []⟩
def d__head_of_row_with : He5.DefA := ⟨fun K => ga K "_head_of_row_with", "_head_of_row_with", "_head_of_row_with", defArgs s__head_of_row_with, defBody s__head_of_row_with, defScope s__head_of_row_with, [], []⟩
def d__without : He5.DefA := ⟨fun K => ga K "_without", "_without", "_without", defArgs s__without, defBody s__without, defScope s__without, [], []⟩
def d__ring_in : He5.DefA := ⟨fun K => ga K "_ring_in", "_ring_in", "_ring_in", defArgs s__ring_in, defBody s__ring_in, defScope s__ring_in, [], []⟩
def d__is_in_rows : He5.DefA := ⟨fun K => ga K "_is_in_rows", "_is_in_rows", "_is_in_rows", defArgs s__is_in_rows, defBody s__is_in_rows, defScope s__is_in_rows, [], []⟩
def d__is_before : He5.DefA := ⟨fun K => ga K "_is_before", "_is_before", "_is_before", defArgs s__is_before, defBody s__is_before, defScope s__is_before, [], []⟩
def d_is_name : He5.DefA := ⟨fun K => ga K "is_name", "is_name", "is_name", defArgs s_is_name, defBody s_is_name, defScope s_is_name, [], []⟩
def d_check_members : He5.DefA := ⟨fun K => ga K "check_members", "check_members", "check_members", defArgs s_check_members, defBody s_check_members, defScope s_check_members, [], []⟩
def d_check_options : He5.DefA := ⟨fun K => ga K "check_options", "check_options", "check_options", defArgs s_check_options, defBody s_check_options, defScope s_check_options, [], []⟩
def d_check_above : He5.DefA := ⟨fun K => ga K "check_above", "check_above", "check_above", defArgs s_check_above, defBody s_check_above, defScope s_check_above, [], []⟩
def d_check_mixture : He5.DefA := ⟨fun K => ga K "check_mixture", "check_mixture", "check_mixture", defArgs s_check_mixture, defBody s_check_mixture, defScope s_check_mixture, [], []⟩
def d_check_frozen : He5.DefA := ⟨fun K => ga K "check_frozen", "check_frozen", "check_frozen", defArgs s_check_frozen, defBody s_check_frozen, defScope s_check_frozen, [], []⟩
def d_check_defaults : He5.DefA := ⟨fun K => ga K "check_defaults", "check_defaults", "check_defaults", defArgs s_check_defaults, defBody s_check_defaults, defScope s_check_defaults, [], []⟩
def d_whole_members : He5.DefA := ⟨fun K => ga K "whole_members", "whole_members", "whole_members", defArgs s_whole_members, defBody s_whole_members, defScope s_whole_members, [], []⟩
def d_Kind_init : He5.DefA := ⟨fun K => ma K (ga K "Kind") "__init__", "__init__", "Kind.__init__", defArgs s_Kind_init, defBody s_Kind_init, defScope s_Kind_init, [], [("above", .adr kwAbove)]⟩
def d_Kind_of : He5.DefA := ⟨fun K => He5.wf K (ga K "Kind") "classmethod" "of", "of", "Kind.of", defArgs s_Kind_of, defBody s_Kind_of, defScope s_Kind_of, [.adr ofAbove, .non], []⟩
def d_Kind__declare : He5.DefA := ⟨fun K => ma K (ga K "Kind") "_declare", "_declare", "Kind._declare", defArgs s_Kind__declare, defBody s_Kind__declare, defScope s_Kind__declare, [], []⟩
def d_Kind__set_own : He5.DefA := ⟨fun K => ma K (ga K "Kind") "_set_own", "_set_own", "Kind._set_own", defArgs s_Kind__set_own, defBody s_Kind__set_own, defScope s_Kind__set_own, [], []⟩
def d_Kind__set_options : He5.DefA := ⟨fun K => ma K (ga K "Kind") "_set_options", "_set_options", "Kind._set_options", defArgs s_Kind__set_options, defBody s_Kind__set_options, defScope s_Kind__set_options, [], []⟩
def d_Kind__set_whole : He5.DefA := ⟨fun K => ma K (ga K "Kind") "_set_whole", "_set_whole", "Kind._set_whole", defArgs s_Kind__set_whole, defBody s_Kind__set_whole, defScope s_Kind__set_whole, [], []⟩
def d__law_mixed : He5.DefA := ⟨fun K => ga K "_law_mixed", "_law_mixed", "_law_mixed", defArgs s__law_mixed, defBody s__law_mixed, defScope s__law_mixed, [], []⟩
def d__law_folded : He5.DefA := ⟨fun K => ga K "_law_folded", "_law_folded", "_law_folded", defArgs s__law_folded, defBody s__law_folded, defScope s__law_folded, [], []⟩
def d__law_draw : He5.DefA := ⟨fun K => ga K "_law_draw", "_law_draw", "_law_draw", defArgs s__law_draw, defBody s__law_draw, defScope s__law_draw, [], []⟩
def d__law_begun : He5.DefA := ⟨fun K => ga K "_law_begun", "_law_begun", "_law_begun", defArgs s__law_begun, defBody s__law_begun, defScope s__law_begun, [], []⟩
def d__law_mixed_up : He5.DefA := ⟨fun K => ga K "_law_mixed_up", "_law_mixed_up", "_law_mixed_up", defArgs s__law_mixed_up, defBody s__law_mixed_up, defScope s__law_mixed_up, [], []⟩
def d__law_line : He5.DefA := ⟨fun K => ga K "_law_line", "_law_line", "_law_line", defArgs s__law_line, defBody s__law_line, defScope s__law_line, [], []⟩
def d__law_outcome : He5.DefA := ⟨fun K => ga K "_law_outcome", "_law_outcome", "_law_outcome", defArgs s__law_outcome, defBody s__law_outcome, defScope s__law_outcome, [], []⟩
def d__law_before : He5.DefA := ⟨fun K => ga K "_law_before", "_law_before", "_law_before", defArgs s__law_before, defBody s__law_before, defScope s__law_before, [], []⟩
def d__law_due : He5.DefA := ⟨fun K => ga K "_law_due", "_law_due", "_law_due", defArgs s__law_due, defBody s__law_due, defScope s__law_due, [], []⟩
def d__law_walked : He5.DefA := ⟨fun K => ga K "_law_walked", "_law_walked", "_law_walked", defArgs s__law_walked, defBody s__law_walked, defScope s__law_walked, [], []⟩
def d__law_rings : He5.DefA := ⟨fun K => ga K "_law_rings", "_law_rings", "_law_rings", defArgs s__law_rings, defBody s__law_rings, defScope s__law_rings, [], []⟩
def d__law_bent : He5.DefA := ⟨fun K => ga K "_law_bent", "_law_bent", "_law_bent", defArgs s__law_bent, defBody s__law_bent, defScope s__law_bent, [], []⟩
def d__law_real : He5.DefA := ⟨fun K => ga K "_law_real", "_law_real", "_law_real", defArgs s__law_real, defBody s__law_real, defScope s__law_real, [], []⟩
def d__law_refused : He5.DefA := ⟨fun K => ga K "_law_refused", "_law_refused", "_law_refused", defArgs s__law_refused, defBody s__law_refused, defScope s__law_refused, [], []⟩
def d__law_right : He5.DefA := ⟨fun K => ga K "_law_right", "_law_right", "_law_right", defArgs s__law_right, defBody s__law_right, defScope s__law_right, [], []⟩
def d_law : He5.DefA := ⟨fun K => ga K "law", "law", "law", defArgs s_law, defBody s_law, defScope s_law, [], []⟩
def fn0 : List He5.DefA := [d_InvalidKind_init, d_InvalidAnswer_init, d_check_ring, d_line_above, d__rows_of, d__free_head, d__head_of_row_with, d__without, d__ring_in, d__is_in_rows, d__is_before, d_is_name]
def fn1 : List He5.DefA := [d_check_members, d_check_options, d_check_above, d_check_mixture, d_check_frozen, d_check_defaults, d_whole_members, d_Kind_init, d_Kind_of, d_Kind__declare, d_Kind__set_own, d_Kind__set_options]
def fn2 : List He5.DefA := [d_Kind__set_whole, d__law_mixed, d__law_folded, d__law_draw, d__law_begun, d__law_mixed_up, d__law_line, d__law_outcome, d__law_before, d__law_due, d__law_walked, d__law_rings]
def fn3 : List He5.DefA := [d__law_bent, d__law_real, d__law_refused, d__law_right, d_law]
def fn : List He5.DefA := fn0 ++ fn1 ++ fn2 ++ fn3
def fa0 : List Fa := [.glo "check_ring", .glo "line_above", .glo "_rows_of", .glo "_free_head", .glo "_head_of_row_with", .glo "_without", .glo "_ring_in", .glo "_is_in_rows", .glo "_is_before", .glo "is_name", .glo "check_members", .glo "check_options"]
def fa1 : List Fa := [.glo "check_above", .glo "check_mixture", .glo "check_frozen", .glo "check_defaults", .glo "whole_members", .glo "_law_mixed", .glo "_law_folded", .glo "_law_draw", .glo "_law_begun", .glo "_law_mixed_up", .glo "_law_line", .glo "_law_outcome"]
def fa2 : List Fa := [.glo "_law_before", .glo "_law_due", .glo "_law_walked", .glo "_law_rings", .glo "_law_bent", .glo "_law_real", .glo "_law_refused", .glo "_law_right", .glo "law", .glo "Kind", .glo "Lined", .glo "InvalidKind"]
def fa3 : List Fa := [.glo "InvalidAnswer", .free "len", .free "isinstance", .free "tuple", .free "list", .free "range", .free "enumerate", .free "any", .free "str", .free "min", .free "int", .int "MAX_LENGTH" 40]
def fa4 : List Fa := [.str "DIGITS" digitSigns, .str "NAME_SIGNS" nameSigns, .glo "BARRED_WORDS", .cls "Kind", .noat "Kind" "name", .noat "Kind" "above", .noat "Kind" "line", .noat "Kind" "own_hook", .noat "Kind" "own_members", .noat "Kind" "own_methods", .noat "Kind" "equal", .noat "Kind" "order"]
def fa5 : List Fa := [.noat "Kind" "frozen", .noat "Kind" "only_named", .noat "Kind" "show", .noat "Kind" "_data", .noat "Kind" "_shared", .noat "Kind" "_other_members", .noat "Kind" "fields", .noat "Kind" "field_names", .noat "Kind" "compare_names", .noat "Kind" "show_names", .noat "Kind" "key_names", .noat "Kind" "_init_only"]
def fa6 : List Fa := [.noat "Kind" "_by_position", .noat "Kind" "_by_name", .noat "Kind" "_parameters", .noat "Kind" "_parameter_names", .meth "Kind" "_declare", .meth "Kind" "_set_own", .meth "Kind" "_set_options", .meth "Kind" "_set_whole", .mkr "Kind", .meth "InvalidKind" "__init__", .noat "InvalidKind" "rule", .noat "InvalidKind" "item"]
def fa7 : List Fa := [.exm "InvalidKind" "InvalidKind" true, .free "ValueError", .meth "InvalidAnswer" "__init__", .noat "InvalidAnswer" "part", .exm "InvalidAnswer" "InvalidAnswer" true]
def fa : List Fa := fa0 ++ fa1 ++ fa2 ++ fa3 ++ fa4 ++ fa5 ++ fa6 ++ fa7
def x0 : PySem.W.Frag → Bool := fun K => tupB K "BARRED_WORDS" (barred.map He.Dv.str)
def x1 : PySem.W.Frag → Bool := fun K => conB K "Kind" "MAX_MEMBERS" (.int 16)
def x2 : PySem.W.Frag → Bool := fun K => conB K "Kind" "MAX_LINE" (.int 12)
def x3 : PySem.W.Frag → Bool := fun K => creadB K (kC K)
def x4 : PySem.W.Frag → Bool := fun K => ofB K (kC K)
def x5 : PySem.W.Frag → Bool := fun K => idcB K (kC K)
def x6 : PySem.W.Frag → Bool := fun K => insB K (kC K)
def x7 : PySem.W.Frag → Bool := fun K => decide (PySem.W.kitOne K (.ref (kC K)) (.ref (ga K "Lined")) = some true)
def x8 : PySem.W.Frag → Bool := fun K => HkQ.oexB K (kE K)
def x9 : PySem.W.Frag → Bool := fun K => xfB K (kE K)
def x10 : PySem.W.Frag → Bool := fun K => decide (PySem.W.typeIn K (.ref (ma K (kE K) "__init__")) = some (.type "function"))
def x11 : PySem.W.Frag → Bool := fun K => emptyTup K (kwAbove K)
def x12 : PySem.W.Frag → Bool := fun K => emptyTup K (ofAbove K)
def x13 : PySem.W.Frag → Bool := fun K => HkQ.oexB K (kA K)
def x14 : PySem.W.Frag → Bool := fun K => xfB K (kA K)
def x15 : PySem.W.Frag → Bool := fun K => decide (PySem.W.typeIn K (.ref (ma K (kA K) "__init__")) = some (.type "function"))
def x16 : PySem.W.Frag → Bool := linB
def exs : List (PySem.W.Frag → Bool) := [x0, x1, x2, x3, x4, x5, x6, x7, x8, x9, x10, x11, x12, x13, x14, x15, x16]
def tf : List HkQ.TabF := [fun K => ga K "_law_right"]
/-- what the walk knows of the program as the top left it -/
structure Txt (K : PySem.W.Frag) (mg : Str → Option Value) : Prop where
  g_check_ring : mg "check_ring" = some (.ref (ga K "check_ring"))
  g_line_above : mg "line_above" = some (.ref (ga K "line_above"))
  g__rows_of : mg "_rows_of" = some (.ref (ga K "_rows_of"))
  g__free_head : mg "_free_head" = some (.ref (ga K "_free_head"))
  g__head_of_row_with : mg "_head_of_row_with" = some (.ref (ga K "_head_of_row_with"))
  g__without : mg "_without" = some (.ref (ga K "_without"))
  g__ring_in : mg "_ring_in" = some (.ref (ga K "_ring_in"))
  g__is_in_rows : mg "_is_in_rows" = some (.ref (ga K "_is_in_rows"))
  g__is_before : mg "_is_before" = some (.ref (ga K "_is_before"))
  g_is_name : mg "is_name" = some (.ref (ga K "is_name"))
  g_check_members : mg "check_members" = some (.ref (ga K "check_members"))
  g_check_options : mg "check_options" = some (.ref (ga K "check_options"))
  g_check_above : mg "check_above" = some (.ref (ga K "check_above"))
  g_check_mixture : mg "check_mixture" = some (.ref (ga K "check_mixture"))
  g_check_frozen : mg "check_frozen" = some (.ref (ga K "check_frozen"))
  g_check_defaults : mg "check_defaults" = some (.ref (ga K "check_defaults"))
  g_whole_members : mg "whole_members" = some (.ref (ga K "whole_members"))
  g__law_mixed : mg "_law_mixed" = some (.ref (ga K "_law_mixed"))
  g__law_folded : mg "_law_folded" = some (.ref (ga K "_law_folded"))
  g__law_draw : mg "_law_draw" = some (.ref (ga K "_law_draw"))
  g__law_begun : mg "_law_begun" = some (.ref (ga K "_law_begun"))
  g__law_mixed_up : mg "_law_mixed_up" = some (.ref (ga K "_law_mixed_up"))
  g__law_line : mg "_law_line" = some (.ref (ga K "_law_line"))
  g__law_outcome : mg "_law_outcome" = some (.ref (ga K "_law_outcome"))
  g__law_before : mg "_law_before" = some (.ref (ga K "_law_before"))
  g__law_due : mg "_law_due" = some (.ref (ga K "_law_due"))
  g__law_walked : mg "_law_walked" = some (.ref (ga K "_law_walked"))
  g__law_rings : mg "_law_rings" = some (.ref (ga K "_law_rings"))
  g__law_bent : mg "_law_bent" = some (.ref (ga K "_law_bent"))
  g__law_real : mg "_law_real" = some (.ref (ga K "_law_real"))
  g__law_refused : mg "_law_refused" = some (.ref (ga K "_law_refused"))
  g__law_right : mg "_law_right" = some (.ref (ga K "_law_right"))
  g_law : mg "law" = some (.ref (ga K "law"))
  g_Kind : mg "Kind" = some (.ref (ga K "Kind"))
  g_Lined : mg "Lined" = some (.ref (ga K "Lined"))
  g_InvalidKind : mg "InvalidKind" = some (.ref (ga K "InvalidKind"))
  g_InvalidAnswer : mg "InvalidAnswer" = some (.ref (ga K "InvalidAnswer"))
  g_BARRED_WORDS : mg "BARRED_WORDS" = some (.ref (ga K "BARRED_WORDS"))
  n_len : mg "len" = none
  n_isinstance : mg "isinstance" = none
  n_tuple : mg "tuple" = none
  n_list : mg "list" = none
  n_range : mg "range" = none
  n_enumerate : mg "enumerate" = none
  n_any : mg "any" = none
  n_str : mg "str" = none
  n_min : mg "min" = none
  n_int : mg "int" = none
  n_ValueError : mg "ValueError" = none
  maxLen : ∃ t, mg "MAX_LENGTH" = some (.int 40 t)
  digits : ∃ t, mg "DIGITS" = some (.str digitSigns t)
  signs : ∃ t, mg "NAME_SIGNS" = some (.str nameSigns t)
  cls : Cls K (kC K)
  a_name : NoAttr K (kC K) "name"
  a_above : NoAttr K (kC K) "above"
  a_line : NoAttr K (kC K) "line"
  a_own_hook : NoAttr K (kC K) "own_hook"
  a_own_members : NoAttr K (kC K) "own_members"
  a_own_methods : NoAttr K (kC K) "own_methods"
  a_equal : NoAttr K (kC K) "equal"
  a_order : NoAttr K (kC K) "order"
  a_frozen : NoAttr K (kC K) "frozen"
  a_only_named : NoAttr K (kC K) "only_named"
  a_show : NoAttr K (kC K) "show"
  a__data : NoAttr K (kC K) "_data"
  a__shared : NoAttr K (kC K) "_shared"
  a__other_members : NoAttr K (kC K) "_other_members"
  a_fields : NoAttr K (kC K) "fields"
  a_field_names : NoAttr K (kC K) "field_names"
  a_compare_names : NoAttr K (kC K) "compare_names"
  a_show_names : NoAttr K (kC K) "show_names"
  a_key_names : NoAttr K (kC K) "key_names"
  a__init_only : NoAttr K (kC K) "_init_only"
  a__by_position : NoAttr K (kC K) "_by_position"
  a__by_name : NoAttr K (kC K) "_by_name"
  a__parameters : NoAttr K (kC K) "_parameters"
  a__parameter_names : NoAttr K (kC K) "_parameter_names"
  m__declare : Meth K (kC K) "_declare" (ma K (kC K) "_declare")
  m__set_own : Meth K (kC K) "_set_own" (ma K (kC K) "_set_own")
  m__set_options : Meth K (kC K) "_set_options" (ma K (kC K) "_set_options")
  m__set_whole : Meth K (kC K) "_set_whole" (ma K (kC K) "_set_whole")
  kmk : Mk K (kC K) (ma K (kC K) "__init__")
  mInit : Meth K (kE K) "__init__" (ma K (kE K) "__init__")
  e_rule : NoAttr K (kE K) "rule"
  e_item : NoAttr K (kE K) "item"
  mInitA : Meth K (kA K) "__init__" (ma K (kA K) "__init__")
  e_part : NoAttr K (kA K) "part"
  exmA : PySem.W.exmOne K (.ref (kA K)) (.ref (kA K)) = some true
  exm : PySem.W.exmOne K (.ref (kE K)) (.ref (kE K)) = some true
  barred : ∀ H : Hp, SqT K H (ga K "BARRED_WORDS") (barred.map V.str)
  maxMem : ∃ u, Con K (kC K) "MAX_MEMBERS" (.int 16) u
  maxLine : ∃ u, Con K (kC K) "MAX_LINE" (.int 12) u
  cread : ClX.CRead K (kC K) (.type "type")
  cmet : ClX.CMet K (kC K) (.type "type") "of" (ma K (kC K) "of") (He5.wf K (kC K) "classmethod" "of")
  idc : IdQ.IdC K (kC K)
  ins : insB K (kC K) = true
  isL : PySem.W.kitOne K (.ref (kC K)) (.ref (ga K "Lined")) = some true
  oex : OexC K (kE K)
  xf : XfC K (kE K)
  tInit : PySem.W.typeIn K (.ref (ma K (kE K) "__init__")) = some (.type "function")
  e1 : ∀ H : Hp, SqT K H (kwAbove K) []
  e2 : ∀ H : Hp, SqT K H (ofAbove K) []
  oexA : OexC K (kA K)
  xfA : XfC K (kA K)
  lin : linB K = true
  tInitA : PySem.W.typeIn K (.ref (ma K (kA K) "__init__")) = some (.type "function")
  F_InvalidKind_init : ∃ fd, FunD K "__init__" "InvalidKind.__init__" (defArgs s_InvalidKind_init) (defBody s_InvalidKind_init) (defScope s_InvalidKind_init) (He5.DefA.dvs K d_InvalidKind_init) (He5.DefA.kws K d_InvalidKind_init) (ma K (ga K "InvalidKind") "__init__") fd
  F_InvalidAnswer_init : ∃ fd, Fun K "__init__" "InvalidAnswer.__init__" s_InvalidAnswer_init (ma K (ga K "InvalidAnswer") "__init__") fd
  F_check_ring : ∃ fd, Fun K "check_ring" "check_ring" s_check_ring (ga K "check_ring") fd
  F_line_above : ∃ fd, Fun K "line_above" "line_above" s_line_above (ga K "line_above") fd
  F__rows_of : ∃ fd, Fun K "_rows_of" "_rows_of" s__rows_of (ga K "_rows_of") fd
  F__free_head : ∃ fd, Fun K "_free_head" "_free_head" s__free_head (ga K "_free_head") fd
  F__head_of_row_with : ∃ fd, Fun K "_head_of_row_with" "_head_of_row_with" s__head_of_row_with (ga K "_head_of_row_with") fd
  F__without : ∃ fd, Fun K "_without" "_without" s__without (ga K "_without") fd
  F__ring_in : ∃ fd, Fun K "_ring_in" "_ring_in" s__ring_in (ga K "_ring_in") fd
  F__is_in_rows : ∃ fd, Fun K "_is_in_rows" "_is_in_rows" s__is_in_rows (ga K "_is_in_rows") fd
  F__is_before : ∃ fd, Fun K "_is_before" "_is_before" s__is_before (ga K "_is_before") fd
  F_is_name : ∃ fd, Fun K "is_name" "is_name" s_is_name (ga K "is_name") fd
  F_check_members : ∃ fd, Fun K "check_members" "check_members" s_check_members (ga K "check_members") fd
  F_check_options : ∃ fd, Fun K "check_options" "check_options" s_check_options (ga K "check_options") fd
  F_check_above : ∃ fd, Fun K "check_above" "check_above" s_check_above (ga K "check_above") fd
  F_check_mixture : ∃ fd, Fun K "check_mixture" "check_mixture" s_check_mixture (ga K "check_mixture") fd
  F_check_frozen : ∃ fd, Fun K "check_frozen" "check_frozen" s_check_frozen (ga K "check_frozen") fd
  F_check_defaults : ∃ fd, Fun K "check_defaults" "check_defaults" s_check_defaults (ga K "check_defaults") fd
  F_whole_members : ∃ fd, Fun K "whole_members" "whole_members" s_whole_members (ga K "whole_members") fd
  F_Kind_init : ∃ fd, FunD K "__init__" "Kind.__init__" (defArgs s_Kind_init) (defBody s_Kind_init) (defScope s_Kind_init) (He5.DefA.dvs K d_Kind_init) (He5.DefA.kws K d_Kind_init) (ma K (ga K "Kind") "__init__") fd
  F_Kind_of : ∃ fd, FunD K "of" "Kind.of" (defArgs s_Kind_of) (defBody s_Kind_of) (defScope s_Kind_of) (He5.DefA.dvs K d_Kind_of) (He5.DefA.kws K d_Kind_of) (He5.wf K (ga K "Kind") "classmethod" "of") fd
  F_Kind__declare : ∃ fd, Fun K "_declare" "Kind._declare" s_Kind__declare (ma K (ga K "Kind") "_declare") fd
  F_Kind__set_own : ∃ fd, Fun K "_set_own" "Kind._set_own" s_Kind__set_own (ma K (ga K "Kind") "_set_own") fd
  F_Kind__set_options : ∃ fd, Fun K "_set_options" "Kind._set_options" s_Kind__set_options (ma K (ga K "Kind") "_set_options") fd
  F_Kind__set_whole : ∃ fd, Fun K "_set_whole" "Kind._set_whole" s_Kind__set_whole (ma K (ga K "Kind") "_set_whole") fd
  F__law_mixed : ∃ fd, Fun K "_law_mixed" "_law_mixed" s__law_mixed (ga K "_law_mixed") fd
  F__law_folded : ∃ fd, Fun K "_law_folded" "_law_folded" s__law_folded (ga K "_law_folded") fd
  F__law_draw : ∃ fd, Fun K "_law_draw" "_law_draw" s__law_draw (ga K "_law_draw") fd
  F__law_begun : ∃ fd, Fun K "_law_begun" "_law_begun" s__law_begun (ga K "_law_begun") fd
  F__law_mixed_up : ∃ fd, Fun K "_law_mixed_up" "_law_mixed_up" s__law_mixed_up (ga K "_law_mixed_up") fd
  F__law_line : ∃ fd, Fun K "_law_line" "_law_line" s__law_line (ga K "_law_line") fd
  F__law_outcome : ∃ fd, Fun K "_law_outcome" "_law_outcome" s__law_outcome (ga K "_law_outcome") fd
  F__law_before : ∃ fd, Fun K "_law_before" "_law_before" s__law_before (ga K "_law_before") fd
  F__law_due : ∃ fd, Fun K "_law_due" "_law_due" s__law_due (ga K "_law_due") fd
  F__law_walked : ∃ fd, Fun K "_law_walked" "_law_walked" s__law_walked (ga K "_law_walked") fd
  F__law_rings : ∃ fd, Fun K "_law_rings" "_law_rings" s__law_rings (ga K "_law_rings") fd
  F__law_bent : ∃ fd, Fun K "_law_bent" "_law_bent" s__law_bent (ga K "_law_bent") fd
  F__law_real : ∃ fd, Fun K "_law_real" "_law_real" s__law_real (ga K "_law_real") fd
  F__law_refused : ∃ fd, Fun K "_law_refused" "_law_refused" s__law_refused (ga K "_law_refused") fd
  F__law_right : ∃ fd, Fun K "_law_right" "_law_right" s__law_right (ga K "_law_right") fd
  F_law : ∃ fd, Fun K "law" "law" s_law (ga K "law") fd
theorem txt_of {K : PySem.W.Frag} {mg : Str → Option Value} {h h0 : Heap} (X : K.In h) (G : h.Ns mainGlobals mg) (c : HkQ.SaysQ fa fn tf exs h0 K) : Txt K mg := by
  constructor
  · exact glo_ok X G (c.a.fact 0 (f := .glo "check_ring") rfl)
  · exact glo_ok X G (c.a.fact 1 (f := .glo "line_above") rfl)
  · exact glo_ok X G (c.a.fact 2 (f := .glo "_rows_of") rfl)
  · exact glo_ok X G (c.a.fact 3 (f := .glo "_free_head") rfl)
  · exact glo_ok X G (c.a.fact 4 (f := .glo "_head_of_row_with") rfl)
  · exact glo_ok X G (c.a.fact 5 (f := .glo "_without") rfl)
  · exact glo_ok X G (c.a.fact 6 (f := .glo "_ring_in") rfl)
  · exact glo_ok X G (c.a.fact 7 (f := .glo "_is_in_rows") rfl)
  · exact glo_ok X G (c.a.fact 8 (f := .glo "_is_before") rfl)
  · exact glo_ok X G (c.a.fact 9 (f := .glo "is_name") rfl)
  · exact glo_ok X G (c.a.fact 10 (f := .glo "check_members") rfl)
  · exact glo_ok X G (c.a.fact 11 (f := .glo "check_options") rfl)
  · exact glo_ok X G (c.a.fact 12 (f := .glo "check_above") rfl)
  · exact glo_ok X G (c.a.fact 13 (f := .glo "check_mixture") rfl)
  · exact glo_ok X G (c.a.fact 14 (f := .glo "check_frozen") rfl)
  · exact glo_ok X G (c.a.fact 15 (f := .glo "check_defaults") rfl)
  · exact glo_ok X G (c.a.fact 16 (f := .glo "whole_members") rfl)
  · exact glo_ok X G (c.a.fact 17 (f := .glo "_law_mixed") rfl)
  · exact glo_ok X G (c.a.fact 18 (f := .glo "_law_folded") rfl)
  · exact glo_ok X G (c.a.fact 19 (f := .glo "_law_draw") rfl)
  · exact glo_ok X G (c.a.fact 20 (f := .glo "_law_begun") rfl)
  · exact glo_ok X G (c.a.fact 21 (f := .glo "_law_mixed_up") rfl)
  · exact glo_ok X G (c.a.fact 22 (f := .glo "_law_line") rfl)
  · exact glo_ok X G (c.a.fact 23 (f := .glo "_law_outcome") rfl)
  · exact glo_ok X G (c.a.fact 24 (f := .glo "_law_before") rfl)
  · exact glo_ok X G (c.a.fact 25 (f := .glo "_law_due") rfl)
  · exact glo_ok X G (c.a.fact 26 (f := .glo "_law_walked") rfl)
  · exact glo_ok X G (c.a.fact 27 (f := .glo "_law_rings") rfl)
  · exact glo_ok X G (c.a.fact 28 (f := .glo "_law_bent") rfl)
  · exact glo_ok X G (c.a.fact 29 (f := .glo "_law_real") rfl)
  · exact glo_ok X G (c.a.fact 30 (f := .glo "_law_refused") rfl)
  · exact glo_ok X G (c.a.fact 31 (f := .glo "_law_right") rfl)
  · exact glo_ok X G (c.a.fact 32 (f := .glo "law") rfl)
  · exact glo_ok X G (c.a.fact 33 (f := .glo "Kind") rfl)
  · exact glo_ok X G (c.a.fact 34 (f := .glo "Lined") rfl)
  · exact glo_ok X G (c.a.fact 35 (f := .glo "InvalidKind") rfl)
  · exact glo_ok X G (c.a.fact 36 (f := .glo "InvalidAnswer") rfl)
  · exact glo_ok X G (c.a.fact 50 (f := .glo "BARRED_WORDS") rfl)
  · exact free_ok X G (c.a.fact 37 (f := .free "len") rfl)
  · exact free_ok X G (c.a.fact 38 (f := .free "isinstance") rfl)
  · exact free_ok X G (c.a.fact 39 (f := .free "tuple") rfl)
  · exact free_ok X G (c.a.fact 40 (f := .free "list") rfl)
  · exact free_ok X G (c.a.fact 41 (f := .free "range") rfl)
  · exact free_ok X G (c.a.fact 42 (f := .free "enumerate") rfl)
  · exact free_ok X G (c.a.fact 43 (f := .free "any") rfl)
  · exact free_ok X G (c.a.fact 44 (f := .free "str") rfl)
  · exact free_ok X G (c.a.fact 45 (f := .free "min") rfl)
  · exact free_ok X G (c.a.fact 46 (f := .free "int") rfl)
  · exact free_ok X G (c.a.fact 85 (f := .free "ValueError") rfl)
  · exact int_ok X G (c.a.fact 47 (f := .int "MAX_LENGTH" 40) rfl)
  · exact str_ok X G (c.a.fact 48 (f := .str "DIGITS" digitSigns) rfl)
  · exact str_ok X G (c.a.fact 49 (f := .str "NAME_SIGNS" nameSigns) rfl)
  · exact cls_ok (c.a.fact 51 (f := .cls "Kind") rfl)
  · exact noat_ok (c.a.fact 52 (f := .noat "Kind" "name") rfl)
  · exact noat_ok (c.a.fact 53 (f := .noat "Kind" "above") rfl)
  · exact noat_ok (c.a.fact 54 (f := .noat "Kind" "line") rfl)
  · exact noat_ok (c.a.fact 55 (f := .noat "Kind" "own_hook") rfl)
  · exact noat_ok (c.a.fact 56 (f := .noat "Kind" "own_members") rfl)
  · exact noat_ok (c.a.fact 57 (f := .noat "Kind" "own_methods") rfl)
  · exact noat_ok (c.a.fact 58 (f := .noat "Kind" "equal") rfl)
  · exact noat_ok (c.a.fact 59 (f := .noat "Kind" "order") rfl)
  · exact noat_ok (c.a.fact 60 (f := .noat "Kind" "frozen") rfl)
  · exact noat_ok (c.a.fact 61 (f := .noat "Kind" "only_named") rfl)
  · exact noat_ok (c.a.fact 62 (f := .noat "Kind" "show") rfl)
  · exact noat_ok (c.a.fact 63 (f := .noat "Kind" "_data") rfl)
  · exact noat_ok (c.a.fact 64 (f := .noat "Kind" "_shared") rfl)
  · exact noat_ok (c.a.fact 65 (f := .noat "Kind" "_other_members") rfl)
  · exact noat_ok (c.a.fact 66 (f := .noat "Kind" "fields") rfl)
  · exact noat_ok (c.a.fact 67 (f := .noat "Kind" "field_names") rfl)
  · exact noat_ok (c.a.fact 68 (f := .noat "Kind" "compare_names") rfl)
  · exact noat_ok (c.a.fact 69 (f := .noat "Kind" "show_names") rfl)
  · exact noat_ok (c.a.fact 70 (f := .noat "Kind" "key_names") rfl)
  · exact noat_ok (c.a.fact 71 (f := .noat "Kind" "_init_only") rfl)
  · exact noat_ok (c.a.fact 72 (f := .noat "Kind" "_by_position") rfl)
  · exact noat_ok (c.a.fact 73 (f := .noat "Kind" "_by_name") rfl)
  · exact noat_ok (c.a.fact 74 (f := .noat "Kind" "_parameters") rfl)
  · exact noat_ok (c.a.fact 75 (f := .noat "Kind" "_parameter_names") rfl)
  · exact meth_ok (c.a.fact 76 (f := .meth "Kind" "_declare") rfl)
  · exact meth_ok (c.a.fact 77 (f := .meth "Kind" "_set_own") rfl)
  · exact meth_ok (c.a.fact 78 (f := .meth "Kind" "_set_options") rfl)
  · exact meth_ok (c.a.fact 79 (f := .meth "Kind" "_set_whole") rfl)
  · exact mkr_ok (c.a.fact 80 (f := .mkr "Kind") rfl)
  · exact meth_ok (c.a.fact 81 (f := .meth "InvalidKind" "__init__") rfl)
  · exact noat_ok (c.a.fact 82 (f := .noat "InvalidKind" "rule") rfl)
  · exact noat_ok (c.a.fact 83 (f := .noat "InvalidKind" "item") rfl)
  · exact meth_ok (c.a.fact 86 (f := .meth "InvalidAnswer" "__init__") rfl)
  · exact noat_ok (c.a.fact 87 (f := .noat "InvalidAnswer" "part") rfl)
  · exact exm_ok (c.a.fact 88 (f := .exm "InvalidAnswer" "InvalidAnswer" true) rfl)
  · exact exm_ok (c.a.fact 84 (f := .exm "InvalidKind" "InvalidKind" true) rfl)
  · exact fun H => tupB_ok (x := "BARRED_WORDS") (vs := barred.map He.Dv.str) (c.ex 0 (f := x0) rfl) H
  · exact conB_ok (C := "Kind") (f := "MAX_MEMBERS") (v := .int 16) (c.ex 1 (f := x1) rfl)
  · exact conB_ok (C := "Kind") (f := "MAX_LINE") (v := .int 12) (c.ex 2 (f := x2) rfl)
  · exact creadB_ok (c.ex 3 (f := x3) rfl)
  · exact He5.cmet_of (He.ba (show ofB K (kC K) = true from c.ex 4 (f := x4) rfl)).1 (He.ba (show ofB K (kC K) = true from c.ex 4 (f := x4) rfl)).2
  · exact idcB_ok (c.ex 5 (f := x5) rfl)
  · exact c.ex 6 (f := x6) rfl
  · exact of_decide_eq_true (c.ex 7 (f := x7) rfl)
  · exact HkQ.oexB_ok (c.ex 8 (f := x8) rfl)
  · exact xfB_ok (c.ex 9 (f := x9) rfl)
  · exact of_decide_eq_true (c.ex 10 (f := x10) rfl)
  · exact fun H => emptyTup_ok (c.ex 11 (f := x11) rfl) H
  · exact fun H => emptyTup_ok (c.ex 12 (f := x12) rfl) H
  · exact HkQ.oexB_ok (c.ex 13 (f := x13) rfl)
  · exact xfB_ok (c.ex 14 (f := x14) rfl)
  · exact c.ex 16 (f := x16) rfl
  · exact of_decide_eq_true (c.ex 15 (f := x15) rfl)
  · exact c.a.def_ 0 (d := d_InvalidKind_init) rfl
  · exact (c.a.def_ 1 (d := d_InvalidAnswer_init) rfl).imp fun fd F => He5.fun_of F
  · exact (c.a.def_ 2 (d := d_check_ring) rfl).imp fun fd F => He5.fun_of F
  · exact (c.a.def_ 3 (d := d_line_above) rfl).imp fun fd F => He5.fun_of F
  · exact (c.a.def_ 4 (d := d__rows_of) rfl).imp fun fd F => He5.fun_of F
  · exact (c.a.def_ 5 (d := d__free_head) rfl).imp fun fd F => He5.fun_of F
  · exact (c.a.def_ 6 (d := d__head_of_row_with) rfl).imp fun fd F => He5.fun_of F
  · exact (c.a.def_ 7 (d := d__without) rfl).imp fun fd F => He5.fun_of F
  · exact (c.a.def_ 8 (d := d__ring_in) rfl).imp fun fd F => He5.fun_of F
  · exact (c.a.def_ 9 (d := d__is_in_rows) rfl).imp fun fd F => He5.fun_of F
  · exact (c.a.def_ 10 (d := d__is_before) rfl).imp fun fd F => He5.fun_of F
  · exact (c.a.def_ 11 (d := d_is_name) rfl).imp fun fd F => He5.fun_of F
  · exact (c.a.def_ 12 (d := d_check_members) rfl).imp fun fd F => He5.fun_of F
  · exact (c.a.def_ 13 (d := d_check_options) rfl).imp fun fd F => He5.fun_of F
  · exact (c.a.def_ 14 (d := d_check_above) rfl).imp fun fd F => He5.fun_of F
  · exact (c.a.def_ 15 (d := d_check_mixture) rfl).imp fun fd F => He5.fun_of F
  · exact (c.a.def_ 16 (d := d_check_frozen) rfl).imp fun fd F => He5.fun_of F
  · exact (c.a.def_ 17 (d := d_check_defaults) rfl).imp fun fd F => He5.fun_of F
  · exact (c.a.def_ 18 (d := d_whole_members) rfl).imp fun fd F => He5.fun_of F
  · exact c.a.def_ 19 (d := d_Kind_init) rfl
  · exact c.a.def_ 20 (d := d_Kind_of) rfl
  · exact (c.a.def_ 21 (d := d_Kind__declare) rfl).imp fun fd F => He5.fun_of F
  · exact (c.a.def_ 22 (d := d_Kind__set_own) rfl).imp fun fd F => He5.fun_of F
  · exact (c.a.def_ 23 (d := d_Kind__set_options) rfl).imp fun fd F => He5.fun_of F
  · exact (c.a.def_ 24 (d := d_Kind__set_whole) rfl).imp fun fd F => He5.fun_of F
  · exact (c.a.def_ 25 (d := d__law_mixed) rfl).imp fun fd F => He5.fun_of F
  · exact (c.a.def_ 26 (d := d__law_folded) rfl).imp fun fd F => He5.fun_of F
  · exact (c.a.def_ 27 (d := d__law_draw) rfl).imp fun fd F => He5.fun_of F
  · exact (c.a.def_ 28 (d := d__law_begun) rfl).imp fun fd F => He5.fun_of F
  · exact (c.a.def_ 29 (d := d__law_mixed_up) rfl).imp fun fd F => He5.fun_of F
  · exact (c.a.def_ 30 (d := d__law_line) rfl).imp fun fd F => He5.fun_of F
  · exact (c.a.def_ 31 (d := d__law_outcome) rfl).imp fun fd F => He5.fun_of F
  · exact (c.a.def_ 32 (d := d__law_before) rfl).imp fun fd F => He5.fun_of F
  · exact (c.a.def_ 33 (d := d__law_due) rfl).imp fun fd F => He5.fun_of F
  · exact (c.a.def_ 34 (d := d__law_walked) rfl).imp fun fd F => He5.fun_of F
  · exact (c.a.def_ 35 (d := d__law_rings) rfl).imp fun fd F => He5.fun_of F
  · exact (c.a.def_ 36 (d := d__law_bent) rfl).imp fun fd F => He5.fun_of F
  · exact (c.a.def_ 37 (d := d__law_real) rfl).imp fun fd F => He5.fun_of F
  · exact (c.a.def_ 38 (d := d__law_refused) rfl).imp fun fd F => He5.fun_of F
  · exact (c.a.def_ 39 (d := d__law_right) rfl).imp fun fd F => He5.fun_of F
  · exact (c.a.def_ 40 (d := d_law) rfl).imp fun fd F => He5.fun_of F
end K28
end

section
set_option Elab.async false
set_option linter.all false
set_option maxRecDepth 100000
set_option maxHeartbeats 4000000
namespace K28
open PySem PySem.Spec PyProof.Rows L2 He Cn Evl
section
variable {P : Program} {w : World} {K : PySem.W.Frag} {mg : Str → Option Value} {base : Heap}
/-! ### the law's numbers -/
def spMixed : Sp := fun vs H Q _ => ∃ c n : Int, vs = [.int c, .int n] ∧ 0 ≤ n ∧ n < 1000000 ∧ ∀ r : Int, 0 ≤ r → r < 2147483647 → Q (.int r) H
theorem can_mixed (T : Txt K mg) : Can P w K mg base CX0 1 "_law_mixed" ["cell", "n"] spMixed := by
  refine can_of T.g__law_mixed T.F__law_mixed (fun fd F => ?_) (fun _ _ _ _ _ _ us hl => match us, hl with | [_, _], _ => rfl)
  refine F.ok sc__law_mixed (fun vs H Q E h => ?_) (fun cdv A outer s H vs Q E hr h => ?_)
  · obtain ⟨c, n, rfl, _⟩ := h
    rfl
  · obtain ⟨c, n, rfl, h0, h1, k⟩ := h
    refine ⟨_, pss_cons (ps_set (i := 2) sc__law_mixed.nd rfl (.inl rfl) (pe_op op_add (pe_op op_add (pe_op op_mod (pe_op op_mul (pe_op op_mul (pv 0) (pe_op op_add pe_int (pe_op op_mul pe_int (pv 1)))) pe_int) pe_int) (pe_op op_mul (pe_op op_mul pe_int (pv 1)) (pv 1))) (pe_op op_mul pe_int (pv 1))))
      (pss_one (ps_ret (pe_op op_fdiv (pe_op op_mod (pe_op op_mul (pv 2) pe_int) pe_int) pe_int))), ?_⟩
    have n64 : -(2 ^ 64) < n ∧ n < 2 ^ 64 := ⟨by omega, by omega⟩
    refine ⟨_, rfl, _, rfl, _, _, rfl, rfl, .inr n64, _, _, rfl, rfl, _, _, rfl, rfl, .inr ⟨by omega, by omega⟩, _, _, rfl, rfl, .inr ⟨by decide, by decide⟩, _, _, rfl, rfl, (by show (0 : Int) < 2147483647; decide),
      _, rfl, _, _, rfl, rfl, .inl ⟨by decide, by decide⟩, _, rfl, _, _, rfl, rfl, .inr n64, _, _, rfl, rfl, _, rfl, _, _, rfl, rfl, .inl ⟨by decide, by decide⟩, _, _, rfl, rfl, ?_⟩
    refine ⟨_, rfl, _, _, rfl, rfl, .inr ⟨by decide, by decide⟩, _, _, rfl, rfl, (by show (0 : Int) < 2147483629; decide), _, _, rfl, rfl, ⟨by decide, by decide⟩, ?_⟩
    exact k _ (by omega) (by omega)
/-- 64 numbers below 2147483647 -/
def FoldAt (H : Hp) (p : Addr) : Prop := ∃ xs : List Int, xs.length = 64 ∧ (∀ x, x ∈ xs → 0 ≤ x ∧ x < 2147483647) ∧ H p = some (.lst (xs.map V.int))
def spFolded (K : PySem.W.Frag) : Sp := fun vs H Q _ => ∃ (a : Addr) (ns : List Int), vs = [.ref a] ∧ SqL K H a (ns.map V.int) ∧ ns.length ≤ 63 ∧ ∀ p H', H p = none → Ex H H' → FoldAt H' p → Q (.ref p) H'
theorem fold_at {xs : List Int} (h : xs.length = 64) {j : Nat} (hj : j < 64) : ∃ x, xs[j]? = some x := ⟨xs[j]'(by omega), List.getElem?_eq_getElem (by omega)⟩
theorem map_at {xs : List Int} {j : Nat} {x : Int} (h : xs[j]? = some x) : (xs.map V.int)[j]? = some (V.int x) := by rw [List.getElem?_map, h] <;> rfl
theorem fold_set {xs : List Int} {j : Nat} {y : Int} (h : ∀ x, x ∈ xs → 0 ≤ x ∧ x < 2147483647) (hy : 0 ≤ y ∧ y < 2147483647) : ∀ x, x ∈ xs.set j y → 0 ≤ x ∧ x < 2147483647 := fun x hx => by
  rcases List.mem_or_eq_of_mem_set hx with q | q
  · exact h x q
  · rw [q]; exact hy
theorem can_folded (T : Txt K mg) : Can P w K mg base CX0 1 "_law_folded" ["script"] (spFolded K) := by
  refine can_of T.g__law_folded T.F__law_folded (fun fd F => ?_) (fun _ _ _ _ _ _ us hl => match us, hl with | [_], _ => rfl)
  refine F.ok sc__law_folded (fun vs H Q E h => ?_) (fun cdv A outer s H vs Q E hr h => ?_)
  · obtain ⟨c, n, rfl, _⟩ := h
    rfl
  · obtain ⟨a, ns, rfl, hS, hlen, k⟩ := h
    have nd := sc__law_folded.nd
    refine ⟨_, pss_cons (ps_setLc (i := 2) (own := [("n", 1)]) (g := gName 1) (tt := tYes) rfl nd rfl rfl (sw_true rfl rfl rfl (by decide +kernel)) (pi_range1 rfl T.n_range (pa_cons pe_int pa_nil)) (blkOk_by (N := ["script", "n", "found", "cell"]) (sc := defScope s__law_folded) (by decide +kernel)) (fun _ _ _ _ _ => pg_name (i := 1) nd rfl (.inl rfl)) (fun _ _ _ _ _ => pts_nil) (fun _ _ _ _ _ => pe_op op_add pe_int (pv 1)))
      (pss_cons (ps_for PassesOwn.never rfl (pi_enum (by rfl) T.n_enumerate (pa_cons (pv 0) pa_nil)) (pg_tup rfl (pgs_cons (pg_name (i := 1) nd rfl (.inl rfl)) (pgs_cons (pg_name (i := 3) nd rfl (.inl rfl)) pgs_nil)))
        (pss_one (ps_asg (pe_op op_mod (pe_op op_add (pe_op op_mul (pe_ix ix_list (pv 2) (pe_op op_mod (pv 1) pe_int) (fun _ _ => rfl)) pe_int) (pv 3)) pe_int) (pg_sub (pv 2) (pe_op op_mod (pv 1) pe_int) set_list))))
      (pss_cons (ps_for PassesOwn.never rfl (pi_range2 rfl T.n_range (pa_cons pe_int (pa_cons pe_int pa_nil))) (pg_name (i := 1) nd rfl (.inl rfl))
        (pss_one (ps_asg (pe_op op_mod (pe_op op_add (pe_ix ix_list (pv 2) (pv 1) (fun _ _ => rfl)) (pe_op op_mul (pe_ix ix_list (pv 2) (pe_op op_sub (pv 1) pe_int) (fun _ _ => rfl)) pe_int)) pe_int) (pg_sub (pv 2) (pv 1) set_list))))
      (pss_one (ps_ret (pv 2))))), ?_⟩
    refine q_asgL (el_lcR1 (n := 64) (fun _ => true) (fun i => .int (17 + (i : Int))) (ea_cons ev_c ea_nil) (by decide) (fun x => rfl) (fun i H1 _ _ => ?_) (fun i H1 _ _ _ => ev_op ev_c (ev_var rfl) rv_I0)) fun p H1 hp e1 h1 => ?_
    · exact fun H2 _ Q q => q H2 (Ex.refl H2)
    have f1 : FoldAt H1 p := ⟨(List.range 64).map (fun (i : Nat) => 17 + (i : Int)), by simp, fun x hx => by
      obtain ⟨i, hi, rfl⟩ := List.mem_map.mp hx
      have := List.mem_range.mp hi
      omega, by rw [h1, List.map_map] <;> rfl⟩
    have keep : ∀ {H2 : Hp} {xs : List Int} {j : Nat} {y : Int}, Ex H H2 → xs.length = 64 → (∀ x, x ∈ xs → 0 ≤ x ∧ x < 2147483647) → (0 ≤ y ∧ y < 2147483647) → Ex H (upd H2 p (.lst ((xs.map V.int).set j (.int y)))) ∧ FoldAt (upd H2 p (.lst ((xs.map V.int).set j (.int y)))) p := fun {H2 xs j y} e l b hy => by
      refine ⟨Ex.mut e hp, xs.set j y, by rw [List.length_set]; exact l, fold_set b hy, ?_⟩
      rw [upd_same, List.map_set]
    have ix : ∀ {H2 : Hp} {xs : List Int} {σ : L2.St} {j : Nat} {x : Int} {tb : TE}, H2 p = some (.lst (xs.map V.int)) → σ[2]? = some (some (.ref p)) → Ev tb σ H2 (.int (j : Int)) → xs[j]? = some x → Ev (tOp (rIxL K) (tVar 2) tb) σ H2 (.int x) := fun h hv ht hx =>
      ev_op (ev_var hv) ht (rv_ixL (sq_of h) (at_of rfl (map_at hx)))
    refine ⟨_, rfl, a, _, rfl, ex_l e1 hS, for_it walk_enum (fun i σ H2 => Ex H H2 ∧ FoldAt H2 p ∧ ∃ v1 v3, σ = [some (.ref a), v1, some (.ref p), v3]) ⟨e1, f1, _, _, rfl⟩ (fun i σ H2 _ q => ex_l q.1 hS) ?_ ?_⟩
    · rintro i x σ H2 H3 hi ⟨e2, ⟨xs, lx, bx, hx⟩, v1, v3, rfl⟩ ⟨T, y, z, rfl, hT, rfl, hy, hz⟩
      obtain rfl := Option.some.inj hy
      obtain ⟨c, hc, rfl⟩ : ∃ c, ns[i]? = some c ∧ V.int c = z := by
        have hz : (ns.map V.int)[i]? = some z := hz
        rw [List.getElem?_map] at hz
        cases e : ns[i]? with
        | none => rw [e] at hz; cases hz
        | some c => rw [e] at hz; exact ⟨c, rfl, Option.some.inj hz⟩
      have hi64 : i < 64 := by rw [List.length_map] at hi; omega
      obtain ⟨x0, hx0⟩ := fold_at lx hi64
      have bx0 := bx x0 (List.mem_of_getElem? hx0)
      have hp3 : upd H2 T (.tup [.int (i : Nat), .int c]) p = some (.lst (xs.map V.int)) := by rw [upd_ne (ne_of_none hx hT)]; exact hx
      have e3 : Ex H (upd H2 T (.tup [.int (i : Nat), .int c])) := e2.trans (Ex.new hT)
      have hm : ∀ {H4 : Hp}, Ev (tOp (rI (fun _ j => 0 < j) fun i j => .int (i % j)) (tVar 1) (tC (.int 64))) [some (.ref a), some (.int (i : Nat)), some (.ref p), some (.int c)] H4 (.int ((i : Nat) : Int)) := fun {H4} =>
        ev_is (ev_op (ev_var rfl) ev_c (rv_I (by show (0 : Int) < 64; decide))) (by show V.int ((i : Int) % 64) = _; rw [Int.emod_eq_of_lt (by omega) (by omega)])
      refine ⟨T, _, rfl, st_of upd_same, rfl, _, _, rfl, _, _, rfl, rfl, ?_⟩
      refine s_setL (xs := xs.map V.int) (j := i) (v := .int ((x0 * 48271 + c) % 2147483647)) hp3 (ev_op (ev_op (ev_op (ix hp3 rfl hm hx0) ev_c (rv_I (.inr ⟨by decide, by decide⟩))) (ev_var rfl) rv_I0) ev_c (rv_I (by show (0 : Int) < 2147483647; decide))) (ev_var rfl) hm (by rw [List.length_map]; omega) fun H4 e4 => ?_
      have e5 := keep (H2 := H4) (xs := xs) (j := i) (y := (x0 * 48271 + c) % 2147483647) (e3.trans e4) lx bx ⟨by omega, by omega⟩
      exact ⟨e5.1, e5.2, _, _, rfl⟩
    · rintro σ H2 ⟨e2, f2, v1, v3, rfl⟩
      refine q_forR2 (lo := 1) (n := 64) (ea_cons ev_c (ea_cons ev_c ea_nil)) (by decide) (fun i σ H3 => Ex H H3 ∧ FoldAt H3 p ∧ ∃ v1 v3, σ = [some (.ref a), v1, some (.ref p), v3]) (fun H3 e3 => ⟨e2.trans e3, ?_, _, _, rfl⟩) ?_ ?_
      · obtain ⟨xs, lx, bx, hx⟩ := f2
        exact ⟨xs, lx, bx, e3 _ _ hx⟩
      · rintro i σ H3 hi ⟨e3, ⟨xs, lx, bx, hx⟩, v1, v3, rfl⟩
        obtain ⟨x1, hx1⟩ := fold_at lx (j := i + 1) (by omega)
        obtain ⟨x0, hx0⟩ := fold_at lx (j := i) (by omega)
        have ei : (1 : Int) + (i : Int) = ((i + 1 : Nat) : Int) := by omega
        show tAsg _ _ _ [some (.ref a), some (.int ((1 : Int) + (i : Int))), some (.ref p), v3] H3
        rw [ei]
        refine s_setL (xs := xs.map V.int) (j := i + 1) (v := .int ((x1 + x0 * 16807) % 2147483647)) hx (ev_op (ev_op (ix hx rfl (ev_var rfl) hx1) (ev_op (ix hx rfl (ev_is (ev_op (ev_var rfl) ev_c rv_I0) (by show V.int (((i + 1 : Nat) : Int) - 1) = _; congr 1; omega)) hx0) ev_c (rv_I (.inr ⟨by decide, by decide⟩))) rv_I0) ev_c (rv_I (by show (0 : Int) < 2147483647; decide))) (ev_var rfl) (ev_var rfl) (by rw [List.length_map]; omega) fun H4 e4 => ?_
        have e5 := keep (H2 := H4) (xs := xs) (j := i + 1) (y := (x1 + x0 * 16807) % 2147483647) (e3.trans e4) lx bx ⟨by omega, by omega⟩
        exact ⟨e5.1, e5.2, _, _, rfl⟩
      · rintro σ H3 ⟨e3, f3, v1, v3, rfl⟩
        exact s_ret (ev_var rfl) fun H4 e4 => k p H4 hp (e3.trans e4) (by
          obtain ⟨xs, lx, bx, hx⟩ := f3
          exact ⟨xs, lx, bx, e4 _ _ hx⟩)
/-! ### the dict m of the law -/
theorem ev_dget {σ : L2.St} {H : Hp} {td ty : TE} {d : Addr} {k : L2.Key} {kvs : List (L2.Key × V)} {v : V} (ha : Ev td σ H (.ref d)) (hk : Ev ty σ H (kV k)) (hd : H d = some (.dK kvs)) (hv : valV kvs k = some v) : Ev (tDGet td ty) σ H v := fun H1 e Q q =>
  ha H1 e _ fun H2 e2 => hk H2 (e.trans e2) _ fun H3 e3 => ⟨d, v, rfl, by
    have := DGet.k (k := k) (((e.trans e2).trans e3) d _ hd)
    rw [hv] at this
    exact this, q H3 (e2.trans e3)⟩
theorem rv_eqE {H : Hp} {neg : Bool} {p q : Addr} {xs : List V} (hx : SqL K H p xs) (hy : SqL K H q []) : RV (rEqE K neg) (.ref p) (.ref q) H (.bl (if neg then !xs.isEmpty else xs.isEmpty)) := fun H1 e _ k =>
  ⟨p, q, xs, rfl, rfl, ex_l e hx, ex_l e hy, k H1 (Ex.refl H1)⟩
def mK (c g : Addr) (sp : Int) : List (L2.Key × V) := [(.inr "cells", .ref c), (.inr "great", .ref g), (.inr "spot", .int sp)]
structure MAt (H : Hp) (d c g : Addr) (sp : Int) : Prop where
  ob : H d = some (.dK (mK c g sp))
  cells : FoldAt H c
  great : ∃ ys : List Int, ys.length ≤ 63 ∧ H g = some (.lst (ys.map V.int))
  ne : c ≠ g
theorem mK_cells {c g : Addr} {sp : Int} : valV (mK c g sp) (.inr "cells") = some (.ref c) := valV_pos rfl
theorem mK_great {c g : Addr} {sp : Int} : valV (mK c g sp) (.inr "great") = some (.ref g) := (valV_neg (by show ¬ (Sum.inr ("cells" : Str) : L2.Key) = Sum.inr ("great" : Str); decide +kernel)).trans (valV_pos rfl)
theorem mK_spot {c g : Addr} {sp : Int} : valV (mK c g sp) (.inr "spot") = some (.int sp) := (valV_neg (by show ¬ (Sum.inr ("cells" : Str) : L2.Key) = Sum.inr ("spot" : Str); decide +kernel)).trans ((valV_neg (by show ¬ (Sum.inr ("great" : Str) : L2.Key) = Sum.inr ("spot" : Str); decide +kernel)).trans (valV_pos rfl))
theorem kne1 : ¬ (Sum.inr ("cells" : Str) : L2.Key) = Sum.inr ("spot" : Str) := by decide +kernel
theorem kne2 : ¬ (Sum.inr ("great" : Str) : L2.Key) = Sum.inr ("spot" : Str) := by decide +kernel
theorem kne3 : ¬ (Sum.inr ("cells" : Str) : L2.Key) = Sum.inr ("great" : Str) := by decide +kernel
theorem kne4 : ¬ (Sum.inr ("spot" : Str) : L2.Key) = Sum.inr ("great" : Str) := by decide +kernel
theorem mK_put {c g : Addr} {sp y : Int} : putK (mK c g sp) (.inr "spot") (.int y) = mK c g y := by
  unfold putK mK
  rw [if_pos (by simp)]
  simp only [List.map_cons, List.map_nil, kne1, kne2, if_false, if_true]
theorem mK_putG {c g g' : Addr} {sp : Int} : putK (mK c g sp) (.inr "great") (.ref g') = mK c g' sp := by
  unfold putK mK
  rw [if_pos (by simp)]
  simp only [List.map_cons, List.map_nil, kne3, kne4, if_false, if_true]
theorem mK_merge {c g : Addr} {sp : Int} : mergeK [] (mK c g sp) = mK c g sp := by
  have s1 : ¬ ("cells" : Str) = "great" := by decide +kernel
  have s2 : ¬ ("cells" : Str) = "spot" := by decide +kernel
  have s3 : ¬ ("great" : Str) = "spot" := by decide +kernel
  unfold mK mergeK
  simp [putK, s1, s2, s3]
/-- what evaluates to something of which P holds -/
def EvP (te : TE) (σ : L2.St) (H : Hp) (p : V → Prop) : Prop := ∀ H1, Ex H H1 → ∀ Q : VK, (∀ v H2, p v → Ex H1 H2 → Q v H2) → te σ H1 Q
def IsI (v : V) : Prop := ∃ i : Int, v = .int i
theorem ep_of {te : TE} {σ : L2.St} {H : Hp} {v : V} {p : V → Prop} (h : Ev te σ H v) (hp : p v) : EvP te σ H p := fun H1 e Q q => h H1 e Q fun H2 e2 => q v H2 hp e2
theorem ep_mixed {ta tb : TE} {σ : L2.St} {H : Hp} {n : Int} (ha : EvP ta σ H IsI) (hb : Ev tb σ H (.int n)) (h0 : 0 ≤ n) (h1 : n < 1000000) : EvP (tCall spMixed [] E0 (tCons ta (tCons tb tNil))) σ H IsI := fun H1 e Q q =>
  ha H1 e _ fun v H2 ⟨i, ei⟩ e2 => hb H2 (e.trans e2) _ fun H3 e3 => ⟨i, n, by rw [ei] <;> rfl, h0, h1, fun r _ _ => q (.int r) H3 ⟨r, rfl⟩ (e2.trans e3)⟩
def spDraw : Sp := fun vs H Q _ => ∃ (d c g : Addr) (sp top : Int), vs = [.ref d, .int top] ∧ MAt H d c g sp ∧ 0 ≤ sp ∧ sp < 500000 ∧ 0 < top ∧ top < 1000000 ∧
  ∀ (r : Int) (H' : Hp), 0 ≤ r → r < top → MAt H' d c g (sp + 1) → (∀ b o, H b = some o → b ≠ d → b ≠ g → H' b = some o) → Q (.int r) H'
theorem can_draw (T : Txt K mg) : Can P w K mg base CX0 2 "_law_draw" ["m", "top"] spDraw := by
  have CM : Can P w K mg base CX0 1 "_law_mixed" ["cell", "n"] spMixed := can_mixed T
  refine can_of T.g__law_draw T.F__law_draw (fun fd F => ?_) (fun _ _ _ _ _ _ us hl => match us, hl with | [_, _], _ => rfl)
  refine F.ok sc__law_draw (fun vs H Q E h => ?_) (fun cdv A outer s H vs Q E hr h => ?_)
  · obtain ⟨d, c, g, sp, top, rfl, _⟩ := h
    rfl
  · obtain ⟨d, c, g, sp, top, rfl, M, h0, h1, t0, t1, k⟩ := h
    have nd := sc__law_draw.nd
    have hu := hu_of hr
    refine ⟨_, pss_cons (ps_set (i := 2) nd rfl (.inl rfl) (pe_dget hu (pv 0) pe_str (fun _ _ => rfl)))
      (pss_cons (ps_dput hu (pv 0) pe_str (pe_op op_add (pv 2) pe_int) rfl)
      (pss_cons (ps_if (pt_cmpR (op_ne_nil hr) (pe_dget hu (pv 0) pe_str (fun _ _ => rfl)) (pe_lst pa_nil) (nomark _))
        (pss_cons (ps_set (i := 3) nd rfl (.inl rfl) (pe_op op_mod (pv 2) (pe_callB call_len_seq (by rfl) T.n_len PySem.boot_len (pa_cons (pe_dget hu (pv 0) pe_str (fun _ _ => rfl)) pa_nil))))
        (pss_cons (ps_set (i := 4) nd rfl (.inl rfl) (pe_ix ix_list (pe_dget hu (pv 0) pe_str (fun _ _ => rfl)) (pv 3) (fun _ _ => rfl)))
        (pss_one (ps_if (pt_cmpR op_gt (pv 4) pe_int (nomark _))
          (pss_cons (ps_asg (pe_op op_fdiv (pv 4) (pv 1)) (pg_sub (pe_dget hu (pv 0) pe_str (fun _ _ => rfl)) (pv 3) set_list))
          (pss_one (ps_ret (pe_op op_mod (pv 4) (pv 1))))) pss_nil)))) pss_nil)
      (pss_one (ps_ret (pe_op op_mod (pe_can CM hr pass0 (pa_cons (pe_can CM hr pass0 (pa_cons (pe_op op_add (pe_ix ix_list (pe_dget hu (pv 0) pe_str (fun _ _ => rfl)) (pe_op op_mod (pv 2) pe_int) (fun _ _ => rfl)) (pe_op op_mul pe_int (pe_op op_fdiv (pv 2) pe_int))) (pa_cons (pv 2) pa_nil))) (pa_cons (pe_op op_add (pv 2) pe_int) pa_nil))) (pv 1)))))), ?_⟩
    refine q_asg (ev_dget (k := .inr "spot") (ev_var rfl) ev_c M.ob mK_spot) fun H1 e1 => ?_
    have hd1 : H1 d = some (.dK (mK c g sp)) := e1 _ _ M.ob
    refine ⟨_, rfl, _, _, rfl, rfl, _, rfl, d, _, rfl, DPut.k (k := .inr "spot") hd1 (by show 3 < sizeLine; decide), ?_⟩
    rw [mK_put]
    have cg := M.ne
    obtain ⟨cs, lc, bc, hc⟩ := M.cells
    obtain ⟨ys, ly, hg⟩ := M.great
    have dc : c ≠ d := ne_of hc M.ob (by intro z; cases z)
    have dg : g ≠ d := ne_of hg M.ob (by intro z; cases z)
    generalize hH2 : upd H1 d (.dK (mK c g (sp + 1))) = H2
    have hd2 : H2 d = some (.dK (mK c g (sp + 1))) := by rw [← hH2, upd_same]
    have hc2 : H2 c = some (.lst (cs.map V.int)) := by rw [← hH2, upd_ne dc]; exact e1 _ _ hc
    have hg2 : H2 g = some (.lst (ys.map V.int)) := by rw [← hH2, upd_ne dg]; exact e1 _ _ hg
    have fr2 : ∀ b o, H b = some o → b ≠ d → H2 b = some o := fun b o e hb => by rw [← hH2, upd_ne hb]; exact e1 _ _ e
    have M2 : MAt H2 d c g (sp + 1) := ⟨hd2, ⟨cs, lc, bc, hc2⟩, ⟨ys, ly, hg2⟩, cg⟩
    have gg : ∀ {H3 : Hp} {σ : L2.St}, Ex H2 H3 → σ[0]? = some (some (.ref d)) → Ev (tDGet (tVar 0) (tC (.str "great"))) σ H3 (.ref g) := fun e hv => ev_dget (k := .inr "great") (ev_var hv) ev_c (e _ _ hd2) mK_great
    -- the end: drawn from the cells
    have last : ∀ (σ : L2.St) (H3 : Hp) (D : Ends), Ex H2 H3 → σ[0]? = some (some (.ref d)) → σ[1]? = some (some (.int top)) → σ[2]? = some (some (.int sp)) → D.rt = Q →
        tRet (tOp (rI (fun _ j => 0 < j) fun i j => .int (i % j)) (tCall spMixed [] E0 (tCons (tCall spMixed [] E0 (tCons (tOp (rI0 fun i j => .int (i + j)) (tOp (rIxL K) (tDGet (tVar 0) (tC (.str "cells"))) (tOp (rI (fun _ j => 0 < j) fun i j => .int (i % j)) (tVar 2) (tC (.int 64)))) (tOp (rI CMul fun i j => .int (i * j)) (tC (.int 31)) (tOp (rI CDiv fun i j => .int (i / j)) (tVar 2) (tC (.int 64))))) (tCons (tVar 2) tNil))) (tCons (tOp (rI0 fun i j => .int (i + j)) (tVar 2) (tC (.int 7))) tNil))) (tVar 1)) D σ H3 := fun σ H3 D e3 v0 v1 v2 eD => by
      obtain ⟨j, ej⟩ : ∃ j : Nat, sp % 64 = (j : Int) := ⟨(sp % 64).toNat, by omega⟩
      obtain ⟨x0, hx0⟩ := fold_at lc (j := j) (by omega)
      have hcell : Ev (tOp (rI0 fun i j => .int (i + j)) (tOp (rIxL K) (tDGet (tVar 0) (tC (.str "cells"))) (tOp (rI (fun _ j => 0 < j) fun i j => .int (i % j)) (tVar 2) (tC (.int 64)))) (tOp (rI CMul fun i j => .int (i * j)) (tC (.int 31)) (tOp (rI CDiv fun i j => .int (i / j)) (tVar 2) (tC (.int 64))))) σ H3 (.int (x0 + 31 * (sp / 64))) :=
        ev_op (ev_op (ev_dget (k := .inr "cells") (ev_var v0) ev_c (e3 _ _ hd2) mK_cells) (ev_op (ev_var v2) ev_c (rv_I (by show (0 : Int) < 64; decide))) (rv_ixL (sq_of (e3 _ _ hc2)) (at_of ej (map_at hx0)))) (ev_op ev_c (ev_op (ev_var v2) ev_c (rv_I ⟨by decide, by decide⟩)) (rv_I (.inl ⟨by decide, by decide⟩))) rv_I0
      refine ep_mixed (ep_mixed (ep_of hcell ⟨_, rfl⟩) (ev_var v2) h0 (by omega)) (ev_op (ev_var v2) ev_c rv_I0) (by omega) (by omega) H3 (Ex.refl H3) _ fun v H4 ⟨r2, er⟩ e4 => ?_
      refine ⟨_, v1, r2, top, er, rfl, t0, ?_⟩
      have e5 := e3.trans e4
      show D.rt _ _
      rw [eD]
      refine k _ _ (Int.emod_nonneg _ (by omega)) (Int.emod_lt_of_pos _ t0) ⟨e5 _ _ hd2, ⟨cs, lc, bc, e5 _ _ hc2⟩, ⟨ys, ly, e5 _ _ hg2⟩, cg⟩ fun b o e hb _ => e5 _ _ (fr2 b o e hb)
    refine q_if (et_test (ev_opL (gg (Ex.refl _) rfl) (el_lst ea_nil (by decide)) fun p H3 hp e3 => rv_eqE (sq_of (e3 _ _ hg2)) (sq_of hp))) (fun hb H3 e3 => ?_) (fun hb H3 e3 => last _ H3 _ e3 rfl rfl rfl rfl)
    have hpos : 0 < ys.length := by
      cases ys with
      | nil => cases hb
      | cons a r => exact Nat.succ_pos _
    obtain ⟨j, ej⟩ : ∃ j : Nat, sp % (ys.length : Int) = (j : Int) := ⟨(sp % (ys.length : Int)).toNat, by have := Int.emod_nonneg sp (b := (ys.length : Int)) (by omega); omega⟩
    have hj : j < ys.length := by
      have := Int.emod_lt_of_pos sp (b := (ys.length : Int)) (by omega)
      omega
    obtain ⟨x0, hx0⟩ : ∃ x, ys[j]? = some x := ⟨ys[j], List.getElem?_eq_getElem hj⟩
    refine q_asg (v := .int (j : Int)) ?_ fun H4 e4 => ?_
    · refine ev_is (ev_op (ev_var rfl) (ev_cb (z := .int (ys.length : Int)) (ea_cons (gg e3 rfl) ea_nil) ?_) (rv_I (by show (0 : Int) < _; omega))) (by show V.int (sp % (ys.length : Int)) = _; rw [ej])
      exact fun H5 e5 Q q => ⟨g, _, rfl, .inl (ex_l e5 (sq_of (e3 _ _ hg2))), by rw [List.length_map]; exact q H5 (Ex.refl H5)⟩
    have e24 := e3.trans e4
    refine q_asg (v := .int x0) (ev_op (gg e24 rfl) (ev_var rfl) (rv_ixL (sq_of (e24 _ _ hg2)) (at_of rfl (map_at hx0)))) fun H5 e5 => ?_
    have e25 := e24.trans e5
    refine s_if (et_test (ev_op (ev_var rfl) ev_c rv_I0)) (fun hb H6 e6 => ?_) (fun hb H6 e6 => ?_)
    · have e26 := e25.trans e6
      refine q_setL (xs := ys.map V.int) (j := j) (v := .int (x0 / top)) (e26 _ _ hg2) (ev_op (ev_var rfl) (ev_var rfl) (rv_I ⟨t0, by omega⟩)) (gg e26 rfl) (ev_var rfl) (by rw [List.length_map]; exact hj) fun H7 e7 => ?_
      have e27 := e26.trans e7
      refine s_ret (ev_op (ev_var rfl) (ev_var rfl) (rv_I t0)) fun H8 e8 => ?_
      refine k _ _ (Int.emod_nonneg _ (by omega)) (Int.emod_lt_of_pos _ t0) ⟨e8 _ _ (by rw [upd_ne (Ne.symm dg)]; exact e27 _ _ hd2), ⟨cs, lc, bc, e8 _ _ (by rw [upd_ne cg]; exact e27 _ _ hc2)⟩, ⟨ys.set j (x0 / top), by rw [List.length_set]; exact ly, e8 _ _ (by rw [upd_same, List.map_set])⟩, cg⟩ fun b o e hb hg => e8 _ _ (by rw [upd_ne hg]; exact e27 _ _ (fr2 b o e hb))
    · exact last _ H6 _ (e25.trans e6) rfl rfl rfl rfl
theorem q_dputL {σ : L2.St} {H : Hp} {te td ty : TE} {tz : TS} {D : Ends} {xs : List V} (h : EvL te σ H xs) (k : ∀ p H1, H p = none → Ex H H1 → H1 p = some (.lst xs) → td σ H1 fun x H2 => ty σ H2 fun y H3 => ∃ a H4, x = .ref a ∧ DPut H3 a y (.ref p) H4 ∧ tz D σ H4) :
    tSeq (sDPut td ty te) tz D σ H := h H (Ex.refl H) _ k
theorem given_all {n : Nat} {v : Nat → V} : given n (fun _ => true) v = (List.range n).map v := by
  unfold given
  rw [List.filter_eq_self.mpr fun _ _ => rfl]
def spBegun (K : PySem.W.Frag) : Sp := fun vs H Q _ => ∃ (a : Addr) (ns : List Int), vs = [.ref a] ∧ SqL K H a (ns.map V.int) ∧ ns.length ≤ 63 ∧
  ∀ (d c g : Addr) (H' : Hp), H d = none → H c = none → H g = none → Ex H H' → MAt H' d c g 0 → Q (.ref d) H'
theorem can_begun (T : Txt K mg) : Can P w K mg base CX0 2 "_law_begun" ["script"] (spBegun K) := by
  have CF : Can P w K mg base CX0 1 "_law_folded" ["script"] (spFolded K) := can_folded T
  refine can_of T.g__law_begun T.F__law_begun (fun fd F => ?_) (fun _ _ _ _ _ _ us hl => match us, hl with | [_], _ => rfl)
  refine F.ok sc__law_begun (fun vs H Q E h => ?_) (fun cdv A outer s H vs Q E hr h => ?_)
  · obtain ⟨a, ns, rfl, _⟩ := h
    rfl
  · obtain ⟨a, ns, rfl, hS, hlen, k⟩ := h
    have nd := sc__law_begun.nd
    have hu := hu_of hr
    refine ⟨_, pss_cons (ps_set (i := 1) nd rfl (.inl rfl) (pe_disp (pps_cons pe_str (pe_can CF hr pass0 (pa_cons (pv 0) pa_nil)) (pps_cons pe_str (pe_lst pa_nil) (pps_cons pe_str pe_int pps_nil))) (by rfl) (by rfl) (fun z => by cases z) (by decide)))
      (pss_cons (ps_dput hu (pv 1) pe_str (pe_lc (own := [("cell", 2)]) (g := gName 2) (tt := tYes) rfl nd (pi_list (pv 0)) (blkOk_by (N := ["script", "m", "cell"]) (sc := defScope s__law_begun) (by decide +kernel)) (fun _ _ _ _ _ => pg_name (i := 2) nd rfl (.inl rfl)) (fun _ _ _ _ _ => pts_nil)
        (fun _ _ _ _ _ => pe_ifExp (pt_cmpR op_ge (pv 2) (pe_op op_pow pe_int pe_int) (nomark _)) (pv 2) pe_int)) rfl)
      (pss_one (ps_ret (pv 1)))), ?_⟩
    intro d hd
    refine ⟨_, rfl, a, ns, rfl, ex_l (Ex.new hd) hS, hlen, fun c H1 hc e1 f1 => ?_⟩
    refine ⟨by decide, fun g hg => ?_⟩
    have hd1 : H1 d = some (.dK []) := e1 _ _ upd_same
    have e0 : Ex H H1 := (Ex.new hd).trans e1
    have dg : d ≠ g := ne_of_none hd1 hg
    refine ⟨by rw [upd_ne dg]; exact hd1, mK c g 0, rfl, (by show 3 ≤ 15; decide), ?_⟩
    rw [mK_merge]
    have cd : c ≠ d := fun q => by
      rw [q, upd_same] at hc
      cases hc
    have cH : H c = none := by
      rw [upd_ne cd] at hc
      exact hc
    obtain ⟨cs, lc, bc, hcs⟩ := f1
    have cg : c ≠ g := ne_of_none hcs hg
    generalize hH2 : upd (upd H1 g (.lst [])) d (.dK (mK c g 0)) = H2
    have e2 : Ex H H2 := by
      rw [← hH2]
      exact Ex.mut (e0.trans (Ex.new hg)) hd
    have hd2 : H2 d = some (.dK (mK c g 0)) := by rw [← hH2, upd_same]
    have hc2 : H2 c = some (.lst (cs.map V.int)) := by rw [← hH2, upd_ne cd, upd_ne cg]; exact hcs
    -- m['great'] = [..]
    refine q_dputL (el_lcL (xs := ns.map V.int) (fun _ => true) (fun i => .int (((ns.map fun c => if (10 ^ 18 : Int) ≤ c then c else 0)[i]?).getD 0)) (ev_var rfl) (ex_l e2 hS) (by rw [List.length_map]; omega) (fun x => ?_) (fun i x H3 _ _ => ?_) (fun i x H3 e3 hx _ => ?_)) fun g2 H3 hg2 e3 hq => ?_
    · rfl
    · exact fun H4 _ Q q => q H4 (Ex.refl H4)
    · obtain ⟨z, hz, rfl⟩ : ∃ z, ns[i]? = some z ∧ V.int z = x := by
        rw [List.getElem?_map] at hx
        cases e : ns[i]? with
        | none => rw [e] at hx; cases hx
        | some c => rw [e] at hx; exact ⟨c, rfl, Option.some.inj hx⟩
      have ez : ((ns.map fun c => if (10 ^ 18 : Int) ≤ c then c else 0)[i]?).getD 0 = if (10 ^ 18 : Int) ≤ z then z else 0 := by
        rw [List.getElem?_map, hz]
        rfl
      rw [ez]
      refine ev_if (b := decide ((10 : Int) ^ (18 : Int).toNat ≤ z)) (et_test (ev_op (ev_var rfl) (ev_op ev_c ev_c (rv_I ⟨by decide, by decide, by decide⟩)) rv_I0)) (fun hb => ?_) (fun hb => ?_)
      · have hb : (10 : Int) ^ 18 ≤ z := of_decide_eq_true hb
        rw [if_pos hb]
        exact ev_var rfl
      · have hb : ¬ (10 : Int) ^ 18 ≤ z := of_decide_eq_false hb
        rw [if_neg hb]
        exact ev_c
    rw [given_all] at hq
    refine ⟨_, rfl, d, _, rfl, DPut.k (k := .inr "great") (e3 _ _ hd2) (by show 3 < sizeLine; decide), ?_⟩
    rw [mK_putG]
    have gc2 : c ≠ g2 := ne_of_none hc2 hg2
    have gd2 : d ≠ g2 := ne_of_none hd2 hg2
    refine ⟨_, rfl, ?_⟩
    refine k d c g2 _ hd cH (fresh_back e2 hg2) (Ex.mut (e2.trans e3) hd) ⟨upd_same, ⟨cs, lc, bc, by rw [upd_ne cd]; exact e3 _ _ hc2⟩, ⟨(List.range ns.length).map fun i => (((ns.map fun c => if (10 ^ 18 : Int) ≤ c then c else 0)[i]?).getD 0), by rw [List.length_map, List.length_range]; exact hlen, ?_⟩, gc2⟩
    rw [upd_ne gd2.symm, hq, List.map_map, List.length_map]
    rfl
theorem erase_permQ {α : Type} : ∀ (l : List α) (i : Nat) (y : α), l[i]? = some y → (y :: l.eraseIdx i).Perm l
  | [], i, y, h => by simp at h
  | a :: r, 0, y, h => by
    obtain rfl : a = y := by simpa using h
    exact List.Perm.refl _
  | a :: r, i + 1, y, h => by
    have h' : r[i]? = some y := by simpa using h
    exact (List.Perm.swap a y _).trans ((erase_permQ r i y h').cons a)
def spUp (K : PySem.W.Frag) : Sp := fun vs H Q _ => ∃ (d c g t : Addr) (sp : Int) (xs : List V), vs = [.ref d, .ref t] ∧ MAt H d c g sp ∧ 0 ≤ sp ∧ sp < 400000 ∧ SqL K H t xs ∧ xs.length ≤ 100 ∧
  ∀ (p : Addr) (ys : List V) (H' : Hp), ys.Perm xs → H p = none → MAt H' d c g (sp + xs.length) → H' p = some (.lst ys) → (∀ b o, H b = some o → b ≠ d → b ≠ g → H' b = some o) → Q (.ref p) H'
theorem can_up (T : Txt K mg) : Can P w K mg base CX0 3 "_law_mixed_up" ["m", "things"] (spUp K) := by
  have CD : Can P w K mg base CX0 2 "_law_draw" ["m", "top"] spDraw := can_draw T
  refine can_of T.g__law_mixed_up T.F__law_mixed_up (fun fd F => ?_) (fun _ _ _ _ _ _ us hl => match us, hl with | [_, _], _ => rfl)
  refine F.ok sc__law_mixed_up (fun vs H Q E h => ?_) (fun cdv A outer s H vs Q E hr h => ?_)
  · obtain ⟨d, c, g, t, sp, xs, rfl, _⟩ := h
    rfl
  · obtain ⟨d, c, g, t, sp, xs, rfl, M, h0, h1, hS, hlen, k⟩ := h
    have nd := sc__law_mixed_up.nd
    refine ⟨_, pss_cons (ps_par (i := 2) (j := 3) (by rfl) nd rfl rfl (by decide) rfl rfl (pa_cons (pe_callTy call_list_of (by rfl) T.n_list (by decide +kernel) (pa_cons (pv 1) pa_nil)) (pa_cons (pe_lst pa_nil) pa_nil)) (by rfl))
      (pss_cons (ps_for PassesOwn.never rfl (pi_range1 rfl T.n_range (pa_cons (pe_callB call_len_seq (by rfl) T.n_len PySem.boot_len (pa_cons (pv 2) pa_nil)) pa_nil)) (pg_name (i := 4) nd rfl (.inl rfl))
        (pss_one (ps_expr (pe_bm PySem.F.plainAttrs_list PySem.F.slot_list_append PySem.F.type_list_append mt_append (pv 3) (pa_cons (pe_bm PySem.F.plainAttrs_list PySem.F.slot_list_pop PySem.F.type_list_pop mt_popAt (pv 2)
          (pa_cons (pe_can CD hr pass0 (pa_cons (pv 0) (pa_cons (pe_callB call_len_seq (by rfl) T.n_len PySem.boot_len (pa_cons (pv 2) pa_nil)) pa_nil))) pa_nil)) pa_nil)))))
      (pss_one (ps_ret (pv 3)))), ?_⟩
    refine ⟨_, rfl, t, xs, rfl, .inl hS, fun a ha => ⟨by decide, fun f hf => ⟨_, _, rfl, ?_⟩⟩⟩
    obtain ⟨hd, hc, hg, hcg⟩ := id M
    have af : a ≠ f := fun q => by
      rw [← q, upd_same] at hf
      cases hf
    have hf' : H f = none := by
      rw [upd_ne (Ne.symm af)] at hf
      exact hf
    obtain ⟨cs, lc, bc, hcs⟩ := hc
    obtain ⟨ys, ly, hys⟩ := hg
    have na : d ≠ a := ne_of_none hd ha
    have nf : d ≠ f := ne_of_none hd hf'
    have ca : c ≠ a := ne_of_none hcs ha
    have cf : c ≠ f := ne_of_none hcs hf'
    have ga' : g ≠ a := ne_of_none hys ha
    have gf : g ≠ f := ne_of_none hys hf'
    have M1 : MAt (upd (upd H a (.lst xs)) f (.lst [])) d c g sp := ⟨by rw [upd_ne nf, upd_ne na]; exact hd, ⟨cs, lc, bc, by rw [upd_ne cf, upd_ne ca]; exact hcs⟩, ⟨ys, ly, by rw [upd_ne gf, upd_ne ga']; exact hys⟩, hcg⟩
    refine q_forR1 (n := (xs.length : Int)) (ea_cons (ev_len (ev_var rfl) (sq_of (by rw [upd_ne af, upd_same]))) ea_nil) ⟨by omega, by omega⟩
      (fun i σ H2 => ∃ (st fo : List V) (v : Option V), σ = [some (.ref d), some (.ref t), some (.ref a), some (.ref f), v] ∧ (fo ++ st).Perm xs ∧ st.length + i = xs.length ∧ H2 a = some (.lst st) ∧ H2 f = some (.lst fo) ∧ MAt H2 d c g (sp + (i : Int)) ∧ (∀ b o, H b = some o → b ≠ d → b ≠ g → H2 b = some o)) ?_ ?_ ?_
    · intro H1 e1
      refine ⟨xs, [], none, rfl, by simp, by simp, e1 _ _ (by rw [upd_ne af, upd_same]), e1 _ _ upd_same, ?_, fun b o e hb _ => e1 _ _ (by rw [upd_ne (ne_of_none e hf'), upd_ne (ne_of_none e ha)]; exact e)⟩
      obtain ⟨q1, ⟨cs1, l1, b1, q2⟩, ⟨y1, l2, q3⟩, q4⟩ := M1
      rw [show sp + ((0 : Nat) : Int) = sp by omega]
      exact ⟨e1 _ _ q1, ⟨cs1, l1, b1, e1 _ _ q2⟩, ⟨y1, l2, e1 _ _ q3⟩, q4⟩
    · rintro i σ H2 hi ⟨st, fo, v, rfl, hp, hl, h2a, h2f, M2, fr⟩
      have lfo : fo.length ≤ 100 := by
        have := hp.length_eq
        rw [List.length_append] at this
        omega
      refine ⟨_, rfl, .inl ⟨rfl, _, sq_of h2f⟩, _, rfl, .inl ⟨rfl, _, sq_of h2a⟩, _, rfl, _, rfl, a, st, rfl, .inl (sq_of h2a), ?_⟩
      refine ⟨d, c, g, sp + (i : Int), (st.length : Int), rfl, M2, by omega, by omega, by omega, by omega, fun r H3 hr0 hr1 M3 fr3 => ?_⟩
      have h3a : H3 a = some (.lst st) := fr3 _ _ h2a na.symm ga'.symm
      have h3f : H3 f = some (.lst fo) := fr3 _ _ h2f nf.symm gf.symm
      obtain ⟨j, rfl⟩ : ∃ j : Nat, r = (j : Int) := ⟨r.toNat, by omega⟩
      have hj : j < st.length := by omega
      refine ⟨a, st, (j : Int), j, st[j], rfl, rfl, h3a, by omega, by omega, ?_, List.getElem?_eq_getElem hj, ?_⟩
      · have := PySem.StrLaws.seqIndex_nonneg (i := (j : Int)) (n := st.length) (by omega) (by omega)
        rw [this]
        rfl
      refine ⟨f, fo, _, rfl, rfl, by rw [upd_ne (Ne.symm af)]; exact h3f, sz_lt (by omega), st.eraseIdx j, fo ++ [st[j]], _, rfl, ?_, ?_, by rw [upd_ne af, upd_same], upd_same, ?_, ?_⟩
      · refine List.Perm.trans ?_ hp
        rw [List.append_assoc]
        exact List.Perm.append_left fo (erase_permQ st j _ (List.getElem?_eq_getElem hj))
      · rw [List.length_eraseIdx_of_lt hj]
        omega
      · obtain ⟨q1, ⟨cs1, l1, b1, q2⟩, ⟨y1, l2, q3⟩, q4⟩ := M3
        rw [show sp + ((i + 1 : Nat) : Int) = sp + (i : Int) + 1 by omega]
        exact ⟨by rw [upd_ne nf, upd_ne na]; exact q1, ⟨cs1, l1, b1, by rw [upd_ne cf, upd_ne ca]; exact q2⟩, ⟨y1, l2, by rw [upd_ne gf, upd_ne ga']; exact q3⟩, q4⟩
      · intro b o e hb hg'
        rw [upd_ne (ne_of_none e hf'), upd_ne (ne_of_none e ha)]
        exact fr3 _ _ (fr _ _ e hb hg') hb hg'
    · rintro σ H2 ⟨st, fo, v, rfl, hp, hl, h2a, h2f, M2, fr⟩
      have e0 : st = [] := by
        have : st.length = 0 := by
          have e := Int.toNat_natCast xs.length
          omega
        exact List.length_eq_zero_iff.mp this
      subst e0
      rw [List.append_nil] at hp
      refine ⟨_, rfl, ?_⟩
      exact k f fo H2 hp hf' (by
        have e := Int.toNat_natCast xs.length
        rw [e] at M2
        exact M2) h2f fr
end
end K28
end

section
set_option Elab.async false
set_option linter.all false
set_option maxRecDepth 100000
set_option maxHeartbeats 4000000
namespace K28
open PySem PySem.Spec PyProof.Rows L2 He Cn Evl
/-! ### kinds and rows in the heap -/
def KO (C : Addr) (H : Hp) (a : Addr) : Prop := ∃ dx fs, H a = some (.ins C dx fs)
theorem KO.ex {C : Addr} {H H' : Hp} {a : Addr} (e : Ex H H') (h : KO C H a) : KO C H' a := by
  obtain ⟨dx, fs, h⟩ := h
  exact ⟨dx, fs, e _ _ h⟩
theorem KO.id {C : Addr} {H : Hp} {a : Addr} (h : KO C H a) : IdV C H (.ref a) := by
  obtain ⟨dx, fs, h⟩ := h
  exact .inr ⟨a, dx, fs, rfl, h⟩
def refs (r : List Addr) : List V := r.map V.ref
theorem mem_refs {a : Addr} {r : List Addr} : V.ref a ∈ refs r ↔ a ∈ r := by
  unfold refs
  rw [List.mem_map]
  constructor
  · rintro ⟨b, h, e⟩
    injection e with e
    exact e ▸ h
  · intro h
    exact ⟨a, h, rfl⟩
theorem ids {C : Addr} {H : Hp} {r : List Addr} (h : ∀ a, a ∈ r → KO C H a) : ∀ z, z ∈ refs r → IdV C H z := fun z hz => by
  obtain ⟨b, hb, rfl⟩ := List.mem_map.mp hz
  exact (h b hb).id
/-- a list at p whose i-th item is a list (S := SqL K), a tuple (SqT K) of the i-th row's kinds -/
def Rw (K : PySem.W.Frag) (S : Hp → Addr → List V → Prop) (H : Hp) (p : Addr) (rows : List (List Addr)) : Prop :=
  ∃ ps : List Addr, SqL K H p (refs ps) ∧ ps.length = rows.length ∧ ∀ (i : Nat) (q : Addr) (r : List Addr), ps[i]? = some q → rows[i]? = some r → S H q (refs r)
def Ks (C : Addr) (H : Hp) (rows : List (List Addr)) : Prop := ∀ r, r ∈ rows → ∀ a, a ∈ r → KO C H a
theorem Ks.ex {C : Addr} {H H' : Hp} {rows : List (List Addr)} (e : Ex H H') (h : Ks C H rows) : Ks C H' rows := fun r hr a ha => (h r hr a ha).ex e
theorem Rw.exL {K : PySem.W.Frag} {H H' : Hp} {p : Addr} {rows : List (List Addr)} (e : Ex H H') (h : Rw K (SqL K) H p rows) : Rw K (SqL K) H' p rows := by
  obtain ⟨ps, h1, h2, h3⟩ := h
  exact ⟨ps, ex_l e h1, h2, fun i q r a b => ex_l e (h3 i q r a b)⟩
theorem Rw.exT {K : PySem.W.Frag} {H H' : Hp} {p : Addr} {rows : List (List Addr)} (e : Ex H H') (h : Rw K (SqT K) H p rows) : Rw K (SqT K) H' p rows := by
  obtain ⟨ps, h1, h2, h3⟩ := h
  exact ⟨ps, ex_l e h1, h2, fun i q r a b => ex_t e (h3 i q r a b)⟩
theorem refs_at {ps : List Addr} {i : Nat} {x : V} (h : (refs ps)[i]? = some x) : ∃ q, ps[i]? = some q ∧ x = .ref q := by
  unfold refs at h
  rw [List.getElem?_map] at h
  cases e : ps[i]? with
  | none => rw [e] at h; cases h
  | some q => rw [e] at h; exact ⟨q, rfl, (Option.some.inj h).symm⟩
theorem at_refs {ps : List Addr} {i : Nat} {q : Addr} (h : ps[i]? = some q) : (refs ps)[i]? = some (.ref q) := by
  unfold refs
  rw [List.getElem?_map, h]
  rfl
theorem at_some {α : Type} {l : List α} {i : Nat} (h : i < l.length) : ∃ x, l[i]? = some x := ⟨l[i], List.getElem?_eq_getElem h⟩
/-- what H' knows beyond H -/
def newp (H H' : Hp) : Hp := fun a => match H a with
  | none => H' a
  | some _ => none
theorem newp_at {H H' : Hp} {a : Addr} (h : H a = none) : newp H H' a = H' a := by
  unfold newp
  rw [h]
theorem newp_no {H H' : Hp} {a : Addr} {o : HO} (h : H a = some o) : newp H H' a = none := by
  unfold newp
  rw [h]
theorem newp_ex {H H' : Hp} : Ex (newp H H') H' := fun a o h => by
  cases e : H a with
  | none => rw [newp_at e] at h; exact h
  | some u => rw [newp_no e] at h; cases h
theorem newp_mono {H H1 H2 : Hp} (e : Ex H1 H2) : Ex (newp H H1) (newp H H2) := fun a o h => by
  cases q : H a with
  | none =>
    rw [newp_at q] at h ⊢
    exact e _ _ h
  | some u => rw [newp_no q] at h; cases h
def optR : Option Addr → V
  | none => .non
  | some a => .ref a
section
variable {P : Program} {w : World} {K : PySem.W.Frag} {mg : Str → Option Value} {base : Heap}
theorem rv_in_id {H : Hp} {neg : Bool} {a p : Addr} {r : List Addr} (hS : SqL K H p (refs r) ∨ SqT K H p (refs r)) (ha : KO (kC K) H a) (hr : ∀ b, b ∈ r → KO (kC K) H b) : RV (rInI K (kC K) neg) (.ref a) (.ref p) H (.bl (if neg then !decide (a ∈ r) else decide (a ∈ r))) := fun H1 e Q q => by
  refine ⟨p, refs r, rfl, hS.imp (ex_l e) (ex_t e), (ha.ex e).id, ids fun b hb => (hr b hb).ex e, ?_⟩
  have : decide (V.ref a ∈ refs r) = decide (a ∈ r) := by simp only [mem_refs]
  rw [this]
  exact q H1 (Ex.refl H1)
theorem rv_ne_id {H : Hp} {a b : Addr} (ha : KO (kC K) H a) (hb : KO (kC K) H b) : RV (rNeI (kC K)) (.ref a) (.ref b) H (.bl (!decide (a = b))) := fun H1 e Q q => by
  obtain ⟨dx, fs, h⟩ := ha.ex e
  refine ⟨⟨a, dx, fs, rfl, h⟩, (hb.ex e).id, ?_⟩
  have : decide (V.ref a = V.ref b) = decide (a = b) := by simp
  rw [this]
  exact q H1 (Ex.refl H1)
theorem rv_ne_idN {H : Hp} {a : Addr} (ha : KO (kC K) H a) : RV (rNeI (kC K)) (.ref a) .non H (.bl true) := fun H1 e Q q => by
  obtain ⟨dx, fs, h⟩ := ha.ex e
  exact ⟨⟨a, dx, fs, rfl, h⟩, .inl rfl, q H1 (Ex.refl H1)⟩
theorem et_isN {σ : L2.St} {H : Hp} {te : TE} {x : V} (h : Ev te σ H x) : EvT (tB (tIsN te)) σ H (decide (x = .non)) := fun H1 e Q q => h H1 e _ fun H2 e2 => ⟨_, rfl, q H2 e2⟩
theorem et_tru {σ : L2.St} {H : Hp} {te : TE} {x : V} {b : Bool} (h : Ev te σ H x) (ht : ∀ H1, Ex H H1 → TruV K x H1 b) : EvT (fun σ H Q => te σ H fun x H' => ∃ k, TruV K x H' k ∧ Q k H') σ H b := fun H1 e Q q => h H1 e _ fun H2 e2 => ⟨b, ht H2 (e.trans e2), q H2 e2⟩
/-! ### the head of the first row with a kind behind its head -/
def spHrw (K : PySem.W.Frag) : Sp := fun vs H Q _ => ∃ (k p : Addr) (rows : List (List Addr)), vs = [.ref k, .ref p] ∧ Rw K (SqL K) H p rows ∧ Mg.NoNil rows ∧ Ks (kC K) H rows ∧ KO (kC K) H k ∧
  ∀ H', Ex H H' → Q (optR (Mg.hrw k rows)) H'
theorem drop_at {α : Type} {l : List α} {i : Nat} {x : α} (h : l[i]? = some x) : l.drop i = x :: l.drop (i + 1) := by
  obtain ⟨h1, h2⟩ := List.getElem?_eq_some_iff.mp h
  rw [List.drop_eq_getElem_cons h1, h2]
theorem can_hrw (T : Txt K mg) : Can P w K mg base CX0 1 "_head_of_row_with" ["kind", "rows"] (spHrw K) := by
  refine can_of T.g__head_of_row_with T.F__head_of_row_with (fun fd F => ?_) (fun _ _ _ _ _ _ us hl => match us, hl with | [_, _], _ => rfl)
  refine F.ok sc__head_of_row_with (fun vs H Q E h => ?_) (fun cdv A outer s H vs Q E hr h => ?_)
  · obtain ⟨k, p, rows, rfl, _⟩ := h
    rfl
  · obtain ⟨k, p, rows, rfl, ⟨ps, hp, hlen, hrow⟩, nn, ks, hk, fin⟩ := h
    have nd := sc__head_of_row_with.nd
    refine ⟨_, pss_cons (ps_for PassesOwn.never rfl (pi_list (pv 1)) (pg_name (i := 2) nd rfl (.inl rfl))
        (pss_one (ps_if (PW.pt (pw_and (pt_cmpR (op_ne_id hr T.idc) (pv 0) (pe_ix ix_list (pv 2) pe_int (fun _ _ => rfl)) (nomark _)) (pw_and1 (pt_cmpR (op_in_id hr T.idc) (pv 0) (pv 2) rfl))))
          (pss_one (ps_ret (pe_ix ix_list (pv 2) pe_int (fun _ _ => rfl)))) pss_nil)))
      (pss_one (ps_ret pe_non)), ?_⟩
    refine q_forLn (xs := refs ps) (ev_var rfl) hp (fun i σ H' => ∃ v, σ = [some (.ref k), some (.ref p), v] ∧ Ex H H' ∧ Mg.hrw k (rows.drop i) = Mg.hrw k rows) (fun H1 e => ⟨_, rfl, e, rfl⟩) (fun i σ H' _ ⟨v, _, e, _⟩ => ex_l e hp) ?_ ?_
    · rintro i x σ H' hx ⟨v, rfl, e, hd⟩
      obtain ⟨q, hq, rfl⟩ := refs_at hx
      have hil : i < rows.length := by
        have := (List.getElem?_eq_some_iff.mp hq).1
        omega
      obtain ⟨r, hri⟩ := at_some hil
      have hS := ex_l e (hrow i q r hq hri)
      have hmem := List.mem_of_getElem? hri
      have hkr := fun a ha => (ks r hmem a ha).ex e
      cases r with
      | nil => exact absurd rfl (nn _ hmem)
      | cons h t =>
        have hix : Ev (tOp (rIxL K) (tVar 2) (tC (.int 0))) [some (.ref k), some (.ref p), some (.ref q)] H' (.ref h) := ev_op (ev_var rfl) ev_c (rv_ixL hS (at_of (j := 0) rfl rfl))
        rw [drop_at hri] at hd
        have hd : (if k ≠ h ∧ k ∈ h :: t then some h else Mg.hrw k (rows.drop (i + 1))) = Mg.hrw k rows := hd
        refine s_when (et_and (et_test (ev_op (ev_var rfl) hix (rv_ne_id (hk.ex e) (hkr h (List.mem_cons_self ..))))) fun _ => et_test (ev_op (ev_var rfl) (ev_var rfl) (rv_in_id (neg := false) (.inl hS) (hk.ex e) hkr))) (fun hb H1 e1 => ?_) (fun hb H1 e1 => ?_)
        · have hb : (!decide (k = h) && decide (k ∈ h :: t)) = true := hb
          have c : k ≠ h ∧ k ∈ h :: t := by simpa using hb
          rw [if_pos c] at hd
          refine s_ret (hix.mono e1) fun H2 e2 => ?_
          have := fin H2 ((e.trans e1).trans e2)
          rw [← hd] at this
          exact this
        · have hb : (!decide (k = h) && decide (k ∈ h :: t)) = false := hb
          have c : ¬ (k ≠ h ∧ k ∈ h :: t) := by
            intro c
            simp [c.1] at hb
            rcases List.mem_cons.mp c.2 with q | q
            · exact c.1 q
            · exact hb q
          rw [if_neg c] at hd
          exact ⟨_, rfl, e.trans e1, hd⟩
    · rintro σ H' ⟨v, rfl, e, hd⟩
      have e0 : Mg.hrw k rows = none := by
        rw [← hd]
        have : (refs ps).length = rows.length := by unfold refs; rw [List.length_map]; exact hlen
        rw [this, List.drop_length]
        rfl
      refine s_ret ev_c fun H1 e1 => ?_
      have := fin H1 (e.trans e1)
      rw [e0] at this
      exact this
/-! ### the first head that is free -/
def spFreeHead (K : PySem.W.Frag) : Sp := fun vs H Q _ => ∃ (p : Addr) (rows : List (List Addr)), vs = [.ref p] ∧ Rw K (SqL K) H p rows ∧ Mg.NoNil rows ∧ Mg.Nd rows ∧ Ks (kC K) H rows ∧
  ∀ H', Ex H H' → Q (optR (Mg.frees rows).head?) H'
theorem ev_hrw {σ : L2.St} {H : Hp} {ta tb : TE} {k p : Addr} {rows : List (List Addr)} (ha : Ev ta σ H (.ref k)) (hb : Ev tb σ H (.ref p)) (hR : Rw K (SqL K) H p rows) (nn : Mg.NoNil rows) (ks : Ks (kC K) H rows) (hk : KO (kC K) H k) :
    Ev (tCall (spHrw K) [] E0 (tCons ta (tCons tb tNil))) σ H (optR (Mg.hrw k rows)) :=
  ev_call (ea_cons ha (ea_cons hb ea_nil)) fun H1 e Q q E => ⟨k, p, rows, rfl, hR.exL e, nn, ks.ex e, hk.ex e, fun H2 e2 => q H2 e2⟩
theorem optR_non (o : Option Addr) : decide (optR o = V.non) = o.isNone := by
  cases o <;> simp [optR]
theorem can_freeHead (T : Txt K mg) : Can P w K mg base CX0 2 "_free_head" ["rows"] (spFreeHead K) := by
  have CH : Can P w K mg base CX0 1 "_head_of_row_with" ["kind", "rows"] (spHrw K) := can_hrw T
  refine can_of T.g__free_head T.F__free_head (fun fd F => ?_) (fun _ _ _ _ _ _ us hl => match us, hl with | [_], _ => rfl)
  refine F.ok sc__free_head (fun vs H Q E h => ?_) (fun cdv A outer s H vs Q E hr h => ?_)
  · obtain ⟨p, rows, rfl, _⟩ := h
    rfl
  · obtain ⟨p, rows, rfl, R, nn, ndr, ks, fin⟩ := h
    obtain ⟨ps, hp, hlen, hrow⟩ := id R
    have nd := sc__free_head.nd
    refine ⟨_, pss_cons (ps_for PassesOwn.never rfl (pi_list (pv 0)) (pg_name (i := 1) nd rfl (.inl rfl))
        (pss_one (ps_if (pt_cmp (pc_isN (pe_can CH hr pass0 (pa_cons (pe_ix ix_list (pv 1) pe_int (fun _ _ => rfl)) (pa_cons (pv 0) pa_nil)))))
          (pss_one (ps_ret (pe_ix ix_list (pv 1) pe_int (fun _ _ => rfl)))) pss_nil)))
      (pss_one (ps_ret pe_non)), ?_⟩
    have hfind := Mg.frees_find ndr
    refine q_forLn (xs := refs ps) (ev_var rfl) hp (fun i σ H' => ∃ v, σ = [some (.ref p), v] ∧ Ex H H' ∧ (Mg.heads (rows.drop i)).find? (fun h => (Mg.hrw h rows).isNone) = (Mg.frees rows).head?) (fun H1 e => ⟨_, rfl, e, hfind.symm⟩) (fun i σ H' _ ⟨v, _, e, _⟩ => ex_l e hp) ?_ ?_
    · rintro i x σ H' hx ⟨v, rfl, e, hd⟩
      obtain ⟨q, hq, rfl⟩ := refs_at hx
      have hil : i < rows.length := by
        have := (List.getElem?_eq_some_iff.mp hq).1
        omega
      obtain ⟨r, hri⟩ := at_some hil
      have hS := ex_l e (hrow i q r hq hri)
      have hmem := List.mem_of_getElem? hri
      have hkr := fun a ha => (ks r hmem a ha).ex e
      cases r with
      | nil => exact absurd rfl (nn _ hmem)
      | cons h t =>
        have hix : Ev (tOp (rIxL K) (tVar 1) (tC (.int 0))) [some (.ref p), some (.ref q)] H' (.ref h) := ev_op (ev_var rfl) ev_c (rv_ixL hS (at_of (j := 0) rfl rfl))
        rw [drop_at hri, Mg.heads_cons, List.find?_cons] at hd
        refine s_when (et_is (et_isN (ev_hrw hix (ev_var rfl) (R.exL e) nn (ks.ex e) (hkr h (List.mem_cons_self ..)))) (optR_non _)) (fun hb H1 e1 => ?_) (fun hb H1 e1 => ?_)
        · rw [hb] at hd
          refine s_ret (hix.mono e1) fun H2 e2 => ?_
          have := fin H2 ((e.trans e1).trans e2)
          rw [← hd] at this
          exact this
        · rw [hb] at hd
          exact ⟨_, rfl, e.trans e1, hd⟩
    · rintro σ H' ⟨v, rfl, e, hd⟩
      have e0 : (Mg.frees rows).head? = none := by
        rw [← hd]
        have : (refs ps).length = rows.length := by unfold refs; rw [List.length_map]; exact hlen
        rw [this, List.drop_length]
        rfl
      refine s_ret ev_c fun H1 e1 => ?_
      have := fin H1 (e.trans e1)
      rw [e0] at this
      exact this
/-! ### the rows without a kind -/
def spWithout (K : PySem.W.Frag) (S : Hp → Addr → List V → Prop) : Sp := fun vs H Q _ => ∃ (o : Option Addr) (p : Addr) (rows : List (List Addr)), vs = [optR o, .ref p] ∧ Rw K S H p rows ∧ Ks (kC K) H rows ∧ (∀ a, o = some a → KO (kC K) H a) ∧
  rows.length ≤ 40 ∧ (∀ r, r ∈ rows → r.length ≤ 40) ∧ ∀ p' H', H p' = none → Ex H H' → Rw K (SqL K) (newp H H') p' (Mg.wo o rows) → Q (.ref p') H'
end
end K28
end

section
set_option Elab.async false
set_option linter.all false
set_option maxRecDepth 100000
set_option maxHeartbeats 4000000
namespace K28
open PySem PySem.Spec PyProof.Rows L2 He Cn Evl
theorem Rw.of_prs {K : PySem.W.Frag} {S : Hp → Addr → List V → Prop} {H : Hp} {p : Addr} {prs : List (Addr × List Addr)} (h : SqL K H p (refs (prs.map Prod.fst))) (h2 : ∀ x, x ∈ prs → S H x.1 (refs x.2)) : Rw K S H p (prs.map Prod.snd) := by
  refine ⟨prs.map Prod.fst, h, by rw [List.length_map, List.length_map], fun i q r hq hr => ?_⟩
  rw [List.getElem?_map] at hq hr
  cases e : prs[i]? with
  | none => rw [e] at hq; cases hq
  | some x =>
    rw [e] at hq hr
    obtain rfl := Option.some.inj hq
    obtain rfl := Option.some.inj hr
    exact h2 x (List.mem_of_getElem? e)
theorem Rw.prs {K : PySem.W.Frag} {S : Hp → Addr → List V → Prop} {H : Hp} {p : Addr} {rows : List (List Addr)} (h : Rw K S H p rows) : ∃ prs : List (Addr × List Addr), SqL K H p (refs (prs.map Prod.fst)) ∧ rows = prs.map Prod.snd ∧ ∀ x, x ∈ prs → S H x.1 (refs x.2) := by
  obtain ⟨ps, h1, h2, h3⟩ := h
  refine ⟨ps.zip rows, ?_, ?_, fun x hx => ?_⟩
  · rw [List.map_fst_zip (by omega)]
    exact h1
  · rw [List.map_snd_zip (by omega)]
  · obtain ⟨i, hi⟩ := List.mem_iff_getElem?.mp hx
    obtain ⟨e1, e2⟩ := List.getElem?_zip_eq_some.mp hi
    exact h3 i _ _ e1 e2
/-- a comprehension over what a walk gives -/
theorem el_lcW {J : It} {G : Hp → Prop} {xs : List V} {it : TI} {σ : L2.St} {H : Hp} {j : Nat} {t : TT} {te : TE} {vs : List Nat} (wk : Walk J xs.length G (YAt xs)) (hi : ∀ H0, Ex H H0 → ∀ R : It → Hp → Prop, R J H0 → it σ H0 R) (hG : ∀ H', Ex H H' → G H') (f : Nat → Bool) (v : Nat → V) (hz : xs.length ≤ 40000)
    (hw : ∀ x, wipe ((wipe σ vs).set j (some x)) vs = wipe σ vs) (ht : ∀ (i : Nat) (x : V) H1, Ex H H1 → xs[i]? = some x → EvT t ((wipe σ vs).set j (some x)) H1 (f i))
    (he : ∀ (i : Nat) (x : V) H1, Ex H H1 → xs[i]? = some x → f i = true → Ev te ((wipe σ vs).set j (some x)) H1 (v i)) : EvL (tLc it (gName j) t te vs) σ H (given xs.length f v) := fun H1 e Q q =>
  hi H1 e _ fun Dl hD => lc_it wk (Cw H1 f v Dl) ⟨hD, Ex.new hD, upd_same⟩ (fun i H' _ p => hG H' (e.trans p.2.1))
    (fun i x Ha Hb hi p y => by
      obtain ⟨rfl, hx⟩ := y
      exact ⟨hw x, cw_turn p (by omega) (ht i x H1 e hx) (fun hf => he i x H1 e hx hf)⟩)
    (fun H' p => q Dl H' p.1 p.2.1 p.2.2)
theorem given_filter {α : Type} (l : List α) (p : α → Bool) (g : α → V) (f : Nat → Bool) (v : Nat → V) (hf : ∀ i x, l[i]? = some x → f i = p x) (hv : ∀ i x, l[i]? = some x → v i = g x) : given l.length f v = (l.filter p).map g := by
  have key : ∀ k, k ≤ l.length → given k f v = ((l.take k).filter p).map g := by
    intro k
    induction k with
    | zero => intro _; rfl
    | succ k ih =>
      intro hk
      have ih := ih (by omega)
      obtain ⟨x, hx⟩ := at_some (l := l) (i := k) (by omega)
      have et : l.take (k + 1) = l.take k ++ [x] := by rw [List.take_add_one, hx] <;> rfl
      rw [et, List.filter_append, List.map_append, ← ih]
      cases q : p x with
      | true =>
        rw [given_yes ((hf k x hx).trans q), hv k x hx, List.filter_cons, if_pos q]
        rfl
      | false =>
        rw [given_no ((hf k x hx).trans q), List.filter_cons, if_neg (by rw [q]; decide)]
        simp
  have := key l.length (Nat.le_refl _)
  rw [List.take_length] at this
  exact this
/-- how the rows' own items are walked -/
structure Wk (K : PySem.W.Frag) (S : Hp → Addr → List V → Prop) (it : TE → TI) : Prop where
  wk : ∀ (te : TE) (σ : L2.St) (H : Hp) (q : Addr) (xs : List V), Ev te σ H (.ref q) → S H q xs → ∃ J : It, Walk J xs.length (fun H => S H q xs) (YAt xs) ∧ ∀ H0, Ex H H0 → ∀ R : It → Hp → Prop, (∀ H1, Ex H0 H1 → R J H1) → it te σ H0 R
  ex : ∀ {H H' : Hp} {q : Addr} {xs : List V}, Ex H H' → S H q xs → S H' q xs
theorem wk_list {K : PySem.W.Frag} : Wk K (SqL K) (iList K) :=
  ⟨fun te σ H q xs h hs => ⟨Itl K q, walk_list, fun H0 e R hR => h H0 e _ fun H1 e1 => ⟨q, rfl, ⟨xs, ex_l (e.trans e1) hs⟩, hR H1 e1⟩⟩, ex_l⟩
theorem wk_tup {K : PySem.W.Frag} : Wk K (SqT K) (iTup K) :=
  ⟨fun te σ H q xs h hs => ⟨Itt K q, walk_tup, fun H0 e R hR => h H0 e _ fun H1 e1 => ⟨q, rfl, ⟨xs, ex_t (e.trans e1) hs⟩, hR H1 e1⟩⟩, ex_t⟩
theorem el_lcK {K : PySem.W.Frag} {S : Hp → Addr → List V → Prop} {it : TE → TI} (W : Wk K S it) {tl : TE} {q : Addr} {xs : List V} {σ : L2.St} {H : Hp} {j : Nat} {t : TT} {te : TE} {vs : List Nat} (hl : Ev tl σ H (.ref q)) (hs : S H q xs) (f : Nat → Bool) (v : Nat → V) (hz : xs.length ≤ 40000)
    (hw : ∀ x, wipe ((wipe σ vs).set j (some x)) vs = wipe σ vs) (ht : ∀ (i : Nat) (x : V) H1, Ex H H1 → xs[i]? = some x → EvT t ((wipe σ vs).set j (some x)) H1 (f i))
    (he : ∀ (i : Nat) (x : V) H1, Ex H H1 → xs[i]? = some x → f i = true → Ev te ((wipe σ vs).set j (some x)) H1 (v i)) : EvL (tLc (it tl) (gName j) t te vs) σ H (given xs.length f v) := fun H1 e Q q' => by
  obtain ⟨J, wk, hi⟩ := W.wk tl σ H q xs hl hs
  refine hi H1 e _ fun H2 e2 => ?_
  intro Dl hD
  exact lc_it wk (Cw H2 f v Dl) ⟨hD, Ex.new hD, upd_same⟩ (fun i H' _ p => W.ex ((e.trans e2).trans p.2.1) hs)
    (fun i x Ha Hb hi p y => by
      obtain ⟨rfl, hx⟩ := y
      exact ⟨hw x, cw_turn p (by omega) (ht i x H2 (e.trans e2) hx) (fun hf => he i x H2 (e.trans e2) hx hf)⟩)
    (fun H' p => q' Dl H' (fresh_back e2 p.1) (e2.trans p.2.1) p.2.2)
section
variable {P : Program} {w : World} {K : PySem.W.Frag} {mg : Str → Option Value} {base : Heap}
def tTruQ (K : PySem.W.Frag) (ta : TE) : TT := fun σ H Q => ta σ H fun x H' => ∃ k, TruV K x H' k ∧ Q k H'
/-- the scope of a comprehension within which another one reads head -/
def scW1 : Scope := { kind := .function, names := [(".0", .local), ("row", .local), ("head", .cell)], isGenerator := false, isCoroutine := false }
/-- a row without a kind -/
def outO (o : Option Addr) (r : List Addr) : List Addr := match o with
  | some h => r.filter fun x => decide (x ≠ h)
  | none => r
theorem wo_eq (o : Option Addr) (rows : List (List Addr)) : Mg.wo o rows = (rows.map (outO o)).filter fun r => !r.isEmpty := by
  cases o with
  | some h => rfl
  | none =>
    show Mg.full rows = _
    rw [show rows.map (outO none) = rows from List.map_id rows]
    rfl
theorem outO_filter (o : Option Addr) (r : List Addr) : outO o r = r.filter fun x => !decide (some x = o) := by
  cases o with
  | some h =>
    show (r.filter fun x => decide (x ≠ h)) = r.filter fun x => !decide (some x = some h)
    congr 1
    funext x
    by_cases e : x = h <;> simp [e]
  | none =>
    unfold outO
    rw [List.filter_eq_self.mpr]
    intro x _
    simp
theorem rv_ne_o {H : Hp} {a : Addr} {o : Option Addr} (ha : KO (kC K) H a) (ho : ∀ b, o = some b → KO (kC K) H b) : RV (rNeI (kC K)) (.ref a) (optR o) H (.bl (!decide (some a = o))) := by
  cases o with
  | none => exact rv_ne_idN ha
  | some b =>
    have : (!decide (some a = some b)) = !decide (a = b) := by simp
    rw [this]
    exact rv_ne_id ha (ho b rfl)
theorem el_outO {S : Hp → Addr → List V → Prop} {it : TE → TI} (W : Wk K S it) {σ : L2.St} {H : Hp} {q : Addr} {o : Option Addr} {r : List Addr} (hs : S H q (refs r)) (hr : ∀ a, a ∈ r → KO (kC K) H a) (ho : ∀ b, o = some b → KO (kC K) H b) (hl : r.length ≤ 40) (h0 : σ[0]? = some (some (optR o))) (h3 : σ[3]? = some (some (.ref q))) (h5 : σ.length = 5) :
    EvL (tLc (it (tVar 3)) (gName 4) (tTest (tOp (rNeI (kC K)) (tVar 4) (tVar 0))) (tVar 4) [4]) σ H (refs (outO o r)) := by
  have lr : (refs r).length = r.length := by unfold refs; rw [List.length_map]
  have h := el_lcK W (j := 4) (t := tTest (tOp (rNeI (kC K)) (tVar 4) (tVar 0))) (te := tVar 4) (vs := [4]) (ev_var h3) hs (fun i => match r[i]? with | some a => !decide (some a = o) | none => false) (fun i => match r[i]? with | some a => .ref a | none => .non) (by omega) (fun x => by
      match σ, h5 with
      | [a, b, c, d, e], _ => rfl) (fun i x H1 e hx => by
      obtain ⟨a, ha, rfl⟩ := refs_at hx
      have : (match r[i]? with | some a => !decide (some a = o) | none => false) = !decide (some a = o) := by rw [ha]
      rw [this]
      have ha' := (hr a (List.mem_of_getElem? ha)).ex e
      refine et_test (ev_op (x := .ref a) (y := optR o) (ev_var ?_) (ev_var ?_) (rv_ne_o ha' fun b hb => (ho b hb).ex e))
      · match σ, h5 with
        | [a, b, c, d, e], _ => rfl
      · match σ, h5, h0 with
        | [a, b, c, d, e], _, h0 => exact h0) (fun i x H1 e hx _ => by
      obtain ⟨a, ha, rfl⟩ := refs_at hx
      have : (match r[i]? with | some a => V.ref a | none => .non) = .ref a := by rw [ha]
      rw [this]
      refine ev_var ?_
      match σ, h5 with
        | [a, b, c, d, e], _ => rfl)
  rw [lr, given_filter r (fun x => !decide (some x = o)) V.ref _ _ (fun i x hx => by rw [hx]) (fun i x hx => by rw [hx]), ← outO_filter] at h
  exact h
/-- what makes a new list of new rows -/
def EvR (K : PySem.W.Frag) (te : TE) (σ : L2.St) (H : Hp) (rows : List (List Addr)) : Prop := ∀ H1, Ex H H1 → ∀ Q : VK, (∀ p H2, H1 p = none → Ex H1 H2 → Rw K (SqL K) (newp H1 H2) p rows → Q (.ref p) H2) → te σ H1 Q
theorem yes_then {te : TE} {σ : L2.St} {H : Hp} {Q : VK} {N : Hp → Prop} (h : te σ H Q) : tYes σ H (fun b H3 => if b = true then te σ H3 Q else N H3) := by
  show if true = true then te σ H Q else N H
  rw [if_pos rfl]
  exact h
theorem q_asgR {te : TE} {σ : L2.St} {H : Hp} {rows : List (List Addr)} {i : Nat} {tz : TS} {D : Ends} (h : EvR K te σ H rows) (k : ∀ p H1, H p = none → Ex H H1 → Rw K (SqL K) (newp H H1) p rows → tz D (σ.set i (some (.ref p))) H1) : tSeq (tAsg te (gName i)) tz D σ H := h H (Ex.refl H) _ k
theorem s_retR {te : TE} {σ : L2.St} {H : Hp} {rows : List (List Addr)} {D : Ends} (h : EvR K te σ H rows) (k : ∀ p H1, H p = none → Ex H H1 → Rw K (SqL K) (newp H H1) p rows → D.rt (.ref p) H1) : tRet te D σ H := h H (Ex.refl H) _ k
theorem er_outO {S : Hp → Addr → List V → Prop} {it : TE → TI} (W : Wk K S it) {σ : L2.St} {H : Hp} {p : Addr} {o : Option Addr} {rows : List (List Addr)} (R : Rw K S H p rows) (ks : Ks (kC K) H rows) (ho : ∀ b, o = some b → KO (kC K) H b) (l1 : rows.length ≤ 40) (l2 : ∀ r, r ∈ rows → r.length ≤ 40)
    (h0 : σ[0]? = some (some (optR o))) (h1 : σ[1]? = some (some (.ref p))) (h5 : σ.length = 5) :
    EvR K (tLc (iList K (tVar 1)) (gName 3) tYes (tLc (it (tVar 3)) (gName 4) (tTest (tOp (rNeI (kC K)) (tVar 4) (tVar 0))) (tVar 4) [4]) [3]) σ H (rows.map (outO o)) := fun H1 e1 Q q => by
  obtain ⟨prs, hp, rfl, hrow⟩ := R.prs
  refine ⟨_, h1, p, rfl, ⟨_, ex_l e1 hp⟩, fun D hD => ?_⟩
  refine lc_list (xs := refs (prs.map Prod.fst)) (fun i H' => Ex H1 H' ∧ ∃ qrs : List (Addr × List Addr), H' D = some (.lst (refs (qrs.map Prod.fst))) ∧ qrs.map Prod.snd = ((prs.take i).map Prod.snd).map (outO o) ∧ (∀ x, x ∈ qrs → x.1 ≠ D ∧ H1 x.1 = none ∧ H' x.1 = some (.lst (refs x.2)))) ⟨Ex.new hD, [], upd_same, by simp, fun x hx => by cases hx⟩
    (fun i H' _ ⟨e2, _⟩ => ex_l (e1.trans e2) hp) ?_ ?_
  · rintro i x H2 hx ⟨e2, qrs, hD2, hsnd, hqs⟩
    obtain ⟨q0, hq0, rfl⟩ := refs_at hx
    rw [List.getElem?_map] at hq0
    cases ei : prs[i]? with
    | none => rw [ei] at hq0; cases hq0
    | some pr =>
      rw [ei] at hq0
      obtain rfl := Option.some.inj hq0
      have hmem := List.mem_of_getElem? ei
      have hm2 : pr.2 ∈ prs.map Prod.snd := List.mem_map_of_mem hmem
      have e12 := e1.trans e2
      refine ⟨?_, ?_⟩
      · match σ, h5 with
        | [a, b, c, d, e], _ => rfl
      refine yes_then ?_
      refine el_outO W (W.ex e12 (hrow pr hmem)) (fun a ha => (ks pr.2 hm2 a ha).ex e12) (fun b hb => (ho b hb).ex e12) (l2 pr.2 hm2) ?_ ?_ ?_ H2 (Ex.refl H2) _ fun pn H3 hpn e3 h3 => ?_
      · match σ, h5, h0 with
        | [a, b, c, d, e], _, h0 => exact h0
      · match σ, h5 with
        | [a, b, c, d, e], _ => rfl
      · match σ, h5 with
        | [a, b, c, d, e], _ => rfl
      have hlen : qrs.length = i := by
        have := congrArg List.length hsnd
        rw [List.length_map, List.length_map, List.length_map, List.length_take] at this
        have hi := (List.getElem?_eq_some_iff.mp ei).1
        omega
      have hi := (List.getElem?_eq_some_iff.mp ei).1
      rw [List.length_map] at l1
      have nD : pn ≠ D := (ne_of_none hD2 hpn).symm
      refine ⟨refs (qrs.map Prod.fst), e3 _ _ hD2, sz_lt (by unfold refs; rw [List.length_map, List.length_map]; omega), Ex.mut (e2.trans e3) hD, qrs ++ [(pn, outO o pr.2)], ?_, ?_, fun x hx => ?_⟩
      · rw [upd_same]
        unfold refs
        simp
      · rw [List.map_append, hsnd, List.take_add_one, ei]
        simp
      · rcases List.mem_append.mp hx with hx | hx
        · obtain ⟨n1, n0, n2⟩ := hqs x hx
          exact ⟨n1, n0, by rw [upd_ne n1]; exact e3 _ _ n2⟩
        · obtain rfl := List.mem_singleton.mp hx
          exact ⟨nD, fresh_back e2 hpn, by rw [upd_ne nD]; exact h3⟩
  · rintro H2 ⟨e2, qrs, hD2, hsnd, hqs⟩
    have ll : (refs (prs.map Prod.fst)).length = prs.length := by unfold refs; rw [List.length_map, List.length_map]
    rw [ll, List.take_length] at hsnd
    rw [← hsnd] at q
    exact q D H2 hD e2 (Rw.of_prs (sq_of (by rw [newp_at hD]; exact hD2)) fun x hx => sq_of (by rw [newp_at (hqs x hx).2.1]; exact (hqs x hx).2.2))
theorem full_rows (rows : List (List Addr)) : Mg.full rows = rows.filter fun r => !r.isEmpty := rfl
/-- the rest of the rows that hold something -/
theorem er_some {σ : L2.St} {G H : Hp} {p : Addr} {rows : List (List Addr)} (eG : Ex G H) (R : Rw K (SqL K) G p rows) (l1 : rows.length ≤ 40) (h2 : σ[2]? = some (some (.ref p))) (h5 : σ.length = 5) :
    ∀ H1, Ex H H1 → ∀ Q : VK, (∀ p H2, H1 p = none → Ex H1 H2 → (∀ G', Ex G G' → G' p = H2 p → Rw K (SqL K) G' p (rows.filter fun r => !r.isEmpty)) → Q (.ref p) H2) → tLc (iList K (tVar 2)) (gName 3) (tTruQ K (tVar 3)) (tVar 3) [3] σ H1 Q := fun H1 e1 Q q => by
  obtain ⟨prs, hp, rfl, hrow⟩ := R.prs
  have ll : (refs (prs.map Prod.fst)).length = prs.length := by unfold refs; rw [List.length_map, List.length_map]
  rw [List.length_map] at l1
  have h := el_lcK wk_list (tl := tVar 2) (σ := σ) (H := H) (j := 3) (t := tTruQ K (tVar 3)) (te := tVar 3) (vs := [3]) (ev_var h2) (ex_l eG hp) (fun i => match prs[i]? with | some a => !a.2.isEmpty | none => false) (fun i => match prs[i]? with | some a => .ref a.1 | none => .non) (by omega) (fun x => by
      match σ, h5 with
      | [a, b, c, d, e], _ => rfl) (fun i x H1 e hx => by
      obtain ⟨a, ha, rfl⟩ := refs_at hx
      rw [List.getElem?_map] at ha
      cases ei : prs[i]? with
      | none => rw [ei] at ha; cases ha
      | some pr =>
        rw [ei] at ha
        obtain rfl := Option.some.inj ha
        have hm := List.mem_of_getElem? ei
        refine et_tru (x := .ref pr.1) (ev_var ?_) fun H2 e2 => .inl ⟨refs pr.2, ex_l ((eG.trans e).trans e2) (hrow pr hm), ?_⟩
        · match σ, h5 with
          | [a, b, c, d, e], _ => rfl
        · obtain ⟨pr1, pr2⟩ := pr
          cases pr2 <;> rfl) (fun i x H1 e hx _ => by
      obtain ⟨a, ha, rfl⟩ := refs_at hx
      rw [List.getElem?_map] at ha
      cases ei : prs[i]? with
      | none => rw [ei] at ha; cases ha
      | some pr =>
        rw [ei] at ha
        obtain rfl := Option.some.inj ha
        refine ev_var ?_
        match σ, h5 with
        | [a, b, c, d, e], _ => rfl)
  rw [ll, given_filter prs (fun x => !x.2.isEmpty) (fun x => V.ref x.1) _ _ (fun i x hx => by rw [hx]) (fun i x hx => by rw [hx])] at h
  refine h H1 e1 _ fun p2 H2 hp2 e2 h2 => ?_
  have er : (prs.filter fun x => !x.2.isEmpty).map Prod.snd = (prs.map Prod.snd).filter fun r => !r.isEmpty := by
    rw [List.filter_map]
    rfl
  rw [← er] at q
  refine q p2 H2 hp2 e2 fun G' eg hg => Rw.of_prs (sq_of ?_) fun x hx => ex_l eg (hrow x (List.mem_filter.mp hx).1)
  rw [hg, h2]
  unfold refs
  rw [List.map_map]
  rfl
theorem rd_without {S : Hp → Addr → List V → Prop} {it : TE → TI} (W : Wk K S it) {σ : L2.St} {H : Hp} {p : Addr} {o : Option Addr} {rows : List (List Addr)} {D : Ends} (R : Rw K S H p rows) (ks : Ks (kC K) H rows) (ho : ∀ b, o = some b → KO (kC K) H b) (l1 : rows.length ≤ 40) (l2 : ∀ r, r ∈ rows → r.length ≤ 40)
    (h0 : σ[0]? = some (some (optR o))) (h1 : σ[1]? = some (some (.ref p))) (h5 : σ.length = 5) (fin : ∀ p' H', H p' = none → Ex H H' → Rw K (SqL K) (newp H H') p' (Mg.wo o rows) → D.rt (.ref p') H') :
    tSeq (tAsg (tLc (iList K (tVar 1)) (gName 3) tYes (tLc (it (tVar 3)) (gName 4) (tTest (tOp (rNeI (kC K)) (tVar 4) (tVar 0))) (tVar 4) [4]) [3]) (gName 2)) (tRet (tLc (iList K (tVar 2)) (gName 3) (tTruQ K (tVar 3)) (tVar 3) [3])) D σ H := by
  refine q_asgR (er_outO W R ks ho l1 l2 h0 h1 h5) fun pr H1 hpr e1 R1 => ?_
  refine er_some (newp_ex (H := H) (H' := H1)) R1 (by rw [List.length_map]; exact l1) ?_ (by rw [List.length_set]; exact h5) H1 (Ex.refl H1) _ fun p2 H2 hp2 e2 R2 => ?_
  · match σ, h5 with
    | [a, b, c, d, e], _ => rfl
  · have R3 := R2 (newp H H2) (newp_mono e2) (newp_at (fresh_back e1 hp2))
    rw [← wo_eq] at R3
    exact fin p2 H2 (fresh_back e1 hp2) (e1.trans e2) R3
theorem can_withoutL (T : Txt K mg) : Can P w K mg base CX0 1 "_without" ["head", "rows"] (spWithout K (SqL K)) := by
  refine can_of T.g__without T.F__without (fun fd F => ?_) (fun _ _ _ _ _ _ us hl => match us, hl with | [_, _], _ => rfl)
  refine F.ok sc__without (fun vs H Q E h => ?_) (fun cdv A outer s H vs Q E hr h => ?_)
  · obtain ⟨o, p, rows, rfl, _⟩ := h
    rfl
  · obtain ⟨o, p, rows, rfl, R, ks, ho, l1, l2, fin⟩ := h
    have nd := sc__without.nd
    refine ⟨_, pss_cons (ps_setLc (i := 2) (own := [("row", 3)]) (g := gName 3) (tt := tYes) rfl nd rfl rfl (sw_true rfl rfl rfl (by decide +kernel)) (pi_list (pv 1)) (blkOk_by (N := ["head", "rows", "rest", "row", "kind"]) (sc := defScope s__without) (by decide +kernel)) (fun _ _ _ _ _ => pg_name (i := 3) nd rfl (.inl rfl)) (fun _ _ _ _ _ => pts_nil)
        (fun s1 H1 C1 cl1 fp1 => pe_lc (own := [("kind", 4)]) (wi := iList K (tVar 3)) (g := gName 4) (tt := tTest (tOp (rNeI (kC K)) (tVar 4) (tVar 0))) rfl nd (pi_list (pv 3)) (blkOk_by (N := ["head", "rows", "rest", "row", "kind"]) (sc := scW1) (by decide +kernel)) (fun _ _ _ _ _ => pg_name (i := 4) nd rfl (.inl rfl)) (fun _ _ _ _ _ => pts_one (pt_cmpR (op_ne_id hr T.idc) (pv 4) (pv 0) (nomark _))) (fun _ _ _ _ _ => pv 4)))
      (pss_one (ps_ret (pe_lc (own := [("row", 3)]) (wi := iList K (tVar 2)) (g := gName 3) (tt := tTruQ K (tVar 3)) rfl nd (pi_list (pv 2)) (blkOk_by (N := ["head", "rows", "rest", "row", "kind"]) (sc := defScope s__without) (by decide +kernel)) (fun _ _ _ _ _ => pg_name (i := 3) nd rfl (.inl rfl)) (fun _ _ _ _ _ => pts_one (pt_truth (pv 3) (by intro _; rfl))) (fun _ _ _ _ _ => pv 3)))), ?_⟩
    exact rd_without wk_list R ks ho l1 l2 rfl rfl rfl fin
theorem can_withoutT (T : Txt K mg) : Can P w K mg base CX0 1 "_without" ["head", "rows"] (spWithout K (SqT K)) := by
  refine can_of T.g__without T.F__without (fun fd F => ?_) (fun _ _ _ _ _ _ us hl => match us, hl with | [_, _], _ => rfl)
  refine F.ok sc__without (fun vs H Q E h => ?_) (fun cdv A outer s H vs Q E hr h => ?_)
  · obtain ⟨o, p, rows, rfl, _⟩ := h
    rfl
  · obtain ⟨o, p, rows, rfl, R, ks, ho, l1, l2, fin⟩ := h
    have nd := sc__without.nd
    refine ⟨_, pss_cons (ps_setLc (i := 2) (own := [("row", 3)]) (g := gName 3) (tt := tYes) rfl nd rfl rfl (sw_true rfl rfl rfl (by decide +kernel)) (pi_list (pv 1)) (blkOk_by (N := ["head", "rows", "rest", "row", "kind"]) (sc := defScope s__without) (by decide +kernel)) (fun _ _ _ _ _ => pg_name (i := 3) nd rfl (.inl rfl)) (fun _ _ _ _ _ => pts_nil)
        (fun s1 H1 C1 cl1 fp1 => pe_lc (own := [("kind", 4)]) (wi := iTup K (tVar 3)) (g := gName 4) (tt := tTest (tOp (rNeI (kC K)) (tVar 4) (tVar 0))) rfl nd (pi_tup (pv 3)) (blkOk_by (N := ["head", "rows", "rest", "row", "kind"]) (sc := scW1) (by decide +kernel)) (fun _ _ _ _ _ => pg_name (i := 4) nd rfl (.inl rfl)) (fun _ _ _ _ _ => pts_one (pt_cmpR (op_ne_id hr T.idc) (pv 4) (pv 0) (nomark _))) (fun _ _ _ _ _ => pv 4)))
      (pss_one (ps_ret (pe_lc (own := [("row", 3)]) (wi := iList K (tVar 2)) (g := gName 3) (tt := tTruQ K (tVar 3)) rfl nd (pi_list (pv 2)) (blkOk_by (N := ["head", "rows", "rest", "row", "kind"]) (sc := defScope s__without) (by decide +kernel)) (fun _ _ _ _ _ => pg_name (i := 3) nd rfl (.inl rfl)) (fun _ _ _ _ _ => pts_one (pt_truth (pv 3) (by intro _; rfl))) (fun _ _ _ _ _ => pv 3)))), ?_⟩
    exact rd_without wk_tup R ks ho l1 l2 rfl rfl rfl fin
end
end K28
end

section
set_option Elab.async false
set_option linter.all false
set_option maxRecDepth 100000
set_option maxHeartbeats 4000000
namespace K28
open PySem PySem.Spec PyProof.Rows L2 He Cn Evl
theorem nodup_len {α : Type} [DecidableEq α] : ∀ (l m : List α), l.Nodup → (∀ x, x ∈ l → x ∈ m) → l.length ≤ m.length
  | [], m, _, _ => Nat.zero_le _
  | a :: l, m, nd, h => by
    obtain ⟨n1, n2⟩ := List.nodup_cons.mp nd
    have ha := h a (List.mem_cons_self ..)
    have ih := nodup_len l (m.erase a) n2 fun x hx => (List.mem_erase_of_ne (fun e => n1 (by rw [← e]; exact hx))).mpr (h x (List.mem_cons_of_mem _ hx))
    have := List.length_erase_of_mem ha
    have : 0 < m.length := List.length_pos_of_mem ha
    rw [List.length_cons]
    omega
theorem idx_refs {a : Addr} : ∀ {r : List Addr}, (refs r).idxOf (.ref a) = r.idxOf a
  | [] => rfl
  | b :: r => by
    have ih := idx_refs (a := a) (r := r)
    show (V.ref b :: refs r).idxOf (.ref a) = _
    rw [List.idxOf_cons, List.idxOf_cons, ih]
    by_cases e : b = a
    · subst e
      simp
    · have e1 : (V.ref b == V.ref a) = false := by simpa using e
      have e2 : (b == a) = false := by simpa using e
      rw [e1, e2]
section
variable {P : Program} {w : World} {K : PySem.W.Frag} {mg : Str → Option Value} {base : Heap}
/-! ### the ring -/
def spRingIn (K : PySem.W.Frag) : Sp := fun vs H Q _ => ∃ (p : Addr) (rows : List (List Addr)), vs = [.ref p] ∧ Rw K (SqL K) H p rows ∧ Mg.NoNil rows ∧ Mg.Nd rows ∧ Ks (kC K) H rows ∧ rows ≠ [] ∧ Mg.frees rows = [] ∧ rows.length ≤ 40 ∧
  ∀ t ring H', H t = none → Ex H H' → H' t = some (.tup (refs ring)) → Mg.Ring rows ring → (∀ a, a ∈ ring → ∃ r, r ∈ rows ∧ a ∈ r) → ring.length ≤ 40 → Q (.ref t) H'
theorem cut_drop {xs : List V} {i : Nat} (h : i ≤ xs.length) : cutV xs (some (i : Int)) none = xs.drop i := by
  unfold cutV
  rw [HT.sIx_nat, HT.sIx_none, Nat.min_eq_left h, List.take_of_length_le]
  rw [List.length_drop]
  exact Nat.le_refl _
theorem can_ringIn (T : Txt K mg) : Can P w K mg base CX0 2 "_ring_in" ["rows"] (spRingIn K) := by
  have CH : Can P w K mg base CX0 1 "_head_of_row_with" ["kind", "rows"] (spHrw K) := can_hrw T
  refine can_of T.g__ring_in T.F__ring_in (fun fd F => ?_) (fun _ _ _ _ _ _ us hl => match us, hl with | [_], _ => rfl)
  refine F.ok sc__ring_in (fun vs H Q E h => ?_) (fun cdv A outer s H vs Q E hr h => ?_)
  · obtain ⟨p, rows, rfl, _⟩ := h
    rfl
  · obtain ⟨p, rows, rfl, R, nn, ndr, ks, hne, hfr, l1, fin⟩ := h
    have nd := sc__ring_in.nd
    refine ⟨_, pss_cons (ps_set (i := 1) nd rfl (.inl rfl) (pe_lst (pa_cons (pe_ix ix_list (pe_ix ix_list (pv 0) pe_int (fun _ _ => rfl)) pe_int (fun _ _ => rfl)) pa_nil)))
      (pss_one (ps_while PassesOwn.never (pt_val pe_bl)
        (pss_cons (ps_set (i := 2) nd rfl (.inl rfl) (pe_can CH hr pass0 (pa_cons (pe_ix ix_list (pv 1) (pe_un un_neg pe_int) (fun _ _ => rfl)) (pa_cons (pv 0) pa_nil))))
        (pss_cons (ps_if (pt_cmpR (op_in_id hr T.idc) (pv 2) (pv 1) rfl)
          (pss_cons (ps_set (i := 3) nd rfl (.inl rfl) (pe_slice sl_list (pv 1) (po_some (pe_bm PySem.F.plainAttrs_list PySem.F.slot_list_index PySem.F.type_list_index (mt_index_id hr T.idc) (pv 1) (pa_cons (pv 2) pa_nil))) po_none))
          (pss_one (ps_ret (pe_callTy call_tuple_of (by rfl) T.n_tuple (by decide +kernel) (pa_cons (pe_revL (pv 3)) pa_nil))))) pss_nil)
        (pss_one (ps_expr (pe_bm PySem.F.plainAttrs_list PySem.F.slot_list_append PySem.F.type_list_append mt_append (pv 1) (pa_cons (pv 2) pa_nil)))))))), ?_⟩
    obtain ⟨ps, hp, hlen, hrow⟩ := id R
    cases rows with
    | nil => exact absurd rfl hne
    | cons r0 rest =>
    have hm0 := List.mem_cons_self (a := r0) (l := rest)
    cases r0 with
    | nil => exact absurd rfl (nn _ hm0)
    | cons h0 t0 =>
    generalize hrw : (h0 :: t0) :: rest = rows at *
    have hr0 : rows[0]? = some (h0 :: t0) := by rw [← hrw] <;> rfl
    obtain ⟨q0, hq0⟩ := at_some (l := ps) (i := 0) (by rw [hlen, ← hrw]; exact Nat.succ_pos _)
    have hS0 := hrow 0 q0 _ hq0 hr0
    have hin : ∀ x, x ∈ Mg.heads rows → ∃ r, r ∈ rows ∧ x ∈ r := fun x hx => by
      obtain ⟨t, ht⟩ := Mg.mem_heads.mp hx
      exact ⟨_, ht, List.mem_cons_self ..⟩
    have hko : ∀ x, x ∈ Mg.heads rows → KO (kC K) H x := fun x hx => by
      obtain ⟨r, hr, hx⟩ := hin x hx
      exact ks r hr x hx
    refine q_asgL (el_lst (ea_cons (ev_op (ev_op (ev_var rfl) ev_c (rv_ixL hp (at_of (j := 0) rfl (at_refs hq0)))) ev_c (rv_ixL hS0 (at_of (j := 0) (v := .ref h0) rfl rfl))) ea_nil) (by show 1 ≤ 100000; decide)) fun pt H1 hpt e1 h1 => ?_
    have hhd : h0 ∈ Mg.heads rows := by
      rw [← hrw, Mg.heads_cons]
      exact List.mem_cons_self ..
    refine s_while (fun m σ' H' => ∃ (pa : List Addr) (v2 : Option V), σ' = [some (.ref p), some (.ref pt), v2, none] ∧ Ex H H' ∧ H' pt = some (.lst (refs pa)) ∧ pa ≠ [] ∧ pa.Nodup ∧ (∀ x, x ∈ pa → x ∈ Mg.heads rows) ∧
      (∀ (j : Nat) (x y : Addr), pa[j]? = some x → pa[j + 1]? = some y → Mg.Before rows y x) ∧ m = (Mg.heads rows).length + 1 - pa.length) _ ⟨[h0], none, rfl, e1, h1, by simp, by simp, by simpa using hhd, fun j x y a b => by simp at b, rfl⟩ ?_
    rintro m σ' H' ⟨pa, v2, rfl, e2, h2, pne, pnd, phd, chain, rfl⟩
    have plen := nodup_len pa _ pnd phd
    rw [Mg.heads_len nn] at plen
    have ppos : 0 < pa.length := List.length_pos_iff.mpr pne
    obtain ⟨lst, hlst⟩ := at_some (l := pa) (i := pa.length - 1) (by omega)
    have hlm := phd lst (List.mem_of_getElem? hlst)
    obtain ⟨h, hh⟩ := Mg.hrw_stuck ndr hfr hlm
    have hhm := Mg.hrw_head hh
    obtain ⟨_, _, _, hnl⟩ := Mg.hrw_some hh
    refine ⟨true, et_B ev_c, fun _ H2 e3 => ?_, fun q => by cases q⟩
    have e13 := e2.trans e3
    have h3 := e3 _ _ h2
    refine ⟨fun σ2 H2 => ∃ m', m' < (Mg.heads rows).length + 1 - pa.length ∧ ∃ (pa : List Addr) (v2 : Option V), σ2 = [some (.ref p), some (.ref pt), v2, none] ∧ Ex H H2 ∧ H2 pt = some (.lst (refs pa)) ∧ pa ≠ [] ∧ pa.Nodup ∧ (∀ x, x ∈ pa → x ∈ Mg.heads rows) ∧
      (∀ (j : Nat) (x y : Addr), pa[j]? = some x → pa[j + 1]? = some y → Mg.Before rows y x) ∧ m' = (Mg.heads rows).length + 1 - pa.length, fun _ _ z => z, ?_⟩
    have hat : atI (refs pa) (-1) = some (.ref lst) := by
      have lr : (refs pa).length = pa.length := by unfold refs; rw [List.length_map]
      unfold atI ixN
      rw [lr, if_neg (by decide), if_pos (by omega)]
      show (refs pa)[((-1 : Int) + (pa.length : Int)).toNat]? = _
      rw [show ((-1 : Int) + (pa.length : Int)).toNat = pa.length - 1 by omega]
      exact at_refs hlst
    have hpaK : ∀ H3, Ex H2 H3 → ∀ x, x ∈ pa → KO (kC K) H3 x := fun H3 e x hx => (hko x (phd x hx)).ex (e13.trans e)
    refine q_asg (v := .ref h) ?_ fun H3 e4 => ?_
    · have := ev_hrw (ta := tOp (rIxL K) (tVar 1) (tUn (rU fun i => .int (-i)) (tC (.int 1)))) (tb := tVar 0) (σ := [some (.ref p), some (.ref pt), v2, none]) (k := lst) (ev_op (ev_var rfl) (ev_un ev_c ru_neg) (rv_ixL (sq_of h3) hat)) (ev_var rfl) (R.exL e13) nn (ks.ex e13) ((hko _ hlm).ex e13)
      rw [hh] at this
      exact this
    have e14 := e13.trans e4
    have h4 := e4 _ _ h3
    have hK4 := hpaK H3 e4
    have hhK := (hko h hhm).ex e14
    refine q_when (et_test (ev_op (ev_var rfl) (ev_var rfl) (rv_in_id (neg := false) (.inl (sq_of h4)) hhK hK4))) (fun hb H4 e5 => ?_) (fun hb H4 e5 => ?_)
    · have hmem : h ∈ pa := of_decide_eq_true hb
      have hix : pa.idxOf h < pa.length := List.idxOf_lt_length_of_mem hmem
      have hiat : pa[pa.idxOf h]? = some h := by
        rw [List.getElem?_eq_getElem hix, List.getElem_idxOf hix]
      have h5 := e5 _ _ h4
      have e15 := e14.trans e5
      have lr : (refs pa).length = pa.length := by unfold refs; rw [List.length_map]
      refine q_asgL (xs := refs (pa.drop (pa.idxOf h))) ?_ fun pr H5 hpr e6 h6 => ?_
      · have := el_sl (K := K) (te := tVar 1) (σ := [some (.ref p), some (.ref pt), some (.ref h), none]) (H := H4) (xs := refs pa) (tl := tPart (tBM K "list" (rIndexI (kC K) (SqL K)) (tVar 1) (tCons (tVar 2) tNil))) (th := tNoPart) (lo := some ((pa.idxOf h : Nat) : Int)) (hi := none) (a := pt) (ev_var rfl) (eo_some fun H5 e6 Q q => by
          refine ⟨.ref pt, rfl, .inl ⟨rfl, _, sq_of (e6 _ _ h5)⟩, _, rfl, pt, .ref h, refs pa, rfl, rfl, sq_of (e6 _ _ h5), (hhK.ex (e5.trans e6)).id, ids fun x hx => (hK4 x hx).ex (e5.trans e6), mem_refs.mpr hmem, ?_⟩
          rw [idx_refs]
          exact q H5 (Ex.refl H5)) eo_none (sq_of h5)
        rw [cut_drop (by omega)] at this
        unfold refs at this ⊢
        rw [List.map_drop]
        exact this
      refine ⟨_, rfl, pr, _, rfl, sq_of h6, fun pv hpv => ⟨pv, _, rfl, .inl ⟨sq_of upd_same, fun t ht => ?_⟩⟩⟩
      have hrev : (refs (pa.drop (pa.idxOf h))).reverse = refs (pa.drop (pa.idxOf h)).reverse := by
        unfold refs
        rw [List.map_reverse]
      have hmm : ∀ a, a ∈ (pa.drop (pa.idxOf h)).reverse → a ∈ pa := fun a ha => List.mem_of_mem_drop (List.mem_reverse.mp ha)
      have ht5 : H5 t = none := fresh_back (Ex.new hpv) ht
      refine fin t (pa.drop (pa.idxOf h)).reverse _ (fresh_back (e15.trans e6) ht5) (((e15.trans e6).trans (Ex.new hpv)).trans (Ex.new ht)) (by rw [upd_same, hrev]) ?_ (fun a ha => hin a (phd a (hmm a ha))) (by rw [List.length_reverse, List.length_drop]; omega)
      refine Mg.ring_of chain (fun x hx => ?_) hiat fun x hx => ?_
      · have : x = lst := Option.some.inj (hx.symm.trans hlst)
        rw [this]
        exact Mg.hrw_before hh
      · have : x = lst := Option.some.inj (hx.symm.trans hlst)
        rw [this]
        exact hnl
    · have hmem : h ∉ pa := of_decide_eq_false hb
      refine s_app (e5 _ _ h4) (ev_var rfl) (ev_var rfl) (by unfold refs; rw [List.length_map]; omega) fun H5 e6 => ?_
      have nd' : (pa ++ [h]).Nodup := List.nodup_append.mpr ⟨pnd, by simp, fun a ha b hb => by
        obtain rfl := List.mem_singleton.mp hb
        exact fun e => hmem (e ▸ ha)⟩
      have hd' : ∀ x, x ∈ pa ++ [h] → x ∈ Mg.heads rows := fun x hx => by
        rcases List.mem_append.mp hx with hx | hx
        · exact phd x hx
        · obtain rfl := List.mem_singleton.mp hx
          exact hhm
      have pl' := nodup_len _ _ nd' hd'
      rw [List.length_append] at pl'
      refine ⟨_, ?_, pa ++ [h], _, rfl, Ex.mut ((e14.trans e5).trans e6) hpt, by rw [upd_same]; unfold refs; simp, by simp, nd', hd', fun j x y a b => ?_, rfl⟩
      · rw [List.length_append]
        simp at pl' ⊢
        omega
      · by_cases hj : j + 1 < pa.length
        · rw [List.getElem?_append_left (by omega)] at a
          rw [List.getElem?_append_left hj] at b
          exact chain j x y a b
        · have hj1 : j + 1 < (pa ++ [h]).length := (List.getElem?_eq_some_iff.mp b).1
          rw [List.length_append] at hj1
          have hj2 : j = pa.length - 1 := by simp at hj1; omega
          subst hj2
          rw [List.getElem?_append_left (by omega)] at a
          have : x = lst := Option.some.inj (a.symm.trans hlst)
          subst this
          rw [List.getElem?_append_right (by omega)] at b
          have : y = h := by
            rw [show pa.length - 1 + 1 - pa.length = 0 by omega] at b
            simpa using b.symm
          subst this
          exact Mg.hrw_before hh
end
end K28
end

section
set_option Elab.async false
set_option linter.all false
set_option maxRecDepth 100000
set_option maxHeartbeats 4000000
namespace K28
open PySem PySem.Spec PyProof.Rows L2 He Cn Evl
/-- a kind as it stands when it is made: its line l, no member of its own, not frozen -/
def KdAt (K : PySem.W.Frag) (H : Hp) (a : Addr) (l : List Addr) : Prop := ∃ (dx q m : Addr) (fs : List (Str × V)), H a = some (.ins (kC K) dx fs) ∧ fs.lookup ("line" : Str) = some (.ref q) ∧ SqD K H q (refs l) ∧
  fs.lookup ("own_members" : Str) = some (.ref m) ∧ SqT K H m [] ∧ fs.lookup ("frozen" : Str) = some (.bl false)
theorem KdAt.ex {K : PySem.W.Frag} {H H' : Hp} {a : Addr} {l : List Addr} (e : Ex H H') (h : KdAt K H a l) : KdAt K H' a l := by
  obtain ⟨dx, q, m, fs, h1, h2, h3, h4, h5, h6⟩ := h
  exact ⟨dx, q, m, fs, e _ _ h1, h2, h3.ex e, h4, ex_t e h5, h6⟩
theorem KdAt.ko {K : PySem.W.Frag} {H : Hp} {a : Addr} {l : List Addr} (h : KdAt K H a l) : KO (kC K) H a := by
  obtain ⟨dx, q, m, fs, h1, _⟩ := h
  exact ⟨dx, fs, h1⟩
theorem ev_fld {K : PySem.W.Frag} {σ : L2.St} {H : Hp} {te : TE} {a C dx : Addr} {fs : List (Str × V)} {f : Str} {v : V} (h : Ev te σ H (.ref a)) (ha : H a = some (.ins C dx fs)) (c : Cls K C) (n : NoAttr K C f) (l : fs.lookup f = some v) : Ev (tFld K te f) σ H v := fun H1 e Q q =>
  h H1 e _ fun H2 e2 => ⟨a, C, dx, fs, v, rfl, (e.trans e2) _ _ ha, c, n, l, q H2 e2⟩
theorem el_cat {σ : L2.St} {H : Hp} {ta tb : TE} {xs ys : List V} (ha : EvL ta σ H xs) (hb : EvL tb σ H ys) (hz : xs.length + ys.length ≤ 100000) : EvL (tOp rCat ta tb) σ H (xs ++ ys) := fun H1 e Q q =>
  ha H1 e _ fun p1 H2 hp1 e2 h1 => hb H2 (e.trans e2) _ fun p2 H3 hp2 e3 h2 => ⟨p1, p2, xs, ys, rfl, rfl, e3 _ _ h1, h2, sz_of hz, fun p3 hp3 => q p3 _ (fresh_back (e2.trans e3) hp3) ((e2.trans e3).trans (Ex.new hp3)) upd_same⟩
section
variable {P : Program} {w : World} {K : PySem.W.Frag} {mg : Str → Option Value} {base : Heap}
/-! ### the error -/
def spIK (K : PySem.W.Frag) : Sp := fun vs H Q _ => ∃ (a : Addr) (r it : V), vs = [.ref a, r, it] ∧ H a = some (exo a (kE K) none) ∧
  ∀ (d : Addr) (H' : Hp), H d = none → d ≠ a → H' a = some (exo a (kE K) (some d)) → H' d = some (exd d [("item", it), ("rule", r)]) → (∀ b o, H b = some o → b ≠ a → H' b = some o) → Q .non H'
theorem ok_ik (T : Txt K mg) : ∃ fd, FnOk P w K mg base CX0 1 (ma K (kE K) "__init__") fd ["self", "rule", "item"] (spIK K) ∧ Binds K fd ["self", "rule", "item"] [] := by
  obtain ⟨fd, F⟩ := T.F_InvalidKind_init
  refine ⟨fd, F.ok sc_InvalidKind_init (fun vs H Q E h => ?_) (fun cdv A outer s H vs Q E hr h => ?_), ?_⟩
  · obtain ⟨a, r, it, rfl, _⟩ := h
    rfl
  · obtain ⟨a, r, it, rfl, ha, k⟩ := h
    refine ⟨_, pss_cons (ps_ost (pv 0) (pv 1)) (pss_one (ps_ost (pv 0) (pv 2))), ?_⟩
    refine ⟨_, rfl, _, rfl, a, kE K, rfl, T.oex, T.e_rule, .inl ⟨ha, fun d hd hda => ?_⟩⟩
    refine ⟨_, rfl, _, rfl, a, kE K, rfl, T.oex, T.e_item, .inr ⟨d, _, upd_same, by rw [upd_ne hda, upd_same], by show 1 ≤ 900; decide, ?_⟩⟩
    refine k d _ hd hda (by rw [upd_ne (Ne.symm hda), upd_same]) upd_same fun b o e hb => ?_
    rw [upd_ne (ne_of_none e hd), upd_ne hb, upd_ne (ne_of_none e hd)]
    exact e
  · obtain ⟨ds, hv, hb⟩ := F.binds1 (ps := ["self", "rule", "item"]) 3 1 (by simp [He5.DefA.dvs, d_InvalidKind_init]) rfl (fun T kV doc pm an cdv ct us its h1 h2 => match us, its, h1, h2 with | [_, _, _], [_], _, _ => ⟨_, rfl, rfl⟩)
    have : ds = [] := by
      have hv : Vals [] ds := hv
      cases hv
      rfl
    rw [this] at hb
    exact hb
theorem ik_then {H1 : Hp} {r it : V} {Q : XK} (k : ∀ (d : Addr) (H' : Hp), H1 d = none → Ex H1 H' → H' d = some (.xd [("item", it), ("rule", r)]) → Q (.ref (kE K)) (some d) H') :
    ([r, it] : List V).length ≤ 1000 ∧ ∀ a, H1 a = none → spIK K (.ref a :: ([r, it] ++ [])) (upd H1 a (exo a (kE K) none))
      (fun v H2 => v = .non ∧ ∃ (d : Addr) (fs : List (Str × V)), H2 a = some (exo a (kE K) (some d)) ∧ H2 d = some (exd d fs) ∧ H1 d = none ∧ Q (.ref (kE K)) (some d) (upd (del H2 a) d (.xd fs))) (fun _ _ _ => False) := by
  refine ⟨by show 2 ≤ 1000; decide, fun a ha => ⟨a, r, it, rfl, upd_same, fun d H' hd hda ha' hd' fr => ⟨rfl, d, _, ha', hd', ?_, ?_⟩⟩⟩
  · rw [upd_ne hda] at hd
    exact hd
  · rw [upd_ne hda] at hd
    refine k d _ hd (fun b o e => ?_) upd_same
    rw [upd_ne (ne_of_none e hd), del_ne (ne_of_none e ha)]
    refine fr b o ?_ (ne_of_none e ha)
    rw [upd_ne (ne_of_none e ha)]
    exact e
/-! ### the rows of the line -/
def Tops (K : PySem.W.Frag) (H : Hp) (t : Addr) (tops : List Addr) (lines : List (List Addr)) : Prop := SqT K H t (refs tops) ∧ tops.length = lines.length ∧ ∀ (i : Nat) (a : Addr) (l : List Addr), tops[i]? = some a → lines[i]? = some l → KdAt K H a l
theorem Tops.ex {H H' : Hp} {t : Addr} {tops : List Addr} {lines : List (List Addr)} (e : Ex H H') (h : Tops K H t tops lines) : Tops K H' t tops lines := by
  obtain ⟨h1, h2, h3⟩ := h
  exact ⟨ex_t e h1, h2, fun i a l ha hl => (h3 i a l ha hl).ex e⟩
/-- S: what is known of the tuples -/
def spRowsOf (K : PySem.W.Frag) (S : Hp → Addr → List V → Prop) : Sp := fun vs H Q _ => ∃ (t : Addr) (tops : List Addr) (lines : List (List Addr)), vs = [.ref t] ∧ Tops K H t tops lines ∧ S H t (refs tops) ∧ tops.length ≤ 30 ∧
  ∀ p H', H p = none → Ex H H' → Rw K S H' p (lines ++ [tops]) → Q (.ref p) H'
theorem can_rowsOf {S : Hp → Addr → List V → Prop} (hSD : ∀ H q xs, SqD K H q xs → S H q xs) (hSe : ∀ H H' q xs, Ex H H' → S H q xs → S H' q xs) (T : Txt K mg) : Can P w K mg base CX0 1 "_rows_of" ["above"] (spRowsOf K S) := by
  refine can_of T.g__rows_of T.F__rows_of (fun fd F => ?_) (fun _ _ _ _ _ _ us hl => match us, hl with | [_], _ => rfl)
  refine F.ok sc__rows_of (fun vs H Q E h => ?_) (fun cdv A outer s H vs Q E hr h => ?_)
  · obtain ⟨t, tops, lines, rfl, _⟩ := h
    rfl
  · obtain ⟨t, tops, lines, rfl, ⟨hT, hl, hk⟩, hST, hz, fin⟩ := h
    have nd := sc__rows_of.nd
    refine ⟨_, pss_one (ps_ret (pe_op op_cat (pe_lc (own := [("kind", 1)]) (wi := iTup K (tVar 0)) (g := gName 1) (tt := tYes) (te := tFld K (tVar 1) "line") rfl nd (pi_tup (pv 0)) (blkOk_by (N := ["above", "kind"]) (sc := defScope s__rows_of) (by decide +kernel)) (fun _ _ _ _ _ => pg_name (i := 1) nd rfl (.inl rfl)) (fun _ _ _ _ _ => pts_nil) (fun _ _ _ _ _ => pe_fld (pv 1) rfl)) (pe_lst (pa_cons (pv 0) pa_nil)))), ?_⟩
    have ex1 : ∀ i : Nat, ∃ q : Addr, ∀ (a : Addr) (l : List Addr), tops[i]? = some a → lines[i]? = some l → ∃ dx fs, H a = some (.ins (kC K) dx fs) ∧ fs.lookup ("line" : Str) = some (.ref q) ∧ S H q (refs l) := fun i => by
      cases ha : tops[i]? with
      | none => exact ⟨0, fun a l h => by cases h⟩
      | some a =>
        cases hl' : lines[i]? with
        | none => exact ⟨0, fun a l _ h => by cases h⟩
        | some l =>
          obtain ⟨dx, q, m, fs, h1, h2, h3, _⟩ := hk i a l ha hl'
          refine ⟨q, fun a' l' e1 e2 => ?_⟩
          obtain rfl := Option.some.inj e1
          obtain rfl := Option.some.inj e2
          exact ⟨dx, fs, h1, h2, hSD _ _ _ h3⟩
    obtain ⟨f, hf⟩ := Classical.axiomOfChoice ex1
    have lr : (refs tops).length = tops.length := by unfold refs; rw [List.length_map]
    have hA := el_lcK (K := K) wk_tup (tl := tVar 0) (σ := [some (.ref t), none]) (H := H) (j := 1) (t := tYes) (te := tFld K (tVar 1) "line") (vs := [1]) (ev_var rfl) hT (fun _ => true) (fun i => .ref (f i)) (by omega) (fun x => rfl) (fun i x H1 _ _ => fun H2 _ Q q => q H2 (Ex.refl H2)) (fun i x H1 e hx _ => by
      obtain ⟨a, ha, rfl⟩ := refs_at hx
      obtain ⟨l, hli⟩ := at_some (l := lines) (i := i) (by have := (List.getElem?_eq_some_iff.mp ha).1; omega)
      obtain ⟨dx, fs, h1, h2, _⟩ := hf i a l ha hli
      exact ev_fld (ev_var rfl) (e _ _ h1) T.cls T.a_line h2)
    rw [lr, given_all] at hA
    refine s_retL (el_cat hA (el_lst (vs := [.ref t]) (ea_cons (ev_var rfl) ea_nil) (by show 1 ≤ 100000; decide)) (by simp; omega)) fun p3 H3 hp3 e13 h3 => ?_
    refine fin p3 _ hp3 e13 ⟨(List.range tops.length).map f ++ [t], sq_of (by rw [h3]; unfold refs; rw [List.map_append, List.map_map]; rfl), by simp; omega, fun i q r hq hr => ?_⟩
    by_cases hi : i < tops.length
    · rw [List.getElem?_append_left (by rw [List.length_map, List.length_range]; exact hi)] at hq
      rw [List.getElem?_append_left (by omega)] at hr
      rw [List.getElem?_map, List.getElem?_range hi] at hq
      obtain rfl := Option.some.inj hq
      obtain ⟨a, ha⟩ := at_some hi
      obtain ⟨dx, fs, _, _, h3⟩ := hf i a r ha hr
      exact hSe _ _ _ _ e13 h3
    · rw [List.getElem?_append_right (by rw [List.length_map, List.length_range]; omega)] at hq
      rw [List.getElem?_append_right (by omega)] at hr
      have e1 : i - lines.length = 0 := by
        have := (List.getElem?_eq_some_iff.mp hr).1
        simp at this
        omega
      rw [e1] at hr
      rw [List.length_map, List.length_range, hl, e1] at hq
      obtain rfl : t = q := by simpa using hq
      obtain rfl : tops = r := by simpa using hr
      exact hSe _ _ _ _ e13 hST
end
end K28
end

section
set_option Elab.async false
set_option linter.all false
set_option maxRecDepth 100000
set_option maxHeartbeats 4000000
namespace K28
open PySem PySem.Spec PyProof.Rows L2 He Cn Evl
section
variable {P : Program} {w : World} {K : PySem.W.Frag} {mg : Str → Option Value} {base : Heap}
/-- what a refusal of the line tells -/
def LineErr (K : PySem.W.Frag) (H : Hp) (rows : List (List Addr)) (E : XK) : Prop := ∀ (d t : Addr) (ring : List Addr) (H' : Hp), H d = none → Ex H H' → H' d = some (.xd [("item", .ref t), ("rule", .str "line")]) → H' t = some (.tup (refs ring)) →
  Mg.Ring rows ring → (∀ a, a ∈ ring → ∃ r, r ∈ rows ∧ a ∈ r) → ring.length ≤ 40 → E (.ref (kE K)) (some d) H'
def spLineAbove (K : PySem.W.Frag) : Sp := fun vs H Q E => ∃ (t : Addr) (tops cs : List Addr) (lines : List (List Addr)) (k : Nat), vs = [.ref t] ∧ Tops K H t tops lines ∧ tops.length ≤ 30 ∧ Mg.Nd (lines ++ [tops]) ∧ (∀ l, l ∈ lines → l.length ≤ 40) ∧ Ks (kC K) H (lines ++ [tops]) ∧
  Mg.Within cs (lines ++ [tops]) ∧ Mg.cnt cs (lines ++ [tops]) < k ∧ k ≤ 1000 ∧
  (∀ l, Mg.merge k (lines ++ [tops]) = some l → ∀ p H', H p = none → Ex H H' → H' p = some (.lst (refs l)) → Q (.ref p) H') ∧
  (Mg.merge k (lines ++ [tops]) = none → LineErr K H (lines ++ [tops]) E)
theorem can_lineAbove (T : Txt K mg) : Can P w K mg base (L2.CX P w) 3 "line_above" ["above"] (spLineAbove K) := by
  have CR : Can P w K mg base CX0 1 "_rows_of" ["above"] (spRowsOf K (SqT K)) := can_rowsOf (fun _ _ _ h => h.1) (fun _ _ _ _ e h => ex_t e h) T
  have CWT : Can P w K mg base CX0 1 "_without" ["head", "rows"] (spWithout K (SqT K)) := can_withoutT T
  have CWL : Can P w K mg base CX0 1 "_without" ["head", "rows"] (spWithout K (SqL K)) := can_withoutL T
  have CF : Can P w K mg base CX0 2 "_free_head" ["rows"] (spFreeHead K) := can_freeHead T
  have CG : Can P w K mg base CX0 2 "_ring_in" ["rows"] (spRingIn K) := can_ringIn T
  obtain ⟨fdI, FI, bI⟩ := ok_ik (P := P) (w := w) (base := base) T
  refine can_of T.g_line_above T.F_line_above (fun fd F => ?_) (fun _ _ _ _ _ _ us hl => match us, hl with | [_], _ => rfl)
  refine F.okX sc_line_above (fun vs H Q E h => ?_) (fun cdv A outer s H vs Q E hr h => ?_)
  · obtain ⟨t, tops, cs, lines, k, rfl, _⟩ := h
    rfl
  · obtain ⟨t, tops, cs, lines, k, rfl, hT, hz, ndr, hll, ks, hw, hc, hk, fin, err⟩ := h
    have nd := sc_line_above.nd
    refine ⟨_, pss_cons (ps_set (i := 1) nd rfl (.inl rfl) (pe_can CWT hr pass0 (pa_cons pe_non (pa_cons (pe_can CR hr pass0 (pa_cons (pv 0) pa_nil)) pa_nil))))
      (pss_cons (ps_set (i := 2) nd rfl (.inl rfl) (pe_lst pa_nil))
      (pss_cons (ps_while (passes_of rfl) (pt_truth (pv 1) (by intro _; rfl))
        (pss_cons (ps_set (i := 3) nd rfl (.inl rfl) (pe_can CF hr pass0 (pa_cons (pv 1) pa_nil)))
        (pss_cons (ps_if (pt_cmp (pc_isN (pv 3)))
          (pss_one (ps_raise rfl (takes_of rfl rfl rfl rfl) (pmk_oex T.oex T.mInit.at_ T.tInit FI (hr.mono (by decide)) bI .nil pass0 rfl T.g_InvalidKind (pa_cons pe_str (pa_cons (pe_can CG hr pass0 (pa_cons (pv 1) pa_nil)) pa_nil))))) pss_nil)
        (pss_cons (ps_expr (pe_bm PySem.F.plainAttrs_list PySem.F.slot_list_append PySem.F.type_list_append mt_append (pv 2) (pa_cons (pv 3) pa_nil)))
        (pss_one (ps_set (i := 1) nd rfl (.inl rfl) (pe_can CWL hr pass0 (pa_cons (pv 3) (pa_cons (pv 1) pa_nil)))))))))
      (pss_one (ps_ret (pv 2))))), ?_⟩
    generalize hr0 : lines ++ [tops] = rows0 at *
    have hlen0 : rows0.length ≤ 31 := by
      rw [← hr0, List.length_append, ← hT.2.1]
      simp
      exact hz
    have hrl0 : ∀ r, r ∈ rows0 → r.length ≤ 40 := fun r hr => by
      rw [← hr0] at hr
      rcases List.mem_append.mp hr with q | q
      · exact hll r q
      · rw [List.mem_singleton.mp q]
        omega
    refine ⟨_, rfl, t, tops, lines, rfl, hT, hT.1, hz, fun pr H1 hpr e1 R1 => ?_⟩
    rw [hr0] at R1
    refine ⟨none, pr, rows0, rfl, R1, ks.ex e1, (fun _ h => by cases h), by omega, hrl0, fun p1 H2 hp1 e2 R2 => ?_⟩
    have e12 := e1.trans e2
    refine q_asgL (el_lst ea_nil (by decide)) fun pl H3 hpl e3 h3 => ?_
    have e13 := e12.trans e3
    have hplH : H pl = none := fresh_back e12 hpl
    refine q_while (fun m σ' H' => ∃ (rows : List (List Addr)) (p : Addr) (acc : List Addr) (v3 : Option V) (G : Hp), σ' = [some (.ref t), some (.ref p), some (.ref pl), v3] ∧ Ex H H' ∧ H' pl = some (.lst (refs acc)) ∧ Ex G H' ∧ G pl = none ∧ Rw K (SqL K) G p rows ∧ Mg.NoNil rows ∧ Mg.Nd rows ∧
      rows.length ≤ 31 ∧ (∀ r, r ∈ rows → r.length ≤ 40) ∧ (∀ x, (∃ r, r ∈ rows ∧ x ∈ r) → ∃ r, r ∈ rows0 ∧ x ∈ r) ∧ (∀ x y, Mg.Before rows x y → Mg.Before rows0 x y) ∧ Mg.Within cs rows ∧ Mg.cnt cs rows < m ∧ Mg.merge k rows0 = (Mg.merge m rows).map (acc ++ ·) ∧ acc.length + m ≤ 1000)
      k ?_ ?_
    · refine ⟨Mg.wo none rows0, p1, [], none, newp H1 H2, rfl, e13, h3, newp_ex.trans e3, ?_, R2, Mg.nonil_full _, Mg.wo_nd ndr, Nat.le_trans Mg.wo_len hlen0, Mg.wo_rlen hrl0, fun x hx => Mg.wo_in hx, fun x y b => Mg.wo_before ndr b, Mg.wo_within hw, ?_, ?_, by simpa using hk⟩
      · cases q : newp H1 H2 pl with
        | none => rfl
        | some o =>
          have := newp_ex _ _ q
          rw [hpl] at this
          cases this
      · show Mg.cnt cs (Mg.full rows0) < k
        rw [Mg.cnt_full]
        exact hc
      · show _ = (Mg.merge k (Mg.full rows0)).map _
        rw [Mg.merge_full]
        cases Mg.merge k rows0 <;> simp
    rintro m σ' H' ⟨rows, p, acc, v3, G, rfl, e4, h4, eG, hGp, R, nn, ndr2, l1, l2, hin, hbf, hw2, hc2, hm, hac⟩
    obtain ⟨ps, hps, hpl2, _⟩ := id R
    refine ⟨!rows.isEmpty, et_tru (x := .ref p) (ev_var rfl) fun H5 e5 => .inl ⟨refs ps, ex_l (eG.trans e5) hps, ?_⟩, fun hb H5 e5 => ?_, fun hb H5 e5 => ?_⟩
    · cases rows <;> cases ps <;> first | rfl | (simp at hpl2)
    · have rne : rows ≠ [] := by
        intro q
        rw [q] at hb
        cases hb
      have hne := Mg.heads_ne nn rne
      obtain ⟨m', rfl⟩ : ∃ m', m = m' + 1 := ⟨m - 1, by omega⟩
      refine ⟨fun σ2 H2 => ∃ m2, m2 < m' + 1 ∧ ∃ (rows : List (List Addr)) (p : Addr) (acc : List Addr) (v3 : Option V) (G : Hp), σ2 = [some (.ref t), some (.ref p), some (.ref pl), v3] ∧ Ex H H2 ∧ H2 pl = some (.lst (refs acc)) ∧ Ex G H2 ∧ G pl = none ∧ Rw K (SqL K) G p rows ∧ Mg.NoNil rows ∧ Mg.Nd rows ∧
        rows.length ≤ 31 ∧ (∀ r, r ∈ rows → r.length ≤ 40) ∧ (∀ x, (∃ r, r ∈ rows ∧ x ∈ r) → ∃ r, r ∈ rows0 ∧ x ∈ r) ∧ (∀ x y, Mg.Before rows x y → Mg.Before rows0 x y) ∧ Mg.Within cs rows ∧ Mg.cnt cs rows < m2 ∧ Mg.merge k rows0 = (Mg.merge m2 rows).map (acc ++ ·) ∧ acc.length + m2 ≤ 1000, fun _ _ z => z, ?_⟩
      have e45 := e4.trans e5
      have ks2 : ∀ {H6 : Hp}, Ex H H6 → Ks (kC K) H6 rows := fun e r hr a ha => by
        obtain ⟨r', hr', ha'⟩ := hin a ⟨r, hr, ha⟩
        exact (ks r' hr' a ha').ex e
      refine q_asg (v := optR (Mg.frees rows).head?) (ev_call (ea_cons (ev_var rfl) ea_nil) fun H6 e6 Q q E => ⟨p, rows, rfl, R.exL ((eG.trans e5).trans e6), nn, ndr2, ks2 (e45.trans e6), fun H7 e7 => q H7 e7⟩) fun H6 e6 => ?_
      have e46 := e45.trans e6
      have eG6 := (eG.trans e5).trans e6
      have h6 := e6 _ _ (e5 _ _ h4)
      refine q_when (et_is (et_isN (ev_var rfl)) (optR_non _)) (fun hb2 H7 e7 => ?_) (fun hb2 H7 e7 => ?_)
      · -- the line stops
        have hf : Mg.frees rows = [] := by
          cases q : Mg.frees rows with
          | nil => rfl
          | cons a l => rw [q] at hb2; cases hb2
        rw [Mg.merge_stuck hne hf] at hm
        have er := err hm
        refine ⟨_, rfl, p, rows, rfl, R.exL (eG6.trans e7), nn, ndr2, ks2 (e46.trans e7), rne, hf, by omega, fun t2 ring H8 ht2 e8 h8 hR hin2 hlr => ?_⟩
        refine ik_then fun d H9 hd e9 h9 => ?_
        exact er d t2 ring H9 (fresh_back ((e46.trans e7).trans e8) hd) (((e46.trans e7).trans e8).trans e9) h9 (e9 _ _ h8) (hR.imp hbf) (fun a ha => hin a (hin2 a ha)) hlr
      · obtain ⟨h, hh⟩ : ∃ h, (Mg.frees rows).head? = some h := by
          cases q : (Mg.frees rows).head? with
          | none => rw [q] at hb2; cases hb2
          | some h => exact ⟨h, rfl⟩
        obtain ⟨tl, htl⟩ : ∃ tl, Mg.frees rows = h :: tl := by
          cases q : Mg.frees rows with
          | nil => rw [q] at hh; cases hh
          | cons a l =>
            rw [q] at hh
            obtain rfl := Option.some.inj hh
            exact ⟨l, rfl⟩
        rw [hh]
        have hcd := Mg.wo_cnt hw2 htl
        refine q_app (e7 _ _ h6) (ev_var rfl) (v := .ref h) (ev_var rfl) (by unfold refs; rw [List.length_map]; omega) fun H8 e8 => ?_
        have hG8 : Ex G (upd H8 pl (.lst (refs acc ++ [.ref h]))) := Ex.mut ((eG6.trans e7).trans e8) hGp
        have hH8 : Ex H (upd H8 pl (.lst (refs acc ++ [.ref h]))) := Ex.mut ((e46.trans e7).trans e8) hplH
        have hha : ∃ r, r ∈ rows ∧ h ∈ r := by
          obtain ⟨t', ht'⟩ := Mg.mem_heads.mp (Mg.frees_head htl).1
          exact ⟨_, ht', List.mem_cons_self ..⟩
        refine ⟨_, rfl, _, rfl, some h, p, rows, rfl, R.exL hG8, ks2 hH8, fun a ha => ?_, by omega, l2, fun p' H9 hp' e9 R9 => ?_⟩
        · obtain rfl := Option.some.inj ha
          obtain ⟨r, hr, hx⟩ := hha
          exact ks2 hH8 r hr _ hx
        refine ⟨m', Nat.lt_succ_self _, Mg.wo (some h) rows, p', acc ++ [h], _, _, rfl, hH8.trans e9, e9 _ _ (by rw [upd_same]; unfold refs; simp), newp_ex, newp_no upd_same, R9, Mg.nonil_full _, Mg.wo_nd ndr2, Nat.le_trans Mg.wo_len l1, Mg.wo_rlen l2, fun x hx => hin x (Mg.wo_in hx), fun x y b => hbf x y (Mg.wo_before ndr2 b), Mg.wo_within hw2, by omega, ?_, by rw [List.length_append]; simp; omega⟩
        rw [hm, Mg.merge_step htl]
        cases Mg.merge m' (Mg.wo (some h) rows) <;> simp
    · have rne : rows = [] := by
        cases rows with
        | nil => rfl
        | cons a l => cases hb
      subst rne
      obtain ⟨m', rfl⟩ : ∃ m', m = m' + 1 := ⟨m - 1, by omega⟩
      rw [Mg.merge_done] at hm
      refine s_ret (ev_var rfl) fun H6 e6 => ?_
      exact fin acc (by rw [hm]; simp) pl H6 hplH ((e4.trans e5).trans e6) (e6 _ _ (e5 _ _ h4))
end
end K28
end

section
set_option Elab.async false
set_option linter.all false
set_option maxRecDepth 100000
set_option maxHeartbeats 4000000
namespace K28
open PySem PySem.Spec PyProof.Rows L2 He Cn Evl
section
variable {P : Program} {w : World} {K : PySem.W.Frag} {mg : Str → Option Value} {base : Heap}
theorem ty_kind (T : Txt K mg) {H : Hp} {a : Addr} (h : KO (kC K) H a) : TyX K H (.ref a) (.ref (kC K)) := by
  obtain ⟨dx, fs, e⟩ := h
  obtain ⟨h1, h2⟩ := He.ba T.ins
  obtain ⟨h2, h3⟩ := He.ba h2
  obtain ⟨h3, h4⟩ := He.ba h3
  exact .base (.ins e T.cls (eqO_ok h1) (eqO_ok h2) (of_decide_eq_true h3) (of_decide_eq_true h4))
theorem ev_isL (T : Txt K mg) {σ : L2.St} {H : Hp} {ta : TE} {a : Addr} (h : Ev ta σ H (.ref a)) (hk : KO (kC K) H a) : Ev (tCB (rIsi K) (tCons ta (tCons (tC (.ref (ga K "Lined"))) tNil))) σ H (.bl true) :=
  ev_cb (ea_cons h (ea_cons ev_c ea_nil)) fun H1 e Q q => ⟨.ref a, .ref (ga K "Lined"), .ref (kC K), .ref (ga K "Lined"), true, rfl, .own _, ty_kind T (hk.ex e), T.isL, q H1 (Ex.refl H1)⟩
def S0 (K : PySem.W.Frag) : List V → Hp → VK → Prop := fun vs H Q => ∃ (a : Addr) (bs : List Bool), vs = [V.ref a] ∧ SqL K H a (bs.map V.bl) ∧ Q (.bl (bs.any id)) H
theorem ev_any {σ : L2.St} {H : Hp} {tl : TE} {bs : List Bool} (h : EvL tl σ H (bs.map V.bl)) : Ev (tCB (rAny K) (tCons tl tNil)) σ H (.bl (bs.any id)) := fun H1 e Q q =>
  h H1 e _ fun p H2 _ e2 h2 => ⟨p, bs, rfl, sq_of h2, q H2 e2⟩
theorem Rw.imp {S S' : Hp → Addr → List V → Prop} {H H' : Hp} {p : Addr} {rows : List (List Addr)} (R : Rw K S H p rows) (h : ∀ q xs, S H q xs → S' H' q xs) (e : Ex H H') : Rw K S' H' p rows := by
  obtain ⟨ps, h1, h2, h3⟩ := R
  exact ⟨ps, ex_l e h1, h2, fun i q r a b => h q _ (h3 i q r a b)⟩
theorem ev_tix {σ : L2.St} {H : Hp} {to ta : TE} {q a : Addr} {r : List Addr} (ho : Ev to σ H (.ref q)) (ha : Ev ta σ H (.ref a)) (hS : SqD K H q (refs r)) (hk : KO (kC K) H a) (hr : ∀ b, b ∈ r → KO (kC K) H b) (hm : a ∈ r) : Ev (tBMD K (rIndexI (kC K) (SqT K)) to (tCons ta tNil)) σ H (.int ((r.idxOf a : Nat) : Int)) := fun H1 e Q k =>
  ho H1 e _ fun H2 e2 => ⟨⟨q, _, rfl, hS.ex (e.trans e2)⟩, ha H2 (e.trans e2) _ fun H3 e3 => ⟨q, .ref a, refs r, rfl, rfl, ex_t ((e.trans e2).trans e3) hS.1, (hk.ex ((e.trans e2).trans e3)).id, ids fun b hb => (hr b hb).ex ((e.trans e2).trans e3), mem_refs.mpr hm, by
    rw [idx_refs]
    exact k H3 (e2.trans e3)⟩⟩
theorem can_rowsOfD (T : Txt K mg) : Can P w K mg base CX0 1 "_rows_of" ["above"] (spRowsOf K (SqD K)) := can_rowsOf (fun _ _ _ h => h) (fun _ _ _ _ e h => h.ex e) T
end
end K28
end

section
set_option Elab.async false
set_option linter.all false
set_option maxRecDepth 100000
set_option maxHeartbeats 4000000
namespace K28
open PySem PySem.Spec PyProof.Rows L2 He Cn Evl
def gNo : TG := fun _ _ _ _ => False
theorem pg_no {X : Cx} {e : Expr} : PG X e gNo := ⟨fun _ _ _ _ _ _ _ _ _ h => h.elim⟩
section
variable {P : Program} {w : World} {K : PySem.W.Frag} {mg : Str → Option Value} {base : Heap}
theorem ty_tup {H : Hp} {a : Addr} {xs : List V} (h : SqT K H a xs) : TyX K H (.ref a) (.type "tuple") := by
  rcases h with h | ⟨o, its, n, h1, h2, _⟩
  · rcases h with h | ⟨o, h⟩
    · exact .base (.tup h)
    · exact .fTuple h
  · exact .kTuple h1 h2
theorem ev_isT {σ : L2.St} {H : Hp} {ta : TE} {a : Addr} {xs : List V} (h : Ev ta σ H (.ref a)) (hk : SqT K H a xs) : Ev (tCB (rIsi K) (tCons ta (tCons (tC (.ty "tuple")) tNil))) σ H (.bl true) :=
  ev_cb (ea_cons h (ea_cons ev_c ea_nil)) fun H1 e Q q => ⟨.ref a, .ty "tuple", .type "tuple", .type "tuple", true, rfl, .ty _, ty_tup (ex_t e hk), kit_ty (by decide +kernel), q H1 (Ex.refl H1)⟩
/-- no turn at all -/
theorem for_none {K : PySem.W.Frag} {a : Addr} {g : TG} {tb : TS} {D : Ends} {σ : L2.St} {H : Hp} (h : SqT K H a []) (hd : D.nx σ H) :
    ∃ W : Nat → Nat → L2.St → Hp → Prop, (∃ m, W 0 m σ H) ∧ ∀ i m σ H, W i m σ H →
      ((Itt K a).stop i H ∧ D.nx σ H) ∨ ((Itt K a).go i H ∧ ∃ N : L2.St → Hp → Prop, (∀ σ' H', N σ' H' → ∃ m', m' < m ∧ W (i + 1) m' σ' H') ∧ ∀ x H', (Itt K a).yld i H x H' → g x σ H' fun σ2 H2 => tb { D with nx := N, ct := N, bk := D.nx } σ2 H2) :=
  for_tup (fun _ σ' H' => σ' = σ ∧ H' = H) ⟨rfl, rfl⟩ (fun i σ' H' _ ⟨_, e⟩ => by rw [e]; exact h) (fun i x σ' H' hx _ => by simp at hx) (fun σ' H' ⟨e1, e2⟩ => by rw [e1, e2]; exact hd)
/-! ### the checks of a declaration -/
def spChkMembers (K : PySem.W.Frag) : Sp := fun vs H Q _ => ∃ m : Addr, vs = [.ref m] ∧ SqT K H m [] ∧ ∀ H', Ex H H' → Q .non H'
theorem can_chkMembers (T : Txt K mg) : Can P w K mg base CX0 1 "check_members" ["members"] (spChkMembers K) := by
  refine can_of T.g_check_members T.F_check_members (fun fd F => ?_) (fun _ _ _ _ _ _ us hl => match us, hl with | [_], _ => rfl)
  refine F.ok sc_check_members (fun vs H Q E h => ?_) (fun cdv A outer s H vs Q E hr h => ?_)
  · obtain ⟨m, rfl, _⟩ := h
    rfl
  · obtain ⟨m, rfl, hm, fin⟩ := h
    have nd := sc_check_members.nd
    refine ⟨_, pss_cons (ps_if (pt_not (pt_val (pe_callB call_isi (by rfl) T.n_isinstance (by decide +kernel) (pa_cons (pv 0) (pa_cons (pe_bltn rfl T.n_tuple (v := .ty "tuple") (by decide +kernel) rfl) pa_nil))))) (pss_one ps_never) pss_nil)
      (pss_cons (ps_set (i := 1) nd rfl (.inl rfl) (pe_lst pa_nil))
      (pss_one (ps_for PassesOwn.never rfl (pi_enumT (by rfl) T.n_enumerate (pa_cons (pv 0) pa_nil)) pg_no (pss_cons ps_never (pss_cons ps_never (pss_one ps_never)))))), ?_⟩
    refine q_when (et_not (a := true) (et_B (ev_isT (ev_var rfl) hm))) (fun h => by cases h) fun _ H1 e1 => ?_
    refine q_asgL (el_lst ea_nil (by decide)) fun p H2 hp e2 h2 => ?_
    refine ⟨_, rfl, m, [], rfl, ex_t (e1.trans e2) hm, for_it walk_enumT (fun _ σ' H' => Ex H H' ∧ SqT K H' m []) ⟨e1.trans e2, ex_t (e1.trans e2) hm⟩ (fun i σ' H' _ q => q.2) (fun i x σ' H' H'' hi _ _ => absurd hi (Nat.not_lt_zero _)) (fun σ' H' q => fin H' q.1)⟩
def spChkOptions : Sp := fun vs H Q _ => ∃ d : Addr, vs = [.ref d] ∧ H d = some (.dK []) ∧ ∀ H', Ex H H' → Q .non H'
theorem can_chkOptions (T : Txt K mg) : Can P w K mg base CX0 1 "check_options" ["options"] spChkOptions := by
  refine can_of T.g_check_options T.F_check_options (fun fd F => ?_) (fun _ _ _ _ _ _ us hl => match us, hl with | [_], _ => rfl)
  refine F.ok sc_check_options (fun vs H Q E h => ?_) (fun cdv A outer s H vs Q E hr h => ?_)
  · obtain ⟨m, rfl, _⟩ := h
    rfl
  · obtain ⟨d, rfl, hd, fin⟩ := h
    have nd := sc_check_options.nd
    refine ⟨_, pss_one (ps_lock (ps_for PassesOwn.never rfl (pi_keys (pv 0)) pg_no (pss_cons ps_never (pss_one ps_never)))), ?_⟩
    refine ⟨d, _, hd, trivial, fun od => ?_⟩
    refine ⟨_, rfl, d, od, rfl, .inl ⟨[], upd_same, for_it walk_keys (fun _ σ' H' => H' = upd H d (.frz od (.dK []))) rfl (fun i σ' H' _ q => by rw [q]; exact upd_same) (fun i x σ' H' H'' hi _ _ => absurd hi (Nat.not_lt_zero _)) (fun σ' H' q => ?_)⟩⟩
    subst q
    refine ⟨upd_same, fin _ fun b o e => ?_⟩
    by_cases hb : b = d
    · subst hb
      rw [hd] at e
      rw [upd_same]
      exact e
    · rw [upd_ne hb, upd_ne hb]
      exact e
def spChkAbove (K : PySem.W.Frag) : Sp := fun vs H Q _ => ∃ (t : Addr) (tops : List Addr), vs = [.ref t] ∧ SqT K H t (refs tops) ∧ tops.Nodup ∧ (∀ a, a ∈ tops → KO (kC K) H a) ∧ tops.length ≤ 40 ∧ ∀ H', Ex H H' → Q .non H'
theorem can_chkAbove (T : Txt K mg) : Can P w K mg base CX0 1 "check_above" ["above"] (spChkAbove K) := by
  refine can_of T.g_check_above T.F_check_above (fun fd F => ?_) (fun _ _ _ _ _ _ us hl => match us, hl with | [_], _ => rfl)
  refine F.ok sc_check_above (fun vs H Q E h => ?_) (fun cdv A outer s H vs Q E hr h => ?_)
  · obtain ⟨m, tops, rfl, _⟩ := h
    rfl
  · obtain ⟨t, tops, rfl, ht, ndt, hk, hz, fin⟩ := h
    have nd := sc_check_above.nd
    refine ⟨_, pss_cons (ps_if (pt_not (pt_val (pe_callB call_isi (by rfl) T.n_isinstance (by decide +kernel) (pa_cons (pv 0) (pa_cons (pe_bltn rfl T.n_tuple (v := .ty "tuple") (by decide +kernel) rfl) pa_nil))))) (pss_one ps_never) pss_nil)
      (pss_cons (ps_set (i := 1) nd rfl (.inl rfl) (pe_lst pa_nil))
      (pss_one (ps_for PassesOwn.never rfl (pi_enumT (by rfl) T.n_enumerate (pa_cons (pv 0) pa_nil)) (pg_tup rfl (pgs_cons (pg_name (i := 2) nd rfl (.inl rfl)) (pgs_cons (pg_name (i := 3) nd rfl (.inl rfl)) pgs_nil)))
        (pss_cons (ps_if (PW.pt (pw_or (pt_not (pt_val (pe_callB call_isi (by rfl) T.n_isinstance (by decide +kernel) (pa_cons (pv 3) (pa_cons (pe_glob rfl T.g_Lined (v := .ref (ga K "Lined")) rfl) pa_nil))))) (pw_or1 (pt_cmpR (op_in_id hr T.idc) (pv 3) (pv 1) rfl)))) (pss_one ps_never) pss_nil)
        (pss_one (ps_expr (pe_bm PySem.F.plainAttrs_list PySem.F.slot_list_append PySem.F.type_list_append mt_append (pv 1) (pa_cons (pv 3) pa_nil)))))))), ?_⟩
    refine q_when (et_not (a := true) (et_B (ev_isT (ev_var rfl) ht))) (fun h => by cases h) fun _ H1 e1 => ?_
    refine q_asgL (el_lst ea_nil (by decide)) fun p H2 hp e2 h2 => ?_
    have hpH : H p = none := fresh_back e1 hp
    have lr : (refs tops).length = tops.length := by unfold refs; rw [List.length_map]
    refine ⟨_, rfl, t, refs tops, rfl, ex_t (e1.trans e2) ht, for_it walk_enumT (fun i σ' H' => ∃ v2 v3, σ' = [some (.ref t), some (.ref p), v2, v3] ∧ Ex H H' ∧ H' p = some (.lst (refs (tops.take i)))) ⟨_, _, rfl, e1.trans e2, h2⟩ (fun i σ' H' _ ⟨_, _, _, q, _⟩ => ex_t q ht) ?_ (fun σ' H' ⟨_, _, _, q, _⟩ => fin H' q)⟩
    rintro i x σ' H3 H4 hi ⟨v2, v3, rfl, e3, h3⟩ ⟨Tp, y, z, rfl, hT, rfl, hy, hz2⟩
    obtain rfl := Option.some.inj hy
    obtain ⟨a, ha, rfl⟩ := refs_at hz2
    have hpT : p ≠ Tp := ne_of_none h3 hT
    have e4 : Ex H (upd H3 Tp (.tup [.int (i : Nat), .ref a])) := e3.trans (Ex.new hT)
    have h4 : upd H3 Tp (.tup [.int (i : Nat), .ref a]) p = some (.lst (refs (tops.take i))) := by rw [upd_ne hpT]; exact h3
    have ham := List.mem_of_getElem? ha
    have hia := (List.getElem?_eq_some_iff.mp ha).1
    have hna : a ∉ tops.take i := fun q => by
      obtain ⟨j, hj⟩ := List.mem_iff_getElem?.mp q
      have hji : j < i := by
        have := (List.getElem?_eq_some_iff.mp hj).1
        rw [List.length_take] at this
        omega
      rw [List.getElem?_take_of_lt hji] at hj
      have hjl := (List.getElem?_eq_some_iff.mp hj).1
      have := nd_ix ndt hj ha
      omega
    refine ⟨Tp, _, rfl, st_of upd_same, rfl, _, _, rfl, _, _, rfl, rfl, ?_⟩
    refine q_when (b := false) (et_is (et_or (et_not (a := true) (et_B (ev_isL T (ev_var rfl) ((hk a ham).ex e4)))) fun _ => et_test (ev_op (ev_var rfl) (ev_var rfl) (rv_in_id (neg := false) (.inl (sq_of h4)) ((hk a ham).ex e4) fun b hb => (hk b (List.mem_of_mem_take hb)).ex e4))) (by simp [hna])) (fun h => by cases h) fun _ H5 e5 => ?_
    refine s_app (e5 _ _ h4) (ev_var rfl) (ev_var rfl) (by unfold refs; rw [List.length_map, List.length_take]; omega) fun H6 e6 => ?_
    refine ⟨_, _, rfl, Ex.mut ((e4.trans e5).trans e6) hpH, ?_⟩
    rw [upd_same, List.take_add_one, ha]
    unfold refs
    simp
/-- a kind without members of its own, not frozen -/
def Plain (K : PySem.W.Frag) (H : Hp) (a : Addr) : Prop := ∃ (dx m : Addr) (fs : List (Str × V)), H a = some (.ins (kC K) dx fs) ∧ fs.lookup ("own_members" : Str) = some (.ref m) ∧ SqT K H m [] ∧ fs.lookup ("frozen" : Str) = some (.bl false)
theorem Plain.ex {H H' : Hp} {a : Addr} (e : Ex H H') (h : Plain K H a) : Plain K H' a := by
  obtain ⟨dx, m, fs, h1, h2, h3, h4⟩ := h
  exact ⟨dx, m, fs, e _ _ h1, h2, ex_t e h3, h4⟩
theorem KdAt.plain {H : Hp} {a : Addr} {l : List Addr} (h : KdAt K H a l) : Plain K H a := by
  obtain ⟨dx, q, m, fs, h1, h2, h3, h4, h5, h6⟩ := h
  exact ⟨dx, m, fs, h1, h4, h5, h6⟩
theorem rev_refs (l : List Addr) : (refs l).reverse = refs l.reverse := by
  unfold refs
  rw [List.map_reverse]
/-- for member in kind.own_members: .. (there is none) -/
theorem s_noMembers (T : Txt K mg) {σ : L2.St} {H : Hp} {te : TE} {a : Addr} {g : TG} {tb : TS} {D : Ends} (h : Ev te σ H (.ref a)) (hp : Plain K H a) (k : ∀ H1, Ex H H1 → D.nx σ H1) : tFor (iTup K (tFld K te "own_members")) g tb D σ H := by
  obtain ⟨dx, m, fs, h1, h2, h3, h4⟩ := hp
  refine ev_fld h h1 T.cls T.a_own_members h2 H (Ex.refl H) _ fun H1 e1 => ⟨m, rfl, ⟨[], ex_t e1 h3⟩, for_none (ex_t e1 h3) (k H1 e1)⟩
def spMixture (K : PySem.W.Frag) : Sp := fun vs H Q _ => ∃ (l : Addr) (line : List Addr), vs = [.ref l] ∧ SqT K H l (refs line) ∧ (∀ a, a ∈ line → Plain K H a) ∧ line.length ≤ 100 ∧ ∀ H', Ex H H' → Q .non H'
theorem can_mixture (T : Txt K mg) : Can P w K mg base CX0 1 "check_mixture" ["line"] (spMixture K) := by
  refine can_of T.g_check_mixture T.F_check_mixture (fun fd F => ?_) (fun _ _ _ _ _ _ us hl => match us, hl with | [_], _ => rfl)
  refine F.ok sc_check_mixture (fun vs H Q E h => ?_) (fun cdv A outer s H vs Q E hr h => ?_)
  · obtain ⟨m, tops, rfl, _⟩ := h
    rfl
  · obtain ⟨l, line, rfl, hl, hpl, hz, fin⟩ := h
    have nd := sc_check_mixture.nd
    refine ⟨_, pss_cons (ps_set (i := 1) nd rfl (.inl rfl) pe_dnewK)
      (pss_one (ps_for PassesOwn.never rfl (pi_tup (pe_revT (pv 0))) (pg_name (i := 2) nd rfl (.inl rfl)) (pss_one (ps_for PassesOwn.never rfl (pi_tup (pe_fld (pv 2) rfl)) pg_no (pss_one ps_never))))), ?_⟩
    intro d hd
    have e1 : Ex H (upd H d (.dK [])) := Ex.new hd
    refine ⟨_, rfl, l, refs line, rfl, ex_t e1 hl, fun pr hpr => ?_⟩
    have e2 : Ex H (upd (upd H d (.dK [])) pr (.tup (refs line).reverse)) := e1.trans (Ex.new hpr)
    refine ⟨pr, rfl, ⟨_, st_of upd_same⟩, for_tup (xs := (refs line).reverse) (fun i σ' H' => ∃ v, σ' = [some (.ref l), some (.ref d), v, none] ∧ Ex (upd (upd H d (.dK [])) pr (.tup (refs line).reverse)) H') ⟨_, rfl, Ex.refl _⟩ (fun i σ' H' _ ⟨_, _, e⟩ => st_of (e _ _ upd_same)) ?_ (fun σ' H' ⟨_, _, e⟩ => fin H' (e2.trans e))⟩
    rintro i x σ' H' hx ⟨v, rfl, e⟩
    rw [rev_refs] at hx
    obtain ⟨a, ha, rfl⟩ := refs_at hx
    exact s_noMembers T (ev_var rfl) ((hpl a (List.mem_reverse.mp (List.mem_of_getElem? ha))).ex (e2.trans e)) fun H1 e1 => ⟨_, rfl, e.trans e1⟩
def spWholeMembers (K : PySem.W.Frag) : Sp := fun vs H Q _ => ∃ (l : Addr) (line : List Addr), vs = [.ref l] ∧ SqT K H l (refs line) ∧ (∀ a, a ∈ line → Plain K H a) ∧ line.length ≤ 100 ∧ ∀ p H', H p = none → Ex H H' → H' p = some (.lst []) → Q (.ref p) H'
theorem can_wholeMembers (T : Txt K mg) : Can P w K mg base CX0 1 "whole_members" ["line"] (spWholeMembers K) := by
  refine can_of T.g_whole_members T.F_whole_members (fun fd F => ?_) (fun _ _ _ _ _ _ us hl => match us, hl with | [_], _ => rfl)
  refine F.ok sc_whole_members (fun vs H Q E h => ?_) (fun cdv A outer s H vs Q E hr h => ?_)
  · obtain ⟨m, tops, rfl, _⟩ := h
    rfl
  · obtain ⟨l, line, rfl, hl, hpl, hz, fin⟩ := h
    have nd := sc_whole_members.nd
    refine ⟨_, pss_cons (ps_set (i := 1) nd rfl (.inl rfl) pe_dnewK)
      (pss_cons (ps_for PassesOwn.never rfl (pi_tup (pe_revT (pv 0))) (pg_name (i := 2) nd rfl (.inl rfl)) (pss_one (ps_for PassesOwn.never rfl (pi_tup (pe_fld (pv 2) rfl)) pg_no (pss_one ps_never))))
      (pss_one (ps_ret (pe_listVals rfl (pv 1) rfl T.n_list (by decide +kernel))))), ?_⟩
    intro d hd
    have e1 : Ex H (upd H d (.dK [])) := Ex.new hd
    refine ⟨_, rfl, l, refs line, rfl, ex_t e1 hl, fun pr hpr => ?_⟩
    have e2 : Ex H (upd (upd H d (.dK [])) pr (.tup (refs line).reverse)) := e1.trans (Ex.new hpr)
    refine ⟨pr, rfl, ⟨_, st_of upd_same⟩, for_tup (xs := (refs line).reverse) (fun i σ' H' => ∃ v, σ' = [some (.ref l), some (.ref d), v, none] ∧ Ex (upd (upd H d (.dK [])) pr (.tup (refs line).reverse)) H') ⟨_, rfl, Ex.refl _⟩ (fun i σ' H' _ ⟨_, _, e⟩ => st_of (e _ _ upd_same)) ?_ (fun σ' H' ⟨v, es, e⟩ => ?_)⟩
    · rintro i x σ' H' hx ⟨v, rfl, e⟩
      rw [rev_refs] at hx
      obtain ⟨a, ha, rfl⟩ := refs_at hx
      exact s_noMembers T (ev_var rfl) ((hpl a (List.mem_reverse.mp (List.mem_of_getElem? ha))).ex (e2.trans e)) fun H1 e1 => ⟨_, rfl, e.trans e1⟩
    · subst es
      have hdp : d ≠ pr := fun q => by
        rw [← q, upd_same] at hpr
        cases hpr
      refine ⟨_, rfl, d, [], rfl, e _ _ (by rw [upd_ne hdp]; exact upd_same), fun p hp => ?_⟩
      exact fin p _ (fresh_back (e2.trans e) hp) ((e2.trans e).trans (Ex.new hp)) upd_same
def spFrozen (K : PySem.W.Frag) : Sp := fun vs H Q _ => ∃ (l a0 : Addr) (line : List Addr), vs = [.ref l] ∧ SqT K H l (refs (a0 :: line)) ∧ (∀ a, a ∈ a0 :: line → Plain K H a) ∧ line.length ≤ 100 ∧ ∀ H', Ex H H' → Q .non H'
theorem can_frozen (T : Txt K mg) : Can P w K mg base CX0 1 "check_frozen" ["line"] (spFrozen K) := by
  refine can_of T.g_check_frozen T.F_check_frozen (fun fd F => ?_) (fun _ _ _ _ _ _ us hl => match us, hl with | [_], _ => rfl)
  refine F.ok sc_check_frozen (fun vs H Q E h => ?_) (fun cdv A outer s H vs Q E hr h => ?_)
  · obtain ⟨m, a0, tops, rfl, _⟩ := h
    rfl
  · obtain ⟨l, a0, line, rfl, hl, hpl, hz, fin⟩ := h
    have nd := sc_check_frozen.nd
    refine ⟨_, pss_one (ps_for PassesOwn.never rfl (pi_tup (pe_slice sl_tup (pv 0) (po_some pe_int) po_none)) (pg_name (i := 1) nd rfl (.inl rfl))
        (pss_one (ps_if (PW.pt (pw_and (pt_cmpR op_ne (pe_fld (pv 1) rfl) (pe_fld (pe_ix ix_tup (pv 0) pe_int (fun _ _ => rfl)) rfl) (nomark _)) (pw_and1 pt_never))) (pss_one ps_never) pss_nil))), ?_⟩
    have fz : ∀ {σ : L2.St} {H1 : Hp} {te : TE} {a : Addr}, Ex H H1 → a ∈ a0 :: line → Ev te σ H1 (.ref a) → Ev (tFld K te "frozen") σ H1 (.bl false) := fun e ha h => by
      obtain ⟨dx, m, fs, h1, h2, h3, h4⟩ := hpl _ ha
      exact ev_fld h (e _ _ h1) T.cls T.a_frozen h4
    have lr : (refs (a0 :: line)).length = line.length + 1 := by unfold refs; rw [List.length_map, List.length_cons]
    refine ⟨_, rfl, 1, rfl, l, refs (a0 :: line), rfl, hl, ?_, fun pr hpr => ?_⟩
    · rw [lr]
      rintro ⟨h1, h2⟩
      have : HT.sIx (line.length + 1) 0 (some ((1 : Nat) : Int)) = min 1 (line.length + 1) := HT.sIx_nat _ _ _
      rw [show (some (1 : Int)) = some ((1 : Nat) : Int) from rfl, this] at h1
      omega
    have ec : cutV (refs (a0 :: line)) (some 1) none = refs line := by
      rw [show (some (1 : Int)) = some ((1 : Nat) : Int) from rfl, cut_drop (by omega)]
      rfl
    rw [ec]
    have e2 : Ex H (upd H pr (.tup (refs line))) := Ex.new hpr
    refine ⟨pr, rfl, ⟨_, st_of upd_same⟩, for_tup (xs := refs line) (fun i σ' H' => ∃ v, σ' = [some (.ref l), v] ∧ Ex (upd H pr (.tup (refs line))) H') ⟨_, rfl, Ex.refl _⟩ (fun i σ' H' _ ⟨_, _, e⟩ => st_of (e _ _ upd_same)) ?_ (fun σ' H' ⟨_, _, e⟩ => fin H' (e2.trans e))⟩
    rintro i x σ' H' hx ⟨v, rfl, e⟩
    obtain ⟨a, ha, rfl⟩ := refs_at hx
    refine s_when (b := false) (et_is (et_and (a := false) (b := false) (et_test (ev_is (ev_op (fz (e2.trans e) (List.mem_cons_of_mem _ (List.mem_of_getElem? ha)) (ev_var rfl)) (fz (e2.trans e) (List.mem_cons_self ..) (ev_op (ev_var rfl) ev_c (rv_ixT (ex_t (e2.trans e) hl) (at_of (j := 0) rfl rfl)))) (rv_ne rfl)) (by simp))) (fun h => by cases h)) rfl) (fun h => by cases h) fun _ H5 e5 => ⟨_, rfl, e.trans e5⟩
def spDefaults (K : PySem.W.Frag) : Sp := fun vs H Q _ => ∃ l : Addr, vs = [.ref l] ∧ SqL K H l [] ∧ ∀ H', Ex H H' → Q .non H'
theorem can_defaults (T : Txt K mg) : Can P w K mg base CX0 1 "check_defaults" ["members"] (spDefaults K) := by
  refine can_of T.g_check_defaults T.F_check_defaults (fun fd F => ?_) (fun _ _ _ _ _ _ us hl => match us, hl with | [_], _ => rfl)
  refine F.ok sc_check_defaults (fun vs H Q E h => ?_) (fun cdv A outer s H vs Q E hr h => ?_)
  · obtain ⟨m, rfl, _⟩ := h
    rfl
  · obtain ⟨l, rfl, hl, fin⟩ := h
    have nd := sc_check_defaults.nd
    refine ⟨_, pss_cons (ps_set (i := 1) nd rfl (.inl rfl) pe_bl) (pss_one (ps_for PassesOwn.never rfl (pi_list (pv 0)) pg_no (pss_one ps_never))), ?_⟩
    exact ⟨_, rfl, l, rfl, ⟨_, hl⟩, for_list (xs := []) (fun _ σ' H' => H' = H) rfl (fun i σ' H' _ q => by rw [q]; exact hl) (fun i x σ' H' hx _ => by simp at hx) (fun σ' H' q => by rw [q]; exact fin H (Ex.refl H))⟩
end
end K28
end

section
set_option Elab.async false
set_option linter.all false
set_option maxRecDepth 100000
set_option maxHeartbeats 4000000
namespace K28
open PySem PySem.Spec PyProof.Rows L2 He Cn Evl
section
variable {P : Program} {w : World} {K : PySem.W.Frag} {mg : Str → Option Value} {base : Heap}
/-- a name that a kind may have -/
def goodName (z : Str) : Bool := (z.cps.toList.all fun c => decide (c ∈ nameSigns.cps.toList)) && (decide (z.cps.toList.length ≤ 40) && ((match z.cps.toList with
  | [] => false
  | c :: _ => !decide (c ∈ digitSigns.cps.toList)) && !inV (.str z) (barred.map V.str)))
theorem flat_barred : (barred.map V.str).all flatV = true := by decide +kernel
def spIsName : Sp := fun vs H Q _ => ∃ z : Str, vs = [.str z] ∧ goodName z = true ∧ ∀ H', Ex H H' → Q (.bl true) H'
theorem can_isName (T : Txt K mg) : Can P w K mg base CX0 1 "is_name" ["value"] spIsName := by
  refine can_of T.g_is_name T.F_is_name (fun fd F => ?_) (fun _ _ _ _ _ _ us hl => match us, hl with | [_], _ => rfl)
  refine F.ok sc_is_name (fun vs H Q E h => ?_) (fun cdv A outer s H vs Q E hr h => ?_)
  · obtain ⟨z, rfl, _⟩ := h
    rfl
  · obtain ⟨z, rfl, hz, fin⟩ := h
    have nd := sc_is_name.nd
    obtain ⟨t1, hmax⟩ := T.maxLen
    obtain ⟨t2, hdig⟩ := T.digits
    obtain ⟨t3, hsig⟩ := T.signs
    refine ⟨_, pss_cons (ps_if (PW.pt (pw_or (pt_not (pt_val (pe_callB call_isi (by rfl) T.n_isinstance (by decide +kernel) (pa_cons (pv 0) (pa_cons (pe_bltn rfl T.n_str (v := .ty "str") (by decide +kernel) rfl) pa_nil))))) (pw_or (pt_cmpR op_eq (pv 0) pe_str (nomark _)) (pw_or1 (pt_cmpR op_gt (pe_callB call_len_str (by rfl) T.n_len PySem.boot_len (pa_cons (pv 0) pa_nil)) (pe_glob rfl hmax (v := .int 40) ⟨_, rfl⟩) (nomark _)))))) (pss_one (ps_ret pe_bl)) pss_nil)
      (pss_cons (ps_for PassesOwn.never rfl (pi_str (pv 0)) (pg_name (i := 1) nd rfl (.inl rfl)) (pss_one (ps_if (pt_cmpR op_notIn_sign (pv 1) (pe_glob rfl hsig (v := .str nameSigns) ⟨_, rfl⟩) rfl) (pss_one (ps_ret pe_bl)) pss_nil)))
      (pss_one (ps_ret (pe_and (pe_cmpR op_notIn_sign (pe_ix ix_str (pv 0) pe_int (fun _ _ => rfl)) (pe_glob rfl hdig (v := .str digitSigns) ⟨_, rfl⟩) rfl) (pe_one (pe_cmpR op_notIn_seq (pv 0) (pe_glob rfl T.g_BARRED_WORDS (v := .ref (ga K "BARRED_WORDS")) rfl) rfl)))))), ?_⟩
    obtain ⟨z1, z2⟩ := He.ba hz
    obtain ⟨z2, z3⟩ := He.ba z2
    obtain ⟨z3, z4⟩ := He.ba z3
    have z2 : z.cps.toList.length ≤ 40 := of_decide_eq_true z2
    have hne : ¬ z = "" := fun q => by
      subst q
      cases z3
    have hlen : z.length = z.cps.toList.length := (Array.length_toList).symm
    refine q_when (b := false) (et_is (et_or (a := false) (b := false) (et_not (a := true) (et_B (ev_cb (ea_cons (ev_var rfl) (ea_cons ev_c ea_nil)) fun H1 e Q q => ⟨.str z, .ty "str", .type "str", .type "str", true, rfl, .ty _, .base (.str z), kit_ty (by decide +kernel), q H1 (Ex.refl H1)⟩)))
      (fun _ => et_or (a := false) (b := false) (et_is (et_test (ev_op (ev_var rfl) ev_c (rv_eq rfl))) (by simp [hne])) (fun _ => et_is (et_test (ev_op (ev_cb (z := .int (z.length : Int)) (ea_cons (ev_var rfl) ea_nil) fun H1 e Q q => ⟨z, rfl, sz_of (by omega), q H1 (Ex.refl H1)⟩) ev_c rv_I0)) (by simp; omega)))) rfl) (fun h => by cases h) fun _ H1 e1 => ?_
    have hsize : z.cps.size = z.cps.toList.length := (Array.length_toList).symm
    refine ⟨_, rfl, z, rfl, for_it walk_str (fun i σ' H' => (∃ v, σ' = [some (.str z), v]) ∧ Ex H H') ⟨⟨_, rfl⟩, e1⟩ (fun _ _ _ _ _ => trivial) ?_ ?_⟩
    · rintro i x σ' H' H'' hi ⟨⟨v, rfl⟩, e⟩ ⟨rfl, c, hc, rfl⟩
      have hcm : c ∈ z.cps.toList := by
        rw [← Array.getElem?_toList] at hc
        exact List.mem_of_getElem? hc
      have hcs : c ∈ nameSigns.cps.toList := of_decide_eq_true (List.all_eq_true.mp z1 c hcm)
      refine s_when (b := false) (et_is (et_test (ev_op (z := .bl (!decide (c ∈ nameSigns.cps.toList))) (ev_var rfl) ev_c fun H1 e Q q => ⟨c, nameSigns, rfl, rfl, q H1 (Ex.refl H1)⟩)) (by simp [hcs])) (fun h => by cases h) fun _ H5 e5 => ⟨⟨_, rfl⟩, e.trans e5⟩
    · rintro σ' H' ⟨⟨v, rfl⟩, e⟩
      cases hcz : z.cps.toList with
      | nil => rw [hcz] at z3; cases z3
      | cons c r =>
        rw [hcz] at z3
        have hcd : ¬ c ∈ digitSigns.cps.toList := by simpa using z3
        have z4 : inV (.str z) (barred.map V.str) = false := by simpa using z4
        have hat : atI z.cps.toList 0 = some c := by
          rw [hcz]
          simp [atI, ixN]
        dsimp only
        refine s_ret (v := .bl true) ?_ fun H5 e5 => fin H5 (e.trans e5)
        refine ev_is (ev_andV (a := true) (b := true) ?_ fun _ => ?_) rfl
        · refine ev_is (ev_op (x := .str ⟨#[c]⟩) (y := .str digitSigns) (z := .bl (!decide (c ∈ digitSigns.cps.toList))) ?_ ev_c fun H1 e Q q => ⟨c, digitSigns, rfl, rfl, q H1 (Ex.refl H1)⟩) (by simp [hcd])
          exact ev_op (x := .str z) (y := .int 0) (z := .str ⟨#[c]⟩) (ev_var rfl) ev_c (rv_ixS (w := z) (c := c) (by omega) hat)
        · exact ev_is (ev_op (x := .str z) (y := .ref (ga K "BARRED_WORDS")) (ev_var rfl) ev_c (rv_niT (T.barred H') rfl flat_barred)) (by rw [z4] <;> rfl)
theorem good_New : goodName "New" = true := by decide +kernel
end
end K28
end

section
set_option Elab.async false
set_option linter.all false
set_option maxRecDepth 100000
set_option maxHeartbeats 4000000
namespace K28
open PySem PySem.Spec PyProof.Rows L2 He Cn Evl
theorem lkNe {f g : Str} {v : V} {fs : List (Str × V)} (h : g ≠ f) : (putF f v fs).lookup g = fs.lookup g := by
  rw [lookup_putF, if_neg h]
theorem lkEq {f : Str} {v : V} {fs : List (Str × V)} : (putF f v fs).lookup f = some v := by
  rw [lookup_putF, if_pos rfl]
def tNoT : TT := fun _ _ _ => False
theorem pt_no {X : Cx} {e : Expr} : PT X e tNoT := ⟨fun _ _ _ _ _ _ h => h.elim⟩
/-- a new object -/
def EvN (te : TE) (σ : L2.St) (H : Hp) (o : HO) : Prop := ∀ H1, Ex H H1 → ∀ Q : VK, (∀ p H2, H1 p = none → Ex H1 H2 → H2 p = some o → Q (.ref p) H2) → te σ H1 Q
section
variable {K : PySem.W.Frag}
theorem q_putN {te to : TE} {σ : L2.St} {H : Hp} {a C dx : Addr} {fs : List (Str × V)} {f : Str} {o : HO} {tz : TS} {D : Ends} (h : EvN te σ H o) (ho : ∀ H1, Ex H H1 → Ev to σ H1 (.ref a)) (ha : H a = some (.ins C dx fs)) (c : Cls K C) (n : NoAttr K C f) (hl : fs.length < 1000)
    (k : ∀ p H', H p = none → H' a = some (.ins C dx (putF f (.ref p) fs)) → H' p = some o → (∀ b u, H b = some u → b ≠ a → H' b = some u) → tz D σ H') : tSeq (sFld K to te f) tz D σ H := by
  refine h H (Ex.refl H) _ fun p H1 hp e1 h1 => ho H1 e1 H1 (Ex.refl H1) _ fun H2 e2 => ⟨a, C, dx, fs, rfl, (e1.trans e2) _ _ ha, c, n, hl, ?_⟩
  have hne : p ≠ a := (ne_of_none ha hp).symm
  exact k p _ hp upd_same (by rw [upd_ne hne]; exact e2 _ _ h1) fun b u hb hba => by rw [upd_ne hba]; exact (e1.trans e2) _ _ hb
theorem q_putV {te to : TE} {σ : L2.St} {H : Hp} {a C dx : Addr} {fs : List (Str × V)} {f : Str} {v : V} {tz : TS} {D : Ends} (h : Ev te σ H v) (ho : ∀ H1, Ex H H1 → Ev to σ H1 (.ref a)) (ha : H a = some (.ins C dx fs)) (c : Cls K C) (n : NoAttr K C f) (hl : fs.length < 1000)
    (k : ∀ H', H' a = some (.ins C dx (putF f v fs)) → (∀ b u, H b = some u → b ≠ a → H' b = some u) → tz D σ H') : tSeq (sFld K to te f) tz D σ H := by
  refine h H (Ex.refl H) _ fun H1 e1 => ho H1 e1 H1 (Ex.refl H1) _ fun H2 e2 => ⟨a, C, dx, fs, rfl, (e1.trans e2) _ _ ha, c, n, hl, ?_⟩
  exact k _ upd_same fun b u hb hba => by rw [upd_ne hba]; exact (e1.trans e2) _ _ hb
theorem s_putN {te to : TE} {σ : L2.St} {H : Hp} {a C dx : Addr} {fs : List (Str × V)} {f : Str} {o : HO} {D : Ends} (h : EvN te σ H o) (ho : ∀ H1, Ex H H1 → Ev to σ H1 (.ref a)) (ha : H a = some (.ins C dx fs)) (c : Cls K C) (n : NoAttr K C f) (hl : fs.length < 1000)
    (k : ∀ p H', H p = none → H' a = some (.ins C dx (putF f (.ref p) fs)) → H' p = some o → (∀ b u, H b = some u → b ≠ a → H' b = some u) → D.nx σ H') : sFld K to te f D σ H := by
  refine h H (Ex.refl H) _ fun p H1 hp e1 h1 => ho H1 e1 H1 (Ex.refl H1) _ fun H2 e2 => ⟨a, C, dx, fs, rfl, (e1.trans e2) _ _ ha, c, n, hl, ?_⟩
  have hne : p ≠ a := (ne_of_none ha hp).symm
  exact k p _ hp upd_same (by rw [upd_ne hne]; exact e2 _ _ h1) fun b u hb hba => by rw [upd_ne hba]; exact (e1.trans e2) _ _ hb
theorem s_putV {te to : TE} {σ : L2.St} {H : Hp} {a C dx : Addr} {fs : List (Str × V)} {f : Str} {v : V} {D : Ends} (h : Ev te σ H v) (ho : ∀ H1, Ex H H1 → Ev to σ H1 (.ref a)) (ha : H a = some (.ins C dx fs)) (c : Cls K C) (n : NoAttr K C f) (hl : fs.length < 1000)
    (k : ∀ H', H' a = some (.ins C dx (putF f v fs)) → (∀ b u, H b = some u → b ≠ a → H' b = some u) → D.nx σ H') : sFld K to te f D σ H := by
  refine h H (Ex.refl H) _ fun H1 e1 => ho H1 e1 H1 (Ex.refl H1) _ fun H2 e2 => ⟨a, C, dx, fs, rfl, (e1.trans e2) _ _ ha, c, n, hl, ?_⟩
  exact k _ upd_same fun b u hb hba => by rw [upd_ne hba]; exact (e1.trans e2) _ _ hb
/-- comprehensions over nothing -/
theorem en_list {tl : TE} {q : Addr} {σ : L2.St} {H : Hp} {g : TG} {t : TT} {te : TE} {vs : List Nat} (hl : Ev tl σ H (.ref q)) (hs : SqL K H q []) : EvN (tLc (iList K tl) g t te vs) σ H (.lst []) := fun H1 e Q k =>
  hl H1 e _ fun H2 e2 => ⟨q, rfl, ⟨[], ex_l (e.trans e2) hs⟩, fun D hD => lc_list (xs := []) (fun _ H' => H' = upd H2 D (.lst [])) rfl (fun i H' _ q => by rw [q]; exact ex_l ((e.trans e2).trans (Ex.new hD)) hs) (fun i x H' hx _ => by simp at hx) (fun H' q => by rw [q]; exact k D _ (fresh_back e2 hD) (e2.trans (Ex.new hD)) upd_same)⟩
theorem en_tup {tl : TE} {q : Addr} {σ : L2.St} {H : Hp} {g : TG} {t : TT} {te : TE} {vs : List Nat} (hl : Ev tl σ H (.ref q)) (hs : SqT K H q []) : EvN (tLc (iTup K tl) g t te vs) σ H (.lst []) := fun H1 e Q k =>
  hl H1 e _ fun H2 e2 => ⟨q, rfl, ⟨[], ex_t (e.trans e2) hs⟩, fun D hD => lc_tup (xs := []) (fun _ H' => H' = upd H2 D (.lst [])) rfl (fun i H' _ q => by rw [q]; exact ex_t ((e.trans e2).trans (Ex.new hD)) hs) (fun i x H' hx _ => by simp at hx) (fun H' q => by rw [q]; exact k D _ (fresh_back e2 hD) (e2.trans (Ex.new hD)) upd_same)⟩
theorem en_dcT {tl : TE} {q : Addr} {σ : L2.St} {H : Hp} {g : TG} {t : TT} {tk tv : TE} {vs : List Nat} (hl : Ev tl σ H (.ref q)) (hs : SqT K H q []) : EvN (tDc (iTup K tl) g t tk tv vs) σ H (.dK []) := fun H1 e Q k =>
  hl H1 e _ fun H2 e2 => ⟨q, rfl, ⟨[], ex_t (e.trans e2) hs⟩, fun D hD => by
    have e3 : Ex H2 (upd H2 D (.dK [])) := Ex.new hD
    refine ⟨fun i m H' => i = 0 ∧ H' = upd H2 D (.dK []), ⟨0, rfl, rfl⟩, ?_⟩
    rintro i m H' ⟨rfl, rfl⟩
    exact .inl ⟨⟨[], ex_t ((e.trans e2).trans e3) hs, Nat.le_refl _⟩, k D _ (fresh_back e2 hD) (e2.trans e3) upd_same⟩⟩
theorem en_dcL {tl : TE} {q : Addr} {σ : L2.St} {H : Hp} {g : TG} {t : TT} {tk tv : TE} {vs : List Nat} (hl : Ev tl σ H (.ref q)) (hs : SqL K H q []) : EvN (tDc (iList K tl) g t tk tv vs) σ H (.dK []) := fun H1 e Q k =>
  hl H1 e _ fun H2 e2 => ⟨q, rfl, ⟨[], ex_l (e.trans e2) hs⟩, fun D hD => by
    have e3 : Ex H2 (upd H2 D (.dK [])) := Ex.new hD
    refine ⟨fun i m H' => i = 0 ∧ H' = upd H2 D (.dK []), ⟨0, rfl, rfl⟩, ?_⟩
    rintro i m H' ⟨rfl, rfl⟩
    exact .inl ⟨⟨[], ex_l ((e.trans e2).trans e3) hs, Nat.le_refl _⟩, k D _ (fresh_back e2 hD) (e2.trans e3) upd_same⟩⟩
def rTupOf (K : PySem.W.Frag) : List V → Hp → VK → Prop := fun xs H Q => ∃ p ys, xs = [.ref p] ∧ ((SqL K H p ys ∧ ∀ l, H l = none → Q (.ref l) (upd H l (.tup ys))) ∨ (SqT K H p ys ∧ Q (.ref p) H))
theorem en_tupOf {tl : TE} {σ : L2.St} {H : Hp} {xs : List V} (h : EvN tl σ H (.lst xs)) : EvN (tCB (rTupOf K) (tCons tl tNil)) σ H (.tup xs) := fun H1 e Q k =>
  h H1 e _ fun p H2 hp e2 h2 => ⟨p, xs, rfl, .inl ⟨sq_of h2, fun l hl => k l _ (fresh_back e2 hl) (e2.trans (Ex.new hl)) upd_same⟩⟩
end
section
variable {P : Program} {w : World} {K : PySem.W.Frag} {mg : Str → Option Value} {base : Heap}
/-! ### the options -/
def put5 (fs : List (Str × V)) : List (Str × V) := putF "show" (.bl true) (putF "only_named" (.bl false) (putF "frozen" (.bl false) (putF "order" (.bl false) (putF "equal" (.bl true) fs))))
def FrB (a : Addr) (H H' : Hp) : Prop := ∀ b u, H b = some u → b ≠ a → H' b = some u
theorem FrB.trans {a : Addr} {H H1 H2 : Hp} (h : FrB a H H1) (k : FrB a H1 H2) : FrB a H H2 := fun b u e hb => k b u (h b u e hb) hb
theorem FrB.ex {a : Addr} {H H1 H2 : Hp} (h : FrB a H H1) (e : Ex H1 H2) : FrB a H H2 := fun b u e' hb => e _ _ (h b u e' hb)
theorem sqt_fr {a t : Addr} {H H' : Hp} {xs : List V} (f : FrB a H H') (hne : t ≠ a) (h : SqT K H t xs) : SqT K H' t xs := by
  rcases h with h | h
  · rcases h with h | ⟨o, h⟩
    · exact .inl (.inl (f _ _ h hne))
    · exact .inl (.inr ⟨o, f _ _ h hne⟩)
  · exact .inr h
theorem fr_fresh {a p : Addr} {H H' : Hp} {u0 : HO} (f : FrB a H H') (ha : H' a = some u0) (h : H' p = none) : H p = none := by
  cases q : H p with
  | none => rfl
  | some u =>
    by_cases e : p = a
    · subst e
      rw [ha] at h
      cases h
    · have := f p u q e
      rw [h] at this
      cases this
def spSetOptions (K : PySem.W.Frag) : Sp := fun vs H Q _ => ∃ (a d dx : Addr) (fs : List (Str × V)), vs = [.ref a, .ref d] ∧ H a = some (.ins (kC K) dx fs) ∧ H d = some (.dK []) ∧ fs.length ≤ 900 ∧ ∀ H', H' a = some (.ins (kC K) dx (put5 fs)) → FrB a H H' → Q .non H'
theorem can_setOptions (T : Txt K mg) : ∃ fd, FnOk P w K mg base CX0 1 (ma K (kC K) "_set_options") fd ["self", "options"] (spSetOptions K) ∧ Binds K fd ["self", "options"] [] := by
  obtain ⟨fd, F⟩ := T.F_Kind__set_options
  refine ⟨fd, F.ok sc_Kind__set_options (fun vs H Q E h => ?_) (fun cdv A outer s H vs Q E hr h => ?_), F.binds (ps := ["self", "options"]) fun _ _ _ _ _ _ us hl => match us, hl with | [_, _], _ => rfl⟩
  · obtain ⟨a, d, dx, fs, rfl, _⟩ := h
    rfl
  · obtain ⟨a, d, dx, fs, rfl, ha, hd, hl, fin⟩ := h
    have hu := hu_of hr
    refine ⟨_, pss_cons (ps_fld (pv 0) (pe_dget2 hu (pv 1) pe_str pe_bl ⟨rfl, rfl, rfl, rfl⟩) rfl) (pss_cons (ps_fld (pv 0) (pe_dget2 hu (pv 1) pe_str pe_bl ⟨rfl, rfl, rfl, rfl⟩) rfl) (pss_cons (ps_fld (pv 0) (pe_dget2 hu (pv 1) pe_str pe_bl ⟨rfl, rfl, rfl, rfl⟩) rfl)
      (pss_cons (ps_fld (pv 0) (pe_dget2 hu (pv 1) pe_str pe_bl ⟨rfl, rfl, rfl, rfl⟩) rfl) (pss_one (ps_fld (pv 0) (pe_dget2 hu (pv 1) pe_str pe_bl ⟨rfl, rfl, rfl, rfl⟩) rfl))))), ?_⟩
    have hda : d ≠ a := ne_of hd ha (by intro z; cases z)
    have get : ∀ {H1 : Hp} {σ : L2.St} {s : Str} {b : Bool}, H1 d = some (.dK []) → σ[1]? = some (some (.ref d)) → Ev (tDGet2 (tVar 1) (tC (.str s)) (tC (.bl b))) σ H1 (.bl b) := fun {H1 σ s b} h hv H2 e Q q =>
      ⟨.ref d, hv, d, rfl, .inl ⟨[], .inl (e _ _ h)⟩, none, DGet.k (k := .inr s) (e _ _ h), q H2 (Ex.refl H2)⟩
    have len : ∀ (f : Str) (v : V) (gs : List (Str × V)) (n : Nat), gs.length ≤ n → (putF f v gs).length ≤ n + 1 := fun f v gs n h => by have := length_putF f v gs; omega
    refine q_putV (get hd rfl) (fun _ _ => ev_var rfl) ha T.cls T.a_equal (by omega) fun H1 a1 f1 => ?_
    refine q_putV (get (f1 _ _ hd hda) rfl) (fun _ _ => ev_var rfl) a1 T.cls T.a_order (by have := len "equal" (.bl true) fs _ hl; omega) fun H2 a2 f2 => ?_
    have f12 : FrB a H H2 := FrB.trans f1 f2
    refine q_putV (get (f12 _ _ hd hda) rfl) (fun _ _ => ev_var rfl) a2 T.cls T.a_frozen (by have := len "order" (.bl false) _ _ (len "equal" (.bl true) fs _ hl); omega) fun H3 a3 f3 => ?_
    have f13 : FrB a H H3 := FrB.trans f12 f3
    refine q_putV (get (f13 _ _ hd hda) rfl) (fun _ _ => ev_var rfl) a3 T.cls T.a_only_named (by have := len "frozen" (.bl false) _ _ (len "order" (.bl false) _ _ (len "equal" (.bl true) fs _ hl)); omega) fun H4 a4 f4 => ?_
    have f14 : FrB a H H4 := FrB.trans f13 f4
    refine s_putV (get (f14 _ _ hd hda) rfl) (fun _ _ => ev_var rfl) a4 T.cls T.a_show (by have := len "only_named" (.bl false) _ _ (len "frozen" (.bl false) _ _ (len "order" (.bl false) _ _ (len "equal" (.bl true) fs _ hl))); omega) fun H5 a5 f5 => ?_
    exact fin H5 a5 (FrB.trans f14 f5)
/-! ### the kind's own members: none -/
def put3 (m d : Addr) (fs : List (Str × V)) : List (Str × V) := putF "own_methods" (.ref d) (putF "own_members" (.ref m) (putF "own_hook" .non fs))
def spSetOwn (K : PySem.W.Frag) : Sp := fun vs H Q _ => ∃ (a t dx : Addr) (fs : List (Str × V)), vs = [.ref a, .ref t] ∧ H a = some (.ins (kC K) dx fs) ∧ SqT K H t [] ∧ t ≠ a ∧ fs.length ≤ 900 ∧
  ∀ m d H', H m = none → H d = none → m ≠ a → H' a = some (.ins (kC K) dx (put3 m d fs)) → H' m = some (.tup []) → FrB a H H' → Q .non H'
theorem can_setOwn (T : Txt K mg) : ∃ fd, FnOk P w K mg base CX0 1 (ma K (kC K) "_set_own") fd ["self", "members"] (spSetOwn K) ∧ Binds K fd ["self", "members"] [] := by
  obtain ⟨fd, F⟩ := T.F_Kind__set_own
  refine ⟨fd, F.ok sc_Kind__set_own (fun vs H Q E h => ?_) (fun cdv A outer s H vs Q E hr h => ?_), F.binds (ps := ["self", "members"]) fun _ _ _ _ _ _ us hl => match us, hl with | [_, _], _ => rfl⟩
  · obtain ⟨a, d, dx, fs, rfl, _⟩ := h
    rfl
  · obtain ⟨a, t, dx, fs, rfl, ha, ht, hta, hl, fin⟩ := h
    have nd := sc_Kind__set_own.nd
    refine ⟨_, pss_cons (ps_setLc (i := 2) (own := [("member", 3)]) (wi := iTup K (tVar 1)) (g := gNo) (tt := tNoT) (te := tNoE) rfl nd rfl rfl (sw_true rfl rfl rfl (by decide +kernel)) (pi_tup (pv 1)) (blkOk_by (N := ["self", "members", "hooks", "member"]) (sc := defScope s_Kind__set_own) (by decide +kernel)) (fun _ _ _ _ _ => pg_no) (fun _ _ _ _ _ => pts_one pt_no) (fun _ _ _ _ _ => pe_never))
      (pss_cons (ps_fld (pv 0) (pe_ifExp (pt_truth (pv 2) (by intro _; rfl)) pe_never pe_non) rfl)
      (pss_cons (ps_fld (pv 0) (pe_callTy call_tuple_of (by rfl) T.n_tuple (by decide +kernel) (pa_cons (pe_lc (own := [("member", 3)]) (wi := iTup K (tVar 1)) (g := gNo) (tt := tNoT) (te := tNoE) rfl nd (pi_tup (pv 1)) (blkOk_by (N := ["self", "members", "hooks", "member"]) (sc := defScope s_Kind__set_own) (by decide +kernel)) (fun _ _ _ _ _ => pg_no) (fun _ _ _ _ _ => pts_one pt_no) (fun _ _ _ _ _ => pe_never)) pa_nil)) rfl)
      (pss_one (ps_fld (pv 0) (pe_dc (own := [("member", 3)]) (wi := iTup K (tFld K (tVar 0) "own_members")) (g := gNo) (tt := tNoT) (tk := tNoE) (tv := tNoE) rfl nd (pi_tup (pe_fld (pv 0) rfl)) (blkOk_by (N := ["self", "members", "hooks", "member"]) (sc := defScope s_Kind__set_own) (by decide +kernel)) (fun _ _ _ _ _ => pg_no) (fun _ _ _ _ _ => pts_one pt_no) (fun _ _ _ _ _ => pe_never) (fun _ _ _ _ _ => pe_never)) rfl)))), ?_⟩
    refine q_asgL (xs := []) (en_tup (ev_var rfl) ht) fun ph H1 hph e1 h1 => ?_
    have a1 := e1 _ _ ha
    have len : ∀ (f : Str) (v : V) (gs : List (Str × V)) (n : Nat), gs.length ≤ n → (putF f v gs).length ≤ n + 1 := fun f v gs n h => by have := length_putF f v gs; omega
    have hph2 : ∀ {H2 : Hp}, Ex H1 H2 → TruV K (.ref ph) H2 false := fun e => .inl ⟨[], sq_of (e _ _ h1), rfl⟩
    refine q_putV (v := .non) (ev_if (b := false) (et_tru (ev_var rfl) fun H2 e2 => hph2 e2) (fun h => by cases h) fun _ => ev_c) (fun _ _ => ev_var rfl) a1 T.cls T.a_own_hook (by omega) fun H2 a2 f2 => ?_
    have fr2 : FrB a H H2 := fun b u hb hba => f2 b u (e1 _ _ hb) hba
    refine q_putN (o := .tup []) (en_tupOf (en_tup (ev_var rfl) (sqt_fr fr2 hta ht))) (fun _ _ => ev_var rfl) a2 T.cls T.a_own_members (by have := len "own_hook" .non fs _ hl; omega) fun m H3 hm a3 h3 f3 => ?_
    have hmH : H m = none := by
      cases q : H m with
      | none => rfl
      | some u =>
        by_cases hma : m = a
        · subst hma
          rw [a2] at hm
          cases hm
        · have := fr2 m u q hma
          rw [hm] at this
          cases this
    have hma : m ≠ a := (ne_of_none a2 hm).symm
    refine s_putN (o := .dK []) (en_dcT (ev_fld (ev_var rfl) a3 T.cls T.a_own_members lkEq) (st_of h3)) (fun _ _ => ev_var rfl) a3 T.cls T.a_own_methods (by have := len "own_members" (.ref m) _ _ (len "own_hook" .non fs _ hl); omega) fun d H4 hd a4 h4 f4 => ?_
    have fr3 : FrB a H H3 := FrB.trans fr2 f3
    have hdH : H d = none := by
      cases q : H d with
      | none => rfl
      | some u =>
        by_cases hda : d = a
        · subst hda
          rw [a3] at hd
          cases hd
        · have := fr3 d u q hda
          rw [hd] at this
          cases this
    exact fin m d H4 hmH hdH hma a4 (f4 _ _ h3 hma) (FrB.trans fr3 f4)
end
end K28
end

section
set_option Elab.async false
set_option linter.all false
set_option maxRecDepth 100000
set_option maxHeartbeats 4000000
namespace K28
open PySem PySem.Spec PyProof.Rows L2 He Cn Evl
section
variable {P : Program} {w : World} {K : PySem.W.Frag} {mg : Str → Option Value} {base : Heap}
/-! ### what is whole: nothing -/
def wholeKeys : List Str := [("_data" : Str), ("_shared" : Str), ("_other_members" : Str), ("fields" : Str), ("field_names" : Str), ("compare_names" : Str), ("show_names" : Str), ("key_names" : Str), ("_init_only" : Str), ("_by_position" : Str), ("_by_name" : Str), ("_parameters" : Str), ("_parameter_names" : Str)]
theorem ev_con {σ : L2.St} {H : Hp} {te : TE} {a C dx : Addr} {fs : List (Str × V)} {f : Str} {v : V} {u : Value} (h : Ev te σ H (.ref a)) (ha : H a = some (.ins C dx fs)) (c : Cls K C) (n : Con K C f v u) (l : fs.lookup f = none) : Ev (tCon K te f) σ H v := fun H1 e Q q =>
  h H1 e _ fun H2 e2 => ⟨a, C, dx, fs, v, u, rfl, (e.trans e2) _ _ ha, c, n, l, q H2 e2⟩
theorem en_cat {σ : L2.St} {H : Hp} {ta tb : TE} {p q : Addr} {xs ys : List V} (ha : Ev ta σ H (.ref p)) (hb : Ev tb σ H (.ref q)) (hp : H p = some (.lst xs)) (hq : H q = some (.lst ys)) (hz : xs.length + ys.length ≤ 100000) : EvN (tOp rCat ta tb) σ H (.lst (xs ++ ys)) := fun H1 e Q k =>
  ha H1 e _ fun H2 e2 => hb H2 (e.trans e2) _ fun H3 e3 => ⟨p, q, xs, ys, rfl, rfl, ((e.trans e2).trans e3) _ _ hp, ((e.trans e2).trans e3) _ _ hq, sz_of hz, fun l hl => k l _ (fresh_back (e2.trans e3) hl) ((e2.trans e3).trans (Ex.new hl)) upd_same⟩
def spSetWhole (K : PySem.W.Frag) : Sp := fun vs H Q _ => ∃ (a l dx q : Addr) (fs : List (Str × V)) (line : List Addr), vs = [.ref a, .ref l] ∧ H a = some (.ins (kC K) dx fs) ∧ H l = some (.lst []) ∧ fs.lookup ("line" : Str) = some (.ref q) ∧ SqT K H q (refs line) ∧ q ≠ a ∧ line.length ≤ 12 ∧
  fs.lookup ("MAX_MEMBERS" : Str) = none ∧ fs.lookup ("MAX_LINE" : Str) = none ∧ fs.length ≤ 900 ∧
  ∀ (fs' : List (Str × V)) (bp : Addr) (H' : Hp), H' a = some (.ins (kC K) dx fs') → fs'.lookup ("_by_position" : Str) = some (.ref bp) → H' bp = some (.lst []) → (∀ g, g ∉ wholeKeys → fs'.lookup g = fs.lookup g) → fs'.length ≤ fs.length + 13 → FrB a H H' → Q .non H'
theorem can_setWhole (T : Txt K mg) : ∃ fd, FnOk P w K mg base CX0 1 (ma K (kC K) "_set_whole") fd ["self", "whole"] (spSetWhole K) ∧ Binds K fd ["self", "whole"] [] := by
  obtain ⟨fd, F⟩ := T.F_Kind__set_whole
  refine ⟨fd, F.ok sc_Kind__set_whole (fun vs H Q E h => ?_) (fun cdv A outer s H vs Q E hr h => ?_), F.binds (ps := ["self", "whole"]) fun _ _ _ _ _ _ us hl => match us, hl with | [_, _], _ => rfl⟩
  · obtain ⟨a, l, dx, q, fs, line, rfl, _⟩ := h
    rfl
  · obtain ⟨a, l, dx, q, fs, line, rfl, ha, hl, hq, hqT, hqa, hll, hm1, hm2, hlen, fin⟩ := h
    have nd := sc_Kind__set_whole.nd
    obtain ⟨u1, c1⟩ := T.maxMem
    obtain ⟨u2, c2⟩ := T.maxLine
    refine ⟨_, pss_cons (ps_setLc (i := 2) (own := [("member", 3), ("kind", 4)]) (wi := iList K (tVar 1)) (g := gNo) (tt := tNoT) (te := tNoE) rfl nd rfl rfl (sw_true rfl rfl rfl (by decide +kernel)) (pi_list (pv 1)) (blkOk_by (N := ["self", "whole", "data", "member", "kind", "_", "named", "field"]) (sc := defScope s_Kind__set_whole) (by decide +kernel)) (fun _ _ _ _ _ => pg_no) (fun _ _ _ _ _ => pts_one pt_no) (fun _ _ _ _ _ => pe_never))
      (pss_cons (ps_if (PW.pt (pw_or (pt_cmpR op_gt (pe_callB call_len_seq (by rfl) T.n_len PySem.boot_len (pa_cons (pv 2) pa_nil)) (pe_con (pv 0) rfl) (nomark _)) (pw_or1 (pt_cmpR op_gt (pe_callB call_len_seq (by rfl) T.n_len PySem.boot_len (pa_cons (pe_fld (pv 0) rfl) pa_nil)) (pe_con (pv 0) rfl) (nomark _))))) (pss_one ps_never) pss_nil)
      (pss_cons (ps_fld (pv 0) (pv 2) rfl)
      (pss_cons (ps_fld (pv 0) (pe_dc (own := [("member", 3), ("_", 5)]) (wi := iList K (tVar 1)) (g := gNo) (tt := tNoT) (tk := tNoE) (tv := tNoE) rfl nd (pi_list (pv 1)) (blkOk_by (N := ["self", "whole", "data", "member", "kind", "_", "named", "field"]) (sc := defScope s_Kind__set_whole) (by decide +kernel)) (fun _ _ _ _ _ => pg_no) (fun _ _ _ _ _ => pts_one pt_no) (fun _ _ _ _ _ => pe_never) (fun _ _ _ _ _ => pe_never)) rfl)
      (pss_cons (ps_fld (pv 0) (pe_lc (own := [("member", 3), ("_", 5)]) (wi := iList K (tVar 1)) (g := gNo) (tt := tNoT) (te := tNoE) rfl nd (pi_list (pv 1)) (blkOk_by (N := ["self", "whole", "data", "member", "kind", "_", "named", "field"]) (sc := defScope s_Kind__set_whole) (by decide +kernel)) (fun _ _ _ _ _ => pg_no) (fun _ _ _ _ _ => pts_one pt_no) (fun _ _ _ _ _ => pe_never)) rfl)
      (pss_cons (ps_fld (pv 0) (pe_callTy call_tuple_of (by rfl) T.n_tuple (by decide +kernel) (pa_cons (pe_lc (own := [("member", 3), ("_", 5)]) (wi := iList K (tVar 2)) (g := gNo) (tt := tNoT) (te := tNoE) rfl nd (pi_list (pv 2)) (blkOk_by (N := ["self", "whole", "data", "member", "kind", "_", "named", "field"]) (sc := defScope s_Kind__set_whole) (by decide +kernel)) (fun _ _ _ _ _ => pg_no) (fun _ _ _ _ _ => pts_one pt_no) (fun _ _ _ _ _ => pe_never)) pa_nil)) rfl)
      (pss_cons (ps_fld (pv 0) (pe_callTy call_tuple_of (by rfl) T.n_tuple (by decide +kernel) (pa_cons (pe_lc (own := [("field", 7)]) (wi := iTup K (tFld K (tVar 0) "fields")) (g := gNo) (tt := tYes) (te := tNoE) rfl nd (pi_tup (pe_fld (pv 0) rfl)) (blkOk_by (N := ["self", "whole", "data", "member", "kind", "_", "named", "field"]) (sc := defScope s_Kind__set_whole) (by decide +kernel)) (fun _ _ _ _ _ => pg_no) (fun _ _ _ _ _ => pts_nil) (fun _ _ _ _ _ => pe_never)) pa_nil)) rfl)
      (pss_cons (ps_fld (pv 0) (pe_callTy call_tuple_of (by rfl) T.n_tuple (by decide +kernel) (pa_cons (pe_lc (own := [("field", 7)]) (wi := iTup K (tFld K (tVar 0) "fields")) (g := gNo) (tt := tNoT) (te := tNoE) rfl nd (pi_tup (pe_fld (pv 0) rfl)) (blkOk_by (N := ["self", "whole", "data", "member", "kind", "_", "named", "field"]) (sc := defScope s_Kind__set_whole) (by decide +kernel)) (fun _ _ _ _ _ => pg_no) (fun _ _ _ _ _ => pts_one pt_no) (fun _ _ _ _ _ => pe_never)) pa_nil)) rfl)
      (pss_cons (ps_fld (pv 0) (pe_callTy call_tuple_of (by rfl) T.n_tuple (by decide +kernel) (pa_cons (pe_lc (own := [("field", 7)]) (wi := iTup K (tFld K (tVar 0) "fields")) (g := gNo) (tt := tNoT) (te := tNoE) rfl nd (pi_tup (pe_fld (pv 0) rfl)) (blkOk_by (N := ["self", "whole", "data", "member", "kind", "_", "named", "field"]) (sc := defScope s_Kind__set_whole) (by decide +kernel)) (fun _ _ _ _ _ => pg_no) (fun _ _ _ _ _ => pts_one pt_no) (fun _ _ _ _ _ => pe_never)) pa_nil)) rfl)
      (pss_cons (ps_fld (pv 0) (pe_callTy call_tuple_of (by rfl) T.n_tuple (by decide +kernel) (pa_cons (pe_lc (own := [("field", 7)]) (wi := iTup K (tFld K (tVar 0) "fields")) (g := gNo) (tt := tNoT) (te := tNoE) rfl nd (pi_tup (pe_fld (pv 0) rfl)) (blkOk_by (N := ["self", "whole", "data", "member", "kind", "_", "named", "field"]) (sc := defScope s_Kind__set_whole) (by decide +kernel)) (fun _ _ _ _ _ => pg_no) (fun _ _ _ _ _ => pts_one pt_no) (fun _ _ _ _ _ => pe_never)) pa_nil)) rfl)
      (pss_cons (ps_fld (pv 0) (pe_lc (own := [("member", 3), ("_", 5)]) (wi := iList K (tVar 2)) (g := gNo) (tt := tNoT) (te := tNoE) rfl nd (pi_list (pv 2)) (blkOk_by (N := ["self", "whole", "data", "member", "kind", "_", "named", "field"]) (sc := defScope s_Kind__set_whole) (by decide +kernel)) (fun _ _ _ _ _ => pg_no) (fun _ _ _ _ _ => pts_one pt_no) (fun _ _ _ _ _ => pe_never)) rfl)
      (pss_cons (ps_fld (pv 0) (pe_lc (own := [("member", 3), ("named", 6)]) (wi := iList K (tVar 2)) (g := gNo) (tt := tNoT) (te := tNoE) rfl nd (pi_list (pv 2)) (blkOk_by (N := ["self", "whole", "data", "member", "kind", "_", "named", "field"]) (sc := defScope s_Kind__set_whole) (by decide +kernel)) (fun _ _ _ _ _ => pg_no) (fun _ _ _ _ _ => pts_one pt_no) (fun _ _ _ _ _ => pe_never)) rfl)
      (pss_cons (ps_fld (pv 0) (pe_lc (own := [("member", 3), ("named", 6)]) (wi := iList K (tVar 2)) (g := gNo) (tt := tNoT) (te := tNoE) rfl nd (pi_list (pv 2)) (blkOk_by (N := ["self", "whole", "data", "member", "kind", "_", "named", "field"]) (sc := defScope s_Kind__set_whole) (by decide +kernel)) (fun _ _ _ _ _ => pg_no) (fun _ _ _ _ _ => pts_one pt_no) (fun _ _ _ _ _ => pe_never)) rfl)
      (pss_cons (ps_fld (pv 0) (pe_op op_cat (pe_fld (pv 0) rfl) (pe_fld (pv 0) rfl)) rfl)
      (pss_one (ps_fld (pv 0) (pe_lc (own := [("member", 3)]) (wi := iList K (tFld K (tVar 0) "_parameters")) (g := gNo) (tt := tYes) (te := tNoE) rfl nd (pi_list (pe_fld (pv 0) rfl)) (blkOk_by (N := ["self", "whole", "data", "member", "kind", "_", "named", "field"]) (sc := defScope s_Kind__set_whole) (by decide +kernel)) (fun _ _ _ _ _ => pg_no) (fun _ _ _ _ _ => pts_nil) (fun _ _ _ _ _ => pe_never)) rfl))))))))))))))), ?_⟩
    have hla : l ≠ a := ne_of hl ha (by intro z; cases z)
    refine q_asgL (xs := []) (en_list (ev_var rfl) (sq_of hl)) fun pd H0 hpd e0 h0 => ?_
    have a0 := e0 _ _ ha
    have hpda : pd ≠ a := (ne_of_none ha hpd).symm
    have lr : (refs line).length = line.length := by unfold refs; rw [List.length_map]
    refine q_when (b := false) (et_is (et_or (a := false) (b := false) (et_is (et_test (ev_op (x := .int 0) (y := .int 16) (ev_cb (z := .int 0) (ea_cons (ev_var rfl) ea_nil) fun H1 e Q k => ⟨pd, [], rfl, .inl (sq_of (e _ _ h0)), k H1 (Ex.refl H1)⟩) (ev_con (ev_var rfl) a0 T.cls c1 hm1) rv_I0)) (by decide))
      (fun _ => et_is (et_test (ev_op (x := .int (line.length : Int)) (y := .int 12) (ev_cb (z := .int (line.length : Int)) (ea_cons (ev_fld (ev_var rfl) a0 T.cls T.a_line hq) ea_nil) fun H1 e Q k => ⟨q, _, rfl, .inr (ex_t (e0.trans e) hqT), by rw [lr]; exact k H1 (Ex.refl H1)⟩) (ev_con (ev_var rfl) a0 T.cls c2 hm2) rv_I0)) (by simp; omega))) rfl) (fun h => by cases h) fun _ H1 e1 => ?_
    have a1 := e1 _ _ a0
    have fr1 : FrB a H H1 := fun b u hb _ => e1 _ _ (e0 _ _ hb)
    have fd1 : ∀ {H' : Hp}, FrB a H1 H' → H' pd = some (.lst []) := fun f => f _ _ (e1 _ _ h0) hpda
    have fl1 : ∀ {H' : Hp}, FrB a H1 H' → H' l = some (.lst []) := fun f => f _ _ (fr1 _ _ hl hla) hla
    have r1 : FrB a H1 H1 := fun b u h _ => h
    have L1 : fs.length ≤ fs.length := Nat.le_refl _
    refine q_putV (v := .ref pd) (ev_var rfl) (fun _ _ => ev_var rfl) a1 T.cls T.a__data (by omega) fun H2 a2 f2 => ?_
    have r2 : FrB a H1 H2 := FrB.trans r1 f2
    have L2 : (putF "_data" (.ref pd) fs).length ≤ fs.length + 1 := by have := length_putF "_data" (.ref pd) fs; omega
    refine q_putN (o := .dK []) (en_dcL (ev_var rfl) (sq_of (fl1 r2))) (fun _ _ => ev_var rfl) a2 T.cls T.a__shared (by omega) fun p3 H3 np3 a3 h3 f3 => ?_
    have r3 : FrB a H1 H3 := FrB.trans r2 f3
    have L3 : (putF "_shared" (.ref p3) (putF "_data" (.ref pd) fs)).length ≤ fs.length + 2 := by have := length_putF "_shared" (.ref p3) (putF "_data" (.ref pd) fs); omega
    refine q_putN (o := .lst []) (en_list (ev_var rfl) (sq_of (fl1 r3))) (fun _ _ => ev_var rfl) a3 T.cls T.a__other_members (by omega) fun p4 H4 np4 a4 h4 f4 => ?_
    have r4 : FrB a H1 H4 := FrB.trans r3 f4
    have L4 : (putF "_other_members" (.ref p4) (putF "_shared" (.ref p3) (putF "_data" (.ref pd) fs))).length ≤ fs.length + 3 := by have := length_putF "_other_members" (.ref p4) (putF "_shared" (.ref p3) (putF "_data" (.ref pd) fs)); omega
    refine q_putN (o := .tup []) (en_tupOf (en_list (ev_var rfl) (sq_of (fd1 r4)))) (fun _ _ => ev_var rfl) a4 T.cls T.a_fields (by omega) fun p5 H5 np5 a5 h5 f5 => ?_
    have r5 : FrB a H1 H5 := FrB.trans r4 f5
    have L5 : (putF "fields" (.ref p5) (putF "_other_members" (.ref p4) (putF "_shared" (.ref p3) (putF "_data" (.ref pd) fs)))).length ≤ fs.length + 4 := by have := length_putF "fields" (.ref p5) (putF "_other_members" (.ref p4) (putF "_shared" (.ref p3) (putF "_data" (.ref pd) fs))); omega
    have pfa : p5 ≠ a := (ne_of_none a4 np5).symm
    have pfk : ∀ {H' : Hp}, FrB a H1 H' → FrB a H5 H' → H' p5 = some (.tup []) := fun _ f => f _ _ h5 pfa
    have g5 : FrB a H5 H5 := fun b u h _ => h
    refine q_putN (o := .tup []) (en_tupOf (en_tup (ev_fld (ev_var rfl) a5 T.cls T.a_fields lkEq) (st_of (pfk r5 g5)))) (fun _ _ => ev_var rfl) a5 T.cls T.a_field_names (by omega) fun p6 H6 np6 a6 h6 f6 => ?_
    have r6 : FrB a H1 H6 := FrB.trans r5 f6
    have L6 : (putF "field_names" (.ref p6) (putF "fields" (.ref p5) (putF "_other_members" (.ref p4) (putF "_shared" (.ref p3) (putF "_data" (.ref pd) fs))))).length ≤ fs.length + 5 := by have := length_putF "field_names" (.ref p6) (putF "fields" (.ref p5) (putF "_other_members" (.ref p4) (putF "_shared" (.ref p3) (putF "_data" (.ref pd) fs)))); omega
    have g6 : FrB a H5 H6 := FrB.trans g5 f6
    refine q_putN (o := .tup []) (en_tupOf (en_tup (ev_fld (ev_var rfl) a6 T.cls T.a_fields ((lkNe (by decide +kernel)).trans lkEq)) (st_of (pfk r6 g6)))) (fun _ _ => ev_var rfl) a6 T.cls T.a_compare_names (by omega) fun p7 H7 np7 a7 h7 f7 => ?_
    have r7 : FrB a H1 H7 := FrB.trans r6 f7
    have L7 : (putF "compare_names" (.ref p7) (putF "field_names" (.ref p6) (putF "fields" (.ref p5) (putF "_other_members" (.ref p4) (putF "_shared" (.ref p3) (putF "_data" (.ref pd) fs)))))).length ≤ fs.length + 6 := by have := length_putF "compare_names" (.ref p7) (putF "field_names" (.ref p6) (putF "fields" (.ref p5) (putF "_other_members" (.ref p4) (putF "_shared" (.ref p3) (putF "_data" (.ref pd) fs))))); omega
    have g7 : FrB a H5 H7 := FrB.trans g6 f7
    refine q_putN (o := .tup []) (en_tupOf (en_tup (ev_fld (ev_var rfl) a7 T.cls T.a_fields ((lkNe (by decide +kernel)).trans ((lkNe (by decide +kernel)).trans lkEq))) (st_of (pfk r7 g7)))) (fun _ _ => ev_var rfl) a7 T.cls T.a_show_names (by omega) fun p8 H8 np8 a8 h8 f8 => ?_
    have r8 : FrB a H1 H8 := FrB.trans r7 f8
    have L8 : (putF "show_names" (.ref p8) (putF "compare_names" (.ref p7) (putF "field_names" (.ref p6) (putF "fields" (.ref p5) (putF "_other_members" (.ref p4) (putF "_shared" (.ref p3) (putF "_data" (.ref pd) fs))))))).length ≤ fs.length + 7 := by have := length_putF "show_names" (.ref p8) (putF "compare_names" (.ref p7) (putF "field_names" (.ref p6) (putF "fields" (.ref p5) (putF "_other_members" (.ref p4) (putF "_shared" (.ref p3) (putF "_data" (.ref pd) fs)))))); omega
    have g8 : FrB a H5 H8 := FrB.trans g7 f8
    refine q_putN (o := .tup []) (en_tupOf (en_tup (ev_fld (ev_var rfl) a8 T.cls T.a_fields ((lkNe (by decide +kernel)).trans ((lkNe (by decide +kernel)).trans ((lkNe (by decide +kernel)).trans lkEq)))) (st_of (pfk r8 g8)))) (fun _ _ => ev_var rfl) a8 T.cls T.a_key_names (by omega) fun p9 H9 np9 a9 h9 f9 => ?_
    have r9 : FrB a H1 H9 := FrB.trans r8 f9
    have L9 : (putF "key_names" (.ref p9) (putF "show_names" (.ref p8) (putF "compare_names" (.ref p7) (putF "field_names" (.ref p6) (putF "fields" (.ref p5) (putF "_other_members" (.ref p4) (putF "_shared" (.ref p3) (putF "_data" (.ref pd) fs)))))))).length ≤ fs.length + 8 := by have := length_putF "key_names" (.ref p9) (putF "show_names" (.ref p8) (putF "compare_names" (.ref p7) (putF "field_names" (.ref p6) (putF "fields" (.ref p5) (putF "_other_members" (.ref p4) (putF "_shared" (.ref p3) (putF "_data" (.ref pd) fs))))))); omega
    have g9 : FrB a H5 H9 := FrB.trans g8 f9
    refine q_putN (o := .lst []) (en_list (ev_var rfl) (sq_of (fd1 r9))) (fun _ _ => ev_var rfl) a9 T.cls T.a__init_only (by omega) fun p10 H10 np10 a10 h10 f10 => ?_
    have r10 : FrB a H1 H10 := FrB.trans r9 f10
    have L10 : (putF "_init_only" (.ref p10) (putF "key_names" (.ref p9) (putF "show_names" (.ref p8) (putF "compare_names" (.ref p7) (putF "field_names" (.ref p6) (putF "fields" (.ref p5) (putF "_other_members" (.ref p4) (putF "_shared" (.ref p3) (putF "_data" (.ref pd) fs))))))))).length ≤ fs.length + 9 := by have := length_putF "_init_only" (.ref p10) (putF "key_names" (.ref p9) (putF "show_names" (.ref p8) (putF "compare_names" (.ref p7) (putF "field_names" (.ref p6) (putF "fields" (.ref p5) (putF "_other_members" (.ref p4) (putF "_shared" (.ref p3) (putF "_data" (.ref pd) fs)))))))); omega
    have g10 : FrB a H5 H10 := FrB.trans g9 f10
    refine q_putN (o := .lst []) (en_list (ev_var rfl) (sq_of (fd1 r10))) (fun _ _ => ev_var rfl) a10 T.cls T.a__by_position (by omega) fun p11 H11 np11 a11 h11 f11 => ?_
    have r11 : FrB a H1 H11 := FrB.trans r10 f11
    have L11 : (putF "_by_position" (.ref p11) (putF "_init_only" (.ref p10) (putF "key_names" (.ref p9) (putF "show_names" (.ref p8) (putF "compare_names" (.ref p7) (putF "field_names" (.ref p6) (putF "fields" (.ref p5) (putF "_other_members" (.ref p4) (putF "_shared" (.ref p3) (putF "_data" (.ref pd) fs)))))))))).length ≤ fs.length + 10 := by have := length_putF "_by_position" (.ref p11) (putF "_init_only" (.ref p10) (putF "key_names" (.ref p9) (putF "show_names" (.ref p8) (putF "compare_names" (.ref p7) (putF "field_names" (.ref p6) (putF "fields" (.ref p5) (putF "_other_members" (.ref p4) (putF "_shared" (.ref p3) (putF "_data" (.ref pd) fs))))))))); omega
    have g11 : FrB a H5 H11 := FrB.trans g10 f11
    have pba : p11 ≠ a := (ne_of_none a10 np11).symm
    have b11 : FrB a H11 H11 := fun b u h _ => h
    refine q_putN (o := .lst []) (en_list (ev_var rfl) (sq_of (fd1 r11))) (fun _ _ => ev_var rfl) a11 T.cls T.a__by_name (by omega) fun p12 H12 np12 a12 h12 f12 => ?_
    have r12 : FrB a H1 H12 := FrB.trans r11 f12
    have L12 : (putF "_by_name" (.ref p12) (putF "_by_position" (.ref p11) (putF "_init_only" (.ref p10) (putF "key_names" (.ref p9) (putF "show_names" (.ref p8) (putF "compare_names" (.ref p7) (putF "field_names" (.ref p6) (putF "fields" (.ref p5) (putF "_other_members" (.ref p4) (putF "_shared" (.ref p3) (putF "_data" (.ref pd) fs))))))))))).length ≤ fs.length + 11 := by have := length_putF "_by_name" (.ref p12) (putF "_by_position" (.ref p11) (putF "_init_only" (.ref p10) (putF "key_names" (.ref p9) (putF "show_names" (.ref p8) (putF "compare_names" (.ref p7) (putF "field_names" (.ref p6) (putF "fields" (.ref p5) (putF "_other_members" (.ref p4) (putF "_shared" (.ref p3) (putF "_data" (.ref pd) fs)))))))))); omega
    have g12 : FrB a H5 H12 := FrB.trans g11 f12
    have b12 : FrB a H11 H12 := FrB.trans b11 f12
    refine q_putN (o := .lst ([] ++ [])) (en_cat (ev_fld (ev_var rfl) a12 T.cls T.a__by_position ((lkNe (by decide +kernel)).trans lkEq)) (ev_fld (ev_var rfl) a12 T.cls T.a__by_name lkEq) (b12 _ _ h11 pba) h12 (by decide)) (fun _ _ => ev_var rfl) a12 T.cls T.a__parameters (by omega) fun p13 H13 np13 a13 h13 f13 => ?_
    have r13 : FrB a H1 H13 := FrB.trans r12 f13
    have L13 : (putF "_parameters" (.ref p13) (putF "_by_name" (.ref p12) (putF "_by_position" (.ref p11) (putF "_init_only" (.ref p10) (putF "key_names" (.ref p9) (putF "show_names" (.ref p8) (putF "compare_names" (.ref p7) (putF "field_names" (.ref p6) (putF "fields" (.ref p5) (putF "_other_members" (.ref p4) (putF "_shared" (.ref p3) (putF "_data" (.ref pd) fs)))))))))))).length ≤ fs.length + 12 := by have := length_putF "_parameters" (.ref p13) (putF "_by_name" (.ref p12) (putF "_by_position" (.ref p11) (putF "_init_only" (.ref p10) (putF "key_names" (.ref p9) (putF "show_names" (.ref p8) (putF "compare_names" (.ref p7) (putF "field_names" (.ref p6) (putF "fields" (.ref p5) (putF "_other_members" (.ref p4) (putF "_shared" (.ref p3) (putF "_data" (.ref pd) fs))))))))))); omega
    have g13 : FrB a H5 H13 := FrB.trans g12 f13
    have b13 : FrB a H11 H13 := FrB.trans b12 f13
    refine s_putN (o := .lst []) (en_list (ev_fld (ev_var rfl) a13 T.cls T.a__parameters lkEq) (sq_of h13)) (fun _ _ => ev_var rfl) a13 T.cls T.a__parameter_names (by omega) fun p14 H14 np14 a14 h14 f14 => ?_
    have r14 : FrB a H1 H14 := FrB.trans r13 f14
    have L14 : (putF "_parameter_names" (.ref p14) (putF "_parameters" (.ref p13) (putF "_by_name" (.ref p12) (putF "_by_position" (.ref p11) (putF "_init_only" (.ref p10) (putF "key_names" (.ref p9) (putF "show_names" (.ref p8) (putF "compare_names" (.ref p7) (putF "field_names" (.ref p6) (putF "fields" (.ref p5) (putF "_other_members" (.ref p4) (putF "_shared" (.ref p3) (putF "_data" (.ref pd) fs))))))))))))).length ≤ fs.length + 13 := by have := length_putF "_parameter_names" (.ref p14) (putF "_parameters" (.ref p13) (putF "_by_name" (.ref p12) (putF "_by_position" (.ref p11) (putF "_init_only" (.ref p10) (putF "key_names" (.ref p9) (putF "show_names" (.ref p8) (putF "compare_names" (.ref p7) (putF "field_names" (.ref p6) (putF "fields" (.ref p5) (putF "_other_members" (.ref p4) (putF "_shared" (.ref p3) (putF "_data" (.ref pd) fs)))))))))))); omega
    have g14 : FrB a H5 H14 := FrB.trans g13 f14
    have b14 : FrB a H11 H14 := FrB.trans b13 f14
    refine fin _ p11 H14 a14 ((lkNe (by decide +kernel)).trans ((lkNe (by decide +kernel)).trans ((lkNe (by decide +kernel)).trans lkEq))) (b14 _ _ h11 pba) (fun g hg => ?_) L14 (FrB.trans fr1 r14)
    have ne : ∀ k, k ∈ wholeKeys → g ≠ k := fun k hk e => hg (by rw [e]; exact hk)
    exact (lkNe (ne _ (by simp [wholeKeys]))).trans ((lkNe (ne _ (by simp [wholeKeys]))).trans ((lkNe (ne _ (by simp [wholeKeys]))).trans ((lkNe (ne _ (by simp [wholeKeys]))).trans ((lkNe (ne _ (by simp [wholeKeys]))).trans ((lkNe (ne _ (by simp [wholeKeys]))).trans ((lkNe (ne _ (by simp [wholeKeys]))).trans ((lkNe (ne _ (by simp [wholeKeys]))).trans ((lkNe (ne _ (by simp [wholeKeys]))).trans ((lkNe (ne _ (by simp [wholeKeys]))).trans ((lkNe (ne _ (by simp [wholeKeys]))).trans ((lkNe (ne _ (by simp [wholeKeys]))).trans (lkNe (ne _ (by simp [wholeKeys]))))))))))))))
end
end K28
end

section
set_option Elab.async false
set_option linter.all false
set_option maxRecDepth 100000
set_option maxHeartbeats 4000000
namespace K28
open PySem PySem.Spec PyProof.Rows L2 He Cn Evl
section
variable {P : Program} {w : World} {K : PySem.W.Frag} {mg : Str → Option Value} {base : Heap}
theorem LineErr.mono {G H : Hp} {rows : List (List Addr)} {E : XK} (e : Ex G H) (h : LineErr K G rows E) : LineErr K H rows E := fun d t ring H' hd e2 a b c f g => h d t ring H' (fresh_back e hd) (e.trans e2) a b c f g
theorem frb_ex {a : Addr} {H H' : Hp} (f : FrB a H H') : Ex (del H a) H' := fun b o h => by
  by_cases e : b = a
  · subst e
    rw [del_same] at h
    cases h
  · rw [del_ne e] at h
    exact f b o h e
theorem del_ex {a : Addr} {H : Hp} : Ex (del H a) H := fun b o h => by
  by_cases e : b = a
  · subst e
    rw [del_same] at h
    cases h
  · rw [del_ne e] at h
    exact h
def noKeys : List Str := [("_declare" : Str), ("_set_options" : Str), ("_set_own" : Str), ("_set_whole" : Str), ("MAX_MEMBERS" : Str), ("MAX_LINE" : Str)]
def NoM (fs : List (Str × V)) : Prop := ∀ m, m ∈ noKeys → fs.lookup m = none
theorem NoM.put {fs : List (Str × V)} {f : Str} {v : V} (h : NoM fs) (hf : f ∉ noKeys) : NoM (putF f v fs) := fun m hm => by
  rw [lkNe (fun e => hf (by rw [← e]; exact hm))]
  exact h m hm
theorem q_selfLine {σ : L2.St} {H : Hp} {a pl C dx : Addr} {fs : List (Str × V)} {l : List Addr} {tz : TS} {D : Ends} {f : Str} (v0 : σ[0]? = some (some (.ref a))) (v4 : σ[4]? = some (some (.ref pl))) (hl : SqL K H pl (refs l)) (hz : l.length ≤ 1000) (ha : H a = some (.ins C dx fs)) (c : Cls K C) (n : NoAttr K C f) (hlen : fs.length < 1000)
    (k : ∀ (pt : Addr) (o : Obj), H pt = none → o.dict = none → tz D σ (upd (upd H pt (.frz o (.tup (refs (a :: l))))) a (.ins C dx (putF f (.ref pt) fs)))) : tSeq (sFld K (tVar 0) (tTupZ (tCons (tVar 0) (StX.tStar K (tVar 4) tNil))) f) tz D σ H := by
  refine ⟨_, v0, _, v4, pl, refs l, rfl, .inr hl, ?_⟩
  have e1 : (V.ref a :: (refs l ++ [])) = refs (a :: l) := by
    rw [List.append_nil]
    rfl
  have ll : (refs (a :: l)).length = l.length + 1 := by unfold refs; rw [List.length_map, List.length_cons]
  show ((V.ref a :: (refs l ++ [])).length ≤ sizeLine ∧ ∀ (p : Addr) (o : Obj), H p = none → o.dict = none → tVar 0 σ (upd H p (.frz o (.tup (V.ref a :: (refs l ++ []))))) _)
  rw [e1]
  refine ⟨sz_of (by rw [ll]; omega), fun pt o hpt ho => ?_⟩
  have hpta : pt ≠ a := (ne_of_none ha hpt).symm
  exact ⟨_, v0, a, C, dx, fs, rfl, by rw [upd_ne hpta.symm]; exact ha, c, n, hlen, k pt o hpt ho⟩
/-- a kind that is declared -/
structure Made (K : PySem.W.Frag) (H : Hp) (a dx : Addr) (n : Nat) (l : List Addr) : Prop where
  kd : KdAt K H a l
  fs : ∃ fs, H a = some (.ins (kC K) dx fs) ∧ NoM fs ∧ fs.length ≤ n
def spDeclare (K : PySem.W.Frag) : Sp := fun vs H Q E => ∃ (a m t d dx : Addr) (fs : List (Str × V)) (tops cs : List Addr) (lines : List (List Addr)) (k : Nat), vs = [.ref a, .ref m, .ref t, .ref d] ∧ H a = some (.ins (kC K) dx fs) ∧ NoM fs ∧ fs.length ≤ 100 ∧
  SqT K (del H a) m [] ∧ m ≠ a ∧ Tops K (del H a) t tops lines ∧ (del H a) d = some (.dK []) ∧ tops.Nodup ∧ tops.length ≤ 30 ∧ Mg.Nd (lines ++ [tops]) ∧ (∀ l, l ∈ lines → l.length ≤ 40) ∧ (∀ r, r ∈ lines ++ [tops] → ∀ b, b ∈ r → Plain K (del H a) b) ∧
  Mg.Within cs (lines ++ [tops]) ∧ Mg.cnt cs (lines ++ [tops]) < k ∧ k ≤ 1000 ∧
  (∀ l, Mg.merge k (lines ++ [tops]) = some l → l.length ≤ 11 ∧ ∀ H', Made K H' a dx (fs.length + 30) (a :: l) → FrB a H H' → Q .non H') ∧
  (Mg.merge k (lines ++ [tops]) = none → LineErr K (del H a) (lines ++ [tops]) E)
theorem can_declare (T : Txt K mg) : ∃ fd, FnOk P w K mg base (L2.CX P w) 4 (ma K (kC K) "_declare") fd ["self", "members", "above", "options"] (spDeclare K) ∧ Binds K fd ["self", "members", "above", "options"] [] := by
  have C1 : Can P w K mg base CX0 1 "check_members" ["members"] (spChkMembers K) := can_chkMembers T
  have C2 : Can P w K mg base CX0 1 "check_options" ["options"] spChkOptions := can_chkOptions T
  have C3 : Can P w K mg base CX0 1 "check_above" ["above"] (spChkAbove K) := can_chkAbove T
  have C4 : Can P w K mg base (L2.CX P w) 3 "line_above" ["above"] (spLineAbove K) := can_lineAbove T
  have C5 : Can P w K mg base CX0 1 "check_mixture" ["line"] (spMixture K) := can_mixture T
  have C6 : Can P w K mg base CX0 1 "check_frozen" ["line"] (spFrozen K) := can_frozen T
  have C7 : Can P w K mg base CX0 1 "whole_members" ["line"] (spWholeMembers K) := can_wholeMembers T
  have C8 : Can P w K mg base CX0 1 "check_defaults" ["members"] (spDefaults K) := can_defaults T
  obtain ⟨fdO, FO, bO⟩ := can_setOptions (P := P) (w := w) (base := base) T
  obtain ⟨fdN, FN, bN⟩ := can_setOwn (P := P) (w := w) (base := base) T
  obtain ⟨fdW, FW, bW⟩ := can_setWhole (P := P) (w := w) (base := base) T
  obtain ⟨fd, F⟩ := T.F_Kind__declare
  refine ⟨fd, F.okX sc_Kind__declare (fun vs H Q E h => ?_) (fun cdv A outer s H vs Q E hr h => ?_), F.binds (ps := ["self", "members", "above", "options"]) fun _ _ _ _ _ _ us hl => match us, hl with | [_, _, _, _], _ => rfl⟩
  · obtain ⟨a, m, t, d, dx, fs, tops, cs, lines, k, rfl, _⟩ := h
    rfl
  · obtain ⟨a, m, t, d, dx, fs, tops, cs, lines, k, rfl, ha, nm, hlen, hm, hma, hT, hd, ndt, hz, ndr, hll, hpl, hw, hc, hk, fin, err⟩ := h
    have nd := sc_Kind__declare.nd
    have hr1 : Room 1 _ := hr.mono (by decide)
    refine ⟨_, pss_cons (ps_expr (pe_can C1 hr pass0 (pa_cons (pv 1) pa_nil)))
      (pss_cons (ps_expr (pe_can C2 hr pass0 (pa_cons (pv 3) pa_nil)))
      (pss_cons (ps_expr (pe_can C3 hr pass0 (pa_cons (pv 2) pa_nil)))
      (pss_cons (ps_fld (pv 0) (pv 2) rfl)
      (pss_cons (ps_expr (pe_meth (pv 0) T.cls T.m__set_options FO hr1 bO .nil pass0 (pa_cons (pv 3) pa_nil)))
      (pss_cons (ps_expr (pe_meth (pv 0) T.cls T.m__set_own FN hr1 bN .nil pass0 (pa_cons (pv 1) pa_nil)))
      (pss_cons (ps_set (i := 4) nd rfl (.inl rfl) (pe_can C4 hr (passes_call (takes_of rfl rfl rfl rfl) fun _ _ _ _ h => h) (pa_cons (pv 2) pa_nil)))
      (pss_cons (ps_fld (pv 0) (pe_tupZ (pa_cons (pv 0) (StX.pa_star (pv 4) pa_nil))) rfl)
      (pss_cons (ps_expr (pe_can C5 hr pass0 (pa_cons (pe_fld (pv 0) rfl) pa_nil)))
      (pss_cons (ps_expr (pe_can C6 hr pass0 (pa_cons (pe_fld (pv 0) rfl) pa_nil)))
      (pss_cons (ps_if (PW.pt (pw_and (pt_val (pe_fld (pv 0) rfl)) (pw_and1 (pt_not (pt_val (pe_fld (pv 0) rfl)))))) (pss_one ps_never) pss_nil)
      (pss_cons (ps_expr (pe_meth (pv 0) T.cls T.m__set_whole FW hr1 bW .nil pass0 (pa_cons (pe_can C7 hr pass0 (pa_cons (pe_fld (pv 0) rfl) pa_nil)) pa_nil)))
      (pss_one (ps_expr (pe_can C8 hr pass0 (pa_cons (pe_fld (pv 0) rfl) pa_nil))))))))))))))), ?_⟩
    generalize hr0 : lines ++ [tops] = rows0 at *
    generalize hG : del H a = G at *
    have eG : Ex G H := by rw [← hG]; exact del_ex
    have ga : G a = none := by rw [← hG]; exact del_same
    have frG : ∀ {H1 H2 : Hp}, Ex G H1 → FrB a H1 H2 → Ex G H2 := fun {H1 H2} e f b o h => by
      have hb : b ≠ a := fun q => by
        rw [q, ga] at h
        cases h
      exact f b o (e b o h) hb
    have ks : Ks (kC K) G rows0 := fun r hr b hb => by
      obtain ⟨dx', m', fs', h1, _⟩ := hpl r hr b hb
      exact ⟨dx', fs', h1⟩
    have htk : ∀ b, b ∈ tops → KO (kC K) G b := fun b hb => ks tops (by rw [← hr0]; simp) b hb
    have lp : ∀ (f : Str) (v : V) (gs : List (Str × V)), (putF f v gs).length ≤ gs.length + 1 := length_putF
    -- the three checks
    refine q_drop (v := .non) (ev_call (ea_cons (ev_var rfl) ea_nil) fun H1 e Q q E => ⟨m, rfl, ex_t (eG.trans e) hm, fun H2 e2 => q H2 e2⟩) fun H1 e1 => ?_
    refine q_drop (v := .non) (ev_call (ea_cons (ev_var rfl) ea_nil) fun H2 e Q q E => ⟨d, rfl, ((eG.trans e1).trans e) _ _ hd, fun H2 e2 => q H2 e2⟩) fun H2 e2 => ?_
    have e02 := e1.trans e2
    refine q_drop (v := .non) (ev_call (ea_cons (ev_var rfl) ea_nil) fun H3 e Q q E => ⟨t, tops, rfl, ex_t ((eG.trans e02).trans e) hT.1, ndt, fun b hb => (htk b hb).ex ((eG.trans e02).trans e), by omega, fun H2 e2 => q H2 e2⟩) fun H3 e3 => ?_
    have e03 := e02.trans e3
    have a3 := e03 _ _ ha
    have f03 : FrB a H H3 := fun b u hb _ => e03 _ _ hb
    -- self.above
    refine q_putV (v := .ref t) (ev_var rfl) (fun _ _ => ev_var rfl) a3 T.cls T.a_above (by omega) fun H4 a4 f4 => ?_
    have f04 : FrB a H H4 := FrB.trans f03 f4
    have e4 : Ex G H4 := frG eG f04
    have n4 : NoM (putF "above" (.ref t) fs) := nm.put (by decide +kernel)
    have l4 := lp "above" (.ref t) fs
    generalize putF "above" (.ref t) fs = fs4 at *
    -- the options
    refine ⟨_, rfl, a, dx, fs4, rfl, a4, n4 _ (by simp [noKeys]), _, rfl, a, d, dx, fs4, rfl, a4, e4 _ _ hd, by omega, fun H5 a5 f5 => ?_⟩
    have f05 : FrB a H H5 := FrB.trans f04 f5
    have e5 : Ex G H5 := frG eG f05
    have n5 : NoM (put5 fs4) := ((((n4.put (by decide +kernel)).put (by decide +kernel)).put (by decide +kernel)).put (by decide +kernel)).put (by decide +kernel)
    have l5 : (put5 fs4).length ≤ fs4.length + 5 := by
      have h1 := lp "equal" (.bl true) fs4
      have h2 := lp "order" (.bl false) (putF "equal" (.bl true) fs4)
      have h3 := lp "frozen" (.bl false) (putF "order" (.bl false) (putF "equal" (.bl true) fs4))
      have h4 := lp "only_named" (.bl false) (putF "frozen" (.bl false) (putF "order" (.bl false) (putF "equal" (.bl true) fs4)))
      have h5 := lp "show" (.bl true) (putF "only_named" (.bl false) (putF "frozen" (.bl false) (putF "order" (.bl false) (putF "equal" (.bl true) fs4))))
      unfold put5
      omega
    have kf : (put5 fs4).lookup ("frozen" : Str) = some (.bl false) := (lkNe (by decide +kernel)).trans ((lkNe (by decide +kernel)).trans lkEq)
    have ko : (put5 fs4).lookup ("order" : Str) = some (.bl false) := (lkNe (by decide +kernel)).trans ((lkNe (by decide +kernel)).trans ((lkNe (by decide +kernel)).trans lkEq))
    generalize put5 fs4 = fs5 at *
    -- the own members
    refine ⟨_, rfl, a, dx, fs5, rfl, a5, n5 _ (by simp [noKeys]), _, rfl, a, m, dx, fs5, rfl, a5, ex_t e5 hm, hma, by omega, fun om od H6 hom hod homa a6 h6 f6 => ?_⟩
    have f06 : FrB a H H6 := FrB.trans f05 f6
    have e6 : Ex G H6 := frG eG f06
    have n6 : NoM (put3 om od fs5) := ((n5.put (by decide +kernel)).put (by decide +kernel)).put (by decide +kernel)
    have l6 : (put3 om od fs5).length ≤ fs5.length + 3 := by
      have h1 := lp "own_hook" .non fs5
      have h2 := lp "own_members" (.ref om) (putF "own_hook" .non fs5)
      have h3 := lp "own_methods" (.ref od) (putF "own_members" (.ref om) (putF "own_hook" .non fs5))
      unfold put3
      omega
    have kf6 : (put3 om od fs5).lookup ("frozen" : Str) = some (.bl false) := (lkNe (by decide +kernel)).trans ((lkNe (by decide +kernel)).trans ((lkNe (by decide +kernel)).trans kf))
    have ko6 : (put3 om od fs5).lookup ("order" : Str) = some (.bl false) := (lkNe (by decide +kernel)).trans ((lkNe (by decide +kernel)).trans ((lkNe (by decide +kernel)).trans ko))
    have km6 : (put3 om od fs5).lookup ("own_members" : Str) = some (.ref om) := (lkNe (by decide +kernel)).trans lkEq
    generalize put3 om od fs5 = fs6 at *
    -- the line
    refine ⟨_, rfl, t, tops, cs, lines, k, rfl, hT.ex e6, hz, (by rw [hr0]; exact ndr), hll, (by rw [hr0]; exact ks.ex e6), (by rw [hr0]; exact hw), (by rw [hr0]; exact hc), hk, ?_, fun hn => (by rw [hr0] at hn ⊢; exact (err hn).mono e6)⟩
    intro l hl pl H7 hpl7 e67 h7
    rw [hr0] at hl
    obtain ⟨hll11, fin⟩ := fin l hl
    have hmem := (Mg.merge_nodup k rows0 l hl).2
    have a7 := e67 _ _ a6
    have f07 : FrB a H H7 := FrB.ex f06 e67
    have e7 : Ex G H7 := frG eG f07
    have h67 : H7 om = some (.tup []) := e67 _ _ h6
    refine q_selfLine rfl rfl (sq_of h7) (by omega) a7 T.cls T.a_line (by omega) fun pt o hpt ho => ?_
    have hpta : pt ≠ a := (ne_of_none a7 hpt).symm
    have hptm : pt ≠ om := (ne_of_none h67 hpt).symm
    have n8 : NoM (putF "line" (.ref pt) fs6) := n6.put (by decide +kernel)
    have l8 := lp "line" (.ref pt) fs6
    have kl8 : (putF "line" (.ref pt) fs6).lookup ("line" : Str) = some (.ref pt) := lkEq
    have kf8 : (putF "line" (.ref pt) fs6).lookup ("frozen" : Str) = some (.bl false) := (lkNe (by decide +kernel)).trans kf6
    have ko8 : (putF "line" (.ref pt) fs6).lookup ("order" : Str) = some (.bl false) := (lkNe (by decide +kernel)).trans ko6
    have km8 : (putF "line" (.ref pt) fs6).lookup ("own_members" : Str) = some (.ref om) := (lkNe (by decide +kernel)).trans km6
    generalize putF "line" (.ref pt) fs6 = fs8 at *
    generalize hH8 : upd (upd H7 pt (.frz o (.tup (refs (a :: l))))) a (.ins (kC K) dx fs8) = H8
    have a8 : H8 a = some (.ins (kC K) dx fs8) := by rw [← hH8, upd_same]
    have t8 : H8 pt = some (.frz o (.tup (refs (a :: l)))) := by rw [← hH8, upd_ne hpta, upd_same]
    have m8 : H8 om = some (.tup []) := by rw [← hH8, upd_ne homa, upd_ne hptm.symm]; exact h67
    have f78 : FrB a H7 H8 := fun b u hb hba => by rw [← hH8, upd_ne hba, upd_ne (ne_of_none hb hpt)]; exact hb
    have f08 : FrB a H H8 := FrB.trans f07 f78
    have e8 : Ex G H8 := frG eG f08
    have plain : ∀ {H9 : Hp}, Ex H8 H9 → ∀ b, b ∈ a :: l → Plain K H9 b := fun {H9} e b hb => by
      rcases List.mem_cons.mp hb with q | q
      · subst q
        exact ⟨dx, om, fs8, e _ _ a8, km8, st_of (e _ _ m8), kf8⟩
      · obtain ⟨r, hr, hx⟩ := (hmem b).mp q
        exact (hpl r hr b hx).ex (e8.trans e)
    have tt : ∀ {H9 : Hp}, Ex H8 H9 → SqT K H9 pt (refs (a :: l)) := fun e => .inl (.inr ⟨o, e _ _ t8⟩)
    have evl : ∀ {H9 : Hp} {σ : L2.St}, Ex H8 H9 → σ[0]? = some (some (.ref a)) → Ev (tFld K (tVar 0) "line") σ H9 (.ref pt) := fun e hv => ev_fld (ev_var hv) (e _ _ a8) T.cls T.a_line kl8
    refine q_drop (v := .non) (ev_call (ea_cons (evl (Ex.refl _) rfl) ea_nil) fun H9 e Q q E => ⟨pt, a :: l, rfl, tt e, plain e, by rw [List.length_cons]; omega, fun H2 e2 => q H2 e2⟩) fun H9 e9 => ?_
    refine q_drop (v := .non) (ev_call (ea_cons (evl e9 rfl) ea_nil) fun H10 e Q q E => ⟨pt, a, l, rfl, tt (e9.trans e), plain (e9.trans e), by omega, fun H2 e2 => q H2 e2⟩) fun H10 e10 => ?_
    have e8A := e9.trans e10
    refine q_when (b := false) (et_is (et_and (a := false) (b := false) (et_B (ev_fld (ev_var rfl) (e8A _ _ a8) T.cls T.a_order ko8)) (fun h => by cases h)) rfl) (fun h => by cases h) fun _ H11 e11 => ?_
    have e8B := e8A.trans e11
    -- what is whole
    refine ⟨_, rfl, a, dx, fs8, rfl, e8B _ _ a8, n8 _ (by simp [noKeys]), ?_⟩
    refine evl e8B rfl H11 (Ex.refl _) _ fun H12 e12 => ?_
    have e8C := e8B.trans e12
    refine ⟨pt, a :: l, rfl, tt e8C, plain e8C, by rw [List.length_cons]; omega, fun pw H13 hpw e13 h13 => ?_⟩
    have e8D := e8C.trans e13
    refine ⟨a, pw, dx, pt, fs8, a :: l, rfl, e8D _ _ a8, h13, kl8, tt e8D, hpta, by rw [List.length_cons]; omega, n8 _ (by simp [noKeys]), n8 _ (by simp [noKeys]), by omega, fun fs' bp H14 a14 kbp h14 keep l14 f14 => ?_⟩
    have ebp : Ev (tFld K (tVar 0) "_by_position") _ H14 (.ref bp) := ev_fld (ev_var (i := 0) (σ := [some (.ref a), some (.ref m), some (.ref t), some (.ref d), some (.ref pl)]) rfl) a14 T.cls T.a__by_position kbp
    refine s_drop (v := .non) (ev_call (ea_cons ebp ea_nil) fun H15 e Q q E => ⟨bp, rfl, sq_of (e _ _ h14), fun H2 e2 => q H2 e2⟩) fun H15 e15 => ?_
    have f8E : FrB a H8 H14 := FrB.trans (fun b u hb _ => e8D _ _ hb) f14
    have f0E : FrB a H H14 := FrB.trans f08 f8E
    have nk : ∀ g, g ∉ wholeKeys → fs'.lookup g = fs8.lookup g := keep
    refine fin H15 ⟨⟨dx, pt, om, fs', e15 _ _ a14, (nk _ (by decide +kernel)).trans kl8, SqD.of (e15 _ _ (f8E _ _ t8 hpta)) ho, (nk _ (by decide +kernel)).trans km8, st_of (e15 _ _ (f8E _ _ m8 homa)), (nk _ (by decide +kernel)).trans kf8⟩, fs', e15 _ _ a14, fun g hg => ?_, by omega⟩ (FrB.ex f0E e15)
    rw [nk g ?_]
    · exact n8 g hg
    · have : ∀ g, g ∈ noKeys → g ∉ wholeKeys := by decide +kernel
      exact this g hg
end
end K28
end

section
set_option Elab.async false
set_option linter.all false
set_option maxRecDepth 100000
set_option maxHeartbeats 4000000
namespace K28
open PySem PySem.Spec PyProof.Rows L2 He Cn Evl
section
variable {P : Program} {w : World} {K : PySem.W.Frag} {mg : Str → Option Value} {base : Heap}
/-- what stands above a kind that is declared -/
structure Abv (K : PySem.W.Frag) (G : Hp) (t : Addr) (tops cs : List Addr) (lines : List (List Addr)) (k : Nat) : Prop where
  tp : Tops K G t tops lines
  nd : tops.Nodup
  len : tops.length ≤ 30
  ndr : Mg.Nd (lines ++ [tops])
  ll : ∀ l, l ∈ lines → l.length ≤ 40
  pl : ∀ r, r ∈ lines ++ [tops] → ∀ b, b ∈ r → Plain K G b
  wi : Mg.Within cs (lines ++ [tops])
  ct : Mg.cnt cs (lines ++ [tops]) < k
  kl : k ≤ 1000
theorem Abv.ex {G H : Hp} {t : Addr} {tops cs : List Addr} {lines : List (List Addr)} {k : Nat} (e : Ex G H) (h : Abv K G t tops cs lines k) : Abv K H t tops cs lines k :=
  ⟨h.tp.ex e, h.nd, h.len, h.ndr, h.ll, fun r hr b hb => (h.pl r hr b hb).ex e, h.wi, h.ct, h.kl⟩
/-- the body of Kind.__init__: self, name, above, members, options -/
def spInitB (K : PySem.W.Frag) : Sp := fun vs H Q E => ∃ (a t m d dx : Addr) (z : Str) (tops cs : List Addr) (lines : List (List Addr)) (k : Nat), vs = [.ref a, .str z, .ref t, .ref m, .ref d] ∧ goodName z = true ∧ H a = some (.ins (kC K) dx []) ∧
  SqT K (del H a) m [] ∧ m ≠ a ∧ (del H a) d = some (.dK []) ∧ Abv K (del H a) t tops cs lines k ∧
  (∀ l, Mg.merge k (lines ++ [tops]) = some l → l.length ≤ 11 ∧ ∀ H', Made K H' a dx 40 (a :: l) → FrB a H H' → Q .non H') ∧
  (Mg.merge k (lines ++ [tops]) = none → LineErr K (del H a) (lines ++ [tops]) E)
theorem init_body (T : Txt K mg) {cdv : Value} {A : Around} {outer : List Env} {s : Shared} {H : Hp} {vs : List V} {Q : VK} {E : XK} {f : Addr} (hr : Room 4 (A.deeper (envOfC "Kind.__init__" (defScope s_Kind_init) s.heap.objs.size f cdv))) (h : spInitB K vs H Q E) :
    ∃ t, PSs (cxOf (L2.CX P w) P w K mg base ["self", "name", "above", "members", "options"] "Kind.__init__" (defScope s_Kind_init) f cdv A outer s H E) (defBody s_Kind_init) t ∧ t { nx := fun _ H' => Q .non H', rt := Q } (start ["self", "name", "above", "members", "options"] vs) H := by
  have C1 : Can P w K mg base CX0 1 "is_name" ["value"] spIsName := can_isName T
  obtain ⟨fdD, FD, bD⟩ := can_declare (P := P) (w := w) (base := base) T
  obtain ⟨a, t, m, d, dx, z, tops, cs, lines, k, rfl, hz, ha, hm, hma, hd, hA, fin, err⟩ := h
  have nd := sc_Kind_init.nd
  refine ⟨_, pss_cons (ps_if (pt_not (pt_val (pe_can C1 hr pass0 (pa_cons (pv 1) pa_nil)))) (pss_one ps_never) pss_nil)
    (pss_cons (ps_fld (pv 0) (pv 1) rfl)
    (pss_one (ps_expr (pe_meth (pv 0) T.cls T.m__declare FD hr bD .nil (passes_call (takes_of rfl rfl rfl rfl) fun _ _ _ _ h => h) (pa_cons (pv 3) (pa_cons (pv 2) (pa_cons (pv 4) pa_nil))))))), ?_⟩
  refine q_when (et_not (a := true) (et_B (ev_call (ea_cons (ev_var rfl) ea_nil) fun H1 e Q q E => ⟨z, rfl, hz, fun H2 e2 => q H2 e2⟩))) (fun h => by cases h) fun _ H1 e1 => ?_
  have a1 := e1 _ _ ha
  refine q_putV (v := .str z) (ev_var rfl) (fun _ _ => ev_var rfl) a1 T.cls T.a_name (by decide) fun H2 a2 f2 => ?_
  have f02 : FrB a H H2 := fun b u hb hba => f2 b u (e1 _ _ hb) hba
  have n2 : NoM (putF "name" (.str z) []) := NoM.put (fun m _ => rfl) (by decide +kernel)
  have l2 := length_putF "name" (.str z) []
  have e2 : Ex (del H a) (del H2 a) := fun b o h => by
    have h' := frb_ex f02 b o h
    by_cases e : b = a
    · subst e
      rw [del_same] at h
      cases h
    · rw [del_ne e]
      exact h'
  generalize putF "name" (.str z) [] = fs2 at *
  have l2 : fs2.length ≤ 1 := l2
  have hA2 := hA.ex e2
  refine ⟨_, rfl, a, dx, fs2, rfl, a2, n2 _ (by simp [noKeys]), _, rfl, _, rfl, _, rfl, a, m, t, d, dx, fs2, tops, cs, lines, k, rfl, a2, n2, by omega, ex_t e2 hm, hma, hA2.tp, e2 _ _ hd, hA2.nd, hA2.len, hA2.ndr, hA2.ll, hA2.pl, hA2.wi, hA2.ct, hA2.kl, fun l hl => ⟨(fin l hl).1, fun H3 M3 f3 => (fin l hl).2 H3 ⟨M3.kd, ?_⟩ (FrB.trans f02 f3)⟩, fun hn => (err hn).mono e2⟩
  obtain ⟨fs3, h1, h2, h3⟩ := M3.fs
  exact ⟨fs3, h1, h2, by omega⟩
/-- Kind(name) -/
def spInit1 (K : PySem.W.Frag) : Sp := fun vs H Q _ => ∃ (a dx : Addr) (z : Str), vs = [.ref a, .str z] ∧ goodName z = true ∧ H a = some (.ins (kC K) dx []) ∧ ∀ H', Made K H' a dx 40 [a] → FrB a H H' → Q .non H'
theorem abv_nil (T : Txt K mg) {G : Hp} : Abv K G (kwAbove K) [] [] [] 1 := by
  refine ⟨⟨T.e1 G, rfl, fun i a l h => by simp at h⟩, List.nodup_nil, Nat.zero_le _, fun r hr => ?_, (fun l h => by cases h), fun r hr b hb => ?_, fun r hr b hb => ?_, by decide, by decide⟩
  all_goals
    obtain rfl := List.mem_singleton.mp hr
    first | exact List.nodup_nil | cases hb
/-- what a fresh pair of an empty tuple and an empty dict changes -/
theorem ex_two {H : Hp} {p d : Addr} {u v : HO} (hp : H p = none) (hd : H d = none) (hne : d ≠ p) : Ex H (upd (upd H p u) d v) := (Ex.new hp).trans (Ex.new (by rw [upd_ne hne]; exact hd))
theorem del_mono {a : Addr} {H H' : Hp} (e : Ex H H') : Ex (del H a) (del H' a) := fun b o h => by
  by_cases q : b = a
  · subst q
    rw [del_same] at h
    cases h
  · rw [del_ne q] at h ⊢
    exact e b o h
theorem initB_of {H : Hp} {a dx t p d : Addr} {z : Str} {tops cs : List Addr} {lines : List (List Addr)} {k : Nat} {Q : VK} {E : XK} (hz : goodName z = true) (ha : H a = some (.ins (kC K) dx [])) (hp : H p = none) (hd : H d = none) (hne : d ≠ p) (hA : Abv K (del H a) t tops cs lines k)
    (fin : ∀ l, Mg.merge k (lines ++ [tops]) = some l → l.length ≤ 11 ∧ ∀ H', Made K H' a dx 40 (a :: l) → FrB a H H' → Q .non H') (err : Mg.merge k (lines ++ [tops]) = none → LineErr K (del H a) (lines ++ [tops]) E) :
    spInitB K [.ref a, .str z, .ref t, .ref p, .ref d] (upd (upd H p (.tup [])) d (.dK [])) Q E := by
  have e : Ex H (upd (upd H p (.tup [])) d (.dK [])) := ex_two hp hd hne
  have hpa : p ≠ a := (ne_of_none ha hp).symm
  have hda : d ≠ a := (ne_of_none ha hd).symm
  exact ⟨a, t, p, d, dx, z, tops, cs, lines, k, rfl, hz, e _ _ ha, st_of (by rw [del_ne hpa, upd_ne hne.symm, upd_same]), hpa, by rw [del_ne hda, upd_same], hA.ex (del_mono e),
    fun l hl => ⟨(fin l hl).1, fun H' M f => (fin l hl).2 H' M fun b u hb hba => f b u (e _ _ hb) hba⟩, fun hn => (err hn).mono (del_mono e)⟩
theorem fnr_init (T : Txt K mg) : FnR P w K mg base (L2.CX P w) 5 (ma K (kC K) "__init__") (spInit1 K) := by
  obtain ⟨fd, F⟩ := T.F_Kind_init
  obtain ⟨oc, od, dV, kV, doc, pm, an, cdv, ct, osl, rfl, lk, hcd, hD, hK⟩ := F.ex
  have hD : DflV K dV [] := hD
  have hK : KwdV K kV [("above", .ref (kwAbove K))] := hK
  obtain rfl : dV = .none := by
    rcases hD with ⟨_, q⟩ | ⟨q, _⟩
    · exact q
    · exact absurd rfl q
  rcases hK with q | ⟨D, rfl, hK2⟩
  · cases q
  obtain ⟨u, hu, ru⟩ := hK2 _ (List.mem_singleton.mpr rfl)
  obtain rfl : u = Value.ref (kwAbove K) := ru
  intro A outer s H us vs Q E hr e0 rv h
  obtain ⟨a, dx, z, rfl, hz, ha, fin⟩ := h
  obtain ⟨u1, u2, rfl, r1, r2⟩ := vals2 rv
  refine InC.run_in (ps := ["self", "name", "above"]) (us := [u1, u2, .ref (kwAbove K)]) (vs := [.ref a, .str z, .ref (kwAbove K)]) (pv := "members") (pd := "options") (sp := spInitB K) lk hcd sc_Kind_init StX.cxUp hr e0 (InC.bnd_dflt hu ⟨_, _, _, _, _, _, rfl, rfl, rfl⟩) (.cons r1 (.cons r2 (.cons rfl .nil))) rfl (fun A outer s H vs Q E hr h => init_body T hr h) fun p d hp hd hne => ?_
  refine initB_of hz ha hp hd hne (abv_nil T) (fun l hl => ?_) fun hn => ?_
  · have : l = [] := by
      have e : Mg.merge 1 (([] : List (List Addr)) ++ [[]]) = some [] := rfl
      rw [e] at hl
      exact (Option.some.inj hl).symm
    subst this
    exact ⟨by decide, fin⟩
  · have e : Mg.merge 1 (([] : List (List Addr)) ++ [[]]) = some [] := rfl
    rw [e] at hn
    cases hn
/-- Kind(name, above=tops) -/
def spInitK (K : PySem.W.Frag) : List V → List V → Hp → VK → XK → Prop := fun vs zs H Q E => ∃ (a dx t : Addr) (z : Str) (tops cs : List Addr) (lines : List (List Addr)) (k : Nat), vs = [.ref a, .str z] ∧ zs = [.ref t] ∧ goodName z = true ∧ H a = some (.ins (kC K) dx []) ∧ Abv K (del H a) t tops cs lines k ∧
  (∀ l, Mg.merge k (lines ++ [tops]) = some l → l.length ≤ 11 ∧ ∀ H', Made K H' a dx 40 (a :: l) → FrB a H H' → Q .non H') ∧ (Mg.merge k (lines ++ [tops]) = none → LineErr K (del H a) (lines ++ [tops]) E)
theorem fnk_init (T : Txt K mg) : InC.FnKw P w K mg base (L2.CX P w) 5 (ma K (kC K) "__init__") ["above"] (spInitK K) := by
  obtain ⟨fd, F⟩ := T.F_Kind_init
  obtain ⟨oc, od, dV, kV, doc, pm, an, cdv, ct, osl, rfl, lk, hcd, hD, hK⟩ := F.ex
  have hD : DflV K dV [] := hD
  have hK : KwdV K kV [("above", .ref (kwAbove K))] := hK
  obtain rfl : dV = .none := by
    rcases hD with ⟨_, q⟩ | ⟨q, _⟩
    · exact q
    · exact absurd rfl q
  rcases hK with q | ⟨D, rfl, hK2⟩
  · cases q
  intro A outer s H us ws vs zs Q E hr e0 rv rz hz0 h
  obtain ⟨a, dx, t, z, tops, cs, lines, k, rfl, rfl, hz, ha, hA, fin, err⟩ := h
  obtain ⟨u1, u2, rfl, r1, r2⟩ := vals2 rv
  obtain ⟨u3, rfl, r3⟩ := vals1 rz
  refine InC.run_in (ps := ["self", "name", "above"]) (us := [u1, u2, u3]) (vs := [.ref a, .str z, .ref t]) (pv := "members") (pd := "options") (sp := spInitB K) lk hcd sc_Kind_init StX.cxUp hr e0 (InC.bnd_all rfl) (.cons r1 (.cons r2 (.cons r3 .nil))) rfl (fun A outer s H vs Q E hr h => init_body T hr h) fun p d hp hd hne => ?_
  exact initB_of hz ha hp hd hne hA fin err
end
end K28
end

section
set_option Elab.async false
set_option linter.all false
set_option maxRecDepth 100000
set_option maxHeartbeats 4000000
namespace K28
open PySem PySem.Spec PyProof.Rows L2 He Cn Evl
section
variable {P : Program} {w : World} {K : PySem.W.Frag} {mg : Str → Option Value} {base : Heap}
/-- Kind.of(name, members, above) -/
def spOf (K : PySem.W.Frag) : Sp := fun vs H Q E => ∃ (z : Str) (m t : Addr) (tops cs : List Addr) (lines : List (List Addr)) (k : Nat), vs = [.ref (kC K), .str z, .ref m, .ref t, .non] ∧ goodName z = true ∧ H m = some (.tup []) ∧ Abv K H t tops cs lines k ∧
  (∀ l, Mg.merge k (lines ++ [tops]) = some l → l.length ≤ 11 ∧ ∀ (a dx : Addr) (H' : Hp), H a = none → Made K H' a dx 100 (a :: l) → Ex H H' → Q (.ref a) H') ∧
  (Mg.merge k (lines ++ [tops]) = none → LineErr K H (lines ++ [tops]) E)
theorem ok_of (T : Txt K mg) : ∃ fd, FnOk P w K mg base (L2.CX P w) 7 (He5.wf K (kC K) "classmethod" "of") fd ["cls", "name", "members", "above", "options"] (spOf K) ∧ Binds K fd ["cls", "name", "members", "above", "options"] [Value.none] := by
  obtain ⟨fdD, FD, bD⟩ := can_declare (P := P) (w := w) (base := base) T
  have FI := fnr_init (P := P) (w := w) (base := base) T
  obtain ⟨fd, F⟩ := T.F_Kind_of
  refine ⟨fd, F.ok sc_Kind_of (fun vs H Q E h => ?_) (fun cdv A outer s H vs Q E hr h => ?_), ?_⟩
  · obtain ⟨z, m, t, tops, cs, lines, k, rfl, _⟩ := h
    rfl
  · obtain ⟨z, m, t, tops, cs, lines, k, rfl, hz, hm, hA, fin, err⟩ := h
    have nd := sc_Kind_of.nd
    refine ⟨_, pss_cons (ps_set (i := 5) nd rfl (.inl rfl) (InC.pe_makeL (i := 0) T.kmk FI hr rfl (.inl rfl) (passes_call (takes_of rfl rfl rfl rfl) fun _ _ _ _ h => h) (pa_cons (pv 1) pa_nil)))
      (pss_cons (ps_expr (pe_meth (pv 5) T.cls T.m__declare FD (hr.mono (by decide)) bD .nil (passes_call (takes_of rfl rfl rfl rfl) fun _ _ _ _ h => h) (pa_cons (pv 2) (pa_cons (pv 3) (pa_cons (pe_ifExp (pt_cmp (pc_isN (pv 4))) pe_dnewK (pv 4)) pa_nil)))))
      (pss_one (ps_ret (pv 5)))), ?_⟩
    refine ⟨rfl, _, rfl, fun a dx hna hnd hne => ⟨a, dx, z, rfl, hz, upd_same, fun H1 M1 f1 => ⟨rfl, ?_⟩⟩⟩
    have e1 : Ex H (del H1 a) := fun b o h => by
      have hb : b ≠ a := ne_of_none h hna
      rw [del_ne hb]
      refine f1 b o ?_ hb
      rw [upd_ne hb, upd_ne (ne_of_none h hnd)]
      exact h
    obtain ⟨fs1, a1, n1, l1⟩ := M1.fs
    have hA1 := hA.ex e1
    have hma : m ≠ a := ne_of_none hm hna
    have c1 : Ex (del H1 a) H1 := del_ex
    refine ⟨_, rfl, a, dx, fs1, rfl, a1, n1 _ (by simp [noKeys]), _, rfl, _, rfl, _, rfl, true, rfl, fun d hd => ?_⟩
    have e2 : Ex H1 (upd H1 d (.dK [])) := Ex.new hd
    have hda : d ≠ a := (ne_of_none a1 hd).symm
    generalize hH2 : upd H1 d (.dK []) = H2 at *
    have h2d : H2 d = some (.dK []) := by rw [← hH2, upd_same]
    have hA2 := hA1.ex (del_mono e2)
    have e02 : Ex H (del H2 a) := e1.trans (del_mono e2)
    refine ⟨a, m, t, d, dx, fs1, tops, cs, lines, k, rfl, e2 _ _ a1, n1, by omega, st_of (e02 _ _ hm), hma, hA2.tp, (by rw [del_ne hda]; exact h2d), hA2.nd, hA2.len, hA2.ndr, hA2.ll, hA2.pl, hA2.wi, hA2.ct, hA2.kl, fun l' hl' => ?_, fun hn => (err hn).mono e02⟩
    obtain ⟨hll, fin⟩ := fin l' hl'
    refine ⟨hll, fun H3 M3 f3 => ?_⟩
    refine ⟨_, rfl, fin a dx H3 hna ⟨M3.kd, ?_⟩ fun b o h => ?_⟩
    · obtain ⟨fs3, q1, q2, q3⟩ := M3.fs
      exact ⟨fs3, q1, q2, by omega⟩
    · have hb : b ≠ a := ne_of_none h hna
      exact f3 b o (e2 _ _ (c1 _ _ (e1 b o h))) hb
  · obtain ⟨ds, hv, hb⟩ := F.binds1 (ps := ["cls", "name", "members", "above", "options"]) 4 1 (by simp [He5.DefA.dvs, d_Kind_of]) rfl (fun T kV doc pm an cdv ct us its h1 h2 => match us, its, h1, h2 with | [_, _, _, _], [_, _], _, _ => ⟨_, rfl, rfl⟩)
    have : ds = [Value.none] := by
      have hv : Vals [.non] ds := hv
      obtain ⟨u, rfl, r⟩ := vals1 hv
      obtain rfl : u = Value.none := r
      rfl
    rw [this] at hb
    exact hb
end
end K28
end

section
set_option Elab.async false
set_option linter.all false
set_option maxRecDepth 100000
set_option maxHeartbeats 4000000
namespace K28
open PySem PySem.Spec PyProof.Rows L2 He Cn Evl
/-! ### the law's own merge, over numbers -/
def nts (r : List Nat) : List V := r.map fun (n : Nat) => V.int (n : Int)
theorem nts_at {r : List Nat} {i : Nat} {x : V} (h : (nts r)[i]? = some x) : ∃ n, r[i]? = some n ∧ x = .int (n : Int) := by
  unfold nts at h
  rw [List.getElem?_map] at h
  cases e : r[i]? with
  | none => rw [e] at h; cases h
  | some q => rw [e] at h; exact ⟨q, rfl, (Option.some.inj h).symm⟩
theorem at_nts {r : List Nat} {i n : Nat} (h : r[i]? = some n) : (nts r)[i]? = some (.int (n : Int)) := by
  unfold nts
  rw [List.getElem?_map, h]
  rfl
theorem nts_len (r : List Nat) : (nts r).length = r.length := by unfold nts; rw [List.length_map]
theorem flat_nts (r : List Nat) : (nts r).all flatV = true := by
  rw [List.all_eq_true]
  intro x hx
  obtain ⟨n, _, rfl⟩ := List.mem_map.mp hx
  rfl
theorem inV_nts (n : Nat) (r : List Nat) : inV (.int (n : Int)) (nts r) = decide (n ∈ r) := by
  unfold inV nts
  rw [List.any_map]
  induction r with
  | nil => rfl
  | cons a r ih =>
    rw [List.any_cons, ih]
    have e : ((fun y => eqV y (V.int (n : Int))) ∘ fun n : Nat => V.int (n : Int)) a = decide (n = a) := by
      show eqV (V.int (a : Int)) (V.int (n : Int)) = _
      unfold eqV
      by_cases q : n = a
      · subst q; simp
      · have : ¬ (a : Int) = (n : Int) := by omega
        simp [q, this]
    rw [e]
    by_cases q : n = a <;> simp [q]
/-- a list of lists of numbers -/
def RwI (K : PySem.W.Frag) (G : Hp) (p : Addr) (rows : List (List Nat)) : Prop := ∃ prs : List (Addr × List Nat), SqL K G p (refs (prs.map Prod.fst)) ∧ rows = prs.map Prod.snd ∧ ∀ x, x ∈ prs → SqL K G x.1 (nts x.2)
theorem RwI.ex {K : PySem.W.Frag} {G H : Hp} {p : Addr} {rows : List (List Nat)} (e : Ex G H) (h : RwI K G p rows) : RwI K H p rows := by
  obtain ⟨prs, h1, h2, h3⟩ := h
  exact ⟨prs, ex_l e h1, h2, fun x hx => ex_l e (h3 x hx)⟩
theorem prs_at {prs : List (Addr × List Nat)} {i : Nat} {x : V} (h : (refs (prs.map Prod.fst))[i]? = some x) : ∃ pr, prs[i]? = some pr ∧ x = .ref pr.1 := by
  obtain ⟨q, hq, rfl⟩ := refs_at h
  rw [List.getElem?_map] at hq
  cases e : prs[i]? with
  | none => rw [e] at hq; cases hq
  | some pr => rw [e] at hq; obtain rfl := Option.some.inj hq; exact ⟨pr, rfl, rfl⟩
section
variable {P : Program} {w : World} {K : PySem.W.Frag} {mg : Str → Option Value} {base : Heap}
theorem heads_filter (prs : List (Addr × List Nat)) : (prs.filter fun x => !x.2.isEmpty).map (fun x => V.int ((x.2.headD 0 : Nat) : Int)) = nts (Mg.heads (prs.map Prod.snd)) := by
  induction prs with
  | nil => rfl
  | cons a r ih =>
    obtain ⟨p, l⟩ := a
    cases l with
    | nil => exact ih
    | cons h t =>
      show V.int (h : Int) :: (r.filter fun x => !x.2.isEmpty).map (fun x => V.int ((x.2.headD 0 : Nat) : Int)) = V.int (h : Int) :: nts (Mg.heads (r.map Prod.snd))
      rw [ih]
theorem ev_neNil {σ : L2.St} {H : Hp} {te : TE} {q : Addr} {xs : List V} (h : Ev te σ H (.ref q)) (hs : SqL K H q xs) : EvT (tTest (tOp (rEqE K true) te (tLst tNil))) σ H (!xs.isEmpty) :=
  et_test (ev_opL h (el_lst ea_nil (by decide)) fun p H1 hp e => rv_eqE (ex_l e hs) (sq_of hp))
theorem el_heads {σ : L2.St} {G H : Hp} {p : Addr} {rows : List (List Nat)} (eG : Ex G H) (R : RwI K G p rows) (hz : rows.length ≤ 40) (h2 : σ[2]? = some (some (.ref p))) (h9 : σ.length = 9) :
    EvL (tLc (iList K (tVar 2)) (gName 4) (tTest (tOp (rEqE K true) (tVar 4) (tLst tNil))) (tOp (rIxL K) (tVar 4) (tC (.int 0))) [4]) σ H (nts (Mg.heads rows)) := by
  obtain ⟨prs, hp, rfl, hrow⟩ := R
  have lr : (refs (prs.map Prod.fst)).length = prs.length := by unfold refs; rw [List.length_map, List.length_map]
  rw [List.length_map] at hz
  have h := el_lcK (K := K) wk_list (tl := tVar 2) (σ := σ) (H := H) (j := 4) (t := tTest (tOp (rEqE K true) (tVar 4) (tLst tNil))) (te := tOp (rIxL K) (tVar 4) (tC (.int 0))) (vs := [4]) (ev_var h2) (ex_l eG hp) (fun i => match prs[i]? with | some a => !a.2.isEmpty | none => false) (fun i => match prs[i]? with | some a => V.int ((a.2.headD 0 : Nat) : Int) | none => .non) (by omega)
    (fun x => by
      match σ, h9 with
      | [a, b, c, d, e, f, g, h, i], _ => rfl)
    (fun i x H1 e hx => by
      obtain ⟨pr, hpr, rfl⟩ := prs_at hx
      have hS := ex_l (eG.trans e) (hrow pr (List.mem_of_getElem? hpr))
      have := ev_neNil (K := K) (σ := (wipe σ [4]).set 4 (some (.ref pr.1))) (te := tVar 4) (ev_var (by
        match σ, h9 with
        | [a, b, c, d, e, f, g, h, i], _ => rfl)) hS
      refine et_is this ?_
      rw [hpr]
      obtain ⟨p1, l1⟩ := pr
      cases l1 <;> rfl)
    (fun i x H1 e hx hf => by
      obtain ⟨pr, hpr, rfl⟩ := prs_at hx
      have hS := ex_l (eG.trans e) (hrow pr (List.mem_of_getElem? hpr))
      rw [hpr] at hf
      have : (match prs[i]? with | some a => V.int ((a.2.headD 0 : Nat) : Int) | none => .non) = V.int ((pr.2.headD 0 : Nat) : Int) := by rw [hpr]
      rw [this]
      obtain ⟨p1, l1⟩ := pr
      cases l1 with
      | nil => cases hf
      | cons h0 t0 =>
        refine ev_op (ev_var ?_) ev_c (rv_ixL hS (at_of (j := 0) rfl rfl))
        match σ, h9 with
        | [a, b, c, d, e, f, g, h, i], _ => rfl)
  rw [lr, given_filter prs (fun x => !x.2.isEmpty) (fun x => V.int ((x.2.headD 0 : Nat) : Int)) _ _ (fun i x hx => by rw [hx]) (fun i x hx => by rw [hx]), heads_filter] at h
  exact h
/-- [row for row in rows if at in row[1:]] -/
theorem el_behind {σ : L2.St} {G H : Hp} {p : Addr} {rows : List (List Nat)} {n : Nat} (eG : Ex G H) (R : RwI K G p rows) (hz : rows.length ≤ 40) (hrl : ∀ r, r ∈ rows → r.length ≤ 1000) (h2 : σ[2]? = some (some (.ref p))) (h3 : σ[3]? = some (some (.int (n : Int)))) (h9 : σ.length = 9) :
    ∃ qs : List V, (qs.isEmpty = Mg.isFree rows n) ∧ EvL (tLc (iList K (tVar 2)) (gName 4) (tTest (tOp (rIn K false) (tVar 3) (tSl (rSlL K) (tVar 4) (tPart (tC (.int 1))) tNoPart))) (tVar 4) [4]) σ H qs := by
  obtain ⟨prs, hp, rfl, hrow⟩ := R
  have lr : (refs (prs.map Prod.fst)).length = prs.length := by unfold refs; rw [List.length_map, List.length_map]
  rw [List.length_map] at hz
  refine ⟨(prs.filter fun x => decide (n ∈ x.2.tail)).map (fun x => V.ref x.1), ?_, ?_⟩
  · unfold Mg.isFree
    rw [List.all_map]
    clear hp hrow lr hz hrl
    induction prs with
    | nil => rfl
    | cons a r ih =>
      by_cases q : n ∈ a.2.tail
      · simp [q]
      · simp only [List.filter_cons, q, decide_false, Bool.false_eq_true, if_false, List.all_cons, Function.comp, not_false_eq_true, decide_true, Bool.true_and]
        exact ih
  have h := el_lcK (K := K) wk_list (tl := tVar 2) (σ := σ) (H := H) (j := 4) (t := tTest (tOp (rIn K false) (tVar 3) (tSl (rSlL K) (tVar 4) (tPart (tC (.int 1))) tNoPart))) (te := tVar 4) (vs := [4]) (ev_var h2) (ex_l eG hp) (fun i => match prs[i]? with | some a => decide (n ∈ a.2.tail) | none => false) (fun i => match prs[i]? with | some a => V.ref a.1 | none => .non) (by omega)
    (fun x => by
      match σ, h9 with
      | [a, b, c, d, e, f, g, h, i], _ => rfl)
    (fun i x H1 e hx => by
      obtain ⟨pr, hpr, rfl⟩ := prs_at hx
      have hS := ex_l (eG.trans e) (hrow pr (List.mem_of_getElem? hpr))
      have hsl := el_sl (K := K) (te := tVar 4) (σ := (wipe σ [4]).set 4 (some (.ref pr.1))) (H := H1) (xs := nts pr.2) (tl := tPart (tC (.int 1))) (th := tNoPart) (lo := some 1) (hi := none) (a := pr.1) (ev_var (by
        match σ, h9 with
        | [a, b, c, d, e, f, g, h, i], _ => rfl)) (eo_some ev_c) eo_none hS
      have e1 : cutV (nts pr.2) (some 1) none = nts pr.2.tail := by
        cases hp2 : pr.2 with
        | nil => rfl
        | cons h t =>
          rw [show (some (1 : Int)) = some ((1 : Nat) : Int) from rfl, cut_drop (by rw [nts_len]; simp)]
          rfl
      rw [e1] at hsl
      have := ev_opL (r := rIn K false) (σ := (wipe σ [4]).set 4 (some (.ref pr.1))) (H := H1) (ta := tVar 3) (x := .int (n : Int)) (z := .bl (decide (n ∈ pr.2.tail))) (ev_var (by
        match σ, h9, h3 with
        | [a, b, c, d, e, f, g, h, i], _, h3 => exact h3)) hsl fun q H2 hq e2 => by
          have := rv_isL (K := K) (sq_of hq) (x := .int (n : Int)) rfl (flat_nts pr.2.tail)
          rw [inV_nts] at this
          exact this
      refine et_is (et_test this) ?_
      rw [hpr])
    (fun i x H1 e hx hf => by
      obtain ⟨pr, hpr, rfl⟩ := prs_at hx
      have : (match prs[i]? with | some a => V.ref a.1 | none => .non) = V.ref pr.1 := by rw [hpr]
      rw [this]
      refine ev_var ?_
      match σ, h9 with
      | [a, b, c, d, e, f, g, h, i], _ => rfl)
  rw [lr, given_filter prs (fun x => decide (n ∈ x.2.tail)) (fun x => V.ref x.1) _ _ (fun i x hx => by rw [hx]) (fun i x hx => by rw [hx])] at h
  exact h
theorem el_frees {σ : L2.St} {G H : Hp} {p ph : Addr} {rows : List (List Nat)} (eG : Ex G H) (R : RwI K G p rows) (hz : rows.length ≤ 40) (hrl : ∀ r, r ∈ rows → r.length ≤ 1000) (h2 : σ[2]? = some (some (.ref p))) (h7 : σ[7]? = some (some (.ref ph))) (hh : H ph = some (.lst (nts (Mg.heads rows)))) (h9 : σ.length = 9) :
    EvL (tLc (iList K (tVar 7)) (gName 3) (tTest (tOp (rEqE K false) (tLc (iList K (tVar 2)) (gName 4) (tTest (tOp (rIn K false) (tVar 3) (tSl (rSlL K) (tVar 4) (tPart (tC (.int 1))) tNoPart))) (tVar 4) [4]) (tLst tNil))) (tVar 3) [3]) σ H (nts (Mg.frees rows)) := by
  have lh : (Mg.heads rows).length ≤ 40 := by
    have : (Mg.heads rows).length ≤ rows.length := List.length_filterMap_le _ _
    omega
  have h := el_lcK (K := K) wk_list (tl := tVar 7) (σ := σ) (H := H) (j := 3) (t := tTest (tOp (rEqE K false) (tLc (iList K (tVar 2)) (gName 4) (tTest (tOp (rIn K false) (tVar 3) (tSl (rSlL K) (tVar 4) (tPart (tC (.int 1))) tNoPart))) (tVar 4) [4]) (tLst tNil))) (te := tVar 3) (vs := [3]) (ev_var h7) (sq_of hh) (fun i => match (Mg.heads rows)[i]? with | some a => Mg.isFree rows a | none => false) (fun i => match (Mg.heads rows)[i]? with | some a => V.int ((a : Nat) : Int) | none => .non) (by rw [nts_len]; omega)
    (fun x => by
      match σ, h9 with
      | [a, b, c, d, e, f, g, h, i], _ => rfl)
    (fun i x H1 e hx => by
      obtain ⟨n, hn, rfl⟩ := nts_at hx
      obtain ⟨qs, hq1, hq2⟩ := el_behind (K := K) (σ := (wipe σ [3]).set 3 (some (.int (n : Int)))) (n := n) (eG.trans e) R hz hrl (by
        match σ, h9, h2 with
        | [a, b, c, d, e, f, g, h, i], _, h2 => exact h2) (by
        match σ, h9 with
        | [a, b, c, d, e, f, g, h, i], _ => rfl) (by rw [List.length_set]; exact (wipe_length σ [3]).trans h9)
      refine et_is (et_test (ev_opLL hq2 (el_lst ea_nil (by decide)) fun p q H2 hp hq e2 => rv_eqE (neg := false) (sq_of hp) (sq_of hq))) ?_
      rw [hn]
      exact hq1)
    (fun i x H1 e hx hf => by
      obtain ⟨n, hn, rfl⟩ := nts_at hx
      have : (match (Mg.heads rows)[i]? with | some a => V.int ((a : Nat) : Int) | none => .non) = V.int (n : Int) := by rw [hn]
      rw [this]
      refine ev_var ?_
      match σ, h9 with
      | [a, b, c, d, e, f, g, h, i], _ => rfl)
  rw [nts_len, given_filter (Mg.heads rows) (Mg.isFree rows) (fun (a : Nat) => V.int (a : Int)) _ _ (fun i x hx => by rw [hx]) (fun i x hx => by rw [hx])] at h
  exact h
theorem dp_nts {H : Hp} : ∀ (r : List Nat), DpAll K H (nts r) (r.map fun (n : Nat) => PyData.int (n : Int))
  | [] => .nil
  | n :: r => .cons (.int _) (dp_nts r)
theorem rv_eq1 {H : Hp} {p q : Addr} {r : List Nat} {h : Nat} (hp : SqL K H p (nts (r.take 1))) (hq : SqL K H q (nts [h])) : RV (rEqD K) (.ref p) (.ref q) H (.bl (decide (r.take 1 = [h]))) := fun H1 e Q k => by
  refine ⟨.list ((r.take 1).map fun (n : Nat) => PyData.int (n : Int)), .list (([h] : List Nat).map fun (n : Nat) => PyData.int (n : Int)), .lst (ex_l e hp) (dp_nts _), .lst (ex_l e hq) (dp_nts _), ?_, ?_, ?_⟩
  · cases r with
    | nil => rfl
    | cons a l => rfl
  · rfl
  · have : PyData.eqv (.list ((r.take 1).map fun (n : Nat) => PyData.int (n : Int))) (.list (([h] : List Nat).map fun (n : Nat) => PyData.int (n : Int))) = decide (r.take 1 = [h]) := by
      cases r with
      | nil => rfl
      | cons a l =>
        show (((a : Int) == (h : Int)) && true) = decide ([a] = [h])
        by_cases q : a = h
        · subst q; simp
        · have : ¬ (a : Int) = (h : Int) := by omega
          simp [q, this]
    rw [this]
    exact k H1 (Ex.refl H1)
theorem cut_take1 (r : List Nat) : cutV (nts r) none (some 1) = nts (r.take 1) := by
  unfold cutV
  rw [HT.sIx_none, show (some (1 : Int)) = some ((1 : Nat) : Int) from rfl, HT.sIx_nat, List.drop_zero, nts_len]
  cases r with
  | nil => rfl
  | cons a l =>
    rw [show min 1 (a :: l).length - 0 = 1 by simp]
    rfl
theorem cut_tail (r : List Nat) : cutV (nts r) (some 1) none = nts r.tail := by
  cases r with
  | nil => rfl
  | cons h t =>
    rw [show (some (1 : Int)) = some ((1 : Nat) : Int) from rfl, cut_drop (by rw [nts_len]; simp)]
    rfl
def tPopRows (K : PySem.W.Frag) : TE := tLc (iList K (tVar 2)) (gName 4) tYes (tIf (tTest (tOp (rEqD K) (tSl (rSlL K) (tVar 4) tNoPart (tPart (tC (.int 1)))) (tSl (rSlL K) (tVar 8) tNoPart (tPart (tC (.int 1)))))) (tSl (rSlL K) (tVar 4) (tPart (tC (.int 1))) tNoPart) (tVar 4)) [4]
theorem er_pop {σ : L2.St} {G H : Hp} {p pf : Addr} {rows : List (List Nat)} {h : Nat} {t : List Nat} (eG : Ex G H) (R : RwI K G p rows) (hz : rows.length ≤ 40) (h2 : σ[2]? = some (some (.ref p))) (h8 : σ[8]? = some (some (.ref pf))) (hf : H pf = some (.lst (nts (h :: t)))) (h9 : σ.length = 9) :
    ∀ H1, Ex H H1 → ∀ Q : VK, (∀ p' H2, H1 p' = none → Ex H1 H2 → (∀ G', Ex G G' → (∀ b o, H1 b = none → H2 b = some o → G' b = some o) → RwI K G' p' (Mg.pop h rows)) → Q (.ref p') H2) → tPopRows K σ H1 Q := fun H1 e1 Q q => by
  obtain ⟨prs, hp, rfl, hrow⟩ := R
  rw [List.length_map] at hz
  refine ⟨_, h2, p, rfl, ⟨_, ex_l (eG.trans e1) hp⟩, fun D hD => ?_⟩
  refine lc_list (xs := refs (prs.map Prod.fst)) (fun i H' => Ex H1 H' ∧ ∃ qrs : List (Addr × List Nat), H' D = some (.lst (refs (qrs.map Prod.fst))) ∧ qrs.map Prod.snd = ((prs.take i).map Prod.snd).map (fun r => if r.take 1 = [h] then r.tail else r) ∧
    (∀ x, x ∈ qrs → (H1 x.1 = none ∧ x.1 ≠ D ∧ H' x.1 = some (.lst (nts x.2))) ∨ SqL K G x.1 (nts x.2))) ⟨Ex.new hD, [], upd_same, by simp, fun x hx => by cases hx⟩
    (fun i H' _ ⟨e2, _⟩ => ex_l ((eG.trans e1).trans e2) hp) ?_ ?_
  · rintro i x H2 hx ⟨e2, qrs, hD2, hsnd, hqs⟩
    obtain ⟨pr, hpr, rfl⟩ := prs_at hx
    have e12 := e1.trans e2
    have hS0 := hrow pr (List.mem_of_getElem? hpr)
    have hS := ex_l (eG.trans e12) hS0
    have hi := (List.getElem?_eq_some_iff.mp hpr).1
    have hlen : qrs.length = i := by
      have := congrArg List.length hsnd
      rw [List.length_map, List.length_map, List.length_map, List.length_take] at this
      omega
    generalize hσ : (wipe σ [4]).set 4 (some (.ref pr.1)) = σ2
    have v4 : σ2[4]? = some (some (.ref pr.1)) := by
      rw [← hσ]
      match σ, h9 with
      | [a, b, c, d, e, f, g, h, i], _ => rfl
    have v8 : σ2[8]? = some (some (.ref pf)) := by
      rw [← hσ]
      match σ, h9, h8 with
      | [a, b, c, d, e, f, g, h, i], _, h8 => exact h8
    have lenq : (refs (qrs.map Prod.fst)).length < 100000 := by unfold refs; rw [List.length_map, List.length_map]; omega
    refine ⟨?_, yes_then ?_⟩
    · match σ, h9 with
      | [a, b, c, d, e, f, g, h, i], _ => rfl
    show tIf _ _ _ ((wipe σ [4]).set 4 (some (.ref pr.1))) H2 _
    rw [hσ]
    have hcond : EvT (tTest (tOp (rEqD K) (tSl (rSlL K) (tVar 4) tNoPart (tPart (tC (.int 1)))) (tSl (rSlL K) (tVar 8) tNoPart (tPart (tC (.int 1)))))) σ2 H2 (decide (pr.2.take 1 = [h])) := by
      have s1 := el_sl (K := K) (te := tVar 4) (σ := σ2) (H := H2) (tl := tNoPart) (th := tPart (tC (.int 1))) (lo := none) (hi := some 1) (ev_var v4) eo_none (eo_some ev_c) hS
      have s2 := el_sl (K := K) (te := tVar 8) (σ := σ2) (H := H2) (tl := tNoPart) (th := tPart (tC (.int 1))) (lo := none) (hi := some 1) (ev_var v8) eo_none (eo_some ev_c) (sq_of (e12 _ _ hf))
      rw [cut_take1] at s1 s2
      exact et_test (ev_opLL s1 s2 fun p q H3 hp hq e => rv_eq1 (sq_of hp) (sq_of hq))
    refine hcond H2 (Ex.refl H2) _ fun H3 e3 => ?_
    have fin : ∀ (y : Addr) (r' : List Nat) (H4 : Hp), Ex H3 H4 → (if pr.2.take 1 = [h] then pr.2.tail else pr.2) = r' → ((H1 y = none ∧ y ≠ D ∧ H4 y = some (.lst (nts r'))) ∨ SqL K G y (nts r')) → ∃ acc, H4 D = some (.lst acc) ∧ acc.length < sizeLine ∧ Ex H1 (upd H4 D (.lst (acc ++ [.ref y]))) ∧ ∃ qrs : List (Addr × List Nat), upd H4 D (.lst (acc ++ [.ref y])) D = some (.lst (refs (qrs.map Prod.fst))) ∧
        qrs.map Prod.snd = ((prs.take (i + 1)).map Prod.snd).map (fun r => if r.take 1 = [h] then r.tail else r) ∧ (∀ x, x ∈ qrs → (H1 x.1 = none ∧ x.1 ≠ D ∧ upd H4 D (.lst (acc ++ [.ref y])) x.1 = some (.lst (nts x.2))) ∨ SqL K G x.1 (nts x.2)) := fun y r' H4 e4 er hy => by
      have e24 := e3.trans e4
      refine ⟨refs (qrs.map Prod.fst), e24 _ _ hD2, sz_lt lenq, Ex.mut (e2.trans e24) hD, qrs ++ [(y, r')], ?_, ?_, fun x hx => ?_⟩
      · rw [upd_same]
        unfold refs
        simp
      · rw [List.map_append, hsnd, List.take_add_one, hpr]
        simp [er]
      · rcases List.mem_append.mp hx with hx | hx
        · rcases hqs x hx with ⟨n1, n2, n3⟩ | n
          · exact .inl ⟨n1, n2, by rw [upd_ne n2]; exact e24 _ _ n3⟩
          · exact .inr n
        · obtain rfl := List.mem_singleton.mp hx
          rcases hy with ⟨n1, n2, n3⟩ | n
          · exact .inl ⟨n1, n2, by rw [upd_ne n2]; exact n3⟩
          · exact .inr n
    by_cases hc : pr.2.take 1 = [h]
    · rw [decide_eq_true hc]
      refine iteT ?_
      have s1 := el_sl (K := K) (te := tVar 4) (σ := σ2) (H := H3) (tl := tPart (tC (.int 1))) (th := tNoPart) (lo := some 1) (hi := none) (ev_var v4) (eo_some ev_c) eo_none (ex_l e3 hS)
      rw [cut_tail] at s1
      refine s1 H3 (Ex.refl H3) _ fun y H4 hy e4 h4 => ?_
      have hD3 := e3 _ _ hD2
      exact fin y pr.2.tail H4 e4 (if_pos hc) (.inl ⟨fresh_back (e2.trans e3) hy, (ne_of_none hD3 hy).symm, h4⟩)
    · rw [decide_eq_false hc]
      refine iteF ?_
      exact ⟨_, v4, fin pr.1 pr.2 H3 (Ex.refl H3) (if_neg hc) (.inr hS0)⟩
  · rintro H2 ⟨e2, qrs, hD2, hsnd, hqs⟩
    have ll : (refs (prs.map Prod.fst)).length = prs.length := by unfold refs; rw [List.length_map, List.length_map]
    rw [ll, List.take_length] at hsnd
    refine q D H2 hD e2 fun G' eg hn => ⟨qrs, sq_of (hn _ _ hD hD2), hsnd.symm, fun x hx => ?_⟩
    rcases hqs x hx with ⟨n1, n2, n3⟩ | n
    · exact sq_of (hn _ _ n1 n3)
    · exact ex_l eg n
end
end K28
end

section
set_option Elab.async false
set_option linter.all false
set_option maxRecDepth 100000
set_option maxHeartbeats 4000000
namespace K28
open PySem PySem.Spec PyProof.Rows L2 He Cn Evl
/-! ### plans and their lines -/
def rowsOf (ls : List (List Nat)) (as : List Nat) : List (List Nat) := as.map (fun x => ls.getD x []) ++ [as]
structure OkAt (ab ls : List (List Nat)) (i : Nat) (as l : List Nat) : Prop where
  a : ab[i]? = some as
  s : ls[i]? = some (i :: l)
  lt : ∀ x, x ∈ as → x < i
  nd : as.Nodup
  len : as.length ≤ 4
  mg : Mg.merge 20 (rowsOf ls as) = some l
def GoodUp (ab ls : List (List Nat)) (n : Nat) : Prop := n ≤ 10 ∧ ∀ i, i < n → ∃ as l, OkAt ab ls i as l
theorem rows_mem {ls : List (List Nat)} {as : List Nat} {r : List Nat} (h : r ∈ rowsOf ls as) : r = as ∨ ∃ x, x ∈ as ∧ r = ls.getD x [] := by
  unfold rowsOf at h
  rcases List.mem_append.mp h with h | h
  · obtain ⟨x, hx, rfl⟩ := List.mem_map.mp h
    exact .inr ⟨x, hx, rfl⟩
  · exact .inl (List.mem_singleton.mp h)
theorem getD_of {ls : List (List Nat)} {x : Nat} {r : List Nat} (h : ls[x]? = some r) : ls.getD x [] = r := by
  rw [List.getD_eq_getElem?_getD, h]
  rfl
theorem good_mem {ab ls : List (List Nat)} {n : Nat} (g : GoodUp ab ls n) : ∀ i, i < n → ∀ r, ls[i]? = some r → r.Nodup ∧ ∀ y, y ∈ r → y ≤ i := by
  intro i
  induction i using Nat.strongRecOn with
  | _ i ih =>
    intro hi r hr
    obtain ⟨as, l, O⟩ := g.2 i hi
    obtain rfl : r = i :: l := Option.some.inj (hr.symm.trans O.s)
    obtain ⟨n1, n2⟩ := Mg.merge_nodup 20 _ _ O.mg
    have hl : ∀ y, y ∈ l → y < i := fun y hy => by
      obtain ⟨row, hrow, hyr⟩ := (n2 y).mp hy
      rcases rows_mem hrow with q | ⟨x, hx, q⟩
      · subst q
        exact O.lt y hyr
      · have hxi := O.lt x hx
        obtain ⟨as', l', O'⟩ := g.2 x (by omega)
        rw [q, getD_of O'.s] at hyr
        have := (ih x hxi (by omega) _ O'.s).2 y hyr
        omega
    refine ⟨List.nodup_cons.mpr ⟨fun q => Nat.lt_irrefl i (hl i q), n1⟩, fun y hy => ?_⟩
    rcases List.mem_cons.mp hy with q | q
    · omega
    · exact Nat.le_of_lt (hl y q)
theorem rows_ok {ab ls : List (List Nat)} {n : Nat} (g : GoodUp ab ls n) {as : List Nat} (lt : ∀ x, x ∈ as → x < n) (nd : as.Nodup) : Mg.Nd (rowsOf ls as) ∧ Mg.Within (List.range n) (rowsOf ls as) := by
  refine ⟨fun r hr => ?_, fun r hr y hy => ?_⟩
  · rcases rows_mem hr with q | ⟨x, hx, q⟩
    · rw [q]; exact nd
    · obtain ⟨as', l', O'⟩ := g.2 x (lt x hx)
      rw [q, getD_of O'.s]
      exact (good_mem g x (lt x hx) _ O'.s).1
  · rcases rows_mem hr with q | ⟨x, hx, q⟩
    · rw [q] at hy
      exact List.mem_range.mpr (lt y hy)
    · obtain ⟨as', l', O'⟩ := g.2 x (lt x hx)
      rw [q, getD_of O'.s] at hy
      have := (good_mem g x (lt x hx) _ O'.s).2 y hy
      have := lt x hx
      exact List.mem_range.mpr (by omega)
theorem cnt_rows {n : Nat} {rows : List (List Nat)} : Mg.cnt (List.range n) rows ≤ n := by
  have := Mg.cnt_le (List.range n) rows
  rw [List.length_range] at this
  exact this
theorem merge_fuel {ab ls : List (List Nat)} {n : Nat} (g : GoodUp ab ls n) {as : List Nat} (lt : ∀ x, x ∈ as → x < n) (nd : as.Nodup) {T : Nat} (hT : n < T) : Mg.merge T (rowsOf ls as) = Mg.merge 20 (rowsOf ls as) := by
  have h := (rows_ok g lt nd).2
  have c := cnt_rows (n := n) (rows := rowsOf ls as)
  have := g.1
  exact Mg.merge_more T 20 _ h (by omega) (by omega)
section
variable {P : Program} {w : World} {K : PySem.W.Frag} {mg : Str → Option Value} {base : Heap}
/-- the plans in the heap: of each the list of those above it -/
def PlAt (H : Hp) (p : Addr) (ab : List (List Nat)) : Prop := ∃ ds : List Addr, H p = some (.lst (refs ds)) ∧ ds.length = ab.length ∧ ∀ (i : Nat) (d : Addr) (as : List Nat), ds[i]? = some d → ab[i]? = some as →
  ∃ (kvs : List (L2.Key × V)) (la : Addr), H d = some (.dK kvs) ∧ valV kvs (.inr ("above" : Str)) = some (.ref la) ∧ H la = some (.lst (nts as))
theorem PlAt.ex {H H' : Hp} {p : Addr} {ab : List (List Nat)} (e : Ex H H') (h : PlAt H p ab) : PlAt H' p ab := by
  obtain ⟨ds, h1, h2, h3⟩ := h
  refine ⟨ds, e _ _ h1, h2, fun i d as a b => ?_⟩
  obtain ⟨kvs, la, q1, q2, q3⟩ := h3 i d as a b
  exact ⟨kvs, la, e _ _ q1, q2, e _ _ q3⟩
/-- plans[n]['above'] -/
theorem ev_above {σ : L2.St} {H : Hp} {p : Addr} {ab : List (List Nat)} {n : Nat} {as : List Nat} {tp tn : TE} (h : PlAt H p ab) (ha : ab[n]? = some as) (hp : Ev tp σ H (.ref p)) (hn : Ev tn σ H (.int (n : Int))) :
    ∃ la, H la = some (.lst (nts as)) ∧ Ev (tDGet (tOp (rIxL K) tp tn) (tC (.str "above"))) σ H (.ref la) := by
  obtain ⟨ds, h1, h2, h3⟩ := h
  obtain ⟨d, hd⟩ := at_some (l := ds) (i := n) (by have := (List.getElem?_eq_some_iff.mp ha).1; omega)
  obtain ⟨kvs, la, q1, q2, q3⟩ := h3 n d as hd ha
  exact ⟨la, q3, ev_dget (k := .inr "above") (ev_op hp hn (rv_ixL (sq_of h1) (at_of rfl (at_refs hd)))) ev_c q1 q2⟩
def spLine (N : Nat) : Sp := fun vs H Q _ => ∃ (p : Addr) (n : Nat) (ab ls : List (List Nat)) (as : List Nat), vs = [.ref p, .int (n : Int)] ∧ n ≤ N ∧ PlAt H p ab ∧ GoodUp ab ls n ∧ ab[n]? = some as ∧ (∀ x, x ∈ as → x < n) ∧ as.Nodup ∧ as.length ≤ 4 ∧ ab.length ≤ 11 ∧
  (Mg.merge 20 (rowsOf ls as) = none → ∀ H', Ex H H' → Q .non H') ∧ (∀ l, Mg.merge 20 (rowsOf ls as) = some l → ∀ q H', H q = none → Ex H H' → H' q = some (.lst (nts (n :: l))) → Q (.ref q) H')
/-- the scope of the comprehension of free ones -/
def scL1 : Scope := { kind := .function, names := [(".0", .local), ("at", .cell), ("rows", .cell)], isGenerator := false, isCoroutine := false }
/-- one turn of the merge -/
def tMerge (K : PySem.W.Frag) : TS := (tSeq (tAsg (tLc (iList K (tVar 2)) (gName 4) (tTest (tOp (rEqE K true) (tVar 4) (tLst tNil))) (tOp (rIxL K) (tVar 4) (tC (.int 0))) [4]) (gName 7)) (tSeq (tAsg (tLc (iList K (tVar 7)) (gName 3) (tTest (tOp (rEqE K false) (tLc (iList K (tVar 2)) (gName 4) (tTest (tOp (rIn K false) (tVar 3) (tSl (rSlL K) (tVar 4) (tPart (tC (.int 1))) tNoPart))) (tVar 4) [4]) (tLst tNil))) (tVar 3) [3]) (gName 8)) (tSeq (tIfS (tTest (tOp (rEqE K false) (tVar 7) (tLst tNil))) (tRet (tVar 5)) tNext) (tSeq (tIfS (tTest (tOp (rEqE K false) (tVar 8) (tLst tNil))) (tRet (tC .non)) tNext)
    (tSeq (tDrop (tBM K "list" rAppend (tVar 5) (tCons (tOp (rIxL K) (tVar 8) (tC (.int 0))) tNil))) (tAsg (tPopRows K) (gName 2)))))))
def tLine (K : PySem.W.Frag) (te : TE) : TS := tSeq (tAsg (tLst tNil) (gName 2)) (tSeq (tFor (iList K (tDGet (tOp (rIxL K) (tVar 0) (tVar 1)) (tC (.str "above")))) (gName 3) (tSeq (tAsg te (gName 4)) (tSeq (tIfS (tB (tIsN (tVar 4))) (tRet (tC .non)) tNext) (tDrop (tBM K "list" rAppend (tVar 2) (tCons (tVar 4) tNil))))))
    (tSeq (tDrop (tBM K "list" rAppend (tVar 2) (tCons (tDGet (tOp (rIxL K) (tVar 0) (tVar 1)) (tC (.str "above"))) tNil))) (tSeq (tAsg (tLst (tCons (tVar 1) tNil)) (gName 5)) (tSeq (tFor (iRng1 (tCons (tCB (rLenS K) (tCons (tVar 0) tNil)) tNil)) (gName 6) (tMerge K)) (tRet (tVar 5))))))
/-- the merge's turns, from rows in a part G of the heap that does not hold the list found -/
theorem rd_merge {D : Ends} {H0 : Hp} {p pf : Addr} {n T : Nat} {rows0 : List (List Nat)} {v6 : Option V} {pr : Addr} {G H : Hp} {va v3 v4 : Option V} (hT : T ≤ 20) (e0 : Ex H0 H) (hf0 : H0 pf = none) (eG : Ex G H) (hGf : G pf = none) (R : RwI K G pr rows0) (hf : H pf = some (.lst (nts [n]))) (nd0 : Mg.Nd rows0) (hz : rows0.length ≤ 40) (hrl : ∀ r, r ∈ rows0 → r.length ≤ 1000)
    (v : L2.St) (hv : v = [va, some (.int (n : Int)), some (.ref pr), v3, v4, some (.ref pf), none, none, none])
    (cs : List Nat) (hw : Mg.Within cs rows0) (hc : Mg.cnt cs rows0 < T) (hlen : va = some (.ref p)) (hpl : ∃ xs, H p = some (.lst xs) ∧ xs.length = T ∧ G p = some (.lst xs))
    (kn : Mg.merge T rows0 = none → ∀ H', Ex H0 H' → D.rt .non H') (ks : ∀ l, Mg.merge T rows0 = some l → ∀ H', Ex H0 H' → H' pf = some (.lst (nts (n :: l))) → D.rt (.ref pf) H') :
    tSeq (tFor (iRng1 (tCons (tCB (rLenS K) (tCons (tVar 0) tNil)) tNil)) (gName 6) (tMerge K)) (tRet (tVar 5)) D v H := by
  subst hv hlen
  obtain ⟨xs, hx, hxl, hxG⟩ := hpl
  refine q_forR1 (n := (T : Int)) (ea_cons (ev_is (ev_len (ev_var rfl) (sq_of hx)) (by rw [hxl])) ea_nil) ⟨by omega, by omega⟩
    (fun i σ H' => ∃ (rows : List (List Nat)) (acc : List Nat) (pr : Addr) (G : Hp) (w3 w4 w6 w7 w8 : Option V), σ = [some (.ref p), some (.int (n : Int)), some (.ref pr), w3, w4, some (.ref pf), w6, w7, w8] ∧ Ex H0 H' ∧ Ex G H' ∧ G pf = none ∧ RwI K G pr rows ∧ H' pf = some (.lst (nts (n :: acc))) ∧ Mg.Nd rows ∧ rows.length ≤ 40 ∧ (∀ r, r ∈ rows → r.length ≤ 1000) ∧
      Mg.Within cs rows ∧ Mg.cnt cs rows < T - i ∧ acc.length ≤ i ∧ Mg.merge T rows0 = (Mg.merge (T - i) rows).map (acc ++ ·)) ?_ ?_ ?_
  · intro H1 e1
    exact ⟨rows0, [], pr, G, _, _, _, _, _, rfl, e0.trans e1, eG.trans e1, hGf, R, e1 _ _ hf, nd0, hz, hrl, hw, by omega, Nat.zero_le _, by simp⟩
  · rintro i σ H' hi ⟨rows, acc, pr, G, w3, w4, w6, w7, w8, rfl, e1, eG, hGf, R, hf, nd, hz, hrl, hw, hc, ha, hm⟩
    obtain ⟨T', hT'⟩ : ∃ T', T - i = T' + 1 := ⟨T - i - 1, by omega⟩
    rw [hT'] at hc hm
    refine q_asgL (el_heads eG R hz rfl rfl) fun ph H1 hph e2 h1 => ?_
    refine q_asgL (el_frees (eG.trans e2) R hz hrl rfl rfl h1 rfl) fun pq H2 hpq e3 h2 => ?_
    have e12 := e2.trans e3
    refine q_when (et_test (ev_opL (ev_var rfl) (el_lst ea_nil (by decide)) fun q H3 hq e => rv_eqE (neg := false) (sq_of (e _ _ (e3 _ _ h1))) (sq_of hq))) (fun hb H3 e4 => ?_) (fun hb H3 e4 => ?_)
    · have hh : Mg.heads rows = [] := by
        cases q : Mg.heads rows with
        | nil => rfl
        | cons a l => rw [q] at hb; cases hb
      have em : Mg.merge (T' + 1) rows = some [] := by
        show (if Mg.heads rows = [] then some [] else _) = _
        rw [if_pos hh]
      rw [em] at hm
      exact s_ret (ev_var rfl) fun H4 e5 => ks acc (by rw [hm]; simp) H4 ((e1.trans e12).trans (e4.trans e5)) ((e12.trans (e4.trans e5)) _ _ hf)
    have hh : Mg.heads rows ≠ [] := fun q => by rw [q] at hb; cases hb
    refine q_when (et_test (ev_opL (ev_var rfl) (el_lst ea_nil (by decide)) fun q H3 hq e => rv_eqE (neg := false) (sq_of (e _ _ (e4 _ _ h2))) (sq_of hq))) (fun hb H4 e5 => ?_) (fun hb H4 e5 => ?_)
    · have hf0 : Mg.frees rows = [] := by
        cases q : Mg.frees rows with
        | nil => rfl
        | cons a l => rw [q] at hb; cases hb
      rw [Mg.merge_stuck hh hf0] at hm
      exact s_ret ev_c fun H5 e6 => kn (by rw [hm]; rfl) H5 ((e1.trans e12).trans (e4.trans (e5.trans e6)))
    obtain ⟨h, tl, htl⟩ : ∃ h tl, Mg.frees rows = h :: tl := by
      cases q : Mg.frees rows with
      | nil => rw [q] at hb; cases hb
      | cons a l => exact ⟨a, l, rfl⟩
    rw [htl] at h2
    have e14 := e12.trans (e4.trans e5)
    have h24 := (e4.trans e5) _ _ h2
    refine q_app (v := .int (h : Int)) (e14 _ _ hf) (ev_var rfl) (ev_op (ev_var rfl) ev_c (rv_ixL (sq_of h24) (at_of (j := 0) rfl rfl))) (by rw [nts_len, List.length_cons]; omega) fun H5 e6 => ?_
    have e16 := e14.trans e6
    have hG5 : Ex G (upd H5 pf (.lst (nts (n :: acc) ++ [.int (h : Int)]))) := Ex.mut (eG.trans e16) hGf
    have e05 : Ex H0 (upd H5 pf (.lst (nts (n :: acc) ++ [.int (h : Int)]))) := Ex.mut (e1.trans e16) hf0
    have hpqf : pq ≠ pf := (ne_of_none (e2 _ _ hf) hpq).symm
    have h25 : upd H5 pf (.lst (nts (n :: acc) ++ [.int (h : Int)])) pq = some (.lst (nts (h :: tl))) := by rw [upd_ne hpqf]; exact e6 _ _ h24
    refine er_pop hG5 R hz rfl rfl h25 rfl _ (Ex.refl _) _ fun p' H6 hp' e7 R' => ?_
    have hfr := Mg.frees_head htl
    have epop := Mg.pop_drop nd hfr.2
    rw [epop] at R'
    have hstep : Mg.merge (T' + 1) rows = (Mg.merge T' (Mg.drop h rows)).map (h :: ·) := by
      rw [Mg.merge_step htl]
      show (Mg.merge T' (Mg.full (Mg.drop h rows))).map (h :: ·) = _
      rw [Mg.merge_full]
    have hcd := Mg.cnt_drop hw hfr.1
    refine ⟨Mg.drop h rows, acc ++ [h], p', del H6 pf, _, _, _, _, _, rfl, e05.trans e7, del_ex, del_same, R' _ (fun b o q => ?_) (fun b o q q2 => ?_), e7 _ _ (by rw [upd_same]; unfold nts; simp), Mg.nd_drop nd h, ?_, fun r hr => ?_, Mg.within_drop hw h, by omega, by rw [List.length_append]; simp; omega, ?_⟩
    · have hb : b ≠ pf := fun z => by rw [z, hGf] at q; cases q
      rw [del_ne hb]
      exact e7 _ _ (hG5 _ _ q)
    · have hb : b ≠ pf := fun z => by rw [z, upd_same] at q; cases q
      rw [del_ne hb]
      exact q2
    · unfold Mg.drop
      rw [List.length_map]
      exact hz
    · obtain ⟨r', hr', rfl⟩ := List.mem_map.mp hr
      exact Nat.le_trans (List.length_filter_le _ _) (hrl r' hr')
    · rw [hm, hstep, show T - (i + 1) = T' by omega]
      cases Mg.merge T' (Mg.drop h rows) <;> simp
  · rintro σ H' ⟨rows, acc, pr, G, w3, w4, w6, w7, w8, rfl, e1, eG, hGf, R, hf, nd, hz, hrl, hw, hc, ha, hm⟩
    have := Int.toNat_natCast T
    omega
end
end K28
end

section
set_option Elab.async false
set_option linter.all false
set_option maxRecDepth 100000
set_option maxHeartbeats 4000000
namespace K28
open PySem PySem.Spec PyProof.Rows L2 He Cn Evl
section
variable {P : Program} {w : World} {K : PySem.W.Frag} {mg : Str → Option Value} {base : Heap}
theorem rd_line {te : TE} {D : Ends} {H : Hp} {p n : Nat} {ab ls : List (List Nat)} {as : List Nat} (hPl : PlAt H p ab) (g : GoodUp ab ls n) (ha : ab[n]? = some as) (lt : ∀ x, x ∈ as → x < n) (ndas : as.Nodup) (hl4 : as.length ≤ 4) (hab : ab.length ≤ 11)
    (hte : ∀ (σ : L2.St) (H1 : Hp) (x : Nat), x ∈ as → Ex H H1 → σ[0]? = some (some (.ref p)) → σ[3]? = some (some (.int (x : Int))) → EvL te σ H1 (nts (ls.getD x [])))
    (kn : Mg.merge 20 (rowsOf ls as) = none → ∀ H', Ex H H' → D.rt .non H') (ks : ∀ l, Mg.merge 20 (rowsOf ls as) = some l → ∀ q H', H q = none → Ex H H' → H' q = some (.lst (nts (n :: l))) → D.rt (.ref q) H') :
    tLine K te D [some (.ref p), some (.int (n : Int)), none, none, none, none, none, none, none] H := by
  have hnT : n < ab.length := (List.getElem?_eq_some_iff.mp ha).1
  have hrows := rows_ok g lt ndas
  have hrlen : ∀ r, r ∈ rowsOf ls as → r.length ≤ 1000 := fun r hr => by
    have := nodup_len r (List.range n) (hrows.1 r hr) (hrows.2 r hr)
    rw [List.length_range] at this
    omega
  have hzr : (rowsOf ls as).length ≤ 40 := by
    unfold rowsOf
    rw [List.length_append, List.length_map]
    simp
    omega
  refine q_asgL (el_lst ea_nil (by decide)) fun pr H1 hpr e1 h1 => ?_
  have abv : ∀ (w3 w4 : Option V), ∃ la, H la = some (.lst (nts as)) ∧ Ev (tDGet (tOp (rIxL K) (tVar 0) (tVar 1)) (tC (.str "above"))) [some (.ref p), some (.int (n : Int)), some (.ref pr), w3, w4, none, none, none, none] H (.ref la) := fun w3 w4 => ev_above hPl ha (ev_var rfl) (ev_var rfl)
  obtain ⟨la, hla, hev⟩ := abv none none
  refine q_forLn (xs := nts as) (hev.mono e1) (sq_of (e1 _ _ hla)) (fun i σ H' => ∃ (w3 w4 : Option V) (prs : List (Addr × List Nat)), σ = [some (.ref p), some (.int (n : Int)), some (.ref pr), w3, w4, none, none, none, none] ∧ Ex H H' ∧ H' pr = some (.lst (refs (prs.map Prod.fst))) ∧ prs.map Prod.snd = (as.take i).map (fun x => ls.getD x []) ∧
    ∀ x, x ∈ prs → x.1 ≠ pr ∧ H' x.1 = some (.lst (nts x.2))) ?_ ?_ ?_ ?_
  · intro H2 e2
    exact ⟨none, none, [], rfl, e1.trans e2, e2 _ _ h1, by simp, fun x hx => by cases hx⟩
  · rintro i σ H' _ ⟨w3, w4, prs, _, e, _⟩
    exact sq_of (e _ _ hla)
  · rintro i x σ H' hx ⟨w3, w4, prs, rfl, e, hp, hsnd, hrow⟩
    obtain ⟨m, hm, rfl⟩ := nts_at hx
    have hi := (List.getElem?_eq_some_iff.mp hm).1
    have hlen : prs.length = i := by
      have := congrArg List.length hsnd
      rw [List.length_map, List.length_map, List.length_take] at this
      omega
    refine q_asgL (hte _ H' m (List.mem_of_getElem? hm) e rfl rfl) fun pw H2 hpw e2 h2 => ?_
    refine q_when (b := false) (et_is (et_isN (x := .ref pw) (ev_var rfl)) rfl) (fun h => by cases h) fun _ H3 e3 => ?_
    have e23 := e2.trans e3
    have hpwr : pw ≠ pr := (ne_of_none hp hpw).symm
    refine s_app (e23 _ _ hp) (ev_var rfl) (v := .ref pw) (ev_var rfl) (by unfold refs; rw [List.length_map, List.length_map]; omega) fun H4 e4 => ?_
    refine ⟨_, _, prs ++ [(pw, ls.getD m [])], rfl, Ex.mut ((e.trans e23).trans e4) hpr, by rw [upd_same]; unfold refs; simp, ?_, fun x hx => ?_⟩
    · rw [List.map_append, hsnd, List.take_add_one, hm]
      simp
    · rcases List.mem_append.mp hx with hx | hx
      · obtain ⟨q1, q2⟩ := hrow x hx
        exact ⟨q1, by rw [upd_ne q1]; exact e4 _ _ (e23 _ _ q2)⟩
      · obtain rfl := List.mem_singleton.mp hx
        exact ⟨hpwr, by rw [upd_ne hpwr]; exact e4 _ _ (e3 _ _ h2)⟩
  · rintro σ H' ⟨w3, w4, prs, rfl, e, hp, hsnd, hrow⟩
    have hsnd : prs.map Prod.snd = as.map (fun x => ls.getD x []) := by
      rw [hsnd, nts_len, List.take_length]
    have hlen : prs.length = as.length := by
      have := congrArg List.length hsnd
      rw [List.length_map, List.length_map] at this
      exact this
    obtain ⟨la2, hla2, hev2⟩ := abv w3 w4
    have hlpr : la2 ≠ pr := ne_of_none hla2 hpr
    refine q_app hp (ev_var rfl) (v := .ref la2) (hev2.mono e) (by unfold refs; rw [List.length_map, List.length_map]; omega) fun H2 e2 => ?_
    have eH : Ex H (upd H2 pr (.lst (refs (prs.map Prod.fst) ++ [.ref la2]))) := Ex.mut (e.trans e2) hpr
    generalize hH5 : upd H2 pr (.lst (refs (prs.map Prod.fst) ++ [.ref la2])) = H5 at *
    have R : RwI K H5 pr (rowsOf ls as) := by
      refine ⟨prs ++ [(la2, as)], sq_of (by rw [← hH5, upd_same]; unfold refs; simp), ?_, fun x hx => ?_⟩
      · rw [List.map_append, hsnd]
        rfl
      · rcases List.mem_append.mp hx with hx | hx
        · obtain ⟨q1, q2⟩ := hrow x hx
          exact sq_of (by rw [← hH5, upd_ne q1]; exact e2 _ _ q2)
        · obtain rfl := List.mem_singleton.mp hx
          exact sq_of (eH _ _ hla2)
    refine q_asgL (xs := nts [n]) (el_lst (ea_cons (ev_var rfl) ea_nil) (by show 1 ≤ 100000; decide)) fun pf H6 hpf e6 h6 => ?_
    obtain ⟨ds, hds, hdl, _⟩ := id hPl
    have hpfH : H pf = none := fresh_back eH hpf
    have fuel := merge_fuel g lt ndas (T := ab.length) hnT
    refine rd_merge (v6 := none) (T := ab.length) (H0 := H) (p := p) (pf := pf) (G := H5) (by omega) (eH.trans e6) hpfH e6 hpf R h6 hrows.1 hzr hrlen _ rfl (List.range n) hrows.2 (by have := cnt_rows (n := n) (rows := rowsOf ls as); omega) rfl ⟨refs ds, (eH.trans e6) _ _ hds, by unfold refs; rw [List.length_map]; exact hdl, eH _ _ hds⟩ ?_ ?_
    · intro hn H7 e7
      rw [fuel] at hn
      exact kn hn H7 e7
    · intro l hl H7 e7 h7
      rw [fuel] at hl
      exact ks l hl pf H7 hpfH e7 h7
theorem can_line (T : Txt K mg) : ∀ N : Nat, N ≤ 10 → Can P w K mg base CX0 (N + 1) "_law_line" ["plans", "n"] (spLine N) := by
  intro N
  induction N with
  | zero =>
    intro _
    refine can_of T.g__law_line T.F__law_line (fun fd F => ?_) (fun _ _ _ _ _ _ us hl => match us, hl with | [_, _], _ => rfl)
    refine F.ok sc__law_line (fun vs H Q E h => ?_) (fun cdv A outer s H vs Q E hr h => ?_)
    · obtain ⟨p, n, ab, ls, as, rfl, _⟩ := h
      rfl
    · have nd := sc__law_line.nd
      have hu := hu_of hr
      refine ⟨_, pss_cons (ps_set (i := 2) nd rfl (.inr rfl) (pe_lst pa_nil))
      (pss_cons (ps_for PassesOwn.never rfl (pi_list (pe_dget hu (pe_ix ix_list (pv 0) (pv 1) (fun _ _ => rfl)) pe_str (fun _ _ => rfl))) (pg_name (i := 3) nd rfl (.inl rfl))
        (pss_cons (ps_set (i := 4) nd rfl (.inl rfl) pe_never)
        (pss_cons (ps_if (pt_cmp (pc_isN (pv 4))) (pss_one (ps_ret pe_non)) pss_nil)
        (pss_one (ps_expr (pe_bm PySem.F.plainAttrs_list PySem.F.slot_list_append PySem.F.type_list_append mt_append (pv 2) (pa_cons (pv 4) pa_nil)))))))
      (pss_cons (ps_expr (pe_bm PySem.F.plainAttrs_list PySem.F.slot_list_append PySem.F.type_list_append mt_append (pv 2) (pa_cons (pe_dget hu (pe_ix ix_list (pv 0) (pv 1) (fun _ _ => rfl)) pe_str (fun _ _ => rfl)) pa_nil)))
      (pss_cons (ps_set (i := 5) nd rfl (.inl rfl) (pe_lst (pa_cons (pv 1) pa_nil)))
      (pss_cons (ps_for PassesOwn.never rfl (pi_range1 rfl T.n_range (pa_cons (pe_callB call_len_seq (by rfl) T.n_len PySem.boot_len (pa_cons (pv 0) pa_nil)) pa_nil)) (pg_name (i := 6) nd rfl (.inl rfl))
        (pss_cons (ps_setLc (i := 7) (own := [("row", 4)]) (wi := iList K (tVar 2)) (g := gName 4) (tt := tTest (tOp (rEqE K true) (tVar 4) (tLst tNil))) (te := tOp (rIxL K) (tVar 4) (tC (.int 0))) rfl nd rfl rfl (sw_true rfl rfl rfl (by decide +kernel)) (pi_list (pv 2)) (blkOk_by (N := ["plans", "n", "rows", "at", "row", "found", "turn", "heads", "free"]) (sc := defScope s__law_line) (by decide +kernel)) (fun _ _ _ _ _ => pg_name (i := 4) nd rfl (.inl rfl)) (fun _ _ _ _ _ => pts_one (pt_cmpR (op_ne_nil hr) (pv 4) (pe_lst pa_nil) (nomark _))) (fun _ _ _ _ _ => pe_ix ix_list (pv 4) pe_int (fun _ _ => rfl)))
        (pss_cons (ps_set (i := 8) nd rfl (.inr rfl) (pe_lc (own := [("at", 3)]) (wi := iList K (tVar 7)) (g := gName 3) (tt := tTest (tOp (rEqE K false) (tLc (iList K (tVar 2)) (gName 4) (tTest (tOp (rIn K false) (tVar 3) (tSl (rSlL K) (tVar 4) (tPart (tC (.int 1))) tNoPart))) (tVar 4) [4]) (tLst tNil))) (te := tVar 3) rfl nd (pi_list (pv 7)) (blkOk_by (N := ["plans", "n", "rows", "at", "row", "found", "turn", "heads", "free"]) (sc := defScope s__law_line) (by decide +kernel)) (fun _ _ _ _ _ => pg_name (i := 3) nd rfl (.inr rfl)) (fun _ _ _ _ _ => pts_one (pt_cmpR (op_eq_nil hr) (pe_lc (own := [("row", 4)]) (wi := iList K (tVar 2)) (g := gName 4) (tt := (tTest (tOp (rIn K false) (tVar 3) (tSl (rSlL K) (tVar 4) (tPart (tC (.int 1))) tNoPart)))) (te := tVar 4) rfl nd (pi_list (pv 2)) (blkOk_by (N := ["plans", "n", "rows", "at", "row", "found", "turn", "heads", "free"]) (sc := scL1) (by decide +kernel)) (fun _ _ _ _ _ => pg_name (i := 4) nd rfl (.inl rfl)) (fun _ _ _ _ _ => pts_one (pt_cmpR op_in_seq (pv 3) (pe_slice sl_list (pv 4) (po_some pe_int) po_none) rfl)) (fun _ _ _ _ _ => pv 4)) (pe_lst pa_nil) (nomark _))) (fun _ _ _ _ _ => pv 3)))
        (pss_cons (ps_if (pt_cmpR (op_eq_nil hr) (pv 7) (pe_lst pa_nil) (nomark _)) (pss_one (ps_ret (pv 5))) pss_nil)
        (pss_cons (ps_if (pt_cmpR (op_eq_nil hr) (pv 8) (pe_lst pa_nil) (nomark _)) (pss_one (ps_ret pe_non)) pss_nil)
        (pss_cons (ps_expr (pe_bm PySem.F.plainAttrs_list PySem.F.slot_list_append PySem.F.type_list_append mt_append (pv 5) (pa_cons (pe_ix ix_list (pv 8) pe_int (fun _ _ => rfl)) pa_nil)))
        (pss_one (ps_set (i := 2) nd rfl (.inr rfl) (pe_lc (own := [("row", 4)]) (wi := iList K (tVar 2)) (g := gName 4) (tt := tYes) (te := tIf (tTest (tOp (rEqD K) (tSl (rSlL K) (tVar 4) tNoPart (tPart (tC (.int 1)))) (tSl (rSlL K) (tVar 8) tNoPart (tPart (tC (.int 1)))))) (tSl (rSlL K) (tVar 4) (tPart (tC (.int 1))) tNoPart) (tVar 4)) rfl nd (pi_list (pv 2)) (blkOk_by (N := ["plans", "n", "rows", "at", "row", "found", "turn", "heads", "free"]) (sc := defScope s__law_line) (by decide +kernel)) (fun _ _ _ _ _ => pg_name (i := 4) nd rfl (.inl rfl)) (fun _ _ _ _ _ => pts_nil) (fun _ _ _ _ _ => pe_ifExp (pt_cmpR (op_eqD hr.units) (pe_slice sl_list (pv 4) po_none (po_some pe_int)) (pe_slice sl_list (pv 8) po_none (po_some pe_int)) (nomark _)) (pe_slice sl_list (pv 4) (po_some pe_int) po_none) (pv 4)))))))))))
      (pss_one (ps_ret (pv 5))))))), ?_⟩
      obtain ⟨p, n, ab, ls, as, rfl, hn, hPl, g, ha, lt, ndas, hl4, hab, kn, ks⟩ := h
      exact rd_line hPl g ha lt ndas hl4 hab (fun σ H1 x hx => absurd (lt x hx) (by omega)) kn ks
  | succ M ih =>
    intro hM
    have ih := ih (by omega)
    refine can_of T.g__law_line T.F__law_line (fun fd F => ?_) (fun _ _ _ _ _ _ us hl => match us, hl with | [_, _], _ => rfl)
    refine F.ok sc__law_line (fun vs H Q E h => ?_) (fun cdv A outer s H vs Q E hr h => ?_)
    · obtain ⟨p, n, ab, ls, as, rfl, _⟩ := h
      rfl
    · have nd := sc__law_line.nd
      have hu := hu_of hr
      refine ⟨_, pss_cons (ps_set (i := 2) nd rfl (.inr rfl) (pe_lst pa_nil))
      (pss_cons (ps_for PassesOwn.never rfl (pi_list (pe_dget hu (pe_ix ix_list (pv 0) (pv 1) (fun _ _ => rfl)) pe_str (fun _ _ => rfl))) (pg_name (i := 3) nd rfl (.inl rfl))
        (pss_cons (ps_set (i := 4) nd rfl (.inl rfl) (pe_can ih hr pass0 (pa_cons (pv 0) (pa_cons (pv 3) pa_nil)) (hjk := Nat.le_refl _)))
        (pss_cons (ps_if (pt_cmp (pc_isN (pv 4))) (pss_one (ps_ret pe_non)) pss_nil)
        (pss_one (ps_expr (pe_bm PySem.F.plainAttrs_list PySem.F.slot_list_append PySem.F.type_list_append mt_append (pv 2) (pa_cons (pv 4) pa_nil)))))))
      (pss_cons (ps_expr (pe_bm PySem.F.plainAttrs_list PySem.F.slot_list_append PySem.F.type_list_append mt_append (pv 2) (pa_cons (pe_dget hu (pe_ix ix_list (pv 0) (pv 1) (fun _ _ => rfl)) pe_str (fun _ _ => rfl)) pa_nil)))
      (pss_cons (ps_set (i := 5) nd rfl (.inl rfl) (pe_lst (pa_cons (pv 1) pa_nil)))
      (pss_cons (ps_for PassesOwn.never rfl (pi_range1 rfl T.n_range (pa_cons (pe_callB call_len_seq (by rfl) T.n_len PySem.boot_len (pa_cons (pv 0) pa_nil)) pa_nil)) (pg_name (i := 6) nd rfl (.inl rfl))
        (pss_cons (ps_setLc (i := 7) (own := [("row", 4)]) (wi := iList K (tVar 2)) (g := gName 4) (tt := tTest (tOp (rEqE K true) (tVar 4) (tLst tNil))) (te := tOp (rIxL K) (tVar 4) (tC (.int 0))) rfl nd rfl rfl (sw_true rfl rfl rfl (by decide +kernel)) (pi_list (pv 2)) (blkOk_by (N := ["plans", "n", "rows", "at", "row", "found", "turn", "heads", "free"]) (sc := defScope s__law_line) (by decide +kernel)) (fun _ _ _ _ _ => pg_name (i := 4) nd rfl (.inl rfl)) (fun _ _ _ _ _ => pts_one (pt_cmpR (op_ne_nil hr) (pv 4) (pe_lst pa_nil) (nomark _))) (fun _ _ _ _ _ => pe_ix ix_list (pv 4) pe_int (fun _ _ => rfl)))
        (pss_cons (ps_set (i := 8) nd rfl (.inr rfl) (pe_lc (own := [("at", 3)]) (wi := iList K (tVar 7)) (g := gName 3) (tt := tTest (tOp (rEqE K false) (tLc (iList K (tVar 2)) (gName 4) (tTest (tOp (rIn K false) (tVar 3) (tSl (rSlL K) (tVar 4) (tPart (tC (.int 1))) tNoPart))) (tVar 4) [4]) (tLst tNil))) (te := tVar 3) rfl nd (pi_list (pv 7)) (blkOk_by (N := ["plans", "n", "rows", "at", "row", "found", "turn", "heads", "free"]) (sc := defScope s__law_line) (by decide +kernel)) (fun _ _ _ _ _ => pg_name (i := 3) nd rfl (.inr rfl)) (fun _ _ _ _ _ => pts_one (pt_cmpR (op_eq_nil hr) (pe_lc (own := [("row", 4)]) (wi := iList K (tVar 2)) (g := gName 4) (tt := (tTest (tOp (rIn K false) (tVar 3) (tSl (rSlL K) (tVar 4) (tPart (tC (.int 1))) tNoPart)))) (te := tVar 4) rfl nd (pi_list (pv 2)) (blkOk_by (N := ["plans", "n", "rows", "at", "row", "found", "turn", "heads", "free"]) (sc := scL1) (by decide +kernel)) (fun _ _ _ _ _ => pg_name (i := 4) nd rfl (.inl rfl)) (fun _ _ _ _ _ => pts_one (pt_cmpR op_in_seq (pv 3) (pe_slice sl_list (pv 4) (po_some pe_int) po_none) rfl)) (fun _ _ _ _ _ => pv 4)) (pe_lst pa_nil) (nomark _))) (fun _ _ _ _ _ => pv 3)))
        (pss_cons (ps_if (pt_cmpR (op_eq_nil hr) (pv 7) (pe_lst pa_nil) (nomark _)) (pss_one (ps_ret (pv 5))) pss_nil)
        (pss_cons (ps_if (pt_cmpR (op_eq_nil hr) (pv 8) (pe_lst pa_nil) (nomark _)) (pss_one (ps_ret pe_non)) pss_nil)
        (pss_cons (ps_expr (pe_bm PySem.F.plainAttrs_list PySem.F.slot_list_append PySem.F.type_list_append mt_append (pv 5) (pa_cons (pe_ix ix_list (pv 8) pe_int (fun _ _ => rfl)) pa_nil)))
        (pss_one (ps_set (i := 2) nd rfl (.inr rfl) (pe_lc (own := [("row", 4)]) (wi := iList K (tVar 2)) (g := gName 4) (tt := tYes) (te := tIf (tTest (tOp (rEqD K) (tSl (rSlL K) (tVar 4) tNoPart (tPart (tC (.int 1)))) (tSl (rSlL K) (tVar 8) tNoPart (tPart (tC (.int 1)))))) (tSl (rSlL K) (tVar 4) (tPart (tC (.int 1))) tNoPart) (tVar 4)) rfl nd (pi_list (pv 2)) (blkOk_by (N := ["plans", "n", "rows", "at", "row", "found", "turn", "heads", "free"]) (sc := defScope s__law_line) (by decide +kernel)) (fun _ _ _ _ _ => pg_name (i := 4) nd rfl (.inl rfl)) (fun _ _ _ _ _ => pts_nil) (fun _ _ _ _ _ => pe_ifExp (pt_cmpR (op_eqD hr.units) (pe_slice sl_list (pv 4) po_none (po_some pe_int)) (pe_slice sl_list (pv 8) po_none (po_some pe_int)) (nomark _)) (pe_slice sl_list (pv 4) (po_some pe_int) po_none) (pv 4)))))))))))
      (pss_one (ps_ret (pv 5))))))), ?_⟩
      obtain ⟨p, n, ab, ls, as, rfl, hn, hPl, g, ha, lt, ndas, hl4, hab, kn, ks⟩ := h
      refine rd_line hPl g ha lt ndas hl4 hab (fun σ H1 x hx e v0 v3 => ?_) kn ks
      have hx' := lt x hx
      obtain ⟨as', l', O⟩ := g.2 x hx'
      rw [getD_of O.s]
      have g' : GoodUp ab ls x := ⟨by have := g.1; omega, fun i hi => g.2 i (by omega)⟩
      refine el_call (ea_cons (ev_var v0) (ea_cons (ev_var v3) ea_nil)) fun H2 e2 Q q E => ⟨p, x, ab, ls, as', rfl, by omega, hPl.ex (e.trans e2), g', O.a, O.lt, O.nd, O.len, hab, (fun hn => by rw [O.mg] at hn; cases hn), fun l hl q' H' hq e' h' => ?_⟩
      rw [O.mg] at hl
      obtain rfl := Option.some.inj hl
      exact q q' H' hq e' h'
end
end K28
end

section
set_option Elab.async false
set_option linter.all false
set_option maxRecDepth 100000
set_option maxHeartbeats 4000000
namespace K28
open PySem PySem.Spec PyProof.Rows L2 He Cn Evl
theorem pass_no {P : Program} {w : World} {X : Cx} : Passes (L2.CX P w) X E0 := fun _ _ _ _ _ _ _ h => by
  obtain ⟨_, _, _, _, _, _, _, _, _, _, _, _, z⟩ := h
  exact z.elim
/-- the address of the x-th kind -/
def kf (ka : List Addr) (x : Nat) : Addr := ka.getD x 0
theorem kf_at {ka : List Addr} {x : Nat} {a : Addr} (h : ka[x]? = some a) : kf ka x = a := by
  unfold kf
  rw [List.getD_eq_getElem?_getD, h]
  rfl
theorem kf_mem {ka : List Addr} {x : Nat} (h : x < ka.length) : ka[x]? = some (kf ka x) := by
  obtain ⟨a, ha⟩ := at_some h
  rw [kf_at ha]
  exact ha
theorem kf_app {ka : List Addr} {a : Addr} {x : Nat} (h : x < ka.length) : kf (ka ++ [a]) x = kf ka x := kf_at (by rw [List.getElem?_append_left h]; exact kf_mem h)
theorem kf_inj {ka : List Addr} (nd : ka.Nodup) {x y : Nat} (hx : x < ka.length) (hy : y < ka.length) (e : kf ka x = kf ka y) : x = y := nd_ix nd (kf_mem hx) (by rw [e]; exact kf_mem hy)
theorem kf_app_len {ka : List Addr} {a : Addr} : kf (ka ++ [a]) ka.length = a := kf_at (by rw [List.getElem?_append_right (Nat.le_refl _)]; simp)
/-- the kinds that were made of the plans -/
structure KindsAt (K : PySem.W.Frag) (G : Hp) (ka : List Addr) (ls : List (List Nat)) : Prop where
  nd : ka.Nodup
  kd : ∀ x, x < ka.length → KdAt K G (kf ka x) ((ls.getD x []).map (kf ka))
theorem KindsAt.ex {K : PySem.W.Frag} {G H : Hp} {ka : List Addr} {ls : List (List Nat)} (e : Ex G H) (h : KindsAt K G ka ls) : KindsAt K H ka ls := ⟨h.nd, fun x hx => (h.kd x hx).ex e⟩
section
variable {P : Program} {w : World} {K : PySem.W.Frag} {mg : Str → Option Value} {base : Heap}
/-- what stands above a new kind of these spots -/
theorem abv_of {G : Hp} {t : Addr} {ka : List Addr} {ab ls : List (List Nat)} {as : List Nat} (hK : KindsAt K G ka ls) (g : GoodUp ab ls ka.length) (lt : ∀ x, x ∈ as → x < ka.length) (nd : as.Nodup) (hl : as.length ≤ 10) (ht : SqT K G t (refs (as.map (kf ka)))) :
    Abv K G t (as.map (kf ka)) ka (as.map fun x => (ls.getD x []).map (kf ka)) 20 := by
  have hr := rows_ok g lt nd
  have e : (as.map fun x => (ls.getD x []).map (kf ka)) ++ [as.map (kf ka)] = Mg.mapR (kf ka) (rowsOf ls as) := by
    unfold Mg.mapR rowsOf
    rw [List.map_append, List.map_map]
    rfl
  have hin : ∀ r, r ∈ Mg.mapR (kf ka) (rowsOf ls as) → ∃ r', r' ∈ rowsOf ls as ∧ r = r'.map (kf ka) := fun r hr => by
    obtain ⟨r', h1, h2⟩ := List.mem_map.mp hr
    exact ⟨r', h1, h2.symm⟩
  have inj : ∀ x, x < ka.length → ∀ y, y < ka.length → kf ka x = kf ka y → x = y := fun x hx y hy e => kf_inj hK.nd hx hy e
  have hlt : ∀ r', r' ∈ rowsOf ls as → ∀ y, y ∈ r' → y < ka.length := fun r' hr' y hy => List.mem_range.mp (hr.2 r' hr' y hy)
  have ndm : ∀ (l : List Nat), (∀ x, x ∈ l → x < ka.length) → l.Nodup → (l.map (kf ka)).Nodup := fun l hl nd => by
    induction l with
    | nil => exact List.nodup_nil
    | cons a l ih =>
      obtain ⟨n1, n2⟩ := List.nodup_cons.mp nd
      refine List.nodup_cons.mpr ⟨fun q => ?_, ih (fun x hx => hl x (List.mem_cons_of_mem _ hx)) n2⟩
      obtain ⟨b, hb, e⟩ := List.mem_map.mp q
      have := inj b (hl b (List.mem_cons_of_mem _ hb)) a (hl a (List.mem_cons_self ..)) e
      exact n1 (this ▸ hb)
  have len : ∀ r', r' ∈ rowsOf ls as → r'.length ≤ 10 := fun r' hr' => by
    have := nodup_len r' (List.range ka.length) (hr.1 r' hr') (hr.2 r' hr')
    rw [List.length_range] at this
    have := g.1
    omega
  refine ⟨⟨ht, by rw [List.length_map, List.length_map], fun i a l ha hl => ?_⟩, ndm as lt nd, by rw [List.length_map]; omega, ?_, fun l hl => ?_, ?_, ?_, ?_, by decide⟩
  · rw [List.getElem?_map] at ha hl
    cases q : as[i]? with
    | none => rw [q] at ha; cases ha
    | some x =>
      rw [q] at ha hl
      obtain rfl := Option.some.inj ha
      obtain rfl := Option.some.inj hl
      exact hK.kd x (lt x (List.mem_of_getElem? q))
  · rw [e]
    intro r hr'
    obtain ⟨r', h1, rfl⟩ := hin r hr'
    exact ndm r' (hlt r' h1) (hr.1 r' h1)
  · obtain ⟨x, hx, rfl⟩ := List.mem_map.mp hl
    rw [List.length_map]
    have : ls.getD x [] ∈ rowsOf ls as := by
      unfold rowsOf
      exact List.mem_append_left _ (List.mem_map_of_mem hx)
    have := len _ this
    omega
  · rw [e]
    intro r hr' b hb
    obtain ⟨r', h1, rfl⟩ := hin r hr'
    obtain ⟨y, hy, rfl⟩ := List.mem_map.mp hb
    exact (hK.kd y (hlt r' h1 y hy)).plain
  · rw [e]
    intro r hr' b hb
    obtain ⟨r', h1, rfl⟩ := hin r hr'
    obtain ⟨y, hy, rfl⟩ := List.mem_map.mp hb
    exact List.mem_of_getElem? (kf_mem (hlt r' h1 y hy))
  · rw [e]
    have := Mg.cnt_le ka (Mg.mapR (kf ka) (rowsOf ls as))
    have := g.1
    omega
theorem merge_of {ka : List Addr} {ab ls : List (List Nat)} {as : List Nat} (nda : ka.Nodup) (g : GoodUp ab ls ka.length) (lt : ∀ x, x ∈ as → x < ka.length) (nd : as.Nodup) :
    Mg.merge 20 ((as.map fun x => (ls.getD x []).map (kf ka)) ++ [as.map (kf ka)]) = (Mg.merge 20 (rowsOf ls as)).map (List.map (kf ka)) := by
  have hr := rows_ok g lt nd
  have e : (as.map fun x => (ls.getD x []).map (kf ka)) ++ [as.map (kf ka)] = Mg.mapR (kf ka) (rowsOf ls as) := by
    unfold Mg.mapR rowsOf
    rw [List.map_append, List.map_map]
    rfl
  rw [e]
  exact Mg.merge_map (cs := List.range ka.length) (fun x hx y hy e => kf_inj nda (List.mem_range.mp hx) (List.mem_range.mp hy) e) 20 hr.2
theorem sqt_del {H : Hp} {pf q : Addr} {xs ys : List V} (hf : H pf = some (.lst xs)) (h : SqT K H q ys) : SqT K (del H pf) q ys := by
  rcases h with h | h
  · rcases h with h | ⟨o, h⟩
    · exact .inl (.inl (by rw [del_ne (ne_of h hf (by intro z; cases z))]; exact h))
    · exact .inl (.inr ⟨o, by rw [del_ne (ne_of h hf (by intro z; cases z))]; exact h⟩)
  · exact .inr h
theorem kd_del {H : Hp} {pf a : Addr} {xs : List V} {l : List Addr} (hf : H pf = some (.lst xs)) (h : KdAt K H a l) : KdAt K (del H pf) a l := by
  obtain ⟨dx, q, m, fs, h1, h2, ⟨h3, h3d⟩, h4, h5, h6⟩ := h
  refine ⟨dx, q, m, fs, by rw [del_ne (ne_of h1 hf (by intro z; cases z))]; exact h1, h2, ⟨sqt_del hf h3, ?_⟩, h4, sqt_del hf h5, h6⟩
  rcases h3d with ⟨o, u, q1, q2⟩ | h
  · exact .inl ⟨o, u, by rw [del_ne (ne_of q1 hf (by intro z; cases z))]; exact q1, q2⟩
  · exact .inr h
theorem dg_of {H : Hp} {d : Addr} {kvs : List (L2.Key × V)} {x : Str} {v : V} (h : H d = some (.dK kvs)) (hv : valV kvs (.inr x) = some v) : DGet H d (.str x) (some v) := by
  have := DGet.k (k := .inr x) h
  rw [hv] at this
  exact this
end
end K28
end

section
set_option Elab.async false
set_option linter.all false
set_option maxRecDepth 100000
set_option maxHeartbeats 4000000
namespace K28
open PySem PySem.Spec PyProof.Rows L2 He Cn Evl
/-! ### what is due of a ring, over rows of values -/
def inG (rows : List (List V)) (x : V) : Bool := rows.any fun r => decide (x ∈ r)
def befG (rows : List (List V)) (x y : V) : Bool := rows.any fun r => decide (x ∈ r) && (decide (y ∈ r) && decide (r.idxOf x < r.idxOf y))
def scanG (rows : List (List V)) : V → List V → Option Str
  | _, [] => none
  | p, x :: xs => if inG rows x = true then (if befG rows p x = true then scanG rows x xs else some "order") else some "kind"
def dueG (rows : List (List V)) (xs : List V) : Option Str := if xs.length < 2 then some "form" else scanG rows (xs.getLastD .non) xs
theorem inG_iff {rows : List (List V)} {x : V} : inG rows x = true ↔ ∃ r, r ∈ rows ∧ x ∈ r := by
  unfold inG
  rw [List.any_eq_true]
  constructor
  · rintro ⟨r, h1, h2⟩
    exact ⟨r, h1, of_decide_eq_true h2⟩
  · rintro ⟨r, h1, h2⟩
    exact ⟨r, h1, decide_eq_true h2⟩
theorem befG_iff {rows : List (List V)} {x y : V} : befG rows x y = true ↔ ∃ r, r ∈ rows ∧ x ∈ r ∧ y ∈ r ∧ r.idxOf x < r.idxOf y := by
  unfold befG
  rw [List.any_eq_true]
  constructor
  · rintro ⟨r, h1, h2⟩
    obtain ⟨h2, h3⟩ := He.ba h2
    obtain ⟨h3, h4⟩ := He.ba h3
    exact ⟨r, h1, of_decide_eq_true h2, of_decide_eq_true h3, of_decide_eq_true h4⟩
  · rintro ⟨r, h1, h2, h3, h4⟩
    refine ⟨r, h1, ?_⟩
    rw [decide_eq_true h2, decide_eq_true h3, decide_eq_true h4] <;> rfl
theorem befG_in {rows : List (List V)} {x y : V} (h : befG rows x y = true) : inG rows x = true := by
  obtain ⟨r, h1, h2, _⟩ := befG_iff.mp h
  exact inG_iff.mpr ⟨r, h1, h2⟩
/-! ### the same of renamed values -/
section
variable {ρ : V → V} {rows : List (List V)}
/-- ρ keeps x apart from the rows' other values -/
def Apart (ρ : V → V) (rows : List (List V)) (x : V) : Prop := ∀ r, r ∈ rows → ∀ y, y ∈ r → ρ x = ρ y → x = y
theorem mem_ap {r : List V} {x : V} (h : ∀ y, y ∈ r → ρ x = ρ y → x = y) : ρ x ∈ r.map ρ ↔ x ∈ r := by
  constructor
  · intro q
    obtain ⟨y, hy, e⟩ := List.mem_map.mp q
    rw [h y hy e.symm]
    exact hy
  · exact List.mem_map_of_mem
theorem idx_ap : ∀ {r : List V} {x : V}, (∀ y, y ∈ r → ρ x = ρ y → x = y) → (r.map ρ).idxOf (ρ x) = r.idxOf x
  | [], _, _ => rfl
  | a :: r, x, h => by
    rw [List.map_cons, List.idxOf_cons, List.idxOf_cons]
    have ih := idx_ap (r := r) (x := x) fun y hy => h y (List.mem_cons_of_mem _ hy)
    by_cases e : a = x
    · subst e
      simp
    · have e2 : ¬ ρ a = ρ x := fun q => e (h a (List.mem_cons_self ..) q.symm).symm
      have b1 : (a == x) = false := by simpa using e
      have b2 : (ρ a == ρ x) = false := by simpa using e2
      rw [b1, b2, ih]
theorem inG_map {x : V} (h : Apart ρ rows x) : inG (rows.map (List.map ρ)) (ρ x) = inG rows x := by
  have key : inG (rows.map (List.map ρ)) (ρ x) = true ↔ inG rows x = true := by
    rw [inG_iff, inG_iff]
    constructor
    · rintro ⟨r, h1, h2⟩
      obtain ⟨r', h3, rfl⟩ := List.mem_map.mp h1
      exact ⟨r', h3, (mem_ap (h r' h3)).mp h2⟩
    · rintro ⟨r, h1, h2⟩
      exact ⟨_, List.mem_map_of_mem h1, (mem_ap (h r h1)).mpr h2⟩
  exact Bool.eq_iff_iff.mpr key
theorem befG_map {x y : V} (hx : Apart ρ rows x) (hy : Apart ρ rows y) : befG (rows.map (List.map ρ)) (ρ x) (ρ y) = befG rows x y := by
  have key : befG (rows.map (List.map ρ)) (ρ x) (ρ y) = true ↔ befG rows x y = true := by
    rw [befG_iff, befG_iff]
    constructor
    · rintro ⟨r, h1, h2, h3, h4⟩
      obtain ⟨r', h5, rfl⟩ := List.mem_map.mp h1
      rw [idx_ap (hx r' h5), idx_ap (hy r' h5)] at h4
      exact ⟨r', h5, (mem_ap (hx r' h5)).mp h2, (mem_ap (hy r' h5)).mp h3, h4⟩
    · rintro ⟨r, h1, h2, h3, h4⟩
      refine ⟨_, List.mem_map_of_mem h1, (mem_ap (hx r h1)).mpr h2, (mem_ap (hy r h1)).mpr h3, ?_⟩
      rw [idx_ap (hx r h1), idx_ap (hy r h1)]
      exact h4
  exact Bool.eq_iff_iff.mpr key
theorem scanG_map : ∀ {xs : List V} {p : V}, Apart ρ rows p → (∀ x, x ∈ xs → Apart ρ rows x) → scanG (rows.map (List.map ρ)) (ρ p) (xs.map ρ) = scanG rows p xs
  | [], _, _, _ => rfl
  | x :: xs, p, hp, hx => by
    have h0 := hx x (List.mem_cons_self ..)
    show (if inG (rows.map (List.map ρ)) (ρ x) = true then _ else _) = (if inG rows x = true then _ else _)
    rw [inG_map h0, befG_map hp h0, scanG_map h0 fun y hy => hx y (List.mem_cons_of_mem _ hy)]
theorem getLastD_map {xs : List V} (h : xs ≠ []) : (xs.map ρ).getLastD .non = ρ (xs.getLastD .non) := by
  rw [List.getLastD_eq_getLast?, List.getLastD_eq_getLast?, List.getLast?_map]
  cases e : xs.getLast? with
  | none => exact absurd (List.getLast?_eq_none_iff.mp e) h
  | some a => rfl
theorem getLastD_mem {xs : List V} (h : xs ≠ []) : xs.getLastD .non ∈ xs := by
  rw [List.getLastD_eq_getLast?]
  cases e : xs.getLast? with
  | none => exact absurd (List.getLast?_eq_none_iff.mp e) h
  | some a => exact List.mem_of_getLast? e
theorem dueG_map {xs : List V} (hx : ∀ x, x ∈ xs → Apart ρ rows x) : dueG (rows.map (List.map ρ)) (xs.map ρ) = dueG rows xs := by
  unfold dueG
  rw [List.length_map]
  by_cases h : xs.length < 2
  · rw [if_pos h, if_pos h]
  · rw [if_neg h, if_neg h]
    have hne : xs ≠ [] := fun q => by rw [q] at h; exact h (by decide)
    rw [getLastD_map hne]
    exact scanG_map (hx _ (getLastD_mem hne)) hx
end
/-! ### rings -/
theorem bef_refs {rows : List (List Addr)} {a b : Addr} : befG (rows.map refs) (.ref a) (.ref b) = true ↔ Mg.Before rows a b := by
  rw [befG_iff]
  constructor
  · rintro ⟨r, h1, h2, h3, h4⟩
    obtain ⟨r', h5, rfl⟩ := List.mem_map.mp h1
    rw [idx_refs, idx_refs] at h4
    exact ⟨r', h5, mem_refs.mp h2, mem_refs.mp h3, h4⟩
  · rintro ⟨r, h1, h2, h3, h4⟩
    refine ⟨_, List.mem_map_of_mem h1, mem_refs.mpr h2, mem_refs.mpr h3, ?_⟩
    rw [idx_refs, idx_refs]
    exact h4
theorem scan_none {rows : List (List V)} : ∀ {xs : List V} {p : V}, (∀ x, x ∈ xs → inG rows x = true) → (∀ (i : Nat) (x y : V), (p :: xs)[i]? = some x → (p :: xs)[i + 1]? = some y → befG rows x y = true) → scanG rows p xs = none
  | [], _, _, _ => rfl
  | x :: xs, p, h1, h2 => by
    unfold scanG
    rw [if_pos (h1 x (List.mem_cons_self ..)), if_pos (h2 0 p x rfl rfl)]
    exact scan_none (fun y hy => h1 y (List.mem_cons_of_mem _ hy)) fun i a b ha hb => h2 (i + 1) a b ha hb
theorem due_ring {rows : List (List Addr)} {ring : List Addr} (R : Mg.Ring rows ring) (hin : ∀ a, a ∈ ring → ∃ r, r ∈ rows ∧ a ∈ r) : dueG (rows.map refs) (refs ring) = none := by
  have h2 := R.two
  have lr : (refs ring).length = ring.length := by unfold refs; rw [List.length_map]
  unfold dueG
  rw [if_neg (by omega)]
  refine scan_none (fun x hx => ?_) fun i x y hx hy => ?_
  · obtain ⟨a, ha, rfl⟩ := List.mem_map.mp hx
    obtain ⟨r, h3, h4⟩ := hin a ha
    exact inG_iff.mpr ⟨_, List.mem_map_of_mem h3, mem_refs.mpr h4⟩
  · have hy' : (refs ring)[i]? = some y := hy
    obtain ⟨b, hb, rfl⟩ := refs_at hy'
    cases i with
    | zero =>
      obtain ⟨a, ha⟩ := at_some (l := ring) (i := ring.length - 1) (by omega)
      have e : (refs ring).getLastD .non = .ref a := by
        rw [List.getLastD_eq_getLast?, List.getLast?_eq_getElem?, lr, at_refs ha]
        rfl
      have hx : some ((refs ring).getLastD .non) = some x := hx
      rw [e] at hx
      obtain rfl := Option.some.inj hx
      exact bef_refs.mpr (R.lst a b ha hb)
    | succ j =>
      have hx' : (refs ring)[j]? = some x := hx
      obtain ⟨a, ha, rfl⟩ := refs_at hx'
      exact bef_refs.mpr (R.nxt j a b ha hb)
theorem due_len {rows : List (List V)} {xs : List V} (h : dueG rows xs = none) : 2 ≤ xs.length := by
  unfold dueG at h
  by_cases q : xs.length < 2
  · rw [if_pos q] at h
    cases h
  · omega
theorem due_some {rows : List (List V)} {xs : List V} {z : Str} (h : dueG rows xs = some z) : z = "form" ∨ z = "kind" ∨ z = "order" := by
  unfold dueG at h
  by_cases q : xs.length < 2
  · rw [if_pos q] at h
    exact .inl (Option.some.inj h).symm
  · rw [if_neg q] at h
    have key : ∀ (ys : List V) (p : V), scanG rows p ys = some z → z = "kind" ∨ z = "order" := by
      intro ys
      induction ys with
      | nil => intro p h; cases h
      | cons y ys ih =>
        intro p h
        unfold scanG at h
        by_cases q1 : inG rows y = true
        · rw [if_pos q1] at h
          by_cases q2 : befG rows p y = true
          · rw [if_pos q2] at h
            exact ih _ h
          · rw [if_neg q2] at h
            exact .inr (Option.some.inj h).symm
        · rw [if_neg q1] at h
          exact .inl (Option.some.inj h).symm
    exact .inr (key _ _ h)
end K28
end

section
set_option Elab.async false
set_option linter.all false
set_option maxRecDepth 100000
set_option maxHeartbeats 4000000
namespace K28
open PySem PySem.Spec PyProof.Rows L2 He Cn Evl
/-! ### values that are no kinds -/
inductive OddV (H : Hp) : V → Prop where
  | non : OddV H .non
  | str (z : Str) : OddV H (.str z)
  | int (i : Int) : OddV H (.int i)
  | tup {p : Addr} {xs : List V} (h : H p = some (.tup xs)) : OddV H (.ref p)
  | lst {p : Addr} {xs : List V} (h : H p = some (.lst xs)) : OddV H (.ref p)
theorem OddV.ex {H H' : Hp} {x : V} (e : Ex H H') (h : OddV H x) : OddV H' x := by
  cases h with
  | non => exact .non
  | str z => exact .str z
  | int i => exact .int i
  | tup h => exact .tup (e _ _ h)
  | lst h => exact .lst (e _ _ h)
theorem OddV.ko {C : Addr} {H : Hp} {a : Addr} (h : OddV H (.ref a)) (k : KO C H a) : False := by
  obtain ⟨dx, fs, k⟩ := k
  cases h with
  | tup h => rw [h] at k; cases k
  | lst h => rw [h] at k; cases k
def ItV (K : PySem.W.Frag) (H : Hp) (x : V) : Prop := (∃ a, x = .ref a ∧ KO (kC K) H a) ∨ OddV H x
theorem ItV.ex {K : PySem.W.Frag} {H H' : Hp} {x : V} (e : Ex H H') (h : ItV K H x) : ItV K H' x := by
  rcases h with ⟨a, rfl, h⟩ | h
  · exact .inl ⟨a, rfl, h.ex e⟩
  · exact .inr (h.ex e)
section
variable {P : Program} {w : World} {K : PySem.W.Frag} {mg : Str → Option Value} {base : Heap}
theorem lin_of (T : Txt K mg) {t : String} (h : t ∈ (["NoneType", "str", "int", "tuple", "list"] : List String)) : PySem.W.kitOne K (.type t) (.ref (ga K "Lined")) = some false :=
  of_decide_eq_true (List.all_eq_true.mp T.lin t h)
theorem odd_ty (T : Txt K mg) {H : Hp} {x : V} (h : OddV H x) : ∃ t : String, t ∈ (["NoneType", "str", "int", "tuple", "list"] : List String) ∧ TyX K H x (.type t) := by
  cases h with
  | non => exact ⟨"NoneType", by simp, .base .non⟩
  | str z => exact ⟨"str", by simp, .base (.str z)⟩
  | int i => exact ⟨"int", by simp, .base (.int i)⟩
  | tup h => exact ⟨"tuple", by simp, .base (.tup h)⟩
  | lst h => exact ⟨"list", by simp, .base (.lst h)⟩
theorem ev_isO (T : Txt K mg) {σ : L2.St} {H : Hp} {ta : TE} {x : V} (h : Ev ta σ H x) (hk : OddV H x) : Ev (tCB (rIsi K) (tCons ta (tCons (tC (.ref (ga K "Lined"))) tNil))) σ H (.bl false) :=
  ev_cb (ea_cons h (ea_cons ev_c ea_nil)) fun H1 e Q q => by
    obtain ⟨t, ht, ty⟩ := odd_ty T (hk.ex e)
    exact ⟨x, .ref (ga K "Lined"), .type t, .ref (ga K "Lined"), false, rfl, .own _, ty, lin_of T ht, q H1 (Ex.refl H1)⟩
/-! ### is a value in the rows; does one stand before another -/
theorem inG_odd {H : Hp} {rows : List (List Addr)} {x : V} (ks : Ks (kC K) H rows) (h : OddV H x) : inG (rows.map refs) x = false := by
  cases e : inG (rows.map refs) x with
  | false => rfl
  | true =>
    obtain ⟨r, h1, h2⟩ := inG_iff.mp e
    obtain ⟨r', h3, rfl⟩ := List.mem_map.mp h1
    obtain ⟨a, ha, rfl⟩ := List.mem_map.mp h2
    exact (h.ko (ks r' h3 a ha)).elim
def spInRows (K : PySem.W.Frag) : Sp := fun vs H Q _ => ∃ (x : V) (p : Addr) (rows : List (List Addr)), vs = [x, .ref p] ∧ Rw K (SqD K) H p rows ∧ Ks (kC K) H rows ∧ ItV K H x ∧ rows.length ≤ 40 ∧ ∀ H', Ex H H' → Q (.bl (inG (rows.map refs) x)) H'
theorem can_inRows (T : Txt K mg) : Can P w K mg base CX0 1 "_is_in_rows" ["value", "rows"] (spInRows K) := by
  refine can_of T.g__is_in_rows T.F__is_in_rows (fun fd F => ?_) (fun _ _ _ _ _ _ us hl => match us, hl with | [_, _], _ => rfl)
  refine F.ok sc__is_in_rows (fun vs H Q E h => ?_) (fun cdv A outer s H vs Q E hr h => ?_)
  · obtain ⟨a, p, rows, rfl, _⟩ := h
    rfl
  · obtain ⟨x, p, rows, rfl, R, ks, hx, hz, fin⟩ := h
    have nd := sc__is_in_rows.nd
    refine ⟨_, pss_one (ps_ret (pe_and (pe_callB call_isi (by rfl) T.n_isinstance (by decide +kernel) (pa_cons (pv 0) (pa_cons (pe_glob rfl T.g_Lined (v := .ref (ga K "Lined")) rfl) pa_nil)))
      (pe_one (pe_callB (cr_any rfl) (by rfl) T.n_any (by decide +kernel) (pa_cons (pe_lc (own := [("row", 2)]) (wi := iList K (tVar 1)) (g := gName 2) (tt := tYes) (te := tOp (rInI K (kC K) false) (tVar 0) (tVar 2)) rfl nd (pi_list (pv 1)) (blkOk_by (N := ["value", "rows", "row"]) (sc := defScope s__is_in_rows) (by decide +kernel)) (fun _ _ _ _ _ => pg_name (i := 2) nd rfl (.inl rfl)) (fun _ _ _ _ _ => pts_nil) (fun _ _ _ _ _ => pe_cmpR (op_in_id hr T.idc) (pv 0) (pv 2) rfl)) pa_nil))))), ?_⟩
    rcases hx with ⟨a, rfl, ha⟩ | hx
    · obtain ⟨ps, hp, hlen, hrow⟩ := id R
      have lr : (refs ps).length = rows.length := by unfold refs; rw [List.length_map]; exact hlen
      have hL := el_lcK (K := K) wk_list (tl := tVar 1) (σ := [some (.ref a), some (.ref p), none]) (H := H) (j := 2) (t := tYes) (te := tOp (rInI K (kC K) false) (tVar 0) (tVar 2)) (vs := [2]) (ev_var rfl) hp (fun _ => true) (fun i => .bl (match rows[i]? with | some r => decide (a ∈ r) | none => false)) (by omega) (fun x => rfl) (fun i x H1 _ _ => fun H2 _ Q q => q H2 (Ex.refl H2)) (fun i x H1 e hx _ => by
        obtain ⟨q, hq, rfl⟩ := refs_at hx
        obtain ⟨r, hri⟩ := at_some (l := rows) (i := i) (by have := (List.getElem?_eq_some_iff.mp hq).1; omega)
        have hm := List.mem_of_getElem? hri
        have : (match rows[i]? with | some r => decide (a ∈ r) | none => false) = decide (a ∈ r) := by rw [hri]
        rw [this]
        exact ev_op (ev_var rfl) (ev_var rfl) (rv_in_id (neg := false) (.inr (ex_t e (hrow i q r hq hri).1)) (ha.ex e) fun b hb => (ks r hm b hb).ex e))
      rw [lr, given_all] at hL
      have hb : (((List.range rows.length).map fun i => (match rows[i]? with | some r => decide (a ∈ r) | none => false)).any id) = inG (rows.map refs) (.ref a) := by
        refine Bool.eq_iff_iff.mpr ?_
        rw [List.any_eq_true, inG_iff]
        constructor
        · rintro ⟨b, hb, h1⟩
          obtain ⟨i, hi, rfl⟩ := List.mem_map.mp hb
          obtain ⟨r, hr⟩ := at_some (l := rows) (i := i) (List.mem_range.mp hi)
          have h1 : (match rows[i]? with | some r => decide (a ∈ r) | none => false) = true := h1
          rw [hr] at h1
          exact ⟨_, List.mem_map_of_mem (List.mem_of_getElem? hr), mem_refs.mpr (of_decide_eq_true h1)⟩
        · rintro ⟨r, h1, h2⟩
          obtain ⟨r', h3, rfl⟩ := List.mem_map.mp h1
          obtain ⟨i, hi⟩ := List.mem_iff_getElem?.mp h3
          refine ⟨true, List.mem_map.mpr ⟨i, List.mem_range.mpr (List.getElem?_eq_some_iff.mp hi).1, ?_⟩, rfl⟩
          rw [hi]
          exact decide_eq_true (mem_refs.mp h2)
      have hL2 : EvL (tLc (iList K (tVar 1)) (gName 2) tYes (tOp (rInI K (kC K) false) (tVar 0) (tVar 2)) [2]) [some (.ref a), some (.ref p), none] H (((List.range rows.length).map fun i => (match rows[i]? with | some r => decide (a ∈ r) | none => false)).map V.bl) := by
        rw [List.map_map]
        exact hL
      have hA := ev_any (K := K) hL2
      rw [hb] at hA
      exact s_ret (v := .bl (true && inG (rows.map refs) (.ref a))) (ev_andV (a := true) (ev_isL T (ev_var rfl) ha) fun _ => hA) fun H1 e1 => fin H1 e1
    · refine s_ret (v := .bl (false && false)) (ev_andV (a := false) (b := false) (ev_isO T (ev_var rfl) hx) fun h => by cases h) fun H1 e1 => ?_
      have := fin H1 e1
      rw [inG_odd ks hx] at this
      exact this
def spBefore (K : PySem.W.Frag) : Sp := fun vs H Q _ => ∃ (x : V) (b p : Addr) (rows : List (List Addr)), vs = [x, .ref b, .ref p] ∧ Rw K (SqD K) H p rows ∧ Ks (kC K) H rows ∧ ItV K H x ∧ KO (kC K) H b ∧ ∀ H', Ex H H' → Q (.bl (befG (rows.map refs) x (.ref b))) H'
theorem can_before (T : Txt K mg) : Can P w K mg base CX0 1 "_is_before" ["first", "second", "rows"] (spBefore K) := by
  refine can_of T.g__is_before T.F__is_before (fun fd F => ?_) (fun _ _ _ _ _ _ us hl => match us, hl with | [_, _, _], _ => rfl)
  refine F.ok sc__is_before (fun vs H Q E h => ?_) (fun cdv A outer s H vs Q E hr h => ?_)
  · obtain ⟨a, b, p, rows, rfl, _⟩ := h
    rfl
  · obtain ⟨x, b, p, rows, rfl, R, ks, hx, hb, fin⟩ := h
    have nd := sc__is_before.nd
    refine ⟨_, pss_cons (ps_if (pt_not (pt_val (pe_callB call_isi (by rfl) T.n_isinstance (by decide +kernel) (pa_cons (pv 0) (pa_cons (pe_glob rfl T.g_Lined (v := .ref (ga K "Lined")) rfl) pa_nil))))) (pss_one (ps_ret pe_bl)) pss_nil)
      (pss_cons (ps_for PassesOwn.never rfl (pi_list (pv 2)) (pg_name (i := 3) nd rfl (.inl rfl))
        (pss_one (ps_if (PW.pt (pw_and (pt_cmpR (op_in_id hr T.idc) (pv 0) (pv 3) rfl) (pw_and (pt_cmpR (op_in_id hr T.idc) (pv 1) (pv 3) rfl) (pw_and1 (pt_cmpR op_lt (pe_bmD PySem.F.slot_tuple_index PySem.F.type_tuple_index (mt_tindex_id hr T.idc) (pv 3) (pa_cons (pv 0) pa_nil)) (pe_bmD PySem.F.slot_tuple_index PySem.F.type_tuple_index (mt_tindex_id hr T.idc) (pv 3) (pa_cons (pv 1) pa_nil)) (nomark _))))))
          (pss_one (ps_ret pe_bl)) pss_nil)))
      (pss_one (ps_ret pe_bl))), ?_⟩
    rcases hx with ⟨a, rfl, ha⟩ | hx
    · obtain ⟨ps, hp, hlen, hrow⟩ := id R
      refine q_when (et_not (et_B (ev_isL T (ev_var rfl) ha))) (fun h => by cases h) fun _ H1 e1 => ?_
      refine q_forLn (xs := refs ps) (ev_var rfl) (ex_l e1 hp) (fun i σ H' => ∃ v, σ = [some (.ref a), some (.ref b), some (.ref p), v] ∧ Ex H H' ∧ (Mg.Before rows a b ↔ Mg.Before (rows.drop i) a b)) (fun H2 e => ⟨_, rfl, e1.trans e, Iff.rfl⟩) (fun i σ H' _ ⟨v, _, e, _⟩ => ex_l e hp) ?_ ?_
      · rintro i x σ H' hx ⟨v, rfl, e, hd⟩
        obtain ⟨q, hq, rfl⟩ := refs_at hx
        obtain ⟨r, hri⟩ := at_some (l := rows) (i := i) (by have := (List.getElem?_eq_some_iff.mp hq).1; omega)
        have hS := (hrow i q r hq hri).ex e
        have hmem := List.mem_of_getElem? hri
        have hkr := fun a ha => (ks r hmem a ha).ex e
        rw [drop_at hri] at hd
        refine s_when (b := decide (a ∈ r) && (decide (b ∈ r) && decide (((r.idxOf a : Nat) : Int) < ((r.idxOf b : Nat) : Int)))) (et_and (et_test (ev_op (ev_var rfl) (ev_var rfl) (rv_in_id (neg := false) (.inr hS.1) (ha.ex e) hkr))) fun h1 => et_and (et_test (ev_op (ev_var rfl) (ev_var rfl) (rv_in_id (neg := false) (.inr hS.1) (hb.ex e) hkr))) fun h2 =>
          et_test (ev_op (ev_tix (ev_var rfl) (ev_var rfl) hS (ha.ex e) hkr (of_decide_eq_true h1)) (ev_tix (ev_var rfl) (ev_var rfl) hS (hb.ex e) hkr (of_decide_eq_true h2)) rv_I0)) (fun hc H2 e2 => s_ret ev_c fun H3 e3 => ?_) (fun hc H2 e2 => ⟨_, rfl, e.trans e2, ?_⟩)
        · obtain ⟨c1, hc⟩ := He.ba hc
          obtain ⟨c2, c3⟩ := He.ba hc
          have c3 := of_decide_eq_true c3
          have : befG (rows.map refs) (.ref a) (.ref b) = true := bef_refs.mpr ⟨r, hmem, of_decide_eq_true c1, of_decide_eq_true c2, by omega⟩
          have f := fin H3 ((e.trans e2).trans e3)
          rw [this] at f
          exact f
        · refine hd.trans ⟨fun hb => ?_, fun hb => ?_⟩
          · obtain ⟨r', hr', h1, h2, h3⟩ := hb
            rcases List.mem_cons.mp hr' with q | q
            · subst q
              have : ((r'.idxOf a : Nat) : Int) < ((r'.idxOf b : Nat) : Int) := by omega
              rw [decide_eq_true h1, decide_eq_true h2, decide_eq_true this] at hc
              cases hc
            · exact ⟨r', q, h1, h2, h3⟩
          · obtain ⟨r', hr', h⟩ := hb
            exact ⟨r', List.mem_cons_of_mem _ hr', h⟩
      · rintro σ H' ⟨v, rfl, e, hd⟩
        have lr : (refs ps).length = rows.length := by unfold refs; rw [List.length_map]; exact hlen
        rw [lr, List.drop_length] at hd
        have : befG (rows.map refs) (.ref a) (.ref b) = false := by
          cases q : befG (rows.map refs) (.ref a) (.ref b) with
          | false => rfl
          | true =>
            obtain ⟨r', hr', _⟩ := hd.mp (bef_refs.mp q)
            cases hr'
        refine s_ret ev_c fun H3 e3 => ?_
        have f := fin H3 (e.trans e3)
        rw [this] at f
        exact f
    · refine q_when (b := true) (et_not (a := false) (et_B (ev_isO T (ev_var rfl) hx))) (fun _ H1 e1 => s_ret ev_c fun H2 e2 => ?_) (fun h => by cases h)
      have : befG (rows.map refs) x (.ref b) = false := by
        cases q : befG (rows.map refs) x (.ref b) with
        | false => rfl
        | true =>
          have := befG_in q
          rw [inG_odd ks hx] at this
          cases this
      have f := fin H2 (e1.trans e2)
      rw [this] at f
      exact f
end
end K28
end

section
set_option Elab.async false
set_option linter.all false
set_option maxRecDepth 100000
set_option maxHeartbeats 4000000
namespace K28
open PySem PySem.Spec PyProof.Rows L2 He Cn Evl
section
variable {P : Program} {w : World} {K : PySem.W.Frag} {mg : Str → Option Value} {base : Heap}
/-! ### the error -/
def spIA (K : PySem.W.Frag) : Sp := fun vs H Q _ => ∃ (a : Addr) (it : V), vs = [.ref a, it] ∧ H a = some (exo a (kA K) none) ∧
  ∀ (d : Addr) (H' : Hp), H d = none → d ≠ a → H' a = some (exo a (kA K) (some d)) → H' d = some (exd d [("part", it)]) → (∀ b o, H b = some o → b ≠ a → H' b = some o) → Q .non H'
theorem ok_ia (T : Txt K mg) : ∃ fd, FnOk P w K mg base CX0 1 (ma K (kA K) "__init__") fd ["self", "part"] (spIA K) ∧ Binds K fd ["self", "part"] [] := by
  obtain ⟨fd, F⟩ := T.F_InvalidAnswer_init
  refine ⟨fd, F.ok sc_InvalidAnswer_init (fun vs H Q E h => ?_) (fun cdv A outer s H vs Q E hr h => ?_), F.binds fun _ _ _ _ _ _ us hl => match us, hl with | [_, _], _ => rfl⟩
  · obtain ⟨a, it, rfl, _⟩ := h
    rfl
  · obtain ⟨a, it, rfl, ha, k⟩ := h
    refine ⟨_, pss_one (ps_ost (pv 0) (pv 1)), ?_⟩
    refine ⟨_, rfl, _, rfl, a, kA K, rfl, T.oexA, T.e_part, .inl ⟨ha, fun d hd hda => ?_⟩⟩
    refine k d _ hd hda upd_same (by rw [upd_ne hda, upd_same]) fun b o e hb => ?_
    rw [upd_ne hb, upd_ne (ne_of_none e hd)]
    exact e
theorem ia_then {H1 : Hp} {it : V} {Q : XK} (k : ∀ (d : Addr) (H' : Hp), H1 d = none → Ex H1 H' → H' d = some (.xd [("part", it)]) → Q (.ref (kA K)) (some d) H') :
    ([it] : List V).length ≤ 1000 ∧ ∀ a, H1 a = none → spIA K (.ref a :: ([it] ++ [])) (upd H1 a (exo a (kA K) none))
      (fun v H2 => v = .non ∧ ∃ (d : Addr) (fs : List (Str × V)), H2 a = some (exo a (kA K) (some d)) ∧ H2 d = some (exd d fs) ∧ H1 d = none ∧ Q (.ref (kA K)) (some d) (upd (del H2 a) d (.xd fs))) (fun _ _ _ => False) := by
  refine ⟨by show 1 ≤ 1000; decide, fun a ha => ⟨a, it, rfl, upd_same, fun d H' hd hda ha' hd' fr => ⟨rfl, d, _, ha', hd', ?_, ?_⟩⟩⟩
  · rw [upd_ne hda] at hd
    exact hd
  · rw [upd_ne hda] at hd
    refine k d _ hd (fun b o e => ?_) upd_same
    rw [upd_ne (ne_of_none e hd), del_ne (ne_of_none e ha)]
    refine fr b o ?_ (ne_of_none e ha)
    rw [upd_ne (ne_of_none e ha)]
    exact e
/-! ### check_ring -/
def AnsErr (K : PySem.W.Frag) (H : Hp) (z : Str) (E : XK) : Prop := ∀ (d : Addr) (H' : Hp), H d = none → Ex H H' → H' d = some (.xd [("part", .str z)]) → E (.ref (kA K)) (some d) H'
/-- no tuple -/
inductive NoT (H : Hp) : V → Prop where
  | non : NoT H .non
  | bl (b : Bool) : NoT H (.bl b)
  | int (i : Int) : NoT H (.int i)
  | str (z : Str) : NoT H (.str z)
  | lst {p : Addr} {xs : List V} (h : H p = some (.lst xs)) : NoT H (.ref p)
  | dK {p : Addr} {kvs : List (L2.Key × V)} (h : H p = some (.dK kvs)) : NoT H (.ref p)
theorem NoT.ex {H H' : Hp} {x : V} (e : Ex H H') (h : NoT H x) : NoT H' x := by
  cases h with
  | non => exact .non
  | bl b => exact .bl b
  | int i => exact .int i
  | str z => exact .str z
  | lst h => exact .lst (e _ _ h)
  | dK h => exact .dK (e _ _ h)
theorem not_ty {H : Hp} {x : V} (h : NoT H x) : ∃ t : String, TyX K H x (.type t) ∧ PySem.W.kitOne K (.type t) (.type "tuple") = some false := by
  cases h with
  | non => exact ⟨"NoneType", .base .non, kit_ty (by decide +kernel)⟩
  | bl b => exact ⟨"bool", .base (.bl b), kit_ty (by decide +kernel)⟩
  | int i => exact ⟨"int", .base (.int i), kit_ty (by decide +kernel)⟩
  | str z => exact ⟨"str", .base (.str z), kit_ty (by decide +kernel)⟩
  | lst h => exact ⟨"list", .base (.lst h), kit_ty (by decide +kernel)⟩
  | dK h => exact ⟨"dict", .base (.dK h), kit_ty (by decide +kernel)⟩
theorem et_noT {σ : L2.St} {H : Hp} {x : V} {tu : TT} (hv : σ[1]? = some (some x)) (h : NoT H x) : EvT (tOr (tNot (tB (tCB (rIsi K) (tCons (tVar 1) (tCons (tC (.ty "tuple")) tNil))))) tu) σ H true := by
  have := et_or (t := tNot (tB (tCB (rIsi K) (tCons (tVar 1) (tCons (tC (.ty "tuple")) tNil))))) (u := tu) (σ := σ) (H := H) (a := true) (b := false)
    (et_not (a := false) (et_B (ev_cb (ea_cons (ev_var hv) (ea_cons ev_c ea_nil)) fun H1 e Q q => by
      obtain ⟨t, ty, k⟩ := not_ty (K := K) (h.ex e)
      exact ⟨x, .ty "tuple", .type t, .type "tuple", false, rfl, .ty _, ty, k, q H1 (Ex.refl H1)⟩)))
    (fun h => by cases h)
  exact this
theorem et_isT {σ : L2.St} {H : Hp} {p : Addr} {xs : List V} (hv : σ[1]? = some (some (.ref p))) (h : H p = some (.tup xs)) : EvT (tOr (tNot (tB (tCB (rIsi K) (tCons (tVar 1) (tCons (tC (.ty "tuple")) tNil))))) (tTest (tOp (rI0 fun i j => .bl (decide (i < j))) (tCB (rLenS K) (tCons (tVar 1) tNil)) (tC (.int 2))))) σ H (decide (xs.length < 2)) := by
  have := et_or (t := tNot (tB (tCB (rIsi K) (tCons (tVar 1) (tCons (tC (.ty "tuple")) tNil))))) (u := tTest (tOp (rI0 fun i j => .bl (decide (i < j))) (tCB (rLenS K) (tCons (tVar 1) tNil)) (tC (.int 2)))) (σ := σ) (H := H) (a := false) (b := decide (xs.length < 2))
    (et_not (a := true) (et_B (ev_cb (ea_cons (ev_var hv) (ea_cons ev_c ea_nil)) fun H1 e Q q => ⟨.ref p, .ty "tuple", .type "tuple", .type "tuple", true, rfl, .ty _, .base (.tup (e _ _ h)), kit_ty (by decide +kernel), q H1 (Ex.refl H1)⟩)))
    (fun _ => et_is (et_test (ev_op (x := .int (xs.length : Int)) (ev_cb (ea_cons (ev_var hv) ea_nil) fun H2 e2 Q q => ⟨p, _, rfl, .inr (st_of (e2 _ _ h)), q H2 (Ex.refl H2)⟩) ev_c rv_I0)) (by
      refine Bool.eq_iff_iff.mpr ?_
      rw [decide_eq_true_iff, decide_eq_true_iff]
      omega))
  exact this
def prevAt (xs : List V) : Nat → V
  | 0 => xs.getLastD .non
  | j + 1 => xs.getD j .non
theorem prev_at {xs : List V} {i : Nat} (h : i < xs.length) : atI xs ((i : Int) - 1) = some (prevAt xs i) := by
  cases i with
  | zero =>
    unfold atI ixN prevAt
    rw [if_neg (by decide), if_pos (by omega)]
    show xs[((((0 : Nat) : Int) - 1) + (xs.length : Int)).toNat]? = _
    rw [show ((((0 : Nat) : Int) - 1) + (xs.length : Int)).toNat = xs.length - 1 by omega, List.getLastD_eq_getLast?, List.getLast?_eq_getElem?]
    obtain ⟨x, hx⟩ := at_some (l := xs) (i := xs.length - 1) (by omega)
    rw [hx]
    rfl
  | succ j =>
    obtain ⟨y, hy⟩ := at_some (l := xs) (i := j) (by omega)
    have : prevAt xs (j + 1) = y := by
      show xs.getD j .non = y
      rw [List.getD_eq_getElem?_getD, hy]
      rfl
    rw [this]
    exact at_of (j := j) (by omega) hy
theorem prev_mem {xs : List V} {i : Nat} (h : i < xs.length) : prevAt xs i ∈ xs := by
  cases i with
  | zero => exact getLastD_mem fun q => by rw [q] at h; exact absurd h (by decide)
  | succ j =>
    obtain ⟨y, hy⟩ := at_some (l := xs) (i := j) (by omega)
    have : prevAt xs (j + 1) = y := by
      show xs.getD j .non = y
      rw [List.getD_eq_getElem?_getD, hy]
      rfl
    rw [this]
    exact List.mem_of_getElem? hy
theorem prev_next {xs : List V} {i : Nat} {x : V} (h : xs[i]? = some x) : prevAt xs (i + 1) = x := by
  show xs.getD i .non = x
  rw [List.getD_eq_getElem?_getD, h]
  rfl
def spCheckRing (K : PySem.W.Frag) : Sp := fun vs H Q E => ∃ (t : Addr) (r : V) (tops : List Addr) (lines : List (List Addr)), vs = [.ref t, r] ∧ Tops K H t tops lines ∧ SqD K H t (refs tops) ∧ tops.length ≤ 30 ∧ Ks (kC K) H (lines ++ [tops]) ∧
  ((NoT H r ∧ AnsErr K H "form" E) ∨ ∃ (rg : Addr) (xs : List V), r = .ref rg ∧ H rg = some (.tup xs) ∧ (∀ x, x ∈ xs → ItV K H x) ∧ xs.length ≤ 1000 ∧ (∀ z, dueG ((lines ++ [tops]).map refs) xs = some z → AnsErr K H z E) ∧ (dueG ((lines ++ [tops]).map refs) xs = none → ∀ H', Ex H H' → Q (.int (xs.length : Int)) H'))
theorem AnsErr.mono {H H' : Hp} {z : Str} {E : XK} (e : Ex H H') (h : AnsErr K H z E) : AnsErr K H' z E := fun d H2 hd e2 h2 => h d H2 (fresh_back e hd) (e.trans e2) h2
theorem fn_checkRing (T : Txt K mg) : ∀ fd, Fun K "check_ring" "check_ring" s_check_ring (ga K "check_ring") fd → FnOk P w K mg base (L2.CX P w) 3 (ga K "check_ring") fd ["above", "ring"] (spCheckRing K) := by
  have CR : Can P w K mg base CX0 1 "_rows_of" ["above"] (spRowsOf K (SqD K)) := can_rowsOfD T
  have CI : Can P w K mg base CX0 1 "_is_in_rows" ["value", "rows"] (spInRows K) := can_inRows T
  have CB : Can P w K mg base CX0 1 "_is_before" ["first", "second", "rows"] (spBefore K) := can_before T
  obtain ⟨fdI, FI, bI⟩ := ok_ia (P := P) (w := w) (base := base) T
  intro fd F
  refine F.okX sc_check_ring (fun vs H Q E h => ?_) (fun cdv A outer s H vs Q E hr h => ?_)
  · obtain ⟨t, r, tops, lines, rfl, _⟩ := h
    rfl
  · obtain ⟨t, r, tops, lines, rfl, hT, hTd, hz, ks, hcase⟩ := h
    have nd := sc_check_ring.nd
    refine ⟨_, pss_cons (ps_if (PW.pt (pw_or (pt_not (pt_val (pe_callB call_isi (by rfl) T.n_isinstance (by decide +kernel) (pa_cons (pv 1) (pa_cons (pe_bltn rfl T.n_tuple (v := .ty "tuple") (by decide +kernel) rfl) pa_nil))))) (pw_or1 (pt_cmpR op_lt (pe_callB call_len_seq (by rfl) T.n_len PySem.boot_len (pa_cons (pv 1) pa_nil)) pe_int (nomark _)))))
        (pss_one (ps_raise rfl (takes_of rfl rfl rfl rfl) (pmk_oex T.oexA T.mInitA.at_ T.tInitA FI (hr.mono (by decide)) bI .nil pass0 rfl T.g_InvalidAnswer (pa_cons pe_str pa_nil)))) pss_nil)
      (pss_cons (ps_set (i := 2) nd rfl (.inl rfl) (pe_can CR hr pass0 (pa_cons (pv 0) pa_nil)))
      (pss_cons (ps_for (passes_of rfl) rfl (pi_range1 rfl T.n_range (pa_cons (pe_callB call_len_seq (by rfl) T.n_len PySem.boot_len (pa_cons (pv 1) pa_nil)) pa_nil)) (pg_name (i := 3) nd rfl (.inl rfl))
        (pss_cons (ps_if (pt_not (pt_val (pe_can CI hr pass0 (pa_cons (pe_ix ix_tup (pv 1) (pv 3) (fun _ _ => rfl)) (pa_cons (pv 2) pa_nil)))))
          (pss_one (ps_raise rfl (takes_of rfl rfl rfl rfl) (pmk_oex T.oexA T.mInitA.at_ T.tInitA FI (hr.mono (by decide)) bI .nil pass0 rfl T.g_InvalidAnswer (pa_cons pe_str pa_nil)))) pss_nil)
        (pss_one (ps_if (pt_not (pt_val (pe_can CB hr pass0 (pa_cons (pe_ix ix_tup (pv 1) (pe_op op_sub (pv 3) pe_int) (fun _ _ => rfl)) (pa_cons (pe_ix ix_tup (pv 1) (pv 3) (fun _ _ => rfl)) (pa_cons (pv 2) pa_nil))))))
          (pss_one (ps_raise rfl (takes_of rfl rfl rfl rfl) (pmk_oex T.oexA T.mInitA.at_ T.tInitA FI (hr.mono (by decide)) bI .nil pass0 rfl T.g_InvalidAnswer (pa_cons pe_str pa_nil)))) pss_nil))))
      (pss_one (ps_ret (pe_callB call_len_seq (by rfl) T.n_len PySem.boot_len (pa_cons (pv 1) pa_nil)))))), ?_⟩
    rcases hcase with ⟨hno, err⟩ | ⟨rg, xs, rfl, hrg, hit, hxl, err, fin⟩
    · refine q_when (et_noT rfl hno) (fun _ H1 e1 => ?_) (fun h => by cases h)
      exact ia_then fun d H2 hd e2 h2 => err d H2 (fresh_back e1 hd) (e1.trans e2) h2
    generalize hr0 : lines ++ [tops] = rows0 at *
    refine q_when (et_isT rfl hrg) (fun hb H1 e1 => ?_) (fun hb H1 e1 => ?_)
    · refine ia_then fun d H2 hd e2 h2 => err "form" ?_ d H2 (fresh_back e1 hd) (e1.trans e2) h2
      unfold dueG
      rw [if_pos (of_decide_eq_true hb)]
    have hge : ¬ xs.length < 2 := of_decide_eq_false hb
    have hlen : ∀ {H2 : Hp} {σ : L2.St}, Ex H H2 → σ[1]? = some (some (.ref rg)) → Ev (tCB (rLenS K) (tCons (tVar 1) tNil)) σ H2 (.int (xs.length : Int)) := fun e hv => ev_cb (ea_cons (ev_var hv) ea_nil) fun H3 e3 Q q => ⟨rg, _, rfl, .inr (st_of (e3 _ _ (e _ _ hrg))), q H3 (Ex.refl H3)⟩
    refine ⟨_, rfl, t, tops, lines, rfl, hT.ex e1, hTd.ex e1, hz, fun pr H2 hpr e2 R2 => ?_⟩
    rw [hr0] at R2
    have e12 := e1.trans e2
    have hl0 : rows0.length ≤ 40 := by
      rw [← hr0, List.length_append, ← hT.2.1]
      simp
      omega
    have hd0 : dueG (rows0.map refs) xs = scanG (rows0.map refs) (prevAt xs 0) (xs.drop 0) := by
      unfold dueG
      rw [if_neg hge, List.drop_zero]
      rfl
    refine q_forR1 (n := (xs.length : Int)) (ea_cons (hlen e12 rfl) ea_nil) ⟨by omega, by omega⟩ (fun i σ H' => ∃ v, σ = [some (.ref t), some (.ref rg), some (.ref pr), v] ∧ Ex H2 H' ∧ dueG (rows0.map refs) xs = scanG (rows0.map refs) (prevAt xs i) (xs.drop i)) (fun H3 e3 => ⟨_, rfl, e3, hd0⟩) ?_ ?_
    · rintro i σ H3 hi ⟨v, rfl, e3, hd⟩
      have hi' : i < xs.length := by omega
      obtain ⟨x, hx⟩ := at_some (l := xs) hi'
      have e13 := e12.trans e3
      have hxm := List.mem_of_getElem? hx
      rw [drop_at hx] at hd
      unfold scanG at hd
      have evx : ∀ {H4 : Hp}, Ex H3 H4 → Ev (tOp (rIxT K) (tVar 1) (tVar 3)) [some (.ref t), some (.ref rg), some (.ref pr), some (.int (i : Int))] H4 x := fun e => ev_op (ev_var rfl) (ev_var rfl) (rv_ixT (st_of (e _ _ (e13 _ _ hrg))) (at_of rfl hx))
      refine q_when (et_not (a := inG (rows0.map refs) x) (et_B (ev_call (ea_cons (evx (Ex.refl H3)) (ea_cons (ev_var rfl) ea_nil)) fun H4 e4 Q q E => ⟨x, pr, rows0, rfl, R2.imp (fun _ _ h => h.ex (e3.trans e4)) (e3.trans e4), ks.ex (e13.trans e4), (hit x hxm).ex (e13.trans e4), hl0, fun H5 e5 => q H5 e5⟩))) (fun hbq H4 e4 => ?_) fun hbq H4 e4 => ?_
      · have hin : inG (rows0.map refs) x = false := by simpa using hbq
        rw [hin, if_neg (by decide)] at hd
        exact ia_then fun d H5 hd5 e5 h5 => err _ hd d H5 (fresh_back (e13.trans e4) hd5) ((e13.trans e4).trans e5) h5
      have hin : inG (rows0.map refs) x = true := by simpa using hbq
      rw [hin, if_pos rfl] at hd
      have e14 := e13.trans e4
      obtain ⟨b, rfl, hb⟩ : ∃ b, x = .ref b ∧ KO (kC K) H b := by
        rcases hit x hxm with h | h
        · exact h
        · have := inG_odd ks h
          rw [hin] at this
          cases this
      refine s_when (et_not (a := befG (rows0.map refs) (prevAt xs i) (.ref b)) (et_B (ev_call (ea_cons (ev_op (ev_var rfl) (ev_op (ev_var rfl) ev_c rv_I0) (rv_ixT (st_of (e14 _ _ hrg)) (prev_at hi'))) (ea_cons (evx e4) (ea_cons (ev_var rfl) ea_nil))) fun H5 e5 Q q E => ⟨prevAt xs i, b, pr, rows0, rfl, R2.imp (fun _ _ h => h.ex ((e3.trans e4).trans e5)) ((e3.trans e4).trans e5), ks.ex (e14.trans e5), (hit _ (prev_mem hi')).ex (e14.trans e5), hb.ex (e14.trans e5), fun H6 e6 => q H6 e6⟩))) (fun hb2 H5 e5 => ?_) fun hb2 H5 e5 => ?_
      · have hbf : befG (rows0.map refs) (prevAt xs i) (.ref b) = false := by simpa using hb2
        rw [hbf, if_neg (by decide)] at hd
        exact ia_then fun d H6 hd6 e6 h6 => err _ hd d H6 (fresh_back (e14.trans e5) hd6) ((e14.trans e5).trans e6) h6
      · have hbf : befG (rows0.map refs) (prevAt xs i) (.ref b) = true := by simpa using hb2
        rw [hbf, if_pos rfl] at hd
        refine ⟨_, rfl, (e3.trans e4).trans e5, ?_⟩
        rw [prev_next hx]
        exact hd
    · rintro σ H3 ⟨v, rfl, e3, hd⟩
      have hd : dueG (rows0.map refs) xs = none := by
        rw [hd, show ((xs.length : Int)).toNat = xs.length by omega, List.drop_length]
        rfl
      exact s_ret (hlen (e12.trans e3) rfl) fun H4 e4 => fin hd H4 ((e12.trans e3).trans e4)
theorem can_checkRing (T : Txt K mg) : Can P w K mg base (L2.CX P w) 3 "check_ring" ["above", "ring"] (spCheckRing K) :=
  can_of T.g_check_ring T.F_check_ring (fn_checkRing T) (fun _ _ _ _ _ _ us hl => match us, hl with | [_, _], _ => rfl)
end
end K28
end

section
set_option Elab.async false
set_option linter.all false
set_option maxRecDepth 100000
set_option maxHeartbeats 2000000
/-! try: body, except x as n: suite, and what stands behind, where the exception is kept by another name -/
namespace L2
open PySem PySem.Spec PyProof.Rows
/-- ts: the suite, tr: what stands behind when it was caught -/
def wKeep (K : PySem.W.Frag) (c : Value) (i : Nat) (ts tr : Addr → Value → Option Addr → TS) (Wout : WX) (D : Ends) : WX := fun cls d σ H =>
  ∃ b, PySem.W.exmOne K cls c = some b ∧ (b = true → ∀ a, H a = none → ts a cls d { nx := fun σ' H' => tr a cls d D (σ'.set i none) H', rt := fun _ _ => False } (σ.set i (some (.ref a))) H) ∧
    (b = false → Wout cls d σ H)
/-- what the try hands on to what stands behind -/
def KQ (X : Cx) (pins : List (Addr × Obj)) (D : Ends) (rest : List Stmt) (f : Flow) (s' : Shared) : Prop := match f with
  | .next => wpAny (model X.prog X.w) X.A (execs rest X.env) (SP X pins D) X.xe s'
  | .brk => SP X pins D .brk s'
  | .cont => SP X pins D .cont s'
  | .ret u => SP X pins D (.ret u) s'
section
variable {X : Cx} {x n : Str} {c : Value} {i : Nat} {body suite rest : List Stmt} {b₀ : Stmt} {np pos pos' : Pos} {tb : WX → TS} {tn : TS} {ts tr : Addr → Value → Option Addr → TS} {Wout : WX}
theorem pss_try_keep (hs : X.stack = X.env :: X.outer) (hf : X.env.frame = some X.env.locals) (hN : X.N.Nodup) (hi : X.N[i]? = some n) (hln : X.env.kindOf n = some .local) (hc : Names X x c) (tk : Takes X Wout)
    (hb : ∀ (W : WX) (pn : List (Addr × Obj)) (xe : Value → Shared → Prop), Takes (X.tr pn xe) W → PassesOwn (model X.prog X.w) X.A X.env xe → PSs (X.tr pn xe) body (tb W))
    (hsu : ∀ (a : Addr) (oe : Obj) (cls : Value) (d : Option Addr) (pn : List (Addr × Obj)), Zc cls d oe → (∃ vs, oe.data = .fields vs) → PSs (X.suite a ((a, oe) :: pn)) (b₀ :: suite) (ts a cls d))
    (hn : PSs X rest tn) (hr : ∀ (a : Addr) (oe : Obj) (cls : Value) (d : Option Addr) (pn : List (Addr × Obj)), Zc cls d oe → (∃ vs, oe.data = .fields vs) → PSs (X.tr ((a, oe) :: pn) X.xe) rest (tr a cls d)) :
    PSs X (.Try body [.ExceptHandler (some (.Name x np)) (some n) (b₀ :: suite) pos'] [] [] pos :: rest) (fun D σ H => tb (wKeep X.K c i ts tr Wout D) { D with nx := tn D } σ H) := by
  refine ⟨fun pins s σ H D I h => ?_⟩
  have ok := I.ok
  have hfr : X.A.frames = some (X.env :: X.outer) := by rw [ok.frames, hs]
  have hloc : Loc X.env.scope n := .inl hln
  refine wpAny_execs_cons (thn (Q := KQ X pins D rest) ?_ fun f s' h => by cases f <;> exact h)
  generalize hQ : KQ X pins D rest = Q
  have q_next : ∀ s', wpAny (model X.prog X.w) X.A (execs rest X.env) (SP X pins D) X.xe s' → Q .next s' := fun s' h => by rw [← hQ]; exact h
  have q_brk : ∀ s', SP X pins D .brk s' → Q .brk s' := fun s' h => by rw [← hQ]; exact h
  have q_cont : ∀ s', SP X pins D .cont s' → Q .cont s' := fun s' h => by rw [← hQ]; exact h
  have q_ret : ∀ u s', SP X pins D (.ret u) s' → Q (.ret u) s' := fun u s' h => by rw [← hQ]; exact h
  clear hQ
  refine wpAny_Try_except ?_
  refine wpAny_mono ((hb (wKeep X.K c i ts tr Wout D) (X.pn ++ pins) (fun e s₁ => wpAny (model X.prog X.w) X.A (noteFrame e X.env) (fun _ s₂ => wpAny (model X.prog X.w) X.A (setFlight e none) (fun _ s₃ =>
    wpAny (model X.prog X.w) X.A (handleBy e X.env [.ExceptHandler (some (.Name x np)) (some n) (b₀ :: suite) pos']) Q X.xe s₃) X.xe s₂) X.xe s₁) (fun u s' xx => ?_) PassesOwn.looking).run [] s σ H { D with nx := tn D } (I.toTry _) h) (fun f s1 hsp => ?_) (fun e s1 he => he)
  · -- the catch
    obtain ⟨a, B, sI, pins', σ', H', cls, d, rfl, J', nb, up, sky, na, os, ag, b, hb1, hyes, hno⟩ := xx
    have J : Inv X pins σ' H' sI := J'.ofTry ok
    have sky' : Sky B (X.env :: X.outer) a (Zc cls d) X.env.locals s'.heap := by rw [← hs]; exact sky
    show wpAny (model X.prog X.w) X.A (noteFrame (.ref a) X.env) _ _ _
    refine Sky.land Zc.steady hfr hf sky' fun h3 fl3 up3 => ?_
    have J3 : Inv X pins σ' H' { s' with heap := h3 } := J.landed nb fl3.1 (up.trans up3) os ag
    obtain ⟨oe3, vs3, he3, hz3, hd3⟩ := fl3.there
    have notFr : ∀ {h : Heap} {o : Obj} {vs : Array Value}, h.FunFrames B (X.env :: X.outer) → h.get? a = some o → o.data = .fields vs → a ∉ frs (X.env :: X.outer) := fun {h o vs} ff e dd hm => by
      obtain ⟨_, o', e', hnf⟩ := ff.mem hm
      rw [e] at e'; cases e'
      exact hnf _ dd
    have nfr := notFr fl3.2.2.1 he3 hd3
    have nL : a ≠ X.env.locals := fun z => nfr (List.mem_filterMap.mpr ⟨X.env, List.mem_cons_self, by rw [hf, z]⟩)
    have nF : a ∉ X.fs := fun hm => by
      obtain ⟨e, he, q⟩ := List.mem_filterMap.mp hm
      exact nfr (List.mem_filterMap.mpr ⟨e, List.mem_cons_of_mem _ he, q⟩)
    have S3 := J3.suite he3 hd3 na nL nF
    refine wpAny_handleBy_cons (codeAny_handlers_test ?_) (by intro q; cases q)
    have LT : PySem.W.Looks (model X.prog X.w) h3 (typeOf (.ref a)) cls := fun A Q E s k q => wpAny_typeOf_ref (k _ _ he3) (by rw [hz3.1]; exact q)
    have LM := PySem.W.exm_one (M := model X.prog X.w) (J3.kIn) LT hb1
    have test : ∀ {Q : Value → Shared → Prop} {E : Value → Shared → Prop}, Q c { s' with heap := h3 } → wpAny (model X.prog X.w) (X.A.mark (some (.ref a))) (eval (.Name x np) X.env) Q E { s' with heap := h3 } := fun {Q E} q => by
      obtain ⟨hg, hdbg, hm | ⟨hm, hv, hnn⟩⟩ := hc
      · exact ld_glob (X := X.suite a ((a, oe3) :: (X.pn ++ pins))) S3 hg hm q hdbg
      · exact ld_blt (X := X.suite a ((a, oe3) :: (X.pn ++ pins))) S3 hg hm hv q hnn hdbg
    refine test (LM.here ?_)
    cases b with
    | true =>
      refine codeAny_handlers_suite_as ?_
      refine HandSPX.lands_againZ fl3 fun h4 fl4 up4 => ?_
      have J4 : Inv X pins σ' H' { s' with heap := h4 } := J.landed nb fl4.1 ((up.trans up3).trans up4) os ag
      obtain ⟨oe4, vs4, he4, hz4, hd4⟩ := fl4.there
      have S4 := J4.suite he4 hd4 na nL nF
      refine store_ok (X := X.suite a ((a, oe4) :: (X.pn ++ pins))) (v := .ref a) S4 hN hi hloc rfl (fun s5 S5 => ?_) (.inr hln)
      refine wpAny_mono ((hsu a oe4 cls d (X.pn ++ pins) hz4 ⟨_, hd4⟩).run [] s5 _ H' _ S5 (hyes rfl a na)) (fun f s6 hsp => ?_) (fun _ _ z => False.elim z)
      cases f with
      | next =>
        obtain ⟨σ6, H6, S6, q6⟩ := hsp
        have T6 : Inv (X.tr ((a, oe4) :: (X.pn ++ pins)) X.xe) [] σ6 H6 s6 := ⟨ok.toTry _ _, S6.os, S6.bare, S6.base, S6.loc, S6.cell, S6.free, S6.freeC, S6.pin, S6.hok, S6.len⟩
        refine gone_ok (X := X.tr ((a, oe4) :: (X.pn ++ pins)) X.xe) T6 hN hi hln fun s7 J7 => q_next s7 ?_
        refine wpAny_mono ((hr a oe4 cls d (X.pn ++ pins) hz4 ⟨_, hd4⟩).run [] s7 _ H6 D J7 q6) (fun f s8 hsp => ?_) (fun _ _ z => z)
        have back : ∀ {σ8 : St} {H8 : Hp}, Inv (X.tr ((a, oe4) :: (X.pn ++ pins)) X.xe) [] σ8 H8 s8 → Inv X pins σ8 H8 s8 := fun {σ8 H8} I8 =>
          ⟨ok, I8.os, I8.bare, I8.base, I8.loc, I8.cell, I8.free, I8.freeC, fun p hp => I8.pin p (List.mem_append_left _ (List.mem_cons_of_mem _ hp)), I8.hok, I8.len⟩
        cases f with
        | next =>
          obtain ⟨σ8, H8, I8, q8⟩ := hsp
          exact ⟨σ8, H8, back I8, q8⟩
        | brk =>
          obtain ⟨σ8, H8, I8, q8⟩ := hsp
          exact ⟨σ8, H8, back I8, q8⟩
        | cont =>
          obtain ⟨σ8, H8, I8, q8⟩ := hsp
          exact ⟨σ8, H8, back I8, q8⟩
        | ret u =>
          obtain ⟨v8, σ8, H8, I8, r8, q8⟩ := hsp
          exact ⟨v8, σ8, H8, back I8, r8, q8⟩
      | brk =>
        obtain ⟨σ6, H6, S6, q6⟩ := hsp
        exact False.elim q6
      | cont =>
        obtain ⟨σ6, H6, S6, q6⟩ := hsp
        exact False.elim q6
      | ret u =>
        obtain ⟨v6, σ6, H6, S6, r6, q6⟩ := hsp
        exact False.elim q6
    | false =>
      show wpAny _ X.A (handleBy (.ref a) X.env []) _ _ _
      refine wpAny_handleBy_nil ?_
      obtain ⟨k1, k2, k3, oe, vs, T, oT, ts', he, hz, hd, h1, hr⟩ := id fl3
      unfold PySem.passOn
      refine wpAny_bind (wpAny_field he hd h1 ?_)
      rw [if_neg (show ¬ ((Value.ref T == Value.none) = true) from by simp)]
      have fin : wpAny (model X.prog X.w) X.A (setFlight (.ref a) X.env.frame) (fun _ s4 => wpAny (model X.prog X.w) X.A (throw (.ref a) : Sem Flow) Q X.xe s4) X.xe { s' with heap := h3 } := by
        rw [hf]
        refine HandSPX.setFlight_upZ fl3 fun h4 hh4 up4 => wpAny_throw (tk _ _ ?_)
        exact ⟨a, B, sI, pins, σ', H', cls, d, rfl, J, nb, (up.trans up3).trans up4, .inr (.inr (by rw [hs]; exact hh4)), na, os, ag, hno rfl⟩
      first
        | exact wpAny_bind (wpAny_pure (wpAny_bind fin))
        | exact wpAny_bind fin
  · cases f with
    | next =>
      obtain ⟨σ', H', J', q⟩ := hsp
      exact wpAny_execs_nil (q_next s1 (hn.run pins s1 σ' H' D (J'.ofTry ok) q))
    | brk =>
      obtain ⟨σ', H', J', q⟩ := hsp
      exact q_brk _ ⟨σ', H', J'.ofTry ok, q⟩
    | cont =>
      obtain ⟨σ', H', J', q⟩ := hsp
      exact q_cont _ ⟨σ', H', J'.ofTry ok, q⟩
    | ret u =>
      obtain ⟨v, σ', H', J', r, q⟩ := hsp
      exact q_ret _ _ ⟨v, σ', H', J'.ofTry ok, r, q⟩
/-- e.f of a kept exception -/
theorem pe_xfK {a C : Addr} {oe : Obj} {cls : Value} {d : Option Addr} {pn : List (Addr × Obj)} {xe : Value → Shared → Prop} {e : Expr} {te : TE} {pos : Pos} {n : Str} (T : XfC X.K C) (hno : PySem.W.findIn X.K (.ref C) n = some none)
    (hz : Zc cls d oe) (hf : ∃ vs, oe.data = .fields vs) (he : PE (X.tr ((a, oe) :: pn) xe) e te) (hb : attributeBase e n X.env (eval e X.env) = eval e X.env := by rfl) :
    PE (X.tr ((a, oe) :: pn) xe) (.Attribute e n pos) (tXf a cls d C n te) := by
  refine ⟨fun pins s σ H Q I h => ?_⟩
  refine attr_of hb (thn (he.run pins s σ H _ I h) fun u s1 hh => ?_)
  obtain ⟨x, H1, I1, rx, ex, ec, dd, fs, v, ed, ea, l, q⟩ := hh
  subst ex
  obtain rfl : u = Value.ref a := rx
  subst ec
  subst ed
  obtain ⟨ha, _⟩ := I1.pin (a, oe) (List.mem_append_left _ List.mem_cons_self)
  obtain ⟨vs, hd⟩ := hf
  have hx : ObjOk X.prog X.w H1 s1.heap dd (.xd fs) := I1.hok dd _ ea
  obtain ⟨mA, hns, hr⟩ := hx
  obtain ⟨od, ho, hl⟩ := lookIn_ns hns
  obtain ⟨u, hu, ru⟩ := RelO.some_of (v := v) (o := mA n) (by rw [← l]; exact hr n)
  have J : PySem.W.InstAt s1.heap a oe C (some od) := ⟨ha, hz.1, by unfold PySem.W.notCls; rw [hd] <;> rfl, by rw [hz.2]; exact ho⟩
  exact HandSPX.exc_get I1.kIn J T.ga T.gg T.exC (PySem.W.findObj_own T.hdC hno rfl (by rw [hl, hu])) (handed_of ru) ⟨v, H1, I1.tok _, ru, q⟩
end
end L2
end

section
set_option Elab.async false
set_option linter.all false
set_option maxRecDepth 100000
set_option maxHeartbeats 2000000
/-! C.m(..), m a classmethod, where what is raised is wished for at the caller's slots -/
namespace ClX
open PySem PySem.Spec PyProof.Rows L2
section
variable {X : Cx} {pins : List (Addr × Obj)} {σ : L2.St} {H : Hp} {s : Shared} {CX : CXT} {k : Nat} {C p g q : Addr} {mc : Value} {sp : Sp} {E : L2.St → XK} {Q : VK} {us : List Value} {vs : List V} {o e : Expr} {es : List Expr} {m : Str} {pos apos : Pos} {ta : TE} {t : TA} {pl : Sem Bool}
theorem run_fnRS {f : Addr} (F : FnR X.prog X.w X.K X.mg X.base CX k f sp) (hr : Room k X.A) (hx : PassesAt CX X σ (E σ)) (I : Inv X pins σ H s) (r : Vals vs us) (h : sp vs H Q (E σ)) :
    codeAny (model X.prog X.w) X.A (.call (.ref f) ⟨us, []⟩) (fun r s' => match r with | .ok (.ret v) => EP X pins σ Q v s' | .ok _ => False | .error e => X.xe e s') s := by
  refine codeAny_mono (F X.A X.stack s H us vs Q (E σ) hr I.env0 r h) fun r s' hq => ?_
  cases r with
  | error e => exact hx pins H s e s' I hq
  | ok fl =>
    cases fl with
    | ret u => exact I.after hq
    | next => exact False.elim hq
    | brk => exact False.elim hq
    | cont => exact False.elim hq
theorem run_cmS (F : FnR X.prog X.w X.K X.mg X.base CX k g sp) (hr : Room k X.A) (hx : PassesAt CX X σ (E σ)) (I : Inv X ((q, PySem.W.methodObj (.ref g) (.ref C)) :: pins) σ H s)
    (r : Vals vs us) (h : sp (.ref C :: vs) H Q (E σ)) : wpAny (model X.prog X.w) X.A (call (.ref q) us) (EP X pins σ Q) X.xe s := by
  have z : wpAny (model X.prog X.w) X.A (call (.ref q) us) (EP X ((q, PySem.W.methodObj (.ref g) (.ref C)) :: pins) σ Q) X.xe s :=
    wpAny_call (PySem.W.method_call (pin_at I) (run_fnRS (us := .ref C :: us) (vs := .ref C :: vs) F hr hx I (.cons rfl r) h))
  exact thn z fun _ _ y => unpinE y
def tCMethS (C : Addr) (sp : Sp) (E : L2.St → XK) (ta : TE) (t : TA) : TE := fun σ H Q => ta σ H fun x H1 => x = .ref C ∧ t σ H1 fun vs H2 => sp (.ref C :: vs) H2 Q (E σ)
theorem pe_cmethS (he : PE X o ta) (r : CRead X.K C mc) (c : CMet X.K C mc m p g) (F : FnR X.prog X.w X.K X.mg X.base CX k g sp) (hr : Room k X.A) (hx : ∀ σ, PassesAt CX X σ (E σ)) (ha : PA X (e :: es) t)
    (hst : starEach (e :: es) X.env = (false, eval e X.env) :: starEach es X.env := by rfl) (hpl : (backTo pos (starEach es X.env)).any (·.1) = false := by rfl)
    (ht : eval (.Call (.Attribute o m apos) (e :: es) [] pos) X.env = (do
      let ov ← eval o X.env
      standAt apos.atName
      let (f, first) ← holding [ov] (getMethod ov m pl)
      callWith pos f first (backTo pos (starEach (e :: es) X.env)) (backToKw pos (keywordEach [] X.env))) := by rfl) :
    PE X (.Call (.Attribute o m apos) (e :: es) [] pos) (tCMethS C sp E ta t) := by
  refine ⟨fun pins s σ H Q I h => ?_⟩
  refine PySem.W.methodCall_KW (pl := pl) (thn (he.run pins s σ H _ I h) fun u s1 ⟨x, H1, I1, rx, ex, q⟩ => ?_) ht
  subst ex
  obtain rfl : u = Value.ref C := rx
  refine getmethcm_ok I1 r c fun s2 I2 => ?_
  refine callwith_cm I2 (base_none I1 (Nat.le_refl _)) c.fi (thn (ha.run pos _ s2 σ H1 _ I2 q) fun us s3 ⟨vs, H2, I3, rv, q2⟩ => ⟨⟨pin_at I3, I3.kIn⟩, ?_⟩) hst hpl
  exact run_cmS F hr (hx σ) I3 rv q2
end
end ClX
end

section
set_option Elab.async false
set_option linter.all false
set_option maxRecDepth 100000
set_option maxHeartbeats 4000000
namespace L2
open PySem PySem.Spec PyProof.Rows
section
variable {X : Cx} {CX : CXT} {k : Nat} {f : Addr} {fd : FuncData} {ps ks : List Str} {sp : Sp} {E : XK} {x : Str} {p pos : Pos} {kws : List Keyword} {tk : TA} {g : List Value → List Value → List Value} {gV : List V → List V → List V}
/-- f(k = v, ..) -/
theorem pe_callKw0 (F : FnOk X.prog X.w X.K X.mg X.base CX k f fd ps sp) (hr : Room k X.A) (hg : Gl X x) (hm : X.mg x = some (.ref f)) (hk : PySem.W.keepIn X.K (.ref f) = true) (hb : KBn X.K fd ps 0 ks g gV) (hx : Passes CX X E)
    (hkw : PK X kws tk) (hall : (backToKw pos (keywordEach kws X.env)).all (·.1.isSome) = true := by rfl) (hks : (backToKw pos (keywordEach kws X.env)).filterMap (·.1) = ks := by rfl)
    (hdb : (x == ("__debug__" : Str)) = false := by decide)
    (hpl : ((backTo pos (starEach [] X.env)).any (·.1) || (backToKw pos (keywordEach kws X.env)).any (·.1.isNone)) = false := by rfl) :
    PE X (.Call (.Name x p) [] kws pos) (tCallN 0 ks.length sp gV E tNil tk) := by
  refine ⟨fun pins s σ H Q I h => ?_⟩
  refine wpAny_Call_Name_kw (ld_glob I hg hm ?_ hdb)
  refine PySem.W.callWith_KW0 (h₀ := X.base) I.ok.mod.kin hk hall ?_ hpl
  refine thn (hkw.run pos pins s σ H _ I h) fun ws s2 ⟨zs, H2, I2, rz, l1, l2, q2⟩ => ⟨I2.kIn, ?_⟩
  rw [hks]
  exact run_fnN (us := []) (vs := []) F hr hb hx I2 .nil rz rfl l2 q2
end
def swap2 {α : Type} : List α → List α
  | [a, b] => [b, a]
  | _ => []
theorem vals_swap2 : ∀ {zs : List V} {ws : List Value}, Vals zs ws → Vals (swap2 zs) (swap2 ws)
  | [_, _], [_, _], .cons a (.cons b .nil) => .cons b (.cons a .nil)
  | [], [], .nil => .nil
  | [_], [_], .cons a .nil => .nil
  | _ :: _ :: _ :: _, _ :: _ :: _ :: _, .cons _ (.cons _ (.cons _ _)) => .nil
end L2
namespace K28
open PySem PySem.Spec PyProof.Rows L2 He Cn Evl
section
variable {P : Program} {w : World} {K : PySem.W.Frag} {mg : Str → Option Value} {base : Heap}
theorem kb_checkRing {f : Addr} {fd : FuncData} (F : Fun K "check_ring" "check_ring" s_check_ring f fd) : KBn K fd ["above", "ring"] 0 ["ring", "above"] (fun _ ws => swap2 ws) (fun _ zs => swap2 zs) := by
  obtain ⟨oc, od, kV, doc, pm, an, cdv, ct, osl, rfl, lk, hcd⟩ := F.ex
  refine ⟨fun s us ws _ h1 h2 => ?_, fun _ rz => vals_swap2 rz⟩
  match us, ws, h1, h2 with
  | [], [u1, u2], _, _ => exact BindsTo.of_eq rfl
/-! ### _law_outcome -/
theorem takes_len {X : Cx} {W : WX} (t : Takes X W) : Takes X (fun cls d σ H => σ.length = X.N.length → W cls d σ H) := fun u s' ⟨a, B, sI, pins, σ, H, cls, d, e, I, nb, up, sky, na, os, ag, w⟩ =>
  t u s' ⟨a, B, sI, pins, σ, H, cls, d, e, I, nb, up, sky, na, os, ag, w I.len⟩
theorem pss_by {X : Cx} {body : List Stmt} {t' : TS} (h : ∀ D σ H, t' D σ H → ∃ t, PSs X body t ∧ t D σ H) : PSs X body t' := ⟨fun pins s σ H D I h' => by
  obtain ⟨t, ht, q⟩ := h D σ H h'
  exact ht.run pins s σ H D I q⟩
/-- what _law_outcome makes of what it calls: what it gives, or the error's part in a list -/
def TOut (K : PySem.W.Frag) : (XK → Hp → VK → Prop) → Hp → VK → Prop := fun tl H Q => ∀ H1, Ex H H1 →
  tl (fun cls d H' => cls = .ref (kA K) ∧ ∃ (dd : Addr) (it : V), d = some dd ∧ H' dd = some (.xd [("part", it)]) ∧ ∀ l H2, H' l = none → Ex H' H2 → H2 l = some (.lst [it]) → Q (.ref l) H2) H1 Q
theorem out_iff {f : Addr} {v : V} {H' : Hp} {Q : VK} {nx : L2.St → Hp → Prop} : tRet (tIf (tB (tIsN (tVar 2))) (tVar 1) (tVar 2)) { nx := nx, rt := Q } [some (.ref f), some v, some .non, none] H' ↔ Q v H' := by
  constructor
  · rintro ⟨x, hx, b, hb, h⟩
    obtain rfl : V.non = x := Option.some.inj (Option.some.inj hx)
    obtain rfl : true = b := by
      injection hb
    obtain ⟨y, hy, h⟩ := h
    obtain rfl : v = y := Option.some.inj (Option.some.inj hy)
    exact h
  · intro h
    exact ⟨_, rfl, true, rfl, _, rfl, h⟩
theorem out_gives (T : Txt K mg) {X : Cx} (hK : X.K = K) (hmg : X.mg = mg) {q : Str} {g : Addr} {cdg : Value} :
    LamX.GivesTo X ["call", "found", "error", "e"] "_law_outcome" (defScope s__law_outcome) g cdg (defBody s__law_outcome) "call" q (TOut K) := by
  intro f c' s H Q tl act hc h
  subst hK hmg
  have nd := sc__law_outcome.nd
  refine ⟨_, pss_cons (ps_asg (pe_tup (pa_cons pe_non (pa_cons pe_non pa_nil))) (pg_tup rfl (pgs_cons (pg_name (i := 1) nd rfl (.inl rfl)) (pgs_cons (pg_name (i := 2) nd rfl (.inl rfl)) pgs_nil))))
    (pss_cons (ps_try_as (i := 3) (X := (cxOf CX0 X.prog X.w X.K X.mg X.base ["call", "found", "error", "e"] "_law_outcome" (defScope s__law_outcome) g cdg X.A X.stack s H E0).nox)
      (tb := fun W D σ H => ∃ Ech : XK, (∀ cls d (σ' : L2.St) H', Ech cls d H' → σ'.length = 4 → W cls d σ' H') ∧ σ[0]? = some (some (.ref f)) ∧ H c' = some (LamX.CodeO c' q) ∧ tl Ech H fun v H' => D.nx (σ.set 1 (some v)) H')
      rfl rfl nd rfl rfl ⟨rfl, by decide, .inl T.g_InvalidAnswer⟩ LamX.takes0 (fun W pn xe tk _ => ?_)
      (fun a oe cls d pn hz hf => pss_one (ps_set (i := 2) nd rfl (.inl rfl) (pe_lst (pa_cons (pe_xf T.xfA T.e_part hz hf (pv 3)) pa_nil)))))
    (pss_one (ps_ret (pe_ifExp (pt_cmp (pc_isN (pv 2))) (pv 1) (pv 2))))), ?_⟩
  · exact pss_by fun D σ H' ⟨Ech, hW, h1, h2, h3⟩ => ⟨_, pss_one (ps_set (i := 1) nd rfl (.inl rfl) (act _ pn xe Ech _ _ (takes_len tk) hW)), h1, h2, h3⟩
  · refine ⟨by show 2 ≤ sizeLine; decide, fun tp htp => ⟨tp, _, rfl, st_of upd_same, rfl, _, _, rfl, _, _, rfl, rfl, ?_⟩⟩
    have e1 : Ex H (upd H tp (.tup [.non, .non])) := Ex.new htp
    refine ⟨fun cls d H' => cls = .ref (kA X.K) ∧ ∃ (dd : Addr) (it : V), d = some dd ∧ H' dd = some (.xd [("part", it)]) ∧ ∀ l H2, H' l = none → Ex H' H2 → H2 l = some (.lst [it]) → Q (.ref l) H2, fun cls d σ' H' hE h4 => ?_, rfl, e1 _ _ hc, ?_⟩
    · obtain ⟨rfl, dd, it, rfl, hdd, k⟩ := hE
      refine ⟨true, T.exmA, fun _ a ha => ?_, fun q => by cases q⟩
      match σ', h4 with
      | [s0, s1, s2, s3], _ =>
        refine ⟨_, rfl, rfl, rfl, dd, _, it, rfl, hdd, by rfl, by show 1 ≤ sizeLine; decide, fun l hl => ?_⟩
        have e2 : Ex H' (upd H' l (.lst [it])) := Ex.new hl
        exact ev_if (b := false) (v := .ref l) (et_is (et_isN (x := .ref l) (ev_var rfl)) rfl) (fun h => by cases h) (fun _ => ev_var rfl) _ (Ex.refl _) _ fun H2 e3 => k l H2 hl (e2.trans e3) (e3 _ _ upd_same)
    · have h1 := h _ e1
      have eq : Q = (fun v H' => tRet (tIf (tB (tIsN (tVar 2))) (tVar 1) (tVar 2)) { nx := fun _ H' => Q .non H', rt := Q } [some (.ref f), some v, some .non, none] H') := by
        funext v H'
        exact propext out_iff.symm
      rw [eq] at h1
      have : (fun cls d H' => cls = Value.ref (kA X.K) ∧ ∃ (dd : Addr) (it : V), d = some dd ∧ H' dd = some (.xd [("part", it)]) ∧ ∀ l H2, H' l = none → Ex H' H2 → H2 l = some (.lst [it]) → (fun v H' => tRet (tIf (tB (tIsN (tVar 2))) (tVar 1) (tVar 2)) { nx := fun _ H' => Q .non H', rt := Q } [some (.ref f), some v, some .non, none] H') (.ref l) H2)
          = (fun cls d H' => cls = Value.ref (kA X.K) ∧ ∃ (dd : Addr) (it : V), d = some dd ∧ H' dd = some (.xd [("part", it)]) ∧ ∀ l H2, H' l = none → Ex H' H2 → H2 l = some (.lst [it]) → Q (.ref l) H2) := by rw [← eq]
      rw [this] at h1
      exact h1
end
end K28
end

section
set_option Elab.async false
set_option linter.all false
set_option maxRecDepth 100000
set_option maxHeartbeats 4000000
namespace K28
open PySem PySem.Spec PyProof.Rows L2 He Cn Evl
/-! ### the law's own look at a ring of numbers and texts -/
inductive PtV : V → Prop where
  | num (n : Nat) : PtV (.int (n : Int))
  | txt (z : Str) : PtV (.str z)
theorem PtV.flat {x : V} (h : PtV x) : flatV x = true := by cases h <;> rfl
theorem inV_pt {x : V} (h : PtV x) (r : List Nat) : inV x (nts r) = decide (x ∈ nts r) := by
  cases h with
  | num n =>
    rw [inV_nts]
    refine Bool.eq_iff_iff.mpr ?_
    rw [decide_eq_true_iff, decide_eq_true_iff]
    unfold nts
    rw [List.mem_map]
    constructor
    · intro h
      exact ⟨n, h, rfl⟩
    · rintro ⟨m, hm, e⟩
      have : (m : Int) = n := by
        injection e
      have : m = n := by omega
      exact this ▸ hm
  | txt z =>
    have h1 : inV (.str z) (nts r) = false := by
      cases e : inV (.str z) (nts r) with
      | false => rfl
      | true =>
        unfold inV at e
        obtain ⟨y, hy, h⟩ := List.any_eq_true.mp e
        obtain ⟨n, _, rfl⟩ := List.mem_map.mp hy
        cases h
    have h2 : ¬ V.str z ∈ nts r := fun q => by
      obtain ⟨n, _, e⟩ := List.mem_map.mp q
      cases e
    rw [h1, decide_eq_false h2]
theorem mem_nts {x : V} {r : List Nat} (h : x ∈ nts r) : ∃ n : Nat, n ∈ r ∧ x = .int (n : Int) := by
  obtain ⟨n, hn, e⟩ := List.mem_map.mp h
  exact ⟨n, hn, e.symm⟩
section
variable {P : Program} {w : World} {K : PySem.W.Frag} {mg : Str → Option Value} {base : Heap}
theorem ev_nix {σ : L2.St} {H : Hp} {to ta : TE} {q : Addr} {x : V} {r : List Nat} (ho : Ev to σ H (.ref q)) (ha : Ev ta σ H x) (hS : SqL K H q (nts r)) (hx : x ∈ nts r) : Ev (tBM K "list" (rIndex K) to (tCons ta tNil)) σ H (.int (((nts r).idxOf x : Nat) : Int)) := fun H1 e Q k =>
  ho H1 e _ fun H2 e2 => ⟨.inl ⟨rfl, _, ex_l (e.trans e2) hS⟩, ha H2 (e.trans e2) _ fun H3 e3 => by
    obtain ⟨n, hn, rfl⟩ := mem_nts hx
    refine ⟨q, nts r, .int (n : Int), (nts r).idxOf (.int (n : Int)), .int (n : Int), rfl, rfl, ex_l ((e.trans e2).trans e3) hS, rfl, flat_nts r, ix_hit hx, by simp [eqV], fun m z' hm hz => ?_, k H3 (e2.trans e3)⟩
    have ne := ix_miss hm hz
    obtain ⟨n', _, rfl⟩ := mem_nts (List.mem_of_getElem? hz)
    show ((n' : Int) == (n : Int)) = false
    have : ¬ (n' : Int) = (n : Int) := fun q => ne (by rw [q])
    simpa using this⟩
def ttBef (K : PySem.W.Frag) : TT := tAnd (tTest (tOp (rIn K false) (tVar 1) (tVar 3))) (tAnd (tTest (tOp (rIn K false) (tVar 2) (tVar 3))) (tTest (tOp (rI0 fun i j => .bl (decide (i < j))) (tBM K "list" (rIndex K) (tVar 3) (tCons (tVar 1) tNil)) (tBM K "list" (rIndex K) (tVar 3) (tCons (tVar 2) tNil)))))
theorem filter_any {α : Type} (l : List α) (p : α → Bool) : (l.filter p).isEmpty = !(l.any p) := by
  induction l with
  | nil => rfl
  | cons a r ih =>
    cases e : p a with
    | true => simp [e]
    | false => simp [e, ih]
/-- [row for row in rows if ..] with a test of the row alone -/
theorem el_picked {σ : L2.St} {H : Hp} {p : Addr} {rows : List (List Nat)} {j i0 : Nat} {tt : TT} (f : List Nat → Bool) (R : RwI K H p rows) (hz : rows.length ≤ 40) (h0 : σ[i0]? = some (some (.ref p))) (hw : ∀ x, wipe ((wipe σ [j]).set j (some x)) [j] = wipe σ [j]) (hj : ∀ x, ((wipe σ [j]).set j (some x))[j]? = some (some x))
    (ht : ∀ (a : Addr) (r : List Nat) (H1 : Hp), Ex H H1 → r ∈ rows → SqL K H1 a (nts r) → EvT tt ((wipe σ [j]).set j (some (.ref a))) H1 (f r)) :
    ∃ qs : List V, qs.isEmpty = !(rows.any f) ∧ EvL (tLc (iList K (tVar i0)) (gName j) tt (tVar j) [j]) σ H qs := by
  obtain ⟨prs, hp, rfl, hrow⟩ := R
  have lr : (refs (prs.map Prod.fst)).length = prs.length := by unfold refs; rw [List.length_map, List.length_map]
  rw [List.length_map] at hz
  refine ⟨(prs.filter fun x => f x.2).map (fun x => V.ref x.1), ?_, ?_⟩
  · rw [List.any_map, show ((prs.filter fun x => f x.2).map (fun x => V.ref x.1)).isEmpty = (prs.filter fun x => f x.2).isEmpty by cases (prs.filter fun x => f x.2) <;> rfl, filter_any]
    rfl
  have h := el_lcK (K := K) wk_list (tl := tVar i0) (σ := σ) (H := H) (j := j) (t := tt) (te := tVar j) (vs := [j]) (ev_var h0) hp (fun i => match prs[i]? with | some a => f a.2 | none => false) (fun i => match prs[i]? with | some a => V.ref a.1 | none => .non) (by omega) hw
    (fun i x H1 e hx => by
      obtain ⟨pr, hpr, rfl⟩ := prs_at hx
      have hm := List.mem_of_getElem? hpr
      refine et_is (ht pr.1 pr.2 H1 e (List.mem_map_of_mem hm) (ex_l e (hrow pr hm))) ?_
      rw [hpr])
    (fun i x H1 e hx hf => by
      obtain ⟨pr, hpr, rfl⟩ := prs_at hx
      have : (match prs[i]? with | some a => V.ref a.1 | none => .non) = V.ref pr.1 := by rw [hpr]
      rw [this]
      exact ev_var (hj _))
  rw [lr, given_filter prs (fun x => f x.2) (fun x => V.ref x.1) _ _ (fun i x hx => by rw [hx]) (fun i x hx => by rw [hx])] at h
  exact h
theorem any_bef {rows : List (List Nat)} {x y : V} : (rows.any fun r => decide (x ∈ nts r) && (decide (y ∈ nts r) && decide (((nts r).idxOf x : Int) < ((nts r).idxOf y : Int)))) = befG (rows.map nts) x y := by
  unfold befG
  rw [List.any_map]
  congr 1
  funext r
  show (_ && (_ && _)) = (_ && (_ && _))
  congr 2
  refine Bool.eq_iff_iff.mpr ?_
  rw [decide_eq_true_iff, decide_eq_true_iff]
  omega
def spBef (K : PySem.W.Frag) : Sp := fun vs H Q _ => ∃ (p : Addr) (rows : List (List Nat)) (x y : V), vs = [.ref p, x, y] ∧ RwI K H p rows ∧ rows.length ≤ 40 ∧ PtV x ∧ PtV y ∧ ∀ H', Ex H H' → Q (.bl (befG (rows.map nts) x y)) H'
theorem can_bef (T : Txt K mg) : Can P w K mg base CX0 1 "_law_before" ["rows", "near", "far"] (spBef K) := by
  refine can_of T.g__law_before T.F__law_before (fun fd F => ?_) (fun _ _ _ _ _ _ us hl => match us, hl with | [_, _, _], _ => rfl)
  refine F.ok sc__law_before (fun vs H Q E h => ?_) (fun cdv A outer s H vs Q E hr h => ?_)
  · obtain ⟨p, rows, x, y, rfl, _⟩ := h
    rfl
  · obtain ⟨p, rows, x, y, rfl, R, hz, hx, hy, fin⟩ := h
    have nd := sc__law_before.nd
    refine ⟨_, pss_one (ps_ret (pe_cmpR (op_ne_nil hr) (pe_lc (own := [("row", 3)]) (wi := iList K (tVar 0)) (g := gName 3) (tt := ttBef K) (te := tVar 3) rfl nd (pi_list (pv 0)) (blkOk_by (N := ["rows", "near", "far", "row"]) (sc := defScope s__law_before) (by decide +kernel)) (fun _ _ _ _ _ => pg_name (i := 3) nd rfl (.inl rfl))
      (fun _ _ _ _ _ => pts_one (PW.pt (pw_and (pt_cmpR op_in_seq (pv 1) (pv 3) rfl) (pw_and (pt_cmpR op_in_seq (pv 2) (pv 3) rfl) (pw_and1 (pt_cmpR op_lt (pe_bm PySem.F.plainAttrs_list PySem.F.slot_list_index PySem.F.type_list_index mt_index (pv 3) (pa_cons (pv 1) pa_nil)) (pe_bm PySem.F.plainAttrs_list PySem.F.slot_list_index PySem.F.type_list_index mt_index (pv 3) (pa_cons (pv 2) pa_nil)) (nomark _))))))) (fun _ _ _ _ _ => pv 3)) (pe_lst pa_nil) (nomark _))), ?_⟩
    obtain ⟨qs, q1, q2⟩ := el_picked (K := K) (σ := [some (.ref p), some x, some y, none]) (j := 3) (i0 := 0) (tt := ttBef K) (fun r => decide (x ∈ nts r) && (decide (y ∈ nts r) && decide (((nts r).idxOf x : Int) < ((nts r).idxOf y : Int)))) R hz rfl (fun _ => rfl) (fun _ => rfl) fun a r H1 e hr hS => by
      have t1 : EvT (tTest (tOp (rIn K false) (tVar 1) (tVar 3))) [some (.ref p), some x, some y, some (.ref a)] H1 (decide (x ∈ nts r)) := by
        have := rv_isL (K := K) hS hx.flat (flat_nts r)
        rw [inV_pt hx] at this
        exact et_test (ev_op (ev_var rfl) (ev_var rfl) this)
      have t2 : EvT (tTest (tOp (rIn K false) (tVar 2) (tVar 3))) [some (.ref p), some x, some y, some (.ref a)] H1 (decide (y ∈ nts r)) := by
        have := rv_isL (K := K) hS hy.flat (flat_nts r)
        rw [inV_pt hy] at this
        exact et_test (ev_op (ev_var rfl) (ev_var rfl) this)
      exact et_and t1 fun b1 => et_and t2 fun b2 => et_test (ev_op (ev_nix (ev_var rfl) (ev_var rfl) hS (of_decide_eq_true b1)) (ev_nix (ev_var rfl) (ev_var rfl) hS (of_decide_eq_true b2)) rv_I0)
    rw [any_bef] at q1
    refine s_ret (v := .bl (befG (rows.map nts) x y)) ?_ fun H1 e1 => fin H1 e1
    refine ev_is (ev_opLL q2 (el_lst ea_nil (by decide)) fun p q H1 hp hq e => rv_eqE (neg := true) (sq_of hp) (sq_of hq)) ?_
    show V.bl (!qs.isEmpty) = _
    rw [q1, Bool.not_not]
theorem tyx_sqt {H : Hp} {a : Addr} {xs : List V} (h : SqT K H a xs) : TyX K H (.ref a) (.type "tuple") := by
  rcases h with h | ⟨o, its, n, h1, h2, _⟩
  · rcases h with h | ⟨o, h⟩
    · exact .base (.tup h)
    · exact .fTuple h
  · exact .kTuple h1 h2
def spDue (K : PySem.W.Frag) : Sp := fun vs H Q _ => ∃ (p t : Addr) (rows : List (List Nat)) (xs : List V), vs = [.ref p, .ref t] ∧ RwI K H p rows ∧ rows.length ≤ 40 ∧ SqT K H t xs ∧ (∀ x, x ∈ xs → PtV x) ∧ xs.length ≤ 1000 ∧
  (∀ z, dueG (rows.map nts) xs = some z → ∀ l H', H l = none → Ex H H' → H' l = some (.lst [.str z]) → Q (.ref l) H') ∧ (dueG (rows.map nts) xs = none → ∀ H', Ex H H' → Q (.int (xs.length : Int)) H')
theorem can_due (T : Txt K mg) : Can P w K mg base CX0 2 "_law_due" ["rows", "ring_here"] (spDue K) := by
  have CB : Can P w K mg base CX0 1 "_law_before" ["rows", "near", "far"] (spBef K) := can_bef T
  refine can_of T.g__law_due T.F__law_due (fun fd F => ?_) (fun _ _ _ _ _ _ us hl => match us, hl with | [_, _], _ => rfl)
  refine F.ok sc__law_due (fun vs H Q E h => ?_) (fun cdv A outer s H vs Q E hr h => ?_)
  · obtain ⟨p, t, rows, xs, rfl, _⟩ := h
    rfl
  · obtain ⟨p, t, rows, xs, rfl, R, hz, hT, hpt, hxl, bad, fin⟩ := h
    have nd := sc__law_due.nd
    refine ⟨_, pss_cons (ps_if (PW.pt (pw_or (pt_not (pt_val (pe_callB call_isi (by rfl) T.n_isinstance (by decide +kernel) (pa_cons (pv 1) (pa_cons (pe_bltn rfl T.n_tuple (v := .ty "tuple") (by decide +kernel) rfl) pa_nil))))) (pw_or1 (pt_cmpR op_lt (pe_callB call_len_seq (by rfl) T.n_len PySem.boot_len (pa_cons (pv 1) pa_nil)) pe_int (nomark _)))))
        (pss_one (ps_ret (pe_lst (pa_cons pe_str pa_nil)))) pss_nil)
      (pss_cons (ps_for PassesOwn.never rfl (pi_enumT (by rfl) T.n_enumerate (pa_cons (pv 1) pa_nil)) (pg_tup rfl (pgs_cons (pg_name (i := 2) nd rfl (.inl rfl)) (pgs_cons (pg_name (i := 3) nd rfl (.inr rfl)) pgs_nil)))
        (pss_cons (ps_if (pt_cmpR (op_eq_nil hr) (pe_lc (own := [("row", 4)]) (wi := iList K (tVar 0)) (g := gName 4) (tt := tTest (tOp (rIn K false) (tVar 3) (tVar 4))) (te := tVar 4) rfl nd (pi_list (pv 0)) (blkOk_by (N := ["rows", "ring_here", "n", "at", "row"]) (sc := defScope s__law_due) (by decide +kernel)) (fun _ _ _ _ _ => pg_name (i := 4) nd rfl (.inl rfl)) (fun _ _ _ _ _ => pts_one (pt_cmpR op_in_seq (pv 3) (pv 4) rfl)) (fun _ _ _ _ _ => pv 4)) (pe_lst pa_nil) (nomark _))
          (pss_one (ps_ret (pe_lst (pa_cons pe_str pa_nil)))) pss_nil)
        (pss_one (ps_if (pt_not (pt_val (pe_can CB hr pass0 (pa_cons (pv 0) (pa_cons (pe_ix ix_tup (pv 1) (pe_op op_sub (pv 2) pe_int) (fun _ _ => rfl)) (pa_cons (pv 3) pa_nil))))))
          (pss_one (ps_ret (pe_lst (pa_cons pe_str pa_nil)))) pss_nil))))
      (pss_one (ps_ret (pe_callB call_len_seq (by rfl) T.n_len PySem.boot_len (pa_cons (pv 1) pa_nil))))), ?_⟩
    have hlen : ∀ {H2 : Hp} {σ : L2.St}, Ex H H2 → σ[1]? = some (some (.ref t)) → Ev (tCB (rLenS K) (tCons (tVar 1) tNil)) σ H2 (.int (xs.length : Int)) := fun e hv => ev_cb (ea_cons (ev_var hv) ea_nil) fun H3 e3 Q q => ⟨t, _, rfl, .inr (ex_t (e.trans e3) hT), q H3 (Ex.refl H3)⟩
    have back : ∀ {H1 : Hp} {σ : L2.St} {D : Ends} {z : Str}, Ex H H1 → D.rt = Q → dueG (rows.map nts) xs = some z → tRet (tLst (tCons (tC (.str z)) tNil)) D σ H1 := fun e hD hd => s_retL (el_lst (ea_cons ev_c ea_nil) (by show 1 ≤ 100000; decide)) fun l H2 hl e2 h2 => by
      rw [hD]
      exact bad _ hd l H2 (fresh_back e hl) (e.trans e2) h2
    refine q_when (b := decide (xs.length < 2)) ?_ (fun hb H1 e1 => back e1 rfl ?_) (fun hb H1 e1 => ?_)
    · have := et_or (t := tNot (tB (tCB (rIsi K) (tCons (tVar 1) (tCons (tC (.ty "tuple")) tNil))))) (u := tTest (tOp (rI0 fun i j => .bl (decide (i < j))) (tCB (rLenS K) (tCons (tVar 1) tNil)) (tC (.int 2)))) (σ := [some (.ref p), some (.ref t), none, none, none]) (H := H) (a := false) (b := decide (xs.length < 2))
        (et_not (a := true) (et_B (ev_cb (ea_cons (ev_var rfl) (ea_cons ev_c ea_nil)) fun H1 e Q q => ⟨.ref t, .ty "tuple", .type "tuple", .type "tuple", true, rfl, .ty _, tyx_sqt (ex_t e hT), kit_ty (by decide +kernel), q H1 (Ex.refl H1)⟩)))
        (fun _ => et_is (et_test (ev_op (hlen (Ex.refl H) rfl) ev_c rv_I0)) (by
          refine Bool.eq_iff_iff.mpr ?_
          rw [decide_eq_true_iff, decide_eq_true_iff]
          omega))
      exact this
    · unfold dueG
      rw [if_pos (of_decide_eq_true hb)]
    have hge : ¬ xs.length < 2 := of_decide_eq_false hb
    have hd0 : dueG (rows.map nts) xs = scanG (rows.map nts) (prevAt xs 0) (xs.drop 0) := by
      unfold dueG
      rw [if_neg hge, List.drop_zero]
      rfl
    refine ⟨_, rfl, t, _, rfl, ex_t e1 hT, for_it walk_enumT (fun i σ H' => ∃ v2 v3, σ = [some (.ref p), some (.ref t), v2, v3, none] ∧ Ex H H' ∧ dueG (rows.map nts) xs = scanG (rows.map nts) (prevAt xs i) (xs.drop i)) ⟨_, _, rfl, e1, hd0⟩ (fun i σ H2 _ ⟨_, _, _, e, _⟩ => ex_t e hT) ?_ ?_⟩
    · rintro i x σ H2 H3 hi ⟨v2, v3, rfl, e2, hd⟩ ⟨T', y, z, rfl, hT', rfl, hy, hz2⟩
      obtain rfl := Option.some.inj hy
      have hx : xs[i]? = some z := hz2
      have hxm := List.mem_of_getElem? hx
      have hp := hpt z hxm
      have e3 : Ex H (upd H2 T' (.tup [.int (i : Nat), z])) := e2.trans (Ex.new hT')
      rw [drop_at hx] at hd
      unfold scanG at hd
      refine ⟨T', _, rfl, st_of upd_same, rfl, _, _, rfl, _, _, rfl, rfl, ?_⟩
      obtain ⟨qs, q1, q2⟩ := el_picked (K := K) (σ := [some (.ref p), some (.ref t), some (.int (i : Nat)), some z, none]) (H := upd H2 T' (.tup [.int (i : Nat), z])) (j := 4) (i0 := 0) (tt := tTest (tOp (rIn K false) (tVar 3) (tVar 4))) (fun r => decide (z ∈ nts r)) (R.ex e3) hz rfl (fun _ => rfl) (fun _ => rfl) fun a r H1 e hr hS => by
        have := rv_isL (K := K) hS hp.flat (flat_nts r)
        rw [inV_pt hp] at this
        exact et_test (ev_op (ev_var rfl) (ev_var rfl) this)
      have ein : (rows.any fun r => decide (z ∈ nts r)) = inG (rows.map nts) z := by
        unfold inG
        rw [List.any_map]
        rfl
      rw [ein] at q1
      refine q_when (b := !inG (rows.map nts) z) (et_is (et_test (ev_opLL q2 (el_lst ea_nil (by decide)) fun p q H1 hp hq e => rv_eqE (neg := false) (sq_of hp) (sq_of hq))) q1) (fun hbq H4 e4 => ?_) (fun hbq H4 e4 => ?_)
      · have hin : inG (rows.map nts) z = false := by simpa using hbq
        rw [hin, if_neg (by decide)] at hd
        exact back (e3.trans e4) rfl hd
      have hin : inG (rows.map nts) z = true := by simpa using hbq
      rw [hin, if_pos rfl] at hd
      have e34 := e3.trans e4
      refine s_when (et_not (a := befG (rows.map nts) (prevAt xs i) z) (et_B (ev_call (ea_cons (ev_var rfl) (ea_cons (ev_op (ev_var rfl) (ev_op (ev_var rfl) ev_c rv_I0) (rv_ixT (ex_t e34 hT) (prev_at hi))) (ea_cons (ev_var rfl) ea_nil))) fun H5 e5 Q q E => ⟨p, rows, prevAt xs i, z, rfl, R.ex (e34.trans e5), hz, hpt _ (prev_mem hi), hp, fun H6 e6 => q H6 e6⟩))) (fun hb2 H5 e5 => ?_) fun hb2 H5 e5 => ?_
      · have hbf : befG (rows.map nts) (prevAt xs i) z = false := by simpa using hb2
        rw [hbf, if_neg (by decide)] at hd
        exact back (e34.trans e5) rfl hd
      · have hbf : befG (rows.map nts) (prevAt xs i) z = true := by simpa using hb2
        rw [hbf, if_pos rfl] at hd
        refine ⟨_, _, rfl, e34.trans e5, ?_⟩
        rw [prev_next hx]
        exact hd
    · rintro σ H3 ⟨v2, v3, rfl, e3, hd⟩
      have hd : dueG (rows.map nts) xs = none := by
        rw [hd, List.drop_length]
        rfl
      exact s_ret (hlen e3 rfl) fun H4 e4 => fin hd H4 (e3.trans e4)
end
end K28
end

section
set_option Elab.async false
set_option linter.all false
set_option maxRecDepth 100000
set_option maxHeartbeats 4000000
namespace K28
open PySem PySem.Spec PyProof.Rows L2 He Cn Evl
/-! ### a plan is written -/
def planK (z : Str) (lm la lo : Addr) : List (L2.Key × V) := [(.inr "name", .str z), (.inr "members", .ref lm), (.inr "above", .ref la), (.inr "options", .ref lo)]
theorem pne1 : ¬ (Sum.inr ("name" : Str) : L2.Key) = Sum.inr ("members" : Str) := by decide +kernel
theorem pne2 : ¬ (Sum.inr ("name" : Str) : L2.Key) = Sum.inr ("above" : Str) := by decide +kernel
theorem pne3 : ¬ (Sum.inr ("name" : Str) : L2.Key) = Sum.inr ("options" : Str) := by decide +kernel
theorem pne4 : ¬ (Sum.inr ("members" : Str) : L2.Key) = Sum.inr ("above" : Str) := by decide +kernel
theorem pne5 : ¬ (Sum.inr ("members" : Str) : L2.Key) = Sum.inr ("options" : Str) := by decide +kernel
theorem pne6 : ¬ (Sum.inr ("above" : Str) : L2.Key) = Sum.inr ("options" : Str) := by decide +kernel
theorem pne7 : ¬ (Sum.inr ("options" : Str) : L2.Key) = Sum.inr ("above" : Str) := by decide +kernel
theorem plan_name {z : Str} {lm la lo : Addr} : valV (planK z lm la lo) (.inr ("name" : Str)) = some (.str z) := valV_pos rfl
theorem plan_members {z : Str} {lm la lo : Addr} : valV (planK z lm la lo) (.inr ("members" : Str)) = some (.ref lm) := (valV_neg pne1).trans (valV_pos rfl)
theorem plan_above {z : Str} {lm la lo : Addr} : valV (planK z lm la lo) (.inr ("above" : Str)) = some (.ref la) := (valV_neg pne2).trans ((valV_neg pne4).trans (valV_pos rfl))
theorem plan_options {z : Str} {lm la lo : Addr} : valV (planK z lm la lo) (.inr ("options" : Str)) = some (.ref lo) := (valV_neg pne3).trans ((valV_neg pne5).trans ((valV_neg pne6).trans (valV_pos rfl)))
theorem plan_put {z : Str} {lm la lo lb : Addr} : putK (planK z lm la lo) (.inr ("above" : Str)) (.ref lb) = planK z lm lb lo := by
  unfold putK planK
  rw [if_pos (by simp)]
  simp only [List.map_cons, List.map_nil, pne2, pne4, pne7, if_false, if_true]
theorem plan_merge {z : Str} {lm la lo : Addr} : mergeK [] (planK z lm la lo) = planK z lm la lo := by
  have s1 : ¬ ("name" : Str) = "members" := by decide +kernel
  have s2 : ¬ ("name" : Str) = "above" := by decide +kernel
  have s3 : ¬ ("name" : Str) = "options" := by decide +kernel
  have s4 : ¬ ("members" : Str) = "above" := by decide +kernel
  have s5 : ¬ ("members" : Str) = "options" := by decide +kernel
  have s6 : ¬ ("above" : Str) = "options" := by decide +kernel
  unfold planK mergeK
  simp [putK, s1, s2, s3, s4, s5, s6]
def rAddS : R2 := fun x y H Q => ∃ i j, x = .str i ∧ y = .str j ∧ i.length + j.length ≤ sizeLine ∧ Q (.str (i ++ j)) H
def rStrI : List V → Hp → VK → Prop := fun xs H Q => ∃ i, xs = [.int i] ∧ i.natAbs.log2 < 1920 ∧ Q (.str (toString i)) H
def kname (n : Nat) : Str := ("K" : Str) ++ (Str.ofString (toString (n : Int)))
theorem good_kname {n : Nat} (h : n < 8) : goodName (kname n) = true := by
  match n, h with
  | 0, _ => decide +kernel
  | 1, _ => decide +kernel
  | 2, _ => decide +kernel
  | 3, _ => decide +kernel
  | 4, _ => decide +kernel
  | 5, _ => decide +kernel
  | 6, _ => decide +kernel
  | 7, _ => decide +kernel
theorem len_kname {n : Nat} (h : n < 8) : ("K" : Str).length + (Str.ofString (toString (n : Int))).length ≤ sizeLine := by
  match n, h with
  | 0, _ => decide +kernel
  | 1, _ => decide +kernel
  | 2, _ => decide +kernel
  | 3, _ => decide +kernel
  | 4, _ => decide +kernel
  | 5, _ => decide +kernel
  | 6, _ => decide +kernel
  | 7, _ => decide +kernel
/-- the draws change these two only -/
def Fr2 (dm gm : Addr) (H H' : Hp) : Prop := ∀ b o, H b = some o → b ≠ dm → b ≠ gm → H' b = some o
theorem mat_ex {H H' : Hp} {d c g : Addr} {sp : Int} (e : Ex H H') (M : MAt H d c g sp) : MAt H' d c g sp := by
  obtain ⟨q1, ⟨cs, lc, bc, q2⟩, ⟨ys, ly, q3⟩, q4⟩ := M
  exact ⟨e _ _ q1, ⟨cs, lc, bc, e _ _ q2⟩, ⟨ys, ly, e _ _ q3⟩, q4⟩
theorem mat_xn {H H' : Hp} {d c g : Addr} {sp : Int} (x : LamX.ExtN H H') (M : MAt H d c g sp) : MAt H' d c g sp := by
  obtain ⟨q1, ⟨cs, lc, bc, q2⟩, ⟨ys, ly, q3⟩, q4⟩ := M
  exact ⟨x _ _ q1 (fun _ z => nomatch z), ⟨cs, lc, bc, x _ _ q2 (fun _ z => nomatch z)⟩, ⟨ys, ly, x _ _ q3 (fun _ z => nomatch z)⟩, q4⟩
/-- the tables stand through a draw -/
theorem tabs_fr {T : List (Addr × Str)} {H H' : Hp} {dm c gm : Addr} {sp : Int} (M : MAt H dm c gm sp) (f : Fr2 dm gm H H') (t : LamX.Tabs T H) : LamX.Tabs T H' := by
  obtain ⟨q1, _, ⟨ys, _, q3⟩, _⟩ := M
  have keep : ∀ b o, H b = some o → (∀ kvs, o ≠ .dK kvs) → (∀ xs, o ≠ .lst xs) → H' b = some o := fun b o h h1 h2 => f b o h
    (fun z => by rw [z, q1] at h; exact h1 _ (Option.some.inj h).symm) (fun z => by rw [z, q3] at h; exact h2 _ (Option.some.inj h).symm)
  intro pr hpr
  obtain ⟨ps, h1, h2, h3⟩ := t pr hpr
  refine ⟨ps, keep _ _ h1 (fun _ z => nomatch z) (fun _ z => nomatch z), h2, fun pos cv hc => ?_⟩
  obtain ⟨c, ec, hcc⟩ := h3 pos cv hc
  exact ⟨c, ec, keep _ _ hcc (fun _ z => nomatch z) (fun _ z => nomatch z)⟩
/-- dicts and lists may change -/
def TbK (H H' : Hp) : Prop := ∀ b o, H b = some o → (∀ kvs, o ≠ .dK kvs) → (∀ xs, o ≠ .lst xs) → H' b = some o
theorem tabs_k {T : List (Addr × Str)} {H H' : Hp} (keep : TbK H H') (t : LamX.Tabs T H) : LamX.Tabs T H' := by
  intro pr hpr
  obtain ⟨ps, h1, h2, h3⟩ := t pr hpr
  refine ⟨ps, keep _ _ h1 (fun _ z => nomatch z) (fun _ z => nomatch z), h2, fun pos cv hc => ?_⟩
  obtain ⟨c, ec, hcc⟩ := h3 pos cv hc
  exact ⟨c, ec, keep _ _ hcc (fun _ z => nomatch z) (fun _ z => nomatch z)⟩
theorem tbk_lst {H : Hp} {p : Addr} {xs : List V} {u : HO} (h : H p = some (.lst xs)) : TbK H (upd H p u) := fun b o hb _ h2 => by
  rw [upd_ne (fun z => by rw [z, h] at hb; exact h2 _ (Option.some.inj hb).symm)]
  exact hb
theorem tbk_dk {H : Hp} {p : Addr} {xs : List (L2.Key × V)} {u : HO} (h : H p = some (.dK xs)) : TbK H (upd H p u) := fun b o hb h1 _ => by
  rw [upd_ne (fun z => by rw [z, h] at hb; exact h1 _ (Option.some.inj hb).symm)]
  exact hb
theorem take_1 {as : List Nat} (h : as ≠ []) : ∃ x, as.take 1 = [x] ∧ x ∈ as := by
  cases as with
  | nil => exact absurd rfl h
  | cons x r => exact ⟨x, rfl, List.mem_cons_self ..⟩
/-- one line above: the merge goes through -/
theorem one_above {ab ls : List (List Nat)} {n x : Nat} (g : GoodUp ab ls n) (hx : x < n) : ∃ l, Mg.merge 20 (rowsOf ls [x]) = some l := by
  obtain ⟨as, l, O⟩ := g.2 x hx
  have hm := good_mem g x hx _ O.s
  refine ⟨x :: l, ?_⟩
  unfold rowsOf
  rw [List.map_cons, List.map_nil, getD_of O.s]
  have := nodup_len (x :: l) (List.range n) hm.1 fun y hy => List.mem_range.mpr (by have := hm.2 y hy; omega)
  rw [List.length_range] at this
  have := g.1
  exact Mg.merge_top x l 20 hm.1 (by omega)
/-- the next plan stands -/
theorem good_next {ab ls : List (List Nat)} {as l : List Nat} (g : GoodUp ab ls ab.length) (hl : ls.length = ab.length) (h9 : ab.length < 10) (lt : ∀ x, x ∈ as → x < ab.length) (nd : as.Nodup) (h4 : as.length ≤ 4) (hm : Mg.merge 20 (rowsOf ls as) = some l) : GoodUp (ab ++ [as]) (ls ++ [ab.length :: l]) (ab ++ [as]).length := by
  have re : ∀ (bs : List Nat), (∀ x, x ∈ bs → x < ab.length) → rowsOf (ls ++ [ab.length :: l]) bs = rowsOf ls bs := fun bs hb => by
    unfold rowsOf
    congr 1
    apply List.map_congr_left
    intro x hx
    rw [List.getD_eq_getElem?_getD, List.getD_eq_getElem?_getD, List.getElem?_append_left (by have := hb x hx; omega)]
  refine ⟨by rw [List.length_append]; show _ + 1 ≤ 10; omega, fun i hi => ?_⟩
  rw [List.length_append] at hi
  have hi : i < ab.length + 1 := hi
  by_cases hia : i < ab.length
  · obtain ⟨bs, l', O⟩ := g.2 i hia
    exact ⟨bs, l', by rw [List.getElem?_append_left hia]; exact O.a, by rw [List.getElem?_append_left (by omega)]; exact O.s, O.lt, O.nd, O.len, by rw [re bs fun x hx => by have := O.lt x hx; omega]; exact O.mg⟩
  · have : i = ab.length := by omega
    subst this
    exact ⟨as, l, by rw [List.getElem?_append_right (Nat.le_refl _)]; simp, by rw [List.getElem?_append_right (by omega), hl]; simp, lt, nd, h4, by rw [re as lt]; exact hm⟩
def rLR : List V → Hp → VK → Prop := fun xs H Q => ∃ (a : Addr) (n : Nat), xs = [.ref a] ∧ H a = some (.rng 0 (n : Int)) ∧ n ≤ 1000 ∧ ∀ l, H l = none → Q (.ref l) (upd H l (.lst ((List.range n).map fun (i : Nat) => V.int (i : Int))))
def rR1 : List V → Hp → VK → Prop := fun vs H Q => ∃ j, vs = [V.int j] ∧ ∀ p, H p = none → Q (.ref p) (upd H p (.rng 0 j))
theorem perm_nts {ys : List V} {r : List Nat} (h : ys.Perm (nts r)) : ∃ zs, ys = nts zs ∧ zs.Perm r := by
  let f : V → Nat := fun v => match v with
    | .int i => i.toNat
    | _ => 0
  have e1 : (nts r).map f = r := by
    unfold nts
    rw [List.map_map]
    conv => rhs; rw [← List.map_id r]
    apply List.map_congr_left
    intro x _
    show ((x : Int)).toNat = x
    exact Int.toNat_natCast x
  refine ⟨ys.map f, ?_, ?_⟩
  · unfold nts
    rw [List.map_map]
    conv => lhs; rw [← List.map_id ys]
    apply List.map_congr_left
    intro v hv
    obtain ⟨n, _, rfl⟩ := List.mem_map.mp (h.mem_iff.mp hv)
    show V.int (n : Int) = V.int (((n : Int)).toNat : Int)
    rw [Int.toNat_natCast]
  · have := h.map f
    rw [e1] at this
    exact this
theorem cut_take {xs : List V} {k : Nat} : cutV xs none (some (k : Int)) = xs.take k := by
  unfold cutV
  rw [HT.sIx_none, HT.sIx_nat, List.drop_zero, Nat.sub_zero]
  by_cases h : k ≤ xs.length
  · rw [Nat.min_eq_left h]
  · rw [Nat.min_eq_right (by omega), List.take_of_length_le (Nat.le_refl _), List.take_of_length_le (by omega)]
end K28
end

section
set_option Elab.async false
set_option linter.all false
set_option maxRecDepth 100000
set_option maxHeartbeats 4000000
namespace K28
open PySem PySem.Spec PyProof.Rows L2 He Cn Evl
/-! ### what a draw leaves -/
section
variable {dm gm c : Addr} {H H1 H2 G : Hp} {sp : Int}
theorem fr2_ex (e : Ex H H1) : Fr2 dm gm H H1 := fun b o h _ _ => e b o h
theorem Fr2.trans (a : Fr2 dm gm H H1) (b : Fr2 dm gm H1 H2) : Fr2 dm gm H H2 := fun x o h h1 h2 => b x o (a x o h h1 h2) h1 h2
theorem Fr2.g (f : Fr2 dm gm H H1) (eG : Ex G H) (gd : G dm = none) (gg : G gm = none) : Ex G H1 := fun b o h =>
  f b o (eG b o h) (fun q => by rw [q, gd] at h; cases h) (fun q => by rw [q, gg] at h; cases h)
theorem fresh_m {p : Addr} (M : MAt H1 dm c gm sp) (f : Fr2 dm gm H H1) (hp : H1 p = none) : H p = none := by
  cases q : H p with
  | none => rfl
  | some u =>
    by_cases z1 : p = dm
    · rw [z1, M.ob] at hp; cases hp
    · by_cases z2 : p = gm
      · obtain ⟨gs', _, q5⟩ := M.great
        rw [z2, q5] at hp; cases hp
      · rw [f p u q z1 z2] at hp; cases hp
theorem MAt.dm_ne {p : Addr} (M : MAt H dm c gm sp) (hp : H p = none) : p ≠ dm := fun q => by rw [q, M.ob] at hp; cases hp
theorem MAt.gm_ne {p : Addr} (M : MAt H dm c gm sp) (hp : H p = none) : p ≠ gm := fun q => by
  obtain ⟨gs', _, q5⟩ := M.great
  rw [q, q5] at hp; cases hp
theorem Fr2.mut {p : Addr} {o : HO} (f : Fr2 dm gm H H1) (hp : H p = none) : Fr2 dm gm H (upd H1 p o) := fun b u h h1 h2 => by
  rw [upd_ne (ne_of_none h hp)]
  exact f b u h h1 h2
theorem MAt.mut {p : Addr} {o : HO} (M : MAt H dm c gm sp) (h1 : p ≠ dm) (h2 : p ≠ gm) (h3 : p ≠ c) : MAt (upd H p o) dm c gm sp := by
  obtain ⟨q1, ⟨cs, lc, bc, q2⟩, ⟨ys, ly, q3⟩, q4⟩ := M
  exact ⟨by rw [upd_ne h1.symm]; exact q1, ⟨cs, lc, bc, by rw [upd_ne h3.symm]; exact q2⟩, ⟨ys, ly, by rw [upd_ne h2.symm]; exact q3⟩, q4⟩
theorem MAt.c_ne {p : Addr} (M : MAt H dm c gm sp) (hp : H p = none) : p ≠ c := fun q => by
  obtain ⟨gs', _, _, q5⟩ := M.cells
  rw [q, q5] at hp; cases hp
end
theorem cut_mem {xs : List V} {lo hi : Option Int} {x : V} (h : x ∈ cutV xs lo hi) : x ∈ xs := List.mem_of_mem_drop (List.mem_of_mem_take h)
theorem el_catV {σ : L2.St} {H : Hp} {ta tb : TE} {p : Addr} {xs ys : List V} (ha : Ev ta σ H (.ref p)) (hp : H p = some (.lst xs)) (hb : EvL tb σ H ys) (hz : xs.length + ys.length ≤ 100000) : EvL (tOp rCat ta tb) σ H (xs ++ ys) := fun H1 e Q q =>
  ha H1 e _ fun H2 e2 => hb H2 (e.trans e2) _ fun p2 H3 hp2 e3 h2 => ⟨p, p2, xs, ys, rfl, rfl, (e2.trans e3) _ _ (e _ _ hp), h2, sz_of hz, fun p3 hp3 => q p3 _ (fresh_back (e2.trans e3) hp3) ((e2.trans e3).trans (Ex.new hp3)) upd_same⟩
section
variable {P : Program} {w : World} {K : PySem.W.Frag} {mg : Str → Option Value} {base : Heap}
def spWalked (K : PySem.W.Frag) : Sp := fun vs H Q _ => ∃ (dm c gm p : Addr) (sp : Int) (rows : List (List Nat)) (many size : Nat) (G : Hp), vs = [.ref dm, .ref p, .int (size : Int)] ∧ MAt H dm c gm sp ∧ 0 ≤ sp ∧ sp < 300000 ∧ Ex G H ∧ G dm = none ∧ G gm = none ∧ RwI K G p rows ∧ rows.length ≤ 40 ∧
  (∀ r, r ∈ rows → r.length ≤ 40 ∧ ∀ y, y ∈ r → y < many) ∧ size ≤ 20 ∧
  ∀ (t : Addr) (o : Obj) (ns : List Nat) (sp' : Int) (H' : Hp), o.dict = none → H' t = some (.frz o (.tup (nts ns))) → H t = none → ns.length ≤ size → (∀ y, y ∈ ns → y < many) → sp ≤ sp' → sp' ≤ sp + size → MAt H' dm c gm sp' → Fr2 dm gm H H' → Q (.ref t) H'
def ttSome (K : PySem.W.Frag) : TT := tOr (tTest (tOp (rEqE K false) (tVar 4) (tLst tNil))) (tB (tCall (spBef K) [] E0 (tCons (tVar 1) (tCons (tOp (rIxL K) (tVar 4) (tUn (rU fun i => .int (-i)) (tC (.int 1)))) (tCons (tVar 8) tNil)))))
theorem ev_last {σ : L2.St} {H : Hp} {pp : Addr} {xs : List V} (hv : σ[4]? = some (some (.ref pp))) (hS : SqL K H pp xs) (h : 0 < xs.length) : Ev (tOp (rIxL K) (tVar 4) (tUn (rU fun i => .int (-i)) (tC (.int 1)))) σ H (prevAt xs 0) :=
  ev_op (ev_var hv) (ev_un ev_c ru_neg) (rv_ixL hS (prev_at (i := 0) h))
theorem can_walked (T : Txt K mg) : Can P w K mg base CX0 3 "_law_walked" ["m", "rows", "size"] (spWalked K) := by
  have CB : Can P w K mg base CX0 1 "_law_before" ["rows", "near", "far"] (spBef K) := can_bef T
  have CD : Can P w K mg base CX0 2 "_law_draw" ["m", "top"] spDraw := can_draw T
  refine can_of T.g__law_walked T.F__law_walked (fun fd F => ?_) (fun _ _ _ _ _ _ us hl => match us, hl with | [_, _, _], _ => rfl)
  refine F.ok sc__law_walked (fun vs H Q E h => ?_) (fun cdv A outer s H vs Q E hr h => ?_)
  · obtain ⟨dm, c, gm, p, sp, rows, many, size, G, rfl, _⟩ := h
    rfl
  · obtain ⟨dm, c, gm, p, sp, rows, many, size, G, rfl, M, s0, s1, eG, gd, gg, R, hz, hrow, hsz, fin⟩ := h
    have nd := sc__law_walked.nd
    refine ⟨_, pss_cons (ps_asg (pe_tup (pa_cons (pe_lst pa_nil) (pa_cons (pe_lst pa_nil) pa_nil))) (pg_tup rfl (pgs_cons (pg_name (i := 3) nd rfl (.inr rfl)) (pgs_cons (pg_name (i := 4) nd rfl (.inr rfl)) pgs_nil))))
      (pss_cons (ps_for PassesOwn.never rfl (pi_list (pv 1)) (pg_name (i := 5) nd rfl (.inl rfl))
        (pss_one (ps_set (i := 3) nd rfl (.inr rfl) (pe_op op_cat (pv 3) (pe_lc (own := [("at", 8)]) (wi := iList K (tVar 5)) (g := gName 8) (tt := tTest (tOp (rIn K true) (tVar 8) (tVar 3))) (te := tVar 8) rfl nd (pi_list (pv 5)) (blkOk_by (N := ["m", "rows", "size", "every", "path", "row", "n", "some", "at"]) (sc := defScope s__law_walked) (by decide +kernel)) (fun _ _ _ _ _ => pg_name (i := 8) nd rfl (.inl rfl)) (fun _ _ _ _ _ => pts_one (pt_cmpR op_notIn_seq (pv 8) (pv 3) rfl)) (fun _ _ _ _ _ => pv 8))))))
      (pss_cons (ps_for PassesOwn.never rfl (pi_range1 rfl T.n_range (pa_cons (pv 2) pa_nil)) (pg_name (i := 6) nd rfl (.inl rfl))
        (pss_cons (ps_setLc (i := 7) (own := [("at", 8)]) (wi := iList K (tVar 3)) (g := gName 8) (tt := ttSome K) (te := tVar 8) rfl nd rfl rfl (sw_true rfl rfl rfl (by decide +kernel)) (pi_list (pv 3)) (blkOk_by (N := ["m", "rows", "size", "every", "path", "row", "n", "some", "at"]) (sc := defScope s__law_walked) (by decide +kernel)) (fun _ _ _ _ _ => pg_name (i := 8) nd rfl (.inl rfl))
            (fun _ _ _ _ _ => pts_one (PW.pt (pw_or (pt_cmpR (op_eq_nil hr) (pv 4) (pe_lst pa_nil) (nomark _)) (pw_or1 (pt_val (pe_can CB hr pass0 (pa_cons (pv 1) (pa_cons (pe_ix ix_list (pv 4) (pe_un un_neg pe_int) (fun _ _ => rfl)) (pa_cons (pv 8) pa_nil))))))))) (fun _ _ _ _ _ => pv 8))
        (pss_cons (ps_if (PW.pt (pw_or (pt_cmpR (op_eq_nil hr) (pv 7) (pe_lst pa_nil) (nomark _)) (pw_or1 (PW.pt (pw_and (pt_cmpR (op_ne_nil hr) (pv 4) (pe_lst pa_nil) (nomark _)) (pw_and1 (pt_cmpR op_in_seq (pe_ix ix_list (pv 4) (pe_un un_neg pe_int) (fun _ _ => rfl)) (pe_slice sl_list (pv 4) po_none (po_some (pe_un un_neg pe_int))) rfl)))))))
            (pss_one (ps_ret (pe_callTy call_tuple_ofZ (by rfl) T.n_tuple (by decide +kernel) (pa_cons (pv 4) pa_nil)))) pss_nil)
        (pss_one (ps_expr (pe_bm PySem.F.plainAttrs_list PySem.F.slot_list_append PySem.F.type_list_append mt_append (pv 4) (pa_cons (pe_ix ix_list (pv 7) (pe_can CD hr pass0 (pa_cons (pv 0) (pa_cons (pe_callB call_len_seq (by rfl) T.n_len PySem.boot_len (pa_cons (pv 7) pa_nil)) pa_nil))) (fun _ _ => rfl)) pa_nil)))))))
      (pss_one (ps_ret (pe_callTy call_tuple_ofZ (by rfl) T.n_tuple (by decide +kernel) (pa_cons (pv 4) pa_nil)))))), ?_⟩
    -- every, path
    refine ⟨by show 0 ≤ sizeLine; decide, fun qe hqe => ⟨by show 0 ≤ sizeLine; decide, fun pp hpp => ⟨by show 2 ≤ sizeLine; decide, fun tp htp => ⟨tp, _, rfl, st_of upd_same, rfl, _, _, rfl, _, _, rfl, rfl, ?_⟩⟩⟩⟩
    have e1 : Ex H (upd H qe (.lst [])) := Ex.new hqe
    have e2 : Ex (upd H qe (.lst [])) (upd (upd H qe (.lst [])) pp (.lst [])) := Ex.new hpp
    have e3 : Ex (upd (upd H qe (.lst [])) pp (.lst [])) (upd (upd (upd H qe (.lst [])) pp (.lst [])) tp (.tup [.ref qe, .ref pp])) := Ex.new htp
    have e03 := (e1.trans e2).trans e3
    have hqe1 := (e2.trans e3) _ _ (show upd H qe (.lst []) qe = _ from upd_same)
    have hpp1 := e3 _ _ (show upd (upd H qe (.lst [])) pp (.lst []) pp = _ from upd_same)
    generalize hH1 : upd (upd (upd H qe (.lst [])) pp (.lst [])) tp (.tup [.ref qe, .ref pp]) = H1 at *
    have hppH : H pp = none := fresh_back e1 hpp
    have pp1 := M.dm_ne hppH
    have pp2 := M.gm_ne hppH
    have pp3 := M.c_ne hppH
    have R0 : RwI K H p rows := R.ex eG
    obtain ⟨prs, hprs, hsnd, hrw⟩ := id R0
    refine q_forLn (xs := refs (prs.map Prod.fst)) (ev_var rfl) (ex_l e03 hprs) (fun i σ H' => ∃ (v5 : Option V) (qe : Addr) (ev : List Nat), σ = [some (.ref dm), some (.ref p), some (.int (size : Int)), some (.ref qe), some (.ref pp), v5, none, none, none] ∧ Ex H1 H' ∧ H qe = none ∧ qe ≠ pp ∧ H' qe = some (.lst (nts ev)) ∧ (∀ y, y ∈ ev → y < many) ∧ ev.length ≤ 40 * i) ?_ ?_ ?_ ?_
    · intro H2 e
      exact ⟨none, qe, [], rfl, e, hqe, (fun z => by rw [← z, upd_same] at hpp; cases hpp), e _ _ hqe1, (fun y hy => by cases hy), Nat.zero_le _⟩
    · rintro i σ H' _ ⟨_, _, _, _, e, _⟩
      exact ex_l (e03.trans e) hprs
    · rintro i x σ H' hx ⟨v5, qe, ev, rfl, e, hq, hqp, h3, hm, hl⟩
      obtain ⟨pr, hpr, rfl⟩ := prs_at hx
      have hpm := List.mem_of_getElem? hpr
      have hS := ex_l (e03.trans e) (hrw pr hpm)
      have hi : i < prs.length := (List.getElem?_eq_some_iff.mp hpr).1
      have hpl : prs.length ≤ 40 := by
        have := congrArg List.length hsnd
        rw [List.length_map] at this
        omega
      have hr2 := hrow pr.2 (by rw [hsnd]; exact List.mem_map_of_mem hpm)
      have hL := el_lcK (K := K) wk_list (tl := tVar 5) (σ := [some (.ref dm), some (.ref p), some (.int (size : Int)), some (.ref qe), some (.ref pp), some (.ref pr.1), none, none, none]) (H := H') (j := 8) (t := tTest (tOp (rIn K true) (tVar 8) (tVar 3))) (te := tVar 8) (vs := [8]) (ev_var rfl) hS (fun i => match pr.2[i]? with | some y => !decide (y ∈ ev) | none => false) (fun i => match pr.2[i]? with | some y => V.int ((y : Nat) : Int) | none => .non) (by rw [nts_len]; omega) (fun _ => rfl)
        (fun i x H4 e4 hx => by
          obtain ⟨y, hy, rfl⟩ := nts_at hx
          have := rv_niL (K := K) (sq_of (e4 _ _ h3)) (x := .int (y : Int)) rfl (flat_nts ev)
          rw [inV_nts] at this
          refine et_is (et_test (ev_op (ev_var rfl) (ev_var rfl) this)) ?_
          rw [hy])
        (fun i x H4 e4 hx _ => by
          obtain ⟨y, hy, rfl⟩ := nts_at hx
          have : (match pr.2[i]? with | some y => V.int ((y : Nat) : Int) | none => .non) = V.int (y : Int) := by rw [hy]
          rw [this]
          exact ev_var rfl)
      rw [nts_len, given_filter pr.2 (fun y => !decide (y ∈ ev)) (fun (y : Nat) => V.int (y : Int)) _ _ (fun i x hx => by rw [hx]) (fun i x hx => by rw [hx])] at hL
      have hfl : (pr.2.filter fun y => !decide (y ∈ ev)).length ≤ 40 := Nat.le_trans (List.length_filter_le _ _) hr2.1
      refine s_asgL (el_catV (ev_var rfl) h3 hL (by rw [nts_len, List.length_map]; have : ev.length ≤ 1600 := by omega
                                                    omega)) fun qn H4 hqn e4 h4 => ?_
      refine ⟨_, qn, ev ++ pr.2.filter (fun y => !decide (y ∈ ev)), rfl, e.trans e4, fresh_back (e03.trans e) hqn, (ne_of_none (e _ _ hpp1) hqn).symm, by rw [h4]; unfold nts; rw [List.map_append], fun y hy => ?_, by rw [List.length_append]; omega⟩
      rcases List.mem_append.mp hy with hy | hy
      · exact hm y hy
      · exact hr2.2 y (List.mem_filter.mp hy).1
    · rintro σ H' ⟨v5, qe, ev, rfl, e, hq, hqp, h3, hm, hl⟩
      have hpl : prs.length ≤ 40 := by
        have := congrArg List.length hsnd
        rw [List.length_map] at this
        omega
      have hl : ev.length ≤ 1600 := by
        have : (refs (prs.map Prod.fst)).length = prs.length := by unfold refs; rw [List.length_map, List.length_map]
        omega
      have eH' := e03.trans e
      have qe1 := M.dm_ne hq
      have qe2 := M.gm_ne hq
      -- the end: the tuple of the path
      have last : ∀ (σ : L2.St) (H2 : Hp) (D : Ends) (ns : List Nat) (sp' : Int), σ[4]? = some (some (.ref pp)) → H2 pp = some (.lst (nts ns)) → D.rt = Q → ns.length ≤ size → (∀ y, y ∈ ns → y < many) → sp ≤ sp' → sp' ≤ sp + size → MAt H2 dm c gm sp' → Fr2 dm gm H H2 → tRet (tCB (rTupZ K) (tCons (tVar 4) tNil)) D σ H2 := fun σ H2 D ns sp' hv h2 hD hl hm a1 a2 M2 f2 => by
        refine ⟨_, hv, pp, nts ns, rfl, sq_of h2, fun l o hl' ho => ?_⟩
        rw [hD]
        have e4 : Ex H2 (upd H2 l (.frz o (.tup (nts ns)))) := Ex.new hl'
        exact fin l o ns sp' _ ho upd_same (fresh_m M2 f2 hl') hl hm a1 a2 (mat_ex e4 M2) (f2.trans (fr2_ex e4))
      refine q_forR1 (n := (size : Int)) (ea_cons (ev_var rfl) ea_nil) ⟨by omega, by omega⟩ (fun i σ H' => ∃ (v6 v7 : Option V) (ns : List Nat) (sp' : Int), σ = [some (.ref dm), some (.ref p), some (.int (size : Int)), some (.ref qe), some (.ref pp), v5, v6, v7, none] ∧ Fr2 dm gm H H' ∧ MAt H' dm c gm sp' ∧ sp ≤ sp' ∧ sp' ≤ sp + (i : Int) ∧
        H' qe = some (.lst (nts ev)) ∧ H' pp = some (.lst (nts ns)) ∧ ns.length ≤ i ∧ ∀ y, y ∈ ns → y < many) ?_ ?_ ?_
      · intro H2 e4
        exact ⟨_, _, [], sp, rfl, fr2_ex (eH'.trans e4), mat_ex (eH'.trans e4) M, by omega, by omega, e4 _ _ h3, (e.trans e4) _ _ hpp1, Nat.zero_le _, fun y hy => by cases hy⟩
      · rintro i σ H2 hi ⟨v6, v7, ns, sp', rfl, f2, M2, a1, a2, h2e, h2p, hnl, hnm⟩
        have R2 : RwI K H2 p rows := R.ex (f2.g eG gd gg)
        have hL := el_lcK (K := K) wk_list (tl := tVar 3) (σ := [some (.ref dm), some (.ref p), some (.int (size : Int)), some (.ref qe), some (.ref pp), v5, some (.int (i : Int)), v7, none]) (H := H2) (j := 8) (t := ttSome K) (te := tVar 8) (vs := [8]) (ev_var rfl) (sq_of h2e) (fun i => match ev[i]? with | some y => (nts ns).isEmpty || befG (rows.map nts) (prevAt (nts ns) 0) (.int (y : Int)) | none => false) (fun i => match ev[i]? with | some y => V.int ((y : Nat) : Int) | none => .non) (by rw [nts_len]; omega) (fun _ => rfl)
          (fun i x H4 e4 hx => by
            obtain ⟨y, hy, rfl⟩ := nts_at hx
            refine et_is (et_or (a := (nts ns).isEmpty) (b := befG (rows.map nts) (prevAt (nts ns) 0) (.int (y : Int))) (et_test (ev_opL (ev_var rfl) (el_lst ea_nil (by decide)) fun q H5 hq e5 => rv_eqE (neg := false) (sq_of (e5 _ _ (e4 _ _ h2p))) (sq_of hq))) fun hne => ?_) (by rw [hy])
            have hpos : 0 < (nts ns).length := by
              cases ns with
              | nil => cases hne
              | cons a r => exact Nat.succ_pos _
            obtain ⟨z, _, ez⟩ := mem_nts (prev_mem (xs := nts ns) (i := 0) hpos)
            refine et_B (ev_call (ea_cons (ev_var rfl) (ea_cons (ev_last rfl (sq_of (e4 _ _ h2p)) hpos) (ea_cons (ev_var rfl) ea_nil))) fun H5 e5 Q q E => ⟨p, rows, prevAt (nts ns) 0, .int (y : Int), rfl, R2.ex (e4.trans e5), hz, by rw [ez]; exact .num z, .num y, fun H6 e6 => q H6 e6⟩))
          (fun i x H4 e4 hx _ => by
            obtain ⟨y, hy, rfl⟩ := nts_at hx
            have : (match ev[i]? with | some y => V.int ((y : Nat) : Int) | none => .non) = V.int (y : Int) := by rw [hy]
            rw [this]
            exact ev_var rfl)
        rw [nts_len, given_filter ev (fun (y : Nat) => (nts ns).isEmpty || befG (rows.map nts) (prevAt (nts ns) 0) (.int (y : Int))) (fun (y : Nat) => V.int (y : Int)) _ _ (fun i x hx => by rw [hx]) (fun i x hx => by rw [hx])] at hL
        generalize hso : ev.filter (fun (y : Nat) => (nts ns).isEmpty || befG (rows.map nts) (prevAt (nts ns) 0) (.int (y : Int))) = so at hL
        have hsm : ∀ y, y ∈ so → y < many := fun y hy => hm y (by rw [← hso] at hy; exact (List.mem_filter.mp hy).1)
        have hsl : so.length ≤ 1600 := by rw [← hso]; exact Nat.le_trans (List.length_filter_le _ _) hl
        refine q_asgL hL fun p7 H4 hp7 e4 h7 => ?_
        have h7 : H4 p7 = some (.lst (nts so)) := h7
        have f4 : Fr2 dm gm H H4 := f2.trans (fr2_ex e4)
        have M4 := mat_ex e4 M2
        have h4p := e4 _ _ h2p
        refine q_when (b := (nts so).isEmpty || (!(nts ns).isEmpty && inV (prevAt (nts ns) 0) (cutV (nts ns) none (some (-1))))) (et_or (et_test (ev_opL (ev_var rfl) (el_lst ea_nil (by decide)) fun q H5 hq e5 => rv_eqE (neg := false) (sq_of (e5 _ _ h7)) (sq_of hq))) fun _ => et_and (et_test (ev_opL (ev_var rfl) (el_lst ea_nil (by decide)) fun q H5 hq e5 => rv_eqE (neg := true) (sq_of (e5 _ _ h4p)) (sq_of hq))) fun hne => ?_) (fun _ H5 e5 => ?_) (fun hb H5 e5 => ?_)
        · have hpos : 0 < (nts ns).length := by
            cases ns with
            | nil => cases hne
            | cons a r => exact Nat.succ_pos _
          obtain ⟨z, _, ez⟩ := mem_nts (prev_mem (xs := nts ns) (i := 0) hpos)
          refine et_test (ev_opL (ev_last rfl (sq_of h4p) hpos) (el_sl (K := K) (tl := tNoPart) (th := tPart (tUn (rU fun i => .int (-i)) (tC (.int 1)))) (lo := none) (hi := some (-1)) (ev_var rfl) eo_none (eo_some (ev_un ev_c ru_neg)) (sq_of h4p)) fun q H5 hq e5 => rv_isL (sq_of hq) (by rw [ez]; rfl) ?_)
          rw [List.all_eq_true]
          intro x hx
          obtain ⟨y, _, rfl⟩ := mem_nts (cut_mem hx)
          rfl
        · exact last _ H5 _ ns sp' rfl (e5 _ _ h4p) rfl (by omega) hnm a1 (by omega) (mat_ex e5 M4) (f4.trans (fr2_ex e5))
        · have hne : so ≠ [] := fun q => by rw [q] at hb; cases hb
          have hpos : 0 < so.length := List.length_pos_iff.mpr hne
          have e45 := e4.trans e5
          have h5p := e5 _ _ h4p
          have h57 := e5 _ _ h7
          have M5 := mat_ex e5 M4
          have p71 := M2.dm_ne hp7
          have p72 := M2.gm_ne hp7
          refine ⟨_, rfl, .inl ⟨rfl, _, sq_of h5p⟩, _, rfl, _, rfl, _, rfl, p7, nts so, rfl, .inl (sq_of h57), dm, c, gm, sp', (so.length : Int), by rw [nts_len]; rfl, M5, by omega, by omega, by omega, by omega, fun r H6 hr0 hr1 M6 f6 => ?_⟩
          obtain ⟨j, rfl⟩ : ∃ j : Nat, r = (j : Int) := ⟨r.toNat, by omega⟩
          obtain ⟨y, hy⟩ := at_some (l := so) (i := j) (by omega)
          have f56 : Fr2 dm gm H5 H6 := f6
          have h6p := f6 _ _ h5p pp1 pp2
          have h67 := f6 _ _ h57 p71 p72
          have h6e := f6 _ _ (e45 _ _ h2e) qe1 qe2
          refine ⟨p7, nts so, (j : Int), .int (y : Int), rfl, rfl, sq_of h67, at_of rfl (at_nts hy), pp, nts ns, _, rfl, rfl, h6p, sz_lt (by rw [nts_len]; omega), _, _, ns ++ [y], sp' + 1, rfl, ?_, M6.mut pp1 pp2 pp3, by omega, by omega, by rw [upd_ne hqp]; exact h6e, by rw [upd_same]; unfold nts; simp, by rw [List.length_append]; show _ + 1 ≤ _; omega, fun z hz => ?_⟩
          · exact ((f4.trans (fr2_ex e5)).trans f56).mut hppH
          · rcases List.mem_append.mp hz with hz | hz
            · exact hnm z hz
            · obtain rfl := List.mem_singleton.mp hz
              exact hsm z (List.mem_of_getElem? hy)
      · rintro σ H2 ⟨v6, v7, ns, sp', rfl, f2, M2, a1, a2, h2e, h2p, hnl, hnm⟩
        have := Int.toNat_natCast size
        exact last _ H2 _ ns sp' rfl h2p rfl (by omega) hnm a1 (by omega) M2 f2
end
end K28
end

section
set_option Elab.async false
set_option linter.all false
set_option maxRecDepth 100000
set_option maxHeartbeats 4000000
/-! t.index of flat items; an empty tuple times a number; xs != ys where both hold the very same things -/
namespace L2
open PySem PySem.Spec PyProof.Rows
section
variable {X : Cx}
def rIndexT (K : PySem.W.Frag) : V → List V → Hp → VK → Prop := fun x xs H Q => ∃ (a : Addr) (ys : List V) (y : V) (j : Nat) (z : V), x = V.ref a ∧ xs = [y] ∧ SqT K H a ys ∧ flatV y = true ∧ ys.all flatV = true ∧ ys[j]? = some z ∧ eqV z y = true ∧
  (∀ (m : Nat) (z' : V), m < j → ys[m]? = some z' → eqV z' y = false) ∧ Q (.int (j : Nat)) H
theorem mt_tindexF : MtR X "tuple.index" (rIndexT X.K) := by
  intro pins s σ H x xs v us Q I rx rxs h
  obtain ⟨a, ys, y, j, z, rfl, rfl, hs, fy, fys, hz, hzj, hno, q⟩ := h
  cases rx
  obtain ⟨uy, rfl, ry⟩ := vals1 rxs
  obtain ⟨its, rv, pl, hlen⟩ := I.tuple hs
  obtain ⟨⟨cls, dd, dt, sl⟩, ho, hc, n, hd⟩ := pl
  simp only at hc hd
  subst hc
  subst hd
  obtain ⟨u, hu, ru⟩ := rv.get hz
  obtain ⟨hjl, hje⟩ := List.getElem?_eq_some_iff.mp hu
  have hvl := rv.length
  have hj : j < its.toArray.size := by simpa using hjl
  refine call_meets PySem.F.slot_tuple_index ⟨_, ho, rfl⟩ PySem.F.entry_tuple_index (PySem.F.args_tuple_index_2 _ _)
    (TI.tuple_indexAt a its.toArray n dd sl uy (eqU y) j hj ?_ ?_) ⟨ho, fun u' hu' => mem_eqAt ry fy rv fys u' (by simpa using hu'), ?_⟩
  · have e1 : its.toArray[j] = u := by simpa using hje
    rw [e1, eqU_of ru (flat_at fys hz)]
    exact hzj
  · intro m hm hmj
    have hml : m < its.length := by simpa using hm
    have hmy : m < ys.length := by omega
    have hy' : ys[m]? = some ys[m] := List.getElem?_eq_getElem hmy
    obtain ⟨u2, hu2, ru2⟩ := rv.get hy'
    obtain ⟨_, hme⟩ := List.getElem?_eq_some_iff.mp hu2
    have e1 : its.toArray[m] = u2 := by simpa using hme
    rw [e1, eqU_of ru2 (flat_at fys hy')]
    exact hno m _ hmj hy'
  · exact ⟨.int (j : Nat), H, I.tok _, ⟨_, rfl⟩, q⟩
theorem tuple_mul0 (l : Addr) (n : Nat) (dd : Option Addr) (sl : Array (Option Value)) (x : Int) (u : Tok) (c0 : (decide (x < -(2 ^ 63)) || decide (x ≥ 2 ^ 63)) = false) :
    Meets (Builtin.«tuple.__mul__» ⟨[.ref l, .int x u], []⟩) (fun _ R s => s.heap.get? l = some { cls := .type "tuple", dict := dd, data := .seq #[] n, slots := sl } ∧
      R (.ok (.ret (Value.ref l))) s) :=
  .of_wp fun prog w A R s h => by
    obtain ⟨hp, g, d, tk, os⟩ := s
    obtain ⟨hl, h⟩ := h
    have f1 := AutoSeq1.idx_int
    have ht : ∀ (A : Around) (E : Value → Shared → Prop) (Q : Value → Shared → Prop), Q (.type "tuple") ⟨hp, g, d, tk, os⟩ → wpAny (model prog w) A (typeOf (.ref l)) Q E ⟨hp, g, d, tk, os⟩ := fun A E Q q => wpAny_typeOf_ref hl q
    wp_walk using AutoSeq1.wpAny_loadPart' hl, ht _ _ _
    repeat (first
      | (refine wpAny_ite_false (decide_eq_false (by rw [c0]; exact Bool.false_ne_true)) ?_; wp_walk using AutoSeq1.wpAny_loadPart' hl, ht _ _ _)
      | (refine wpAny_ite_true (decide_eq_true rfl) ?_; wp_walk using AutoSeq1.wpAny_loadPart' hl, ht _ _ _))
    exact ⟨_, rfl, h⟩
/-- t * k, t perhaps empty (then t itself) -/
def rRepA (K : PySem.W.Frag) : R2 := fun x y H Q => ∃ l k xs, x = .ref l ∧ y = .int k ∧ SqT K H l xs ∧ 2 ≤ k ∧ k ≤ 1000 ∧ xs.length ≤ 1000 ∧ (xs = [] → Q (.ref l) H) ∧ (xs ≠ [] → ∀ p, H p = none → Q (.ref p) (upd H p (.tup (List.replicate k.toNat xs).flatten)))
theorem op_repA : OpR X (binaryOp .Mult) (rRepA X.K) := by
  intro pins s σ H x y v u Q I rx ry h
  obtain ⟨l, k, xs, rfl, rfl, hT, h1, h2, hz, q0, q1⟩ := h
  by_cases hx : xs = []
  · subst hx
    cases rx
    obtain ⟨t, rfl⟩ := ry
    obtain ⟨its, r, ⟨⟨cls, dd, data, sl⟩, ho, hc, n, hd⟩, hs⟩ := I.tuple hT
    cases r
    simp only at hc hd
    subst hc hd
    have c0 : (decide (k < -(2 ^ 63)) || decide (k ≥ 2 ^ 63)) = false := by
      rw [decide_eq_false (by omega), decide_eq_false (by omega)] <;> rfl
    exact wpAny_binaryOp_repeat_ref (T := "tuple") (U := "int") (by decide) ⟨_, ho, rfl⟩ (fun s' => typeIs_int s' k t) noFill_tuple_mul F.fills_int_mul F.slot_int_rmul repeat_tuple F.slot_int_index.lookup
      (call_meets F.slot_int_rmul (typeIs_int s k t) F.entry_int_rmul (F.args_int_rmul_2 _ _) (int_rmul_tuple k t l ([] : List Value).toArray n dd sl)
        ⟨ho, rfl, ⟨_, ho, rfl⟩, call_meets F.slot_tuple_mul ⟨_, ho, rfl⟩ F.entry_tuple_mul (F.args_tuple_mul_2 _ _) (tuple_mul0 l n dd sl k t c0) ⟨ho, ⟨.ref l, H, I, rfl, q0 rfl⟩⟩⟩)
  · exact op_repT pins s σ H _ _ v u Q I rx ry ⟨l, k, xs, rfl, rfl, hT, hx, h1, h2, hz, q1 hx⟩
/-- xs != ys, both of the very same things -/
def rNeS (K : PySem.W.Frag) : R2 := fun x y H Q => ∃ p q xs, x = .ref p ∧ y = .ref q ∧ SqL K H p xs ∧ SqL K H q xs ∧ (∀ z, z ∈ xs → flatV z = true ∨ ∃ a, z = .ref a) ∧ Q (.bl false) H
theorem op_ne_same {k : Nat} (hr : Room k X.A) : OpR X (compareOp .NotEq) (rNeS X.K) := by
  intro pins s σ H x y v u Q I rx ry h
  obtain ⟨p, q, xs, rfl, rfl, hx, hy, hf, qq⟩ := h
  cases rx
  cases ry
  obtain ⟨its, r, pl, hz⟩ := I.list hx
  obtain ⟨its2, r2, pl2, hz2⟩ := I.list hy
  have hu : X.A.units < cLine := hr.units0
  have l1 := r.length
  have l2 := r2.length
  have e : (!(List.range its.toArray.size).all fun _ => true) = false := by simp
  have := SeqAt.RcNeAt.lists (A := X.A) (e := fun _ => true) pl.isList pl2.isList (by simp only [List.size_toArray]; omega) hu (fun j h1 h2 => by
    have hj1 : j < its.length := by simpa using h1
    have hj2 : j < its2.length := by simpa using h2
    have hx : xs[j]? = some xs[j] := List.getElem?_eq_getElem (by omega)
    obtain ⟨u1, hu1, ru1⟩ := r.get hx
    obtain ⟨u2, hu2, ru2⟩ := r2.get hx
    have e1 : its.toArray[j] = u1 := by
      have := (List.getElem?_eq_some_iff.mp hu1).2
      simpa using this
    have e2 : its2.toArray[j] = u2 := by
      have := (List.getElem?_eq_some_iff.mp hu2).2
      simpa using this
    rw [e1, e2]
    rcases hf _ (List.mem_of_getElem? hx) with f | ⟨a, ea⟩
    · have := eqAt_V (A := X.A.in1) (s := s) ru1 ru2 f f
      have er : eqV xs[j] xs[j] = true := by
        revert f
        cases xs[j] <;> simp [flatV, eqV]
      rw [er] at this
      exact this
    · rw [ea] at ru1 ru2
      obtain rfl : u1 = Value.ref a := ru1
      obtain rfl : u2 = Value.ref a := ru2
      exact SeqAt.EqAt.same _)
  rw [e] at this
  exact this _ _ _ _ ⟨.bl _, H, I, rfl, qq⟩
end
end L2
end

section
set_option Elab.async false
set_option linter.all false
set_option maxRecDepth 100000
set_option maxHeartbeats 4000000
namespace K28
open PySem PySem.Spec PyProof.Rows L2 He Cn Evl
/-! ### tuples, wherever they stand -/
/-- what evaluates to a tuple of these -/
def ET (K : PySem.W.Frag) (te : TE) (σ : L2.St) (H : Hp) (xs : List V) : Prop := ∀ H1, Ex H H1 → ∀ Q : VK, (∀ p H2, Ex H1 H2 → SqT K H2 p xs → Q (.ref p) H2) → te σ H1 Q
section
variable {K : PySem.W.Frag} {σ : L2.St} {H : Hp} {te ta tb : TE} {xs ys : List V}
theorem et_of {p : Addr} (h : Ev te σ H (.ref p)) (hs : SqT K H p xs) : ET K te σ H xs := fun H1 e Q q => h H1 e _ fun H2 e2 => q p H2 e2 (ex_t (e.trans e2) hs)
theorem et_disp {tr : TA} {vs : List V} (h : EvA tr σ H vs) (hl : vs.length ≤ 100000) : ET K (tTup tr) σ H vs := fun H1 e Q q => eu_tup h hl H1 e _ fun p H2 _ e2 h2 => q p H2 e2 (st_of h2)
theorem cut_whole {lo hi : Option Int} (h : HT.sIx xs.length 0 lo = 0 ∧ HT.sIx xs.length xs.length hi = xs.length) : cutV xs lo hi = xs := by
  unfold cutV
  rw [h.1, h.2, List.drop_zero, Nat.sub_zero, List.take_length]
theorem et_slice {tl th : TO} {lo hi : Option Int} (h : ET K te σ H xs) (h1 : EvO tl σ H lo) (h2 : EvO th σ H hi) : ET K (tSl (rSlA K) te tl th) σ H (cutV xs lo hi) := fun H1 e Q q =>
  h H1 e _ fun p H2 e2 hs => h1 H2 (e.trans e2) _ fun H3 e3 => h2 H3 ((e.trans e2).trans e3) _ fun H4 e4 => ⟨p, xs, rfl, ex_t (e3.trans e4) hs, fun hw => by
    have := q p H4 ((e2.trans e3).trans e4) (by rw [cut_whole hw]; exact ex_t (e3.trans e4) hs)
    exact this, fun _ l hl => q l _ (((e2.trans e3).trans e4).trans (Ex.new hl)) (st_of upd_same)⟩
theorem et_catT (ha : ET K ta σ H xs) (hb : ET K tb σ H ys) (hz : xs.length + ys.length ≤ 100000) : ET K (tOp (rCatA K) ta tb) σ H (xs ++ ys) := fun H1 e Q q =>
  ha H1 e _ fun p H2 e2 h2 => hb H2 (e.trans e2) _ fun p2 H3 e3 h3 => ⟨p, p2, xs, ys, rfl, rfl, ex_t e3 h2, h3, sz_of hz, fun hx => by
    subst hx
    exact q p2 H3 (e2.trans e3) h3, fun _ hy => by
    subst hy
    have := q p H3 (e2.trans e3) (by rw [List.append_nil]; exact ex_t e3 h2)
    exact this, fun _ _ l hl => q l _ ((e2.trans e3).trans (Ex.new hl)) (st_of upd_same)⟩
theorem et_two (ha : ET K ta σ H xs) (hz : xs.length ≤ 1000) : ET K (tOp (rRepA K) ta (tC (.int 2))) σ H (xs ++ xs) := fun H1 e Q q =>
  ha H1 e _ fun p H2 e2 h2 => ⟨p, 2, xs, rfl, rfl, h2, by decide, by decide, hz, fun hx => by
    subst hx
    exact q p H2 e2 h2, fun _ l hl => q l _ (e2.trans (Ex.new hl)) (st_of (by
      rw [upd_same]
      show some (HO.tup (List.replicate 2 xs).flatten) = _
      simp [List.replicate]))⟩
theorem et_rev (ha : ET K ta σ H xs) : ET K (tRevT K ta) σ H xs.reverse := fun H1 e Q q =>
  ha H1 e _ fun p H2 e2 h2 => ⟨p, xs, rfl, h2, fun l hl => q l _ (e2.trans (Ex.new hl)) (st_of upd_same)⟩
theorem et_mono {H' : Hp} (e : Ex H H') (h : ET K te σ H xs) : ET K te σ H' xs := fun H1 e1 Q q => h H1 (e.trans e1) Q q
/-- two items at once -/
theorem ea_consT {tr : TA} (h : ET K te σ H xs) {R : List V → Hp → Prop} (hr : ∀ p H1, Ex H H1 → SqT K H1 p xs → ∀ H2, Ex H1 H2 → ∀ Q : List V → Hp → Prop, (∀ vs H3, Ex H2 H3 → R (.ref p :: vs) H3 → Q vs H3) → tr σ H2 Q) :
    ∀ H1, Ex H H1 → ∀ Q : List V → Hp → Prop, (∀ vs H2, Ex H1 H2 → R vs H2 → Q vs H2) → (tCons te tr) σ H1 Q := fun H1 e Q q =>
  h H1 e _ fun p H2 e2 hp => hr p H2 (e.trans e2) hp H2 (Ex.refl H2) _ fun vs H3 e3 r => q _ H3 (e2.trans e3) r
theorem sqt_fr2 {dm gm c : Addr} {sp : Int} {H' : Hp} {p : Addr} (M : MAt H dm c gm sp) (f : Fr2 dm gm H H') (h : SqT K H p xs) : SqT K H' p xs := by
  rcases h with h | h
  · obtain ⟨gs, _, q5⟩ := M.great
    rcases h with h | ⟨o, h⟩
    · exact .inl (.inl (f _ _ h (ne_of h M.ob (by intro z; cases z)) (ne_of h q5 (by intro z; cases z))))
    · exact .inl (.inr ⟨o, f _ _ h (ne_of h M.ob (by intro z; cases z)) (ne_of h q5 (by intro z; cases z))⟩)
  · exact .inr h
end
/-- a list of tuples -/
structure RwT (K : PySem.W.Frag) (H : Hp) (p : Addr) (prs : List (Addr × List V)) : Prop where
  l : H p = some (.lst (refs (prs.map Prod.fst)))
  t : ∀ x, x ∈ prs → SqT K H x.1 x.2
theorem RwT.ex {K : PySem.W.Frag} {H H' : Hp} {p : Addr} {prs : List (Addr × List V)} (e : Ex H H') (h : RwT K H p prs) : RwT K H' p prs := ⟨e _ _ h.l, fun x hx => ex_t e (h.t x hx)⟩
theorem RwT.fr {K : PySem.W.Frag} {H H' : Hp} {p dm c gm : Addr} {sp : Int} {prs : List (Addr × List V)} (M : MAt H dm c gm sp) (f : Fr2 dm gm H H') (h1 : p ≠ dm) (h2 : p ≠ gm) (h : RwT K H p prs) : RwT K H' p prs :=
  ⟨f _ _ h.l h1 h2, fun x hx => sqt_fr2 M f (h.t x hx)⟩
def oddT : List Str := ["none", "text", "tuple", "list", "number", "foreign"]
/-- an item of a ring of numbers and texts -/
inductive ItP (many : Nat) : V → Prop where
  | num (n : Nat) (h : n < many) : ItP many (.int (n : Int))
  | txt (z : Str) (h : z ∈ oddT) : ItP many (.str z)
theorem ItP.pt {many : Nat} {x : V} (h : ItP many x) : PtV x := by
  cases h with
  | num n _ => exact .num n
  | txt z _ => exact .txt z
def OkR (many len : Nat) (xs : List V) : Prop := xs.length ≤ len ∧ ∀ x, x ∈ xs → ItP many x
theorem okr_nts {many len : Nat} {ns : List Nat} (h1 : ns.length ≤ len) (h2 : ∀ y, y ∈ ns → y < many) : OkR many len (nts ns) := ⟨by rw [nts_len]; exact h1, fun x hx => by
  obtain ⟨n, hn, rfl⟩ := mem_nts hx
  exact .num n (h2 n hn)⟩
theorem okr_cut {many len : Nat} {xs : List V} {lo hi : Option Int} (h : OkR many len xs) : OkR many len (cutV xs lo hi) := ⟨Nat.le_trans (cutV_length _ _ _) h.1, fun x hx => h.2 x (cut_mem hx)⟩
section
variable {P : Program} {w : World} {K : PySem.W.Frag} {mg : Str → Option Value} {base : Heap}
theorem lay_nts : ∀ ns : List Nat, PyData.canLayAll0 (ns.map fun (n : Nat) => PyData.int (n : Int)) = true
  | [] => rfl
  | n :: ns => by
    simp only [List.map_cons, PyData.canLayAll0, PyData.canLay0, Bool.true_and]
    exact lay_nts ns
theorem dep_nts : ∀ ns : List Nat, PyData.depthAll (ns.map fun (n : Nat) => PyData.int (n : Int)) = 0
  | [] => rfl
  | n :: ns => by
    simp only [List.map_cons, PyData.depthAll, PyData.depth, dep_nts ns, Nat.max_self]
theorem sh_nts (ns : List Nat) : SeqAt.shaped (.tuple (ns.map fun (n : Nat) => PyData.int (n : Int))) = true := by
  have h2 : PyData.depth (.tuple (ns.map fun (n : Nat) => PyData.int (n : Int))) ≤ 64 := by
    simp only [PyData.depth, dep_nts]
    omega
  show (PyData.canLay0 (.tuple (ns.map fun (n : Nat) => PyData.int (n : Int))) && decide (PyData.depth (.tuple (ns.map fun (n : Nat) => PyData.int (n : Int))) ≤ 64)) = true
  rw [Bool.and_eq_true]
  exact ⟨by simp only [PyData.canLay0]; exact lay_nts ns, decide_eq_true h2⟩
def spRings (K : PySem.W.Frag) : Sp := fun vs H Q _ => ∃ (dm c gm p : Addr) (sp : Int) (rows : List (List Nat)) (many : Nat) (G : Hp), vs = [.ref dm, .ref p, .int (many : Int)] ∧ MAt H dm c gm sp ∧ 0 ≤ sp ∧ sp < 200000 ∧ Ex G H ∧ G dm = none ∧ G gm = none ∧ RwI K G p rows ∧ rows.length ≤ 40 ∧
  (∀ r, r ∈ rows → r.length ≤ 40 ∧ ∀ y, y ∈ r → y < many) ∧ 0 < many ∧ many ≤ 20 ∧
  ∀ (pf : Addr) (prs : List (Addr × List V)) (sp' : Int) (H' : Hp), H pf = none → RwT K H' pf prs → prs.length ≤ 16 → (∀ x, x ∈ prs → OkR many 8 x.2) → sp ≤ sp' → sp' ≤ sp + 100 → MAt H' dm c gm sp' → Fr2 dm gm H H' → Q (.ref pf) H'
/-- path[:-1] of the slot 5 -/
def tCut5 (K : PySem.W.Frag) : TE := tSl (rSlA K) (tVar 5) tNoPart (tPart (tUn (rU fun i => .int (-i)) (tC (.int 1))))
theorem et_cut5 {σ : L2.St} {H : Hp} {t : Addr} {xs : List V} (v5 : σ[5]? = some (some (.ref t))) (h : SqT K H t xs) : ET K (tCut5 K) σ H (cutV xs none (some (-1))) := et_slice (et_of (ev_var v5) h) eo_none (eo_some (ev_un ev_c ru_neg))
theorem ev_lastT {σ : L2.St} {H : Hp} {t : Addr} {xs : List V} (v5 : σ[5]? = some (some (.ref t))) (hS : SqT K H t xs) (h : 0 < xs.length) : Ev (tOp (rIxT K) (tVar 5) (tUn (rU fun i => .int (-i)) (tC (.int 1)))) σ H (prevAt xs 0) :=
  ev_op (ev_var v5) (ev_un ev_c ru_neg) (rv_ixT hS (prev_at (i := 0) h))
theorem ev_opT {σ : L2.St} {H : Hp} {ta tb : TE} {r : R2} {x z : V} {xs : List V} (ha : Ev ta σ H x) (hb : ET K tb σ H xs) (hr : ∀ p H1, SqT K H1 p xs → Ex H H1 → RV r x (.ref p) H1 z) : Ev (tOp r ta tb) σ H z := fun H1 e Q q =>
  ha H1 e _ fun H2 e2 => hb H2 (e.trans e2) _ fun p H3 e3 hp => hr p H3 hp ((e.trans e2).trans e3) H3 (Ex.refl _) _ fun H4 e4 => q H4 ((e2.trans e3).trans e4)
theorem flat_all_nts {xs : List V} {ns : List Nat} (h : ∀ x, x ∈ xs → x ∈ nts ns) : xs.all flatV = true := by
  rw [List.all_eq_true]
  intro x hx
  obtain ⟨y, _, rfl⟩ := mem_nts (h x hx)
  rfl
theorem can_rings (T : Txt K mg) : Can P w K mg base CX0 4 "_law_rings" ["m", "rows", "many"] (spRings K) := by
  have CW : Can P w K mg base CX0 3 "_law_walked" ["m", "rows", "size"] (spWalked K) := can_walked T
  have CD : Can P w K mg base CX0 2 "_law_draw" ["m", "top"] spDraw := can_draw T
  refine can_of T.g__law_rings T.F__law_rings (fun fd F => ?_) (fun _ _ _ _ _ _ us hl => match us, hl with | [_, _, _], _ => rfl)
  refine F.ok sc__law_rings (fun vs H Q E h => ?_) (fun cdv A outer s H vs Q E hr h => ?_)
  · obtain ⟨dm, c, gm, p, sp, rows, many, G, rfl, _⟩ := h
    rfl
  · obtain ⟨dm, c, gm, p, sp, rows, many, G, rfl, M, s0, s1, eG, gd, gg, R, hz, hrow, m0, m20, fin⟩ := h
    have nd := sc__law_rings.nd
    refine ⟨_, pss_cons (ps_set (i := 3) nd rfl (.inl rfl) (pe_lst pa_nil))
      (pss_cons (ps_for PassesOwn.never rfl (pi_range1 rfl T.n_range (pa_cons pe_int pa_nil)) (pg_name (i := 4) nd rfl (.inl rfl))
        (pss_cons (ps_set (i := 5) nd rfl (.inl rfl) (pe_can CW hr pass0 (pa_cons (pv 0) (pa_cons (pv 1) (pa_cons (pe_op op_add pe_int (pe_can CD hr pass0 (pa_cons (pv 0) (pa_cons pe_int pa_nil)))) pa_nil)))))
        (pss_cons (ps_set (i := 3) nd rfl (.inl rfl) (pe_op op_cat (pv 3) (pe_lst (pa_cons (pv 5) (pa_cons (pe_slice sl_tupA (pv 5) po_none (po_some (pe_un un_neg pe_int))) pa_nil)))))
        (pss_one (ps_if (PW.pt (pw_and (pt_cmpR (op_neD hr.units) (pv 5) (pe_tup pa_nil) (nomark _)) (pw_and1 (pt_cmpR op_in_seq (pe_ix ix_tup (pv 5) (pe_un un_neg pe_int) (fun _ _ => rfl)) (pe_slice sl_tupA (pv 5) po_none (po_some (pe_un un_neg pe_int))) rfl))))
          (pss_one (ps_expr (pe_bm PySem.F.plainAttrs_list PySem.F.slot_list_append PySem.F.type_list_append mt_append (pv 3) (pa_cons (pe_slice sl_tupA (pv 5) (po_some (pe_bmD PySem.F.slot_tuple_index PySem.F.type_tuple_index mt_tindexF (pv 5) (pa_cons (pe_ix ix_tup (pv 5) (pe_un un_neg pe_int) (fun _ _ => rfl)) pa_nil))) (po_some (pe_un un_neg pe_int))) pa_nil)))) pss_nil)))))
      (pss_one (ps_ret (pe_op op_cat (pv 3) (pe_lst (pa_cons (pe_callTy call_tuple_of (by rfl) T.n_tuple (by decide +kernel) (pa_cons (pe_lc (own := [("n", 6)]) (wi := iRng1 (tCons (tCall spDraw [] E0 (tCons (tVar 0) (tCons (tC (.int 4)) tNil))) tNil)) (g := gName 6) (tt := tYes) (te := tCall spDraw [] E0 (tCons (tVar 0) (tCons (tVar 2) tNil))) rfl nd (pi_range1 rfl T.n_range (pa_cons (pe_can CD hr pass0 (pa_cons (pv 0) (pa_cons pe_int pa_nil))) pa_nil)) (blkOk_by (N := ["m", "rows", "many", "found", "turn", "path", "n"]) (sc := defScope s__law_rings) (by decide +kernel)) (fun _ _ _ _ _ => pg_name (i := 6) nd rfl (.inl rfl)) (fun _ _ _ _ _ => pts_nil) (fun _ _ _ _ _ => pe_can CD hr pass0 (pa_cons (pv 0) (pa_cons (pv 2) pa_nil)))) pa_nil)) pa_nil)))))), ?_⟩
    refine q_asgL (el_lst ea_nil (by decide)) fun pf0 H1 hpf0 e1 h1 => ?_
    refine q_forR1 (n := 5) (ea_cons ev_c ea_nil) ⟨by decide, by decide⟩ (fun i σ H' => ∃ (v4 v5 : Option V) (pf : Addr) (prs : List (Addr × List V)) (sp' : Int), σ = [some (.ref dm), some (.ref p), some (.int (many : Int)), some (.ref pf), v4, v5, none] ∧ H pf = none ∧ RwT K H' pf prs ∧ prs.length ≤ 3 * i ∧ (∀ x, x ∈ prs → OkR many 7 x.2) ∧ sp ≤ sp' ∧ sp' ≤ sp + 10 * (i : Int) ∧ MAt H' dm c gm sp' ∧ Fr2 dm gm H H') ?_ ?_ ?_
    · intro H2 e2
      exact ⟨none, none, pf0, [], sp, rfl, hpf0, ⟨e2 _ _ h1, fun x hx => by cases hx⟩, Nat.zero_le _, (fun x hx => by cases hx), by omega, by omega, mat_ex (e1.trans e2) M, fr2_ex (e1.trans e2)⟩
    · rintro i σ H2 hi ⟨v4, v5, pf, prs, sp', rfl, hpf, RT, hl, hok, a1, a2, M2, f2⟩
      have hi5 : i < 5 := by omega
      have pf1 := M.dm_ne hpf
      have pf2 := M.gm_ne hpf
      have pf3 := M.c_ne hpf
      -- path
      refine ⟨_, rfl, _, rfl, _, rfl, dm, c, gm, sp', 6, rfl, M2, by omega, by omega, by decide, by decide, fun r H3 hr0 hr1 M3 f3 => ⟨2, r, rfl, rfl, ?_⟩⟩
      have f23 : Fr2 dm gm H H3 := f2.trans f3
      obtain ⟨j, rfl⟩ : ∃ j : Nat, r = (j : Int) := ⟨r.toNat, by omega⟩
      refine ⟨dm, c, gm, p, sp' + 1, rows, many, 2 + j, G, (by show [V.ref dm, .ref p, V.int ((2 : Int) + (j : Int))] = _; rw [show (2 : Int) + (j : Int) = ((2 + j : Nat) : Int) by omega]), M3, by omega, by omega, f23.g eG gd gg, gd, gg, R, hz, hrow, by omega, fun t o ns sp2 H4 ho ht htn hnl hnm b1 b2 M4 f4 => ?_⟩
      have f34 : Fr2 dm gm H2 H4 := Fr2.trans f3 f4
      have RT4 := RT.fr M2 f34 pf1 pf2
      have hT : SqT K H4 t (nts ns) := .inl (.inr ⟨o, ht⟩)
      have hD : SqD K H4 t (nts ns) := SqD.of ht ho
      -- found + [path, path[:-1]]
      refine ⟨_, rfl, _, rfl, ?_⟩
      refine et_cut5 (K := K) (σ := [some (.ref dm), some (.ref p), some (.int (many : Int)), some (.ref pf), some (.int ((0 : Int) + (i : Int))), some (.ref t), none]) rfl hT H4 (Ex.refl _) _ fun t2 H5 e5 ht2 => ⟨by show 2 ≤ sizeLine; decide, fun l2 hl2 => ?_⟩
      have e56 : Ex H5 (upd H5 l2 (.lst [.ref t, .ref t2])) := Ex.new hl2
      refine ⟨pf, l2, _, _, rfl, rfl, e56 _ _ (e5 _ _ RT4.l), upd_same, sz_of (by unfold refs; rw [List.length_map, List.length_map]; show _ + 2 ≤ _; omega), fun pn hpn => ?_⟩
      have e57 : Ex H5 (upd (upd H5 l2 (.lst [.ref t, .ref t2])) pn (.lst (refs (prs.map Prod.fst) ++ [.ref t, .ref t2]))) := e56.trans (Ex.new hpn)
      have hpnl := (upd_same : upd (upd H5 l2 (.lst [.ref t, .ref t2])) pn (.lst (refs (prs.map Prod.fst) ++ [.ref t, .ref t2])) pn = _)
      generalize hH7 : upd (upd H5 l2 (.lst [.ref t, .ref t2])) pn (.lst (refs (prs.map Prod.fst) ++ [.ref t, .ref t2])) = H7 at *
      have e47 := e5.trans e57
      have f47 : Fr2 dm gm H H7 := (f23.trans f4).trans (fr2_ex e47)
      have M7 := mat_ex e47 M4
      have hpn5 : H5 pn = none := fresh_back e56 hpn
      have hpn4 : H4 pn = none := fresh_back e5 hpn5
      have hpnH : H pn = none := fresh_m M4 (f23.trans f4) hpn4
      have pn1 := M.dm_ne hpnH
      have pn2 := M.gm_ne hpnH
      have pn3 := M.c_ne hpnH
      have RT7 : RwT K H7 pn (prs ++ [(t, nts ns), (t2, cutV (nts ns) none (some (-1)))]) := by
        refine ⟨by rw [hpnl]; unfold refs; simp, fun x hx => ?_⟩
        rcases List.mem_append.mp hx with hx | hx
        · exact ex_t e47 (RT4.t x hx)
        · rcases List.mem_cons.mp hx with hx | hx
          · subst hx; exact ex_t e47 hT
          · obtain rfl := List.mem_singleton.mp hx
            exact ex_t e57 ht2
      have hn7 : OkR many 7 (nts ns) := okr_nts (by omega) hnm
      have hok7 : ∀ x, x ∈ prs ++ [(t, nts ns), (t2, cutV (nts ns) none (some (-1)))] → OkR many 7 x.2 := fun x hx => by
        rcases List.mem_append.mp hx with hx | hx
        · exact hok x hx
        · rcases List.mem_cons.mp hx with hx | hx
          · subst hx; exact hn7
          · obtain rfl := List.mem_singleton.mp hx
            exact okr_cut hn7
      have hT7 := ex_t e47 hT
      have posOf : (!(nts ns).isEmpty) = true → 0 < (nts ns).length := fun h => by
        cases hq : nts ns with
        | nil => rw [hq] at h; cases h
        | cons a r => exact Nat.succ_pos _
      dsimp only [gName]
      refine s_when (b := !(nts ns).isEmpty && inV (prevAt (nts ns) 0) (cutV (nts ns) none (some (-1)))) (et_and (a := !(nts ns).isEmpty) ?_ fun hne => ?_) (fun hb H8 e8 => ?_) fun hb H8 e8 => ?_
      · refine et_test (ev_opU (z := .bl (!(nts ns).isEmpty)) (x := .ref t) (ev_var rfl) (eu_tup ea_nil (by decide)) fun q H8 hq e8 => fun H9 e9 Q k => ?_)
        refine ⟨.tuple (ns.map fun (n : Nat) => PyData.int (n : Int)), .tuple [], .tup (ex_t (e8.trans e9) hT7) (dp_nts _), .tup (st_of (e9 _ _ hq)) .nil, ?_, rfl, ?_⟩
        · show SeqAt.shaped (.tuple (ns.map fun (n : Nat) => PyData.int (n : Int))) = true
          exact sh_nts ns
        · have : PyData.eqv (.tuple (ns.map fun (n : Nat) => PyData.int (n : Int))) (.tuple []) = (nts ns).isEmpty := by cases ns <;> rfl
          rw [this]
          exact k H9 (Ex.refl _)
      · have hpos := posOf hne
        obtain ⟨z, hzm, ez⟩ := mem_nts (prev_mem (xs := nts ns) (i := 0) hpos)
        exact et_test (ev_opT (K := K) (ev_lastT rfl hT7 hpos) (et_cut5 (K := K) rfl hT7) fun q H8 hq e8 => rv_isT hq (by rw [ez]; rfl) (flat_all_nts fun x hx => cut_mem hx))
      · obtain ⟨hne, _⟩ := He.ba hb
        have hpos := posOf hne
        have hpm := prev_mem (xs := nts ns) (i := 0) hpos
        obtain ⟨z, hzm, ez⟩ := mem_nts hpm
        have hT8 := ex_t e8 hT7
        have hidx : EvO (tPart (tBMD K (rIndexT K) (tVar 5) (tCons (tOp (rIxT K) (tVar 5) (tUn (rU fun i => .int (-i)) (tC (.int 1)))) tNil))) [some (.ref dm), some (.ref p), some (.int (many : Int)), some (.ref pn), some (.int ((0 : Int) + (i : Int))), some (.ref t), none] H8 (some (((nts ns).idxOf (prevAt (nts ns) 0) : Nat) : Int)) := eo_some fun H9 e9 Q k =>
          ⟨_, rfl, ⟨t, _, rfl, hD.ex (e47.trans (e8.trans e9))⟩, ev_lastT rfl (ex_t e9 hT8) hpos H9 (Ex.refl _) _ fun H10 e10 => ⟨t, nts ns, prevAt (nts ns) 0, (nts ns).idxOf (prevAt (nts ns) 0), prevAt (nts ns) 0, rfl, rfl, ex_t (e9.trans e10) hT8, by rw [ez]; rfl, flat_nts ns, ix_hit hpm, by rw [ez]; simp [eqV], fun m z' hm hz' => by
            have ne := ix_miss hm hz'
            obtain ⟨n', _, rfl⟩ := mem_nts (List.mem_of_getElem? hz')
            rw [ez] at ne ⊢
            show ((n' : Int) == (z : Int)) = false
            have : ¬ (n' : Int) = (z : Int) := fun q => ne (by rw [q])
            simpa using this, k H10 e10⟩⟩
        refine ⟨_, rfl, .inl ⟨rfl, _, sq_of (e8 _ _ RT7.l)⟩, ?_⟩
        refine et_slice (K := K) (te := tVar 5) (th := tPart (tUn (rU fun i => .int (-i)) (tC (.int 1)))) (hi := some (-1)) (et_of (ev_var rfl) hT8) hidx (eo_some (ev_un ev_c ru_neg)) H8 (Ex.refl _) _ fun t3 H9 e9 ht3 => ?_
        have e79 := e8.trans e9
        refine ⟨pn, _, _, rfl, rfl, e79 _ _ RT7.l, sz_lt (by unfold refs; rw [List.length_map, List.length_map, List.length_append]; show _ + 2 < _; omega), _, _, pn, prs ++ [(t, nts ns), (t2, cutV (nts ns) none (some (-1)))] ++ [(t3, cutV (nts ns) (some (((nts ns).idxOf (prevAt (nts ns) 0) : Nat) : Int)) (some (-1)))], sp2, rfl, hpnH, ⟨by rw [upd_same]; unfold refs; simp, fun x hx => ?_⟩, by rw [List.length_append, List.length_append]; show _ + 2 + 1 ≤ _; omega, fun x hx => ?_, by omega, by omega, (mat_ex e79 M7).mut pn1 pn2 pn3, (f47.trans (fr2_ex e79)).mut hpnH⟩
        · have keep : ∀ {q : Addr} {ys : List V}, SqT K H9 q ys → SqT K (upd H9 pn (.lst (refs ((prs ++ [(t, nts ns), (t2, cutV (nts ns) none (some (-1)))]).map Prod.fst) ++ [.ref t3]))) q ys := fun {q ys} h => by
            have h9 := e79 _ _ RT7.l
            rcases h with h | h
            · rcases h with h | ⟨o, h⟩
              · exact .inl (.inl (by rw [upd_ne (ne_of h h9 (by intro z; cases z))]; exact h))
              · exact .inl (.inr ⟨o, by rw [upd_ne (ne_of h h9 (by intro z; cases z))]; exact h⟩)
            · exact .inr h
          rcases List.mem_append.mp hx with hx | hx
          · exact keep (ex_t e79 (RT7.t x hx))
          · obtain rfl := List.mem_singleton.mp hx
            exact keep ht3
        · rcases List.mem_append.mp hx with hx | hx
          · exact hok7 x hx
          · obtain rfl := List.mem_singleton.mp hx
            exact okr_cut hn7
      · exact ⟨_, _, pn, _, sp2, rfl, hpnH, RT7.ex e8, by rw [List.length_append]; show _ + 2 ≤ _; omega, hok7, by omega, by omega, mat_ex e8 M7, f47.trans (fr2_ex e8)⟩
    · rintro σ H2 ⟨v4, v5, pf, prs, sp', rfl, hpf, RT, hl, hok, a1, a2, M2, f2⟩
      have hl : prs.length ≤ 15 := hl
      have a2 : sp' ≤ sp + 50 := by
        have : sp' ≤ sp + 10 * (((5 : Int).toNat : Nat) : Int) := a2
        omega
      have pf1 := M.dm_ne hpf
      have pf2 := M.gm_ne hpf
      refine ⟨_, rfl, ?_⟩
      -- tuple([draw ..])
      refine ⟨_, rfl, dm, c, gm, sp', 4, rfl, M2, by omega, by omega, by decide, by decide, fun r H3 hr0 hr1 M3 f3 => ⟨r, rfl, by omega, by omega, fun Dl hD => ?_⟩⟩
      have f23 : Fr2 dm gm H H3 := f2.trans f3
      have hDH := fresh_m M3 f23 hD
      have D1 := M.dm_ne hDH
      have D2 := M.gm_ne hDH
      have D3 := M.c_ne hDH
      have RT3 := RT.fr M2 f3 pf1 pf2
      refine lc_range (lo := 0) (n := r.toNat) (fun i H' => ∃ ns : List Nat, H' Dl = some (.lst (nts ns)) ∧ ns.length ≤ i ∧ (∀ y, y ∈ ns → y < many) ∧ MAt H' dm c gm (sp' + 1 + (i : Int)) ∧ Fr2 dm gm H3 H') ⟨[], upd_same, Nat.zero_le _, (fun y hy => by cases hy), by
        have := M3.mut (o := .lst []) D1 D2 D3
        rw [show sp' + 1 + ((0 : Nat) : Int) = sp' + 1 by omega]
        exact this, fr2_ex (Ex.new hD)⟩ (fun i H4 hi ⟨ns, h4, hnl, hnm, M4, f4⟩ => ?_) (fun H4 ⟨ns, h4, hnl, hnm, M4, f4⟩ => ?_)
      · refine ⟨rfl, yes_then ?_⟩
        refine ⟨_, rfl, _, rfl, dm, c, gm, sp' + 1 + (i : Int), (many : Int), rfl, M4, by omega, by omega, by omega, by omega, fun y H5 hy0 hy1 M5 f5 => ?_⟩
        obtain ⟨z, rfl⟩ : ∃ z : Nat, y = (z : Int) := ⟨y.toNat, by omega⟩
        have h5 := f5 _ _ h4 D1 D2
        refine ⟨nts ns, h5, sz_lt (by rw [nts_len]; omega), ns ++ [z], by rw [upd_same]; unfold nts; simp, by rw [List.length_append]; show _ + 1 ≤ _; omega, fun q hq => ?_, ?_, ?_⟩
        · rcases List.mem_append.mp hq with hq | hq
          · exact hnm q hq
          · obtain rfl := List.mem_singleton.mp hq
            omega
        · rw [show sp' + 1 + ((i + 1 : Nat) : Int) = sp' + 1 + (i : Int) + 1 by omega]
          exact M5.mut D1 D2 D3
        · exact (f4.trans f5).mut hD
      · -- the end
        have f34 : Fr2 dm gm H H4 := f23.trans f4
        have RT4 := RT3.fr M3 f4 pf1 pf2
        refine ⟨Dl, nts ns, rfl, .inl ⟨sq_of h4, fun tt htt => ?_⟩⟩
        have e5 : Ex H4 (upd H4 tt (.tup (nts ns))) := Ex.new htt
        refine ⟨by show 1 ≤ sizeLine; decide, fun l2 hl2 => ?_⟩
        have e6 : Ex (upd H4 tt (.tup (nts ns))) (upd (upd H4 tt (.tup (nts ns))) l2 (.lst [.ref tt])) := Ex.new hl2
        refine ⟨pf, l2, _, _, rfl, rfl, (e5.trans e6) _ _ RT4.l, upd_same, sz_of (by unfold refs; rw [List.length_map, List.length_map]; show _ + 1 ≤ _; omega), fun pn hpn => ?_⟩
        have e7 : Ex (upd (upd H4 tt (.tup (nts ns))) l2 (.lst [.ref tt])) (upd (upd (upd H4 tt (.tup (nts ns))) l2 (.lst [.ref tt])) pn (.lst (refs (prs.map Prod.fst) ++ [.ref tt]))) := Ex.new hpn
        have e47 := (e5.trans e6).trans e7
        have hpn4 : H4 pn = none := fresh_back (e5.trans e6) hpn
        refine fin pn (prs ++ [(tt, nts ns)]) (sp' + 1 + (r.toNat : Int)) _ (fresh_m M4 f34 hpn4) ⟨by rw [upd_same]; unfold refs; simp, fun x hx => ?_⟩ (by rw [List.length_append]; show _ + 1 ≤ _; omega) (fun x hx => ?_) (by omega) (by omega) (mat_ex e47 M4) (f34.trans (fr2_ex e47))
        · rcases List.mem_append.mp hx with hx | hx
          · exact ex_t e47 (RT4.t x hx)
          · obtain rfl := List.mem_singleton.mp hx
            exact st_of ((e6.trans e7) _ _ upd_same)
        · rcases List.mem_append.mp hx with hx | hx
          · exact ⟨Nat.le_trans (hok x hx).1 (by decide), (hok x hx).2⟩
          · obtain rfl := List.mem_singleton.mp hx
            exact okr_nts (by omega) hnm
end
end K28
end

section
set_option Elab.async false
set_option linter.all false
set_option maxRecDepth 100000
set_option maxHeartbeats 4000000
namespace K28
open PySem PySem.Spec PyProof.Rows L2 He Cn Evl
/-- arguments that are tuples -/
def EAT (K : PySem.W.Frag) (ta : TA) (σ : L2.St) (H : Hp) (yss : List (List V)) : Prop := ∀ H1, Ex H H1 → ∀ Q : List V → Hp → Prop, (∀ (prs : List (Addr × List V)) H2, Ex H1 H2 → prs.map Prod.snd = yss → (∀ x, x ∈ prs → SqT K H2 x.1 x.2) → Q (refs (prs.map Prod.fst)) H2) → ta σ H1 Q
theorem eat_nil {K : PySem.W.Frag} {σ : L2.St} {H : Hp} : EAT K tNil σ H [] := fun H1 e Q q => q [] H1 (Ex.refl _) rfl fun x hx => by cases hx
theorem eat_cons {K : PySem.W.Frag} {σ : L2.St} {H : Hp} {te : TE} {tr : TA} {xs : List V} {yss : List (List V)} (h : ET K te σ H xs) (hr : EAT K tr σ H yss) : EAT K (tCons te tr) σ H (xs :: yss) := fun H1 e Q q =>
  h H1 e _ fun p H2 e2 hp => hr H2 (e.trans e2) _ fun prs H3 e3 hs hq => q ((p, xs) :: prs) H3 (e2.trans e3) (by rw [List.map_cons, hs]) fun x hx => by
    rcases List.mem_cons.mp hx with hx | hx
    · subst hx
      exact ex_t e3 hp
    · exact hq x hx
/-- a list of tuples, new -/
theorem elt_of {K : PySem.W.Frag} {σ : L2.St} {H : Hp} {tr : TA} {yss : List (List V)} (h : EAT K tr σ H yss) (hl : yss.length ≤ 100000) : ∀ H1, Ex H H1 → ∀ Q : VK, (∀ p prs H2, H1 p = none → Ex H1 H2 → prs.map Prod.snd = yss → RwT K H2 p prs → Q (.ref p) H2) → tLst tr σ H1 Q := fun H1 e Q q =>
  h H1 e _ fun prs H2 e2 hs hq => ⟨by unfold refs; rw [List.length_map, List.length_map, ← List.length_map (f := Prod.snd), hs]; exact sz_of hl, fun p hp => q p prs _ (fresh_back e2 hp) (e2.trans (Ex.new hp)) hs ⟨upd_same, fun x hx => ex_t (Ex.new hp) (hq x hx)⟩⟩
section
variable {many len l2 : Nat} {xs ys : List V}
theorem okr_cat (h1 : OkR many len xs) (h2 : OkR many l2 ys) : OkR many (len + l2) (xs ++ ys) := ⟨by rw [List.length_append]; have := h1.1; have := h2.1; omega, fun x hx => by
  rcases List.mem_append.mp hx with hx | hx
  · exact h1.2 x hx
  · exact h2.2 x hx⟩
theorem okr_rev (h : OkR many len xs) : OkR many len xs.reverse := ⟨by rw [List.length_reverse]; exact h.1, fun x hx => h.2 x (List.mem_reverse.mp hx)⟩
theorem okr_one {v : V} (h : ItP many v) : OkR many 1 [v] := ⟨Nat.le_refl _, fun x hx => by obtain rfl := List.mem_singleton.mp hx; exact h⟩
theorem OkR.le (h : OkR many len xs) (h2 : len ≤ l2) : OkR many l2 xs := ⟨Nat.le_trans h.1 h2, h.2⟩
end
section
variable {P : Program} {w : World} {K : PySem.W.Frag} {mg : Str → Option Value} {base : Heap}
def spBent (K : PySem.W.Frag) : Sp := fun vs H Q _ => ∃ (dm c gm t : Addr) (sp : Int) (many : Nat) (xs : List V), vs = [.ref dm, .ref t, .int (many : Int)] ∧ MAt H dm c gm sp ∧ 0 ≤ sp ∧ sp < 300000 ∧ SqT K H t xs ∧ OkR many 40 xs ∧ 0 < many ∧ many ≤ 20 ∧
  ∀ (r : Addr) (ys : List V) (sp' : Int) (H' : Hp), SqT K H' r ys → OkR many 200 ys → sp ≤ sp' → sp' ≤ sp + 5 → MAt H' dm c gm sp' → Fr2 dm gm H H' → Q (.ref r) H'
abbrev sl1 (K : PySem.W.Frag) (tl th : TO) : TE := tSl (rSlA K) (tVar 1) tl th
abbrev tAt1 : TE := tOp (rI0 fun i j => .int (i + j)) (tVar 3) (tC (.int 1))
abbrev tOne : TE := tTup (tCons (tVar 4) tNil)
def tA1 (K : PySem.W.Frag) : TE := tOp (rCatA K) (sl1 K tNoPart (tPart (tVar 3))) (sl1 K (tPart tAt1) tNoPart)
def tA2 (K : PySem.W.Frag) : TE := tOp (rCatA K) (tOp (rCatA K) (sl1 K tNoPart (tPart (tVar 3))) tOne) (sl1 K (tPart (tVar 3)) tNoPart)
def tA3 (K : PySem.W.Frag) : TE := tOp (rCatA K) (tOp (rCatA K) (sl1 K tNoPart (tPart (tVar 3))) tOne) (sl1 K (tPart tAt1) tNoPart)
def tB2 (K : PySem.W.Frag) : TE := tOp (rCatA K) (sl1 K (tPart (tC (.int 1))) tNoPart) (sl1 K tNoPart (tPart (tC (.int 1))))
def tB3 (K : PySem.W.Frag) : TE := tOp (rCatA K) (tOp (rCatA K) (sl1 K tNoPart (tPart (tVar 3))) (tOp (rRepA K) (sl1 K (tPart (tVar 3)) (tPart tAt1)) (tC (.int 2)))) (sl1 K (tPart tAt1) tNoPart)
def tA (K : PySem.W.Frag) : TA := tCons (tA1 K) (tCons (tA2 K) (tCons (tA3 K) (tCons (tRevT K (tVar 1)) tNil)))
def tBB (K : PySem.W.Frag) : TA := tCons (tOp (rCatA K) (tVar 1) (tVar 1)) (tCons (tB2 K) (tCons (tB3 K) tNil))
section
variable {σ : L2.St} {H : Hp} {t : Addr} {xs : List V} {a many : Nat} {v : V}
def Six (K : PySem.W.Frag) (σ : L2.St) (H : Hp) (te : TE) (many : Nat) : Prop := ∃ ys, ET K te σ H ys ∧ OkR many 200 ys
theorem cat_ok {ta tb : TE} {ys zs : List V} {l1 l2 : Nat} (h1 : ET K ta σ H ys) (h2 : ET K tb σ H zs) (k1 : OkR many l1 ys) (k2 : OkR many l2 zs) (hl : l1 + l2 ≤ 200) : ET K (tOp (rCatA K) ta tb) σ H (ys ++ zs) := et_catT h1 h2 (by have := k1.1; have := k2.1; omega)
theorem p1 {tl th : TO} {lo hi : Option Int} (v1 : σ[1]? = some (some (.ref t))) (hT : SqT K H t xs) (h1 : EvO tl σ H lo) (h2 : EvO th σ H hi) : ET K (tSl (rSlA K) (tVar 1) tl th) σ H (cutV xs lo hi) := et_slice (et_of (ev_var v1) hT) h1 h2
theorem eo_at (v3 : σ[3]? = some (some (.int (a : Int)))) : EvO (tPart (tVar 3)) σ H (some (a : Int)) := eo_some (ev_var v3)
theorem eo_at1 (v3 : σ[3]? = some (some (.int (a : Int)))) : EvO (tPart tAt1) σ H (some ((a : Int) + 1)) := eo_some (ev_op (ev_var v3) ev_c rv_I0)
theorem one_ok (v4 : σ[4]? = some (some v)) : ET K tOne σ H [v] := et_disp (ea_cons (ev_var v4) ea_nil) (by show 1 ≤ 100000; decide)
theorem six_A1 (v1 : σ[1]? = some (some (.ref t))) (v3 : σ[3]? = some (some (.int (a : Int)))) (hT : SqT K H t xs) (hok : OkR many 40 xs) : Six K σ H (tA1 K) many :=
  ⟨_, cat_ok (l1 := 40) (l2 := 40) (p1 v1 hT eo_none (eo_at v3)) (p1 v1 hT (eo_at1 v3) eo_none) (okr_cut hok) (okr_cut hok) (by decide), (okr_cat (okr_cut hok) (okr_cut hok)).le (by decide)⟩
theorem six_A2 (v1 : σ[1]? = some (some (.ref t))) (v3 : σ[3]? = some (some (.int (a : Int)))) (v4 : σ[4]? = some (some v)) (hv : ItP many v) (hT : SqT K H t xs) (hok : OkR many 40 xs) : Six K σ H (tA2 K) many :=
  ⟨_, cat_ok (l1 := 41) (l2 := 40) (cat_ok (l1 := 40) (l2 := 1) (p1 v1 hT eo_none (eo_at v3)) (one_ok v4) (okr_cut hok) (okr_one hv) (by decide)) (p1 v1 hT (eo_at v3) eo_none) (okr_cat (okr_cut hok) (okr_one hv)) (okr_cut hok) (by decide), (okr_cat (okr_cat (okr_cut hok) (okr_one hv)) (okr_cut hok)).le (by decide)⟩
theorem six_A3 (v1 : σ[1]? = some (some (.ref t))) (v3 : σ[3]? = some (some (.int (a : Int)))) (v4 : σ[4]? = some (some v)) (hv : ItP many v) (hT : SqT K H t xs) (hok : OkR many 40 xs) : Six K σ H (tA3 K) many :=
  ⟨_, cat_ok (l1 := 41) (l2 := 40) (cat_ok (l1 := 40) (l2 := 1) (p1 v1 hT eo_none (eo_at v3)) (one_ok v4) (okr_cut hok) (okr_one hv) (by decide)) (p1 v1 hT (eo_at1 v3) eo_none) (okr_cat (okr_cut hok) (okr_one hv)) (okr_cut hok) (by decide), (okr_cat (okr_cat (okr_cut hok) (okr_one hv)) (okr_cut hok)).le (by decide)⟩
theorem six_B2 (v1 : σ[1]? = some (some (.ref t))) (hT : SqT K H t xs) (hok : OkR many 40 xs) : Six K σ H (tB2 K) many :=
  ⟨_, cat_ok (l1 := 40) (l2 := 40) (p1 v1 hT (eo_some ev_c) eo_none) (p1 v1 hT eo_none (eo_some ev_c)) (okr_cut hok) (okr_cut hok) (by decide), (okr_cat (okr_cut hok) (okr_cut hok)).le (by decide)⟩
theorem six_B3 (v1 : σ[1]? = some (some (.ref t))) (v3 : σ[3]? = some (some (.int (a : Int)))) (hT : SqT K H t xs) (hok : OkR many 40 xs) : Six K σ H (tB3 K) many :=
  ⟨_, cat_ok (l1 := 120) (l2 := 40) (cat_ok (l1 := 40) (l2 := 80) (p1 v1 hT eo_none (eo_at v3)) (et_two (p1 v1 hT (eo_at v3) (eo_at1 v3)) (by have := (okr_cut (lo := some (a : Int)) (hi := some ((a : Int) + 1)) hok).1; omega)) (okr_cut hok) (okr_cat (okr_cut hok) (okr_cut hok)) (by decide)) (p1 v1 hT (eo_at1 v3) eo_none) (okr_cat (okr_cut hok) (okr_cat (okr_cut hok) (okr_cut hok))) (okr_cut hok) (by decide), (okr_cat (okr_cat (okr_cut hok) (okr_cat (okr_cut hok) (okr_cut hok))) (okr_cut hok)).le (by decide)⟩
/-- the seven, four and three -/
theorem eat_A (v1 : σ[1]? = some (some (.ref t))) (v3 : σ[3]? = some (some (.int (a : Int)))) (v4 : σ[4]? = some (some v)) (hv : ItP many v) (hT : SqT K H t xs) (hok : OkR many 40 xs) : ∃ yss, EAT K (tA K) σ H yss ∧ yss.length = 4 ∧ ∀ y, y ∈ yss → OkR many 200 y := by
  obtain ⟨y1, h1, k1⟩ := six_A1 (K := K) v1 v3 hT hok
  obtain ⟨y2, h2, k2⟩ := six_A2 (K := K) v1 v3 v4 hv hT hok
  obtain ⟨y3, h3, k3⟩ := six_A3 (K := K) v1 v3 v4 hv hT hok
  refine ⟨[y1, y2, y3, xs.reverse], eat_cons h1 (eat_cons h2 (eat_cons h3 (eat_cons (et_rev (et_of (ev_var v1) hT)) eat_nil))), rfl, fun y hy => ?_⟩
  simp only [List.mem_cons, List.not_mem_nil, or_false] at hy
  rcases hy with e | e | e | e <;> rw [e]
  · exact k1
  · exact k2
  · exact k3
  · exact (okr_rev hok).le (by decide)
theorem eat_B (v1 : σ[1]? = some (some (.ref t))) (v3 : σ[3]? = some (some (.int (a : Int)))) (hT : SqT K H t xs) (hok : OkR many 40 xs) : ∃ yss, EAT K (tBB K) σ H yss ∧ yss.length = 3 ∧ ∀ y, y ∈ yss → OkR many 200 y := by
  obtain ⟨y2, h2, k2⟩ := six_B2 (K := K) v1 hT hok
  obtain ⟨y3, h3, k3⟩ := six_B3 (K := K) v1 v3 hT hok
  refine ⟨[xs ++ xs, y2, y3], eat_cons (cat_ok (l1 := 40) (l2 := 40) (et_of (ev_var v1) hT) (et_of (ev_var v1) hT) hok hok (by decide)) (eat_cons h2 (eat_cons h3 eat_nil)), rfl, fun y hy => ?_⟩
  simp only [List.mem_cons, List.not_mem_nil, or_false] at hy
  rcases hy with e | e | e <;> rw [e]
  · exact (okr_cat hok hok).le (by decide)
  · exact k2
  · exact k3
end
theorem q_asgE {te : TE} {g : TG} {tz : TS} {D : Ends} {σ : L2.St} {H : Hp} (h : te σ H fun v H1 => g v σ H1 fun σ2 H2 => tz D σ2 H2) : tSeq (tAsg te g) tz D σ H := h
theorem can_bent (T : Txt K mg) : Can P w K mg base CX0 3 "_law_bent" ["m", "path", "many"] (spBent K) := by
  have CD : Can P w K mg base CX0 2 "_law_draw" ["m", "top"] spDraw := can_draw T
  refine can_of T.g__law_bent T.F__law_bent (fun fd F => ?_) (fun _ _ _ _ _ _ us hl => match us, hl with | [_, _, _], _ => rfl)
  refine F.ok sc__law_bent (fun vs H Q E h => ?_) (fun cdv A outer s H vs Q E hr h => ?_)
  · obtain ⟨dm, c, gm, t, sp, many, xs, rfl, _⟩ := h
    rfl
  · obtain ⟨dm, c, gm, t, sp, many, xs, rfl, M, s0, s1, hT, hok, m0, m20, fin⟩ := h
    have nd := sc__law_bent.nd
    refine ⟨_, pss_cons (ps_set (i := 3) nd rfl (.inl rfl) (pe_can CD hr pass0 (pa_cons (pv 0) (pa_cons (pe_op op_add (pe_callB call_len_seq (by rfl) T.n_len PySem.boot_len (pa_cons (pv 1) pa_nil)) pe_int) pa_nil))))
      (pss_cons (ps_set (i := 4) nd rfl (.inl rfl) (pe_lst (pa_cons pe_str (pa_cons pe_str (pa_cons pe_str (pa_cons pe_str (pa_cons pe_str (pa_cons pe_str (pa_cons (pe_can CD hr pass0 (pa_cons (pv 0) (pa_cons (pv 2) pa_nil))) (pa_cons (pe_can CD hr pass0 (pa_cons (pv 0) (pa_cons (pv 2) pa_nil))) pa_nil))))))))))
      (pss_cons (ps_set (i := 4) nd rfl (.inl rfl) (pe_ix ix_list (pv 4) (pe_can CD hr pass0 (pa_cons (pv 0) (pa_cons pe_int pa_nil))) (fun _ _ => rfl)))
      (pss_cons (ps_set (i := 5) nd rfl (.inl rfl) (pe_lst (pa_cons (pe_op op_catA (pe_slice sl_tupA (pv 1) po_none (po_some (pv 3))) (pe_slice sl_tupA (pv 1) (po_some (pe_op op_add (pv 3) pe_int)) po_none))
        (pa_cons (pe_op op_catA (pe_op op_catA (pe_slice sl_tupA (pv 1) po_none (po_some (pv 3))) (pe_tup (pa_cons (pv 4) pa_nil))) (pe_slice sl_tupA (pv 1) (po_some (pv 3)) po_none))
        (pa_cons (pe_op op_catA (pe_op op_catA (pe_slice sl_tupA (pv 1) po_none (po_some (pv 3))) (pe_tup (pa_cons (pv 4) pa_nil))) (pe_slice sl_tupA (pv 1) (po_some (pe_op op_add (pv 3) pe_int)) po_none))
        (pa_cons (pe_revT (pv 1)) pa_nil))))))
      (pss_one (ps_ret (pe_ix ix_list (pe_op op_cat (pv 5) (pe_lst (pa_cons (pe_op op_catA (pv 1) (pv 1))
        (pa_cons (pe_op op_catA (pe_slice sl_tupA (pv 1) (po_some pe_int) po_none) (pe_slice sl_tupA (pv 1) po_none (po_some pe_int)))
        (pa_cons (pe_op op_catA (pe_op op_catA (pe_slice sl_tupA (pv 1) po_none (po_some (pv 3))) (pe_op op_repA (pe_slice sl_tupA (pv 1) (po_some (pv 3)) (po_some (pe_op op_add (pv 3) pe_int))) pe_int)) (pe_slice sl_tupA (pv 1) (po_some (pe_op op_add (pv 3) pe_int)) po_none)) pa_nil))))) (pe_can CD hr pass0 (pa_cons (pv 0) (pa_cons pe_int pa_nil))) (fun _ _ => rfl))))))), ?_⟩
    have hxl := hok.1
    -- at
    refine ⟨_, rfl, _, rfl, t, xs, rfl, .inr hT, _, _, rfl, rfl, ?_⟩
    refine ⟨dm, c, gm, sp, (xs.length : Int) + 1, rfl, M, by omega, by omega, by omega, by omega, fun a H1 ha0 ha1 M1 f1 => ?_⟩
    -- odd
    have hT1 := sqt_fr2 M f1 hT
    refine ⟨_, rfl, _, rfl, dm, c, gm, sp + 1, (many : Int), rfl, M1, by omega, by omega, by omega, by omega, fun b1 H2 hb0 hb1 M2 f2 => ?_⟩
    refine ⟨_, rfl, _, rfl, dm, c, gm, sp + 1 + 1, (many : Int), rfl, M2, by omega, by omega, by omega, by omega, fun b2 H3 hc0 hc1 M3 f3 => ?_⟩
    refine ⟨by show 8 ≤ sizeLine; decide, fun p4 hp4 => ?_⟩
    have e3 : Ex H3 (upd H3 p4 (.lst [.str "none", .str "text", .str "tuple", .str "list", .str "number", .str "foreign", .int b1, .int b2])) := Ex.new hp4
    have h4 := (upd_same : upd H3 p4 (.lst [.str "none", .str "text", .str "tuple", .str "list", .str "number", .str "foreign", .int b1, .int b2]) p4 = _)
    generalize hH4 : upd H3 p4 (.lst [.str "none", .str "text", .str "tuple", .str "list", .str "number", .str "foreign", .int b1, .int b2]) = H4 at *
    have f04 : Fr2 dm gm H H4 := ((Fr2.trans f1 f2).trans f3).trans (fr2_ex e3)
    have M4 := mat_ex e3 M3
    have hp4H : H p4 = none := fresh_m M3 ((Fr2.trans f1 f2).trans f3) hp4
    have p41 := M.dm_ne hp4H
    have p42 := M.gm_ne hp4H
    refine ⟨_, rfl, _, rfl, dm, c, gm, sp + 1 + 1 + 1, 8, rfl, M4, by omega, by omega, by decide, by decide, fun j H5 hj0 hj1 M5 f5 => ?_⟩
    obtain ⟨j, rfl⟩ : ∃ z : Nat, j = (z : Int) := ⟨j.toNat, by omega⟩
    obtain ⟨b1, rfl⟩ : ∃ z : Nat, b1 = (z : Int) := ⟨b1.toNat, by omega⟩
    obtain ⟨b2, rfl⟩ : ∃ z : Nat, b2 = (z : Int) := ⟨b2.toNat, by omega⟩
    obtain ⟨a, rfl⟩ : ∃ z : Nat, a = (z : Int) := ⟨a.toNat, by omega⟩
    have h45 := f5 _ _ h4 p41 p42
    obtain ⟨v, hv, hvi⟩ : ∃ v, ([.str "none", .str "text", .str "tuple", .str "list", .str "number", .str "foreign", .int (b1 : Int), .int (b2 : Int)] : List V)[j]? = some v ∧ ItP many v := by
      have i1 : ItP many (.int (b1 : Int)) := .num b1 (by omega)
      have i2 : ItP many (.int (b2 : Int)) := .num b2 (by omega)
      match j, (by omega : j < 8) with
      | 0, _ => exact ⟨_, rfl, .txt _ (by simp [oddT])⟩
      | 1, _ => exact ⟨_, rfl, .txt _ (by simp [oddT])⟩
      | 2, _ => exact ⟨_, rfl, .txt _ (by simp [oddT])⟩
      | 3, _ => exact ⟨_, rfl, .txt _ (by simp [oddT])⟩
      | 4, _ => exact ⟨_, rfl, .txt _ (by simp [oddT])⟩
      | 5, _ => exact ⟨_, rfl, .txt _ (by simp [oddT])⟩
      | 6, _ => exact ⟨_, rfl, i1⟩
      | 7, _ => exact ⟨_, rfl, i2⟩
    refine ⟨p4, _, (j : Int), v, rfl, rfl, sq_of h45, at_of rfl hv, ?_⟩
    have f05 : Fr2 dm gm H H5 := f04.trans f5
    have hT5 := sqt_fr2 M f05 hT
    -- some
    obtain ⟨yA, hA, lA, kA⟩ := eat_A (K := K) (σ := [some (.ref dm), some (.ref t), some (.int (many : Int)), some (.int (a : Int)), some v, none]) rfl rfl rfl hvi hT5 hok
    dsimp only [gName]
    refine q_asgE ?_
    refine elt_of hA (by omega) H5 (Ex.refl _) _ fun ps prs H6 hps e6 hsnd R6 => ?_
    obtain ⟨yB, hB, lB, kB⟩ := eat_B (K := K) (σ := [some (.ref dm), some (.ref t), some (.int (many : Int)), some (.int (a : Int)), some v, some (.ref ps)]) (a := a) rfl rfl (ex_t e6 hT5) hok
    refine ⟨_, rfl, ?_⟩
    dsimp only [gName]
    refine elt_of hB (by omega) H6 (Ex.refl _) _ fun pb prs2 H7 hpb e7 hsnd2 R7 => ?_
    have R67 := R6.ex e7
    have l1 : prs.length = 4 := by
      have := congrArg List.length hsnd
      rw [List.length_map] at this
      omega
    have l2 : prs2.length = 3 := by
      have := congrArg List.length hsnd2
      rw [List.length_map] at this
      omega
    refine ⟨ps, pb, _, _, rfl, rfl, R67.l, R7.l, sz_of (by unfold refs; rw [List.length_map, List.length_map, List.length_map, List.length_map, l1, l2]; decide), fun pn hpn => ?_⟩
    have e8 : Ex H7 (upd H7 pn (.lst (refs (prs.map Prod.fst) ++ refs (prs2.map Prod.fst)))) := Ex.new hpn
    have R8 : RwT K (upd H7 pn (.lst (refs (prs.map Prod.fst) ++ refs (prs2.map Prod.fst)))) pn (prs ++ prs2) := ⟨by rw [upd_same]; unfold refs; simp, fun x hx => by
      rcases List.mem_append.mp hx with hx | hx
      · exact ex_t e8 (R67.t x hx)
      · exact ex_t e8 (R7.t x hx)⟩
    generalize hH8 : upd H7 pn (.lst (refs (prs.map Prod.fst) ++ refs (prs2.map Prod.fst))) = H8 at *
    have e58 := (e6.trans e7).trans e8
    have f08 : Fr2 dm gm H H8 := f05.trans (fr2_ex e58)
    have M8 := mat_ex e58 M5
    have hpnH : H pn = none := fresh_m M5 f05 (fresh_back (e6.trans e7) hpn)
    have pn1 := M.dm_ne hpnH
    have pn2 := M.gm_ne hpnH
    refine ⟨_, rfl, dm, c, gm, sp + 1 + 1 + 1 + 1, 7, rfl, M8, by omega, by omega, by decide, by decide, fun q H9 hq0 hq1 M9 f9 => ?_⟩
    obtain ⟨q, rfl⟩ : ∃ z : Nat, q = (z : Int) := ⟨q.toNat, by omega⟩
    have R9 := R8.fr M8 f9 pn1 pn2
    obtain ⟨pr, hpr⟩ := at_some (l := prs ++ prs2) (i := q) (by rw [List.length_append]; omega)
    have hprm := List.mem_of_getElem? hpr
    have hall : ∀ x, x ∈ prs ++ prs2 → OkR many 200 x.2 := fun x hx => by
      have hx2 : x.2 ∈ (prs ++ prs2).map Prod.snd := List.mem_map_of_mem hx
      rw [List.map_append, hsnd, hsnd2] at hx2
      rcases List.mem_append.mp hx2 with h | h
      · exact kA _ h
      · exact kB _ h
    refine ⟨pn, _, (q : Int), .ref pr.1, rfl, rfl, sq_of R9.l, at_of rfl (at_refs (by rw [List.getElem?_map, hpr]; rfl)), ?_⟩
    exact fin pr.1 pr.2 (sp + 1 + 1 + 1 + 1 + 1) H9 (R9.t pr hprm) (hall pr hprm) (by omega) (by omega) M9 (f08.trans f9)
end
end K28
end

section
set_option Elab.async false
set_option linter.all false
set_option maxRecDepth 100000
set_option maxHeartbeats 4000000
namespace K28
open PySem PySem.Spec PyProof.Rows L2 He Cn Evl
/-! ### the real ring -/
def rho (ka : List Addr) (tu li fo : Addr) : V → V
  | .int i => .ref (kf ka i.toNat)
  | .str z => if z = "none" then .non else if z = "text" then .str "K0" else if z = "tuple" then .ref tu else if z = "list" then .ref li else if z = "number" then .int 5 else .ref fo
  | v => v
def oddK (tu li fo : Addr) : List (L2.Key × V) := [(.inr "none", .non), (.inr "text", .str "K0"), (.inr "tuple", .ref tu), (.inr "list", .ref li), (.inr "number", .int 5), (.inr "foreign", .ref fo)]
theorem rne {x y : Str} (h : ¬ x = y) : ¬ (Sum.inr x : L2.Key) = Sum.inr y := fun q => h (by injection q)
theorem s01 : ¬ ("none" : Str) = "text" := by decide +kernel
theorem s02 : ¬ ("none" : Str) = "tuple" := by decide +kernel
theorem s03 : ¬ ("none" : Str) = "list" := by decide +kernel
theorem s04 : ¬ ("none" : Str) = "number" := by decide +kernel
theorem s05 : ¬ ("none" : Str) = "foreign" := by decide +kernel
theorem s12 : ¬ ("text" : Str) = "tuple" := by decide +kernel
theorem s13 : ¬ ("text" : Str) = "list" := by decide +kernel
theorem s14 : ¬ ("text" : Str) = "number" := by decide +kernel
theorem s15 : ¬ ("text" : Str) = "foreign" := by decide +kernel
theorem s23 : ¬ ("tuple" : Str) = "list" := by decide +kernel
theorem s24 : ¬ ("tuple" : Str) = "number" := by decide +kernel
theorem s25 : ¬ ("tuple" : Str) = "foreign" := by decide +kernel
theorem s34 : ¬ ("list" : Str) = "number" := by decide +kernel
theorem s35 : ¬ ("list" : Str) = "foreign" := by decide +kernel
theorem s45 : ¬ ("number" : Str) = "foreign" := by decide +kernel
theorem odd_merge {tu li fo : Addr} : mergeK [] (oddK tu li fo) = oddK tu li fo := by
  unfold oddK mergeK
  simp [putK, s01, s02, s03, s04, s05, s12, s13, s14, s15, s23, s24, s25, s34, s35, s45]
theorem odd_get {ka : List Addr} {tu li fo : Addr} {z : Str} (h : z ∈ oddT) : valV (oddK tu li fo) (.inr z) = some (rho ka tu li fo (.str z)) := by
  unfold oddT at h
  simp only [List.mem_cons, List.not_mem_nil, or_false] at h
  rcases h with e | e | e | e | e | e <;> subst e
  · exact valV_pos rfl
  · refine (valV_neg (rne s01)).trans ((valV_pos rfl).trans ?_)
    simp [rho, Ne.symm s01, Ne.symm s02, Ne.symm s03, Ne.symm s04, Ne.symm s05, Ne.symm s12, Ne.symm s13, Ne.symm s14, Ne.symm s15, Ne.symm s23, Ne.symm s24, Ne.symm s25, Ne.symm s34, Ne.symm s35, Ne.symm s45]
  · refine (valV_neg (rne s02)).trans ((valV_neg (rne s12)).trans ((valV_pos rfl).trans ?_))
    simp [rho, Ne.symm s01, Ne.symm s02, Ne.symm s03, Ne.symm s04, Ne.symm s05, Ne.symm s12, Ne.symm s13, Ne.symm s14, Ne.symm s15, Ne.symm s23, Ne.symm s24, Ne.symm s25, Ne.symm s34, Ne.symm s35, Ne.symm s45]
  · refine (valV_neg (rne s03)).trans ((valV_neg (rne s13)).trans ((valV_neg (rne s23)).trans ((valV_pos rfl).trans ?_)))
    simp [rho, Ne.symm s01, Ne.symm s02, Ne.symm s03, Ne.symm s04, Ne.symm s05, Ne.symm s12, Ne.symm s13, Ne.symm s14, Ne.symm s15, Ne.symm s23, Ne.symm s24, Ne.symm s25, Ne.symm s34, Ne.symm s35, Ne.symm s45]
  · refine (valV_neg (rne s04)).trans ((valV_neg (rne s14)).trans ((valV_neg (rne s24)).trans ((valV_neg (rne s34)).trans ((valV_pos rfl).trans ?_))))
    simp [rho, Ne.symm s01, Ne.symm s02, Ne.symm s03, Ne.symm s04, Ne.symm s05, Ne.symm s12, Ne.symm s13, Ne.symm s14, Ne.symm s15, Ne.symm s23, Ne.symm s24, Ne.symm s25, Ne.symm s34, Ne.symm s35, Ne.symm s45]
  · refine (valV_neg (rne s05)).trans ((valV_neg (rne s15)).trans ((valV_neg (rne s25)).trans ((valV_neg (rne s35)).trans ((valV_neg (rne s45)).trans ((valV_pos rfl).trans ?_)))))
    simp [rho, Ne.symm s01, Ne.symm s02, Ne.symm s03, Ne.symm s04, Ne.symm s05, Ne.symm s12, Ne.symm s13, Ne.symm s14, Ne.symm s15, Ne.symm s23, Ne.symm s24, Ne.symm s25, Ne.symm s34, Ne.symm s35, Ne.symm s45]
theorem good_K0 : goodName ("K0" : Str) = true := by decide +kernel
theorem ev_dgetS {σ : L2.St} {H : Hp} {td ty : TE} {d : Addr} {z : Str} {kvs : List (L2.Key × V)} {v : V} (ha : Ev td σ H (.ref d)) (hk : Ev ty σ H (.str z)) (hd : H d = some (.dK kvs)) (hv : valV kvs (.inr z) = some v) : Ev (tDGet td ty) σ H v := ev_dget (k := .inr z) ha hk hd hv
section
variable {P : Program} {w : World} {K : PySem.W.Frag} {mg : Str → Option Value} {base : Heap}
def spReal (K : PySem.W.Frag) : Sp := fun vs H Q _ => ∃ (mk t : Addr) (ka : List Addr) (xs : List V), vs = [.ref mk, .ref t] ∧ H mk = some (.lst (refs ka)) ∧ SqT K H t xs ∧ OkR ka.length 200 xs ∧
  ∀ (r tu li fo : Addr) (H' : Hp), Ex H H' → H r = none → H' r = some (.tup (xs.map (rho ka tu li fo))) → H' tu = some (.tup []) → H' li = some (.lst []) → KO (kC K) H' fo → H fo = none → Q (.ref r) H'
theorem ev_isI {σ : L2.St} {H : Hp} {b : Bool} {v : V} (v4 : σ[4]? = some (some v)) (h : (b = true ∧ ∃ i, v = .int i) ∨ (b = false ∧ ∃ z, v = .str z)) : EvT (tB (tCB (rIsi K) (tCons (tVar 4) (tCons (tC (.ty "int")) tNil)))) σ H b :=
  et_B (ev_cb (ea_cons (ev_var v4) (ea_cons ev_c ea_nil)) fun H1 e Q q => by
    rcases h with ⟨rfl, i, rfl⟩ | ⟨rfl, z, rfl⟩
    · exact ⟨.int i, .ty "int", .type "int", .type "int", true, rfl, .ty _, .base (.int i), kit_ty (by decide +kernel), q H1 (Ex.refl H1)⟩
    · exact ⟨.str z, .ty "int", .type "str", .type "int", false, rfl, .ty _, .base (.str z), kit_ty (by decide +kernel), q H1 (Ex.refl H1)⟩)
theorem can_real (T : Txt K mg) : Can P w K mg base CX0 8 "_law_real" ["made", "path"] (spReal K) := by
  have FI := fnr_init (P := P) (w := w) (base := base) T
  refine can_of T.g__law_real T.F__law_real (fun fd F => ?_) (fun _ _ _ _ _ _ us hl => match us, hl with | [_, _], _ => rfl)
  refine F.ok sc__law_real (fun vs H Q E h => ?_) (fun cdv A outer s H vs Q E hr h => ?_)
  · obtain ⟨mk, t, ka, xs, rfl, _⟩ := h
    rfl
  · obtain ⟨mk, t, ka, xs, rfl, hmk, hT, hok, fin⟩ := h
    have nd := sc__law_real.nd
    have hu := hu_of hr
    refine ⟨_, pss_cons (ps_set (i := 2) nd rfl (.inl rfl) (pe_disp (pps_cons pe_str pe_non (pps_cons pe_str pe_str (pps_cons pe_str (pe_tup pa_nil) (pps_cons pe_str (pe_lst pa_nil) (pps_cons pe_str pe_int (pps_cons pe_str (StX.pe_makeR T.kmk FI (hr.mono (by decide)) rfl T.g_Kind pass_no (pa_cons pe_str pa_nil)) pps_nil)))))) (by rfl) (by rfl) (fun z => by cases z) (by decide)))
      (pss_cons (ps_set (i := 3) nd rfl (.inl rfl) (pe_lst pa_nil))
      (pss_cons (ps_for PassesOwn.never rfl (pi_tup (pv 1)) (pg_name (i := 4) nd rfl (.inl rfl))
        (pss_one (ps_expr (pe_bm PySem.F.plainAttrs_list PySem.F.slot_list_append PySem.F.type_list_append mt_append (pv 3) (pa_cons (pe_ifExp (pt_val (pe_callB call_isi (by rfl) T.n_isinstance (by decide +kernel) (pa_cons (pv 4) (pa_cons (pe_bltn rfl T.n_int (v := .ty "int") (by decide +kernel) rfl) pa_nil)))) (pe_ix ix_list (pv 0) (pv 4) (fun _ _ => rfl)) (pe_dget hu (pv 2) (pv 4) (fun _ _ => rfl))) pa_nil)))))
      (pss_one (ps_ret (pe_callTy call_tuple_of (by rfl) T.n_tuple (by decide +kernel) (pa_cons (pv 3) pa_nil)))))), ?_⟩
    -- odd
    intro d hd
    refine ⟨by show 0 ≤ sizeLine; decide, fun tu htu => ⟨by show 0 ≤ sizeLine; decide, fun li hli => fun fo dx hfo hdx hne => ⟨fo, dx, "K0", rfl, good_K0, upd_same, fun H5 M5 f5 => ⟨rfl, ?_⟩⟩⟩⟩
    have e1 : Ex H (upd H d (.dK [])) := Ex.new hd
    have e2 : Ex (upd H d (.dK [])) (upd (upd H d (.dK [])) tu (.tup [])) := Ex.new htu
    have e3 : Ex (upd (upd H d (.dK [])) tu (.tup [])) (upd (upd (upd H d (.dK [])) tu (.tup [])) li (.lst [])) := Ex.new hli
    have htuH := fresh_back e1 htu
    have hliH := fresh_back (e1.trans e2) hli
    have e03 := (e1.trans e2).trans e3
    have hfoH := fresh_back e03 hfo
    have h3d : upd (upd (upd H d (.dK [])) tu (.tup [])) li (.lst []) d = some (.dK []) := (e2.trans e3) _ _ upd_same
    have h3t : upd (upd (upd H d (.dK [])) tu (.tup [])) li (.lst []) tu = some (.tup []) := e3 _ _ upd_same
    have h3l : upd (upd (upd H d (.dK [])) tu (.tup [])) li (.lst []) li = some (.lst []) := upd_same
    generalize hH3 : upd (upd (upd H d (.dK [])) tu (.tup [])) li (.lst []) = H3 at *
    have e35 : Ex H3 H5 := fun b o h => f5 b o (by rw [upd_ne (ne_of_none h hfo), upd_ne (ne_of_none h hdx)]; exact h) (ne_of_none h hfo)
    refine ⟨e35 _ _ h3d, oddK tu li fo, rfl, by show 6 ≤ 15; decide, ?_⟩
    rw [odd_merge]
    have e05 := e03.trans e35
    have e06 : Ex H (upd H5 d (.dK (oddK tu li fo))) := Ex.mut e05 hd
    have h6t : upd H5 d (.dK (oddK tu li fo)) tu = some (.tup []) := by rw [upd_ne (ne_of h3t h3d (by intro z; cases z))]; exact e35 _ _ h3t
    have h6l : upd H5 d (.dK (oddK tu li fo)) li = some (.lst []) := by rw [upd_ne (ne_of h3l h3d (by intro z; cases z))]; exact e35 _ _ h3l
    have h6d : upd H5 d (.dK (oddK tu li fo)) d = some (.dK (oddK tu li fo)) := upd_same
    have k6 : KO (kC K) (upd H5 d (.dK (oddK tu li fo))) fo := by
      obtain ⟨dx', fs', h'⟩ := M5.kd.ko
      exact ⟨dx', fs', by rw [upd_ne (ne_of h' (e35 _ _ h3d) (by intro z; cases z))]; exact h'⟩
    generalize hH6 : upd H5 d (.dK (oddK tu li fo)) = H6 at *
    refine q_asgL (el_lst ea_nil (by decide)) fun pf H7 hpf e7 h7 => ?_
    have e07 := e06.trans e7
    have hpfH := fresh_back e06 hpf
    refine q_forT (xs := xs) (ev_var rfl) (ex_t e07 hT) (fun i σ H' => ∃ v4, σ = [some (.ref mk), some (.ref t), some (.ref d), some (.ref pf), v4] ∧ Ex H6 H' ∧ H' pf = some (.lst ((xs.take i).map (rho ka tu li fo)))) ?_ ?_ ?_ ?_
    · intro H8 e8
      exact ⟨none, rfl, e7.trans e8, e8 _ _ h7⟩
    · rintro i σ H' _ ⟨_, _, e, _⟩
      exact ex_t (e06.trans e) hT
    · rintro i x σ H8 hx ⟨v4, rfl, e8, h8⟩
      have hi := (List.getElem?_eq_some_iff.mp hx).1
      have hl := hok.1
      have hix := hok.2 x (List.mem_of_getElem? hx)
      have fin2 : ∀ H9, Ex H8 H9 → ∃ (v4 : Option V), [some (.ref mk), some (.ref t), some (.ref d), some (.ref pf), some x] = [some (.ref mk), some (.ref t), some (.ref d), some (.ref pf), v4] ∧ Ex H6 (upd H9 pf (.lst ((xs.take i).map (rho ka tu li fo) ++ [rho ka tu li fo x]))) ∧ upd H9 pf (.lst ((xs.take i).map (rho ka tu li fo) ++ [rho ka tu li fo x])) pf = some (.lst ((xs.take (i + 1)).map (rho ka tu li fo))) := fun H9 e9 => by
        refine ⟨_, rfl, Ex.mut (e8.trans e9) hpf, ?_⟩
        rw [upd_same, List.take_add_one, hx]
        simp
      refine s_app (v := rho ka tu li fo x) h8 (ev_var rfl) ?_ (by rw [List.length_map, List.length_take]; omega) fun H9 e9 => fin2 H9 e9
      cases hix with
      | num n hn => exact ev_if (b := true) (ev_isI rfl (.inl ⟨rfl, _, rfl⟩)) (fun _ => ev_op (ev_var rfl) (ev_var rfl) (rv_ixL (sq_of ((e06.trans e8) _ _ hmk)) (at_of rfl (by
          show (refs ka)[n]? = some (.ref (kf ka ((n : Int)).toNat))
          rw [Int.toNat_natCast]
          exact at_refs (kf_mem hn))))) fun h => by cases h
      | txt z hz => exact ev_if (b := false) (ev_isI rfl (.inr ⟨rfl, _, rfl⟩)) (fun h => by cases h) fun _ => ev_dgetS (ev_var rfl) (ev_var rfl) (e8 _ _ h6d) (odd_get hz)
    · rintro σ H8 ⟨v4, rfl, e8, h8⟩
      rw [List.take_length] at h8
      have e08 := e06.trans e8
      refine ⟨_, rfl, pf, _, rfl, .inl ⟨sq_of h8, fun r hr => ?_⟩⟩
      have e9 : Ex H8 (upd H8 r (.tup (xs.map (rho ka tu li fo)))) := Ex.new hr
      exact fin r tu li fo _ (e08.trans e9) (fresh_back e08 hr) upd_same ((e8.trans e9) _ _ h6t) ((e8.trans e9) _ _ h6l) (k6.ex (e8.trans e9)) hfoH
end
end K28
end

section
set_option Elab.async false
set_option linter.all false
set_option maxRecDepth 100000
set_option maxHeartbeats 4000000
namespace K28
open PySem PySem.Spec PyProof.Rows L2 He Cn Evl
section
variable {P : Program} {w : World} {K : PySem.W.Frag} {mg : Str → Option Value} {base : Heap}
def spRefused (K : PySem.W.Frag) : Sp := fun vs H Q _ => ∃ (mk t : Addr) (ka tops : List Addr) (lines : List (List Addr)) (k : Nat), vs = [.ref mk, .ref t] ∧ H mk = some (.lst (refs ka)) ∧ ka.length ≤ 20 ∧ (∀ a, a ∈ ka → KO (kC K) H a) ∧ Abv K H t tops ka lines k ∧
  (∀ l, Mg.merge k (lines ++ [tops]) = some l → l.length ≤ 11 ∧ ∀ H', Ex H H' → Q .non H') ∧
  (Mg.merge k (lines ++ [tops]) = none → ∀ (r : Addr) (ring : List Addr) (H' : Hp), Ex H H' → H r = none → H' r = some (.tup (nts (ring.map fun a => ka.idxOf a))) → Mg.Ring (lines ++ [tops]) ring → (∀ a, a ∈ ring → ∃ r, r ∈ lines ++ [tops] ∧ a ∈ r) → ring.length ≤ 40 → Q (.ref r) H')
abbrev tKeptIf (K : PySem.W.Frag) (a : Addr) (cls : Value) (d : Option Addr) : TS := tIfS (tOr (tB (tIsN (tVar 2))) (tOr (tTest (tOp rNe (tXf a cls d (kE K) "rule" (tVar 2)) (tC (.str "line")))) (tNot (tB (tCB (rIsi K) (tCons (tXf a cls d (kE K) "item" (tVar 2)) (tCons (tC (.ty "tuple")) tNil))))))) (tRet (tC .non)) tNext
abbrev tKeptRet (K : PySem.W.Frag) (a : Addr) (cls : Value) (d : Option Addr) : TS := tRet (tCB (rTupOf K) (tCons (tLc (iTup K (tXf a cls d (kE K) "item" (tVar 2))) (gName 4) (tTest (tOp (rInI K (kC K) false) (tVar 4) (tVar 0))) (tBM K "list" (rIndexI (kC K) (SqL K)) (tVar 0) (tCons (tVar 4) tNil)) [4]) tNil))
theorem ev_xf {σ : L2.St} {H : Hp} {te : TE} {a C dd : Addr} {f : Str} {fs : List (Str × V)} {v : V} (h : Ev te σ H (.ref a)) (hd : H dd = some (.xd fs)) (hl : fs.lookup f = some v) : Ev (tXf a (.ref C) (some dd) C f te) σ H v := fun H1 e Q q =>
  h H1 e _ fun H2 e2 => ⟨rfl, rfl, dd, fs, v, rfl, (e.trans e2) _ _ hd, hl, q H2 e2⟩
theorem ev_lix {σ : L2.St} {H : Hp} {to ta : TE} {q a : Addr} {r : List Addr} (ho : Ev to σ H (.ref q)) (ha : Ev ta σ H (.ref a)) (hS : SqL K H q (refs r)) (hk : KO (kC K) H a) (hr : ∀ b, b ∈ r → KO (kC K) H b) (hm : a ∈ r) : Ev (tBM K "list" (rIndexI (kC K) (SqL K)) to (tCons ta tNil)) σ H (.int ((r.idxOf a : Nat) : Int)) := fun H1 e Q k =>
  ho H1 e _ fun H2 e2 => ⟨.inl ⟨rfl, _, ex_l (e.trans e2) hS⟩, ha H2 (e.trans e2) _ fun H3 e3 => ⟨q, .ref a, refs r, rfl, rfl, ex_l ((e.trans e2).trans e3) hS, (hk.ex ((e.trans e2).trans e3)).id, ids fun b hb => (hr b hb).ex ((e.trans e2).trans e3), mem_refs.mpr hm, by
    rw [idx_refs]
    exact k H3 (e2.trans e3)⟩⟩
theorem can_refused (T : Txt K mg) : Can P w K mg base CX0 8 "_law_refused" ["made", "tops"] (spRefused K) := by
  obtain ⟨fdO, FO, bO⟩ := ok_of (P := P) (w := w) (base := base) T
  have RO := FO.raw (dvs := [V.non]) bO (.cons rfl .nil)
  refine can_of T.g__law_refused T.F__law_refused (fun fd F => ?_) (fun _ _ _ _ _ _ us hl => match us, hl with | [_, _], _ => rfl)
  refine F.ok sc__law_refused (fun vs H Q E h => ?_) (fun cdv A outer s H vs Q E hr h => ?_)
  · obtain ⟨mk, t, ka, tops, lines, k, rfl, _⟩ := h
    rfl
  · obtain ⟨mk, t, ka, tops, lines, k, rfl, hmk, hk20, hko, hA, fine, bad⟩ := h
    have nd := sc__law_refused.nd
    refine ⟨_, pss_cons (ps_set (i := 2) nd rfl (.inl rfl) pe_non)
      (pss_try_keep (X := (cxOf CX0 P w K mg base ["made", "tops", "error", "e", "at"] "_law_refused" (defScope s__law_refused) (ga K "_law_refused") cdv A outer s H E).nox) (i := 3) (tb := fun W D σ H => σ[1]? = some (some (.ref t)) ∧ ∀ m, H m = none → spOf K [.ref (kC K), .str "New", .ref m, .ref t, .non] (upd H m (.tup [])) (fun v H' => D.nx σ H') (WE W σ))
        rfl rfl nd rfl rfl ⟨rfl, by decide, .inl T.g_InvalidKind⟩ LamX.takes0 (fun W pn xe tk _ => ?_)
        (fun a oe cls d pn hz hf => pss_one (ps_set (i := 2) nd rfl (.inl rfl) (pv 3)))
        (pss_cons (ps_if (PW.pt (pw_or (pt_cmp (pc_isN (pv 2))) (pw_or pt_never (pw_or1 pt_never)))) (pss_one (ps_ret pe_non)) pss_nil) (pss_one ps_never))
        (tr := fun a cls d => tSeq (tKeptIf K a cls d) (tKeptRet K a cls d)) (fun a oe cls d pn hz hf => ?_)), ?_⟩
    · exact pss_by fun D σ H' ⟨h1, h3⟩ => ⟨_, pss_one (ps_expr (ClX.pe_cmethS (pe_glob rfl T.g_Kind (v := .ref (kC K)) rfl) T.cread T.cmet RO (hr.mono (by decide)) (fun σ => passAt tk σ) (pa_cons pe_str (pa_cons (pe_tup pa_nil) (pa_cons (pv 1) pa_nil))))), rfl, by show 0 ≤ sizeLine; decide, fun m hm => ⟨_, h1, h3 m hm⟩⟩
    · refine pss_cons (ps_if ?_ (pss_one (ps_ret pe_non)) pss_nil) (pss_one (ps_ret ?_))
      · refine PW.pt (pw_or (pt_cmp (pc_isN (pv 2))) (pw_or ?_ (pw_or1 (pt_not (pt_val ?_)))))
        · refine pt_cmpR op_ne ?_ pe_str (nomark _)
          exact pe_xfK (X := (cxOf CX0 P w K mg base ["made", "tops", "error", "e", "at"] "_law_refused" (defScope s__law_refused) (ga K "_law_refused") cdv A outer s H E).nox) (C := kE K) T.xf T.e_rule hz hf (pv 2)
        · refine pe_callB call_isi (by rfl) T.n_isinstance (by decide +kernel) (pa_cons ?_ (pa_cons (pe_bltn rfl T.n_tuple (v := .ty "tuple") (by decide +kernel) rfl) pa_nil))
          exact pe_xfK (X := (cxOf CX0 P w K mg base ["made", "tops", "error", "e", "at"] "_law_refused" (defScope s__law_refused) (ga K "_law_refused") cdv A outer s H E).nox) (C := kE K) T.xf T.e_item hz hf (pv 2)
      · refine pe_callTy call_tuple_of (by rfl) T.n_tuple (by decide +kernel) (pa_cons ?_ pa_nil)
        refine pe_lc (own := [("at", 4)]) (wi := iTup K (tXf a cls d (kE K) "item" (tVar 2))) (g := gName 4) (tt := tTest (tOp (rInI K (kC K) false) (tVar 4) (tVar 0))) (te := tBM K "list" (rIndexI (kC K) (SqL K)) (tVar 0) (tCons (tVar 4) tNil)) rfl nd (pi_tup ?_) (blkOk_by (N := ["made", "tops", "error", "e", "at"]) (sc := defScope s__law_refused) (by decide +kernel)) (fun _ _ _ _ _ => pg_name (i := 4) nd rfl (.inl rfl)) (fun _ _ _ _ _ => pts_one (pt_cmpR (op_in_id hr T.idc) (pv 4) (pv 0) rfl)) (fun _ _ _ _ _ => pe_bm PySem.F.plainAttrs_list PySem.F.slot_list_index PySem.F.type_list_index (mt_index_id hr T.idc) (pv 0) (pa_cons (pv 4) pa_nil))
        exact pe_xfK (X := (cxOf CX0 P w K mg base ["made", "tops", "error", "e", "at"] "_law_refused" (defScope s__law_refused) (ga K "_law_refused") cdv A outer s H E).nox) (C := kE K) T.xf T.e_item hz hf (pv 2)
    · refine ⟨rfl, fun m hm => ⟨"New", m, t, tops, ka, lines, k, rfl, good_New, upd_same, hA.ex (Ex.new hm), fun l hl => ?_, fun hn => ?_⟩⟩
      · obtain ⟨hll, fin⟩ := fine l hl
        refine ⟨hll, fun a dx H' ha M' e' => ?_⟩
        have e1 : Ex H H' := (Ex.new hm).trans e'
        refine q_when (b := true) (et_is (et_or (a := true) (b := false) (et_isN (x := .non) (ev_var rfl)) fun h => by cases h) rfl) (fun _ H2 e2 => s_ret ev_c fun H3 e3 => fin H3 (e1.trans (e2.trans e3))) (fun h => by cases h)
      · intro d tr ring H2 hd e2 h2 htr hR hin hlr
        have e02 : Ex H H2 := (Ex.new hm).trans e2
        refine ⟨true, T.exm, fun _ a ha => ?_, fun q => by cases q⟩
        refine ⟨_, rfl, ?_⟩
        show tSeq (tKeptIf K a (.ref (kE K)) (some d)) (tKeptRet K a (.ref (kE K)) (some d)) _ [some (.ref mk), some (.ref t), some (.ref a), none, none] H2
        have hinka : ∀ b, b ∈ ring → b ∈ ka := fun b hb => by
          obtain ⟨r, h1, h2⟩ := hin b hb
          exact hA.wi r h1 b h2
        refine q_when (b := false) (et_is (et_or (a := false) (b := false) (et_is (et_isN (x := .ref a) (ev_var rfl)) rfl) fun _ => et_is (et_or (a := false) (b := false) (et_is (et_test (ev_op (ev_xf (ev_var rfl) h2 (by rfl)) ev_c (rv_ne rfl))) (by decide +kernel)) fun _ => et_is (et_not (a := true) (et_B (ev_cb (ea_cons (ev_xf (ev_var rfl) h2 (by rfl)) (ea_cons ev_c ea_nil)) fun H3 e3 Q q => ⟨.ref tr, .ty "tuple", .type "tuple", .type "tuple", true, rfl, .ty _, .base (.tup (e3 _ _ htr)), kit_ty (by decide +kernel), q H3 (Ex.refl H3)⟩))) rfl) rfl) rfl) (fun h => by cases h) fun _ H3 e3 => ?_
        have e03 := e02.trans e3
        have hk3 : ∀ b, b ∈ ka → KO (kC K) H3 b := fun b hb => (hko b hb).ex e03
        have hL := el_lcK (K := K) wk_tup (tl := tXf a (.ref (kE K)) (some d) (kE K) "item" (tVar 2)) (σ := [some (.ref mk), some (.ref t), some (.ref a), none, none]) (H := H3) (j := 4) (t := tTest (tOp (rInI K (kC K) false) (tVar 4) (tVar 0))) (te := tBM K "list" (rIndexI (kC K) (SqL K)) (tVar 0) (tCons (tVar 4) tNil)) (vs := [4]) (ev_xf (ev_var rfl) (e3 _ _ h2) (by rfl)) (st_of (e3 _ _ htr)) (fun i => match ring[i]? with | some b => decide (b ∈ ka) | none => false) (fun i => match ring[i]? with | some b => V.int ((ka.idxOf b : Nat) : Int) | none => .non) (by unfold refs; rw [List.length_map]; omega) (fun _ => rfl)
          (fun i x H4 e4 hx => by
            obtain ⟨b, hb, rfl⟩ := refs_at hx
            refine et_is (et_test (ev_op (ev_var rfl) (ev_var rfl) (rv_in_id (neg := false) (.inl (sq_of ((e03.trans e4) _ _ hmk))) ((hk3 b (hinka b (List.mem_of_getElem? hb))).ex e4) fun c hc => (hk3 c hc).ex e4))) ?_
            rw [hb]
            rfl)
          (fun i x H4 e4 hx hf => by
            obtain ⟨b, hb, rfl⟩ := refs_at hx
            have : (match ring[i]? with | some b => V.int ((ka.idxOf b : Nat) : Int) | none => .non) = V.int ((ka.idxOf b : Nat) : Int) := by rw [hb]
            rw [this]
            have hbk := hinka b (List.mem_of_getElem? hb)
            exact ev_lix (ev_var rfl) (ev_var rfl) (sq_of ((e03.trans e4) _ _ hmk)) ((hk3 b hbk).ex e4) (fun c hc => (hk3 c hc).ex e4) hbk)
        have lr : (refs ring).length = ring.length := by unfold refs; rw [List.length_map]
        rw [lr, given_filter ring (fun b => decide (b ∈ ka)) (fun b => V.int ((ka.idxOf b : Nat) : Int)) _ _ (fun i x hx => by rw [hx]) (fun i x hx => by rw [hx]), List.filter_eq_self.mpr (fun b hb => decide_eq_true (hinka b hb))] at hL
        have enm : ring.map (fun b => V.int ((ka.idxOf b : Nat) : Int)) = nts (ring.map fun b => ka.idxOf b) := by
          unfold nts
          rw [List.map_map]
          rfl
        rw [enm] at hL
        exact s_retU (en_tupOf hL) fun r H4 hr4 e4 h4 => bad hn r ring H4 (e03.trans e4) (fresh_back e03 hr4) h4 hR hin hlr
end
end K28
end

section
set_option Elab.async false
set_option linter.all false
set_option maxRecDepth 100000
set_option maxHeartbeats 0
namespace K28
open PySem PySem.Spec PyProof.Rows L2 He
abbrev R : PySem.W.OpenRow := PySem.W.OpenLaw.row PySem.Challenge.rw_recordcraft_k28_rings_checked
abbrev qv : Program := PySem.W.view R.prog [82]
def names0 : List PySem.Str := [("_wall" : PySem.Str), ("__name__" : PySem.Str), ("RecordcraftError" : PySem.Str), ("InvalidMember" : PySem.Str), ("InvalidKind" : PySem.Str), ("InvalidAnswer" : PySem.Str), ("NoShared" : PySem.Str), ("TooDeep" : PySem.Str), ("Lined" : PySem.Str), ("check_ring" : PySem.Str)]
def names1 : List PySem.Str := [("line_above" : PySem.Str), ("_rows_of" : PySem.Str), ("_free_head" : PySem.Str), ("_head_of_row_with" : PySem.Str), ("_without" : PySem.Str), ("_ring_in" : PySem.Str), ("_is_in_rows" : PySem.Str), ("_is_before" : PySem.Str), ("MAX_LENGTH" : PySem.Str), ("DIGITS" : PySem.Str)]
def names2 : List PySem.Str := [("NAME_SIGNS" : PySem.Str), ("BARRED_WORDS" : PySem.Str), ("is_name" : PySem.Str), ("MAX_LEVELS" : PySem.Str), ("MAX_VALUES" : PySem.Str), ("WIDE" : PySem.Str), ("SIMPLE_SORTS" : PySem.Str), ("Fielded" : PySem.Str), ("sort_of" : PySem.Str), ("_sort_of_others" : PySem.Str)]
def names3 : List PySem.Str := [("check_depth" : PySem.Str), ("_check_levels" : PySem.Str), ("_check_first_parts" : PySem.Str), ("_parts_of" : PySem.Str), ("can_be_key" : PySem.Str), ("_can_all_be_keys" : PySem.Str), ("_can_record_be_key" : PySem.Str), ("is_keyable" : PySem.Str), ("FIELD_OPTIONS" : PySem.Str), ("INIT_ONLY_OPTIONS" : PySem.Str)]
def names4 : List PySem.Str := [("Member" : PySem.Str), ("Field" : PySem.Str), ("InitOnly" : PySem.Str), ("Hook" : PySem.Str), ("_check_option" : PySem.Str), ("_is_allowed" : PySem.Str), ("KIND_OPTIONS" : PySem.Str), ("check_members" : PySem.Str), ("_name_of" : PySem.Str), ("check_options" : PySem.Str)]
def names5 : List PySem.Str := [("check_above" : PySem.Str), ("check_mixture" : PySem.Str), ("check_frozen" : PySem.Str), ("declares_fields" : PySem.Str), ("check_defaults" : PySem.Str), ("whole_members" : PySem.Str), ("is_only_named" : PySem.Str), ("Kind" : PySem.Str), ("_law_mixed" : PySem.Str), ("_law_folded" : PySem.Str)]
def names6 : List PySem.Str := [("_law_draw" : PySem.Str), ("_law_begun" : PySem.Str), ("_law_mixed_up" : PySem.Str), ("_law_line" : PySem.Str), ("_law_outcome" : PySem.Str), ("_law_before" : PySem.Str), ("_law_due" : PySem.Str), ("_law_walked" : PySem.Str), ("_law_rings" : PySem.Str), ("_law_bent" : PySem.Str)]
def names7 : List PySem.Str := [("_law_real" : PySem.Str), ("_law_refused" : PySem.Str), ("_law_right" : PySem.Str)]
def names : List PySem.Str := names0 ++ names1 ++ names2 ++ names3 ++ names4 ++ names5 ++ names6 ++ names7
def al0 : List Addr := [3, 658, 657, 72, 71, 69, 68, 145, 144, 152, 151, 157, 156, 164, 163, 171, 170, 176, 175, 183]
def al1 : List Addr := [182, 188, 187, 195, 194, 203, 202, 465, 464, 479, 478, 486, 485, 493, 492, 500, 499, 512, 511, 519]
def al2 : List Addr := [518, 542, 541, 551, 550, 561, 560, 566, 565, 573, 572, 578, 577, 91, 90, 88, 87, 667, 666, 672]
def al3 : List Addr := [671, 679, 678, 684, 683, 691, 690, 696, 695, 703, 702, 708, 707, 713, 712, 718, 717, 723, 722, 730]
def al4 : List Addr := [729, 737, 736, 742, 741, 747, 746, 752, 751, 0, 2, 62, 535, 534, 544, 543, 134, 133, 196, 31]
def al5 : List Addr := [30, 553]
def al : List Addr := al0 ++ al1 ++ al2 ++ al3 ++ al4 ++ al5
abbrev hk : PySem.W.Hook := HkQ.hookQ al fa fn tf exs
def ob (s : PySem.W.SharedT) : HkQ.AlQ := HkQ.obsQ al fa fn tf exs (HandSHeadRun.getT s)
theorem ob_eq (s : PySem.W.SharedT) : ob s = hk.obs s.abs := HkQ.obsQ_eq (HandSHeadRun.getT_eq s)
theorem run (w : World) : HandSHeadRun.RunEq R qv hk ob 20000 names w := by
  intro os
  kernel_rfl
end K28
end

section
set_option Elab.async false
set_option linter.all false
set_option maxRecDepth 100000
set_option maxHeartbeats 4000000
namespace K28
open PySem PySem.Spec PyProof.Rows L2 He Cn Evl
section
variable {P : Program} {w : World} {K : PySem.W.Frag} {mg : Str → Option Value} {base : Heap}
/-- Fun.ok, the code object known -/
theorem okC {x qual : Str} {st : Stmt} {f : Addr} {fd : FuncData} {N ps : List Str} {k : Nat} {sp : Sp} (F : Fun K x qual st f fd) (S : FnScope N ps (defScope st)) (len : ∀ vs H Q E, sp vs H Q E → vs.length = ps.length)
    (hbody : ∀ (A : Around) (outer : List Env) (s : Shared) (H : Hp) (vs : List V) (Q : VK) (E : XK), Room k (A.deeper (envOfC qual (defScope st) s.heap.objs.size f (.ref (HkQ.cOf K f)))) → sp vs H Q E →
      ∃ t, PSs (cxOf CX0 P w K mg base N qual (defScope st) f (.ref (HkQ.cOf K f)) A outer s H E).nox (defBody st) t ∧ t { nx := fun _ H' => Q .non H', rt := Q } (start N vs) H) : FnOk P w K mg base CX0 (k + 1) f fd ps sp := by
  obtain ⟨oc, od, kV, doc, pm, an, cdv, ct, osl, rfl, lk, hcd⟩ := F.ex
  obtain ⟨c, rfl⟩ := codeIn_ref hcd
  have ec := HkQ.cOf_eq lk rfl
  refine fn_of lk hcd S len fun A outer s H vs Q E hr hsp => ?_
  obtain ⟨t, h, q⟩ := hbody A outer s H vs Q E (by rw [ec]; exact hr) hsp
  rw [ec] at h
  exact ⟨t, h.nox, q⟩
/-- the table of the def that makes lambdas -/
def tabs (K : PySem.W.Frag) : List (Addr × Str) := [((HkQ.cP K fun K => ga K "_law_right").2, "_law_right.<locals>.<lambda>")]
def TabsOk (K : PySem.W.Frag) (mg : Str → Option Value) (base : Heap) : Prop := LamX.TabB base mg (HkQ.cOf K (ga K "_law_right")) (HkQ.cP K fun K => ga K "_law_right").2
theorem tabs_r {p : Addr × Str} (hp : p ∈ tabs K) (e : p.1 = (HkQ.cP K fun K => ga K "_law_right").2) : p.2 = "_law_right.<locals>.<lambda>" := by
  rw [List.mem_singleton.mp hp]
/-- the heap without the tables of code objects -/
def nt (H : Hp) : Hp := fun b => match H b with
  | some (.tbl _) => none
  | o => o
theorem nt_at {H : Hp} {b : Addr} {o : HO} (h : H b = some o) (hn : ∀ ps, o ≠ .tbl ps) : nt H b = some o := by
  unfold nt
  rw [h]
  cases o with
  | tbl ps => exact absurd rfl (hn ps)
  | _ => rfl
theorem nt_ex {H : Hp} : Ex (nt H) H := fun b o h => by
  unfold nt at h
  split at h
  · cases h
  · exact h
theorem nt_no {H : Hp} {b : Addr} {o : HO} (h : nt H b = some o) : ∀ ps, o ≠ .tbl ps := fun ps e => by
  subst e
  unfold nt at h
  split at h
  · cases h
  · rename_i hh
    exact hh ps h
/-- .. and without m's two -/
def rgm (dm gm : Addr) (H : Hp) : Hp := fun b => if b = dm ∨ b = gm then none else nt H b
theorem rgm_at {dm gm b : Addr} {H : Hp} {o : HO} (h1 : b ≠ dm) (h2 : b ≠ gm) (h : H b = some o) (hn : ∀ ps, o ≠ .tbl ps) : rgm dm gm H b = some o := by
  unfold rgm
  rw [if_neg (by simp [h1, h2])]
  exact nt_at h hn
theorem rgm_ex {dm gm : Addr} {H : Hp} : Ex (rgm dm gm H) H := fun b o h => by
  unfold rgm at h
  split at h
  · cases h
  · exact nt_ex _ _ h
/-- the state: a part G of the heap that holds neither m's own nor tables; m; the tables -/
structure Sd (K : PySem.W.Frag) (dm c gm : Addr) (G H : Hp) (sp : Int) : Prop where
  ex : Ex G H
  gd : G dm = none
  gg : G gm = none
  gt : ∀ b ps, G b ≠ some (.tbl ps)
  m : MAt H dm c gm sp
  tb : LamX.Tabs (tabs K) H
  s0 : 0 ≤ sp
variable {dm c gm : Addr} {G H H' : Hp} {sp sp' : Int}
theorem Sd.e (S : Sd K dm c gm G H sp) (e : Ex H H') : Sd K dm c gm G H' sp := ⟨S.ex.trans e, S.gd, S.gg, S.gt, mat_ex e S.m, S.tb.ext e, S.s0⟩
theorem Sd.fr (S : Sd K dm c gm G H sp) (f : Fr2 dm gm H H') (M : MAt H' dm c gm sp') (h : sp ≤ sp') : Sd K dm c gm G H' sp' := ⟨f.g S.ex S.gd S.gg, S.gd, S.gg, S.gt, M, tabs_fr S.m f S.tb, by have := S.s0; omega⟩
theorem Sd.xn (S : Sd K dm c gm G H sp) (x : LamX.ExtN H H') (T : LamX.Tabs (tabs K) H') : Sd K dm c gm G H' sp := ⟨fun b o h => x b o (S.ex b o h) (fun ps q => S.gt b ps (q ▸ h)), S.gd, S.gg, S.gt, mat_xn x S.m, T, S.s0⟩
theorem Sd.grow (S : Sd K dm c gm G H sp) : Sd K dm c gm (rgm dm gm H) H sp := ⟨rgm_ex, by unfold rgm; rw [if_pos (.inl rfl)], by unfold rgm; rw [if_pos (.inr rfl)], fun b ps h => by
  unfold rgm at h
  split at h
  · cases h
  · exact nt_no h ps rfl, S.m, S.tb, S.s0⟩
theorem Sd.up (S : Sd K dm c gm G H sp) : Ex G (rgm dm gm H) := fun b o h => rgm_at (fun q => by rw [q, S.gd] at h; cases h) (fun q => by rw [q, S.gg] at h; cases h) (S.ex b o h) fun ps q => S.gt b ps (q ▸ h)
/-- a new list lies in the grown part -/
theorem Sd.new (S : Sd K dm c gm G H sp) {b : Addr} {o : HO} (hb : H b = none) (h : H' b = some o) (hn : ∀ ps, o ≠ .tbl ps) : rgm dm gm H' b = some o := rgm_at (S.m.dm_ne hb) (S.m.gm_ne hb) h hn
end
end K28
end

section
set_option Elab.async false
set_option linter.all false
set_option maxRecDepth 100000
set_option maxHeartbeats 4000000
namespace K28
open PySem PySem.Spec PyProof.Rows L2 He Cn Evl
section
variable {K : PySem.W.Frag}
def σ0 (dm p mk pk : Addr) : L2.St := [some (.ref dm), some (.ref p), some (.ref mk), some (.ref pk), none, none, none, none, none, none, none, none, none, none, none]
def tLines (K : PySem.W.Frag) : TE := tLc (iList K (tVar 3)) (gName 14) tYes (tCall (spLine 10) [] E0 (tCons (tVar 1) (tCons (tVar 14) tNil))) [14]
theorem er_lines {H : Hp} {dm p mk pk : Addr} {ab ls : List (List Nat)} {ss : List Nat} (hPl : PlAt H p ab) (g : GoodUp ab ls ab.length) (hpk : H pk = some (.lst (nts ss))) (lt : ∀ x, x ∈ ss → x < ab.length) (hl : ss.length ≤ 30) :
    ∀ H1, Ex H H1 → ∀ Q : VK, (∀ D (prs : List (Addr × List Nat)) H2, H1 D = none → Ex H1 H2 → H2 D = some (.lst (refs (prs.map Prod.fst))) → prs.map Prod.snd = ss.map (fun x => ls.getD x []) → (∀ x, x ∈ prs → H1 x.1 = none ∧ x.1 ≠ D ∧ H2 x.1 = some (.lst (nts x.2))) → Q (.ref D) H2) → tLines K (σ0 dm p mk pk) H1 Q := fun H1 e1 Q q => by
  refine ⟨_, rfl, pk, rfl, ⟨_, sq_of (e1 _ _ hpk)⟩, fun D hD => ?_⟩
  refine lc_list (xs := nts ss) (fun i H' => Ex H1 H' ∧ ∃ prs : List (Addr × List Nat), H' D = some (.lst (refs (prs.map Prod.fst))) ∧ prs.map Prod.snd = (ss.take i).map (fun x => ls.getD x []) ∧ (∀ x, x ∈ prs → H1 x.1 = none ∧ x.1 ≠ D ∧ H' x.1 = some (.lst (nts x.2)))) ⟨Ex.new hD, [], upd_same, by simp, fun x hx => by cases hx⟩
    (fun i H' _ ⟨e2, _⟩ => sq_of ((e1.trans e2) _ _ hpk)) ?_ ?_
  · rintro i x H2 hx ⟨e2, prs, hD2, hsnd, hqs⟩
    obtain ⟨n, hn, rfl⟩ := nts_at hx
    have hi := (List.getElem?_eq_some_iff.mp hn).1
    have hnl := lt n (List.mem_of_getElem? hn)
    obtain ⟨as, l, O⟩ := g.2 n hnl
    have g10 := g.1
    have hab : n < ab.length := (List.getElem?_eq_some_iff.mp O.a).1
    have hlen : prs.length = i := by
      have := congrArg List.length hsnd
      rw [List.length_map, List.length_map, List.length_take] at this
      omega
    refine ⟨rfl, yes_then ?_⟩
    refine ⟨_, rfl, _, rfl, p, n, ab, ls, as, rfl, by omega, hPl.ex (e1.trans e2), ⟨by omega, fun j hj => g.2 j (by omega)⟩, O.a, O.lt, O.nd, O.len, by omega, (fun hn => by rw [O.mg] at hn; cases hn), fun l' hl' q' H3 hq' e3 h3 => ?_⟩
    rw [O.mg] at hl'
    obtain rfl := Option.some.inj hl'
    have nD : q' ≠ D := (ne_of_none hD2 hq').symm
    have hqH : H1 q' = none := fresh_back e2 hq'
    refine ⟨refs (prs.map Prod.fst), e3 _ _ hD2, sz_lt (by unfold refs; rw [List.length_map, List.length_map]; omega), Ex.mut (e2.trans e3) hD, prs ++ [(q', n :: l)], ?_, ?_, fun x hx => ?_⟩
    · rw [upd_same]
      unfold refs
      simp
    · rw [List.map_append, hsnd, List.take_add_one, hn]
      simp [O.s]
    · rcases List.mem_append.mp hx with hx | hx
      · obtain ⟨n0, n1, n2⟩ := hqs x hx
        exact ⟨n0, n1, by rw [upd_ne n1]; exact e3 _ _ n2⟩
      · obtain rfl := List.mem_singleton.mp hx
        exact ⟨hqH, nD, by rw [upd_ne nD]; exact h3⟩
  · rintro H2 ⟨e2, prs, hD2, hsnd, hqs⟩
    rw [nts_len, List.take_length] at hsnd
    exact q D prs H2 hD e2 hD2 hsnd hqs
theorem op_E {r : R2} {ta tb : TE} {σ : L2.St} {H : Hp} {Q : VK} (h : ta σ H fun x H1 => tb σ H1 fun y H2 => r x y H2 Q) : tOp r ta tb σ H Q := h
theorem q_rowsI {H : Hp} {dm p mk pk : Addr} {ab ls : List (List Nat)} {ss : List Nat} {tz : TS} {D : Ends} (hPl : PlAt H p ab) (g : GoodUp ab ls ab.length) (hpk : H pk = some (.lst (nts ss))) (lt : ∀ x, x ∈ ss → x < ab.length) (hl : ss.length ≤ 30)
    (k : ∀ pr H1, H pr = none → Ex H H1 → (∀ G' : Hp, (∀ b o, H b = none → H1 b = some o → (∀ ps, o ≠ .tbl ps) → G' b = some o) → RwI K G' pr (rowsOf ls ss)) → tz D ((σ0 dm p mk pk).set 4 (some (.ref pr))) H1) :
    tSeq (tAsg (tOp rCat (tLines K) (tLst (tCons (tCB (rListS K) (tCons (tVar 3) tNil)) tNil))) (gName 4)) tz D (σ0 dm p mk pk) H := by
  refine q_asgE (op_E ?_)
  refine er_lines (K := K) hPl g hpk lt hl H (Ex.refl _) _ fun Dl prs H2 hD e2 hD2 hsnd hqs => ?_
  refine ⟨_, rfl, pk, _, rfl, .inl (sq_of (e2 _ _ hpk)), fun pa hpa => ⟨by show 1 ≤ sizeLine; decide, fun pb hpb => ?_⟩⟩
  have e3 : Ex H2 (upd H2 pa (.lst (nts ss))) := Ex.new hpa
  have e4 : Ex (upd H2 pa (.lst (nts ss))) (upd (upd H2 pa (.lst (nts ss))) pb (.lst [.ref pa])) := Ex.new hpb
  have hlen : prs.length = ss.length := by
    have := congrArg List.length hsnd
    rw [List.length_map, List.length_map] at this
    exact this
  refine ⟨Dl, pb, _, _, rfl, rfl, (e3.trans e4) _ _ hD2, upd_same, sz_of (by unfold refs; rw [List.length_map, List.length_map, hlen]; show _ + 1 ≤ _; omega), fun pr hpr => ?_⟩
  have e5 : Ex (upd (upd H2 pa (.lst (nts ss))) pb (.lst [.ref pa])) (upd (upd (upd H2 pa (.lst (nts ss))) pb (.lst [.ref pa])) pr (.lst (refs (prs.map Prod.fst) ++ [.ref pa]))) := Ex.new hpr
  have hpaH := fresh_back e2 hpa
  have hprH := fresh_back ((e2.trans e3).trans e4) hpr
  refine k pr _ hprH (((e2.trans e3).trans e4).trans e5) fun G' hG => ⟨prs ++ [(pa, ss)], ?_, ?_, fun x hx => ?_⟩
  · refine sq_of ((hG pr _ hprH upd_same (fun _ z => nomatch z)).trans ?_)
    unfold refs
    simp
  · unfold rowsOf
    rw [List.map_append, hsnd]
    rfl
  · rcases List.mem_append.mp hx with hx | hx
    · obtain ⟨n0, n1, n2⟩ := hqs x hx
      exact sq_of (hG x.1 _ n0 (((e3.trans e4).trans e5) _ _ n2) (fun _ z => nomatch z))
    · obtain rfl := List.mem_singleton.mp hx
      exact sq_of (hG pa _ hpaH ((e4.trans e5) _ _ upd_same) (fun _ z => nomatch z))
/-- what stands fast within _law_right -/
structure Fx (K : PySem.W.Frag) (G : Hp) (p mk pr t : Addr) (ab ls : List (List Nat)) (ka : List Addr) (ss : List Nat) : Prop where
  g : GoodUp ab ls ka.length
  pos : 0 < ka.length
  ml : G mk = some (.lst (refs ka))
  kd : KindsAt K G ka ls
  lt : ∀ x, x ∈ ss → x < ka.length
  nd : ss.Nodup
  sl : ss.length ≤ 8
  rows : RwI K G pr (rowsOf ls ss)
  t : SqD K G t (refs (ss.map (kf ka)))
abbrev linesOf (ka : List Addr) (ls : List (List Nat)) (ss : List Nat) : List (List Addr) := ss.map fun x => (ls.getD x []).map (kf ka)
variable {G H : Hp} {p mk pr t : Addr} {ab ls : List (List Nat)} {ka : List Addr} {ss : List Nat}
theorem Fx.abv (F : Fx K G p mk pr t ab ls ka ss) (e : Ex G H) : Abv K H t (ss.map (kf ka)) ka (linesOf ka ls ss) 20 := (abv_of F.kd F.g F.lt F.nd (by have := F.sl; omega) F.t.1).ex e
theorem Fx.mg (F : Fx K G p mk pr t ab ls ka ss) : Mg.merge 20 (linesOf ka ls ss ++ [ss.map (kf ka)]) = (Mg.merge 20 (rowsOf ls ss)).map (List.map (kf ka)) := merge_of F.kd.nd F.g F.lt F.nd
theorem Fx.ll (F : Fx K G p mk pr t ab ls ka ss) {l : List Nat} (h : Mg.merge 20 (rowsOf ls ss) = some l) : l.length ≤ 11 := by
  obtain ⟨n1, n2⟩ := Mg.merge_nodup 20 _ _ h
  have hr := rows_ok F.g F.lt F.nd
  have := nodup_len l (List.range ka.length) n1 fun y hy => by
    obtain ⟨r, hr1, hr2⟩ := (n2 y).mp hy
    exact hr.2 r hr1 y hr2
  rw [List.length_range] at this
  have := F.g.1
  omega
theorem Fx.inrows (F : Fx K G p mk pr t ab ls ka ss) : ∀ r, r ∈ rowsOf ls ss → r.length ≤ 10 ∧ ∀ y, y ∈ r → y < ka.length := fun r hr => by
  have h := rows_ok F.g F.lt F.nd
  have := nodup_len r (List.range ka.length) (h.1 r hr) (h.2 r hr)
  rw [List.length_range] at this
  have := F.g.1
  exact ⟨by omega, fun y hy => List.mem_range.mp (h.2 r hr y hy)⟩
theorem Fx.rl (F : Fx K G p mk pr t ab ls ka ss) : (rowsOf ls ss).length ≤ 9 := by
  unfold rowsOf
  rw [List.length_append, List.length_map]
  have := F.sl
  show _ + 1 ≤ 9
  omega
theorem Fx.ko (F : Fx K G p mk pr t ab ls ka ss) (e : Ex G H) {x : Nat} (hx : x < ka.length) : KO (kC K) H (kf ka x) := ((F.kd.kd x hx).ko).ex e
theorem Fx.kos (F : Fx K G p mk pr t ab ls ka ss) (e : Ex G H) : ∀ a, a ∈ ka → KO (kC K) H a := fun a ha => by
  obtain ⟨j, hj⟩ := List.mem_iff_getElem?.mp ha
  have := F.ko e (List.getElem?_eq_some_iff.mp hj).1
  rw [kf_at hj] at this
  exact this
theorem refs_rho {tu li fo : Addr} (r : List Nat) : refs (r.map (kf ka)) = (nts r).map (rho ka tu li fo) := by
  unfold refs nts
  rw [List.map_map, List.map_map]
  apply List.map_congr_left
  intro x _
  show V.ref (kf ka x) = V.ref (kf ka ((x : Int)).toNat)
  rw [Int.toNat_natCast]
theorem rows_rho {tu li fo : Addr} : (linesOf ka ls ss ++ [ss.map (kf ka)]).map refs = ((rowsOf ls ss).map nts).map (List.map (rho ka tu li fo)) := by
  unfold rowsOf linesOf
  rw [List.map_append, List.map_append, List.map_append, List.map_map, List.map_map, List.map_map]
  congr 1
  · apply List.map_congr_left
    intro x _
    exact refs_rho _
  · show [refs (ss.map (kf ka))] = [(nts ss).map (rho ka tu li fo)]
    rw [refs_rho]
theorem Fx.apart (F : Fx K G p mk pr t ab ls ka ss) {tu li fo : Addr} {x : V} (hx : ItP ka.length x) (h1 : ∀ m, m < ka.length → tu ≠ kf ka m) (h2 : ∀ m, m < ka.length → li ≠ kf ka m) (h3 : ∀ m, m < ka.length → fo ≠ kf ka m) : Apart (rho ka tu li fo) ((rowsOf ls ss).map nts) x := by
  intro r hr y hy e
  obtain ⟨r', hr', rfl⟩ := List.mem_map.mp hr
  obtain ⟨m, hm, rfl⟩ := mem_nts hy
  have hmk := (F.inrows r' hr').2 m hm
  have e2 : rho ka tu li fo (.int (m : Int)) = .ref (kf ka m) := by
    show V.ref (kf ka ((m : Int)).toNat) = _
    rw [Int.toNat_natCast]
  rw [e2] at e
  cases hx with
  | num n hn =>
    have e : V.ref (kf ka ((n : Int)).toNat) = .ref (kf ka m) := e
    rw [Int.toNat_natCast] at e
    injection e with e
    rw [kf_inj F.kd.nd hn hmk e]
  | txt z hz =>
    exfalso
    have hg := odd_get (ka := ka) (tu := tu) (li := li) (fo := fo) hz
    unfold oddT at hz
    simp only [List.mem_cons, List.not_mem_nil, or_false] at hz
    rcases hz with q | q | q | q | q | q <;> subst q
    all_goals simp [rho, Ne.symm s01, Ne.symm s02, Ne.symm s03, Ne.symm s04, Ne.symm s05, Ne.symm s12, Ne.symm s13, Ne.symm s14, Ne.symm s15, Ne.symm s23, Ne.symm s24, Ne.symm s25, Ne.symm s34, Ne.symm s35, Ne.symm s45] at e
    · exact h1 m hmk e
    · exact h2 m hmk e
    · exact h3 m hmk e
theorem Fx.itv (F : Fx K G p mk pr t ab ls ka ss) (e : Ex G H) {tu li fo : Addr} {x : V} (hx : ItP ka.length x) (h1 : H tu = some (.tup [])) (h2 : H li = some (.lst [])) (h3 : KO (kC K) H fo) : ItV K H (rho ka tu li fo x) := by
  cases hx with
  | num n hn =>
    refine .inl ⟨kf ka n, ?_, F.ko e hn⟩
    show V.ref (kf ka ((n : Int)).toNat) = _
    rw [Int.toNat_natCast]
  | txt z hz =>
    unfold oddT at hz
    simp only [List.mem_cons, List.not_mem_nil, or_false] at hz
    rcases hz with q | q | q | q | q | q <;> subst q
    all_goals simp [rho, Ne.symm s01, Ne.symm s02, Ne.symm s03, Ne.symm s04, Ne.symm s05, Ne.symm s12, Ne.symm s13, Ne.symm s14, Ne.symm s15, Ne.symm s23, Ne.symm s24, Ne.symm s25, Ne.symm s34, Ne.symm s35, Ne.symm s45]
    · exact .inr .non
    · exact .inr (.str _)
    · exact .inr (.tup h1)
    · exact .inr (.lst h2)
    · exact .inr (.int _)
    · exact .inl ⟨fo, rfl, h3⟩
end
end K28
end

section
set_option Elab.async false
set_option linter.all false
set_option maxRecDepth 100000
set_option maxHeartbeats 4000000
namespace K28
open PySem PySem.Spec PyProof.Rows L2 He Cn Evl
section
variable {K : PySem.W.Frag} {G H H' : Hp} {dm c gm p mk pr t : Addr} {ab ls : List (List Nat)} {ka : List Addr} {ss : List Nat} {sp : Int}
theorem NoT.xn {x : V} (e : LamX.ExtN H H') (h : NoT H x) : NoT H' x := by
  cases h with
  | non => exact .non
  | bl b => exact .bl b
  | int i => exact .int i
  | str z => exact .str z
  | lst h => exact .lst (e _ _ h fun _ z => nomatch z)
  | dK h => exact .dK (e _ _ h fun _ z => nomatch z)
theorem ItV.xn {x : V} (e : LamX.ExtN H H') (h : ItV K H x) : ItV K H' x := by
  rcases h with ⟨a, rfl, dx, fs, h⟩ | h
  · exact .inl ⟨a, rfl, dx, fs, e _ _ h fun _ z => nomatch z⟩
  · refine .inr ?_
    cases h with
    | non => exact .non
    | str z => exact .str z
    | int i => exact .int i
    | tup h => exact .tup (e _ _ h fun _ z => nomatch z)
    | lst h => exact .lst (e _ _ h fun _ z => nomatch z)
/-- a ring as it is handed to check_ring, what is due of it, its length -/
inductive RArg (K : PySem.W.Frag) (rows : List (List V)) (H : Hp) : V → Option Str → Nat → Prop where
  | noT {r : V} (h : NoT H r) : RArg K rows H r (some "form") 0
  | ring {rg : Addr} {xs : List V} (h : H rg = some (.tup xs)) (it : ∀ x, x ∈ xs → ItV K H x) (hl : xs.length ≤ 1000) : RArg K rows H (.ref rg) (dueG rows xs) xs.length
/-- what _law_outcome gives -/
def OutV (H : Hp) (v : V) (due : Option Str) (n : Nat) : Prop := (due = none ∧ v = .int (n : Int)) ∨ ∃ z l, due = some z ∧ v = .ref l ∧ H l = some (.lst [.str z])
theorem OutV.xn {v : V} {due : Option Str} {n : Nat} (e : LamX.ExtN H H') (h : OutV H v due n) : OutV H' v due n := by
  rcases h with h | ⟨z, l, h1, h2, h3⟩
  · exact .inl h
  · exact .inr ⟨z, l, h1, h2, e _ _ h3 fun _ z => nomatch z⟩
theorem OutV.ex {v : V} {due : Option Str} {n : Nat} (e : Ex H H') (h : OutV H v due n) : OutV H' v due n := h.xn (LamX.ExtN.of e)
def outD : Option Str → Nat → PyData
  | none, n => .int (n : Int)
  | some z, _ => .list [.str z]
theorem dp_out {v : V} {due : Option Str} {n : Nat} (h : OutV H v due n) : Dp K H v (outD due n) := by
  rcases h with ⟨rfl, rfl⟩ | ⟨z, l, rfl, rfl, h⟩
  · exact .int _
  · exact .lst (sq_of h) (.cons (.str z) .nil)
def Word (due : Option Str) : Prop := ∀ z, due = some z → z = "form" ∨ z = "kind" ∨ z = "order"
theorem RArg.word {rows : List (List V)} {r : V} {due : Option Str} {n : Nat} (A : RArg K rows H r due n) : Word due := fun z hz => by
  cases A with
  | noT h => exact .inl (Option.some.inj hz).symm
  | ring h it hl => exact due_some hz
theorem sh_int (n : Nat) : SeqAt.shaped (.list [.int (n : Int), .int (n : Int)]) = true := rfl
theorem sh_str {z : Str} (h : z = "form" ∨ z = "kind" ∨ z = "order") : SeqAt.shaped (.list [.list [.str z], .list [.str z]]) = true := by
  rcases h with e | e | e <;> subst e <;> decide +kernel
theorem sh_out {due : Option Str} (h : Word due) (n : Nat) : SeqAt.shaped (.list [outD due n, outD due n]) = true := by
  cases due with
  | none => exact sh_int n
  | some z => exact sh_str (h z rfl)
theorem sh_form : SeqAt.shaped (.list [.str "form"]) = true := by decide +kernel
/-- _law_outcome(lambda: check_ring(..)) -/
theorem rd_out {σ : L2.St} {Q : VK} {te : XK → TE} {r : V} {due : Option Str} {n : Nat} (S : Sd K dm c gm G H sp) (F : Fx K G p mk pr t ab ls ka ss) (A : RArg K ((linesOf ka ls ss ++ [ss.map (kf ka)]).map refs) H r due n)
    (hte : ∀ (E : XK) (H2 : Hp) (Q2 : VK), spCheckRing K [.ref t, r] H2 Q2 E → te E σ H2 Q2)
    (k : ∀ v H', LamX.ExtN H H' → LamX.Tabs (tabs K) H' → OutV H' v due n → (∀ l, v = .ref l → ∀ b o, H b = some o → (∀ ps, o ≠ .tbl ps) → l ≠ b) → Q v H') : LamX.tLam (tabs K) (TOut K) te σ H Q := by
  refine ⟨S.tb, fun H1 x1 T1 => fun H2 e2 => ?_⟩
  have S2 := (S.xn x1 T1).e e2
  have x12 : LamX.ExtN H H2 := x1.trans (LamX.ExtN.of e2)
  have hA := F.abv S2.ex
  have hks : Ks (kC K) H2 (linesOf ka ls ss ++ [ss.map (kf ka)]) := fun r hr a ha => F.kos S2.ex a (hA.wi r hr a ha)
  have tell : ∀ z, due = some z → AnsErr K H2 z (fun cls d H' => cls = .ref (kA K) ∧ ∃ (dd : Addr) (it : V), d = some dd ∧ H' dd = some (.xd [("part", it)]) ∧ ∀ l H2, H' l = none → Ex H' H2 → H2 l = some (.lst [it]) → Q (.ref l) H2) := fun z hz d H3 hd e3 h3 =>
    ⟨rfl, d, .str z, rfl, h3, fun l H4 hl e4 h4 => k (.ref l) H4 (x12.trans (LamX.ExtN.of (e3.trans e4))) (S2.tb.ext (e3.trans e4)) (.inr ⟨z, l, hz, rfl, h4⟩) fun l' el b o hb hn => by
      injection el with el
      subst el
      intro q
      subst q
      have := e3 _ _ (x12 _ _ hb hn)
      rw [hl] at this
      cases this⟩
  refine hte _ H2 _ ⟨t, r, ss.map (kf ka), linesOf ka ls ss, rfl, hA.tp, F.t.ex S2.ex, by rw [List.length_map]; have := F.sl; omega, hks, ?_⟩
  cases A with
  | noT h => exact .inl ⟨h.xn x12, tell _ rfl⟩
  | ring h it hl => exact .inr ⟨_, _, rfl, x12 _ _ h (fun _ z => nomatch z), fun x hx => (it x hx).xn x12, hl, fun z hz => tell z hz, fun hn H3 e3 => k _ H3 (x12.trans (LamX.ExtN.of e3)) (S2.tb.ext e3) (.inl ⟨hn, rfl⟩) fun l' el => by cases el⟩
abbrev tPair (i j : Nat) : TA := tCons (tVar i) (tCons (tVar j) tNil)
def tL (K : PySem.W.Frag) (j : Nat) : TE := LamX.tLam (tabs K) (TOut K) fun E => tCall (spCheckRing K) [] E (tPair 13 j)
def tLk (K : PySem.W.Frag) : TE := LamX.tLam (tabs K) (TOut K) fun E => tCallN 0 2 (spCheckRing K) (fun _ zs => swap2 zs) E tNil (tPair 12 13)
theorem rd_L {σ : L2.St} {Q : VK} {j : Nat} {r : V} {due : Option Str} {n : Nat} (S : Sd K dm c gm G H sp) (F : Fx K G p mk pr t ab ls ka ss) (A : RArg K ((linesOf ka ls ss ++ [ss.map (kf ka)]).map refs) H r due n) (v13 : σ[13]? = some (some (.ref t))) (vj : σ[j]? = some (some r))
    (k : ∀ v H', LamX.ExtN H H' → LamX.Tabs (tabs K) H' → OutV H' v due n → (∀ l, v = .ref l → ∀ b o, H b = some o → (∀ ps, o ≠ .tbl ps) → l ≠ b) → Q v H') : tL K j σ H Q :=
  rd_out S F A (fun E H2 Q2 h => ⟨_, v13, _, vj, h⟩) k
theorem rd_Lk {σ : L2.St} {Q : VK} {r : V} {due : Option Str} {n : Nat} (S : Sd K dm c gm G H sp) (F : Fx K G p mk pr t ab ls ka ss) (A : RArg K ((linesOf ka ls ss ++ [ss.map (kf ka)]).map refs) H r due n) (v13 : σ[13]? = some (some (.ref t))) (v12 : σ[12]? = some (some r))
    (k : ∀ v H', LamX.ExtN H H' → LamX.Tabs (tabs K) H' → OutV H' v due n → (∀ l, v = .ref l → ∀ b o, H b = some o → (∀ ps, o ≠ .tbl ps) → l ≠ b) → Q v H') : tLk K σ H Q :=
  rd_out S F A (fun E H2 Q2 h => ⟨_, v12, _, v13, rfl, rfl, h⟩) k
/-! ### one ring is tried -/
def tIfB (K : PySem.W.Frag) : TS := tIfS (tOr (tTest (tOp (rNeD K) (tVar 9) (tOp rRep (tLst (tCons (tCall (spDue K) [] E0 (tPair 4 8)) tNil)) (tC (.int 2))))) (tTest (tOp (rNeS K) (tCB (rListS K) (tCons (tVar 12) tNil)) (tVar 10)))) (tRet (tC (.bl false))) tNext
def tIfF (K : PySem.W.Frag) (j : Nat) : TS := tIfS (tTest (tOp (rNeD K) (tL K j) (tLst (tCons (tC (.str "form")) tNil)))) (tRet (tC (.bl false))) tNext
def tTurn (K : PySem.W.Frag) : TS := tSeq (tAsg (tCall (spReal K) [] E0 (tPair 2 8)) (gName 12)) (tSeq (tAsg (tCB (rListS K) (tCons (tVar 12) tNil)) (gName 10)) (tSeq (tAsg (tLst (tCons (tL K 12) tNil)) (gName 9)) (tSeq (tDrop (tBM K "list" rAppend (tVar 9) (tCons (tLk K) tNil))) (tSeq (tIfB K) (tIfF K 10)))))
theorem rv_neD {H : Hp} {x y : V} {d : PyData} (h1 : ∀ H1, Ex H H1 → Dp K H1 x d) (h2 : ∀ H1, Ex H H1 → Dp K H1 y d) (hs : SeqAt.shaped d = true) : RV (rNeD K) x y H (.bl false) := fun H1 e Q k =>
  ⟨d, d, h1 H1 e, h2 H1 e, hs, hs, by
    rw [SeqAt.eqv_refl _ (SeqAt.canLay_of_shaped hs)]
    exact k H1 (Ex.refl _)⟩
/-- the outcome is ['form'] -/
theorem rd_form {σ : L2.St} {D : Ends} {j : Nat} {r : V} {n : Nat} (S : Sd K dm c gm G H sp) (F : Fx K G p mk pr t ab ls ka ss) (A : RArg K ((linesOf ka ls ss ++ [ss.map (kf ka)]).map refs) H r (some "form") n) (v13 : σ[13]? = some (some (.ref t))) (vj : σ[j]? = some (some r))
    (k : ∀ H', LamX.ExtN H H' → LamX.Tabs (tabs K) H' → D.nx σ H') : tIfF K j D σ H := by
  unfold tIfF
  show tL K j σ H _
  refine rd_L S F A v13 vj fun v H1 x1 T1 ho _ => ?_
  have hb : ∀ H2, Ex H1 H2 → D.nx σ H2 := fun H2 e2 => k H2 (x1.trans (LamX.ExtN.of e2)) (T1.ext e2)
  refine el_lst (ea_cons ev_c ea_nil) (by show 1 ≤ 100000; decide) H1 (Ex.refl _) _ fun q H2 hq e2 h2 => ?_
  refine rv_neD (K := K) (d := .list [.str "form"]) (fun H3 e3 => dp_out (ho.ex (e2.trans e3))) (fun H3 e3 => .lst (sq_of (e3 _ _ h2)) (.cons (.str _) .nil)) sh_form H2 (Ex.refl _) _ fun H3 e3 => ?_
  exact ⟨false, rfl, hb H3 (e2.trans e3)⟩
end
end K28
end

section
set_option Elab.async false
set_option linter.all false
set_option maxRecDepth 100000
set_option maxHeartbeats 4000000
namespace K28
open PySem PySem.Spec PyProof.Rows L2 He Cn Evl
section
variable {K : PySem.W.Frag} {G H H' : Hp} {dm c gm p mk pr t : Addr} {ab ls : List (List Nat)} {ka : List Addr} {ss : List Nat} {sp : Int}
theorem lst1_E {te : TE} {σ : L2.St} {Q : VK} (h : te σ H fun v H1 => 1 ≤ sizeLine ∧ ∀ l, H1 l = none → Q (.ref l) (upd H1 l (.lst [v]))) : tLst (tCons te tNil) σ H Q := h
theorem q_appE {te : TE} {tz : TS} {D : Ends} {σ : L2.St} {j : Nat} {l : Addr} {xs : List V} (vj : σ[j]? = some (some (.ref l))) (hl : SqL K H l xs)
    (h : te σ H fun v H1 => ∃ ys, H1 l = some (.lst ys) ∧ ys.length < sizeLine ∧ tz D σ (upd H1 l (.lst (ys ++ [v])))) : tSeq (tDrop (tBM K "list" rAppend (tVar j) (tCons te tNil))) tz D σ H := by
  refine ⟨_, vj, .inl ⟨rfl, _, hl⟩, ?_⟩
  have key : te σ H fun v H1 => ∃ (l' : Addr) (ys : List V) (v' : V), V.ref l = .ref l' ∧ [v] = [v'] ∧ H1 l' = some (.lst ys) ∧ ys.length < sizeLine ∧ tz D σ (upd H1 l' (.lst (ys ++ [v']))) := by
    have e : (fun (v : V) (H1 : Hp) => ∃ ys, H1 l = some (.lst ys) ∧ ys.length < sizeLine ∧ tz D σ (upd H1 l (.lst (ys ++ [v])))) = (fun v H1 => ∃ (l' : Addr) (ys : List V) (v' : V), V.ref l = .ref l' ∧ [v] = [v'] ∧ H1 l' = some (.lst ys) ∧ ys.length < sizeLine ∧ tz D σ (upd H1 l' (.lst (ys ++ [v'])))) := by
      funext v H1
      refine propext ⟨fun ⟨ys, a, b, c⟩ => ⟨l, ys, v, rfl, rfl, a, b, c⟩, fun ⟨l', ys, v', e1, e2, a, b, c⟩ => ?_⟩
      injection e1 with e1
      injection e2 with e2
      subst e1
      subst e2
      exact ⟨ys, a, b, c⟩
    rw [e] at h
    exact h
  exact key
theorem et_due {σ : L2.St} {q tx : Addr} {v1 v2 : V} {rows : List (List Nat)} {xs : List V} {due : Option Str} {n : Nat} (v9 : σ[9]? = some (some (.ref q))) (v4 : σ[4]? = some (some (.ref pr))) (v8 : σ[8]? = some (some (.ref tx))) (hq : H q = some (.lst [v1, v2])) (o1 : OutV H v1 due n) (o2 : OutV H v2 due n) (hw : Word due)
    (R : RwI K H pr rows) (hz : rows.length ≤ 40) (hx : SqT K H tx xs) (hp : ∀ x, x ∈ xs → PtV x) (hl : xs.length ≤ 1000) (hd : dueG (rows.map nts) xs = due) (hn : due = none → xs.length = n) :
    EvT (tTest (tOp (rNeD K) (tVar 9) (tOp rRep (tLst (tCons (tCall (spDue K) [] E0 (tPair 4 8)) tNil)) (tC (.int 2))))) σ H false := fun H1 e Q k => by
  -- behind the call
  have fin : ∀ (v : V) (H2 : Hp), Ex H1 H2 → OutV H2 v due n → ∀ pl, H2 pl = none → ∃ (l : Addr) (k' : Int) (ys : List V), V.ref pl = .ref l ∧ V.int 2 = .int k' ∧ upd H2 pl (.lst [v]) l = some (.lst ys) ∧ -(2 ^ 63) ≤ k' ∧ k' < 2 ^ 63 ∧ ys.length * k'.toNat ≤ sizeLine ∧
      ∀ pm, upd H2 pl (.lst [v]) pm = none → ∃ d d', Dp K (upd (upd H2 pl (.lst [v])) pm (.lst (List.replicate k'.toNat ys).flatten)) (.ref q) d ∧ Dp K (upd (upd H2 pl (.lst [v])) pm (.lst (List.replicate k'.toNat ys).flatten)) (.ref pm) d' ∧ SeqAt.shaped d = true ∧ SeqAt.shaped d' = true ∧
        ∃ b, V.bl (!PyData.eqv d d') = .bl b ∧ Q b (upd (upd H2 pl (.lst [v])) pm (.lst (List.replicate k'.toNat ys).flatten)) := fun v H2 e2 ho pl hpl => by
    refine ⟨pl, 2, [v], rfl, rfl, upd_same, by decide, by decide, by show 2 ≤ sizeLine; decide, fun pm hpm => ?_⟩
    have e3 : Ex H2 (upd H2 pl (.lst [v])) := Ex.new hpl
    have e4 : Ex (upd H2 pl (.lst [v])) (upd (upd H2 pl (.lst [v])) pm (.lst (List.replicate (2 : Int).toNat [v]).flatten)) := Ex.new hpm
    have e24 := e3.trans e4
    have e04 := (e.trans e2).trans e24
    refine ⟨.list [outD due n, outD due n], .list [outD due n, outD due n], .lst (sq_of (e04 _ _ hq)) (.cons (dp_out (o1.ex e04)) (.cons (dp_out (o2.ex e04)) .nil)), .lst (sq_of upd_same) (.cons (dp_out (ho.ex e24)) (.cons (dp_out (ho.ex e24)) .nil)), sh_out hw n, sh_out hw n, false, ?_, k _ (e2.trans e24)⟩
    rw [SeqAt.eqv_refl _ (SeqAt.canLay_of_shaped (sh_out hw n))]
    rfl
  refine ⟨_, v9, _, v4, _, v8, pr, tx, rows, xs, rfl, R.ex e, hz, ex_t e hx, hp, hl, fun z hz' l H2 hl2 e2 h2 => ⟨by show 1 ≤ sizeLine; decide, fun pl hpl => ?_⟩, fun hnone H2 e2 => ⟨by show 1 ≤ sizeLine; decide, fun pl hpl => ?_⟩⟩
  · exact fin (.ref l) H2 e2 (.inr ⟨z, l, by rw [← hd]; exact hz', rfl, h2⟩) pl hpl
  · have hnn : due = none := by rw [← hd]; exact hnone
    rw [hn hnn]
    exact fin (.int (n : Int)) H2 e2 (.inl ⟨hnn, rfl⟩) pl hpl
theorem rho_flat {tu li fo : Addr} {x : V} {many : Nat} (hx : ItP many x) : flatV (rho ka tu li fo x) = true ∨ ∃ a, rho ka tu li fo x = .ref a := by
  cases hx with
  | num n hn => exact .inr ⟨_, rfl⟩
  | txt z hz =>
    unfold rho
    dsimp only
    split
    · exact .inl rfl
    split
    · exact .inl rfl
    split
    · exact .inr ⟨_, rfl⟩
    split
    · exact .inr ⟨_, rfl⟩
    split
    · exact .inl rfl
    · exact .inr ⟨_, rfl⟩
theorem rd_turn {D : Ends} {tx ps pk : Addr} {xs : List V} {m5 w7 w9 w10 w11 w12 w14 : Option V} (S : Sd K dm c gm G H sp) (F : Fx K G p mk pr t ab ls ka ss) (hx : SqT K H tx xs) (ok : OkR ka.length 200 xs)
    (k : ∀ w9 w10 w12 H', LamX.ExtN H H' → LamX.Tabs (tabs K) H' → D.nx [some (.ref dm), some (.ref p), some (.ref mk), some (.ref pk), some (.ref pr), m5, some (.ref ps), w7, some (.ref tx), w9, w10, w11, w12, some (.ref t), w14] H') :
    tTurn K D [some (.ref dm), some (.ref p), some (.ref mk), some (.ref pk), some (.ref pr), m5, some (.ref ps), w7, some (.ref tx), w9, w10, w11, w12, some (.ref t), w14] H := by
  have xl := ok.1
  refine q_asgE ?_
  refine ⟨_, rfl, _, rfl, mk, tx, ka, xs, rfl, S.ex _ _ F.ml, hx, ok, fun r tu li fo H1 e1 hr h1 h2 h3 h4 h5 => ?_⟩
  dsimp only [gName]
  have S1 := S.e e1
  have n1 : ∀ m, m < ka.length → tu ≠ kf ka m := fun m hm q => by
    obtain ⟨dx, fs, h⟩ := F.ko S1.ex hm
    rw [← q, h2] at h
    cases h
  have n2 : ∀ m, m < ka.length → li ≠ kf ka m := fun m hm q => by
    obtain ⟨dx, fs, h⟩ := F.ko S1.ex hm
    rw [← q, h3] at h
    cases h
  have n3 : ∀ m, m < ka.length → fo ≠ kf ka m := fun m hm q => by
    obtain ⟨dx, fs, h⟩ := F.ko S.ex hm
    rw [← q, h5] at h
    cases h
  have hdue : dueG ((linesOf ka ls ss ++ [ss.map (kf ka)]).map refs) (xs.map (rho ka tu li fo)) = dueG ((rowsOf ls ss).map nts) xs := by
    rw [rows_rho (tu := tu) (li := li) (fo := fo)]
    exact dueG_map fun x hx => F.apart (ok.2 x hx) n1 n2 n3
  have hA : ∀ {H2 : Hp}, LamX.ExtN H1 H2 → RArg K ((linesOf ka ls ss ++ [ss.map (kf ka)]).map refs) H2 (.ref r) (dueG ((rowsOf ls ss).map nts) xs) xs.length := fun {H2} x2 => by
    have := RArg.ring (K := K) (rows := (linesOf ka ls ss ++ [ss.map (kf ka)]).map refs) (x2 _ _ h1 fun _ z => nomatch z) (fun y hy => by
      obtain ⟨x, hx, rfl⟩ := List.mem_map.mp hy
      exact (F.itv S1.ex (ok.2 x hx) h2 h3 h4).xn x2) (by rw [List.length_map]; omega)
    rw [hdue, List.length_map] at this
    exact this
  have hW := (hA (LamX.ExtN.refl _)).word
  generalize hdq : dueG ((rowsOf ls ss).map nts) xs = due at *
  refine q_asgL (xs := xs.map (rho ka tu li fo)) (fun H2 e Q q => ⟨_, rfl, r, _, rfl, .inr (st_of (e _ _ h1)), fun l hl => q l _ hl (Ex.new hl) upd_same⟩) fun kp H2 hkp e2 hk2 => ?_
  have S2 := S1.e e2
  have x02 : LamX.ExtN H H2 := LamX.ExtN.of (e1.trans e2)
  -- told
  refine q_asgE (lst1_E ?_)
  refine rd_L S2 F (hA (LamX.ExtN.of e2)) rfl rfl fun v1 H3 x3 T3 o1 _ => ⟨by show 1 ≤ sizeLine; decide, fun q hq => ?_⟩
  dsimp only [gName]
  have e4 : Ex H3 (upd H3 q (.lst [v1])) := Ex.new hq
  have hq4 : upd H3 q (.lst [v1]) q = some (.lst [v1]) := upd_same
  generalize hH4 : upd H3 q (.lst [v1]) = H4 at *
  have S4 := (S2.xn x3 T3).e e4
  have x24 : LamX.ExtN H2 H4 := x3.trans (LamX.ExtN.of e4)
  have hqH2 : ∀ b o, H2 b = some o → (∀ ps, o ≠ .tbl ps) → b ≠ q := fun b o hb hn z => by
    have := x3 _ _ hb hn
    rw [z, hq] at this
    cases this
  refine q_appE (l := q) (xs := [v1]) rfl (sq_of hq4) ?_
  refine rd_Lk S4 F (hA ((LamX.ExtN.of e2).trans x24)) rfl rfl fun v2 H5 x5 T5 o2 hfr => ⟨[v1], x5 _ _ hq4 (fun _ z => nomatch z), by show 1 < sizeLine; decide, ?_⟩
  have o15 : OutV H5 v1 due xs.length := (o1.ex e4).xn x5
  -- the list told, two long
  have T6 : LamX.Tabs (tabs K) (upd H5 q (.lst ([v1] ++ [v2]))) := tabs_k (tbk_lst (x5 _ _ hq4 fun _ z => nomatch z)) T5
  have x26 : LamX.ExtN H2 (upd H5 q (.lst ([v1] ++ [v2]))) := fun b o hb hn => by
    rw [upd_ne (hqH2 b o hb hn)]
    exact (x24.trans x5) b o hb hn
  have keepO : ∀ {v : V}, OutV H5 v due xs.length → (∀ l, v = .ref l → l ≠ q) → OutV (upd H5 q (.lst ([v1] ++ [v2]))) v due xs.length := fun {v} ho hne => by
    rcases ho with h | ⟨z, l, a, b, c⟩
    · exact .inl h
    · exact .inr ⟨z, l, a, b, by rw [upd_ne (hne l b)]; exact c⟩
  have o16 := keepO o15 fun l hl z => by
    rcases o1 with ⟨_, b⟩ | ⟨_, l', _, b, cc⟩
    · rw [hl] at b; cases b
    · rw [hl] at b
      injection b with b
      rw [← b, z, hq] at cc
      cases cc
  have o26 := keepO o2 fun l hl => hfr l hl q _ hq4 (fun _ z => nomatch z)
  have h6 : upd H5 q (.lst ([v1] ++ [v2])) q = some (.lst [v1, v2]) := upd_same
  generalize hH6 : upd H5 q (.lst ([v1] ++ [v2])) = H6 at *
  have x06 : LamX.ExtN H H6 := x02.trans x26
  have S6 := S.xn x06 T6
  have hk6 : H6 kp = some (.lst (xs.map (rho ka tu li fo))) := x26 _ _ hk2 fun _ z => nomatch z
  have hr6 : H6 r = some (.tup (xs.map (rho ka tu li fo))) := x26 _ _ (e2 _ _ h1) fun _ z => nomatch z
  have hx6 : SqT K H6 tx xs := by
    rcases hx with h | h
    · rcases h with h | ⟨o, h⟩
      · exact .inl (.inl (x06 _ _ h fun _ z => nomatch z))
      · exact .inl (.inr ⟨o, x06 _ _ h fun _ z => nomatch z⟩)
    · exact .inr h
  refine q_when (b := false) (et_is (et_or (a := false) (b := false) (et_due rfl rfl rfl h6 o16 o26 hW (F.rows.ex S6.ex) (by have := F.rl; omega) hx6 (fun x hx => (ok.2 x hx).pt) (by omega) hdq fun _ => rfl) fun _ => et_test fun H7 e7 Q k => ⟨_, rfl, r, _, rfl, .inr (st_of (e7 _ _ hr6)), fun l hl => ⟨_, rfl, l, kp, xs.map (rho ka tu li fo), rfl, rfl, sq_of upd_same, sq_of ((e7.trans (Ex.new hl)) _ _ hk6), fun z hz => ?_, k _ (Ex.new hl)⟩⟩) rfl) (fun h => by cases h) fun _ H7 e7 => ?_
  · obtain ⟨x, hx, rfl⟩ := List.mem_map.mp hz
    exact rho_flat (ok.2 x hx)
  · refine rd_form (S6.e e7) F (.noT (.lst (e7 _ _ hk6))) rfl rfl fun H8 x8 T8 => ?_
    exact k _ _ _ H8 ((x06.trans (LamX.ExtN.of e7)).trans x8) T8
end
end K28
end

section
set_option Elab.async false
set_option linter.all false
set_option maxRecDepth 100000
set_option maxHeartbeats 4000000
namespace K28
open PySem PySem.Spec PyProof.Rows L2 He Cn Evl
section
variable {K : PySem.W.Frag} {G H H' : Hp} {dm c gm p mk pr t : Addr} {ab ls : List (List Nat)} {ka : List Addr} {ss : List Nat} {sp : Int}
theorem Sd.mut (S : Sd K dm c gm G H sp) {q : Addr} {ys : List V} {u : HO} (h : H q = some (.lst ys)) (gq : G q = none) (n1 : q ≠ dm) (n2 : q ≠ gm) (n3 : q ≠ c) : Sd K dm c gm G (upd H q u) sp :=
  ⟨fun b o hb => by rw [upd_ne (fun z => by rw [z, gq] at hb; cases hb)]; exact S.ex b o hb, S.gd, S.gg, S.gt, S.m.mut n1 n2 n3, tabs_k (tbk_lst h) S.tb, S.s0⟩
theorem sqt_mut {q r : Addr} {xs ys : List V} {u : HO} (h : H q = some (.lst ys)) (hr : SqT K H r xs) : SqT K (upd H q u) r xs := by
  rcases hr with hr | hr
  · rcases hr with hr | ⟨o, hr⟩
    · exact .inl (.inl (by rw [upd_ne (ne_of hr h (by intro z; cases z))]; exact hr))
    · exact .inl (.inr ⟨o, by rw [upd_ne (ne_of hr h (by intro z; cases z))]; exact hr⟩)
  · exact .inr hr
theorem sqt_xn {r : Addr} {xs : List V} (e : LamX.ExtN H H') (h : SqT K H r xs) : SqT K H' r xs := by
  rcases h with h | h
  · rcases h with h | ⟨o, h⟩
    · exact .inl (.inl (e _ _ h fun _ z => nomatch z))
    · exact .inl (.inr ⟨o, e _ _ h fun _ z => nomatch z⟩)
  · exact .inr h
def tBents (K : PySem.W.Frag) : TE := tLc (iList K (tVar 6)) (gName 8) tYes (tCall (spBent K) [] E0 (tCons (tVar 0) (tCons (tVar 8) (tCons (tVar 5) tNil)))) [8]
theorem rd_bents {Q : VK} {ps pk : Addr} {prs : List (Addr × List V)} {w7 w9 w10 w11 w12 w13 w14 : Option V} {many : Nat} (S : Sd K dm c gm G H sp) (R : RwT K H ps prs) (hl : prs.length ≤ 17) (hok : ∀ x, x ∈ prs → OkR many 40 x.2) (hps1 : ps ≠ dm) (hps2 : ps ≠ gm) (m0 : 0 < many) (m20 : many ≤ 20) (s1 : sp < 200000)
    (k : ∀ (D : Addr) (prsB : List (Addr × List V)) (sp' : Int) (H' : Hp), H D = none → RwT K H' D prsB → RwT K H' ps prs → prsB.length ≤ 17 → (∀ x, x ∈ prsB → OkR many 200 x.2) → Sd K dm c gm G H' sp' → sp ≤ sp' → sp' ≤ sp + 85 → Q (.ref D) H') :
    tBents K [some (.ref dm), some (.ref p), some (.ref mk), some (.ref pk), some (.ref pr), some (.int (many : Int)), some (.ref ps), w7, none, w9, w10, w11, w12, w13, w14] H Q := by
  refine ⟨_, rfl, ps, rfl, ⟨_, sq_of R.l⟩, fun Dl hD => ?_⟩
  have D1 := S.m.dm_ne hD
  have D2 := S.m.gm_ne hD
  have D3 := S.m.c_ne hD
  have gD : G Dl = none := by
    cases q : G Dl with
    | none => rfl
    | some u =>
      have := S.ex _ _ q
      rw [hD] at this
      cases this
  have e0 : Ex H (upd H Dl (.lst [])) := Ex.new hD
  refine lc_list (xs := refs (prs.map Prod.fst)) (fun i H' => ∃ (prsB : List (Addr × List V)) (sp' : Int), RwT K H' Dl prsB ∧ RwT K H' ps prs ∧ prsB.length = i ∧ (∀ x, x ∈ prsB → OkR many 200 x.2) ∧ Sd K dm c gm G H' sp' ∧ sp ≤ sp' ∧ sp' ≤ sp + 5 * (i : Int)) ⟨[], sp, ⟨upd_same, fun x hx => by cases hx⟩, R.ex e0, rfl, (fun x hx => by cases hx), S.e e0, by omega, by omega⟩
    (fun i H' _ ⟨_, _, _, r, _⟩ => sq_of r.l) ?_ ?_
  · rintro i x H2 hx ⟨prsB, sp', RB, R2, hlB, hokB, S2, a1, a2⟩
    obtain ⟨q, hq, rfl⟩ := refs_at hx
    rw [List.getElem?_map] at hq
    cases hpr : prs[i]? with
    | none => rw [hpr] at hq; cases hq
    | some pr1 =>
      rw [hpr] at hq
      obtain rfl := Option.some.inj hq
      have hm := List.mem_of_getElem? hpr
      have hi := (List.getElem?_eq_some_iff.mp hpr).1
      refine ⟨rfl, yes_then ?_⟩
      refine ⟨_, rfl, _, rfl, _, rfl, dm, c, gm, pr1.1, sp', many, pr1.2, rfl, S2.m, S2.s0, by omega, R2.t _ hm, hok _ hm, m0, m20, fun r ys sp2 H3 hr hys b1 b2 M3 f3 => ?_⟩
      have S3 := S2.fr f3 M3 b1
      have RB3 := RB.fr S2.m f3 D1 D2
      have R3 := R2.fr S2.m f3 hps1 hps2
      have hne : ps ≠ Dl := ne_of_none R.l hD
      refine ⟨_, RB3.l, sz_lt (by unfold refs; rw [List.length_map, List.length_map]; omega), prsB ++ [(r, ys)], sp2, ⟨by rw [upd_same]; unfold refs; simp, fun x hx => ?_⟩, ⟨by rw [upd_ne hne]; exact R3.l, fun x hx => sqt_mut RB3.l (R3.t x hx)⟩, by rw [List.length_append, hlB]; rfl, fun x hx => ?_, S3.mut RB3.l gD D1 D2 D3, by omega, by omega⟩
      · rcases List.mem_append.mp hx with hx | hx
        · exact sqt_mut RB3.l (RB3.t x hx)
        · obtain rfl := List.mem_singleton.mp hx
          exact sqt_mut RB3.l hr
      · rcases List.mem_append.mp hx with hx | hx
        · exact hokB x hx
        · obtain rfl := List.mem_singleton.mp hx
          exact hys
  · rintro H2 ⟨prsB, sp', RB, R2, hlB, hokB, S2, a1, a2⟩
    have ll : (refs (prs.map Prod.fst)).length = prs.length := by unfold refs; rw [List.length_map, List.length_map]
    rw [ll] at hlB a2
    exact k Dl prsB sp' H2 hD RB R2 (by omega) hokB S2 a1 (by omega)
def tLoop (K : PySem.W.Frag) : TS := tFor (iList K (tOp rCat (tVar 6) (tBents K))) (gName 8) (tTurn K)
theorem tfor_E {te : TE} {g : TG} {tb tz : TS} {D : Ends} {σ : L2.St} (h : te σ H fun x H1 => ∃ a, x = .ref a ∧ (∃ xs, SqL K H1 a xs) ∧ ∃ W : Nat → Nat → L2.St → Hp → Prop, (∃ m, W 0 m σ H1) ∧ ∀ i m σ H, W i m σ H →
    ((Itl K a).stop i H ∧ tz D σ H) ∨ ((Itl K a).go i H ∧ ∃ N : L2.St → Hp → Prop, (∀ σ' H', N σ' H' → ∃ m', m' < m ∧ W (i + 1) m' σ' H') ∧ ∀ x H', (Itl K a).yld i H x H' → g x σ H' fun σ2 H2 => tb { D with nx := N, ct := N, bk := tz D } σ2 H2)) : tSeq (tFor (iList K te) g tb) tz D σ H := h
theorem tforT_E {te : TE} {g : TG} {tb tz : TS} {D : Ends} {σ : L2.St} (h : te σ H fun x H1 => ∃ a, x = .ref a ∧ (∃ xs, SqT K H1 a xs) ∧ ∃ W : Nat → Nat → L2.St → Hp → Prop, (∃ m, W 0 m σ H1) ∧ ∀ i m σ H, W i m σ H →
    ((Itt K a).stop i H ∧ tz D σ H) ∨ ((Itt K a).go i H ∧ ∃ N : L2.St → Hp → Prop, (∀ σ' H', N σ' H' → ∃ m', m' < m ∧ W (i + 1) m' σ' H') ∧ ∀ x H', (Itt K a).yld i H x H' → g x σ H' fun σ2 H2 => tb { D with nx := N, ct := N, bk := tz D } σ2 H2)) : tSeq (tFor (iTup K te) g tb) tz D σ H := h
theorem var_E {i : Nat} {v : V} {σ : L2.St} {Q : VK} (hv : σ[i]? = some (some v)) (h : Q v H) : tVar i σ H Q := ⟨v, hv, h⟩
/-- all the rings -/
theorem rd_loop {D : Ends} {tz : TS} {ps pk : Addr} {prs : List (Addr × List V)} {w7 w9 w10 w11 w12 w14 : Option V} (S : Sd K dm c gm G H sp) (F : Fx K G p mk pr t ab ls ka ss) (R : RwT K H ps prs) (hl : prs.length ≤ 17) (hok : ∀ x, x ∈ prs → OkR ka.length 40 x.2) (hps1 : ps ≠ dm) (hps2 : ps ≠ gm) (s1 : sp < 200000)
    (k : ∀ w8 w9 w10 w11 w12 sp' H', Sd K dm c gm G H' sp' → sp ≤ sp' → sp' ≤ sp + 85 → tz D [some (.ref dm), some (.ref p), some (.ref mk), some (.ref pk), some (.ref pr), some (.int (ka.length : Int)), some (.ref ps), w7, w8, w9, w10, w11, w12, some (.ref t), w14] H') :
    tSeq (tLoop K) tz D [some (.ref dm), some (.ref p), some (.ref mk), some (.ref pk), some (.ref pr), some (.int (ka.length : Int)), some (.ref ps), w7, none, w9, w10, w11, w12, some (.ref t), w14] H := by
  have g10 := F.g.1
  unfold tLoop
  refine tfor_E (op_E (var_E rfl ?_))
  refine rd_bents S R hl hok hps1 hps2 F.pos (by omega) s1 fun Dl prsB sp' H2 hD RB R2 hlB hokB S2 a1 a2 => ?_
  refine ⟨ps, Dl, _, _, rfl, rfl, R2.l, RB.l, sz_of (by unfold refs; rw [List.length_map, List.length_map, List.length_map, List.length_map]; omega), fun pn hpn => ?_⟩
  have e3 : Ex H2 (upd H2 pn (.lst (refs (prs.map Prod.fst) ++ refs (prsB.map Prod.fst)))) := Ex.new hpn
  have R3 : RwT K (upd H2 pn (.lst (refs (prs.map Prod.fst) ++ refs (prsB.map Prod.fst)))) pn (prs ++ prsB) := ⟨by rw [upd_same]; unfold refs; simp, fun x hx => by
    rcases List.mem_append.mp hx with hx | hx
    · exact ex_t e3 (R2.t x hx)
    · exact ex_t e3 (RB.t x hx)⟩
  have S3 := S2.e e3
  generalize hH3 : upd H2 pn (.lst (refs (prs.map Prod.fst) ++ refs (prsB.map Prod.fst))) = H3 at *
  have hokA : ∀ x, x ∈ prs ++ prsB → OkR ka.length 200 x.2 := fun x hx => by
    rcases List.mem_append.mp hx with hx | hx
    · exact (hok x hx).le (by decide)
    · exact hokB x hx
  refine ⟨pn, rfl, ⟨_, sq_of R3.l⟩, ?_⟩
  refine for_list (D := { D with nx := tz D }) (xs := refs ((prs ++ prsB).map Prod.fst)) (fun i σ' H' => ∃ w8 w9 w10 w11 w12, σ' = [some (.ref dm), some (.ref p), some (.ref mk), some (.ref pk), some (.ref pr), some (.int (ka.length : Int)), some (.ref ps), w7, w8, w9, w10, w11, w12, some (.ref t), w14] ∧ LamX.ExtN H3 H' ∧ LamX.Tabs (tabs K) H') ⟨_, _, _, _, _, rfl, LamX.ExtN.refl _, S3.tb⟩ ?_ ?_ ?_
  · rintro i σ' H' _ ⟨_, _, _, _, _, _, x, _⟩
    exact sq_of (x _ _ R3.l fun _ z => nomatch z)
  · rintro i x σ' H' hx ⟨w8, w9, w10, w11, w12, rfl, x3, T3⟩
    obtain ⟨q, hq, rfl⟩ := refs_at hx
    rw [List.getElem?_map] at hq
    cases hpr : (prs ++ prsB)[i]? with
    | none => rw [hpr] at hq; cases hq
    | some pr1 =>
      rw [hpr] at hq
      obtain rfl := Option.some.inj hq
      have hm := List.mem_of_getElem? hpr
      have S4 := S3.xn x3 T3
      exact rd_turn S4 F (sqt_xn x3 (R3.t _ hm)) (hokA _ hm) fun w9' w10' w12' H5 x5 T5 => ⟨_, _, _, _, _, rfl, x3.trans x5, T5⟩
  · rintro σ' H' ⟨w8, w9, w10, w11, w12, rfl, x3, T3⟩
    exact k _ _ _ _ _ sp' H' (S3.xn x3 T3) a1 a2
/-! ### values that are no rings -/
def tOdds (K : PySem.W.Frag) : TE := tTup (tCons (tC .non) (tCons (tC (.int 5)) (tCons (tC (.bl true)) (tCons (tC (.str "ring")) (tCons tDNewK (tCons (tTup tNil) (tCons (tTup (tCons (tOp (rIxL K) (tVar 2) (tC (.int 0))) tNil)) tNil)))))))
def tLoopO (K : PySem.W.Frag) : TS := tFor (iTup K (tOdds K)) (gName 11) (tIfF K 11)
theorem rd_loopO {D : Ends} {tz : TS} {ps pk : Addr} {w7 w8 w9 w10 w11 w12 w14 m5 : Option V} (S : Sd K dm c gm G H sp) (F : Fx K G p mk pr t ab ls ka ss)
    (k : ∀ w11 H', Sd K dm c gm G H' sp → tz D [some (.ref dm), some (.ref p), some (.ref mk), some (.ref pk), some (.ref pr), m5, some (.ref ps), w7, w8, w9, w10, w11, w12, some (.ref t), w14] H') :
    tSeq (tLoopO K) tz D [some (.ref dm), some (.ref p), some (.ref mk), some (.ref pk), some (.ref pr), m5, some (.ref ps), w7, w8, w9, w10, w11, w12, some (.ref t), w14] H := by
  unfold tLoopO tOdds
  refine tforT_E ?_
  intro d hd
  have e1 : Ex H (upd H d (.dK [])) := Ex.new hd
  refine ⟨by show 0 ≤ sizeLine; decide, fun tu htu => ?_⟩
  have e2 : Ex (upd H d (.dK [])) (upd (upd H d (.dK [])) tu (.tup [])) := Ex.new htu
  have k0 : (refs ka)[0]? = some (.ref (kf ka 0)) := at_refs (kf_mem F.pos)
  have e12 := e1.trans e2
  have S2 := S.e e12
  have h2d : upd (upd H d (.dK [])) tu (.tup []) d = some (.dK []) := e2 _ _ upd_same
  have h2t : upd (upd H d (.dK [])) tu (.tup []) tu = some (.tup []) := upd_same
  generalize hH2 : upd (upd H d (.dK [])) tu (.tup []) = H2 at *
  refine ⟨_, rfl, mk, refs ka, 0, .ref (kf ka 0), rfl, rfl, sq_of (S2.ex _ _ F.ml), at_of (j := 0) rfl k0, by show 1 ≤ sizeLine; decide, fun t1 ht1 => ⟨by show 7 ≤ sizeLine; decide, fun tt htt => ⟨tt, rfl, ⟨_, st_of upd_same⟩, ?_⟩⟩⟩
  have e3 : Ex H2 (upd H2 t1 (.tup [.ref (kf ka 0)])) := Ex.new ht1
  have e4 : Ex (upd H2 t1 (.tup [.ref (kf ka 0)])) (upd (upd H2 t1 (.tup [.ref (kf ka 0)])) tt (.tup [.non, .int 5, .bl true, .str "ring", .ref d, .ref tu, .ref t1])) := Ex.new htt
  have h4 : upd (upd H2 t1 (.tup [.ref (kf ka 0)])) tt (.tup [.non, .int 5, .bl true, .str "ring", .ref d, .ref tu, .ref t1]) tt = some (.tup [.non, .int 5, .bl true, .str "ring", .ref d, .ref tu, .ref t1]) := upd_same
  have h41 : upd (upd H2 t1 (.tup [.ref (kf ka 0)])) tt (.tup [.non, .int 5, .bl true, .str "ring", .ref d, .ref tu, .ref t1]) t1 = some (.tup [.ref (kf ka 0)]) := e4 _ _ upd_same
  have e24 := e3.trans e4
  generalize hH4 : upd (upd H2 t1 (.tup [.ref (kf ka 0)])) tt (.tup [.non, .int 5, .bl true, .str "ring", .ref d, .ref tu, .ref t1]) = H4 at *
  have S4 := S2.e e24
  refine for_tup (D := { D with nx := tz D }) (xs := [.non, .int 5, .bl true, .str "ring", .ref d, .ref tu, .ref t1]) (fun i σ' H' => ∃ w11, σ' = [some (.ref dm), some (.ref p), some (.ref mk), some (.ref pk), some (.ref pr), m5, some (.ref ps), w7, w8, w9, w10, w11, w12, some (.ref t), w14] ∧ LamX.ExtN H4 H' ∧ LamX.Tabs (tabs K) H') ⟨_, rfl, LamX.ExtN.refl _, S4.tb⟩ ?_ ?_ ?_
  · rintro i σ' H' _ ⟨_, _, x, _⟩
    exact st_of (x _ _ h4 fun _ z => nomatch z)
  · rintro i x σ' H' hx ⟨w11, rfl, x4, T4⟩
    have S5 := S4.xn x4 T4
    have hA : ∃ n, RArg K ((linesOf ka ls ss ++ [ss.map (kf ka)]).map refs) H' x (some "form") n := by
      have hi := (List.getElem?_eq_some_iff.mp hx).1
      match i, hi, hx with
      | 0, _, hx => obtain rfl := Option.some.inj hx; exact ⟨0, .noT .non⟩
      | 1, _, hx => obtain rfl := Option.some.inj hx; exact ⟨0, .noT (.int _)⟩
      | 2, _, hx => obtain rfl := Option.some.inj hx; exact ⟨0, .noT (.bl _)⟩
      | 3, _, hx => obtain rfl := Option.some.inj hx; exact ⟨0, .noT (.str _)⟩
      | 4, _, hx => obtain rfl := Option.some.inj hx; exact ⟨0, .noT (.dK (x4 _ _ (e24 _ _ h2d) fun _ z => nomatch z))⟩
      | 5, _, hx =>
        obtain rfl := Option.some.inj hx
        exact ⟨_, .ring (xs := []) (x4 _ _ (e24 _ _ h2t) fun _ z => nomatch z) (fun y hy => by cases hy) (by decide)⟩
      | 6, _, hx =>
        obtain rfl := Option.some.inj hx
        refine ⟨_, .ring (xs := [.ref (kf ka 0)]) (x4 _ _ h41 fun _ z => nomatch z) (fun y hy => ?_) (by show 1 ≤ 1000; decide)⟩
        obtain rfl := List.mem_singleton.mp hy
        exact .inl ⟨_, rfl, F.ko S5.ex F.pos⟩
    obtain ⟨n, hA⟩ := hA
    exact rd_form S5 F hA rfl rfl fun H6 x6 T6 => ⟨_, rfl, x4.trans x6, T6⟩
  · rintro σ' H' ⟨w11, rfl, x4, T4⟩
    exact k _ H' (S4.xn x4 T4)
end
end K28
end

section
set_option Elab.async false
set_option linter.all false
set_option maxRecDepth 100000
set_option maxHeartbeats 4000000
namespace K28
open PySem PySem.Spec PyProof.Rows L2 He Cn Evl
section
variable {P : Program} {w : World} {K : PySem.W.Frag} {mg : Str → Option Value} {base : Heap}
variable {G G' H H' : Hp} {dm c gm p mk pr t : Addr} {ab ls : List (List Nat)} {ka : List Addr} {ss : List Nat} {sp : Int}
theorem Sd.weak (S : Sd K dm c gm G H sp) (e : Ex G' G) (S' : Sd K dm c gm G' H' sp) : Sd K dm c gm G' H sp := ⟨e.trans S.ex, S'.gd, S'.gg, S'.gt, S.m, S.tb, S.s0⟩
theorem Fx.apartN (F : Fx K G p mk pr t ab ls ka ss) {tu li fo : Addr} {n : Nat} (hn : n < ka.length) : Apart (rho ka tu li fo) ((rowsOf ls ss).map nts) (.int (n : Int)) := by
  intro r hr y hy e
  obtain ⟨r', hr', rfl⟩ := List.mem_map.mp hr
  obtain ⟨m, hm, rfl⟩ := mem_nts hy
  have hmk := (F.inrows r' hr').2 m hm
  have e : V.ref (kf ka ((n : Int)).toNat) = .ref (kf ka ((m : Int)).toNat) := e
  rw [Int.toNat_natCast, Int.toNat_natCast] at e
  injection e with e
  rw [kf_inj F.kd.nd hn hmk e]
theorem kf_idx {a : Addr} (h : a ∈ ka) : kf ka (ka.idxOf a) = a := kf_at (by
  have hl : ka.idxOf a < ka.length := List.idxOf_lt_length_of_mem h
  rw [List.getElem?_eq_getElem hl, List.getElem_idxOf hl])
/-- the ring that a refusal names, as numbers -/
theorem Fx.due (F : Fx K G p mk pr t ab ls ka ss) {ring : List Addr} (hR : Mg.Ring (linesOf ka ls ss ++ [ss.map (kf ka)]) ring) (hin : ∀ a, a ∈ ring → ∃ r, r ∈ linesOf ka ls ss ++ [ss.map (kf ka)] ∧ a ∈ r) :
    dueG ((rowsOf ls ss).map nts) (nts (ring.map fun a => ka.idxOf a)) = none ∧ ∀ x, x ∈ nts (ring.map fun a => ka.idxOf a) → ItP ka.length x := by
  have hka : ∀ a, a ∈ ring → a ∈ ka := fun a ha => by
    obtain ⟨r, h1, h2⟩ := hin a ha
    exact (F.abv (Ex.refl G)).wi r h1 a h2
  have hit : ∀ x, x ∈ nts (ring.map fun a => ka.idxOf a) → ∃ n, n < ka.length ∧ x = .int (n : Int) := fun x hx => by
    obtain ⟨n, hn, rfl⟩ := mem_nts hx
    obtain ⟨a, ha, rfl⟩ := List.mem_map.mp hn
    exact ⟨_, List.idxOf_lt_length_of_mem (hka a ha), rfl⟩
  refine ⟨?_, fun x hx => ?_⟩
  · have h0 := due_ring hR hin
    rw [rows_rho (tu := 0) (li := 0) (fo := 0)] at h0
    have er : refs ring = (nts (ring.map fun a => ka.idxOf a)).map (rho ka 0 0 0) := by
      rw [← refs_rho, List.map_map]
      congr 1
      conv => lhs; rw [← List.map_id ring]
      apply List.map_congr_left
      intro a ha
      exact (kf_idx (hka a ha)).symm
    rw [er, dueG_map fun x hx => by
      obtain ⟨n, hn, rfl⟩ := hit x hx
      exact F.apartN hn] at h0
    exact h0
  · obtain ⟨n, hn, rfl⟩ := hit x hx
    exact .num n hn
def spRight (K : PySem.W.Frag) : Sp := fun vs H Q _ => ∃ (dm c gm p mk pk : Addr) (sp : Int) (ab ls : List (List Nat)) (ka : List Addr) (ss : List Nat) (G : Hp), vs = [.ref dm, .ref p, .ref mk, .ref pk] ∧ Sd K dm c gm G H sp ∧ sp < 100000 ∧ PlAt G p ab ∧ GoodUp ab ls ab.length ∧ ka.length = ab.length ∧ 0 < ab.length ∧
  G mk = some (.lst (refs ka)) ∧ KindsAt K G ka ls ∧ G pk = some (.lst (nts ss)) ∧ (∀ x, x ∈ ss → x < ab.length) ∧ ss.Nodup ∧ ss.length ≤ 8 ∧
  ∀ sp' H', Sd K dm c gm (rgm dm gm H) H' sp' → sp ≤ sp' → sp' ≤ sp + 300 → Q (.bl true) H'
def tDueNe (K : PySem.W.Frag) : TS := tIfS (tTest (tOp rNe (tCall (spDue K) [] E0 (tPair 4 7)) (tCB (rLenS K) (tCons (tVar 7) tNil)))) (tRet (tC (.bl false))) tNext
def tHere (K : PySem.W.Frag) : TS := tIfS (tB (tNotN (tVar 7))) (tSeq (tDrop (tBM K "list" rAppend (tVar 6) (tCons (tVar 7) tNil))) (tDueNe K)) tNext
def tEnd (K : PySem.W.Frag) : TS := tSeq (tLoop K) (tSeq (tLoopO K) (tRet (tC (.bl true))))
theorem et_notN {σ : L2.St} {te : TE} {x : V} (h : Ev te σ H x) : EvT (tB (tNotN te)) σ H (!decide (x = .non)) := fun H1 e Q q => h H1 e _ fun H2 e2 => ⟨_, rfl, q H2 e2⟩
theorem rd_end {Q : VK} {nx : L2.St → Hp → Prop} {ps pk : Addr} {prs : List (Addr × List V)} {w7 w9 w10 w11 w12 w14 : Option V} (S : Sd K dm c gm G H sp) (F : Fx K G p mk pr t ab ls ka ss) (R : RwT K H ps prs) (hl : prs.length ≤ 17) (hok : ∀ x, x ∈ prs → OkR ka.length 40 x.2) (hps1 : ps ≠ dm) (hps2 : ps ≠ gm) (s1 : sp < 200000)
    (k : ∀ sp' H', Sd K dm c gm G H' sp' → sp ≤ sp' → sp' ≤ sp + 85 → Q (.bl true) H') :
    tEnd K { nx := nx, rt := Q } [some (.ref dm), some (.ref p), some (.ref mk), some (.ref pk), some (.ref pr), some (.int (ka.length : Int)), some (.ref ps), w7, none, w9, w10, w11, w12, some (.ref t), w14] H := by
  unfold tEnd
  refine rd_loop S F R hl hok hps1 hps2 s1 fun w8 w9 w10 w11 w12 sp' H1 S1 a1 a2 => ?_
  refine rd_loopO S1 F fun w11 H2 S2 => ?_
  exact s_ret ev_c fun H3 e3 => k sp' H3 (S2.e e3) a1 a2
theorem rd_here {Q : VK} {nx : L2.St → Hp → Prop} {ps pk r : Addr} {ring : List Addr} {prs : List (Addr × List V)} {w8 w9 w10 w11 w12 w14 : Option V} {tz : TS} (S : Sd K dm c gm G H sp) (F : Fx K G p mk pr t ab ls ka ss) (R : RwT K H ps prs) (hl : prs.length ≤ 16) (hok : ∀ x, x ∈ prs → OkR ka.length 40 x.2) (gps : G ps = none) (hps1 : ps ≠ dm) (hps2 : ps ≠ gm) (hps3 : ps ≠ c)
    (hr : H r = some (.tup (nts (ring.map fun a => ka.idxOf a)))) (hR : Mg.Ring (linesOf ka ls ss ++ [ss.map (kf ka)]) ring) (hin : ∀ a, a ∈ ring → ∃ r, r ∈ linesOf ka ls ss ++ [ss.map (kf ka)] ∧ a ∈ r) (h40 : ring.length ≤ 40)
    (k : ∀ H' prs', Sd K dm c gm G H' sp → RwT K H' ps prs' → prs'.length ≤ 17 → (∀ x, x ∈ prs' → OkR ka.length 40 x.2) → tz { nx := nx, rt := Q } [some (.ref dm), some (.ref p), some (.ref mk), some (.ref pk), some (.ref pr), some (.int (ka.length : Int)), some (.ref ps), some (.ref r), w8, w9, w10, w11, w12, some (.ref t), w14] H') :
    tSeq (tHere K) tz { nx := nx, rt := Q } [some (.ref dm), some (.ref p), some (.ref mk), some (.ref pk), some (.ref pr), some (.int (ka.length : Int)), some (.ref ps), some (.ref r), w8, w9, w10, w11, w12, some (.ref t), w14] H := by
  obtain ⟨hd, hit⟩ := F.due hR hin
  have hln : (nts (ring.map fun a => ka.idxOf a)).length ≤ 40 := by rw [nts_len, List.length_map]; exact h40
  generalize nts (ring.map fun a => ka.idxOf a) = xs at *
  unfold tHere
  refine q_when (b := true) (et_is (et_notN (x := .ref r) (ev_var rfl)) rfl) (fun _ H1 e1 => ?_) (fun h => by cases h)
  have S1 := S.e e1
  refine q_app (e1 _ _ R.l) (ev_var rfl) (v := .ref r) (ev_var rfl) (by unfold refs; rw [List.length_map, List.length_map]; omega) fun H2 e2 => ?_
  have S2 := S1.e e2
  have R2 := (R.ex e1).ex e2
  have hr2 := e2 _ _ (e1 _ _ hr)
  have S3 := S2.mut (u := .lst (refs (prs.map Prod.fst) ++ [.ref r])) R2.l gps hps1 hps2 hps3
  have R3 : RwT K (upd H2 ps (.lst (refs (prs.map Prod.fst) ++ [.ref r]))) ps (prs ++ [(r, xs)]) := ⟨by rw [upd_same]; unfold refs; simp, fun x hx => by
    rcases List.mem_append.mp hx with hx | hx
    · exact sqt_mut R2.l (R2.t x hx)
    · obtain rfl := List.mem_singleton.mp hx
      exact sqt_mut R2.l (st_of hr2)⟩
  have hr3 : upd H2 ps (.lst (refs (prs.map Prod.fst) ++ [.ref r])) r = some (.tup xs) := by
    rw [upd_ne (ne_of hr2 R2.l (by intro z; cases z))]
    exact hr2
  generalize hH3 : upd H2 ps (.lst (refs (prs.map Prod.fst) ++ [.ref r])) = H3 at *
  unfold tDueNe
  refine s_when (b := false) (et_is (et_test (ev_op (x := .int (xs.length : Int)) (y := .int (xs.length : Int)) (ev_call (ea_cons (ev_var rfl) (ea_cons (ev_var rfl) ea_nil)) fun H4 e4 Q q E => ⟨pr, r, rowsOf ls ss, xs, rfl, F.rows.ex (S3.ex.trans e4), by have := F.rl; omega, st_of (e4 _ _ hr3), fun x hx => (hit x hx).pt, by omega, (fun z hz => by rw [hd] at hz; cases hz), fun _ H5 e5 => q H5 e5⟩)
    (ev_cb (ea_cons (ev_var rfl) ea_nil) fun H4 e4 Q q => ⟨r, _, rfl, .inr (st_of (e4 _ _ hr3)), q H4 (Ex.refl _)⟩) (rv_ne rfl))) (by simp)) (fun h => by cases h) fun _ H4 e4 => ?_
  refine k H4 _ (S3.e e4) (R3.ex e4) (by rw [List.length_append]; show _ + 1 ≤ _; omega) fun x hx => ?_
  rcases List.mem_append.mp hx with hx | hx
  · exact hok x hx
  · obtain rfl := List.mem_singleton.mp hx
    exact ⟨hln, hit⟩
theorem rd_none {Q : VK} {nx : L2.St → Hp → Prop} {ps pk : Addr} {m5 w8 w9 w10 w11 w12 w14 : Option V} {tz : TS}
    (k : ∀ H', Ex H H' → tz { nx := nx, rt := Q } [some (.ref dm), some (.ref p), some (.ref mk), some (.ref pk), some (.ref pr), m5, some (.ref ps), some .non, w8, w9, w10, w11, w12, some (.ref t), w14] H') :
    tSeq (tHere K) tz { nx := nx, rt := Q } [some (.ref dm), some (.ref p), some (.ref mk), some (.ref pk), some (.ref pr), m5, some (.ref ps), some .non, w8, w9, w10, w11, w12, some (.ref t), w14] H := by
  unfold tHere
  exact q_when (b := false) (et_is (et_notN (x := .non) (ev_var rfl)) rfl) (fun h => by cases h) fun _ H1 e1 => k H1 e1
end
end K28
end

section
set_option Elab.async false
set_option linter.all false
set_option maxRecDepth 100000
set_option maxHeartbeats 4000000
namespace K28
open PySem PySem.Spec PyProof.Rows L2 He Cn Evl
section
variable {P : Program} {w : World} {K : PySem.W.Frag} {mg : Str → Option Value} {base : Heap}
def scRa : Scope := { kind := .function, names := [], isGenerator := false, isCoroutine := false }
theorem tup2_E {tl tb : TE} {r : List V → Hp → VK → Prop} {σ : L2.St} {H : Hp} {Q : VK} (h : tl σ H fun x H1 => r [x] H1 fun y H2 => tb σ H2 fun z H3 => 2 ≤ sizeLine ∧ ∀ p, H3 p = none → Q (.ref p) (upd H3 p (.tup [y, z]))) : tTup (tCons (tCB r (tCons tl tNil)) (tCons tb tNil)) σ H Q := h
theorem can_right (T : Txt K mg) (TB : TabsOk K mg base) : Can P w K mg base CX0 20 "_law_right" ["m", "plans", "made", "picked"] (spRight K) := by
  have CL : Can P w K mg base CX0 11 "_law_line" ["plans", "n"] (spLine 10) := can_line T 10 (by decide)
  have CRi : Can P w K mg base CX0 4 "_law_rings" ["m", "rows", "many"] (spRings K) := can_rings T
  have CRf : Can P w K mg base CX0 8 "_law_refused" ["made", "tops"] (spRefused K) := can_refused T
  have CDu : Can P w K mg base CX0 2 "_law_due" ["rows", "ring_here"] (spDue K) := can_due T
  have CBe : Can P w K mg base CX0 3 "_law_bent" ["m", "path", "many"] (spBent K) := can_bent T
  have CRe : Can P w K mg base CX0 8 "_law_real" ["made", "path"] (spReal K) := can_real T
  have CC : Can P w K mg base (L2.CX P w) 3 "check_ring" ["above", "ring"] (spCheckRing K) := can_checkRing T
  obtain ⟨fdC, FC⟩ := T.F_check_ring
  have FnC := fn_checkRing (P := P) (w := w) (base := base) T fdC FC
  have kbC := kb_checkRing FC
  obtain ⟨fdR, FR⟩ := T.F__law_outcome
  have bR := FR.binds (ps := ["call"]) fun _ _ _ _ _ _ us hl => match us, hl with | [_], _ => rfl
  obtain ⟨ocR, odR, kVR, docR, pmR, anR, cdR, ctR, oslR, eR, lkR, hcR⟩ := FR.ex
  subst eR
  refine can_of T.g__law_right T.F__law_right (fun fd F => ?_) (fun _ _ _ _ _ _ us hl => match us, hl with | [_, _, _, _], _ => rfl)
  refine okC F sc__law_right (fun vs H Q E h => ?_) (fun A outer s H vs Q E hr h => ?_)
  · obtain ⟨dm, c, gm, p, mk, pk, sp, ab, ls, ka, ss, G, rfl, _⟩ := h
    rfl
  · obtain ⟨dm, c, gm, p, mk, pk, sp, ab, ls, ka, ss, G, rfl, S, s1, hPl, g, hkl, hpos, hmk, hK, hpk, lt, nds, hl8, fin⟩ := h
    have nd := sc__law_right.nd
    have hu := hu_of hr
    refine ⟨_, pss_cons (ps_set (i := 4) nd rfl (.inl rfl) (pe_op op_cat (pe_lc (own := [("at", 14)]) (wi := iList K (tVar 3)) (g := gName 14) (tt := tYes) (te := tCall (spLine 10) [] E0 (tCons (tVar 1) (tCons (tVar 14) tNil))) rfl nd (pi_list (pv 3)) (blkOk_by (N := ["m", "plans", "made", "picked", "rows", "many_here", "some", "ring_here", "path", "told", "kept", "odd", "real", "tops", "at"]) (sc := defScope s__law_right) (by decide +kernel)) (fun _ _ _ _ _ => pg_name (i := 14) nd rfl (.inl rfl)) (fun _ _ _ _ _ => pts_nil) (fun _ _ _ _ _ => pe_can CL hr pass0 (pa_cons (pv 1) (pa_cons (pv 14) pa_nil))))
        (pe_lst (pa_cons (pe_callTy call_list_of (by rfl) T.n_list (by decide +kernel) (pa_cons (pv 3) pa_nil)) pa_nil))))
      (pss_cons (ps_asg (pe_tup (pa_cons (pe_callTy call_tuple_ofZ (by rfl) T.n_tuple (by decide +kernel) (pa_cons (pe_lc (own := [("at", 14)]) (wi := iList K (tVar 3)) (g := gName 14) (tt := tYes) (te := tOp (rIxL K) (tVar 2) (tVar 14)) rfl nd (pi_list (pv 3)) (blkOk_by (N := ["m", "plans", "made", "picked", "rows", "many_here", "some", "ring_here", "path", "told", "kept", "odd", "real", "tops", "at"]) (sc := defScope s__law_right) (by decide +kernel)) (fun _ _ _ _ _ => pg_name (i := 14) nd rfl (.inl rfl)) (fun _ _ _ _ _ => pts_nil) (fun _ _ _ _ _ => pe_ix ix_list (pv 2) (pv 14) (fun _ _ => rfl))) pa_nil)) (pa_cons (pe_callB call_len_seq (by rfl) T.n_len PySem.boot_len (pa_cons (pv 1) pa_nil)) pa_nil)))
          (pg_tup rfl (pgs_cons (pg_name (i := 13) nd rfl (.inr rfl)) (pgs_cons (pg_name (i := 5) nd rfl (.inr rfl)) pgs_nil))))
      (pss_cons (ps_set (i := 6) nd rfl (.inl rfl) (pe_can CRi hr pass0 (pa_cons (pv 0) (pa_cons (pv 4) (pa_cons (pv 5) pa_nil)))))
      (pss_cons (ps_set (i := 7) nd rfl (.inl rfl) (pe_can CRf hr pass0 (pa_cons (pv 2) (pa_cons (pv 13) pa_nil))))
      (pss_cons (ps_if (pt_cmp (pc_notN (pv 7)))
          (pss_cons (ps_expr (pe_bm PySem.F.plainAttrs_list PySem.F.slot_list_append PySem.F.type_list_append mt_append (pv 6) (pa_cons (pv 7) pa_nil)))
          (pss_one (ps_if (pt_cmpR op_ne (pe_can CDu hr pass0 (pa_cons (pv 4) (pa_cons (pv 7) pa_nil))) (pe_callB call_len_seq (by rfl) T.n_len PySem.boot_len (pa_cons (pv 7) pa_nil)) (nomark _)) (pss_one (ps_ret pe_bl)) pss_nil))) pss_nil)
      (pss_cons (ps_for PassesOwn.never rfl (pi_list (pe_op op_cat (pv 6) (pe_lc (own := [("path", 8)]) (wi := iList K (tVar 6)) (g := gName 8) (tt := tYes) (te := tCall (spBent K) [] E0 (tCons (tVar 0) (tCons (tVar 8) (tCons (tVar 5) tNil)))) rfl nd (pi_list (pv 6)) (blkOk_by (N := ["m", "plans", "made", "picked", "rows", "many_here", "some", "ring_here", "path", "told", "kept", "odd", "real", "tops", "at"]) (sc := defScope s__law_right) (by decide +kernel)) (fun _ _ _ _ _ => pg_name (i := 8) nd rfl (.inl rfl)) (fun _ _ _ _ _ => pts_nil) (fun _ _ _ _ _ => pe_can CBe hr pass0 (pa_cons (pv 0) (pa_cons (pv 8) (pa_cons (pv 5) pa_nil))))))) (pg_name (i := 8) nd rfl (.inl rfl))
          (?_ : PSs _ _ (tTurn K)))
      (pss_cons (ps_for PassesOwn.never rfl (pi_tup (pe_tup (pa_cons pe_non (pa_cons pe_int (pa_cons pe_bl (pa_cons pe_str (pa_cons pe_dnewK (pa_cons (pe_tup pa_nil) (pa_cons (pe_tup (pa_cons (pe_ix ix_list (pv 2) pe_int (fun _ _ => rfl)) pa_nil)) pa_nil))))))))) (pg_name (i := 11) nd rfl (.inr rfl))
          (?_ : PSs _ _ (tIfF K 11)))
      (pss_one (ps_ret pe_bl)))))))), ?_⟩
    · refine pss_cons (ps_set (i := 12) nd rfl (.inr rfl) (pe_can CRe hr pass0 (pa_cons (pv 2) (pa_cons (pv 8) pa_nil)))) (pss_cons (ps_set (i := 10) nd rfl (.inr rfl) (pe_callTy call_list_of (by rfl) T.n_list (by decide +kernel) (pa_cons (pv 12) pa_nil))) (pss_cons (ps_set (i := 9) nd rfl (.inl rfl) (pe_lst (pa_cons ?_ pa_nil))) (pss_cons (ps_expr (pe_bm PySem.F.plainAttrs_list PySem.F.slot_list_append PySem.F.type_list_append mt_append (pv 9) (pa_cons ?_ pa_nil))) (pss_cons (ps_if ?_ (pss_one (ps_ret pe_bl)) pss_nil) (pss_one (ps_if ?_ (pss_one (ps_ret pe_bl)) pss_nil))))))
      · exact LamX.pe_lamcall (T := tabs K) (TT := TOut K) (k := 10) rfl T.g__law_outcome FR.kp lkR hcR bR sc__law_outcome rfl (.inl rfl) (out_gives T rfl rfl) TB rfl (List.mem_singleton.mpr (congrArg (Prod.mk _) (by rfl))) (fun p hp e => tabs_r hp e) (hr.mono (by decide)) (LamX.lamS_by (sc := defScope s__law_right) (by decide +kernel)) rfl (fun _ _ _ _ _ => rfl) (fun A outer s H E f c' hr => pe_can CC hr (passes_call (takes_of rfl rfl rfl rfl) fun _ _ _ _ h => h) (pa_cons (pv 13) (pa_cons (pv 12) pa_nil)))
      · exact LamX.pe_lamcall (T := tabs K) (TT := TOut K) (k := 10) rfl T.g__law_outcome FR.kp lkR hcR bR sc__law_outcome rfl (.inl rfl) (out_gives T rfl rfl) TB rfl (List.mem_singleton.mpr (congrArg (Prod.mk _) (by rfl))) (fun p hp e => tabs_r hp e) (hr.mono (by decide)) (LamX.lamS_by (sc := defScope s__law_right) (by decide +kernel)) rfl (fun _ _ _ _ _ => rfl) (fun A outer s H E f c' hr => pe_callKw0 (ks := ["ring", "above"]) (g := fun _ ws => swap2 ws) (gV := fun _ zs => swap2 zs) FnC (hr.mono (by decide)) rfl T.g_check_ring FC.kp kbC (passes_call (takes_of rfl rfl rfl rfl) fun _ _ _ _ h => h) (pk_cons (pv 12) (pk_cons (pv 13) pk_nil)))
      · exact PW.pt (pw_or (pt_cmpR (op_neD hr.units) (pv 9) (pe_op op_rep (pe_lst (pa_cons (pe_can CDu hr pass0 (pa_cons (pv 4) (pa_cons (pv 8) pa_nil))) pa_nil)) pe_int) (nomark _)) (pw_or1 (pt_cmpR (op_ne_same hr) (pe_callTy call_list_of (by rfl) T.n_list (by decide +kernel) (pa_cons (pv 12) pa_nil)) (pv 10) (nomark _))))
      · refine pt_cmpR (op_neD hr.units) ?_ (pe_lst (pa_cons pe_str pa_nil)) (nomark _)
        exact LamX.pe_lamcall (T := tabs K) (TT := TOut K) (k := 10) rfl T.g__law_outcome FR.kp lkR hcR bR sc__law_outcome rfl (.inl rfl) (out_gives T rfl rfl) TB rfl (List.mem_singleton.mpr (congrArg (Prod.mk _) (by rfl))) (fun p hp e => tabs_r hp e) (hr.mono (by decide)) (LamX.lamS_by (sc := defScope s__law_right) (by decide +kernel)) rfl (fun _ _ _ _ _ => rfl) (fun A outer s H E f c' hr => pe_can CC hr (passes_call (takes_of rfl rfl rfl rfl) fun _ _ _ _ h => h) (pa_cons (pv 13) (pa_cons (pv 10) pa_nil)))
    · refine pss_one (ps_if ?_ (pss_one (ps_ret pe_bl)) pss_nil)
      refine pt_cmpR (op_neD hr.units) ?_ (pe_lst (pa_cons pe_str pa_nil)) (nomark _)
      exact LamX.pe_lamcall (T := tabs K) (TT := TOut K) (k := 10) rfl T.g__law_outcome FR.kp lkR hcR bR sc__law_outcome rfl (.inl rfl) (out_gives T rfl rfl) TB rfl (List.mem_singleton.mpr (congrArg (Prod.mk _) (by rfl))) (fun p hp e => tabs_r hp e) (hr.mono (by decide)) (LamX.lamS_by (sc := defScope s__law_right) (by decide +kernel)) rfl (fun _ _ _ _ _ => rfl) (fun A outer s H E f c' hr => pe_can CC hr (passes_call (takes_of rfl rfl rfl rfl) fun _ _ _ _ h => h) (pa_cons (pv 13) (pa_cons (pv 11) pa_nil)))
    · have S0 := S.grow
      have eG := S.up
      have g10 := g.1
      refine q_rowsI (K := K) (dm := dm) (p := p) (mk := mk) (pk := pk) (hPl.ex S.ex) g (S.ex _ _ hpk) lt (by omega) fun pr H1 hpr e1 hR => ?_
      rw [← hkl] at g lt hpos
      obtain ⟨ds, hds, hdl, _⟩ := hPl
      have hds1 := e1 _ _ (S.ex _ _ hds)
      have hlr : (refs ds).length = ka.length := by unfold refs; rw [List.length_map]; omega
      have hL := el_lcK (K := K) wk_list (tl := tVar 3) (σ := (σ0 dm p mk pk).set 4 (some (.ref pr))) (H := H1) (j := 14) (t := tYes) (te := tOp (rIxL K) (tVar 2) (tVar 14)) (vs := [14]) (ev_var rfl) (sq_of (e1 _ _ (S.ex _ _ hpk))) (fun _ => true) (fun i => match ss[i]? with | some x => V.ref (kf ka x) | none => .non) (by rw [nts_len]; omega) (fun _ => rfl)
        (fun i x H3 _ _ => fun H4 _ Q q => q H4 (Ex.refl H4))
        (fun i x H3 e3 hx _ => by
          obtain ⟨n, hn, rfl⟩ := nts_at hx
          have : (match ss[i]? with | some x => V.ref (kf ka x) | none => .non) = V.ref (kf ka n) := by rw [hn]
          rw [this]
          exact ev_op (x := .ref mk) (y := .int (n : Int)) (ev_var rfl) (ev_var rfl) (rv_ixL (sq_of ((e1.trans e3) _ _ (S.ex _ _ hmk))) (at_of rfl (at_refs (kf_mem (lt n (List.mem_of_getElem? hn)))))))
      have eL : given (nts ss).length (fun _ => true) (fun i => match ss[i]? with | some x => V.ref (kf ka x) | none => .non) = refs (ss.map (kf ka)) := by
        rw [nts_len, given_filter ss (fun _ => true) (fun x => V.ref (kf ka x)) _ _ (fun i x hx => rfl) (fun i x hx => by rw [hx]), List.filter_eq_self.mpr fun _ _ => rfl]
        unfold refs
        rw [List.map_map]
        rfl
      rw [eL] at hL
      refine q_asgE (tup2_E ?_)
      refine hL H1 (Ex.refl _) _ fun p7 H2 hp7 e2 h7 => ⟨p7, _, rfl, sq_of h7, fun t o ht ho => ?_⟩
      have e3 : Ex H2 (upd H2 t (.frz o (.tup (refs (ss.map (kf ka)))))) := Ex.new ht
      refine ⟨_, rfl, p, _, rfl, .inl (sq_of ((e2.trans e3) _ _ hds1)), by show 2 ≤ sizeLine; decide, fun tt htt => ⟨tt, _, rfl, st_of upd_same, rfl, _, _, rfl, _, _, rfl, rfl, ?_⟩⟩
      rw [hlr]
      have e4 : Ex (upd H2 t (.frz o (.tup (refs (ss.map (kf ka)))))) (upd (upd H2 t (.frz o (.tup (refs (ss.map (kf ka)))))) tt (.tup [.ref t, .int (ka.length : Int)])) := Ex.new htt
      have h3t := e4 _ _ (upd_same : upd H2 t (.frz o (.tup (refs (ss.map (kf ka))))) t = _)
      generalize hH3 : upd (upd H2 t (.frz o (.tup (refs (ss.map (kf ka)))))) tt (.tup [.ref t, .int (ka.length : Int)]) = H3 at *
      have e13 := e2.trans (e3.trans e4)
      have e03 := e1.trans e13
      have htH : H t = none := fresh_back (e1.trans e2) ht
      have S3 := S0.e e03
      have S4 := S3.grow
      have e02 := S3.up
      have eGG := eG.trans e02
      have F : Fx K (rgm dm gm H3) p mk pr t ab ls ka ss := ⟨g, hpos, eGG _ _ hmk, hK.ex eGG, lt, nds, hl8, hR _ fun b o hb ho hn => rgm_at (S.m.dm_ne hb) (S.m.gm_ne hb) (e13 _ _ ho) hn, SqD.of (rgm_at (S.m.dm_ne htH) (S.m.gm_ne htH) h3t fun _ z => nomatch z) ho⟩
      have done : ∀ sp6 H6, Sd K dm c gm (rgm dm gm H3) H6 sp6 → sp ≤ sp6 → sp6 ≤ sp + 300 → Q (.bl true) H6 := fun sp6 H6 S6 b1 b2 => fin sp6 H6 ⟨e02.trans S6.ex, S0.gd, S0.gg, S0.gt, S6.m, S6.tb, S6.s0⟩ b1 b2
      -- some
      refine q_asgE ⟨_, rfl, _, rfl, _, rfl, dm, c, gm, pr, sp, rowsOf ls ss, ka.length, rgm dm gm H3, rfl, S4.m, S4.s0, by omega, S4.ex, S4.gd, S4.gg, F.rows, by have := F.rl; omega, fun r hr => ⟨by have := (F.inrows r hr).1; omega, (F.inrows r hr).2⟩, hpos, by omega, fun ps prs sp' H4 hps R hl hok a1 a2 M4 f4 => ?_⟩
      have S5 := S4.fr f4 M4 a1
      have hps1 := S4.m.dm_ne hps
      have hps2 := S4.m.gm_ne hps
      have hps3 := S4.m.c_ne hps
      have gps : rgm dm gm H3 ps = none := by
        cases q : rgm dm gm H3 ps with
        | none => rfl
        | some u =>
          have := rgm_ex _ _ q
          rw [hps] at this
          cases this
      have hok40 : ∀ x, x ∈ prs → OkR ka.length 40 x.2 := fun x hx => (hok x hx).le (by decide)
      -- ring_here
      refine q_asgE ⟨_, rfl, _, rfl, mk, t, ka, ss.map (kf ka), linesOf ka ls ss, 20, rfl, S5.ex _ _ F.ml, by omega, F.kos S5.ex, F.abv S5.ex, fun l hl' => ⟨?_, fun H5 e5 => ?_⟩, fun hn r ring H5 e5 hr5 h5 hR5 hin h40 => ?_⟩
      · rw [F.mg] at hl'
        cases hm : Mg.merge 20 (rowsOf ls ss) with
        | none => rw [hm] at hl'; cases hl'
        | some l' =>
          rw [hm] at hl'
          obtain rfl := Option.some.inj hl'
          rw [List.length_map]
          exact F.ll hm
      · refine rd_none (K := K) fun H6 e6 => ?_
        exact rd_end ((S5.e e5).e e6) F ((R.ex e5).ex e6) (by omega) hok40 hps1 hps2 (by omega) fun sp6 H7 S7 b1 b2 => done sp6 H7 S7 (by omega) (by omega)
      · refine rd_here (S5.e e5) F (R.ex e5) hl hok40 gps hps1 hps2 hps3 h5 hR5 hin h40 fun H6 prs' S6 R6 hl6 hok6 => ?_
        exact rd_end S6 F R6 hl6 hok6 hps1 hps2 (by omega) fun sp6 H7 S7 b1 b2 => done sp6 H7 S7 (by omega) (by omega)
end
end K28
end

section
set_option Elab.async false
set_option linter.all false
set_option maxRecDepth 100000
set_option maxHeartbeats 4000000
namespace K28
open PySem PySem.Spec PyProof.Rows L2 He Cn Evl
section
variable {K : PySem.W.Frag} {dm c gm p q : Addr} {ds ka : List Addr} {ab ls : List (List Nat)} {G G' H H' : Hp} {sp sp' : Int}
/-- the plans written so far -/
def PlsAt (G : Hp) (ds : List Addr) (ab : List (List Nat)) : Prop := ∀ (i : Nat) (d : Addr) (as : List Nat), ds[i]? = some d → ab[i]? = some as →
  ∃ (kvs : List (L2.Key × V)) (la : Addr), G d = some (.dK kvs) ∧ valV kvs (.inr ("above" : Str)) = some (.ref la) ∧ G la = some (.lst (nts as))
theorem PlsAt.ex (e : Ex G G') (h : PlsAt G ds ab) : PlsAt G' ds ab := fun i d as a b => by
  obtain ⟨kvs, la, q1, q2, q3⟩ := h i d as a b
  exact ⟨kvs, la, e _ _ q1, q2, e _ _ q3⟩
/-- while the plans are written and the kinds are made -/
structure Bl (K : PySem.W.Frag) (dm gm p q : Addr) (ds ka : List Addr) (ab ls : List (List Nat)) (G H : Hp) : Prop where
  ex : Ex G H
  gd : G dm = none
  gg : G gm = none
  gp : G p = none
  gq : G q = none
  gt : ∀ b ps, G b ≠ some (.tbl ps)
  hp : H p = some (.lst (refs ds))
  hq : H q = some (.lst (refs ka))
  len : ds.length = ab.length
  lls : ls.length = ab.length
  good : GoodUp ab ls ab.length
  pl : PlsAt G ds ab
  kd : KindsAt K G ka ls
/-- the names apart -/
structure Ap (dm c gm p q : Addr) : Prop where
  pd : p ≠ dm
  pc : p ≠ c
  pg : p ≠ gm
  qd : q ≠ dm
  qc : q ≠ c
  qg : q ≠ gm
  pq : p ≠ q
theorem Bl.e (B : Bl K dm gm p q ds ka ab ls G H) (e : Ex H H') : Bl K dm gm p q ds ka ab ls G H' := ⟨B.ex.trans e, B.gd, B.gg, B.gp, B.gq, B.gt, e _ _ B.hp, e _ _ B.hq, B.len, B.lls, B.good, B.pl, B.kd⟩
theorem Bl.fr (B : Bl K dm gm p q ds ka ab ls G H) (A : Ap dm c gm p q) (f : Fr2 dm gm H H') : Bl K dm gm p q ds ka ab ls G H' := ⟨f.g B.ex B.gd B.gg, B.gd, B.gg, B.gp, B.gq, B.gt, f _ _ B.hp A.pd A.pg, f _ _ B.hq A.qd A.qg, B.len, B.lls, B.good, B.pl, B.kd⟩
/-- the heap without m's, the two lists and the tables -/
def rgp (dm gm p q : Addr) (H : Hp) : Hp := fun b => if b = p ∨ b = q then none else rgm dm gm H b
theorem rgp_at {b : Addr} {o : HO} (h1 : b ≠ dm) (h2 : b ≠ gm) (h3 : b ≠ p) (h4 : b ≠ q) (h : H b = some o) (hn : ∀ ps, o ≠ .tbl ps) : rgp dm gm p q H b = some o := by
  unfold rgp
  rw [if_neg (by simp [h3, h4])]
  exact rgm_at h1 h2 h hn
theorem rgp_ex : Ex (rgp dm gm p q H) H := fun b o h => by
  unfold rgp at h
  split at h
  · cases h
  · exact rgm_ex _ _ h
theorem rgm_no {b : Addr} {ps : _} : rgm dm gm H b ≠ some (.tbl ps) := fun h => by
  unfold rgm at h
  split at h
  · cases h
  · exact nt_no h ps rfl
theorem rgp_no {b : Addr} {ps : _} : rgp dm gm p q H b ≠ some (.tbl ps) := fun h => by
  unfold rgp at h
  split at h
  · cases h
  · exact rgm_no h
theorem rgp_d : rgp dm gm p q H dm = none := by
  unfold rgp
  split
  · rfl
  · unfold rgm
    rw [if_pos (.inl rfl)]
theorem rgp_g : rgp dm gm p q H gm = none := by
  unfold rgp
  split
  · rfl
  · unfold rgm
    rw [if_pos (.inr rfl)]
theorem rgp_p : rgp dm gm p q H p = none := by
  unfold rgp
  rw [if_pos (.inl rfl)]
theorem rgp_q : rgp dm gm p q H q = none := by
  unfold rgp
  rw [if_pos (.inr rfl)]
theorem up_of (gd : G dm = none) (gg : G gm = none) (gp : G p = none) (gq : G q = none) (gt : ∀ b ps, G b ≠ some (.tbl ps)) (e : Ex G H) : Ex G (rgp dm gm p q H) := fun b o h =>
  rgp_at (fun z => by rw [z, gd] at h; cases h) (fun z => by rw [z, gg] at h; cases h) (fun z => by rw [z, gp] at h; cases h) (fun z => by rw [z, gq] at h; cases h) (e b o h) fun ps z => gt b ps (z ▸ h)
theorem Bl.up (B : Bl K dm gm p q ds ka ab ls G H) (e : Ex G H') : Ex G (rgp dm gm p q H') := up_of B.gd B.gg B.gp B.gq B.gt e
/-- all is built: nothing of it changes any more -/
theorem Bl.sd (B : Bl K dm gm p q ds ka ab ls G H) (M : MAt H dm c gm sp) (hT : LamX.Tabs (tabs K) H) (s0 : 0 ≤ sp) : Sd K dm c gm (rgm dm gm H) H sp := ⟨rgm_ex, by unfold rgm; rw [if_pos (.inl rfl)], by unfold rgm; rw [if_pos (.inr rfl)], fun b ps => rgm_no, M, hT, s0⟩
theorem Bl.g2 (B : Bl K dm gm p q ds ka ab ls G H) : Ex G (rgm dm gm H) := fun b o h =>
  rgm_at (fun z => by rw [z, B.gd] at h; cases h) (fun z => by rw [z, B.gg] at h; cases h) (B.ex b o h) fun ps z => B.gt b ps (z ▸ h)
theorem Bl.plAt (B : Bl K dm gm p q ds ka ab ls G H) (A : Ap dm c gm p q) : PlAt (rgm dm gm H) p ab := ⟨ds, rgm_at A.pd A.pg B.hp (fun _ z => nomatch z), B.len, B.pl.ex B.g2⟩
def tCut (K : PySem.W.Frag) (tn te : TE) : TE := tSl (rSlL K) (tCall (spUp K) [] E0 (tCons (tVar 1) (tCons (tCB rLR (tCons (tCB rR1 (tCons tn tNil)) tNil)) tNil))) tNoPart (tPart te)
/-- _law_mixed_up(m, list(range(n)))[:..] -/
theorem rd_cut {σ : L2.St} {tn te : TE} {n b : Nat} {Q : VK} (v1 : σ[1]? = some (some (.ref dm))) (hn : Ev tn σ H (.int (n : Int))) (h10 : n ≤ 10) (M : MAt H dm c gm sp) (s0 : 0 ≤ sp) (s1 : sp < 300000)
    (he : ∀ H1 sp1, MAt H1 dm c gm sp1 → 0 ≤ sp1 → sp1 < 400000 → ∀ Q : VK, (∀ (j : Nat) H2, j ≤ b → MAt H2 dm c gm (sp1 + 1) → Fr2 dm gm H1 H2 → Q (.int (j : Int)) H2) → te σ H1 Q)
    (k : ∀ (pc : Addr) (as : List Nat) (H' : Hp) (sp' : Int), as.Nodup → (∀ x, x ∈ as → x < n) → as.length ≤ b → H pc = none → Fr2 dm gm H H' → MAt H' dm c gm sp' → sp ≤ sp' → sp' ≤ sp + 20 → H' pc = some (.lst (nts as)) → Q (.ref pc) H') : tCut K tn te σ H Q := by
  refine ⟨_, v1, ?_⟩
  refine hn H (Ex.refl H) _ fun H1 e1 => ⟨(n : Int), rfl, fun rg hrg => ⟨rg, n, rfl, upd_same, by omega, fun lg hlg => ?_⟩⟩
  have e2 : Ex H1 (upd H1 rg (.rng 0 (n : Int))) := Ex.new hrg
  have e3 : Ex (upd H1 rg (.rng 0 (n : Int))) (upd (upd H1 rg (.rng 0 (n : Int))) lg (.lst ((List.range n).map fun (i : Nat) => V.int (i : Int)))) := Ex.new hlg
  have e03 := (e1.trans e2).trans e3
  generalize hH3 : upd (upd H1 rg (.rng 0 (n : Int))) lg (.lst ((List.range n).map fun (i : Nat) => V.int (i : Int))) = H3 at *
  have hlg3 : H3 lg = some (.lst (nts (List.range n))) := by rw [← hH3, upd_same]; rfl
  refine ⟨dm, c, gm, lg, sp, nts (List.range n), rfl, mat_ex e03 M, s0, by omega, sq_of hlg3, by rw [nts_len, List.length_range]; omega, fun py ys H4 hperm hpy M4 h4 f4 => ?_⟩
  rw [nts_len, List.length_range] at M4
  obtain ⟨zs, rfl, hz⟩ := perm_nts hperm
  have hpydm : py ≠ dm := (mat_ex e03 M).dm_ne hpy
  have hpygm : py ≠ gm := (mat_ex e03 M).gm_ne hpy
  refine he H4 (sp + (n : Int)) M4 (by omega) (by omega) _ fun j H5 hj M5 f5 => ?_
  refine ⟨_, rfl, ?_⟩
  have h5 := f5 _ _ h4 hpydm hpygm
  refine ⟨py, nts zs, rfl, sq_of h5, fun pc hpc => ?_⟩
  have ec : cutV (nts zs) none (some (j : Int)) = nts (zs.take j) := by
    rw [cut_take]
    unfold nts
    rw [List.map_take]
  rw [ec]
  have fr : Fr2 dm gm H H5 := ((fr2_ex e03).trans f4).trans f5
  have pcH : H pc = none := fresh_m M5 fr hpc
  refine k pc (zs.take j) _ (sp + (n : Int) + 1) ?_ (fun x hx => ?_) ?_ pcH (fr.trans (fr2_ex (Ex.new hpc))) (mat_ex (Ex.new hpc) M5) (by omega) (by omega) upd_same
  · exact (hz.nodup_iff.mpr List.nodup_range).sublist (List.take_sublist _ _)
  · exact List.mem_range.mp (hz.mem_iff.mp (List.mem_of_mem_take hx))
  · rw [List.length_take]
    omega
end
end K28
end

section
set_option Elab.async false
set_option linter.all false
set_option maxRecDepth 100000
set_option maxHeartbeats 4000000
namespace K28
open PySem PySem.Spec PyProof.Rows L2 He Cn Evl
section
variable {K : PySem.W.Frag} {dm c gm p q : Addr} {ds ka : List Addr} {ab ls : List (List Nat)} {G G' H H' : Hp} {sp sp' : Int}
def tTen (K : PySem.W.Frag) : TE := tOp (rIxL K) (tLst (tCons (tC (.int 0)) (tCons (tC (.int 1)) (tCons (tC (.int 2)) (tCons (tC (.int 3)) tNil))))) (tCall spDraw [] E0 (tCons (tVar 1) (tCons (tC (.int 4)) tNil)))
theorem rd_ten {σ : L2.St} (v1 : σ[1]? = some (some (.ref dm))) : ∀ H1 sp1, MAt H1 dm c gm sp1 → 0 ≤ sp1 → sp1 < 400000 → ∀ Q : VK, (∀ (j : Nat) H2, j ≤ 3 → MAt H2 dm c gm (sp1 + 1) → Fr2 dm gm H1 H2 → Q (.int (j : Int)) H2) → tTen K σ H1 Q := fun H1 sp1 M s0 s1 Q k => by
  refine ⟨by show 4 ≤ sizeLine; decide, fun l hl => ⟨_, v1, dm, c, gm, sp1, 4, rfl, mat_ex (Ex.new hl) M, s0, by omega, by decide, by decide, fun r H2 r0 r1 M2 f2 => ?_⟩⟩
  obtain ⟨j, rfl⟩ : ∃ j : Nat, r = (j : Int) := ⟨r.toNat, by omega⟩
  refine ⟨l, [.int 0, .int 1, .int 2, .int 3], (j : Int), .int (j : Int), rfl, rfl, sq_of (f2 l _ upd_same (M.dm_ne hl) (M.gm_ne hl)), ?_, k j H2 (by omega) M2 ((fr2_ex (Ex.new hl)).trans f2)⟩
  refine at_of (j := j) rfl ?_
  match j, r1 with
  | 0, _ => rfl
  | 1, _ => rfl
  | 2, _ => rfl
  | 3, _ => rfl
  | j + 4, h => exact absurd h (by omega)
/-- 1 + _law_draw(m, 4) -/
def tOne4 : TE := tOp (rI0 fun i j => .int (i + j)) (tC (.int 1)) (tCall spDraw [] E0 (tCons (tVar 1) (tCons (tC (.int 4)) tNil)))
theorem rd_one4 {σ : L2.St} (v1 : σ[1]? = some (some (.ref dm))) : ∀ H1 sp1, MAt H1 dm c gm sp1 → 0 ≤ sp1 → sp1 < 400000 → ∀ Q : VK, (∀ (j : Nat) H2, j ≤ 4 → MAt H2 dm c gm (sp1 + 1) → Fr2 dm gm H1 H2 → Q (.int (j : Int)) H2) → tOne4 σ H1 Q := fun H1 sp1 M s0 s1 Q k => by
  refine ⟨_, v1, dm, c, gm, sp1, 4, rfl, M, s0, by omega, by decide, by decide, fun r H2 r0 r1 M2 f2 => ⟨1, r, rfl, rfl, ?_⟩⟩
  obtain ⟨j, rfl⟩ : ∃ j : Nat, r = (j : Int) := ⟨r.toNat, by omega⟩
  have := k (1 + j) H2 (by omega) M2 f2
  rw [show ((1 + j : Nat) : Int) = 1 + (j : Int) by omega] at this
  exact this
/-- [[], [], [0, 1], [1, 0]][n] if n < 4 else tops -/
def tFour (K : PySem.W.Frag) : TE := tIf (tTest (tOp (rI0 fun i j => .bl (decide (i < j))) (tVar 5) (tC (.int 4)))) (tOp (rIxL K) (tLst (tCons (tLst tNil) (tCons (tLst tNil) (tCons (tLst (tCons (tC (.int 0)) (tCons (tC (.int 1)) tNil))) (tCons (tLst (tCons (tC (.int 1)) (tCons (tC (.int 0)) tNil))) tNil))))) (tVar 5)) (tVar 6)
theorem rd_four {σ : L2.St} {n : Nat} {pc : Addr} {as : List Nat} (v5 : σ[5]? = some (some (.int (n : Int)))) (v6 : σ[6]? = some (some (.ref pc))) (nd : as.Nodup) (lt : ∀ x, x ∈ as → x < n) (h3 : as.length ≤ 3) (hpc : H pc = some (.lst (nts as))) {Q : VK}
    (k : ∀ (la : Addr) (bs : List Nat) (H' : Hp), bs.Nodup → (∀ x, x ∈ bs → x < n) → bs.length ≤ 3 → (la = pc ∨ H la = none) → Ex H H' → H' la = some (.lst (nts bs)) → Q (.ref la) H') : tFour K σ H Q := by
  have ht : EvT (tTest (tOp (rI0 fun i j => .bl (decide (i < j))) (tVar 5) (tC (.int 4)))) σ H (decide ((n : Int) < 4)) := et_test (ev_op (ev_var v5) ev_c rv_I0)
  refine ht H (Ex.refl H) _ fun H1 e1 => ?_
  by_cases h4 : n < 4
  · rw [show decide ((n : Int) < 4) = true by simp; omega]
    refine iteT ?_
    refine ⟨by show 0 ≤ sizeLine; decide, fun l0 h0 => ⟨by show 0 ≤ sizeLine; decide, fun l1 h1 => ⟨by show 2 ≤ sizeLine; decide, fun l2 h2 => ⟨by show 2 ≤ sizeLine; decide, fun l3 h3 => ⟨by show 4 ≤ sizeLine; decide, fun l4 h4 => ?_⟩⟩⟩⟩⟩
    have x1 : Ex H1 (upd H1 l0 (.lst [])) := Ex.new h0
    have y0 : upd H1 l0 (.lst []) l0 = some (.lst []) := upd_same
    generalize upd H1 l0 (.lst []) = A0 at *
    have x2 : Ex A0 (upd A0 l1 (.lst [])) := Ex.new h1
    have y1 : upd A0 l1 (.lst []) l1 = some (.lst []) := upd_same
    generalize upd A0 l1 (.lst []) = A1 at *
    have x3 : Ex A1 (upd A1 l2 (.lst [.int 0, .int 1])) := Ex.new h2
    have y2 : upd A1 l2 (.lst [.int 0, .int 1]) l2 = some (.lst [.int 0, .int 1]) := upd_same
    generalize upd A1 l2 (.lst [.int 0, .int 1]) = A2 at *
    have x4 : Ex A2 (upd A2 l3 (.lst [.int 1, .int 0])) := Ex.new h3
    have y3 : upd A2 l3 (.lst [.int 1, .int 0]) l3 = some (.lst [.int 1, .int 0]) := upd_same
    generalize upd A2 l3 (.lst [.int 1, .int 0]) = A3 at *
    have x5 : Ex A3 (upd A3 l4 (.lst [.ref l0, .ref l1, .ref l2, .ref l3])) := Ex.new h4
    have y4 : upd A3 l4 (.lst [.ref l0, .ref l1, .ref l2, .ref l3]) l4 = some (.lst [.ref l0, .ref l1, .ref l2, .ref l3]) := upd_same
    generalize upd A3 l4 (.lst [.ref l0, .ref l1, .ref l2, .ref l3]) = A4 at *
    have e04 : Ex H A4 := e1.trans (x1.trans (x2.trans (x3.trans (x4.trans x5))))
    have n0 := fresh_back e1 h0
    have n1 := fresh_back (e1.trans x1) h1
    have n2 := fresh_back (e1.trans (x1.trans x2)) h2
    have n3 := fresh_back (e1.trans (x1.trans (x2.trans x3))) h3
    refine ⟨_, v5, l4, [.ref l0, .ref l1, .ref l2, .ref l3], (n : Int), ?_⟩
    match n, ‹n < 4›, lt with
    | 0, _, lt => exact ⟨_, rfl, rfl, sq_of y4, at_of (j := 0) rfl rfl, k l0 [] A4 List.nodup_nil (fun x h => by cases h) (by decide) (.inr n0) e04 ((x2.trans (x3.trans (x4.trans x5))) _ _ y0)⟩
    | 1, _, lt => exact ⟨_, rfl, rfl, sq_of y4, at_of (j := 1) rfl rfl, k l1 [] A4 List.nodup_nil (fun x h => by cases h) (by decide) (.inr n1) e04 ((x3.trans (x4.trans x5)) _ _ y1)⟩
    | 2, _, lt => exact ⟨_, rfl, rfl, sq_of y4, at_of (j := 2) rfl rfl, k l2 [0, 1] A4 (by decide) (by decide) (by decide) (.inr n2) e04 ((x4.trans x5) _ _ y2)⟩
    | 3, _, lt => exact ⟨_, rfl, rfl, sq_of y4, at_of (j := 3) rfl rfl, k l3 [1, 0] A4 (by decide) (by decide) (by decide) (.inr n3) e04 (x5 _ _ y3)⟩
    | n + 4, h, _ => exact absurd h (by omega)
  · rw [show decide ((n : Int) < 4) = false by simp; omega]
    refine iteF ?_
    exact ⟨_, v6, k pc as H1 nd lt h3 (.inl rfl) e1 (e1 _ _ hpc)⟩
def tPlanN : TE := tDisp [(tC (.str "name"), tOp rAddS (tC (.str "K")) (tCB rStrI (tCons (tVar 5) tNil))), (tC (.str "members"), tLst tNil), (tC (.str "above"), tVar 6), (tC (.str "options"), tDNewK)]
theorem rd_planN {σ : L2.St} {n : Nat} {la : Addr} (hn : n < 8) (v5 : σ[5]? = some (some (.int (n : Int)))) (v6 : σ[6]? = some (some (.ref la))) {Q : VK}
    (k : ∀ (dn lm lo : Addr) (H' : Hp), H dn = none → Ex H H' → H' dn = some (.dK (planK (kname n) lm la lo)) → Q (.ref dn) H') : tPlanN σ H Q := by
  intro dn hdn
  refine ⟨_, v5, (n : Int), rfl, ?_, _, _, rfl, rfl, len_kname hn, by show 0 ≤ sizeLine; decide, fun lm hlm => ⟨_, v6, fun lo hlo => ?_⟩⟩
  · have : (n : Int).natAbs = n := Int.natAbs_natCast n
    rw [this]
    have : n.log2 ≤ n := Nat.log2_le_self n
    omega
  have ed : Ex H (upd H dn (.dK [])) := Ex.new hdn
  have em : Ex (upd H dn (.dK [])) (upd (upd H dn (.dK [])) lm (.lst [])) := Ex.new hlm
  have eo : Ex (upd (upd H dn (.dK [])) lm (.lst [])) (upd (upd (upd H dn (.dK [])) lm (.lst [])) lo (.dK [])) := Ex.new hlo
  refine ⟨((em.trans eo)) _ _ upd_same, planK (kname n) lm la lo, rfl, by show 4 ≤ 15; decide, ?_⟩
  rw [plan_merge]
  exact k dn lm lo _ hdn (Ex.mut ((ed.trans em).trans eo) hdn) upd_same
end
end K28
end

section
set_option Elab.async false
set_option linter.all false
set_option maxRecDepth 100000
set_option maxHeartbeats 4000000
namespace K28
open PySem PySem.Spec PyProof.Rows L2 He Cn Evl
section
variable {K : PySem.W.Frag} {dm c gm p q : Addr} {ds ka : List Addr} {ab ls : List (List Nat)} {G G' H H' : Hp} {sp sp' : Int}
theorem pls_app {dn lb : Addr} {bs : List Nat} {kvs : List (L2.Key × V)} (hl : ds.length = ab.length) (h : PlsAt G ds ab) (h1 : G dn = some (.dK kvs)) (h2 : valV kvs (.inr ("above" : Str)) = some (.ref lb)) (h3 : G lb = some (.lst (nts bs))) : PlsAt G (ds ++ [dn]) (ab ++ [bs]) := fun i d as hd has => by
  by_cases hi : i < ds.length
  · rw [List.getElem?_append_left hi] at hd
    rw [List.getElem?_append_left (by omega)] at has
    exact h i d as hd has
  · rw [List.getElem?_append_right (by omega)] at hd
    have ei : i - ds.length = 0 := by
      have := (List.getElem?_eq_some_iff.mp hd).1
      simp at this
      omega
    rw [ei] at hd
    obtain rfl : dn = d := by simpa using hd
    rw [List.getElem?_append_right (by omega), ← hl, ei] at has
    obtain rfl : bs = as := by simpa using has
    exact ⟨kvs, lb, h1, h2, h3⟩
theorem at_lastN {dn : Addr} (hl : ds.length = ab.length) : atI (refs (ds ++ [dn])) (ab.length : Int) = some (.ref dn) := at_of (j := ab.length) rfl (at_refs (by
  rw [List.getElem?_append_right (by omega)]
  simp [hl]))
theorem kds_app {r : List Nat} (hkl : ka.length = ab.length) (hls : ls.length = ab.length) (h : KindsAt K G ka ls) : KindsAt K G ka (ls ++ [r]) := ⟨h.nd, fun x hx => by
  have e : (ls ++ [r]).getD x [] = ls.getD x [] := by
    rw [List.getD_eq_getElem?_getD, List.getD_eq_getElem?_getD, List.getElem?_append_left (by omega)]
  rw [e]
  exact h.kd x hx⟩
theorem mat_dk {dn : Addr} {kvs : List (L2.Key × V)} {u : HO} (M : MAt H' dm c gm sp) (h0 : H dn = none) (M0 : MAt H dm c gm sp') (hd : H' dn = some (.dK kvs)) : MAt (upd H' dn u) dm c gm sp := by
  refine M.mut (M0.dm_ne h0) (M0.gm_ne h0) fun z => ?_
  obtain ⟨cs, _, _, q2⟩ := M.cells
  rw [z, q2] at hd
  cases hd
def tPut (K : PySem.W.Frag) : TS := tDrop (tBM K "list" rAppend (tVar 3) (tCons tPlanN tNil))
def tFix (K : PySem.W.Frag) : TS := tIfS (tB (tIsN (tCall (spLine 10) [] E0 (tCons (tVar 3) (tCons (tVar 5) tNil))))) (sDPut (tOp (rIxL K) (tVar 3) (tVar 5)) (tC (.str "above")) (tSl (rSlL K) (tVar 6) tNoPart (tPart (tC (.int 1))))) tNext
theorem rd_put {D : Ends} {tz : TS} {va v2 v7 v8 : Option V} {la : Addr} {as : List Nat} (B : Bl K dm gm p q ds ka ab ls G H) (A : Ap dm c gm p q) (hkl : ka.length = ab.length) (h8 : ab.length < 8) (M : MAt H dm c gm sp) (hT : LamX.Tabs (tabs K) H)
    (hnd : as.Nodup) (hlt : ∀ x, x ∈ as → x < ab.length) (hlen : as.length ≤ 3) (hla : H la = some (.lst (nts as))) (a1 : la ≠ dm) (a2 : la ≠ gm) (a3 : la ≠ p) (a4 : la ≠ q)
    (k : ∀ (H' : Hp) (ds' : List Addr) (ab' ls' : List (List Nat)) (G' : Hp), Bl K dm gm p q ds' ka ab' ls' G' H' → ab'.length = ab.length + 1 → MAt H' dm c gm sp → LamX.Tabs (tabs K) H' → tz D [va, some (.ref dm), v2, some (.ref p), some (.ref q), some (.int (ab.length : Int)), some (.ref la), v7, v8, none] H') :
    tSeq (tPut K) (tSeq (tFix K) tz) D [va, some (.ref dm), v2, some (.ref p), some (.ref q), some (.int (ab.length : Int)), some (.ref la), v7, v8, none] H := by
  refine ⟨_, rfl, .inl ⟨rfl, _, sq_of B.hp⟩, ?_⟩
  refine rd_planN h8 rfl rfl fun dn lm lo H1 n1 e1 h1 => ⟨p, refs ds, .ref dn, rfl, rfl, e1 _ _ B.hp, sz_lt (by unfold refs; rw [List.length_map]; have := B.len; omega), ?_⟩
  have M1 := mat_ex e1 M
  have eds : refs ds ++ [.ref dn] = refs (ds ++ [dn]) := by unfold refs; simp
  rw [eds]
  have M2 : MAt (upd H1 p (.lst (refs (ds ++ [dn])))) dm c gm sp := M1.mut A.pd A.pg A.pc
  have T2 : LamX.Tabs (tabs K) (upd H1 p (.lst (refs (ds ++ [dn])))) := tabs_k (tbk_lst (e1 _ _ B.hp)) (hT.ext e1)
  have np : dn ≠ p := (ne_of_none B.hp n1).symm
  have nq : dn ≠ q := (ne_of_none B.hq n1).symm
  have nla : dn ≠ la := (ne_of_none hla n1).symm
  have ndm := M.dm_ne n1
  have ngm := M.gm_ne n1
  have eG2 : Ex G (upd H1 p (.lst (refs (ds ++ [dn])))) := Ex.mut (B.ex.trans e1) B.gp
  have hp2 : upd H1 p (.lst (refs (ds ++ [dn]))) p = some (.lst (refs (ds ++ [dn]))) := upd_same
  have hq2 : upd H1 p (.lst (refs (ds ++ [dn]))) q = some (.lst (refs ka)) := by rw [upd_ne A.pq.symm]; exact e1 _ _ B.hq
  have d2 : upd H1 p (.lst (refs (ds ++ [dn]))) dn = some (.dK (planK (kname ab.length) lm la lo)) := by rw [upd_ne np]; exact h1
  have la2 : upd H1 p (.lst (refs (ds ++ [dn]))) la = some (.lst (nts as)) := by rw [upd_ne a3]; exact e1 _ _ hla
  have gdn : G dn = none := by
    cases z : G dn with
    | none => rfl
    | some u => rw [B.ex _ _ z] at n1; cases n1
  generalize upd H1 p (.lst (refs (ds ++ [dn]))) = H2 at *
  -- the state with a list of those above
  have made : ∀ (H' : Hp) (lb : Addr) (bs l : List Nat), Ex G H' → H' p = some (.lst (refs (ds ++ [dn]))) → H' q = some (.lst (refs ka)) → H' dn = some (.dK (planK (kname ab.length) lm lb lo)) → H' lb = some (.lst (nts bs)) → lb ≠ dm → lb ≠ gm → lb ≠ p → lb ≠ q →
      (∀ x, x ∈ bs → x < ab.length) → bs.Nodup → bs.length ≤ 4 → Mg.merge 20 (rowsOf ls bs) = some l → Bl K dm gm p q (ds ++ [dn]) ka (ab ++ [bs]) (ls ++ [ab.length :: l]) (rgp dm gm p q H') H' := fun H' lb bs l eG hp hq hd hlb k1 k2 k3 k4 lt nd len hm => by
    have up := B.up eG
    refine ⟨rgp_ex, rgp_d, rgp_g, rgp_p, rgp_q, fun b ps => rgp_no, hp, hq, by rw [List.length_append, List.length_append, B.len]; rfl, by rw [List.length_append, List.length_append, B.lls]; rfl, good_next B.good B.lls (by omega) lt nd len hm,
      pls_app B.len (B.pl.ex up) (rgp_at ndm ngm np nq hd (fun _ z => nomatch z)) plan_above (rgp_at k1 k2 k3 k4 hlb (fun _ z => nomatch z)), kds_app hkl B.lls (B.kd.ex up)⟩
  have hPl2 : PlAt H2 p (ab ++ [as]) := ⟨ds ++ [dn], hp2, by rw [List.length_append, List.length_append, B.len]; rfl, pls_app B.len (B.pl.ex eG2) d2 plan_above la2⟩
  have gA : GoodUp (ab ++ [as]) ls ab.length := ⟨B.good.1, fun i hi => by
    obtain ⟨bs, l, O⟩ := B.good.2 i hi
    exact ⟨bs, l, ⟨by rw [List.getElem?_append_left hi]; exact O.a, O.s, O.lt, O.nd, O.len, O.mg⟩⟩⟩
  have len1 : ∀ (bs : List Nat), (ab ++ [bs]).length = ab.length + 1 := fun bs => by rw [List.length_append]; rfl
  -- if _law_line(plans, n) is None
  cases hm : Mg.merge 20 (rowsOf ls as) with
  | some l =>
    refine ⟨_, rfl, _, rfl, p, ab.length, ab ++ [as], ls, as, rfl, by omega, hPl2, gA, by rw [List.getElem?_append_right (Nat.le_refl _)]; simp, hlt, hnd, by omega, by rw [len1]; omega, fun hn => (by rw [hm] at hn; cases hn), fun l' _ qq H5 _ e5 _ => ⟨_, rfl, ?_⟩⟩
    refine iteF ?_
    exact k H5 _ _ _ _ (made H5 la as l (eG2.trans e5) (e5 _ _ hp2) (e5 _ _ hq2) (e5 _ _ d2) (e5 _ _ la2) a1 a2 a3 a4 hlt hnd (by omega) hm) (len1 as) (mat_ex e5 M2) (T2.ext e5)
  | none =>
    refine ⟨_, rfl, _, rfl, p, ab.length, ab ++ [as], ls, as, rfl, by omega, hPl2, gA, by rw [List.getElem?_append_right (Nat.le_refl _)]; simp, hlt, hnd, by omega, by rw [len1]; omega, fun _ H5 e5 => ⟨_, rfl, ?_⟩, fun l' hl' => (by rw [hm] at hl'; cases hl')⟩
    refine iteT ?_
    have asne : as ≠ [] := by
      intro z
      subst z
      have : Mg.merge 20 (rowsOf ls []) = some [] := rfl
      rw [this] at hm
      cases hm
    obtain ⟨x, hx1, hx2⟩ := take_1 asne
    obtain ⟨l, hl⟩ := one_above B.good (hlt x hx2)
    have la5 := e5 _ _ la2
    refine ⟨_, rfl, 1, rfl, la, nts as, rfl, sq_of la5, fun pe hpe => ?_⟩
    rw [cut_take1, hx1]
    have hp5 := e5 _ _ hp2
    have hq5 := e5 _ _ hq2
    have d5 := e5 _ _ d2
    have M5 := mat_ex e5 M2
    have hped : pe ≠ dn := (ne_of_none d5 hpe).symm
    have hpep : pe ≠ p := (ne_of_none hp5 hpe).symm
    have hpeq : pe ≠ q := (ne_of_none hq5 hpe).symm
    have hpem := M5.dm_ne hpe
    have hpeg := M5.gm_ne hpe
    have e6 : Ex H5 (upd H5 pe (.lst (nts [x]))) := Ex.new hpe
    have h6e : upd H5 pe (.lst (nts [x])) pe = some (.lst (nts [x])) := upd_same
    generalize upd H5 pe (.lst (nts [x])) = H6 at *
    have hp6 := e6 _ _ hp5
    have d6 := e6 _ _ d5
    refine ⟨_, rfl, _, rfl, p, _, _, .ref dn, rfl, rfl, sq_of hp6, at_lastN B.len, dn, _, rfl, DPut.k (k := .inr "above") d6 (by show 4 < sizeLine; decide), ?_⟩
    rw [plan_put]
    have e56 := e5.trans e6
    exact k _ _ _ _ _ (made _ pe [x] l (Ex.mut (eG2.trans e56) gdn) (by rw [upd_ne np.symm]; exact hp6) (by rw [upd_ne nq.symm]; exact e56 _ _ hq2) upd_same (by rw [upd_ne hped]; exact h6e) hpem hpeg hpep hpeq (fun y hy => by rw [List.mem_singleton.mp hy]; exact hlt x hx2) (by simp) (by show 1 ≤ 4; decide) hl) (len1 [x]) (mat_dk (mat_ex e6 M5) n1 M d6) (tabs_k (tbk_dk d6) (T2.ext e56))
end
end K28
end

section
set_option Elab.async false
set_option linter.all false
set_option maxRecDepth 100000
set_option maxHeartbeats 4000000
namespace K28
open PySem PySem.Spec PyProof.Rows L2 He Cn Evl
section
variable {K : PySem.W.Frag} {dm c gm p q : Addr} {ds ka : List Addr} {ab ls : List (List Nat)} {G G' H H' : Hp} {sp sp' : Int}
/-- what a heap keeps that is no list, no dict and no table -/
def Kp (H G : Hp) : Prop := ∀ b o, H b = some o → (∀ xs, o ≠ .lst xs) → (∀ kvs, o ≠ .dK kvs) → (∀ ps, o ≠ .tbl ps) → G b = some o
theorem sqt_kp (k : Kp H G) {a : Addr} {xs : List V} (h : SqT K H a xs) : SqT K G a xs := by
  rcases h with h | h
  · rcases h with h | ⟨o, h⟩
    · exact .inl (.inl (k _ _ h (fun _ z => nomatch z) (fun _ z => nomatch z) (fun _ z => nomatch z)))
    · exact .inl (.inr ⟨o, k _ _ h (fun _ z => nomatch z) (fun _ z => nomatch z) (fun _ z => nomatch z)⟩)
  · exact .inr h
theorem sqd_kp (k : Kp H G) {a : Addr} {xs : List V} (h : SqD K H a xs) : SqD K G a xs := by
  refine ⟨sqt_kp k h.1, ?_⟩
  rcases h.2 with ⟨o, u, h1, h2⟩ | h
  · exact .inl ⟨o, u, k _ _ h1 (fun _ z => nomatch z) (fun _ z => nomatch z) (fun _ z => nomatch z), h2⟩
  · exact .inr h
theorem kd_kp (k : Kp H G) {a : Addr} {l : List Addr} (h : KdAt K H a l) : KdAt K G a l := by
  obtain ⟨dx, q, m, fs, h1, h2, h3, h4, h5, h6⟩ := h
  exact ⟨dx, q, m, fs, k _ _ h1 (fun _ z => nomatch z) (fun _ z => nomatch z) (fun _ z => nomatch z), h2, sqd_kp k h3, h4, sqt_kp k h5, h6⟩
theorem rgp_kp {xs ys : List V} {u : HO} (M : MAt H dm c gm sp) (hp : H p = some (.lst xs)) (hq : H q = some (.lst ys)) : Kp H (rgp dm gm p q (upd H q u)) := fun b o h h1 h2 h3 => by
  have n1 : b ≠ dm := fun z => by rw [z, M.ob] at h; exact h2 _ (Option.some.inj h).symm
  obtain ⟨gs, _, q3⟩ := M.great
  have n2 : b ≠ gm := fun z => by rw [z, q3] at h; exact h1 _ (Option.some.inj h).symm
  have n3 : b ≠ p := fun z => by rw [z, hp] at h; exact h1 _ (Option.some.inj h).symm
  have n4 : b ≠ q := fun z => by rw [z, hq] at h; exact h1 _ (Option.some.inj h).symm
  exact rgp_at n1 n2 n3 n4 (by rw [upd_ne n4]; exact h) h3
theorem kinds_next {a : Addr} {l : List Nat} (hK : KindsAt K G ka ls) (e : Ex G G') (g : GoodUp ab ls ab.length) (hab : ka.length + 1 = ab.length) (O : ls[ka.length]? = some (ka.length :: l)) (hka : a ∉ ka) (hlm : ∀ y, y ∈ l → y < ka.length) (hkd : KdAt K G' a (a :: l.map (kf ka))) : KindsAt K G' (ka ++ [a]) ls := by
  refine ⟨List.nodup_append.mpr ⟨hK.nd, by simp, fun x hx y hy => by
    obtain rfl := List.mem_singleton.mp hy
    exact fun z => hka (z ▸ hx)⟩, fun x hx => ?_⟩
  rw [List.length_append] at hx
  have hx : x < ka.length + 1 := hx
  have mapeq : ∀ (r : List Nat), (∀ y, y ∈ r → y < ka.length) → r.map (kf (ka ++ [a])) = r.map (kf ka) := fun r hr => List.map_congr_left fun y hy => kf_app (hr y hy)
  by_cases hxi : x < ka.length
  · rw [kf_app hxi]
    obtain ⟨as', l', O'⟩ := g.2 x (by omega)
    rw [getD_of O'.s, mapeq _ fun y hy => by have := (good_mem g x (by omega) _ O'.s).2 y hy; omega]
    have := hK.kd x hxi
    rw [getD_of O'.s] at this
    exact this.ex e
  · have hxe : x = ka.length := by omega
    subst hxe
    rw [kf_app_len, getD_of O, List.map_cons, kf_app_len, mapeq l hlm]
    exact hkd
def tAbv (K : PySem.W.Frag) : TE := tLc (iList K (tDGet (tOp (rIxL K) (tVar 3) (tVar 5)) (tC (.str "above")))) (gName 9) tYes (tOp (rIxL K) (tVar 4) (tVar 9)) [9]
def tKof (K : PySem.W.Frag) : TE := ClX.tCMeth (kC K) (fun vs H Q E => spOf K (vs ++ [V.non]) H Q E) E0 (tC (.ref (kC K))) (tCons (tOp rAddS (tC (.str "K")) (tCB rStrI (tCons (tVar 5) tNil))) (tCons (tTup tNil) (tCons (tCB (rTupOf K) (tCons (tAbv K) tNil)) tNil)))
def tMade (K : PySem.W.Frag) : TS := tDrop (tBM K "list" rAppend (tVar 4) (tCons (tKof K) tNil))
theorem rd_made {D : Ends} {va v2 v6 v7 v8 : Option V} (B : Bl K dm gm p q ds ka ab ls G H) (A : Ap dm c gm p q) (hkl : ka.length + 1 = ab.length) (h8 : ab.length ≤ 8) (M : MAt H dm c gm sp) (hT : LamX.Tabs (tabs K) H)
    (k : ∀ (H' : Hp) (a : Addr) (G' : Hp), Bl K dm gm p q ds (ka ++ [a]) ab ls G' H' → MAt H' dm c gm sp → LamX.Tabs (tabs K) H' → D.nx [va, some (.ref dm), v2, some (.ref p), some (.ref q), some (.int (ka.length : Int)), v6, v7, v8, none] H') :
    tMade K D [va, some (.ref dm), v2, some (.ref p), some (.ref q), some (.int (ka.length : Int)), v6, v7, v8, none] H := by
  obtain ⟨as, l, O⟩ := B.good.2 ka.length (by omega)
  have g' : GoodUp ab ls ka.length := ⟨by have := B.good.1; omega, fun j hj => B.good.2 j (by omega)⟩
  obtain ⟨d, hd⟩ : ∃ d, ds[ka.length]? = some d := at_some (by have := B.len; omega)
  obtain ⟨kvs, la, q1, q4, q7⟩ := B.pl _ d as hd O.a
  refine ⟨_, rfl, .inl ⟨rfl, _, sq_of B.hq⟩, ?_⟩
  refine ⟨rfl, _, rfl, (ka.length : Int), rfl, ?_, _, _, rfl, rfl, len_kname (by omega), by show 0 ≤ sizeLine; decide, fun m hm => ?_⟩
  · have : (ka.length : Int).natAbs = ka.length := Int.natAbs_natCast _
    rw [this]
    have : ka.length.log2 ≤ ka.length := Nat.log2_le_self _
    omega
  have e1 : Ex H (upd H m (.tup [])) := Ex.new hm
  have hm1 : upd H m (.tup []) m = some (.tup []) := upd_same
  generalize upd H m (.tup []) = H1 at *
  have hka : ∀ x, x < ka.length → (refs ka)[x]? = some (.ref (kf ka x)) := fun x hx => at_refs (kf_mem hx)
  have hL := el_lcK (K := K) wk_list (tl := tDGet (tOp (rIxL K) (tVar 3) (tVar 5)) (tC (.str "above"))) (σ := [va, some (.ref dm), v2, some (.ref p), some (.ref q), some (.int (ka.length : Int)), v6, v7, v8, none]) (H := H1) (j := 9) (t := tYes) (te := tOp (rIxL K) (tVar 4) (tVar 9)) (vs := [9])
    (ev_dget (k := .inr "above") (ev_op (ev_var rfl) (ev_var rfl) (rv_ixL (sq_of (e1 _ _ B.hp)) (at_of rfl (at_refs hd)))) ev_c (e1 _ _ (B.ex _ _ q1)) q4) (sq_of (e1 _ _ (B.ex _ _ q7))) (fun _ => true) (fun i => match as[i]? with | some x => V.ref (kf ka x) | none => .non) (by rw [nts_len]; have := O.len; omega) (fun x => rfl)
    (fun i x H3 _ _ => fun H4 _ Q q => q H4 (Ex.refl H4))
    (fun i x H3 e3 hx _ => by
      obtain ⟨n, hn, rfl⟩ := nts_at hx
      have : (match as[i]? with | some x => V.ref (kf ka x) | none => .non) = V.ref (kf ka n) := by rw [hn]
      rw [this]
      exact ev_op (ev_var rfl) (ev_var rfl) (rv_ixL (sq_of (e3 _ _ (e1 _ _ B.hq))) (at_of rfl (hka n (O.lt n (List.mem_of_getElem? hn))))))
  have eL : given (nts as).length (fun _ => true) (fun i => match as[i]? with | some x => V.ref (kf ka x) | none => .non) = refs (as.map (kf ka)) := by
    rw [nts_len, given_filter as (fun _ => true) (fun x => V.ref (kf ka x)) _ _ (fun i x hx => rfl) (fun i x hx => by rw [hx]), List.filter_eq_self.mpr fun _ _ => rfl]
    unfold refs
    rw [List.map_map]
    rfl
  rw [eL] at hL
  refine (en_tupOf (K := K) hL) H1 (Ex.refl _) _ fun pt H4 hpt e4 h4 => ?_
  have e04 := e1.trans e4
  have hA := abv_of (B.kd.ex (B.ex.trans e04)) g' O.lt O.nd (by have := O.len; omega) (st_of h4)
  have hmg := merge_of B.kd.nd g' O.lt O.nd
  rw [O.mg] at hmg
  have hgm := good_mem B.good ka.length (by omega) _ O.s
  have hlm : ∀ y, y ∈ l → y < ka.length := fun y hy => by
    have h1 := hgm.2 y (List.mem_cons_of_mem _ hy)
    have h2 : y ≠ ka.length := fun z => (List.nodup_cons.mp hgm.1).1 (z ▸ hy)
    omega
  have hl10 : l.length ≤ 10 := by
    have := nodup_len l (List.range ka.length) (List.nodup_cons.mp hgm.1).2 fun y hy => List.mem_range.mpr (hlm y hy)
    rw [List.length_range] at this
    have := B.good.1
    omega
  refine ⟨kname ka.length, m, pt, as.map (kf ka), ka, _, 20, rfl, good_kname (by omega), e4 _ _ hm1, hA, fun l' hl' => ?_, fun hn => ?_⟩
  · rw [hmg] at hl'
    obtain rfl := Option.some.inj hl'
    refine ⟨by rw [List.length_map]; omega, fun a dx H5 ha M5 e5 => ?_⟩
    have e05 := e04.trans e5
    have hq5 := e05 _ _ B.hq
    have hp5 := e05 _ _ B.hp
    refine ⟨q, refs ka, .ref a, rfl, rfl, hq5, sz_lt (by have := B.good.1; unfold refs; rw [List.length_map]; omega), ?_⟩
    have hnotin : a ∉ ka := fun z => by
      obtain ⟨j, hj⟩ := List.mem_iff_getElem?.mp z
      have hjl := (List.getElem?_eq_some_iff.mp hj).1
      obtain ⟨dx', fs', h'⟩ := ((B.kd.ex (B.ex.trans e04)).kd j hjl).ko
      rw [kf_at hj, ha] at h'
      cases h'
    have eu : Ex G (upd H5 q (.lst (refs ka ++ [.ref a]))) := Ex.mut (B.ex.trans e05) B.gq
    have up := B.up eu
    have M5' := mat_ex e05 M
    refine k _ a (rgp dm gm p q (upd H5 q (.lst (refs ka ++ [.ref a])))) ⟨rgp_ex, rgp_d, rgp_g, rgp_p, rgp_q, fun b ps => rgp_no, by rw [upd_ne A.pq]; exact hp5, by rw [upd_same]; unfold refs; simp, B.len, B.lls, B.good, B.pl.ex up, kinds_next B.kd up B.good hkl O.s hnotin hlm (kd_kp (rgp_kp M5' hp5 hq5) M5.kd)⟩ (M5'.mut A.qd A.qg A.qc) (tabs_k (tbk_lst hq5) (hT.ext e05))
  · rw [hmg] at hn
    cases hn
end
end K28
end

section
set_option Elab.async false
set_option linter.all false
set_option maxRecDepth 100000
set_option maxHeartbeats 4000000
namespace K28
open PySem PySem.Spec PyProof.Rows L2 He Cn Evl
section
variable {K : PySem.W.Frag} {dm c gm p q : Addr} {ds ka : List Addr} {ab ls : List (List Nat)} {G G' H H' : Hp} {sp sp' : Int}
def tStep (K : PySem.W.Frag) : TS := tSeq (tAsg (tCut K (tVar 5) (tTen K)) (gName 6)) (tSeq (tAsg (tFour K) (gName 6)) (tSeq (tPut K) (tSeq (tFix K) (tMade K))))
theorem rd_step {D : Ends} {va v2 v6 v7 v8 : Option V} {n : Nat} (hn : n = ab.length) (B : Bl K dm gm p q ds ka ab ls G H) (A : Ap dm c gm p q) (hkl : ka.length = ab.length) (h8 : ab.length < 8) (M : MAt H dm c gm sp) (s0 : 0 ≤ sp) (s1 : sp < 300000) (hT : LamX.Tabs (tabs K) H)
    (k : ∀ (H' : Hp) (ds' ka' : List Addr) (ab' ls' : List (List Nat)) (G' : Hp) (sp' : Int) (w6 : Option V), Bl K dm gm p q ds' ka' ab' ls' G' H' → ka'.length = ab'.length → ab'.length = ab.length + 1 → MAt H' dm c gm sp' → sp ≤ sp' → sp' ≤ sp + 20 → LamX.Tabs (tabs K) H' → D.nx [va, some (.ref dm), v2, some (.ref p), some (.ref q), some (.int (n : Int)), w6, v7, v8, none] H') :
    tStep K D [va, some (.ref dm), v2, some (.ref p), some (.ref q), some (.int (n : Int)), v6, v7, v8, none] H := by
  subst hn
  unfold tStep
  refine q_asgE ?_
  refine rd_cut (n := ab.length) (b := 3) rfl (ev_var rfl) (by omega) M s0 s1 (rd_ten rfl) fun pc as H1 sp1 hnd hlt hlen hpc f1 M1 b1 b2 h1 => ?_
  have B1 := B.fr A f1
  have T1 : LamX.Tabs (tabs K) H1 := tabs_fr M f1 hT
  show tSeq (tAsg (tFour K) (gName 6)) _ D [va, some (.ref dm), v2, some (.ref p), some (.ref q), some (.int (ab.length : Int)), some (.ref pc), v7, v8, none] H1
  refine q_asgE ?_
  refine rd_four (n := ab.length) rfl rfl hnd hlt hlen h1 fun la bs H2 bnd blt blen hla e2 h2 => ?_
  show tSeq (tPut K) _ D [va, some (.ref dm), v2, some (.ref p), some (.ref q), some (.int (ab.length : Int)), some (.ref la), v7, v8, none] H2
  have a1 : la ≠ dm := by
    rcases hla with rfl | h
    · exact M.dm_ne hpc
    · exact M1.dm_ne h
  have a2 : la ≠ gm := by
    rcases hla with rfl | h
    · exact M.gm_ne hpc
    · exact M1.gm_ne h
  have a3 : la ≠ p := by
    rcases hla with rfl | h
    · exact (ne_of_none B.hp hpc).symm
    · exact (ne_of_none B1.hp h).symm
  have a4 : la ≠ q := by
    rcases hla with rfl | h
    · exact (ne_of_none B.hq hpc).symm
    · exact (ne_of_none B1.hq h).symm
  refine rd_put (B1.e e2) A hkl h8 (mat_ex e2 M1) (T1.ext e2) bnd blt blen h2 a1 a2 a3 a4 fun H3 ds3 ab3 ls3 G3 B3 hab M3 T3 => ?_
  have e0 : (ab.length : Int) = (ka.length : Int) := by rw [hkl]
  rw [e0]
  refine rd_made B3 A (by omega) (by omega) M3 T3 fun H4 a G4 B4 M4 T4 => ?_
  rw [← e0]
  exact k H4 _ _ _ _ G4 sp1 _ B4 (by rw [List.length_append]; show _ + 1 = _; omega) hab M4 b1 b2 T4
def tBuild (K : PySem.W.Frag) : TS := tFor (iRng1 (tCons (tOp (rI0 fun i j => .int (i + j)) (tC (.int 4)) (tCall spDraw [] E0 (tCons (tVar 1) (tCons (tC (.int 5)) tNil)))) tNil)) (gName 5) (tStep K)
def tPair0 (K : PySem.W.Frag) : TS := tAsg (tTup (tCons (tLst tNil) (tCons (tLst tNil) tNil))) (gTup K 2 (gCons (gName 3) (gCons (gName 4) gNil)))
theorem rd_build {D : Ends} {tz : TS} {va v2 v3 v4 v5 v6 v7 v8 : Option V} (M : MAt H dm c gm sp) (s0 : 0 ≤ sp) (s1 : sp < 200000) (hT : LamX.Tabs (tabs K) H)
    (k : ∀ (p q : Addr) (ds ka : List Addr) (ab ls : List (List Nat)) (G H' : Hp) (sp' : Int) (w5 w6 : Option V), Ap dm c gm p q → Bl K dm gm p q ds ka ab ls G H' → ka.length = ab.length → 4 ≤ ab.length → ab.length ≤ 8 → MAt H' dm c gm sp' → sp ≤ sp' → sp' ≤ sp + 200 → LamX.Tabs (tabs K) H' → tz D [va, some (.ref dm), v2, some (.ref p), some (.ref q), w5, w6, v7, v8, none] H') :
    tSeq (tPair0 K) (tSeq (tBuild K) tz) D [va, some (.ref dm), v2, v3, v4, v5, v6, v7, v8, none] H := by
  unfold tPair0
  refine q_asgE ?_
  refine ⟨by show 0 ≤ sizeLine; decide, fun p hp => ⟨by show 0 ≤ sizeLine; decide, fun q hq => ⟨by show 2 ≤ sizeLine; decide, fun tp htp => ⟨tp, _, rfl, st_of upd_same, rfl, _, _, rfl, _, _, rfl, rfl, ?_⟩⟩⟩⟩
  have e1 : Ex H (upd H p (.lst [])) := Ex.new hp
  have hp1 : upd H p (.lst []) p = some (.lst []) := upd_same
  generalize upd H p (.lst []) = H1 at *
  have M1 := mat_ex e1 M
  have e2 : Ex H1 (upd H1 q (.lst [])) := Ex.new hq
  have hq2 : upd H1 q (.lst []) q = some (.lst []) := upd_same
  generalize upd H1 q (.lst []) = H2 at *
  have e3 : Ex H2 (upd H2 tp (.tup [.ref p, .ref q])) := Ex.new htp
  generalize upd H2 tp (.tup [.ref p, .ref q]) = H3 at *
  have A : Ap dm c gm p q := ⟨M.dm_ne hp, M.c_ne hp, M.gm_ne hp, M1.dm_ne hq, M1.c_ne hq, M1.gm_ne hq, ne_of_none hp1 hq⟩
  have e03 := (e1.trans e2).trans e3
  have M3 := mat_ex e03 M
  have B3 : Bl K dm gm p q [] [] [] [] (fun _ => none) H3 := ⟨(fun b o h => nomatch h), rfl, rfl, rfl, rfl, (fun b ps h => nomatch h), (e2.trans e3) _ _ hp1, e3 _ _ hq2, rfl, rfl, ⟨by decide, fun i hi => absurd hi (Nat.not_lt_zero _)⟩, (fun i d as hd _ => by simp at hd), ⟨List.nodup_nil, fun x hx => absurd hx (Nat.not_lt_zero _)⟩⟩
  have T3 := hT.ext e03
  show tSeq (tBuild K) tz D [va, some (.ref dm), v2, some (.ref p), some (.ref q), v5, v6, v7, v8, none] H3
  unfold tBuild
  refine ⟨_, rfl, dm, c, gm, sp, 5, rfl, M3, s0, by omega, by decide, by decide, fun r H4 hr0 hr1 M4 f4 => ?_⟩
  refine ⟨4, r, rfl, rfl, 4 + r, rfl, by omega, by omega, ?_⟩
  have B4 := B3.fr A f4
  have T4 : LamX.Tabs (tabs K) H4 := tabs_fr M3 f4 T3
  refine for_range (D := { D with nx := tz D }) (lo := 0) (n := (4 + r).toNat) (fun i σ H' => ∃ (w5 w6 : Option V) (ds ka : List Addr) (ab ls : List (List Nat)) (G : Hp) (sp' : Int), σ = [va, some (.ref dm), v2, some (.ref p), some (.ref q), w5, w6, v7, v8, none] ∧ Bl K dm gm p q ds ka ab ls G H' ∧ ka.length = ab.length ∧ ab.length = i ∧ MAt H' dm c gm sp' ∧ sp + 1 ≤ sp' ∧ sp' ≤ sp + 1 + 20 * (i : Int) ∧ LamX.Tabs (tabs K) H') ⟨_, _, [], [], [], [], _, sp + 1, rfl, B4, rfl, rfl, M4, by omega, by omega, T4⟩ ?_ ?_
  · rintro i σ H5 hi ⟨w5, w6, ds, ka, ab, ls, G, sp5, rfl, B5, hkl, hab, M5, a1, a2, T5⟩
    have e0 : (0 : Int) + (i : Int) = (i : Int) := Int.zero_add _
    show tStep K _ [va, some (.ref dm), v2, some (.ref p), some (.ref q), some (.int ((0 : Int) + (i : Int))), w6, v7, v8, none] H5
    rw [e0]
    refine rd_step hab.symm B5 A hkl (by omega) M5 (by omega) (by omega) T5 fun H6 ds6 ka6 ab6 ls6 G6 sp6 w6' B6 h1 h2 M6 b1 b2 T6 => ?_
    exact ⟨_, w6', ds6, ka6, ab6, ls6, G6, sp6, rfl, B6, h1, by omega, M6, by omega, by omega, T6⟩
  · rintro σ H5 ⟨w5, w6, ds, ka, ab, ls, G, sp5, rfl, B5, hkl, hab, M5, a1, a2, T5⟩
    exact k p q ds ka ab ls G H5 sp5 w5 w6 A B5 hkl (by omega) (by omega) M5 (by omega) (by omega) T5
end
end K28
end

section
set_option Elab.async false
set_option linter.all false
set_option maxRecDepth 100000
set_option maxHeartbeats 4000000
namespace K28
open PySem PySem.Spec PyProof.Rows L2 He Cn Evl
section
variable {K : PySem.W.Frag} {dm c gm p q : Addr} {ds ka : List Addr} {ab ls : List (List Nat)} {G G' H H' : Hp} {sp sp' : Int}
/-- all is built: what _law_right asks for, but for the spots -/
structure Dn (p q : Addr) (ka : List Addr) (ab ls : List (List Nat)) (K : PySem.W.Frag) (G : Hp) : Prop where
  pl : PlAt G p ab
  g : GoodUp ab ls ab.length
  kl : ka.length = ab.length
  n4 : 4 ≤ ab.length
  n8 : ab.length ≤ 8
  ml : G q = some (.lst (refs ka))
  kd : KindsAt K G ka ls
theorem Dn.ex (e : Ex G G') (D : Dn p q ka ab ls K G) : Dn p q ka ab ls K G' := ⟨D.pl.ex e, D.g, D.kl, D.n4, D.n8, e _ _ D.ml, D.kd.ex e⟩
def tPick (K : PySem.W.Frag) : TE := tIf (tTest (tOp rEq (tVar 7) (tC (.int 0)))) (tOp rCat (tLst (tCons (tC (.int 3)) (tCons (tC (.int 2)) tNil))) (tLc (iList K (tVar 8)) (gName 9) (tTest (tOp (rIn K true) (tVar 9) (tTup (tCons (tC (.int 2)) (tCons (tC (.int 3)) tNil))))) (tVar 9) [9])) (tVar 8)
theorem ev_pick {va v2 v5 v6 : Option V} {i n : Nat} {pk : Addr} {as : List Nat} (n4 : 4 ≤ n) (nd : as.Nodup) (lt : ∀ x, x ∈ as → x < n) (hl : as.length ≤ 4) (hpk : H pk = some (.lst (nts as))) {Q : VK}
    (k : ∀ (pk' : Addr) (ss : List Nat) (H' : Hp), ss.Nodup → (∀ x, x ∈ ss → x < n) → ss.length ≤ 6 → (pk' = pk ∨ H pk' = none) → Ex H H' → H' pk' = some (.lst (nts ss)) → Q (.ref pk') H') :
    tPick K [va, some (.ref dm), v2, some (.ref p), some (.ref q), v5, v6, some (.int (i : Int)), some (.ref pk), none] H Q := by
  have ht : EvT (tTest (tOp rEq (tVar 7) (tC (.int 0)))) [va, some (.ref dm), v2, some (.ref p), some (.ref q), v5, v6, some (.int (i : Int)), some (.ref pk), none] H (decide (V.int (i : Int) = .int 0)) := et_test (ev_op (ev_var rfl) ev_c (rv_eq rfl))
  refine ht H (Ex.refl H) _ fun H1 e1 => ?_
  by_cases h0 : V.int (i : Int) = .int 0
  · rw [decide_eq_true h0]
    refine iteT ?_
    have hL := el_lcK (K := K) wk_list (tl := tVar 8) (σ := [va, some (.ref dm), v2, some (.ref p), some (.ref q), v5, v6, some (.int (i : Int)), some (.ref pk), none]) (H := H1) (j := 9) (t := tTest (tOp (rIn K true) (tVar 9) (tTup (tCons (tC (.int 2)) (tCons (tC (.int 3)) tNil))))) (te := tVar 9) (vs := [9])
      (ev_var rfl) (sq_of (e1 _ _ hpk)) (fun i => match as[i]? with | some x => !decide (x ∈ [2, 3]) | none => false) (fun i => match as[i]? with | some x => V.int (x : Int) | none => .non) (by rw [nts_len]; omega) (fun x => rfl)
      (fun i x H3 e3 hx => by
        obtain ⟨m, hm, rfl⟩ := nts_at hx
        rw [hm]
        intro H4 e4 Q q
        refine ⟨_, rfl, by show 2 ≤ sizeLine; decide, fun t ht => ⟨t, nts [2, 3], rfl, .inr (st_of upd_same), rfl, rfl, _, rfl, ?_⟩⟩
        rw [if_pos rfl, inV_nts]
        exact q _ (Ex.new ht))
      (fun i x H3 e3 hx _ => by
        obtain ⟨m, hm, rfl⟩ := nts_at hx
        have : (match as[i]? with | some x => V.int (x : Int) | none => .non) = V.int (m : Int) := by rw [hm]
        rw [this]
        exact ev_var rfl)
    have eL : given (nts as).length (fun i => match as[i]? with | some x => !decide (x ∈ [2, 3]) | none => false) (fun i => match as[i]? with | some x => V.int (x : Int) | none => .non) = nts (as.filter fun x => !decide (x ∈ [2, 3])) := by
      rw [nts_len, given_filter as (fun x => !decide (x ∈ [2, 3])) (fun x => V.int (x : Int)) _ _ (fun i x hx => by rw [hx]) (fun i x hx => by rw [hx])]
      rfl
    rw [eL] at hL
    have hfl : (as.filter fun x => !decide (x ∈ [2, 3])).length ≤ 4 := Nat.le_trans (List.length_filter_le _ _) hl
    refine (el_cat (el_lst (ea_cons ev_c (ea_cons ev_c ea_nil)) (by decide)) hL (by rw [nts_len]; show 2 + _ ≤ _; omega)) H1 (Ex.refl _) _ fun pk' H2 hp2 e2 h2 => ?_
    have hin : ∀ x, x ∈ as.filter (fun x => !decide (x ∈ [2, 3])) → x ∈ as ∧ x ≠ 2 ∧ x ≠ 3 := fun x hx => by
      obtain ⟨a, b⟩ := List.mem_filter.mp hx
      simp at b
      exact ⟨a, b.1, b.2⟩
    refine k pk' (3 :: 2 :: as.filter fun x => !decide (x ∈ [2, 3])) H2 ?_ ?_ ?_ (.inr (fresh_back e1 hp2)) (e1.trans e2) h2
    · refine List.nodup_cons.mpr ⟨fun h => ?_, List.nodup_cons.mpr ⟨fun h => (hin 2 h).2.1 rfl, nd.sublist (List.filter_sublist)⟩⟩
      rcases List.mem_cons.mp h with h | h
      · cases h
      · exact (hin 3 h).2.2 rfl
    · intro x hx
      rcases List.mem_cons.mp hx with h | h
      · omega
      · rcases List.mem_cons.mp h with h | h
        · omega
        · exact lt x (hin x h).1
    · show _ + 1 + 1 ≤ 6
      omega
  · rw [decide_eq_false h0]
    refine iteF ?_
    exact ⟨_, rfl, k pk as H1 nd lt (by omega) (.inl rfl) e1 (e1 _ _ hpk)⟩
def tAsk (K : PySem.W.Frag) (te : TE) : TT := tNot (tB (tCall (spRight K) [] E0 (tCons (tVar 1) (tCons (tVar 3) (tCons (tVar 4) (tCons te tNil))))))
def tTry (K : PySem.W.Frag) : TS := tSeq (tAsg (tCut K (tCB (rLenS K) (tCons (tVar 3) tNil)) tOne4) (gName 8)) (tSeq (tAsg (tPick K) (gName 8)) (tIfS (tAsk K (tVar 8)) (tRet (tC (.bl false))) tNext))
theorem rd_ask {va v2 v5 v6 v7 v8 : Option V} {te : TE} {D : Ends} (S : Sd K dm c gm G H sp) (s1 : sp < 90000) (Dd : Dn p q ka ab ls K G)
    (he : ∀ QV : VK, (∀ pk ss H1, ss.Nodup → (∀ x, x ∈ ss → x < ab.length) → ss.length ≤ 8 → (H pk = none ∨ (H pk = some (.lst (nts ss)) ∧ pk ≠ dm ∧ pk ≠ gm)) → Ex H H1 → H1 pk = some (.lst (nts ss)) → QV (.ref pk) H1) → te [va, some (.ref dm), v2, some (.ref p), some (.ref q), v5, v6, v7, v8, none] H QV)
    (k : ∀ sp' H', Sd K dm c gm G H' sp' → sp ≤ sp' → sp' ≤ sp + 300 → D.nx [va, some (.ref dm), v2, some (.ref p), some (.ref q), v5, v6, v7, v8, none] H') :
    tIfS (tAsk K te) (tRet (tC (.bl false))) tNext D [va, some (.ref dm), v2, some (.ref p), some (.ref q), v5, v6, v7, v8, none] H := by
  refine ⟨_, rfl, _, rfl, _, rfl, ?_⟩
  refine he _ fun pk ss H1 nd lt hl hpk e1 h1 => ?_
  have S1 := S.e e1
  have S2 := S1.grow
  have Dd1 := Dd.ex S1.up
  have n1 : pk ≠ dm := by
    rcases hpk with h | ⟨_, h, _⟩
    · exact S.m.dm_ne h
    · exact h
  have n2 : pk ≠ gm := by
    rcases hpk with h | ⟨_, _, h⟩
    · exact S.m.gm_ne h
    · exact h
  have hpk2 : rgm dm gm H1 pk = some (.lst (nts ss)) := rgm_at n1 n2 h1 (fun _ z => nomatch z)
  refine ⟨dm, c, gm, p, q, pk, sp, ab, ls, ka, ss, rgm dm gm H1, rfl, S2, by omega, Dd1.pl, Dd1.g, Dd1.kl, by have := Dd1.n4; omega, Dd1.ml, Dd1.kd, hpk2, lt, nd, hl, fun sp' H' S' a1 a2 => ⟨true, rfl, ?_⟩⟩
  exact k sp' H' ⟨S1.up.trans S'.ex, S1.gd, S1.gg, S1.gt, S'.m, S'.tb, S'.s0⟩ a1 a2
end
end K28
end

section
set_option Elab.async false
set_option linter.all false
set_option maxRecDepth 100000
set_option maxHeartbeats 4000000
namespace K28
open PySem PySem.Spec PyProof.Rows L2 He Cn Evl
section
variable {K : PySem.W.Frag} {dm c gm p q : Addr} {ds ka : List Addr} {ab ls : List (List Nat)} {G G' H H' : Hp} {sp sp' : Int}
theorem rd_try {D : Ends} {va v2 v5 v6 v8 : Option V} {i : Nat} (S : Sd K dm c gm G H sp) (s1 : sp < 80000) (Dd : Dn p q ka ab ls K G)
    (k : ∀ w8 sp' H', Sd K dm c gm G H' sp' → sp ≤ sp' → sp' ≤ sp + 320 → D.nx [va, some (.ref dm), v2, some (.ref p), some (.ref q), v5, v6, some (.int (i : Int)), w8, none] H') :
    tTry K D [va, some (.ref dm), v2, some (.ref p), some (.ref q), v5, v6, some (.int (i : Int)), v8, none] H := by
  obtain ⟨ds, hds, hdl, _⟩ := id Dd.pl
  have hp := S.ex _ _ hds
  have hn8 := Dd.n8
  have hl : ((refs ds).length : Int) = (ab.length : Int) := by unfold refs; rw [List.length_map, hdl]
  unfold tTry
  refine q_asgE ?_
  refine rd_cut (n := ab.length) (b := 4) rfl (ev_is (ev_len (ev_var rfl) (sq_of hp)) (by rw [hl])) (by omega) S.m S.s0 (by omega) (rd_one4 rfl) fun pc as H1 sp1 hnd hlt hlen hpc f1 M1 b1 b2 h1 => ?_
  have S1 := S.fr f1 M1 b1
  show tSeq (tAsg (tPick K) (gName 8)) _ D [va, some (.ref dm), v2, some (.ref p), some (.ref q), v5, v6, some (.int (i : Int)), some (.ref pc), none] H1
  refine q_asgE ?_
  refine ev_pick Dd.n4 hnd hlt hlen h1 fun pk ss H2 nd lt h6 hpk e2 h2 => ?_
  show tIfS (tAsk K (tVar 8)) (tRet (tC (.bl false))) tNext D [va, some (.ref dm), v2, some (.ref p), some (.ref q), v5, v6, some (.int (i : Int)), some (.ref pk), none] H2
  have n1 : pk ≠ dm := by
    rcases hpk with rfl | h
    · exact S.m.dm_ne hpc
    · exact M1.dm_ne h
  have n2 : pk ≠ gm := by
    rcases hpk with rfl | h
    · exact S.m.gm_ne hpc
    · exact M1.gm_ne h
  refine rd_ask (S1.e e2) (by omega) Dd (fun QV kk => ⟨_, rfl, kk pk ss H2 nd lt (by omega) (.inr ⟨h2, n1, n2⟩) (Ex.refl _) h2⟩) fun sp3 H3 S3 a1 a2 => ?_
  exact k _ sp3 H3 S3 (by omega) (by omega)
def tRound (K : PySem.W.Frag) : TS := tSeq (tPair0 K) (tSeq (tBuild K) (tSeq (tFor (iRng1 (tCons (tC (.int 4)) tNil)) (gName 7) (tTry K)) (tIfS (tAsk K (tLst tNil)) (tRet (tC (.bl false))) tNext)))
theorem rd_round {D : Ends} {va v2 v3 v4 v5 v6 v7 v8 : Option V} (M : MAt H dm c gm sp) (s0 : 0 ≤ sp) (s1 : sp < 50000) (hT : LamX.Tabs (tabs K) H)
    (k : ∀ (w3 w4 w5 w6 w7 w8 : Option V) (H' : Hp) (sp' : Int), MAt H' dm c gm sp' → sp ≤ sp' → sp' ≤ sp + 2000 → LamX.Tabs (tabs K) H' → D.nx [va, some (.ref dm), v2, w3, w4, w5, w6, w7, w8, none] H') :
    tRound K D [va, some (.ref dm), v2, v3, v4, v5, v6, v7, v8, none] H := by
  unfold tRound
  refine rd_build M s0 (by omega) hT fun p q ds ka ab ls G H1 sp1 w5 w6 A B1 hkl n4 n8 M1 a1 a2 T1 => ?_
  have S1 := B1.sd M1 T1 (by omega)
  have Dd : Dn p q ka ab ls K (rgm dm gm H1) := ⟨B1.plAt A, B1.good, hkl, n4, n8, rgm_at A.qd A.qg B1.hq (fun _ z => nomatch z), B1.kd.ex B1.g2⟩
  refine q_forR1 (n := 4) (ea_cons ev_c ea_nil) (by decide) (fun i σ H' => ∃ (w7 w8 : Option V) (sp' : Int), σ = [va, some (.ref dm), v2, some (.ref p), some (.ref q), w5, w6, w7, w8, none] ∧ Sd K dm c gm (rgm dm gm H1) H' sp' ∧ sp1 ≤ sp' ∧ sp' ≤ sp1 + 320 * (i : Int)) ?_ ?_ ?_
  · intro H2 e2
    exact ⟨_, _, sp1, rfl, S1.e e2, by omega, by omega⟩
  · rintro i σ H2 hi ⟨w7, w8, sp2, rfl, S2, b1, b2⟩
    refine rd_try S2 (by omega) Dd fun w8 sp3 H3 S3 c1 c2 => ?_
    exact ⟨_, w8, sp3, rfl, S3, by omega, by omega⟩
  · rintro σ H2 ⟨w7, w8, sp2, rfl, S2, b1, b2⟩
    have e4 : ((4 : Int).toNat : Int) = 4 := rfl
    refine rd_ask S2 (by omega) Dd (fun QV kk => ⟨by show 0 ≤ sizeLine; decide, fun l hl => kk l [] _ List.nodup_nil (fun x hx => by cases hx) (by decide) (.inl hl) (Ex.new hl) upd_same⟩) fun sp3 H3 S3 c1 c2 => ?_
    exact k _ _ _ _ _ _ H3 sp3 S3.m (by omega) (by omega) S3.tb
def rMin2 : List V → Hp → VK → Prop := fun xs H Q => ∃ i j, xs = [V.int i, V.int j] ∧ Q (.int (if j < i then j else i)) H
theorem rd_law {D : Ends} {a : Addr} {ns : List Int} (S : SqL K H a (ns.map V.int)) (hlen : ns.length ≤ 63) (M : MAt H dm c gm 0) (hT : LamX.Tabs (tabs K) H) (fin : ∀ H', D.rt (.bl true) H') :
    tSeq (tFor (iRng1 (tCons (tOp (rI0 fun i j => .int (i + j)) (tC (.int 1)) (tCB rMin2 (tCons (tC (.int 2)) (tCons (tOp (rI CDiv fun i j => .int (i / j)) (tCB (rLenS K) (tCons (tVar 0) tNil)) (tC (.int 8))) tNil)))) tNil)) (gName 2) (tRound K)) (tRet (tC (.bl true))) D [some (.ref a), some (.ref dm), none, none, none, none, none, none, none, none] H := by
  have hb : (if ((ns.length : Int) / 8) < 2 then ((ns.length : Int) / 8) else 2) ≤ 2 ∧ 0 ≤ (if ((ns.length : Int) / 8) < 2 then ((ns.length : Int) / 8) else 2) := by
    split <;> omega
  refine q_forR1 (n := 1 + (if ((ns.length : Int) / 8) < 2 then ((ns.length : Int) / 8) else 2))
    (ea_cons (ev_op ev_c (ev_cb (ea_cons ev_c (ea_cons (ev_op (x := .int (ns.length : Int)) (ev_is (ev_len (ev_var rfl) S) (by rw [List.length_map])) ev_c (rv_I ⟨by decide, by decide⟩)) ea_nil)) fun H1 e Q q => ⟨2, _, rfl, q H1 (Ex.refl H1)⟩) rv_I0) ea_nil)
    ⟨by omega, by omega⟩ (fun i σ H' => ∃ (w2 w3 w4 w5 w6 w7 w8 : Option V) (sp' : Int), σ = [some (.ref a), some (.ref dm), w2, w3, w4, w5, w6, w7, w8, none] ∧ MAt H' dm c gm sp' ∧ 0 ≤ sp' ∧ sp' ≤ 2000 * (i : Int) ∧ LamX.Tabs (tabs K) H') ?_ ?_ ?_
  · intro H1 e1
    exact ⟨_, _, _, _, _, _, _, 0, rfl, mat_ex e1 M, by omega, by omega, hT.ext e1⟩
  · rintro i σ H1 hi ⟨w2, w3, w4, w5, w6, w7, w8, sp', rfl, M1, s0, s1, T1⟩
    refine rd_round M1 s0 (by omega) T1 fun w3 w4 w5 w6 w7 w8 H2 sp2 M2 b1 b2 T2 => ?_
    exact ⟨_, w3, w4, w5, w6, w7, w8, sp2, rfl, M2, by omega, by omega, T2⟩
  · rintro σ H1 _
    exact fin H1
end
end K28
end

section
set_option Elab.async false
set_option linter.all false
set_option maxRecDepth 100000
set_option maxHeartbeats 4000000
namespace K28
open PySem PySem.Spec PyProof.Rows L2 He Cn Evl
section
variable {P : Program} {w : World} {K : PySem.W.Frag} {mg : Str → Option Value} {base : Heap}
def spLaw (K : PySem.W.Frag) : Sp := fun vs H Q _ => ∃ (a : Addr) (ns : List Int), vs = [.ref a] ∧ SqL K H a (ns.map V.int) ∧ ns.length ≤ 63 ∧ LamX.Tabs (tabs K) H ∧ ∀ H', Q (.bl true) H'
theorem ok_law (T : Txt K mg) (TB : TabsOk K mg base) {fd : FuncData} (F : Fun K "law" "law" s_law (ga K "law") fd) : FnOk P w K mg base CX0 23 (ga K "law") fd ["script"] (spLaw K) := by
  obtain ⟨fdO, FO, bO⟩ := ok_of (P := P) (w := w) (base := base) T
  have RO := FO.raw (dvs := [V.non]) bO (.cons rfl .nil)
  have CB : Can P w K mg base CX0 2 "_law_begun" ["script"] (spBegun K) := can_begun T
  have CD : Can P w K mg base CX0 2 "_law_draw" ["m", "top"] spDraw := can_draw T
  have CU : Can P w K mg base CX0 3 "_law_mixed_up" ["m", "things"] (spUp K) := can_up T
  have CL : Can P w K mg base CX0 11 "_law_line" ["plans", "n"] (spLine 10) := can_line T 10 (by decide)
  have CR : Can P w K mg base CX0 20 "_law_right" ["m", "plans", "made", "picked"] (spRight K) := can_right T TB
  refine okC F sc_law (fun vs H Q E h => ?_) (fun A outer s H vs Q E hr h => ?_)
  · obtain ⟨a, ns, rfl, _⟩ := h
    rfl
  · obtain ⟨a, ns, rfl, hS, hlen, hT, fin⟩ := h
    have nd := sc_law.nd
    have hu := hu_of hr
    refine ⟨_, pss_cons (ps_set (i := 1) nd rfl (.inl rfl) (pe_can CB hr pass0 (pa_cons (pv 0) pa_nil)))
      (pss_cons (ps_for PassesOwn.never rfl (pi_range1 rfl T.n_range (pa_cons (pe_op op_add pe_int (pe_callB (call_min2 rfl) (by rfl) T.n_min (by decide +kernel) (pa_cons pe_int (pa_cons (pe_op op_fdiv (pe_callB call_len_seq (by rfl) T.n_len PySem.boot_len (pa_cons (pv 0) pa_nil)) pe_int) pa_nil)))) pa_nil)) (pg_name (i := 2) nd rfl (.inl rfl))
        (?_ : PSs _ _ (tRound K)))
      (pss_one (ps_ret pe_bl))), ?_⟩
    · refine pss_cons (ps_asg (pe_tup (pa_cons (pe_lst pa_nil) (pa_cons (pe_lst pa_nil) pa_nil))) (pg_tup rfl (pgs_cons (pg_name (i := 3) nd rfl (.inl rfl)) (pgs_cons (pg_name (i := 4) nd rfl (.inr rfl)) pgs_nil))))
        (pss_cons (ps_for PassesOwn.never rfl (pi_range1 rfl T.n_range (pa_cons (pe_op op_add pe_int (pe_can CD hr pass0 (pa_cons (pv 1) (pa_cons pe_int pa_nil)))) pa_nil)) (pg_name (i := 5) nd rfl (.inl rfl)) (?_ : PSs _ _ (tStep K)))
        (pss_cons (ps_for PassesOwn.never rfl (pi_range1 rfl T.n_range (pa_cons pe_int pa_nil)) (pg_name (i := 7) nd rfl (.inl rfl)) (?_ : PSs _ _ (tTry K)))
        (pss_one (ps_if (pt_not (pt_val (pe_can CR hr pass0 (pa_cons (pv 1) (pa_cons (pv 3) (pa_cons (pv 4) (pa_cons (pe_lst pa_nil) pa_nil))))))) (pss_one (ps_ret pe_bl)) pss_nil))))
      · refine pss_cons (ps_set (i := 6) nd rfl (.inl rfl) (pe_slice sl_list (pe_can CU hr pass0 (pa_cons (pv 1) (pa_cons (pe_callTy (call_list_rng rfl) (by rfl) T.n_list (by decide +kernel) (pa_cons (pe_callTy cr_range1 (by rfl) T.n_range (by decide +kernel) (pa_cons (pv 5) pa_nil)) pa_nil)) pa_nil))) po_none (po_some (pe_ix ix_list (pe_lst (pa_cons pe_int (pa_cons pe_int (pa_cons pe_int (pa_cons pe_int pa_nil))))) (pe_can CD hr pass0 (pa_cons (pv 1) (pa_cons pe_int pa_nil))) (fun _ _ => rfl)))))
          (pss_cons (ps_set (i := 6) nd rfl (.inl rfl) (pe_ifExp (pt_cmpR op_lt (pv 5) pe_int (nomark _)) (pe_ix ix_list (pe_lst (pa_cons (pe_lst pa_nil) (pa_cons (pe_lst pa_nil) (pa_cons (pe_lst (pa_cons pe_int (pa_cons pe_int pa_nil))) (pa_cons (pe_lst (pa_cons pe_int (pa_cons pe_int pa_nil))) pa_nil))))) (pv 5) (fun _ _ => rfl)) (pv 6)))
          (pss_cons (ps_expr (pe_bm PySem.F.plainAttrs_list PySem.F.slot_list_append PySem.F.type_list_append mt_append (pv 3) (pa_cons (pe_disp (pps_cons pe_str (pe_op op_add_str pe_str (pe_callTy call_str_int (by rfl) T.n_str (by decide +kernel) (pa_cons (pv 5) pa_nil))) (pps_cons pe_str (pe_lst pa_nil) (pps_cons pe_str (pv 6) (pps_cons pe_str pe_dnewK pps_nil)))) (by rfl) (by rfl) (fun z => by cases z) (by decide)) pa_nil)))
          (pss_cons (ps_if (pt_cmp (pc_isN (pe_can CL hr pass0 (pa_cons (pv 3) (pa_cons (pv 5) pa_nil))))) (pss_one (ps_dput hu (pe_ix ix_list (pv 3) (pv 5) (fun _ _ => rfl)) pe_str (pe_slice sl_list (pv 6) po_none (po_some pe_int)) rfl)) pss_nil)
          (pss_one (ps_expr (pe_bm PySem.F.plainAttrs_list PySem.F.slot_list_append PySem.F.type_list_append mt_append (pv 4) (pa_cons (?_ : PE _ _ (tKof K)) pa_nil)))))))
        refine ClX.pe_cmeth (pe_glob rfl T.g_Kind (v := .ref (kC K)) rfl) T.cread T.cmet RO (hr.mono (by decide)) pass_no (pa_cons (pe_op op_add_str pe_str (pe_callTy call_str_int (by rfl) T.n_str (by decide +kernel) (pa_cons (pv 5) pa_nil))) (pa_cons (pe_tup pa_nil) (pa_cons (pe_callTy call_tuple_of (by rfl) T.n_tuple (by decide +kernel) (pa_cons (?_ : PE _ _ (tAbv K)) pa_nil)) pa_nil)))
        exact pe_lc (own := [("at", 9)]) (wi := iList K (tDGet (tOp (rIxL K) (tVar 3) (tVar 5)) (tC (.str "above")))) (g := gName 9) (tt := tYes) (te := tOp (rIxL K) (tVar 4) (tVar 9)) rfl nd (pi_list (pe_dget hu (pe_ix ix_list (pv 3) (pv 5) (fun _ _ => rfl)) pe_str (fun _ _ => rfl))) (blkOk_by (N := ["script", "m", "again", "plans", "made", "n", "tops", "turn", "picked", "at"]) (sc := defScope s_law) (by decide +kernel)) (fun _ _ _ _ _ => pg_name (i := 9) nd rfl (.inl rfl)) (fun _ _ _ _ _ => pts_nil) (fun _ _ _ _ _ => pe_ix ix_list (pv 4) (pv 9) (fun _ _ => rfl))
      · exact pss_cons (ps_set (i := 8) nd rfl (.inl rfl) (pe_slice sl_list (pe_can CU hr pass0 (pa_cons (pv 1) (pa_cons (pe_callTy (call_list_rng rfl) (by rfl) T.n_list (by decide +kernel) (pa_cons (pe_callTy cr_range1 (by rfl) T.n_range (by decide +kernel) (pa_cons (pe_callB call_len_seq (by rfl) T.n_len PySem.boot_len (pa_cons (pv 3) pa_nil)) pa_nil)) pa_nil)) pa_nil))) po_none (po_some (pe_op op_add pe_int (pe_can CD hr pass0 (pa_cons (pv 1) (pa_cons pe_int pa_nil)))))))
          (pss_cons (ps_set (i := 8) nd rfl (.inl rfl) (pe_ifExp (pt_cmpR op_eq (pv 7) pe_int (nomark _)) (pe_op op_cat (pe_lst (pa_cons pe_int (pa_cons pe_int pa_nil))) (pe_lc (own := [("at", 9)]) (wi := iList K (tVar 8)) (g := gName 9) (tt := tTest (tOp (rIn K true) (tVar 9) (tTup (tCons (tC (.int 2)) (tCons (tC (.int 3)) tNil))))) (te := tVar 9) rfl nd (pi_list (pv 8)) (blkOk_by (N := ["script", "m", "again", "plans", "made", "n", "tops", "turn", "picked", "at"]) (sc := defScope s_law) (by decide +kernel)) (fun _ _ _ _ _ => pg_name (i := 9) nd rfl (.inl rfl)) (fun _ _ _ _ _ => pts_one (pt_cmpR op_notIn_seq (pv 9) (pe_tup (pa_cons pe_int (pa_cons pe_int pa_nil))) rfl)) (fun _ _ _ _ _ => pv 9))) (pv 8)))
          (pss_one (ps_if (pt_not (pt_val (pe_can CR hr pass0 (pa_cons (pv 1) (pa_cons (pv 3) (pa_cons (pv 4) (pa_cons (pv 8) pa_nil))))))) (pss_one (ps_ret pe_bl)) pss_nil)))
    refine ⟨_, rfl, a, ns, rfl, hS, hlen, fun dm c gm H1 hd hc hg e1 M1 => ?_⟩
    have T1 := hT.ext e1
    have S1 : SqL K H1 a (ns.map V.int) := ex_l e1 hS
    exact rd_law S1 hlen M1 T1 fin
end
end K28
end

section
set_option Elab.async false
set_option linter.all false
set_option maxRecDepth 100000
set_option maxHeartbeats 4000000
namespace K28
open PySem PySem.Spec PyProof.Rows L2 He Cn Evl
abbrev lw : PySem.W.OpenLaw := PySem.Challenge.rw_recordcraft_k28_rings_checked
theorem law_at (w : World) {K : PySem.W.Frag} {mg : Str → Option Value} {f : Addr} {h : Heap} (hK : K.In h) (c1 : HkQ.SaysQ fa fn tf exs h K) (G : h.Ns mainGlobals mg) (hmg : mg "law" = some (.ref f)) : LamX.LawAtS lw w K CX0 23 63 "script" mg f h := by
  have T : Txt K mg := txt_of hK G c1
  obtain ⟨fd, F⟩ := T.F_law
  have ef : f = ga K "law" := by
    have q := T.g_law
    rw [hmg] at q
    have q' := Option.some.inj q
    injection q'
  subst ef
  have m1 : (fun K => ga K "_law_right" : HkQ.TabF) ∈ tf := List.mem_singleton.mpr rfl
  have all1 : ∀ {C : Addr × Addr → Prop}, C (HkQ.cP K fun K => ga K "_law_right") → ∀ p ∈ [HkQ.cP K fun K => ga K "_law_right"], C p := fun a p hp => by
    rw [List.mem_singleton.mp hp]
    exact a
  refine ⟨fd, [HkQ.cP K fun K => ga K "_law_right"], spLaw K, all1 (c1.empty _ m1), all1 (c1.out _ m1), all1 (PySem.W.codeHd_of_K hK (c1.hd _ m1)), ?_, ?_, ?_⟩
  · intro s u
    obtain ⟨oc, od, kV, doc, pm, an, cdv, ct, osl, rfl, lk, hcd⟩ := F.ex
    exact .of_eq rfl
  · intro H a ns hl hb hT hS
    refine ⟨a, ns, rfl, hS, hl, fun p hp => ?_, fun _ => rfl⟩
    rw [List.mem_singleton.mp hp]
    exact LamX.TabS.nil (hT _ (List.mem_singleton.mpr rfl))
  · intro base hKb hG TB
    exact ok_law T (TB _ (List.mem_singleton.mpr rfl)) F
end K28
end

section
set_option Elab.async false
set_option linter.all false
set_option maxRecDepth 100000
set_option maxHeartbeats 0
namespace K28
open PySem PySem.Spec PyProof.Rows L2 He Cn Evl
theorem walk_law {d : DefRec} (hn : d.name = "law") (hd : d.params.defaults = []) : PySem.W.WalkO qv names (PySem.W.XL qv []) hk.says R.toRowW d [] fun f vs => PySem.call f vs :=
  LamX.walk_ofTsE (l := lw) (n := 63) (k := 23) (CX := fun _ => CX0) (x := "script") rfl (by decide) hd ⟨rfl, by decide, by decide⟩
    (fun w mg f h Y G hmg => by
      obtain ⟨K, hK, c⟩ := Y
      rw [hn] at hmg
      exact ⟨K, hK, law_at w hK c G hmg⟩) (fun _ _ _ _ _ h => h)
end K28
open PySem PySem.W PySem.Calls PyProof.Rows
theorem PySem.Challenge.cw_recordcraft_k28_rings_checked_holds : PySem.Challenge.rw_recordcraft_k28_rings_checked.Holds := by
  w_on; o_law
  refine HandSHeadRun.head_any (r := OpenLaw.row PySem.Challenge.rw_recordcraft_k28_rings_checked) (q := K28.qv) (H := K28.hk) (ob := K28.ob) (M := 20000) (loose := K28.names) (kwd := []) K28.ob_eq (by kernel_rfl) (fun s => by kernel_rfl) K28.run (by rfl) (by rfl) (by rfl) (by rfl) (by first | assumption | decide +kernel) (by decide +kernel) ⟨rfl, rfl, rfl, rfl, rfl, by decide +kernel⟩ ?hw ?hc
  case hw => w_witness2
  case hc => exact K28.walk_law rfl rfl
end
