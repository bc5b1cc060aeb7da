/-
  What a meter's events sum up to, as plain data.
-/
import Derived.Test.YtnlanemldapfiaaGreatVCheck
import Derived.Sort.KeysCollected
namespace Go.Proofs.YtnlanemldapfiaaGreat.se
open Go.RowKit Go.Maps Go.WideMaps Go.Sort Go.Proofs.YtnlanemldapfiaaGreat.Tb
set_option linter.unusedVariables false

/-! ### lists that rise -/
theorem rising_ext {K : Type} [LT K] [Lin K] : ∀ {a b : List K}, a.Pairwise (· < ·) → b.Pairwise (· < ·) → (∀ n, n ∈ a ↔ n ∈ b) → a = b
  | [], [], _, _, _ => rfl
  | [], y :: b, _, _, h => absurd ((h y).2 (List.mem_cons_self ..)) (by simp)
  | x :: a, [], _, _, h => absurd ((h x).1 (List.mem_cons_self ..)) (by simp)
  | x :: a, y :: b, ha, hb, h => by
    have ha' := List.pairwise_cons.1 ha
    have hb' := List.pairwise_cons.1 hb
    have hxy : x = y := by
      rcases List.mem_cons.1 ((h x).1 (List.mem_cons_self ..)) with e | hx
      · exact e
      · rcases List.mem_cons.1 ((h y).2 (List.mem_cons_self ..)) with e | hy
        · exact e.symm
        · exact absurd (Lin.trans (ha'.1 y hy) (hb'.1 x hx)) (Lin.irr _)
    subst hxy
    congr 1
    refine rising_ext ha'.2 hb'.2 fun n => ⟨fun hn => ?_, fun hn => ?_⟩
    · rcases List.mem_cons.1 ((h n).1 (List.mem_cons_of_mem _ hn)) with e | hn'
      · subst e; exact absurd (ha'.1 n hn) (Lin.irr _)
      · exact hn'
    · rcases List.mem_cons.1 ((h n).2 (List.mem_cons_of_mem _ hn)) with e | hn'
      · subst e; exact absurd (hb'.1 n hn) (Lin.irr _)
      · exact hn'

theorem nodup_length {α : Type} [DecidableEq α] : ∀ {a b : List α}, a.Nodup → (∀ x ∈ a, x ∈ b) → a.length ≤ b.length
  | [], b, _, _ => Nat.zero_le _
  | x :: a, b, hn, h => by
    have hn' := List.nodup_cons.1 hn
    have hx := h x (List.mem_cons_self ..)
    have e := List.length_erase_of_mem hx
    have hb : 0 < b.length := List.length_pos_of_mem hx
    have ih := nodup_length (b := b.erase x) hn'.2 (fun y hy => (List.mem_erase_of_ne (fun e => hn'.1 (by rw [← e]; exact hy))).2 (h y (List.mem_cons_of_mem _ hy)))
    simp only [List.length_cons]
    omega

/-! ### sums -/
abbrev wr (x : Int) : Int := IntKind.i64.wrap x
def qtyOf (l : List Ev) (m : List UInt8) : Int := l.foldl (fun a x => if x.met = m then wr (a + x.qty) else a) 0
def cntOf (l : List Ev) (m : List UInt8) : Int := l.foldl (fun a x => if x.met = m then wr (a + 1) else a) 0

theorem qtyOf_snoc (l : List Ev) (x : Ev) (m : List UInt8) : qtyOf (l ++ [x]) m = if x.met = m then wr (qtyOf l m + x.qty) else qtyOf l m := by
  unfold qtyOf; rw [List.foldl_append]; rfl
theorem cntOf_snoc (l : List Ev) (x : Ev) (m : List UInt8) : cntOf (l ++ [x]) m = if x.met = m then wr (cntOf l m + 1) else cntOf l m := by
  unfold cntOf; rw [List.foldl_append]; rfl

/-- the names of an event list's meters, rising -/
def namesOf (l : List Ev) : List (List UInt8) := (l.foldl (fun (a : List (List UInt8 × Unit)) x => putL a x.met ()) []).map Prod.fst

theorem mem_putL_iff {l : List (List UInt8 × Unit)} {k m : List UInt8} : m ∈ (putL l k ()).map Prod.fst ↔ m = k ∨ m ∈ l.map Prod.fst := by
  induction l with
  | nil => simp [putL]
  | cons y l ih =>
    rw [putL]
    by_cases h1 : k < y.1
    · rw [if_pos h1]; simp
    · rw [if_neg h1]
      by_cases h2 : y.1 < k
      · rw [if_pos h2, List.map_cons, List.mem_cons, ih, List.map_cons, List.mem_cons]
        constructor
        · rintro (h | h | h) <;> simp [h]
        · rintro (h | h | h) <;> simp [h]
      · rw [if_neg h2, List.map_cons, List.map_cons, eq_of_not h2 h1]
        simp

theorem names_go (l : List Ev) : ∀ a : List (List UInt8 × Unit), Rises a → Rises (l.foldl (fun (a : List (List UInt8 × Unit)) x => putL a x.met ()) a) ∧ ∀ m, m ∈ (l.foldl (fun (a : List (List UInt8 × Unit)) x => putL a x.met ()) a).map Prod.fst ↔ m ∈ l.map Ev.met ∨ m ∈ a.map Prod.fst := by
  induction l with
  | nil => intro a h; exact ⟨h, fun m => by simp⟩
  | cons x l ih =>
    intro a h
    obtain ⟨h1, h2⟩ := ih _ (rises_putL h x.met ())
    refine ⟨h1, fun m => ?_⟩
    rw [List.foldl_cons, h2, mem_putL_iff, List.map_cons, List.mem_cons]
    constructor
    · rintro (h | h | h) <;> simp [h]
    · rintro ((h | h) | h) <;> simp [h]

theorem namesOf_rises (l : List Ev) : (namesOf l).Pairwise (· < ·) := List.pairwise_map.2 (names_go l [] List.Pairwise.nil).1
theorem mem_namesOf (l : List Ev) (m : List UInt8) : m ∈ namesOf l ↔ m ∈ l.map Ev.met := by
  have := (names_go l [] List.Pairwise.nil).2 m
  simpa [namesOf] using this
theorem namesOf_nodup (l : List Ev) : (namesOf l).Nodup := (namesOf_rises l).imp fun h e => by subst e; exact Lin.irr _ h

theorem names_sorted {met : List (List UInt8)} {l : List Ev} (hn : met.Nodup) (hm : ∀ x, x ∈ met ↔ x ∈ l.map Ev.met) : met.mergeSort leB = namesOf l := by
  rw [mergeSort_of_perm ((List.perm_ext_iff_of_nodup hn (namesOf_nodup l)).2 (fun x => by rw [hm, mem_namesOf]))]
  refine List.mergeSort_of_pairwise ?_
  refine (namesOf_rises l).imp fun h => ?_
  simp only [leB, decide_eq_true_eq]
  exact List.le_of_lt h

/-- a meter's totals -/
abbrev Tot := List UInt8 × Int × Int
def totalsOf (l : List Ev) : List Tot := (namesOf l).map fun m => (m, qtyOf l m, cntOf l m)

/-- a sum over totals of one name, as a loop makes it -/
def accQ (T : List Tot) (m : List UInt8) (a : Int) : Int := T.foldl (fun a e => if e.1 = m then wr (a + e.2.1) else a) a
def accC (T : List Tot) (m : List UInt8) (a : Int) : Int := T.foldl (fun a e => if e.1 = m then wr (a + e.2.2) else a) a

/-! ### sums that don't run over -/
/-- quantities as they may be -/
def Mild (l : List Ev) : Prop := l.length ≤ 1000 ∧ ∀ x ∈ l, 0 ≤ x.qty ∧ x.qty ≤ 1099511627776

def qsum (l : List Ev) (m : List UInt8) : Int := ((l.filter (fun x => decide (x.met = m))).map Ev.qty).sum
def csum (l : List Ev) (m : List UInt8) : Int := ((l.filter (fun x => decide (x.met = m))).length : Int)

theorem qsum_cons (x : Ev) (l : List Ev) (m : List UInt8) : qsum (x :: l) m = (if x.met = m then x.qty else 0) + qsum l m := by
  unfold qsum
  by_cases h : x.met = m
  · rw [List.filter_cons_of_pos (by simpa using h), if_pos h]; simp
  · rw [List.filter_cons_of_neg (by simpa using h), if_neg h]; simp
theorem csum_cons (x : Ev) (l : List Ev) (m : List UInt8) : csum (x :: l) m = (if x.met = m then 1 else 0) + csum l m := by
  unfold csum
  by_cases h : x.met = m
  · rw [List.filter_cons_of_pos (by simpa using h), if_pos h]; simp; omega
  · rw [List.filter_cons_of_neg (by simpa using h), if_neg h]; simp

theorem wr_id {x : Int} (h0 : 0 ≤ x) (h1 : x ≤ 9000000000000000000) : wr x = x := IntWalk.i64_in _ (by omega)

theorem sums_go (l : List Ev) (m : List UInt8) : ∀ (a c : Int) (k : Nat), (∀ x ∈ l, 0 ≤ x.qty ∧ x.qty ≤ 1099511627776) → 0 ≤ a → a ≤ k * 1099511627776 → 0 ≤ c → c ≤ k → k + l.length ≤ 4000 →
    l.foldl (fun a x => if x.met = m then wr (a + x.qty) else a) a = a + qsum l m ∧ l.foldl (fun a x => if x.met = m then wr (a + 1) else a) c = c + csum l m ∧ 0 ≤ qsum l m ∧ qsum l m ≤ l.length * 1099511627776 ∧ 0 ≤ csum l m ∧ csum l m ≤ l.length := by
  induction l with
  | nil => intro a c k _ _ _ _ _ _; simp [qsum, csum]
  | cons x l ih =>
    intro a c k hx h0 h1 h2 h3 hk
    have hx0 := hx x (List.mem_cons_self ..)
    simp only [List.length_cons] at hk ⊢
    rw [List.foldl_cons, List.foldl_cons, qsum_cons, csum_cons]
    by_cases h : x.met = m
    · rw [if_pos h, if_pos h, if_pos h, if_pos h, wr_id (by omega) (by omega), wr_id (by omega) (by omega)]
      obtain ⟨i1, i2, i3, i4, i5, i6⟩ := ih (a + x.qty) (c + 1) (k + 1) (fun y hy => hx y (List.mem_cons_of_mem _ hy)) (by omega) (by omega) (by omega) (by omega) (by omega)
      rw [i1, i2]
      refine ⟨by omega, by omega, by omega, by omega, by omega, by omega⟩
    · rw [if_neg h, if_neg h, if_neg h, if_neg h]
      obtain ⟨i1, i2, i3, i4, i5, i6⟩ := ih a c k (fun y hy => hx y (List.mem_cons_of_mem _ hy)) h0 h1 h2 h3 (by omega)
      rw [i1, i2]
      refine ⟨by omega, by omega, by omega, by omega, by omega, by omega⟩

theorem qtyOf_eq {l : List Ev} (h : Mild l) (m : List UInt8) : qtyOf l m = qsum l m ∧ cntOf l m = csum l m ∧ 0 ≤ qsum l m ∧ qsum l m ≤ 1099511627776000 ∧ 0 ≤ csum l m ∧ csum l m ≤ 1000 := by
  obtain ⟨i1, i2, i3, i4, i5, i6⟩ := sums_go l m 0 0 0 h.2 (by omega) (by omega) (by omega) (by omega) (by have := h.1; omega)
  have h1 := h.1
  unfold qtyOf cntOf
  rw [i1, i2]
  refine ⟨by omega, by omega, by omega, by omega, by omega, by omega⟩

theorem qsum_none {l : List Ev} {m : List UInt8} (h : m ∉ l.map Ev.met) : qsum l m = 0 ∧ csum l m = 0 := by
  have e : l.filter (fun x => decide (x.met = m)) = [] := by
    rw [List.filter_eq_nil_iff]
    intro x hx
    have : x.met ≠ m := fun e => h (List.mem_map.2 ⟨x, hx, e⟩)
    simpa using this
  unfold qsum csum
  rw [e]
  simp

/-- a loop over all totals that looks for one name -/
theorem acc_go (L : List Ev) (m : List UInt8) : ∀ (ns : List (List UInt8)) (a c : Int), ns.Nodup →
    accQ (ns.map fun m => (m, qtyOf L m, cntOf L m)) m a = (if m ∈ ns then wr (a + qtyOf L m) else a) ∧ accC (ns.map fun m => (m, qtyOf L m, cntOf L m)) m c = (if m ∈ ns then wr (c + cntOf L m) else c) := by
  intro ns
  induction ns with
  | nil => intro a c _; simp [accQ, accC]
  | cons n ns ih =>
    intro a c hn
    have hn' := List.nodup_cons.1 hn
    have hq : ∀ a, accQ ((n :: ns).map fun m => (m, qtyOf L m, cntOf L m)) m a = accQ (ns.map fun m => (m, qtyOf L m, cntOf L m)) m (if n = m then wr (a + qtyOf L n) else a) := fun a => rfl
    have hc : ∀ a, accC ((n :: ns).map fun m => (m, qtyOf L m, cntOf L m)) m a = accC (ns.map fun m => (m, qtyOf L m, cntOf L m)) m (if n = m then wr (a + cntOf L n) else a) := fun a => rfl
    rw [hq, hc]
    by_cases e : n = m
    · subst e
      rw [if_pos rfl, if_pos rfl, (ih _ 0 hn'.2).1, (ih 0 _ hn'.2).2, if_neg hn'.1, if_neg hn'.1, if_pos (List.mem_cons_self ..), if_pos (List.mem_cons_self ..)]
      exact ⟨rfl, rfl⟩
    · rw [if_neg e, if_neg e, (ih _ 0 hn'.2).1, (ih 0 _ hn'.2).2]
      have : (m ∈ n :: ns) ↔ m ∈ ns := by simp [Ne.symm e]
      refine ⟨?_, ?_⟩ <;> simp only [this]

/-- the totals of a time's two parts sum up to those of the whole -/
theorem parts_sum {X Y L : List Ev} (hX : Mild X) (hY : Mild Y) (hL : Mild L) (hq : ∀ m, qsum L m = qsum X m + qsum Y m) (hc : ∀ m, csum L m = csum X m + csum Y m) (m : List UInt8) :
    accQ (totalsOf Y) m (accQ (totalsOf X) m 0) = qtyOf L m ∧ accC (totalsOf Y) m (accC (totalsOf X) m 0) = cntOf L m := by
  have one : ∀ {Z : List Ev} (hZ : Mild Z) (a c : Int), 0 ≤ a → a ≤ 1099511627776000 → 0 ≤ c → c ≤ 1000 → accQ (totalsOf Z) m a = a + qsum Z m ∧ accC (totalsOf Z) m c = c + csum Z m := by
    intro Z hZ a c h0 h1 h2 h3
    obtain ⟨e1, e2, e3, e4, e5, e6⟩ := qtyOf_eq hZ m
    obtain ⟨g1, g2⟩ := acc_go Z m (namesOf Z) a c (namesOf_nodup Z)
    unfold totalsOf
    rw [g1, g2]
    by_cases h : m ∈ namesOf Z
    · rw [if_pos h, if_pos h, e1, e2, wr_id (by omega) (by omega), wr_id (by omega) (by omega)]
      exact ⟨rfl, rfl⟩
    · rw [if_neg h, if_neg h]
      have := qsum_none (fun k => h ((mem_namesOf Z m).2 k))
      omega
  obtain ⟨x1, x2, x3, x4, x5, x6⟩ := qtyOf_eq hX m
  obtain ⟨l1, l2, _⟩ := qtyOf_eq hL m
  have hx := one hX 0 0 (by omega) (by omega) (by omega) (by omega)
  have hy := one hY (qsum X m) (csum X m) x3 x4 x5 x6
  rw [hx.1, hx.2, Int.zero_add, Int.zero_add, hy.1, hy.2, l1, l2, hq, hc]
  exact ⟨rfl, rfl⟩
end Go.Proofs.YtnlanemldapfiaaGreat.se
