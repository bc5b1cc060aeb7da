/-
  What a meter keeps of what was sent, as plain data.
-/
import Derived.Test.YtnlanemldapfiaaGreatVPl
import Derived.Test.YtnlanemldapfiaaGreatVIng
namespace Go.Proofs.YtnlanemldapfiaaGreat.se
open Go.RowKit Go.Maps Go.WideMaps Go.Sort Go.Proofs.YtnlanemldapfiaaGreat.Tb
set_option linter.unusedVariables false
set_option linter.unusedSimpArgs false

/-- a meter's events behind one more -/
def ingT (t : Tr Key Val) (x : Ev) : Tr Key Val := if checkE x = 0 then (match Tb.get t x.key with | some _ => t | none => if 5000 ≤ t.count then t else put t x.key x) else t
/-- .. and its repeats -/
def ingR (t : Tr Key Val) (rep : Nat) (x : Ev) : Nat := if checkE x = 0 ∧ Tb.get t x.key = some x then rep + 1 else rep
/-- .. and what it answers -/
def ingA (t : Tr Key Val) (x : Ev) : Value := if checkE x = 0 then (match Tb.get t x.key with | some y => if y = x then ansV true 0 else ansV false 24 | none => if 5000 ≤ t.count then ansV false 9 else ansV false 0) else ansV false (checkE x)

theorem ingR_le (t : Tr Key Val) (rep : Nat) (x : Ev) : ingR t rep x ≤ rep + 1 := by
  unfold ingR; split <;> omega

/-- **Ingest** -/
theorem ingest_any {w : World} {mp rep : Nat} {t : Tr Key Val} (h : MetR w mp t rep) (hrep : rep < 1000000) (x : Ev) (hx : EvIn x) :
    Calls Tryz.prog 9 #[.pointer (some ⟨mp, 0, none⟩), valV x] w fun r w' => r = .returned (ingA t x) ∧ MetR w' mp (ingT t x) (ingR t rep x) ∧ Turn (fun b => b = mp) w w' := by
  unfold ingA ingT ingR
  by_cases hc : checkE x = 0
  · rw [if_pos hc, if_pos hc]
    cases hq : Tb.get t x.key with
    | none =>
      by_cases hn : 5000 ≤ t.count
      · simp only [if_pos hn, and_false, if_false, reduceCtorEq]
        exact ing_many h x hx hc hq hn
      · simp only [if_neg hn, and_false, if_false, reduceCtorEq]
        exact ing_put h x hx hc hq (by omega)
    | some y =>
      by_cases hy : y = x
      · subst hy
        simp only [if_true, and_self, hc]
        exact ing_known h y hx hc hq hrep
      · have e : ¬ (checkE x = 0 ∧ some y = some x) := fun k => hy (by simpa using k.2)
        rw [if_neg e]
        simp only [if_neg hy]
        exact ing_conf h x hx hc y hq hy
  · rw [if_neg hc, if_neg hc, if_neg (fun k => hc k.1)]
    exact ing_bad h x hx rfl hc

/-- what is kept of what was sent -/
structure Kept (t : Tr Key Val) (l : List Ev) : Prop where
  sized : t.Sized
  rises : Rises t.list
  count : t.count ≤ l.length
  from_ : ∀ p ∈ t.list, p.1 = p.2.key ∧ p.2 ∈ l ∧ checkE p.2 = 0
  all : ∀ x ∈ l, checkE x = 0 → ∃ p ∈ t.list, p.1 = x.key

theorem kept_nil : Kept .nil [] := ⟨trivial, List.Pairwise.nil, Nat.le_refl _, fun p hp => by simp [Tr.list] at hp, fun x hx => by simp at hx⟩

theorem mem_putL_new {l : List (Key × Val)} {k : Key} {v : Val} (h : ∀ y ∈ l, y.1 ≠ k) (p : Key × Val) : p ∈ putL l k v ↔ p = (k, v) ∨ p ∈ l := by
  induction l with
  | nil => simp [putL]
  | cons y l ih =>
    rw [putL]
    by_cases h1 : k < y.1
    · rw [if_pos h1]; simp
    · rw [if_neg h1]
      by_cases h2 : y.1 < k
      · rw [if_pos h2, List.mem_cons, ih (fun z hz => h z (List.mem_cons_of_mem _ hz)), List.mem_cons]
        constructor
        · rintro (h | h | h) <;> simp [h]
        · rintro (h | h | h) <;> simp [h]
      · exact absurd (eq_of_not h2 h1) (h y (List.mem_cons_self ..))

theorem findL_some_mem {l : List (Key × Val)} {k : Key} {v : Val} (h : findL l k = some v) : ∃ p ∈ l, p.1 = k := by
  unfold findL at h
  rw [Option.map_eq_some_iff] at h
  obtain ⟨p, hp, _⟩ := h
  exact ⟨p, List.mem_of_find?_eq_some hp, by simpa using List.find?_some hp⟩

theorem Kept.ing {t : Tr Key Val} {l : List Ev} (h : Kept t l) (hl : l.length < 5000) (x : Ev) : Kept (ingT t x) (l ++ [x]) := by
  have stay : (checkE x = 0 → ∃ p ∈ t.list, p.1 = x.key) → Kept t (l ++ [x]) := fun hk =>
    ⟨h.sized, h.rises, by have := h.count; simp; omega, fun p hp => ⟨(h.from_ p hp).1, by simp [(h.from_ p hp).2.1], (h.from_ p hp).2.2⟩, fun y hy hc => by
      rcases List.mem_append.1 hy with hy | hy
      · exact h.all y hy hc
      · obtain rfl : y = x := by simpa using hy
        exact hk hc⟩
  unfold ingT
  by_cases hc : checkE x = 0
  · rw [if_pos hc]
    cases hq : Tb.get t x.key with
    | some y => exact stay (fun _ => findL_some_mem (by rw [← Tb.get_list h.rises]; exact hq))
    | none =>
      have hne := findL_none_iff (by rw [← Tb.get_list h.rises]; exact hq)
      have hcn := h.count
      simp only [if_neg (show ¬ 5000 ≤ t.count by omega)]
      have hm : ∀ p, p ∈ (put t x.key x).list ↔ p = (x.key, x) ∨ p ∈ t.list := fun p => by rw [put_list h.rises]; exact mem_putL_new hne p
      refine ⟨sized_put h.sized _ _, rises_put h.rises _ _, by rw [count_new h.sized h.rises hq]; simp; omega, fun p hp => ?_, fun y hy hcy => ?_⟩
      · rcases (hm p).1 hp with rfl | hp
        · exact ⟨rfl, by simp, hc⟩
        · exact ⟨(h.from_ p hp).1, by simp [(h.from_ p hp).2.1], (h.from_ p hp).2.2⟩
      · rcases List.mem_append.1 hy with hy | hy
        · obtain ⟨p, hp, e⟩ := h.all y hy hcy
          exact ⟨p, (hm p).2 (.inr hp), e⟩
        · obtain rfl : y = x := by simpa using hy
          exact ⟨_, (hm _).2 (.inl rfl), rfl⟩
  · rw [if_neg hc]
    exact stay (fun k => absurd k hc)

theorem rises_ext : ∀ {a b : List (Key × Val)}, Rises a → Rises b → (∀ p, p ∈ a ↔ p ∈ b) → a = b
  | [], [], _, _, _ => rfl
  | [], y :: b, _, _, h => absurd ((h y).2 (List.mem_cons_self ..)) (by simp)
  | x :: a, [], _, _, h => absurd ((h x).1 (List.mem_cons_self ..)) (by simp)
  | x :: a, y :: b, ha, hb, h => by
    have ha' := rises_cons.1 ha
    have hb' := rises_cons.1 hb
    have hxy : x = y := by
      rcases List.mem_cons.1 ((h x).1 (List.mem_cons_self ..)) with e | hx
      · exact e
      · rcases List.mem_cons.1 ((h y).2 (List.mem_cons_self ..)) with e | hy
        · exact e.symm
        · exact absurd (Lin.trans (ha'.1 y hy) (hb'.1 x hx)) (Lin.irr _)
    subst hxy
    congr 1
    refine rises_ext ha'.2 hb'.2 fun n => ⟨fun hn => ?_, fun hn => ?_⟩
    · rcases List.mem_cons.1 ((h n).1 (List.mem_cons_of_mem _ hn)) with e | hn'
      · subst e; exact absurd (ha'.1 n hn) (Lin.irr _)
      · exact hn'
    · rcases List.mem_cons.1 ((h n).2 (List.mem_cons_of_mem _ hn)) with e | hn'
      · subst e; exact absurd (hb'.1 n hn) (Lin.irr _)
      · exact hn'

/-- no two unlike events have one key -/
def Alike (l : List Ev) : Prop := ∀ x ∈ l, ∀ y ∈ l, x.key = y.key → x = y

theorem Kept.mem {t : Tr Key Val} {l : List Ev} (h : Kept t l) (ha : Alike l) (p : Key × Val) : p ∈ t.list ↔ p.1 = p.2.key ∧ p.2 ∈ l ∧ checkE p.2 = 0 := by
  refine ⟨h.from_ p, fun ⟨h1, h2, h3⟩ => ?_⟩
  obtain ⟨q, hq, e⟩ := h.all p.2 h2 h3
  obtain ⟨q1, q2, q3⟩ := h.from_ q hq
  have e2 := ha q.2 q2 p.2 h2 (by rw [← q1, e])
  have : q = p := Prod.ext (by rw [e, h1]) e2
  rwa [← this]

/-- the order in which events were sent changes nothing -/
theorem Kept.same {a b : Tr Key Val} {l l' : List Ev} (h : Kept a l) (h' : Kept b l') (ha : Alike l) (hm : ∀ x, x ∈ l ↔ x ∈ l') : a.list = b.list := by
  have ha' : Alike l' := fun x hx y hy e => ha x ((hm x).2 hx) y ((hm y).2 hy) e
  exact rises_ext h.rises h'.rises (fun p => by rw [h.mem ha, h'.mem ha', hm])

/-! ### an account's events of a time -/
abbrev evsOf (t : Tr Key Val) (acc : List UInt8) (fr to : Int) : List Ev := (t.list.map Prod.snd).filter fun x => x.acc == acc && (decide (fr ≤ x.at_) && decide (x.at_ < to))

theorem mild_of {t : Tr Key Val} {l : List Ev} (h : Kept t l) (hl : l.length ≤ 1000) (acc : List UInt8) (fr to : Int) : Mild (evsOf t acc fr to) := by
  refine ⟨?_, fun x hx => ?_⟩
  · have h1 : (evsOf t acc fr to).length ≤ (t.list.map Prod.snd).length := List.length_filter_le _ _
    have h2 := h.count
    rw [h.sized.count] at h2
    rw [List.length_map] at h1
    omega
  · obtain ⟨p, hp, rfl⟩ := List.mem_map.1 (List.mem_filter.1 hx).1
    have hc := (h.from_ p hp).2.2
    unfold checkE at hc
    split at hc
    · split at hc
      · rename_i h1 h2
        simp only [numsB, Bool.and_eq_true, decide_eq_true_eq] at h2
        omega
      · simp at hc
    · simp at hc

theorem parts_of (L : List Ev) (acc : List UInt8) {fr mid to : Int} (h1 : fr ≤ mid) (h2 : mid ≤ to) (m : List UInt8) :
    qsum (L.filter fun x => x.acc == acc && (decide (fr ≤ x.at_) && decide (x.at_ < to))) m = qsum (L.filter fun x => x.acc == acc && (decide (fr ≤ x.at_) && decide (x.at_ < mid))) m + qsum (L.filter fun x => x.acc == acc && (decide (mid ≤ x.at_) && decide (x.at_ < to))) m ∧
      csum (L.filter fun x => x.acc == acc && (decide (fr ≤ x.at_) && decide (x.at_ < to))) m = csum (L.filter fun x => x.acc == acc && (decide (fr ≤ x.at_) && decide (x.at_ < mid))) m + csum (L.filter fun x => x.acc == acc && (decide (mid ≤ x.at_) && decide (x.at_ < to))) m := by
  induction L with
  | nil => simp [qsum, csum]
  | cons x L ih =>
    obtain ⟨i1, i2⟩ := ih
    simp only [List.filter_cons]
    by_cases ha : (x.acc == acc) = true
    · by_cases k1 : fr ≤ x.at_
      · by_cases k2 : x.at_ < mid
        · have k3 : x.at_ < to := by omega
          have k4 : ¬ mid ≤ x.at_ := by omega
          simp only [ha, k1, k2, k3, k4, decide_true, decide_false, Bool.and_true, Bool.and_false, Bool.false_and, if_true, if_false, Bool.false_eq_true, qsum_cons, csum_cons]
          omega
        · have k4 : mid ≤ x.at_ := by omega
          by_cases k3 : x.at_ < to
          · simp only [ha, k1, k2, k3, k4, decide_true, decide_false, Bool.and_true, Bool.and_false, Bool.false_and, if_true, if_false, Bool.false_eq_true, qsum_cons, csum_cons]
            omega
          · simp only [ha, k1, k2, k3, k4, decide_true, decide_false, Bool.and_true, Bool.and_false, Bool.false_and, if_true, if_false, Bool.false_eq_true]
            omega
      · have k4 : ¬ mid ≤ x.at_ := by omega
        simp only [ha, k1, k4, decide_true, decide_false, Bool.and_true, Bool.and_false, Bool.false_and, if_true, if_false, Bool.false_eq_true]
        omega
    · have ha' : (x.acc == acc) = false := by simpa using ha
      simp only [ha', Bool.false_and, if_false, Bool.false_eq_true]
      omega

theorem names_fewer {X L : List Ev} (h : ∀ x ∈ X, x ∈ L) : (totalsOf X).length ≤ (totalsOf L).length := by
  unfold totalsOf
  rw [List.length_map, List.length_map]
  refine nodup_length (namesOf_nodup X) (fun m hm => ?_)
  rw [mem_namesOf] at hm ⊢
  obtain ⟨x, hx, e⟩ := List.mem_map.1 hm
  exact List.mem_map.2 ⟨x, h x hx, e⟩
end Go.Proofs.YtnlanemldapfiaaGreat.se
