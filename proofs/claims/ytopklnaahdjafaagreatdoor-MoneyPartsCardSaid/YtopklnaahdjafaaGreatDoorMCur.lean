/-
  Currencies and bounds of amounts; two amounts beside one another.
-/
import Derived.Test.YtopklnaahdjafaaGreatDoorMFind
import Derived.Test.YtopklnaahdjafaaGreatDoorNCmp
namespace Go.Proofs.YtopklnaahdjafaaGreatDoor
open Go.RowKit Go.Shelf

theorem toList_beq (a b : ByteArray) : (a.toList == b.toList) = decide (a = b) := by
  rw [Bool.eq_iff_iff]
  simp only [beq_iff_eq, decide_eq_true_eq, Lib.toList_data]
  constructor
  · intro h; cases a; cases b; simp only [ByteArray.mk.injEq]; exact Array.ext' h
  · rintro rfl; rfl

/-- the scale of a currency -/
def curOf (s : ByteArray) : Option Int :=
  if s = ⟨#[67, 72, 70]⟩ then some 2 else if s = ⟨#[69, 85, 82]⟩ then some 2 else if s = ⟨#[71, 66, 80]⟩ then some 2 else if s = ⟨#[74, 80, 89]⟩ then some 0 else if s = ⟨#[75, 87, 68]⟩ then some 3 else if s = ⟨#[85, 83, 68]⟩ then some 2 else none

/-- what is answered beside an error -/
def okS (e : Int) (s : ByteArray) : ByteArray := if e = 0 then s else ⟨#[]⟩
def okI (e : Int) (n : Int) : Int := if e = 0 then n else 0
theorem okS_0 (s : ByteArray) : okS 0 s = s := rfl
theorem okI_0 (n : Int) : okI 0 n = n := rfl
theorem okS_ne {e : Int} (h : e ≠ 0) (s : ByteArray) : okS e s = ⟨#[]⟩ := if_neg h
theorem okI_ne {e : Int} (h : e ≠ 0) (n : Int) : okI e n = 0 := if_neg h

def fK (s : ByteArray) : Int := (curOf s).getD 0
def fE (s : ByteArray) : Int := if (curOf s).isSome then 0 else 18

abbrev FindIs (s c : ByteArray) (k e : Int) : Prop := ∀ w, Calls Tryz.prog 43 #[.string s] w fun r w' => r = .returned (.tuple #[.agg #[.string c, .int .i64 k], .int .i64 e]) ∧ Only w w'

theorem find_any (s : ByteArray) : FindIs s (okS (fE s) s) (fK s) (fE s) := by
  intro w
  by_cases h0 : s = ⟨#[67, 72, 70]⟩
  · subst h0
    exact find_0 (q0 := true) (q1 := false) (q2 := false) (q3 := false) (q4 := false) (q5 := false) rfl (by rw [toList_beq]; decide) (by rw [toList_beq]; decide) (by rw [toList_beq]; decide) (by rw [toList_beq]; decide) (by rw [toList_beq]; decide) (by rw [toList_beq]; decide) w
  by_cases h1 : s = ⟨#[69, 85, 82]⟩
  · subst h1
    exact find_1 (q0 := false) (q1 := true) (q2 := false) (q3 := false) (q4 := false) (q5 := false) rfl (by rw [toList_beq]; decide) (by rw [toList_beq]; decide) (by rw [toList_beq]; decide) (by rw [toList_beq]; decide) (by rw [toList_beq]; decide) (by rw [toList_beq]; decide) w
  by_cases h2 : s = ⟨#[71, 66, 80]⟩
  · subst h2
    exact find_2 (q0 := false) (q1 := false) (q2 := true) (q3 := false) (q4 := false) (q5 := false) rfl (by rw [toList_beq]; decide) (by rw [toList_beq]; decide) (by rw [toList_beq]; decide) (by rw [toList_beq]; decide) (by rw [toList_beq]; decide) (by rw [toList_beq]; decide) w
  by_cases h3 : s = ⟨#[74, 80, 89]⟩
  · subst h3
    exact find_3 (q0 := false) (q1 := false) (q2 := false) (q3 := true) (q4 := false) (q5 := false) rfl (by rw [toList_beq]; decide) (by rw [toList_beq]; decide) (by rw [toList_beq]; decide) (by rw [toList_beq]; decide) (by rw [toList_beq]; decide) (by rw [toList_beq]; decide) w
  by_cases h4 : s = ⟨#[75, 87, 68]⟩
  · subst h4
    exact find_4 (q0 := false) (q1 := false) (q2 := false) (q3 := false) (q4 := true) (q5 := false) rfl (by rw [toList_beq]; decide) (by rw [toList_beq]; decide) (by rw [toList_beq]; decide) (by rw [toList_beq]; decide) (by rw [toList_beq]; decide) (by rw [toList_beq]; decide) w
  by_cases h5 : s = ⟨#[85, 83, 68]⟩
  · subst h5
    exact find_5 (q0 := false) (q1 := false) (q2 := false) (q3 := false) (q4 := false) (q5 := true) rfl (by rw [toList_beq]; decide) (by rw [toList_beq]; decide) (by rw [toList_beq]; decide) (by rw [toList_beq]; decide) (by rw [toList_beq]; decide) (by rw [toList_beq]; decide) w
  have hc : curOf s = none := by simp [curOf, h0, h1, h2, h3, h4, h5]
  rw [show fE s = 18 by simp [fE, hc], show fK s = 0 by simp [fK, hc]]
  exact find_none (q0 := false) (q1 := false) (q2 := false) (q3 := false) (q4 := false) (q5 := false) rfl (by rw [toList_beq]; exact decide_eq_false fun h => h0 h.symm) (by rw [toList_beq]; exact decide_eq_false fun h => h1 h.symm) (by rw [toList_beq]; exact decide_eq_false fun h => h2 h.symm)
    (by rw [toList_beq]; exact decide_eq_false fun h => h3 h.symm) (by rw [toList_beq]; exact decide_eq_false fun h => h4 h.symm) (by rw [toList_beq]; exact decide_eq_false fun h => h5 h.symm) w

/-- may an amount have that many units? -/
def Bd (u : Int) : Prop := -4611686018427387904 ≤ u ∧ u ≤ 4611686018427387904
instance (u : Int) : Decidable (Bd u) := by unfold Bd; infer_instance

theorem within_any (u : Int) (w : World) : Calls Tryz.prog 74 #[.int .i64 u] w fun r w' => r = .returned (.bool (decide (Bd u))) ∧ w' = w := by
  by_cases h1 : -4611686018427387904 ≤ u
  · by_cases h2 : u ≤ 4611686018427387904
    · rw [decide_eq_true (show Bd u from ⟨h1, h2⟩)]
      go_enter Tryz.func74, Tryz.ntmps74
      go_wp2
      go_ret
      exact ⟨rfl, rfl⟩
    · rw [decide_eq_false (show ¬ Bd u from fun h => h2 h.2)]
      go_enter Tryz.func74, Tryz.ntmps74
      go_wp2
      go_ret
      exact ⟨rfl, rfl⟩
  · rw [decide_eq_false (show ¬ Bd u from fun h => h1 h.1)]
    go_enter Tryz.func74, Tryz.ntmps74
    go_wp2
    go_ret
    exact ⟨rfl, rfl⟩

abbrev WithinIs (u : Int) (b : Bool) : Prop := ∀ w, Calls Tryz.prog 74 #[.int .i64 u] w fun r w' => r = .returned (.bool b) ∧ w' = w
abbrev CurIs (u : Int) (s c : ByteArray) (k e : Int) : Prop := ∀ w, Calls Tryz.prog 40 #[.agg #[.int .i64 u, .string s]] w fun r w' => r = .returned (.tuple #[.agg #[.string c, .int .i64 k], .int .i64 e]) ∧ Only w w'

/-- the boxes of an amount and of a currency -/
theorem boxesAC (w : World) (u : Int) (s : ByteArray) : Only w ((w.alloc (.cells #[.int .i64 u, .string s] 23)).alloc (.cells #[.string ⟨#[]⟩, .int .i64 0] 45)) ∧
    Own2 ((w.alloc (.cells #[.int .i64 u, .string s] 23)).alloc (.cells #[.string ⟨#[]⟩, .int .i64 0] 45)) w.heap.size (.int .i64 u) (.string s) ∧
    Own2 ((w.alloc (.cells #[.int .i64 u, .string s] 23)).alloc (.cells #[.string ⟨#[]⟩, .int .i64 0] 45)) (w.heap.size + 1) (.string ⟨#[]⟩) (.int .i64 0) :=
  ⟨((Only.refl w).alloc _).alloc _, (Own2.new w _ _ _).alloc _, Own2.new1 w _ _ _ _⟩

theorem currency_18 {u : Int} {s : ByteArray} (F : FindIs s ⟨#[]⟩ 0 18) : CurIs u s ⟨#[]⟩ 0 18 := by
  intro w
  have F := Lib.hid F
  obtain ⟨ht, o1, o2⟩ := boxesAC w u s
  go_enter Tryz.func40, Tryz.ntmps40
  go_wp2_with fail
  go_at_call 43
  refine (F.out _).mono ?_
  rintro r w1 ⟨rfl, t1⟩
  have o2 := (o2.only t1).alloc (.cells #[.string ⟨#[]⟩, .int .i64 0] 45)
  have ht := (ht.trans t1).alloc (.cells #[.string ⟨#[]⟩, .int .i64 0] 45)
  obtain ⟨d1, d2, f1, f2, z1⟩ := o2.all
  clear t1 o1 o2
  go_wp2
  simp [bodyPost, results, Tryz.results40, go_sem, World.cell?_setCell_other, d1, d2]
  exact (ht.set (by omega) 0 _).set (by omega) 1 _

theorem currency_in {u k : Int} {s : ByteArray} {b : Bool} (F : FindIs s s k 0) (B : WithinIs u b) : CurIs u s (if b then s else ⟨#[]⟩) (if b then k else 0) (if b then 0 else 6) := by
  intro w
  have F := Lib.hid F
  have B := Lib.hid B
  obtain ⟨ht, o1, o2⟩ := boxesAC w u s
  go_enter Tryz.func40, Tryz.ntmps40
  go_wp2_with fail
  go_at_call 43
  refine (F.out _).mono ?_
  rintro r w1 ⟨rfl, t1⟩
  have o1 := (o1.only t1).alloc (.cells #[.string s, .int .i64 k] 45)
  have o2 := (o2.only t1).alloc (.cells #[.string s, .int .i64 k] 45)
  have ht := (ht.trans t1).alloc (.cells #[.string s, .int .i64 k] 45)
  obtain ⟨d1, d2, f1, f2, z1⟩ := o2.all
  obtain ⟨c1, c2, -, -, z2⟩ := o1.all
  clear t1 o1 o2
  cases b
  all_goals
    go_wp2_with (go_at_call 74; refine (B.out _).mono ?_; rintro r w1 ⟨rfl, rfl⟩)
    simp [bodyPost, results, Tryz.results40, go_sem, World.cell?_setCell_other, d1, d2]
    exact (ht.set (by omega) 0 _).set (by omega) 1 _

def curE (u : Int) (s : ByteArray) : Int := if (curOf s).isSome then if Bd u then 0 else 6 else 18

theorem currency_any (u : Int) (s : ByteArray) : CurIs u s (okS (curE u s) s) (okI (curE u s) (fK s)) (curE u s) := by
  have F := find_any s
  unfold fE at F
  unfold curE
  by_cases h : (curOf s).isSome
  · rw [if_pos h] at F ⊢
    have B : WithinIs u (decide (Bd u)) := within_any u
    have C := currency_in F B
    by_cases hb : Bd u
    · simpa [hb, okS, okI] using C
    · simpa [hb, okS, okI] using C
  · rw [if_neg h] at F ⊢
    have : fK s = 0 := by
      unfold fK
      cases hc : curOf s with
      | none => rfl
      | some k => simp [hc] at h
    rw [this] at F
    exact currency_18 F
end Go.Proofs.YtopklnaahdjafaaGreatDoor
