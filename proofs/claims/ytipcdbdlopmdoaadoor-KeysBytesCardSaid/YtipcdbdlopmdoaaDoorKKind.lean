/-
  Parts made; the kinds' functions but for those that write and read bytes.
-/
import Derived.Test.YtipcdbdlopmdoaaDoorKShelf
import Derived.LoopTactic
import Derived.Deep.LoopGhost
namespace Go.Proofs.YtipcdbdlopmdoaaDoor
open Go.RowKit Go.Shelf
set_option linter.unusedVariables false
set_option linter.unusedSimpArgs false

/-- a part as a value -/
def pv (p : KP) : Value := .agg #[.int .i64 p.kind, .int .i64 p.n, .string (ktxt p.s)]

theorem int_any (n : Int) (w : World) : Calls Tryd.prog 19 #[.int .i64 n] w fun e w' => e = .returned (pv ⟨1, n, []⟩) ∧ Only w w' := by
  go_enter Tryd.func19, Tryd.ntmps19
  go_wp2_with fail
  simp [bodyPost, results, Tryd.results19, go_sem]
  exact ⟨rfl, Only.alloc (Only.refl _) _⟩

theorem text_any (s : ByteArray) (hs : s.size ≤ 281474976710656) (w : World) : Calls Tryd.prog 20 #[.string s] w fun e w' => e = .returned (pv ⟨2, 0, s.data.toList⟩) ∧ Only w w' := by
  go_enter Tryd.func20, Tryd.ntmps20
  go_wp2_with (go_at_call 25; refine (clone_any s hs _).mono ?_; rintro r w' ⟨rfl, hb⟩; obtain ⟨c0, c1, c2, f0, f1, f2, hl⟩ := ((Own3.new w (.int .i64 0) (.int .i64 0) (.string ⟨#[]⟩) 40).only hb).all6)
  simp [bodyPost, results, Tryd.results20, go_sem, World.cell?_setCell_other, c0, c1, c2]
  exact ⟨rfl, Only.set3 ((Only.alloc (Only.refl _) _).trans hb) (Nat.le_refl _) _ _ _⟩

theorem isNaN_any (a : Int) (w : World) : Calls Tryd.prog 34 #[.int .i64 a] w fun e w' => e = .returned (.bool false) ∧ w' = w := by
  go_enter Tryd.func34, Tryd.ntmps34
  go_wp2
  go_ret
  exact ⟨by simp, rfl⟩
theorem cmpI_any (a b : Int) (w : World) : Calls Tryd.prog 24 #[.int .i64 a, .int .i64 b] w fun e w' => e = .returned (.int .i64 (cmpN a b)) ∧ w' = w := by
  unfold cmpN
  by_cases h1 : a < b
  · have i1 : decide (a < b) = true := by simpa using h1
    rw [if_pos h1]
    go_enter Tryd.func24, Tryd.ntmps24
    go_wp2_with (go_at_call 34; refine (isNaN_any _ _).mono ?_; rintro r w' ⟨rfl, rfl⟩)
    go_ret
    exact ⟨rfl, rfl⟩
  · rw [if_neg h1]
    have i1 : decide (a < b) = false := by simpa using h1
    by_cases h2 : b < a
    · rw [if_pos h2]
      go_enter Tryd.func24, Tryd.ntmps24
      go_wp2_with (go_at_call 34; refine (isNaN_any _ _).mono ?_; rintro r w' ⟨rfl, rfl⟩)
      go_ret
      exact ⟨rfl, rfl⟩
    · rw [if_neg h2]
      have i2 : decide (b < a) = false := by simpa using h2
      go_enter Tryd.func24, Tryd.ntmps24
      go_wp2_with (go_at_call 34; refine (isNaN_any _ _).mono ?_; rintro r w' ⟨rfl, rfl⟩)
      go_ret
      exact ⟨rfl, rfl⟩

/-- a function of a part, the part in a box of its own -/
theorem cmpInts_any (p q : KP) (w : World) : Calls Tryd.prog 26 #[pv p, pv q] w fun e w' => e = .returned (.int .i64 (cmpN p.n q.n)) ∧ Only w w' := by
  unfold pv
  go_enter Tryd.func26, Tryd.ntmps26
  go_wp2_with (go_at_call 24; refine (cmpI_any _ _ _).mono ?_; rintro r w' ⟨rfl, rfl⟩)
  go_ret
  exact ⟨rfl, by repeat (first | exact Only.refl _ | apply Only.alloc | apply Only.drew)⟩
theorem cmpTexts_any (p q : KP) (w : World) : Calls Tryd.prog 30 #[pv p, pv q] w fun e w' => e = .returned (.int .i64 (Lib.compareBytes p.s q.s)) ∧ Only w w' := by
  unfold pv
  go_enter Tryd.func30, Tryd.ntmps30
  go_wp2_with (go_at_call 36; refine (compare_any _ _ _).mono ?_; rintro r w' ⟨rfl, rfl⟩)
  go_ret
  exact ⟨rfl, by repeat (first | exact Only.refl _ | apply Only.alloc | apply Only.drew)⟩
theorem sizeInt_any (p : KP) (w : World) : Calls Tryd.prog 27 #[pv p] w fun e w' => e = .returned (.int .i64 8) ∧ Only w w' := by
  unfold pv
  go_enter Tryd.func27, Tryd.ntmps27
  go_wp2
  go_ret
  exact ⟨rfl, by repeat (first | exact Only.refl _ | apply Only.alloc | apply Only.drew)⟩
theorem sizeText_any (p : KP) (hp : p.s.length ≤ 1000000) (w : World) : Calls Tryd.prog 31 #[pv p] w fun e w' => e = .returned (.int .i64 ((esc p.s).length + 2 : Nat)) ∧ Only w w' := by
  have hc : p.s.count 0 ≤ p.s.length := List.count_le_length
  have hE := esc_length p.s
  unfold pv
  obtain ⟨c, hcc⟩ : ∃ c, c = p.s.count 0 := ⟨_, rfl⟩
  have CT : ∀ W, Calls Tryd.prog 37 #[.string (ktxt p.s), .string ⟨#[0]⟩] W fun e w' => e = .returned (.int .i64 (c : Nat)) ∧ w' = W := fun W => by rw [hcc]; exact count0_any (ktxt p.s) W
  have CT := Lib.hid CT
  rw [← hcc] at hc hE
  have HE := Lib.hid hE
  have il : ((ktxt p.s).size : Int) ≤ 1000000 := by rw [ktxt_size]; omega
  have ic : (c : Int) ≤ 1000000 := by omega
  have hz : (ktxt p.s).size = p.s.length := rfl
  have HZ := Lib.hid hz
  clear hz hcc hE
  go_enter Tryd.func31, Tryd.ntmps31
  go_wp2_with fail
  go_quiet ((first | (go_at_call 37; with_reducible exact Calls.quiet_of_same (CT.out _)) | fail))
  go_wp2_with fail
  go_ret
  refine ⟨?_, Only.drewN (by repeat (first | exact Only.refl _ | apply Only.alloc | apply Only.drew)) _⟩
  rw [HE.out]
  simp
end Go.Proofs.YtipcdbdlopmdoaaDoor
