/-
  The small functions of package wide, and what it calls of math/bits.
-/
import Derived.Test.YtopklnaahdjafaaGreatDoorNPlain
import Derived.Test.YtopklnaahdjafaaGreatDoorNDiv
import Derived.Shelf.Spec.BitsCarry
import Derived.Shelf.Bits.Mul64
import Derived.Shelf.Small.Bits
import Derived.Shelf.Lay
import Derived.Deep.RegionHeld3
import Derived.Laws.Pointers
import Derived.StillTactics
namespace Go.Proofs
open Go.Shelf
def Tryz.lays25_ren : Go.Shelf.Ren := ⟨fun | 25 => 79 | n => n, fun | 22 => 83 | n => n, fun | n => n⟩
theorem Tryz.lays25 : Go.Proofs.Lays7.n25 Tryz.prog Tryz.lays25_ren := {
  mixed := by kernel_rfl
  f25 := Tryz.func79.trans (congrArg some (by kernel_rfl))
  t22 := Tryz.underlying83
  a22 := Tryz.isAgg83
  z22 := Tryz.sizeOf83
  v22 := Tryz.zeroValue83
  i22 := by kernel_rfl }
def Tryz.lays26_ren : Go.Shelf.Ren := ⟨fun | 26 => 98 | n => n, fun | 22 => 83 | n => n, fun | n => n⟩
theorem Tryz.lays26 : Go.Proofs.Lays7.n26 Tryz.prog Tryz.lays26_ren := {
  mixed := by kernel_rfl
  f26 := Tryz.func98.trans (congrArg some (by kernel_rfl))
  t22 := Tryz.underlying83
  a22 := Tryz.isAgg83
  z22 := Tryz.sizeOf83
  v22 := Tryz.zeroValue83
  i22 := by kernel_rfl }
end Go.Proofs
namespace Go.Proofs.YtopklnaahdjafaaGreatDoor
open Go.RowKit Go.Shelf

theorem add64 (x y c : Int) (hx : 0 ≤ x) (hy : 0 ≤ y) (hc0 : 0 ≤ c) (hc : c ≤ 1) (w : World) : (callFunc 79 #[.int .u64 x, .int .u64 y, .int .u64 c]).run Tryz.prog w =
    .ok (.value (.tuple #[.int .u64 ((x + y + c) % 18446744073709551616), .int .u64 ((x + y + c) / 18446744073709551616)])) w := by
  obtain ⟨x, rfl⟩ := Int.eq_ofNat_of_zero_le hx
  obtain ⟨y, rfl⟩ := Int.eq_ofNat_of_zero_le hy
  obtain ⟨c, rfl⟩ := Int.eq_ofNat_of_zero_le hc0
  refine (Any7.bits_Add64 Tryz.lays25 x y c (by omega) w).trans ?_
  congr 5 <;> omega

/-- the borrow, under a name -/
def bor (x y : Int) : Int := if x < y then 1 else 0
theorem bor_lo (x y : Int) : 0 ≤ bor x y := by unfold bor; split <;> decide
theorem bor_hi (x y : Int) : bor x y ≤ 1 := by unfold bor; split <;> decide

theorem sub64 (x y b : Int) (hx : 0 ≤ x) (hy : 0 ≤ y) (hy' : y < 18446744073709551616) (hb0 : 0 ≤ b) (hb : b ≤ 1) (w : World) : (callFunc 98 #[.int .u64 x, .int .u64 y, .int .u64 b]).run Tryz.prog w =
    .ok (.value (.tuple #[.int .u64 ((x - y - b) % 18446744073709551616), .int .u64 (bor x (y + b))])) w := by
  obtain ⟨x, rfl⟩ := Int.eq_ofNat_of_zero_le hx
  obtain ⟨y, rfl⟩ := Int.eq_ofNat_of_zero_le hy
  obtain ⟨b, rfl⟩ := Int.eq_ofNat_of_zero_le hb0
  have e1 : (((x + 18446744073709551616 - y - b) % 18446744073709551616 : Nat) : Int) = ((x : Int) - y - b) % 18446744073709551616 := by omega
  have e2 : ((if x < y + b then 1 else 0 : Nat) : Int) = bor (x : Int) (y + b) := by unfold bor; split <;> split <;> omega
  rw [← e1, ← e2]
  exact Any7.bits_Sub64 Tryz.lays26 x y b (by omega) w

theorem add64_0 (x y : Int) (hx : 0 ≤ x) (hy : 0 ≤ y) (w : World) : (callFunc 79 #[.int .u64 x, .int .u64 y, .int .u64 0]).run Tryz.prog w =
    .ok (.value (.tuple #[.int .u64 ((x + y) % 18446744073709551616), .int .u64 ((x + y) / 18446744073709551616)])) w := by
  simpa using add64 x y 0 hx hy (Int.le_refl 0) (by decide) w
theorem sub64_0 (x y : Int) (hx : 0 ≤ x) (hy : 0 ≤ y) (hy' : y < 18446744073709551616) (w : World) : (callFunc 98 #[.int .u64 x, .int .u64 y, .int .u64 0]).run Tryz.prog w =
    .ok (.value (.tuple #[.int .u64 ((x - y) % 18446744073709551616), .int .u64 (bor x y)])) w := by
  simpa using sub64 x y 0 hx hy hy' (Int.le_refl 0) (by decide) w

/-- below -/
theorem below_any (h l : Int) (h0 : 0 ≤ h) (h1 : h < 18446744073709551616) (w : World) : Calls Tryz.prog 80 #[.agg #[.int .u64 h, .int .u64 l]] w fun e w' => e = .returned (.bool (decide (9223372036854775808 ≤ h))) ∧ Turn (fun _ => False) w w' := by
  have k := and_high h ⟨h0, h1⟩
  by_cases c : 9223372036854775808 ≤ h
  · rw [if_neg (by omega)] at k
    go_enter Tryz.func80, Tryz.ntmps80
    go_wp2
    go_ret
    exact ⟨by simp [c], (by repeat (first | exact Turn.refl _ _ | apply Turn.drew | apply Turn.alloc | refine Turn.setCell ?_ (Or.inr (by simp)) _ | refine Turn.setCell ?_ (Or.inr (by simp; omega)) _))⟩
  · rw [if_pos (by omega)] at k
    go_enter Tryz.func80, Tryz.ntmps80
    go_wp2
    go_ret
    exact ⟨by simp [c], (by repeat (first | exact Turn.refl _ _ | apply Turn.drew | apply Turn.alloc | refine Turn.setCell ?_ (Or.inr (by simp)) _ | refine Turn.setCell ?_ (Or.inr (by simp; omega)) _))⟩

theorem sizeOf_any (n : Int) (h0 : -9223372036854775808 ≤ n) (h1 : n < 9223372036854775808) (w : World) : Calls Tryz.prog 101 #[.int .i64 n] w fun e w' => e = .returned (.int .u64 (if n < 0 then -n else n)) ∧ w' = w := by
  by_cases c : n < 0
  · have e : IntKind.u64.wrap (-IntKind.u64.wrap n) = -n := by rw [IntKind.wrap_u64, IntKind.wrap_u64]; omega
    go_enter Tryz.func101, Tryz.ntmps101
    go_wp2
    go_ret
    exact ⟨rfl, rfl⟩
  · go_enter Tryz.func101, Tryz.ntmps101
    go_wp2
    go_ret
    exact ⟨rfl, rfl⟩

theorem fromInt_any (n : Int) (h0 : -9223372036854775808 ≤ n) (h1 : n < 9223372036854775808) (w : World) : Calls Tryz.prog 46 #[.int .i64 n] w fun e w' => e = .returned (enc n) ∧ Turn (fun _ => False) w w' := by
  by_cases c : n < 0
  · go_enter Tryz.func46, Tryz.ntmps46
    go_wp2
    simp [bodyPost, results, Tryz.results46, go_sem]
    exact ⟨enc_mk (by omega) (by first | omega | exact IntKind.wrap_u64 n), by repeat (first | exact Turn.refl _ _ | apply Turn.drew | apply Turn.alloc)⟩
  · go_enter Tryz.func46, Tryz.ntmps46
    go_wp2
    simp [bodyPost, results, Tryz.results46, go_sem]
    exact ⟨enc_mk (by omega) (by omega), by repeat (first | exact Turn.refl _ _ | apply Turn.drew | apply Turn.alloc)⟩

theorem turned_any (v : Int) (w : World) : Calls Tryz.prog 117 #[enc v] w fun e w' => e = .returned (enc (-v)) ∧ Turn (fun _ => False) w w' := by
  obtain ⟨h, l, h0, h1, l0, l1, t, e⟩ := enc_words v
  rw [e]
  clear e
  have k0 := bor_lo 0 l
  have k1 := bor_hi 0 l
  go_enter Tryz.func117, Tryz.ntmps117
  go_wp2_with (first | simp only [sub64_0 0 l (by decide) l0 l1] | simp only [sub64 0 h _ (by decide) h0 h1 k0 k1])
  simp [bodyPost, results, Tryz.results117, go_sem]
  refine ⟨enc_mk ?_ ?_, by repeat (first | exact Turn.refl _ _ | apply Turn.drew | apply Turn.alloc)⟩
  · obtain ⟨eh, el⟩ := t; unfold bor; split <;> omega
  · obtain ⟨eh, el⟩ := t; omega
end Go.Proofs.YtopklnaahdjafaaGreatDoor
