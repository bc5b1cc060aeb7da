/-
  Sum: the table, the loop.
-/
import Derived.Test.YtjjajnfkngfpjaaGreatDoorWBase
import Derived.Test.YtjjajnfkngfpjaaGreatDoorWPlain
import Derived.IntWalk
import Derived.Laws.BitsAll
namespace Go.Proofs.YtjjajnfkngfpjaaGreatDoor
open Go.RowKit Go.Maps Go.WideMaps

/-- the table of sums lies in w -/
def SumTab (w : World) : Prop := ∀ i : Nat, i < 16 → w.cell? ⟨0, i, none⟩ = some (.int .u32 (Walp.tab i : Nat))

section
variable {w w' : World} {p : Nat} {S S' : Fsp.Fs} {c c' : Bool} {Q : Nat → Prop} {mo : Option Nat} {pl : List UInt8 → Pl}

theorem SumTab.turned (h : SumTab w) (ht : Turn (fun _ => False) w w') : SumTab w' := fun i hi => turn_cell ht (h i hi)

theorem xor_u32 (a b : Nat) (ha : a < 4294967296) (hb : b < 4294967296) : bits .xor .u32 (a : Int) (b : Int) = ((a ^^^ b : Nat) : Int) := u32_xor_nat a b ha hb

theorem and15 (x : Nat) (h : x < 4294967296) : bits .and .u32 (x : Int) 15 = ((x % 16 : Nat) : Int) := by
  have := u32_and_nat x 15 h (by decide)
  rw [show ((15 : Nat) : Int) = 15 from rfl] at this
  rw [this]
  congr 1
  exact Nat.and_two_pow_sub_one_eq_mod x 4

theorem half_x (x : Nat) (h : x < 4294967296) : bits .xor .u32 ((Walp.tab (x % 16) : Nat) : Int) ((x : Int) / 16) = ((Walp.half x : Nat) : Int) := by
  have e : (x : Int) / 16 = ((x / 16 : Nat) : Int) := by omega
  rw [e, xor_u32 _ _ (Walp.tab_lt _) (by omega)]; rfl

theorem not_u32 (x : Nat) (h : x < 4294967296) : bits .xor .u32 IntKind.u32.max (x : Int) = ((4294967295 - x : Nat) : Int) := by
  have e : IntKind.u32.max = ((4294967295 : Nat) : Int) := rfl
  rw [e, xor_u32 _ _ (by decide) h]
  congr 1
  apply Nat.eq_of_testBit_eq
  intro i
  rw [Nat.testBit_xor, show (4294967295 : Nat) = 2 ^ 32 - 1 from rfl, Nat.testBit_two_pow_sub_one, show 2 ^ 32 - 1 - x = 2 ^ 32 - (x + 1) by omega, Nat.testBit_two_pow_sub_succ (by omega)]
  by_cases hi : i < 32
  · simp [hi]
  · have : x.testBit i = false := Nat.testBit_lt_two_pow (Nat.lt_of_lt_of_le (show x < 2 ^ 32 by omega) (Nat.pow_le_pow_right (by decide) (by omega)))
    simp [hi, this]

set_option maxRecDepth 100000 in
set_option maxHeartbeats 1000000 in
theorem sum_any {v : Value} {b : List UInt8} (hT : SumTab w) (h : SliceR w v b) (hl : b.length ≤ 281474976710656) :
    Calls Tryz.prog 27 #[v] w fun r w' => r = .returned (.int .u32 (Walp.sum b : Nat)) ∧ w = w' := by
  obtain ⟨sp, cap, rfl, hcell⟩ := h
  have HC := Lib.hid hcell
  have HT := Lib.hid hT
  clear hcell hT
  go_enter Tryz.func27, Tryz.ntmps27
  go_wp2_with fail
  go_loop [3, 8] (fun s i => ∃ k : Nat, k ≤ b.length ∧ i = .int .i64 k ∧ s = .int .u32 (Walp.run (b.take k) : Nat)) (fun _ i => b.length - (intOf i).toNat)
  case atStart => exact ⟨0, Nat.zero_le _, rfl, rfl⟩
  case round =>
    obtain ⟨k, hk, rfl, rfl⟩ := hrel
    by_cases hlt : k < b.length
    · obtain ⟨ad, e1, x1⟩ := HC.out (by omega)
      subst e1
      have cx := x1 k b[k] (List.getElem?_eq_getElem hlt)
      have i0 : (0 : Int) ≤ (k : Int) := by omega
      have i1 : (k : Int) < (b.length : Int) := by omega
      have hrun := Walp.run_lt (b.take k)
      have hsn : Walp.run (b.take (k + 1)) = Walp.byteS (Walp.run (b.take k)) b[k] := by
        rw [List.take_succ_eq_append_getElem hlt, Walp.run_snoc]
      have HS := Lib.hid hsn
      clear hsn x1
      obtain ⟨s, hs⟩ : ∃ s, s = Walp.run (b.take k) := ⟨_, rfl⟩
      obtain ⟨y, hy⟩ : ∃ y, y = b[k] := ⟨_, rfl⟩
      rw [← hs] at hrun HS ⊢
      rw [← hy] at cx HS
      have hyl := y.toNat_lt
      obtain ⟨x1, hx1⟩ : ∃ x, x = s ^^^ y.toNat := ⟨_, rfl⟩
      have hl1 : x1 < 4294967296 := by rw [hx1]; exact Walp.byte_xor_lt hrun y
      obtain ⟨x2, hx2⟩ : ∃ x, x = Walp.half x1 := ⟨_, rfl⟩
      have hl2 : x2 < 4294967296 := by rw [hx2]; exact Walp.half_lt hl1
      obtain ⟨x3, hx3⟩ : ∃ x, x = Walp.half x2 := ⟨_, rfl⟩
      have e1 : bits .xor .u32 (s : Int) (y.toNat : Int) = (x1 : Int) := by rw [hx1]; exact xor_u32 _ _ hrun (by omega)
      have HX : Hid (x3 = Walp.byteS s y) := by rw [hx3, hx2, hx1]; exact Lib.hid rfl
      have a1 := and15 x1 hl1
      have a2 := and15 x2 hl2
      have k1 := HT.out (x1 % 16) (Nat.mod_lt _ (by decide))
      have k2 := HT.out (x2 % 16) (Nat.mod_lt _ (by decide))
      have z1 := half_x x1 hl1
      have z2 := half_x x2 hl2
      rw [← hx2] at z1
      rw [← hx3] at z2
      obtain ⟨m1, hm1⟩ : ∃ m, m = x1 % 16 := ⟨_, rfl⟩
      obtain ⟨m2, hm2⟩ : ∃ m, m = x2 % 16 := ⟨_, rfl⟩
      rw [← hm1] at a1 k1 z1
      rw [← hm2] at a2 k2 z2
      have j1 : (m1 : Int) < 16 := by omega
      have j2 : (m2 : Int) < 16 := by omega
      clear hx1 hx2 hx3 hm1 hm2 hs hy
      unfold byteV at cx
      go_wp2
      go_round
      case rel => exact ⟨k + 1, by omega, by go_num, by rw [HS.out, ← HX.out]⟩
      case measure => simp [intOf]; omega
    · have hk0 : k = b.length := by omega
      subst hk0
      have hrun := Walp.run_lt (b.take b.length)
      have e1 := not_u32 _ hrun
      rw [List.take_length] at e1 ⊢
      clear hrun
      have HE := Lib.hid e1
      clear e1
      go_wp2
      go_ret
      exact ⟨ret_int HE.out, rfl⟩

end
end Go.Proofs.YtjjajnfkngfpjaaGreatDoor
