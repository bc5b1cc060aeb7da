/-
  The document's own names of segments (exref2's Name).
-/
import Derived.Test.YtinghngnehhgfaaGreatDoorWC
namespace Go.Proofs.YtinghngnehhgfaaGreatDoor
open Go.RowKit Go.Maps Go.WideMaps

section
variable {w w' : World}

theorem dig_cons (k n : Nat) : Walp.dig (k + 1) n = UInt8.ofNat (48 + n / 10 ^ k % 10) :: Walp.dig k n := by
  induction k generalizing n with
  | zero => simp [Walp.dig]
  | succ k ih =>
    rw [Walp.dig, ih, Walp.dig, List.cons_append, Nat.div_div_eq_div_mul, Nat.pow_succ, Nat.mul_comm 10]

theorem txt_append (a b : List UInt8) : txt a ++ txt b = txt (a ++ b) := by
  apply ByteArray.ext
  apply Array.ext'
  simp [ByteArray.data_append]

set_option maxRecDepth 100000 in
set_option maxHeartbeats 2000000 in
theorem refName_any (d : ByteArray) (hd : d.size ≤ 1000) (x : Nat) (hx : x < 100000000) (w : World) : Calls Tryz.prog 18 #[.string d, .int .i64 (x : Int)] w fun r w' => r = .returned (.string (segName d x)) ∧ Turn (fun _ => False) w w' := by
  go_enter Tryz.func18, Tryz.ntmps18
  go_wp2_with fail
  go_loopw [1, 5, 6] (fun n s i wr => ∃ (k y : Nat), k ≤ 8 ∧ i = .int .i64 k ∧ n = .int .i64 y ∧ y = x / 10 ^ k ∧ s = .string (txt (Walp.dig k x)) ∧ Turn (fun _ => False) w wr) (fun _ _ i _ => 8 - (intOf i).toNat)
  case atStart => exact ⟨0, x, Nat.zero_le _, rfl, rfl, by simp, rfl, Turn.refl _ _⟩
  case round =>
    obtain ⟨k, y, hk, rfl, rfl, hy, rfl, ht⟩ := hrel
    have hyx : y < 100000000 := by
      rw [hy]; exact Nat.lt_of_le_of_lt (Nat.div_le_self _ _) hx
    have HY := Lib.hid hy
    have HT := Lib.hid ht
    clear hy ht
    by_cases hlt : k < 8
    · have i1 : (k : Int) < 8 := by omega
      obtain ⟨q, hq⟩ : ∃ q, q = y / 10 := ⟨_, rfl⟩
      obtain ⟨c, hc⟩ : ∃ c, c = y % 10 := ⟨_, rfl⟩
      have hcl : c < 10 := by omega
      have q1 : (y : Int) / 10 = (q : Int) := by omega
      have q2 : (y : Int).tdiv 10 = (q : Int) := by rw [Int.tdiv_eq_ediv_of_nonneg (by omega)]; omega
      have m1 : (y : Int) % 10 = (c : Int) := by omega
      have m2 : (y : Int).tmod 10 = (c : Int) := by rw [Int.tmod_eq_emod_of_nonneg (by omega)]; omega
      have hql : q < 100000000 := by omega
      have hcl' : (c : Int) < 10 := by omega
      obtain ⟨z, hz⟩ : ∃ z : UInt8, z = UInt8.ofNat (48 + c) := ⟨_, rfl⟩
      have hcv : ∀ (W : World) (fr : Nat × Nat), (convert 33 9 (.slice (some ⟨W.heap.size, 0, none⟩) 1 1)).run Tryz.prog (W.alloc (.cells #[.int .u8 (48 + (c : Int))] 5 fr)) = .ok (.string ⟨#[z]⟩) (W.alloc (.cells #[.int .u8 (48 + (c : Int))] 5 fr)) := fun W fr =>
        run_convert_bytes_back (P := Tryz.prog) _ 33 9 5 ⟨W.heap.size, 0, none⟩ 1 [z] Tryz.underlying33 Tryz.underlying5 Tryz.underlying9
          (fun j hj => by
            have h0 : j = 0 := by simpa using hj
            subst h0
            rw [add_head]
            unfold World.cell?
            simp only [heap_alloc_new]
            simp [hz, UInt8.toNat_ofNat']
            omega)
      have hs : (⟨#[z]⟩ : ByteArray) ++ txt (Walp.dig k x) = txt (Walp.dig (k + 1) x) := by
        have h1 := txt_append [z] (Walp.dig k x)
        rw [dig_cons, ← HY.out, ← hc, ← hz]
        exact h1
      have HS := Lib.hid hs
      have HQ : Hid (q = x / 10 ^ (k + 1)) := Lib.hid (by rw [hq, HY.out, Nat.div_div_eq_div_mul, Nat.pow_succ])
      have hsz : (txt (Walp.dig k x)).size ≤ 8 := by show (Walp.dig k x).toArray.size ≤ 8; simp [Walp.dig_length]; omega
      clear hq hc hs hlt hz
      generalize txt (Walp.dig k x) = s0 at HS hsz ⊢
      have b1 : ¬ 9223372036854775807 < 1 + s0.size := by omega
      go_wp2_with fail
      go_roundw
      case rel => exact ⟨k + 1, q, by omega, by go_num, rfl, HQ.out, by rw [← HS.out], HT.out.alloc _⟩
      case measure => simp [intOf]; omega
    · have hk0 : k = 8 := by omega
      subst hk0
      have hs : d ++ (⟨#[47]⟩ : ByteArray) ++ txt (Walp.dig 8 x) = segName d x := by
        have h1 := txt_append [47] (Walp.dig 8 x)
        have h2 := txt_append d.data.toList ([47] ++ Walp.dig 8 x)
        unfold segName Walp.seg
        rw [ByteArray.append_assoc]
        have h3 : (⟨#[47]⟩ : ByteArray) ++ txt (Walp.dig 8 x) = txt ([47] ++ Walp.dig 8 x) := h1
        rw [h3]
        exact h2
      have HS := Lib.hid hs
      have hsz : (txt (Walp.dig 8 x)).size ≤ 8 := by show (Walp.dig 8 x).toArray.size ≤ 8; simp [Walp.dig_length]
      clear hs hlt
      generalize txt (Walp.dig 8 x) = s0 at HS hsz ⊢
      have b1 : ¬ 9223372036854775807 < d.size + 1 := by omega
      have b2 : ¬ 9223372036854775807 < d.size + 1 + s0.size := by omega
      go_wp2_with fail
      go_ret
      exact ⟨by rw [HS.out]; rfl, HT.out⟩
end
end Go.Proofs.YtinghngnehhgfaaGreatDoor
