/-
  A part's bytes written behind a key.
-/
import Derived.Test.YtipcdbdlopmdoaaDoorKKind
import Derived.Test.YtipcdbdlopmdoaaDoorKGrew
namespace Go.Proofs.YtipcdbdlopmdoaaDoor
open Go.RowKit Go.Maps Go.WideMaps Go.Shelf
set_option linter.unusedVariables false
set_option linter.unusedSimpArgs false

theorem xor_flip (a : Nat) (h : a < 18446744073709551616) : a ^^^ 9223372036854775808 = if a < 9223372036854775808 then a + 9223372036854775808 else a - 9223372036854775808 := by
  have k1 : (a ^^^ 9223372036854775808) % 9223372036854775808 = a % 9223372036854775808 := by
    have := Nat.xor_mod_two_pow (a := a) (b := 9223372036854775808) (n := 63)
    rw [show (2 : Nat) ^ 63 = 9223372036854775808 from rfl, Nat.mod_self, Nat.xor_zero] at this
    exact this
  have k2 : (a ^^^ 9223372036854775808) / 9223372036854775808 = (a / 9223372036854775808) ^^^ 1 := by
    have := Nat.xor_div_two_pow (a := a) (b := 9223372036854775808) (n := 63)
    rw [show (2 : Nat) ^ 63 = 9223372036854775808 from rfl] at this
    exact this
  have h2 : a / 9223372036854775808 = 0 ∨ a / 9223372036854775808 = 1 := by omega
  split
  · have : a / 9223372036854775808 = 0 := by omega
    rw [this] at k2
    have : (0 ^^^ 1 : Nat) = 1 := rfl
    omega
  · have : a / 9223372036854775808 = 1 := by omega
    rw [this] at k2
    have : (1 ^^^ 1 : Nat) = 0 := rfl
    omega

theorem flip_low {n : Int} (h1 : -9223372036854775808 ≤ n) (h2 : n ≤ 9223372036854775807) : bits .xor .u64 (IntKind.u64.wrap n) 9223372036854775808 = (low n : Int) := by
  rw [IntKind.wrap_u64]
  obtain ⟨a, ha⟩ : ∃ a : Nat, n % 18446744073709551616 = (a : Int) := ⟨(n % 18446744073709551616).toNat, by omega⟩
  have hl : a < 18446744073709551616 := by omega
  rw [ha]
  have := bits_xor_u64_nat a 9223372036854775808 hl (by omega)
  rw [show ((9223372036854775808 : Nat) : Int) = 9223372036854775808 from rfl] at this
  rw [this, xor_flip a hl]
  unfold low
  split <;> omega

theorem be8 {U : Nat} (hU : U < 18446744073709551616) : ∃ x0 x1 x2 x3 x4 x5 x6 x7 : UInt8, be 8 U = [x0, x1, x2, x3, x4, x5, x6, x7] ∧ (x0.toNat : Int) = (U : Int) / 72057594037927936 ∧ (x1.toNat : Int) = (U : Int) / 281474976710656 % 256 ∧
    (x2.toNat : Int) = (U : Int) / 1099511627776 % 256 ∧ (x3.toNat : Int) = (U : Int) / 4294967296 % 256 ∧ (x4.toNat : Int) = (U : Int) / 16777216 % 256 ∧ (x5.toNat : Int) = (U : Int) / 65536 % 256 ∧ (x6.toNat : Int) = (U : Int) / 256 % 256 ∧ (x7.toNat : Int) = (U : Int) % 256 := by
  refine ⟨_, _, _, _, _, _, _, _, rfl, ?_, ?_, ?_, ?_, ?_, ?_, ?_, ?_⟩ <;>
    simp only [UInt8.toNat_ofNat', Nat.reducePow, Nat.pow_zero, Nat.div_one] <;> omega

theorem byte_new {w : World} {z : Int} {c : UInt8} (h : (c.toNat : Int) = z) : ∀ j u, ([c].map u8V)[j]? = some u → (w.alloc (.cells #[.int .u8 z] 5)).cell? ⟨w.heap.size, j, none⟩ = some u := by
  subst h
  intro j u hj
  rw [cell_new]
  cases j with
  | zero => simpa [u8V] using hj
  | succ j => simp at hj

set_option maxRecDepth 100000 in
set_option maxHeartbeats 3200000 in
theorem putInt_any {p : KP} (hn : numOk p) {w : World} {base : Nat} {v : Value} {l : List UInt8} (hb : BytesO w base v l) (hbase : base ≤ w.heap.size) (hl : l.length ≤ 1000000) :
    Calls Tryd.prog 28 #[v, pv p] w fun e w' => ∃ v', e = .returned v' ∧ BytesO w' base v' (l ++ be 8 (low p.n)) ∧ Grew w v w' v' := by
  unfold pv
  have HB := Lib.hid hb
  have X := flip_low hn.1 hn.2
  have hU : low p.n < 18446744073709551616 := by obtain ⟨a, b⟩ := hn; unfold low; omega
  obtain ⟨U, hu⟩ : ∃ U, U = low p.n := ⟨_, rfl⟩
  rw [← hu] at X hU
  rw [← hu]
  obtain ⟨x0, x1, x2, x3, x4, x5, x6, x7, hbe, e0, e1, e2, e3, e4, e5, e6, e7⟩ := be8 hU
  rw [hbe]
  have E0 := Lib.hid e0
  have E1 := Lib.hid e1
  have E2 := Lib.hid e2
  have E3 := Lib.hid e3
  have E4 := Lib.hid e4
  have E5 := Lib.hid e5
  have E6 := Lib.hid e6
  have E7 := Lib.hid e7
  clear hu hb hbe e0 e1 e2 e3 e4 e5 e6 e7
  go_enter Tryd.func28, Tryd.ntmps28
  go_wp2_with fail
  go_loopw [0, 6, 11] (fun v1 _ i wr => ∃ k : Nat, k ≤ 8 ∧ i = .int .i64 k ∧ BytesO wr base v1 (l ++ [x0, x1, x2, x3, x4, x5, x6, x7].take k) ∧ Grew w v wr v1) (fun _ _ i _ => 8 - (intOf i).toNat)
  case atStart => exact ⟨0, by omega, rfl, by simpa using HB.out.only (Only.alloc (Only.refl _) _), (Grew.refl w v).alloc _⟩
  case round =>
    obtain ⟨k, hk, rfl, hb1, ht1⟩ := hrel
    rcases (by omega : k = 0 ∨ k = 1 ∨ k = 2 ∨ k = 3 ∨ k = 4 ∨ k = 5 ∨ k = 6 ∨ k = 7 ∨ k = 8) with rfl | rfl | rfl | rfl | rfl | rfl | rfl | rfl | rfl
    · have HC := Lib.hid (byte_new (w := wr) (c := x0) (z := (U : Int) / 72057594037927936) (by rw [E0.out]))
      have HB1 := Lib.hid (hb1.only ((Only.refl wr).alloc (.cells #[.int .u8 ((U : Int) / 72057594037927936)] 5)))
      have HT := Lib.hid ht1
      clear hb1 ht1 hk
      go_wp2_with (at_builtin; refine append_byteG rfl (.tmp 14) (.tmp 21) rfl (base := base) [x0] rfl rfl HB1.out HC.out (by simp; omega) (by have := HT.out.size; simp; omega) ?_; intro v3 w3 hb3 ht3)
      go_roundw
      case rel => exact ⟨1, by omega, rfl, by simpa using hb3, (HT.out.alloc _).trans ht3⟩
      case measure => simp [intOf]
    · have HC := Lib.hid (byte_new (w := wr) (c := x1) (z := IntKind.u8.wrap ((U : Int) / 281474976710656)) (by rw [E1.out]; exact (IntKind.wrap_u8 _).symm))
      have HB1 := Lib.hid (hb1.only ((Only.refl wr).alloc (.cells #[.int .u8 (IntKind.u8.wrap ((U : Int) / 281474976710656))] 5)))
      have HT := Lib.hid ht1
      clear hb1 ht1 hk
      go_wp2_with (at_builtin; refine append_byteG rfl (.tmp 14) (.tmp 21) rfl (base := base) [x1] rfl rfl HB1.out HC.out (by simp; omega) (by have := HT.out.size; simp; omega) ?_; intro v3 w3 hb3 ht3)
      go_roundw
      case rel => exact ⟨2, by omega, rfl, by simpa using hb3, (HT.out.alloc _).trans ht3⟩
      case measure => simp [intOf]
    · have HC := Lib.hid (byte_new (w := wr) (c := x2) (z := IntKind.u8.wrap ((U : Int) / 1099511627776)) (by rw [E2.out]; exact (IntKind.wrap_u8 _).symm))
      have HB1 := Lib.hid (hb1.only ((Only.refl wr).alloc (.cells #[.int .u8 (IntKind.u8.wrap ((U : Int) / 1099511627776))] 5)))
      have HT := Lib.hid ht1
      clear hb1 ht1 hk
      go_wp2_with (at_builtin; refine append_byteG rfl (.tmp 14) (.tmp 21) rfl (base := base) [x2] rfl rfl HB1.out HC.out (by simp; omega) (by have := HT.out.size; simp; omega) ?_; intro v3 w3 hb3 ht3)
      go_roundw
      case rel => exact ⟨3, by omega, rfl, by simpa using hb3, (HT.out.alloc _).trans ht3⟩
      case measure => simp [intOf]
    · have HC := Lib.hid (byte_new (w := wr) (c := x3) (z := IntKind.u8.wrap ((U : Int) / 4294967296)) (by rw [E3.out]; exact (IntKind.wrap_u8 _).symm))
      have HB1 := Lib.hid (hb1.only ((Only.refl wr).alloc (.cells #[.int .u8 (IntKind.u8.wrap ((U : Int) / 4294967296))] 5)))
      have HT := Lib.hid ht1
      clear hb1 ht1 hk
      go_wp2_with (at_builtin; refine append_byteG rfl (.tmp 14) (.tmp 21) rfl (base := base) [x3] rfl rfl HB1.out HC.out (by simp; omega) (by have := HT.out.size; simp; omega) ?_; intro v3 w3 hb3 ht3)
      go_roundw
      case rel => exact ⟨4, by omega, rfl, by simpa using hb3, (HT.out.alloc _).trans ht3⟩
      case measure => simp [intOf]
    · have HC := Lib.hid (byte_new (w := wr) (c := x4) (z := IntKind.u8.wrap ((U : Int) / 16777216)) (by rw [E4.out]; exact (IntKind.wrap_u8 _).symm))
      have HB1 := Lib.hid (hb1.only ((Only.refl wr).alloc (.cells #[.int .u8 (IntKind.u8.wrap ((U : Int) / 16777216))] 5)))
      have HT := Lib.hid ht1
      clear hb1 ht1 hk
      go_wp2_with (at_builtin; refine append_byteG rfl (.tmp 14) (.tmp 21) rfl (base := base) [x4] rfl rfl HB1.out HC.out (by simp; omega) (by have := HT.out.size; simp; omega) ?_; intro v3 w3 hb3 ht3)
      go_roundw
      case rel => exact ⟨5, by omega, rfl, by simpa using hb3, (HT.out.alloc _).trans ht3⟩
      case measure => simp [intOf]
    · have HC := Lib.hid (byte_new (w := wr) (c := x5) (z := IntKind.u8.wrap ((U : Int) / 65536)) (by rw [E5.out]; exact (IntKind.wrap_u8 _).symm))
      have HB1 := Lib.hid (hb1.only ((Only.refl wr).alloc (.cells #[.int .u8 (IntKind.u8.wrap ((U : Int) / 65536))] 5)))
      have HT := Lib.hid ht1
      clear hb1 ht1 hk
      go_wp2_with (at_builtin; refine append_byteG rfl (.tmp 14) (.tmp 21) rfl (base := base) [x5] rfl rfl HB1.out HC.out (by simp; omega) (by have := HT.out.size; simp; omega) ?_; intro v3 w3 hb3 ht3)
      go_roundw
      case rel => exact ⟨6, by omega, rfl, by simpa using hb3, (HT.out.alloc _).trans ht3⟩
      case measure => simp [intOf]
    · have HC := Lib.hid (byte_new (w := wr) (c := x6) (z := IntKind.u8.wrap ((U : Int) / 256)) (by rw [E6.out]; exact (IntKind.wrap_u8 _).symm))
      have HB1 := Lib.hid (hb1.only ((Only.refl wr).alloc (.cells #[.int .u8 (IntKind.u8.wrap ((U : Int) / 256))] 5)))
      have HT := Lib.hid ht1
      clear hb1 ht1 hk
      go_wp2_with (at_builtin; refine append_byteG rfl (.tmp 14) (.tmp 21) rfl (base := base) [x6] rfl rfl HB1.out HC.out (by simp; omega) (by have := HT.out.size; simp; omega) ?_; intro v3 w3 hb3 ht3)
      go_roundw
      case rel => exact ⟨7, by omega, rfl, by simpa using hb3, (HT.out.alloc _).trans ht3⟩
      case measure => simp [intOf]
    · have HC := Lib.hid (byte_new (w := wr) (c := x7) (z := IntKind.u8.wrap (U : Int)) (by rw [E7.out]; exact (IntKind.wrap_u8 _).symm))
      have HB1 := Lib.hid (hb1.only ((Only.refl wr).alloc (.cells #[.int .u8 (IntKind.u8.wrap (U : Int))] 5)))
      have HT := Lib.hid ht1
      clear hb1 ht1 hk
      go_wp2_with (at_builtin; refine append_byteG rfl (.tmp 14) (.tmp 21) rfl (base := base) [x7] rfl rfl HB1.out HC.out (by simp; omega) (by have := HT.out.size; simp; omega) ?_; intro v3 w3 hb3 ht3)
      go_roundw
      case rel => exact ⟨8, by omega, rfl, by simpa using hb3, (HT.out.alloc _).trans ht3⟩
      case measure => simp [intOf]
    · have HB1 := Lib.hid hb1
      have HT := Lib.hid ht1
      clear hb1 ht1 hk
      go_wp2
      go_ret
      exact ⟨_, rfl, by simpa using HB1.out, HT.out⟩
end Go.Proofs.YtipcdbdlopmdoaaDoor
