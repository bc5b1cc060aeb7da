/-
  math/bits.Div64.
-/
import Derived.Test.YtagilpgplcphpaaNSize2
import Derived.Shelf.Small.Bits
import Derived.Lib.ItoaNum
import Derived.LoopTactic
import Derived.Lib.Hide
namespace Go.Proofs
open Go.Shelf
def Try.lays134_ren : Go.Shelf.Ren := ⟨fun | 134 => 63 | 129 => 64 | n => n, fun | 53 => 22 | 3 => 3 | 4 => 4 | 46 => 88 | 5 => 5 | 9 => 9 | n => n, fun | n => n⟩
theorem Try.lays134 : Go.Proofs.Lays.n134 Try.prog Try.lays134_ren := {
  mixed := by kernel_rfl
  f129 := Try.func64.trans (congrArg some (by kernel_rfl))
  f134 := Try.func63.trans (congrArg some (by kernel_rfl))
  t3 := Try.underlying3
  a3 := Try.isAgg3
  z3 := Try.sizeOf3
  v3 := Try.zeroValue3
  t4 := Try.underlying4
  a4 := Try.isAgg4
  z4 := Try.sizeOf4
  v4 := Try.zeroValue4
  t5 := Try.underlying5
  a5 := Try.isAgg5
  z5 := Try.sizeOf5
  v5 := Try.zeroValue5
  t9 := Try.underlying9
  a9 := Try.isAgg9
  z9 := Try.sizeOf9
  v9 := Try.zeroValue9
  t46 := Try.underlying88
  a46 := Try.isAgg88
  z46 := Try.sizeOf88
  v46 := Try.zeroValue88
  t53 := Try.underlying22
  a53 := Try.isAgg22
  z53 := Try.sizeOf22
  v53 := Try.zeroValue22 }
end Go.Proofs
namespace Go.Proofs.Ytagilpgplcphpaa
open Go.RowKit Go.Shelf
set_option linter.unusedVariables false

/-- what a round reckons -/
theorem half_words {u d a b q r : Nat} (h : Half u d a b q r) (ha : a < 4294967296) (hb : b < 4294967296) (hd : d < 4294967296) : ∃ m t ra p : Nat, m = q * b ∧ t = 4294967296 * r + d ∧ ra = r + a ∧ p = q - 1 ∧
    IntKind.u64.wrap ((q : Int) * b) = m ∧ IntKind.u64.wrap (IntKind.u64.wrap (4294967296 * (r : Int)) + d) = t ∧ IntKind.u64.wrap ((r : Int) + a) = ra ∧ (1 ≤ q → IntKind.u64.wrap ((q : Int) - 1) = p) := by
  have h1 := h.low
  have h2 := h.small
  have k : q * b ≤ 4294967297 * 4294967295 := Nat.mul_le_mul h1 (by omega)
  refine ⟨_, _, _, _, rfl, rfl, rfl, rfl, ?_, ?_, ?_, fun h3 => ?_⟩
  · rw [← Int.natCast_mul, IntKind.wrap_u64]; generalize q * b = m at *; omega
  · rw [IntKind.wrap_u64, IntKind.wrap_u64]; omega
  · rw [IntKind.wrap_u64]; omega
  · rw [IntKind.wrap_u64]; omega

/-- the quotient of a half, as it is left -/
theorem half_end {u d a b q r : Nat} (h : Half u d a b q r) (ha : 2147483648 ≤ a) {m t : Nat} (hm : m = q * b) (ht : t = 4294967296 * r + d) (c2 : ¬ t < m) : q = (u * 4294967296 + d) / (a * 4294967296 + b) :=
  half_done h ha (by rw [← hm, ← ht]; exact c2)

set_option maxRecDepth 100000 in
set_option maxHeartbeats 3200000 in
theorem div64_great {x y d : Int} {s : Nat} (x0 : 0 ≤ x) (x1 : x < d) (y0 : 0 ≤ y) (y1 : y < 18446744073709551616) (dd : d < 18446744073709551616) (s1 : s ≤ 63)
   (LZ : ∀ w, Calls Try.prog 63 #[.int .u64 d] w fun e w' => e = .returned (.int .i64 s) ∧ w' = w) (hx : ¬ x = 0) {D L : Int} {a b u d1 d0 q0 r0 Q1 m1 q2 r2 Q2 : Nat} {Q R : Int}
   (e1 : IntKind.u64.wrap (d * 2 ^ s) = D) (e2 : D / 4294967296 = a) (e3 : bits .and .u64 D 4294967295 = b) (e4 : IntKind.u64.wrap (y * 2 ^ s) = L) (e5 : L / 4294967296 = d1) (e6 : bits .and .u64 L 4294967295 = d0)
   (e7 : bits .or .u64 (IntKind.u64.wrap (x * 2 ^ s)) (y / 2 ^ (64 - s)) = u) (aa : (2147483648 : Int) ≤ a) (A1 : Hid (a < 4294967296)) (HB : Hid (b < 4294967296)) (HD1 : Hid (d1 < 4294967296)) (HD0 : Hid (d0 < 4294967296))
   (e8 : (u : Int) / a = q0) (ew : IntKind.u64.wrap (q0 : Int) = q0) (e9 : IntKind.u64.wrap (u - IntKind.u64.wrap (q0 * a)) = r0) (HU : Hid (u < a * 4294967296 + b)) (HH : Hid (Half u d1 a b q0 r0)) (Q1E : Hid (Q1 = (u * 4294967296 + d1) / (a * 4294967296 + b)))
   (g1 : IntKind.u64.wrap (IntKind.u64.wrap (IntKind.u64.wrap (u * 4294967296) + d1) - IntKind.u64.wrap (Q1 * D)) = m1)
   (g8 : (m1 : Int) / a = q2) (gw : IntKind.u64.wrap (q2 : Int) = q2) (g9 : IntKind.u64.wrap (m1 - IntKind.u64.wrap (q2 * a)) = r2) (HU2 : Hid (m1 < a * 4294967296 + b)) (H2 : Hid (Half m1 d0 a b q2 r2)) (Q2E : Hid (Q2 = (m1 * 4294967296 + d0) / (a * 4294967296 + b)))
   (k1' : IntKind.u64.wrap (IntKind.u64.wrap (Q1 * 4294967296) + Q2) = Q) (k2' : IntKind.u64.wrap (IntKind.u64.wrap (IntKind.u64.wrap (m1 * 4294967296) + d0) - IntKind.u64.wrap (Q2 * D)) / 2 ^ s = R) (w : World) :
    Calls Try.prog 61 #[.int .u64 x, .int .u64 y, .int .u64 d] w fun e w' => e = .returned (.tuple #[.int .u64 Q, .int .u64 R]) ∧ w' = w := by
  have h1 : ¬ d = 0 := by omega
  have h2 : ¬ d ≤ x := by omega
  have A0 : Hid (2147483648 ≤ a) := Lib.hid (by omega)
  go_enter Try.func61, Try.ntmps61
  go_wp2_with (go_at_call 63; refine (LZ _).mono ?_; rintro r w1 ⟨rfl, rfl⟩)
  go_loop [15, 16] (fun i j => ∃ q r : Nat, i = .int .u64 q ∧ j = .int .u64 r ∧ Half u d1 a b q r) (fun i _ => (intOf i).toNat)
  case atStart => exact ⟨_, _, rfl, rfl, HH.out⟩
  case round =>
    obtain ⟨q, r, rfl, rfl, hq⟩ := hrel
    obtain ⟨m, t, ra, p, hm, ht, hra, hp, hmw, htw, hraw, hpw0⟩ := half_words hq A1.out HB.out HD1.out
    have HQ := Lib.hid hq
    have HM := Lib.hid hm
    have HT := Lib.hid ht
    have HRA := Lib.hid hra
    have HP := Lib.hid hp
    have HPW := Lib.hid hpw0
    clear hq hm ht hra hp hpw0
    by_cases c0 : 4294967296 ≤ q ∨ t < m
    · have hpw : IntKind.u64.wrap ((q : Int) - 1) = p := HPW.out (by rcases c0 with c | c; omega; (rcases Nat.eq_zero_or_pos q with e | e; (have := HM.out; rw [e, Nat.zero_mul] at this; omega); exact e))
      have C0 := Lib.hid (show 4294967296 ≤ q ∨ 4294967296 * r + d1 < q * b by rw [← HM.out, ← HT.out]; exact c0)
      have hq1 : Half u d1 a b q r := HQ.out
      have hlt : p < q := by have hq0 : 0 < q := Nat.lt_of_le_of_lt (Nat.zero_le _) (half_more hq1 HD1.out HU.out C0.out); clear hq1; have := HP.out; omega
      have HLT := Lib.hid hlt
      clear hq1 hlt
      by_cases c3 : 4294967296 ≤ ra
      · have hpq : p = Q1 := by rw [HP.out]; exact (half_break HQ.out HB.out HD1.out HU.out C0.out (by rw [← HRA.out]; exact c3)).trans Q1E.out.symm
        clear HP HLT
        subst hpq
        have k3 : decide ((4294967296 : Int) ≤ ra) = true := by simp; omega
        clear c3
        by_cases c1 : 4294967296 ≤ q
        all_goals
          have k1 : decide ((4294967296 : Int) ≤ q) = decide (4294967296 ≤ q) := by simp; omega
          (first | rw [decide_eq_true c1] at k1 | rw [decide_eq_false c1] at k1)
          (first | (have c2 : t < m := by rcases c0 with c | c; omega; exact c
                    have k2 : decide (t < m) = true := decide_eq_true c2
                    clear c2) | skip)
          clear c1 c0 C0
          go_wp2
          go_loop [18, 16] (fun i j => ∃ q r : Nat, i = .int .u64 q ∧ j = .int .u64 r ∧ Half m1 d0 a b q r) (fun i _ => (intOf i).toNat)
          case atStart => exact ⟨_, _, rfl, rfl, H2.out⟩
          case round =>
            obtain ⟨q, r, rfl, rfl, hq⟩ := hrel
            obtain ⟨m, t, ra, p, hm, ht, hra, hp, hmw, htw, hraw, hpw0⟩ := half_words hq A1.out HB.out HD0.out
            have HQ := Lib.hid hq
            have HM := Lib.hid hm
            have HT := Lib.hid ht
            have HRA := Lib.hid hra
            have HP := Lib.hid hp
            have HPW := Lib.hid hpw0
            clear hq hm ht hra hp hpw0
            by_cases c0 : 4294967296 ≤ q ∨ t < m
            · have hpw : IntKind.u64.wrap ((q : Int) - 1) = p := HPW.out (by rcases c0 with c | c; omega; (rcases Nat.eq_zero_or_pos q with e | e; (have := HM.out; rw [e, Nat.zero_mul] at this; omega); exact e))
              have C0 := Lib.hid (show 4294967296 ≤ q ∨ 4294967296 * r + d0 < q * b by rw [← HM.out, ← HT.out]; exact c0)
              have hq1 : Half m1 d0 a b q r := HQ.out
              have hlt : p < q := by have hq0 : 0 < q := Nat.lt_of_le_of_lt (Nat.zero_le _) (half_more hq1 HD0.out HU2.out C0.out); clear hq1; have := HP.out; omega
              have HLT := Lib.hid hlt
              clear hq1 hlt
              by_cases c3 : 4294967296 ≤ ra
              · have hpq : p = Q2 := by rw [HP.out]; exact (half_break HQ.out HB.out HD0.out HU2.out C0.out (by rw [← HRA.out]; exact c3)).trans Q2E.out.symm
                clear HP HLT
                subst hpq
                have k3 : decide ((4294967296 : Int) ≤ ra) = true := by simp; omega
                clear c3
                by_cases c1 : 4294967296 ≤ q
                all_goals
                  have k1 : decide ((4294967296 : Int) ≤ q) = decide (4294967296 ≤ q) := by simp; omega
                  (first | rw [decide_eq_true c1] at k1 | rw [decide_eq_false c1] at k1)
                  (first | (have c2 : t < m := by rcases c0 with c | c; omega; exact c
                            have k2 : decide (t < m) = true := decide_eq_true c2
                            clear c2) | skip)
                  clear c1 c0 C0
                  go_wp2
                  go_ret2
                  exact ⟨rfl, rfl⟩
              · have hn : Half m1 d0 a b p ra := by rw [HP.out, HRA.out]; exact half_next HQ.out HD0.out HU2.out C0.out (by rw [← HRA.out]; omega)
                have HN := Lib.hid hn
                clear hn
                have k3 : decide ((4294967296 : Int) ≤ ra) = false := by simp; omega
                clear c3
                by_cases c1 : 4294967296 ≤ q
                all_goals
                  have k1 : decide ((4294967296 : Int) ≤ q) = decide (4294967296 ≤ q) := by simp; omega
                  (first | rw [decide_eq_true c1] at k1 | rw [decide_eq_false c1] at k1)
                  (first | (have c2 : t < m := by rcases c0 with c | c; omega; exact c
                            have k2 : decide (t < m) = true := decide_eq_true c2
                            clear c2) | skip)
                  clear c1 c0 C0
                  go_wp2
                  go_round
                  case rel => exact ⟨p, ra, rfl, rfl, HN.out⟩
                  case measure => have := HLT.out; simp [intOf]; omega
            · have hqq : q = Q2 := (half_end HQ.out A0.out HM.out HT.out (by omega)).trans Q2E.out.symm
              subst hqq
              have k1 : decide ((4294967296 : Int) ≤ q) = false := by simp; omega
              have k2 : decide (t < m) = false := by simp; omega
              clear c0
              go_wp2
              go_ret2
              exact ⟨rfl, rfl⟩
      · have hn : Half u d1 a b p ra := by rw [HP.out, HRA.out]; exact half_next HQ.out HD1.out HU.out C0.out (by rw [← HRA.out]; omega)
        have HN := Lib.hid hn
        clear hn
        have k3 : decide ((4294967296 : Int) ≤ ra) = false := by simp; omega
        clear c3
        by_cases c1 : 4294967296 ≤ q
        all_goals
          have k1 : decide ((4294967296 : Int) ≤ q) = decide (4294967296 ≤ q) := by simp; omega
          (first | rw [decide_eq_true c1] at k1 | rw [decide_eq_false c1] at k1)
          (first | (have c2 : t < m := by rcases c0 with c | c; omega; exact c
                    have k2 : decide (t < m) = true := decide_eq_true c2
                    clear c2) | skip)
          clear c1 c0 C0
          go_wp2
          go_round
          case rel => exact ⟨p, ra, rfl, rfl, HN.out⟩
          case measure => have := HLT.out; simp [intOf]; omega
    · have hqq : q = Q1 := (half_end HQ.out A0.out HM.out HT.out (by omega)).trans Q1E.out.symm
      subst hqq
      have k1 : decide ((4294967296 : Int) ≤ q) = false := by simp; omega
      have k2 : decide (t < m) = false := by simp; omega
      clear c0
      go_wp2
      go_loop [18, 16] (fun i j => ∃ q r : Nat, i = .int .u64 q ∧ j = .int .u64 r ∧ Half m1 d0 a b q r) (fun i _ => (intOf i).toNat)
      case atStart => exact ⟨_, _, rfl, rfl, H2.out⟩
      case round =>
        obtain ⟨q, r, rfl, rfl, hq⟩ := hrel
        obtain ⟨m, t, ra, p, hm, ht, hra, hp, hmw, htw, hraw, hpw0⟩ := half_words hq A1.out HB.out HD0.out
        have HQ := Lib.hid hq
        have HM := Lib.hid hm
        have HT := Lib.hid ht
        have HRA := Lib.hid hra
        have HP := Lib.hid hp
        have HPW := Lib.hid hpw0
        clear hq hm ht hra hp hpw0
        by_cases c0 : 4294967296 ≤ q ∨ t < m
        · have hpw : IntKind.u64.wrap ((q : Int) - 1) = p := HPW.out (by rcases c0 with c | c; omega; (rcases Nat.eq_zero_or_pos q with e | e; (have := HM.out; rw [e, Nat.zero_mul] at this; omega); exact e))
          have C0 := Lib.hid (show 4294967296 ≤ q ∨ 4294967296 * r + d0 < q * b by rw [← HM.out, ← HT.out]; exact c0)
          have hq1 : Half m1 d0 a b q r := HQ.out
          have hlt : p < q := by have hq0 : 0 < q := Nat.lt_of_le_of_lt (Nat.zero_le _) (half_more hq1 HD0.out HU2.out C0.out); clear hq1; have := HP.out; omega
          have HLT := Lib.hid hlt
          clear hq1 hlt
          by_cases c3 : 4294967296 ≤ ra
          · have hpq : p = Q2 := by rw [HP.out]; exact (half_break HQ.out HB.out HD0.out HU2.out C0.out (by rw [← HRA.out]; exact c3)).trans Q2E.out.symm
            clear HP HLT
            subst hpq
            have k3 : decide ((4294967296 : Int) ≤ ra) = true := by simp; omega
            clear c3
            by_cases c1 : 4294967296 ≤ q
            all_goals
              have k1 : decide ((4294967296 : Int) ≤ q) = decide (4294967296 ≤ q) := by simp; omega
              (first | rw [decide_eq_true c1] at k1 | rw [decide_eq_false c1] at k1)
              (first | (have c2 : t < m := by rcases c0 with c | c; omega; exact c
                        have k2 : decide (t < m) = true := decide_eq_true c2
                        clear c2) | skip)
              clear c1 c0 C0
              go_wp2
              go_ret2
              exact ⟨rfl, rfl⟩
          · have hn : Half m1 d0 a b p ra := by rw [HP.out, HRA.out]; exact half_next HQ.out HD0.out HU2.out C0.out (by rw [← HRA.out]; omega)
            have HN := Lib.hid hn
            clear hn
            have k3 : decide ((4294967296 : Int) ≤ ra) = false := by simp; omega
            clear c3
            by_cases c1 : 4294967296 ≤ q
            all_goals
              have k1 : decide ((4294967296 : Int) ≤ q) = decide (4294967296 ≤ q) := by simp; omega
              (first | rw [decide_eq_true c1] at k1 | rw [decide_eq_false c1] at k1)
              (first | (have c2 : t < m := by rcases c0 with c | c; omega; exact c
                        have k2 : decide (t < m) = true := decide_eq_true c2
                        clear c2) | skip)
              clear c1 c0 C0
              go_wp2
              go_round
              case rel => exact ⟨p, ra, rfl, rfl, HN.out⟩
              case measure => have := HLT.out; simp [intOf]; omega
        · have hqq : q = Q2 := (half_end HQ.out A0.out HM.out HT.out (by omega)).trans Q2E.out.symm
          subst hqq
          have k1 : decide ((4294967296 : Int) ≤ q) = false := by simp; omega
          have k2 : decide (t < m) = false := by simp; omega
          clear c0
          go_wp2
          go_ret2
          exact ⟨rfl, rfl⟩
end Go.Proofs.Ytagilpgplcphpaa
