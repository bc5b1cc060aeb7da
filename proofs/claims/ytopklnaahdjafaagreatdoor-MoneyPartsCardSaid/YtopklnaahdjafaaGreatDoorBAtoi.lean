/-
  The int of a text.
-/
import Derived.Test.YtopklnaahdjafaaGreatDoorBForm
namespace Go.Proofs.YtopklnaahdjafaaGreatDoor
open Go.RowKit Go.Maps Go.WideMaps

theorem numOf_ge {d : List UInt8} (h : bodyB d = true) (hl : 2 ≤ d.length) : 10 ^ (d.length - 1) ≤ numOf d := by
  unfold bodyB at h
  simp only [Bool.and_eq_true, Bool.or_eq_true, decide_eq_true_eq, Bool.not_eq_true', beq_eq_false_iff_ne] at h
  obtain ⟨⟨h1, -⟩, h2⟩ := h
  cases d with
  | nil => simp at hl
  | cons c l =>
    have hc := digsB_at h1 (c := c) (by simp)
    have hn : c ≠ 48 := by
      rcases h2 with h2 | h2
      · omega
      · simpa using h2
    have hc2 : c.toNat ≠ 48 := fun e => hn (UInt8.toNat_inj.1 (by simpa using e))
    rw [numOf_cons, List.length_cons, Nat.add_sub_cancel]
    have : 1 * 10 ^ l.length ≤ (c.toNat - 48) * 10 ^ l.length := Nat.mul_le_mul_right _ (by omega)
    omega

theorem numOf_next {D : ByteArray} {k : Nat} (hk : k < D.size) : numOf (D.data.toList.take (k + 1)) = 10 * numOf (D.data.toList.take k) + ((D[k]).toNat - 48) := by
  have hk' : k < D.data.toList.length := by simpa using hk
  have e : D[k] = D.data.toList[k] := rfl
  rw [List.take_succ_eq_append_getElem hk', numOf_snoc, e]
theorem numOf_upto {D : ByteArray} {k : Nat} (_h : digsB D.data.toList = true) : numOf (D.data.toList.take k) ≤ numOf D.data.toList := by
  have e : numOf (D.data.toList.take k ++ D.data.toList.drop k) = numOf (D.data.toList.take k) * 10 ^ (D.data.toList.drop k).length + numOf (D.data.toList.drop k) := numOf_append _ _
  rw [List.take_append_drop] at e
  rw [e]
  have : numOf (D.data.toList.take k) * 1 ≤ numOf (D.data.toList.take k) * 10 ^ (D.data.toList.drop k).length := Nat.mul_le_mul_left _ (Nat.pow_pos (by decide))
  omega

set_option maxRecDepth 100000 in
set_option maxHeartbeats 3200000 in
theorem atoi_plus {s : ByteArray} (h0 : 0 < s.size) (hl : s.size ≤ 1000000) (w : World) (hh : ((s[0].toNat : Int) == 45) = false) (hb : bodyB s.data.toList = true) (F : Calls Tryz.prog 95 #[.string s] w fun e w' => e = .returned (.bool true) ∧ w = w') :
    Calls Tryz.prog 107 #[.string s] w fun e w' => e = .returned (if numOf s.data.toList < 9223372036854775808 then .tuple #[.int .i64 (numOf s.data.toList : Int), .bool true] else .tuple #[.int .i64 0, .bool false]) ∧ w = w' := by
  obtain ⟨N, hN⟩ : ∃ N, N = numOf s.data.toList := ⟨_, rfl⟩
  have hdg : digsB s.data.toList = true := by unfold bodyB at hb; simp at hb; exact hb.1.1
  have hbig : 19 < s.size → 10000000000000000000 ≤ N := fun h => by
    have := numOf_ge hb (by rw [blen]; omega)
    rw [blen, ← hN] at this
    exact Nat.le_trans (show 10000000000000000000 ≤ 10 ^ (s.size - 1) from Nat.pow_le_pow_right (n := 10) (by decide) (show 19 ≤ s.size - 1 by omega)) this
  obtain ⟨R, hR⟩ : ∃ R : Value, R = (if numOf s.data.toList < 9223372036854775808 then .tuple #[.int .i64 (numOf s.data.toList : Int), .bool true] else .tuple #[.int .i64 0, .bool false]) := ⟨_, rfl⟩
  rw [← hN] at hR
  rw [← hN, ← hR]
  have HN := Lib.hid hN
  have HR := Lib.hid hR
  have HDG := Lib.hid hdg
  have HBIG := Lib.hid hbig
  have F := Lib.hid F
  have il : (s.size : Int) ≤ 1000000 := by omega
  have i0 : (0 : Int) < (s.size : Int) := by omega
  clear hN hR hdg hbig hb
  go_enter Tryz.func107, Tryz.ntmps107
  go_wp2_with fail
  go_at_call 95
  refine F.out.mono ?_
  rintro r w1 ⟨rfl, rfl⟩
  by_cases hlong : 19 < s.size
  · have tl : decide ((19 : Int) < (s.size : Int)) = true := by simp; omega
    have HL := Lib.hid (HBIG.out hlong)
    clear hlong
    go_wp2_with fail
    go_ret2
    refine ⟨?_, rfl⟩
    rw [HR.out, if_neg (by have := HL.out; omega)]; rfl
  · have tl : decide ((19 : Int) < (s.size : Int)) = false := by simp; omega
    clear hlong
    go_wp2_with fail
    go_loop [7, 8] (fun n i => ∃ (k p : Nat) (m : Int), k ≤ s.size ∧ i = .int .i64 k ∧ n = .int .i64 m ∧ m = -(p : Int) ∧ p = numOf (s.data.toList.take k) ∧ p ≤ 9223372036854775808) (fun _ i => s.size - (intOf i).toNat)
    case atStart => exact ⟨0, 0, 0, Nat.zero_le _, rfl, rfl, rfl, by simp [numOf], by decide⟩
    case round =>
      obtain ⟨k, p, m, hk, rfl, rfl, hm, hp, hpb⟩ := hrel
      by_cases hlt : k < s.size
      · have il2 : (k : Int) < (s.size : Int) := by omega
        have hcd := digsB_at HDG.out (List.getElem_mem (l := s.data.toList) (n := k) (by simpa using hlt))
        have hnx := numOf_next (D := s) (k := k) hlt
        have hle := numOf_upto (D := s) (k := k + 1) HDG.out
        rw [← HN.out] at hle
        rw [← hp] at hnx
        obtain ⟨c, hc⟩ : ∃ c, c = (s[k]'hlt).toNat := ⟨_, rfl⟩
        have hc2 : (s[k]'hlt).toNat = c := hc.symm
        have hcd2 : 48 ≤ c ∧ c ≤ 57 := by rw [hc]; exact hcd
        rw [hc2] at hnx
        obtain ⟨x, hx⟩ : ∃ x, x = c - 48 := ⟨_, rfl⟩
        have hcx : (c : Int) = 48 + (x : Int) := by omega
        have hxb : x ≤ 9 := by omega
        have hx256 : ((c : Int) - 48) % 256 = (x : Int) := by omega
        rw [← hx] at hnx
        obtain ⟨q, hq⟩ : ∃ q : Int, (-9223372036854775808 + (x : Int)).tdiv 10 = q := ⟨_, rfl⟩
        have hqq : m < q ↔ 9223372036854775808 < 10 * p + x := by
          have e : (-9223372036854775808 + (x : Int)) = -((9223372036854775808 - x : Nat) : Int) := by omega
          rw [e, Int.neg_tdiv, Int.tdiv_eq_ediv_of_nonneg (by omega)] at hq
          omega
        have hq0 : -922337203685477580 ≤ q := by
          have e : (-9223372036854775808 + (x : Int)) = -((9223372036854775808 - x : Nat) : Int) := by omega
          rw [e, Int.neg_tdiv, Int.tdiv_eq_ediv_of_nonneg (by omega)] at hq
          omega
        have hq1 : q ≤ 0 := by
          have e : (-9223372036854775808 + (x : Int)) = -((9223372036854775808 - x : Nat) : Int) := by omega
          rw [e, Int.neg_tdiv, Int.tdiv_eq_ediv_of_nonneg (by omega)] at hq
          omega
        have HNX := Lib.hid hnx
        have HLE := Lib.hid hle
        have HMP := Lib.hid hm
        by_cases hov : 9223372036854775808 < 10 * p + x
        · have t1 : decide (m < q) = true := by simpa using hqq.2 hov
          have HOV := Lib.hid hov
          clear hov hqq hnx hle hm hp hpb hc hcd hcd2 hx hcx
          go_wp2_with fail
          go_ret2
          refine ⟨?_, rfl⟩
          rw [HR.out, if_neg (by have := HNX.out; have := HLE.out; have := HOV.out; omega)]; rfl
        · have t1 : decide (m < q) = false := by rw [decide_eq_false_iff_not]; intro h; exact hov (hqq.1 h)
          have HOV := Lib.hid hov
          have m0 : -9223372036854775808 ≤ 10 * m - (x : Int) := by omega
          have m1 : m ≤ 0 := by omega
          have m2 : -922337203685477580 ≤ m := by omega
          clear hov hqq hnx hle hm hp hpb hc hcd hcd2 hx hcx
          go_wp2_with fail
          go_round
          case rel => exact ⟨k + 1, 10 * p + x, 10 * m - (x : Int), by omega, by go_num, rfl, by have := HMP.out; omega, HNX.out.symm, by have := HOV.out; omega⟩
          case measure => simp [intOf]; omega
      · have hks : k = s.size := by omega
        rw [hks, List.take_of_length_le (by simp), ← HN.out] at hp
        have HP := Lib.hid hp
        have HMP := Lib.hid hm
        by_cases hmin : m = -9223372036854775808
        · have tm : (m == -9223372036854775808) = true := by simpa using hmin
          have HMIN := Lib.hid hmin
          clear hmin hm hp hks
          go_wp2_with fail
          go_ret2
          refine ⟨?_, rfl⟩
          rw [HR.out, if_neg (by have := HP.out; have := HMP.out; have := HMIN.out; omega)]; rfl
        · have tm : (m == -9223372036854775808) = false := by simpa using hmin
          have m2 : -9223372036854775807 ≤ m := by omega
          have m3 : m ≤ 0 := by omega
          clear hmin hm hp hks
          go_wp2_with fail
          go_ret2
          refine ⟨?_, rfl⟩
          rw [HR.out, if_pos (by have := HP.out; have := HMP.out; omega)]
          have e : -m = (N : Int) := by have := HP.out; have := HMP.out; omega
          simp [e]

set_option maxRecDepth 100000 in
set_option maxHeartbeats 3200000 in
theorem atoi_minus {s D : ByteArray} (hD : s.extract 1 s.size = D) (hs1 : 1 < s.size) (hs2 : s.size ≤ 1000001) (h0 : 0 < D.size) (hl : D.size ≤ 1000000) (w : World) (hh : ((s[0].toNat : Int) == 45) = true) (hb : bodyB D.data.toList = true) (F : Calls Tryz.prog 95 #[.string s] w fun e w' => e = .returned (.bool true) ∧ w = w') :
    Calls Tryz.prog 107 #[.string s] w fun e w' => e = .returned (if numOf D.data.toList ≤ 9223372036854775808 then .tuple #[.int .i64 (-(numOf D.data.toList : Int)), .bool true] else .tuple #[.int .i64 0, .bool false]) ∧ w = w' := by
  obtain ⟨N, hN⟩ : ∃ N, N = numOf D.data.toList := ⟨_, rfl⟩
  have hdg : digsB D.data.toList = true := by unfold bodyB at hb; simp at hb; exact hb.1.1
  have hbig : 19 < D.size → 10000000000000000000 ≤ N := fun h => by
    have := numOf_ge hb (by rw [blen]; omega)
    rw [blen, ← hN] at this
    exact Nat.le_trans (show 10000000000000000000 ≤ 10 ^ (D.size - 1) from Nat.pow_le_pow_right (n := 10) (by decide) (show 19 ≤ D.size - 1 by omega)) this
  obtain ⟨R, hR⟩ : ∃ R : Value, R = (if numOf D.data.toList ≤ 9223372036854775808 then .tuple #[.int .i64 (-(numOf D.data.toList : Int)), .bool true] else .tuple #[.int .i64 0, .bool false]) := ⟨_, rfl⟩
  rw [← hN] at hR
  rw [← hN, ← hR]
  have HN := Lib.hid hN
  have HR := Lib.hid hR
  have HDG := Lib.hid hdg
  have HBIG := Lib.hid hbig
  have F := Lib.hid F
  have il : (D.size : Int) ≤ 1000000 := by omega
  have i0 : (0 : Int) < (D.size : Int) := by omega
  have is1 : (1 : Int) < (s.size : Int) := by omega
  have is2 : (s.size : Int) ≤ 1000001 := by omega
  clear hN hR hdg hbig hb
  go_enter Tryz.func107, Tryz.ntmps107
  go_wp2_with fail
  go_at_call 95
  refine F.out.mono ?_
  rintro r w1 ⟨rfl, rfl⟩
  by_cases hlong : 19 < D.size
  · have tl : decide ((19 : Int) < (D.size : Int)) = true := by simp; omega
    have HL := Lib.hid (HBIG.out hlong)
    clear hlong
    go_wp2_with fail
    go_ret2
    refine ⟨?_, rfl⟩
    rw [HR.out, if_neg (by have := HL.out; omega)]; rfl
  · have tl : decide ((19 : Int) < (D.size : Int)) = false := by simp; omega
    clear hlong
    go_wp2_with fail
    go_loop [7, 8] (fun n i => ∃ (k p : Nat) (m : Int), k ≤ D.size ∧ i = .int .i64 k ∧ n = .int .i64 m ∧ m = -(p : Int) ∧ p = numOf (D.data.toList.take k) ∧ p ≤ 9223372036854775808) (fun _ i => D.size - (intOf i).toNat)
    case atStart => exact ⟨0, 0, 0, Nat.zero_le _, rfl, rfl, rfl, by simp [numOf], by decide⟩
    case round =>
      obtain ⟨k, p, m, hk, rfl, rfl, hm, hp, hpb⟩ := hrel
      by_cases hlt : k < D.size
      · have il2 : (k : Int) < (D.size : Int) := by omega
        have hcd := digsB_at HDG.out (List.getElem_mem (l := D.data.toList) (n := k) (by simpa using hlt))
        have hnx := numOf_next (D := D) (k := k) hlt
        have hle := numOf_upto (D := D) (k := k + 1) HDG.out
        rw [← HN.out] at hle
        rw [← hp] at hnx
        obtain ⟨c, hc⟩ : ∃ c, c = (D[k]'hlt).toNat := ⟨_, rfl⟩
        have hc2 : (D[k]'hlt).toNat = c := hc.symm
        have hcd2 : 48 ≤ c ∧ c ≤ 57 := by rw [hc]; exact hcd
        rw [hc2] at hnx
        obtain ⟨x, hx⟩ : ∃ x, x = c - 48 := ⟨_, rfl⟩
        have hcx : (c : Int) = 48 + (x : Int) := by omega
        have hxb : x ≤ 9 := by omega
        have hx256 : ((c : Int) - 48) % 256 = (x : Int) := by omega
        rw [← hx] at hnx
        obtain ⟨q, hq⟩ : ∃ q : Int, (-9223372036854775808 + (x : Int)).tdiv 10 = q := ⟨_, rfl⟩
        have hqq : m < q ↔ 9223372036854775808 < 10 * p + x := by
          have e : (-9223372036854775808 + (x : Int)) = -((9223372036854775808 - x : Nat) : Int) := by omega
          rw [e, Int.neg_tdiv, Int.tdiv_eq_ediv_of_nonneg (by omega)] at hq
          omega
        have hq0 : -922337203685477580 ≤ q := by
          have e : (-9223372036854775808 + (x : Int)) = -((9223372036854775808 - x : Nat) : Int) := by omega
          rw [e, Int.neg_tdiv, Int.tdiv_eq_ediv_of_nonneg (by omega)] at hq
          omega
        have hq1 : q ≤ 0 := by
          have e : (-9223372036854775808 + (x : Int)) = -((9223372036854775808 - x : Nat) : Int) := by omega
          rw [e, Int.neg_tdiv, Int.tdiv_eq_ediv_of_nonneg (by omega)] at hq
          omega
        have HNX := Lib.hid hnx
        have HLE := Lib.hid hle
        have HMP := Lib.hid hm
        by_cases hov : 9223372036854775808 < 10 * p + x
        · have t1 : decide (m < q) = true := by simpa using hqq.2 hov
          have HOV := Lib.hid hov
          clear hov hqq hnx hle hm hp hpb hc hcd hcd2 hx hcx
          go_wp2_with fail
          go_ret2
          refine ⟨?_, rfl⟩
          rw [HR.out, if_neg (by have := HNX.out; have := HLE.out; have := HOV.out; omega)]; rfl
        · have t1 : decide (m < q) = false := by rw [decide_eq_false_iff_not]; intro h; exact hov (hqq.1 h)
          have HOV := Lib.hid hov
          have m0 : -9223372036854775808 ≤ 10 * m - (x : Int) := by omega
          have m1 : m ≤ 0 := by omega
          have m2 : -922337203685477580 ≤ m := by omega
          clear hov hqq hnx hle hm hp hpb hc hcd hcd2 hx hcx
          go_wp2_with fail
          go_round
          case rel => exact ⟨k + 1, 10 * p + x, 10 * m - (x : Int), by omega, by go_num, rfl, by have := HMP.out; omega, HNX.out.symm, by have := HOV.out; omega⟩
          case measure => simp [intOf]; omega
      · have hks : k = D.size := by omega
        rw [hks, List.take_of_length_le (by simp), ← HN.out] at hp
        have HP := Lib.hid hp
        have HMP := Lib.hid hm
        have HPB := Lib.hid hpb
        clear hm hp hks
        go_wp2_with fail
        go_ret2
        refine ⟨?_, rfl⟩
        have hb := HPB.out
        rw [HR.out, if_pos (by have := HP.out; omega)]
        have e : m = -(N : Int) := by have := HP.out; have := HMP.out; omega
        simp [e]

/-- what Atoi answers of a number -/
def intOrNone (n : Int) : Value := if -9223372036854775808 ≤ n ∧ n < 9223372036854775808 then .tuple #[.int .i64 n, .bool true] else .tuple #[.int .i64 0, .bool false]

theorem bodyB_pos {d : List UInt8} (h : bodyB d = true) : 0 < d.length := by
  unfold bodyB at h
  cases d with
  | nil => simp at h
  | cons => simp

theorem atoi_any {s : ByteArray} (hl : s.size ≤ 1000000) (hf : formB s.data.toList = true) (w : World) :
    Calls Tryz.prog 107 #[.string s] w fun e w' => e = .returned (intOrNone (valOf s.data.toList)) ∧ w = w' := by
  have F := form_any s hl w
  rw [hf] at F
  have bl := blen s
  by_cases hh : s.data.toList.headD 0 = 45
  · have hb : 1 < s.size := by
      rcases Nat.lt_or_ge 1 s.size with c | c
      · exact c
      · exfalso
        have e : formB s.data.toList = bodyB s.data.toList := by unfold formB; rw [if_neg (fun q => by omega)]
        rw [e] at hf
        have := bodyB_pos hf
        unfold bodyB at hf
        simp only [Bool.and_eq_true] at hf
        cases hq : s.data.toList with
        | nil => rw [hq] at this; simp at this
        | cons c l =>
          rw [hq] at hh hf
          simp at hh
          have := digsB_at hf.1.1 (c := c) (by simp)
          rw [hh] at this
          simp at this
    have h45 := head_is (s := s) (by omega) 45
    rw [beq_iff_eq.2 hh] at h45
    obtain ⟨D, hD⟩ : ∃ D, s.extract 1 s.size = D := ⟨_, rfl⟩
    have et := extract_tail s
    rw [hD] at et
    have bd := blen D
    have hs : s.size = D.size + 1 := by rw [et, List.length_tail] at bd; omega
    have hbody : bodyB D.data.toList = true := by
      unfold formB at hf
      rw [if_pos ⟨by omega, hh⟩, ← et] at hf
      simp only [Bool.and_eq_true] at hf
      exact hf.1
    refine (atoi_minus hD hb (by omega) (by omega) (by omega) w h45 hbody F).mono fun e w' h => ⟨h.1.trans ?_, h.2⟩
    unfold intOrNone valOf
    rw [if_pos hh, ← et]
    by_cases c : numOf D.data.toList ≤ 9223372036854775808
    · rw [if_pos c, if_pos ⟨by omega, by omega⟩]
    · rw [if_neg c, if_neg (by omega)]
  · have e : formB s.data.toList = bodyB s.data.toList := by unfold formB; rw [if_neg (fun q => hh q.2)]
    rw [e] at hf
    have h0 := bodyB_pos hf
    have h45 := head_is (s := s) (by omega) 45
    rw [beq_eq_false_iff_ne.2 hh] at h45
    refine (atoi_plus (by omega) hl w h45 hf F).mono fun e w' h => ⟨h.1.trans ?_, h.2⟩
    unfold intOrNone valOf
    rw [if_neg hh]
    by_cases c : numOf s.data.toList < 9223372036854775808
    · rw [if_pos c, if_pos ⟨by omega, by omega⟩]
    · rw [if_neg c, if_neg (by omega)]

set_option maxHeartbeats 1600000 in
theorem bigInt_walk {b1 : Bool} {s1 : Option Addr} {k1 c1 : Nat} {t : ByteArray} {x : Int} {y : Bool} {w : World} (T : ∀ W, Only w W → Calls Tryz.prog 63 #[.agg #[.bool b1, .slice s1 k1 c1]] W fun e w' => e = .returned (.string t) ∧ Only W w')
    (A : ∀ W, Calls Tryz.prog 107 #[.string t] W fun e w' => e = .returned (.tuple #[.int .i64 x, .bool y]) ∧ W = w') :
    Calls Tryz.prog 73 #[.agg #[.bool b1, .slice s1 k1 c1]] w fun e w' => e = .returned (.tuple #[.int .i64 x, .bool y]) ∧ Only w w' := by
  have T := Lib.hid T
  have A := Lib.hid A
  have t1 := (Only.refl w).alloc (boxOf b1 s1 k1 c1)
  go_enter Tryz.func73, Tryz.ntmps73
  go_wp2_with fail
  go_at_call 63
  refine (T.out _ t1).mono ?_
  rintro r w2 ⟨rfl, t2⟩
  go_wp2_with fail
  go_at_call 107
  refine (A.out _).mono ?_
  rintro r w3 ⟨rfl, rfl⟩
  go_wp2_with fail
  go_ret2
  exact ⟨rfl, t1.trans t2⟩

theorem Lim.dlen {n : Int} {K : Nat} (h : Lim n K) (hK : 1 ≤ K) : Go.Proofs.YtopklnaahdjafaaGreatDoor.dlen n.natAbs ≤ 4 * K := by
  unfold Lim at h
  rw [pow4] at h
  exact dlen_lim h (by omega)

theorem bigInt_any {b1 : Bool} {s1 : Option Addr} {k1 c1 : Nat} {n : Int} {w : World} (h1 : BigR w b1 s1 k1 c1 n) (l1 : Lim n 5000) :
    Calls Tryz.prog 73 #[.agg #[.bool b1, .slice s1 k1 c1]] w fun e w' => e = .returned (intOrNone n) ∧ Only w w' := by
  have hlen : (intText n).length ≤ 1000000 := by
    have h2 := intText_length n
    have h3 := l1.dlen (by omega)
    omega
  have A : ∀ W, Calls Tryz.prog 107 #[.string ⟨(intText n).toArray⟩] W fun e w' => e = .returned (intOrNone n) ∧ W = w' := fun W => by
    have := atoi_any (s := ⟨(intText n).toArray⟩) (by simpa [ByteArray.size] using hlen) (formB_text n) W
    rw [show valOf (⟨(intText n).toArray⟩ : ByteArray).data.toList = n from valOf_text n] at this
    exact this
  have hs : ∃ x y, intOrNone n = .tuple #[.int .i64 x, .bool y] := by unfold intOrNone; split <;> exact ⟨_, _, rfl⟩
  obtain ⟨x, y, e⟩ := hs
  rw [e] at A ⊢
  exact bigInt_walk (fun W t => bigText_any (h1.only t) l1) A
end Go.Proofs.YtopklnaahdjafaaGreatDoor
