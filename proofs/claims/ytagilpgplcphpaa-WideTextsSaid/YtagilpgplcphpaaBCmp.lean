/-
  Digits compared.
-/
import Derived.Test.YtagilpgplcphpaaBNum
namespace Go.Proofs.Ytagilpgplcphpaa
open Go.RowKit Go.Maps Go.WideMaps

set_option maxHeartbeats 1600000 in
theorem cmpD_any {va vb : Value} {a b : List Nat} {n m : Nat} {w : World} (ha : NatsR w va a) (hb : NatsR w vb b) (na : Nm a n) (nb : Nm b m) (la : a.length ≤ 100000) (_lb : b.length ≤ 100000) :
    Calls Try.prog 51 #[va, vb] w fun e w' => e = .returned (.int .i64 (cmpN n m)) ∧ Only w w' := by
  obtain ⟨sa, ca, rfl, a2, a3, a5⟩ := ha.form
  obtain ⟨sb, cb, rfl, b2, b3, b5⟩ := hb.form
  have HA := Lib.hid a5
  have HB := Lib.hid b5
  have NA := Lib.hid na
  have NB := Lib.hid nb
  clear ha hb a5 b5 na nb
  rcases Nat.lt_trichotomy a.length b.length with hlt | heq | hgt
  · have t1 : ((a.length : Int) != (b.length : Int)) = true := by rw [bne_iff_ne]; omega
    have t2 : decide (a.length < b.length) = true := by simpa using hlt
    have t3 : (a.length != b.length) = true := by rw [bne_iff_ne]; omega
    have t4 : decide ((a.length : Int) < b.length) = true := by simp; omega
    go_enter Try.func51, Try.ntmps51
    go_wp2
    go_ret
    refine ⟨?_, Only.refl _⟩
    rw [← NA.out.eq, ← NB.out.eq, cmp_shorter NA.out.dg NB.out.top hlt]; rfl
  · have t1 : ((a.length : Int) != (b.length : Int)) = false := by rw [bne_eq_false_iff_eq]; omega
    have HE := Lib.hid heq
    have t3 : (a.length != b.length) = false := by rw [bne_eq_false_iff_eq]; omega
    clear heq
    go_enter Try.func51, Try.ntmps51
    go_wp2_with fail
    go_loopw [5] (fun i wr => ∃ (k : Nat) (q : Int), k ≤ a.length ∧ q = (k : Int) - 1 ∧ i = .int .i64 q ∧ a.drop k = b.drop k ∧ Only w wr) (fun i _ => (intOf i + 1).toNat)
    case atStart => exact ⟨a.length, (a.length : Int) - 1, Nat.le_refl _, rfl, rfl, by rw [List.drop_length, HE.out, List.drop_length], Only.refl _⟩
    case round =>
      obtain ⟨k, q, hk, hq, rfl, hd, ht⟩ := hrel
      have HT := Lib.hid ht
      have HD := Lib.hid hd
      clear ht hd
      rcases Nat.eq_zero_or_pos k with rfl | hpos
      · have i1 : ¬ (0 : Int) ≤ q := by omega
        clear hq
        go_wp2
        go_ret
        refine ⟨?_, HT.out⟩
        have e : a = b := by simpa using HD.out
        rw [← NA.out.eq, ← NB.out.eq, e, cmpN_eq]; rfl
      · obtain ⟨j, rfl⟩ : ∃ j, k = j + 1 := ⟨k - 1, by omega⟩
        have hj : j < a.length := by omega
        have hjb : j < b.length := by have := HE.out; omega
        obtain ⟨g, e1, c1⟩ := HA.out j a[j] (List.getElem?_eq_getElem hj)
        obtain ⟨g2, e2, c2⟩ := HB.out j b[j] (List.getElem?_eq_getElem hjb)
        subst e1; subst e2
        replace c1 := HT.out.cell c1
        replace c2 := HT.out.cell c2
        have hqj : q = (j : Int) := by omega
        subst hqj
        unfold dgV at c1 c2
        have hlow := fun h => cmp_low NA.out.dg NB.out.dg HE.out hj HD.out h
        have hhigh := fun h => cmp_high NA.out.dg NB.out.dg HE.out hj HD.out h
        have hstep := drop_step hj hjb HD.out
        obtain ⟨x, hx⟩ : ∃ x, x = a[j] := ⟨_, rfl⟩
        obtain ⟨y, hy⟩ : ∃ y, y = b[j] := ⟨_, rfl⟩
        rw [← hx, ← hy] at hlow hhigh hstep
        rw [← hx] at c1
        rw [← hy] at c2
        have LO := Lib.hid hlow
        have HI := Lib.hid hhigh
        have ST := Lib.hid hstep
        have i0 : (0 : Int) ≤ (j : Int) := by omega
        have i1 : (j : Int) < (a.length : Int) := by omega
        have i2 : (j : Int) < (b.length : Int) := by omega
        clear hlow hhigh hstep hx hy hq hpos
        rcases Nat.lt_trichotomy x y with hlt | hxy | hgt
        · have t1 : decide (x < y) = true := by simpa using hlt
          have HX := Lib.hid hlt
          clear hlt
          go_wp2_with fail
          go_quiet (fail)
          go_wp2
          go_ret
          refine ⟨?_, HT.out.drewN _⟩
          rw [← NA.out.eq, ← NB.out.eq, LO.out HX.out]; rfl
        · have t1 : decide (x < y) = false := by simp; omega
          have t2 : decide (y < x) = false := by simp; omega
          have HX := Lib.hid hxy
          clear hxy
          go_wp2_with fail
          go_quiet (fail)
          go_wp2_with fail
          go_quiet (fail)
          go_wp2
          go_roundw
          case rel => exact ⟨j, (j : Int) - 1, by omega, rfl, by go_num, ST.out HX.out, HT.out.drewN _⟩
          case measure => simp [intOf]
        · have t1 : decide (x < y) = false := by simp; omega
          have t2 : decide (y < x) = true := by simp; omega
          have HX := Lib.hid hgt
          clear hgt
          go_wp2_with fail
          go_quiet (fail)
          go_wp2_with fail
          go_quiet (fail)
          go_wp2
          go_ret
          refine ⟨?_, (HT.out.drewN _).drewN _⟩
          rw [← NA.out.eq, ← NB.out.eq, HI.out HX.out]; rfl
  · have t1 : ((a.length : Int) != (b.length : Int)) = true := by rw [bne_iff_ne]; omega
    have t2 : decide (a.length < b.length) = false := by simp; omega
    have t3 : (a.length != b.length) = true := by rw [bne_iff_ne]; omega
    have t4 : decide ((a.length : Int) < b.length) = false := by simp; omega
    go_enter Try.func51, Try.ntmps51
    go_wp2
    go_ret
    refine ⟨?_, Only.refl _⟩
    rw [← NA.out.eq, ← NB.out.eq, cmp_longer NA.out.top NB.out.dg hgt]; rfl
end Go.Proofs.Ytagilpgplcphpaa
