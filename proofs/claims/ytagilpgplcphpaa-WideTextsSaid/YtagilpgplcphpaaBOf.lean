/-
  The number of an int, of a word; powers of two.
-/
import Derived.Test.YtagilpgplcphpaaBOps
namespace Go.Proofs.Ytagilpgplcphpaa
open Go.RowKit Go.Maps Go.WideMaps

theorem of_done {N : Int} {l : List Nat} (h : Making N.natAbs l 0) : sgn (decide (N < 0)) (bval l) = N := by
  rw [h.done]; unfold sgn; by_cases c : N < 0 <;> simp [c] <;> omega

theorem box0_new (w : World) : Only w (w.alloc box0) ∧ BigAt (w.alloc box0) w.heap.size false none 0 0 := ⟨(Only.refl w).alloc _, Own2.new w _ _ _⟩

set_option maxRecDepth 100000 in
set_option maxHeartbeats 3200000 in
theorem bigOf_any {N : Int} (h0 : -9223372036854775808 ≤ N) (h1 : N < 9223372036854775808) (w : World) : Calls Try.prog 23 #[.int .i64 N] w (BigSays w N) := by
  have M0 : Making N.natAbs [] N.natAbs := Making.start (by omega)
  obtain ⟨t0, o0⟩ := box0_new w
  have O0 := Lib.hid o0
  have T0 := Lib.hid t0
  have M0 := Lib.hid M0
  clear o0 t0
  obtain ⟨ng, hng⟩ : ∃ b, b = decide (N < 0) := ⟨_, rfl⟩
  have hng' : decide (N < 0) = ng := hng.symm
  have HNG := Lib.hid hng
  clear hng
  go_enter Try.func23, Try.ntmps23
  go_wp2_with fail
  go_loopw [0, 4] (fun n d wr => ∃ (m : Int) (l : List Nat), n = .int .i64 m ∧ NatsO wr (w.heap.size + 1) d l ∧ Making N.natAbs l m.natAbs ∧ -9223372036854775808 ≤ m ∧ m < 9223372036854775808 ∧ BigAt wr w.heap.size false none 0 0 ∧ Only w wr) (fun n _ _ => (intOf n).natAbs)
  case atStart => exact ⟨N, [], rfl, NatsO.nil _ _, M0.out, h0, h1, O0.out, T0.out⟩
  case round =>
    obtain ⟨m, l, rfl, hd, hm, m0, m1, ho, ht⟩ := hrel
    obtain ⟨sp, cap, rfl⟩ := hd.form
    have HD := Lib.hid hd
    have HM := Lib.hid hm
    have HO := Lib.hid ho
    have HT := Lib.hid ht
    clear hd hm ho ht
    by_cases hz : m = 0
    · have tz : (m != 0) = false := by simpa using hz
      have HZ := Lib.hid hz
      have hm := HM.out
      rw [hz] at hm
      have HN := Lib.hid (of_done hm)
      have HL := Lib.hid hm.len
      clear hz hm
      go_wp2_with fail
      go_at_call 49
      refine (trim_any HD.out.toR HM.out.dg (by have := HL.out; omega)).mono ?_
      rintro r w4 ⟨b6, s6, k6, c6, rfl, hb6, t4⟩
      have p3 := HO.out.only t4
      have p5 := HT.out.trans t4
      obtain ⟨g1, g2, g3, g4, g5⟩ := p3.all
      rw [HNG.out, HN.out] at hb6
      have HB := Lib.hid (hb6.apart p3 b6 s6 k6 c6)
      have HT := Lib.hid ((p5.set (p := w.heap.size) (by omega) 0 (.bool b6)).set (p := w.heap.size) (by omega) 1 (.slice s6 k6 c6))
      clear p3 p5 hb6 t4 
      go_wp2
      simp [bodyPost, results, Try.results23, go_sem, World.cell?_setCell_other, g1, g2]
      exact ⟨b6, s6, k6, c6, rfl, HB.out, HT.out⟩
    · have tz : (m != 0) = true := by simpa using hz
      have hst := HM.out.next (show m.natAbs ≠ 0 by omega)
      obtain ⟨X, hX⟩ : ∃ X, m.tmod 10000 = X := ⟨_, rfl⟩
      obtain ⟨Q, hQ⟩ : ∃ Q, m.tdiv 10000 = Q := ⟨_, rfl⟩
      have eX : X.natAbs = m.natAbs % 10000 := by rw [← hX, Int.natAbs_tmod]; rfl
      have eQ : Q.natAbs = m.natAbs / 10000 := by rw [← hQ, Int.natAbs_tdiv]; rfl
      rw [← eX, ← eQ] at hst
      have HST := Lib.hid hst
      have x0 : -9999 ≤ X := by omega
      have x1 : X ≤ 9999 := by omega
      have q0 : -922337203685477 ≤ Q := by omega
      have q1 : Q ≤ 922337203685477 := by omega
      have hlt : Q.natAbs < m.natAbs := by omega
      have HLT := Lib.hid hlt
      clear hst eX eQ hlt hz
      by_cases hn : X < 0
      · have tn : decide (X < 0) = true := by simpa using hn
        have HMM := Lib.hid (one_int wr (e := -X) (n := X.natAbs) (by omega))
        have HO1 := Lib.hid (HD.out.only ((Only.refl wr).alloc (.cells #[.int .i64 (-X)] 3)))
        clear hn
        go_wp2_with (at_builtin; refine append_nats2 rfl (.tmp 16) (.tmp 18) rfl (base := w.heap.size + 1) rfl rfl HO1.out HMM.out rfl (List.length_append ..) (by have := HM.out.len; simp; omega) (by have := HO.out.lt; simp; omega) ?_)
        intro sp4 cap4 w4 hown hb4 hs4
        have HW := Lib.hid hown
        have T4 := Lib.hid ((HT.out.alloc _).below hb4 (by omega))
        have O4 := Lib.hid ((HO.out.alloc _).below hb4 (by omega))
        clear hown hb4 hs4
        go_wp2
        go_roundw
        case rel => exact ⟨Q, l ++ [X.natAbs], rfl, HW.out, HST.out, by omega, by omega, O4.out, T4.out⟩
        case measure => have := HLT.out; simp [intOf]; omega
      · have tn : decide (X < 0) = false := by simpa using hn
        have HMM := Lib.hid (one_int wr (e := X) (n := X.natAbs) (by omega))
        have HO1 := Lib.hid (HD.out.only ((Only.refl wr).alloc (.cells #[.int .i64 X] 3)))
        clear hn
        go_wp2_with (at_builtin; refine append_nats2 rfl (.tmp 16) (.tmp 18) rfl (base := w.heap.size + 1) rfl rfl HO1.out HMM.out rfl (List.length_append ..) (by have := HM.out.len; simp; omega) (by have := HO.out.lt; simp; omega) ?_)
        intro sp4 cap4 w4 hown hb4 hs4
        have HW := Lib.hid hown
        have T4 := Lib.hid ((HT.out.alloc _).below hb4 (by omega))
        have O4 := Lib.hid ((HO.out.alloc _).below hb4 (by omega))
        clear hown hb4 hs4
        go_wp2
        go_roundw
        case rel => exact ⟨Q, l ++ [X.natAbs], rfl, HW.out, HST.out, by omega, by omega, O4.out, T4.out⟩
        case measure => have := HLT.out; simp [intOf]; omega

theorem bigUint_of {W : World} {l : List Nat} {N : Nat} {v : Value} (hr : NatsR W v l) (h : Making N l 0) : Calls Try.prog 49 #[.bool false, v] W (BigSays W N) := by
  have := trim_any (neg := false) hr h.dg (by have := h.len; omega)
  rw [h.done] at this
  exact this

set_option maxRecDepth 100000 in
set_option maxHeartbeats 3200000 in
theorem bigUint_any {N : Nat} (h1 : N < 18446744073709551616) (w : World) : Calls Try.prog 47 #[.int .u64 N] w (BigSays w N) := by
  have M0 : Making N [] N := Making.start (by omega)
  obtain ⟨t0, o0⟩ := box0_new w
  have O0 := Lib.hid o0
  have T0 := Lib.hid t0
  have M0 := Lib.hid M0
  clear o0 t0
  go_enter Try.func47, Try.ntmps47
  go_wp2_with fail
  go_loopw [0, 3] (fun n d wr => ∃ (m : Nat) (l : List Nat), n = .int .u64 m ∧ NatsO wr (w.heap.size + 1) d l ∧ Making N l m ∧ m < 18446744073709551616 ∧ BigAt wr w.heap.size false none 0 0 ∧ Only w wr) (fun n _ _ => (intOf n).natAbs)
  case atStart => exact ⟨N, [], rfl, NatsO.nil _ _, M0.out, h1, O0.out, T0.out⟩
  case round =>
    obtain ⟨m, l, rfl, hd, hm, m1, ho, ht⟩ := hrel
    obtain ⟨sp, cap, rfl⟩ := hd.form
    have HD := Lib.hid hd
    have HM := Lib.hid hm
    have HO := Lib.hid ho
    have HT := Lib.hid ht
    clear hd hm ho ht
    by_cases hz : m = 0
    · have tz : ((m : Int) != 0) = false := by simpa using hz
      have HZ := Lib.hid hz
      have hm := HM.out
      rw [hz] at hm
      have HN := Lib.hid hm
      clear hz hm
      go_wp2_with fail
      go_at_call 49
      refine (bigUint_of HD.out.toR HN.out).mono ?_
      rintro r w4 ⟨b6, s6, k6, c6, rfl, hb6, t4⟩
      have p3 := HO.out.only t4
      have p5 := HT.out.trans t4
      obtain ⟨g1, g2, g3, g4, g5⟩ := p3.all
      have HB := Lib.hid (hb6.apart p3 b6 s6 k6 c6)
      have HT := Lib.hid ((p5.set (p := w.heap.size) (by omega) 0 (.bool b6)).set (p := w.heap.size) (by omega) 1 (.slice s6 k6 c6))
      clear p3 p5 hb6 t4 
      go_wp2
      simp [bodyPost, results, Try.results47, go_sem, World.cell?_setCell_other, g1, g2]
      exact ⟨b6, s6, k6, c6, rfl, HB.out, HT.out⟩
    · have tz : ((m : Int) != 0) = true := by simpa using hz
      have hst := HM.out.next hz
      have HST := Lib.hid hst
      have HMM := Lib.hid (one_int wr (e := (m : Int) % 10000) (n := m % 10000) (by omega))
      have HO1 := Lib.hid (HD.out.only ((Only.refl wr).alloc (.cells #[.int .i64 ((m : Int) % 10000)] 3)))
      have HZ := Lib.hid hz
      clear hst hz
      go_wp2_with (at_builtin; refine append_nats2 rfl (.tmp 6) (.tmp 10) rfl (base := w.heap.size + 1) rfl rfl HO1.out HMM.out rfl (List.length_append ..) (by have := HM.out.len; simp; omega) (by have := HO.out.lt; simp; omega) ?_)
      intro sp4 cap4 w4 hown hb4 hs4
      have HW := Lib.hid hown
      have T4 := Lib.hid ((HT.out.alloc _).below hb4 (by omega))
      have O4 := Lib.hid ((HO.out.alloc _).below hb4 (by omega))
      clear hown hb4 hs4
      go_wp2
      go_roundw
      case rel => exact ⟨m / 10000, l ++ [m % 10000], by rfl, HW.out, HST.out, by omega, O4.out, T4.out⟩
      case measure => have := HZ.out; simp [intOf]; omega

set_option maxRecDepth 100000 in
set_option maxHeartbeats 3200000 in
theorem power_any {N : Nat} (h1 : N ≤ 1000) (w : World) : Calls Try.prog 48 #[.int .i64 N] w (BigSays w ((2 : Int) ^ N)) := by
  have OF := Lib.hid (bigOf_any (N := 1) (by decide) (by decide))
  obtain ⟨t0, o0⟩ := box0_new w
  go_enter Try.func48, Try.ntmps48
  go_wp2_with fail
  go_at_call 23
  refine (OF.out _).mono ?_
  rintro r w1 ⟨b1, s1, k1, c1, rfl, h1', t1⟩
  have O0 := Lib.hid (((o0.only t1).alloc (boxOf b1 s1 k1 c1)))
  have T0 := Lib.hid ((t0.trans t1).alloc (boxOf b1 s1 k1 c1))
  have B0 : Hid (BigAt (w1.alloc (boxOf b1 s1 k1 c1)) w1.heap.size b1 s1 k1 c1 ∧ BigR (w1.alloc (boxOf b1 s1 k1 c1)) b1 s1 k1 c1 ((2 : Int) ^ 0)) := Lib.hid ⟨Own2.new _ _ _ _, h1'.only ((Only.refl _).alloc _)⟩
  obtain ⟨P, hP⟩ : ∃ P, P = w1.heap.size := ⟨_, rfl⟩
  have NE := Lib.hid (show w.heap.size < P by have := (o0.only t1).lt; omega)
  have HP := Lib.hid hP
  rw [← hP] at B0
  clear o0 t0 t1 h1' OF
  go_wp2_with fail
  rw [← hP]
  clear hP
  go_loopw [4] (fun i wr => ∃ (k : Nat) (b : Bool) (s : Option Addr) (n c : Nat), k ≤ N ∧ i = .int .i64 k ∧ BigAt wr P b s n c ∧ BigR wr b s n c ((2 : Int) ^ k) ∧ BigAt wr w.heap.size false none 0 0 ∧ Only w wr) (fun i _ => N - (intOf i).toNat)
  case atStart => exact ⟨0, b1, s1, k1, c1, Nat.zero_le _, rfl, B0.out.1, B0.out.2, O0.out, T0.out⟩
  case round =>
    obtain ⟨k, b, s, n, c, hk, rfl, hb, hr, ho, ht⟩ := hrel
    have HR := Lib.hid hr
    have HT := Lib.hid ht
    have HO := Lib.hid ho
    have HB := Lib.hid hb
    obtain ⟨x1, x2, x3, x4, x5⟩ := hb.all
    have hne : ¬ w.heap.size = P := by have := NE.out; omega
    have hne2 : ¬ P = w.heap.size := by have := NE.out; omega
    by_cases hlt : k < N
    · have LM := Lib.hid ((Lim.two (i := k) (K := 1000) (by omega)).mono (M := 50000) (by omega))
      clear hr ht ho hb
      go_wp2_with fail
      go_at_call 20
      refine (bigAdd_any HR.out HR.out LM.out LM.out).mono ?_
      rintro r w4 ⟨b6, s6, k6, c6, rfl, hb6, t4⟩
      have p1 := HB.out.only t4
      have p3 := HO.out.only t4
      have p5 := HT.out.trans t4
      obtain ⟨g1, g2, g3, g4, g5⟩ := p1.all
      rw [show (2 : Int) ^ k + 2 ^ k = 2 ^ (k + 1) by rw [Int.pow_succ]; omega] at hb6
      have HB6 := Lib.hid (hb6.apart p1 b6 s6 k6 c6)
      have HP6 := Lib.hid (p1.set (.bool b6) (.slice s6 k6 c6))
      have HO6 := Lib.hid ((p3.far hne 0 (.bool b6)).far hne 1 (.slice s6 k6 c6))
      have HT6 := Lib.hid ((p5.set (p := P) (by have := NE.out; omega) 0 (.bool b6)).set (p := P) (by have := NE.out; omega) 1 (.slice s6 k6 c6))
      clear p1 p3 p5 hb6 t4 x1 x2 x3 x4 x5
      go_wp2
      go_roundw
      case rel => exact ⟨k + 1, b6, s6, k6, c6, by omega, by go_num, HP6.out, HB6.out, HO6.out, HT6.out⟩
      case measure => simp [intOf]; omega
    · have hkN : k = N := by omega
      have HK := Lib.hid hkN
      obtain ⟨g1, g2, g3, g4, g5⟩ := ho.all
      have HB6 := Lib.hid (hr.apart ho b s n c)
      have HT6 := Lib.hid ((ht.set (p := w.heap.size) (by omega) 0 (.bool b)).set (p := w.heap.size) (by omega) 1 (.slice s n c))
      clear hr ht ho hb hkN
      go_wp2
      simp [bodyPost, results, Try.results48, go_sem, World.cell?_setCell_other, g1, g2]
      rw [HK.out] at HB6
      exact ⟨b, s, n, c, rfl, HB6.out, HT6.out⟩

end Go.Proofs.Ytagilpgplcphpaa
