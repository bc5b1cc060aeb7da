/-
  The whole number of an Int.
-/
import Derived.Test.YtagilpgplcphpaaBMul
import Derived.Test.YtagilpgplcphpaaBLow
import Derived.Deep.RegionLaw
import Derived.Deep.RegionWith
import Derived.Deep.DeepCutAuto
namespace Go.Proofs.Ytagilpgplcphpaa
open Go.RowKit Go.Maps Go.WideMaps

/-- where Value stands: the number N in a box of its own -/
def ValMid (w : World) (h l : Int) (N : Int) (p : Value) (wc : World) : Prop :=
  ∃ (g : Nat) (b : Bool) (s : Option Addr) (k c : Nat), p = .pointer (some ⟨g, 0, none⟩) ∧ w.heap.size + 1 < g ∧ BigAt wc g b s k c ∧ BigR wc b s k c N ∧ Own2 wc w.heap.size (.int .u64 h) (.int .u64 l) ∧ BigAt wc (w.heap.size + 1) false none 0 0 ∧ Only w wc

set_option maxRecDepth 100000 in
set_option maxHeartbeats 6400000 in
theorem value_walk {h l : Nat} (hh : h < 18446744073709551616) (hl : l < 18446744073709551616) {X : Int} (hX : Hid (X = if 9223372036854775808 ≤ h then (h : Int) * (2 : Int) ^ 64 + (l : Int) - (2 : Int) ^ 128 else (h : Int) * (2 : Int) ^ 64 + (l : Int))) (w : World) :
    Calls Try.prog 17 #[.agg #[.int .u64 h, .int .u64 l]] w (BigSays w X) := by
  have P64 : Hid (∀ W, Calls Try.prog 48 #[.int .i64 64] W (BigSays W ((2 : Int) ^ 64))) := Lib.hid (power_any (N := 64) (by decide))
  have P128 : Hid (∀ W, Calls Try.prog 48 #[.int .i64 128] W (BigSays W ((2 : Int) ^ 128))) := Lib.hid (power_any (N := 128) (by decide))
  have Lh5 : Lim (h : Int) 5 := Lim.nat (by omega)
  have Ll5 : Lim (l : Int) 5 := Lim.nat (by omega)
  have Lp5 : Lim ((2 : Int) ^ 64) 65 := Lim.two (by omega)
  have UH := Lib.hid (bigUint_any hh)
  have UL := Lib.hid (bigUint_any hl)
  have LH : Hid (Lim (h : Int) 20000) := Lib.hid (Lh5.mono (by omega))
  have LL : Hid (Lim (l : Int) 50000) := Lib.hid (Ll5.mono (by omega))
  have LP : Hid (Lim ((2 : Int) ^ 64) 20000) := Lib.hid (Lp5.mono (by omega))
  have LP8 : Hid (Lim ((2 : Int) ^ 128) 50000) := Lib.hid ((Lim.two (i := 128) (K := 128) (by omega)).mono (by omega))
  have LM : Hid (Lim ((h : Int) * (2 : Int) ^ 64) 50000) := Lib.hid ((Lh5.mul Lp5).mono (by omega))
  have LS : Hid (Lim ((h : Int) * (2 : Int) ^ 64 + (l : Int)) 50000) := Lib.hid (((Lh5.mul Lp5).add (Ll5.mono (by omega))).mono (by omega))
  clear Lh5 Ll5 Lp5
  have oa := (Own2.new w (.int .u64 (h : Int)) (.int .u64 (l : Int)) 24).alloc box0
  have o2 : BigAt ((w.alloc (.cells #[.int .u64 (h : Int), .int .u64 (l : Int)] 24)).alloc box0) (w.heap.size + 1) false none 0 0 := Own2.new1 w _ _ _ _
  have ht := ((Only.refl w).alloc (.cells #[.int .u64 (h : Int), .int .u64 (l : Int)] 24)).alloc box0
  have ih : (h : Int) < 18446744073709551616 := by omega
  have il : (l : Int) < 18446744073709551616 := by omega
  clear hh hl
  go_enter Try.func17, Try.ntmps17
  go_upto_region 1 with (fail)
  refine wp_name (fun wx => Only w wx ∧ Own2 wx w.heap.size (.int .u64 (h : Int)) (.int .u64 (l : Int)) ∧ BigAt wx (w.heap.size + 1) false none 0 0) ⟨ht, oa, o2⟩ ?_
  clear ht oa o2
  rintro wx ⟨ht, oa, o2⟩
  have lz := o2.lt
  have la := oa.lt
  go_cut [3] (fun p wc => ValMid w h l ((h : Int) * (2 : Int) ^ 64 + (l : Int)) p wc)
  case first =>
    have qa := oa.drew
    obtain ⟨x1, x2, x3, x4, x5⟩ := oa.all
    go_region_held3 (fun w' => w'.cell? ⟨w.heap.size, 0, none⟩ = some (.int .u64 (h : Int)) ∧ w'.cell? ⟨w.heap.size, 1, none⟩ = some (.int .u64 (l : Int))) (first | with_reducible exact ⟨x1, x2⟩ | with_reducible exact ⟨qa.c0, qa.c1⟩ | with_reducible exact ⟨a5.c0, a5.c1⟩ | with_reducible exact ⟨(a5.alloc _).c0, (a5.alloc _).c1⟩ | with_reducible exact ⟨a4.c0, a4.c1⟩ | with_reducible exact ⟨(a4.alloc _).c0, (a4.alloc _).c1⟩ | with_reducible exact ⟨a3.c0, a3.c1⟩ | with_reducible exact ⟨(a3.alloc _).c0, (a3.alloc _).c1⟩ | with_reducible exact ⟨a2.c0, a2.c1⟩ | with_reducible exact ⟨(a2.alloc _).c0, (a2.alloc _).c1⟩ | with_reducible exact ⟨a1.c0, a1.c1⟩ | with_reducible exact ⟨(a1.alloc _).c0, (a1.alloc _).c1⟩ | with_reducible exact ⟨(oa.alloc _).drew.c0, (oa.alloc _).drew.c1⟩ | with_reducible exact ⟨(oa.alloc _).c0, (oa.alloc _).c1⟩ | with_reducible exact ⟨(qa.alloc _).c0, (qa.alloc _).c1⟩ | exact ⟨((a5.far (by omega) 0 _).far (by omega) 1 _).c0, ((a5.far (by omega) 0 _).far (by omega) 1 _).c1⟩ | fail) (first | (go_at_call 47; (with_reducible refine (UH.out _).mono ?_); rintro r w1 ⟨b1, s1, k1, c1, rfl, r1, t1⟩; have T1 : Only wx w1 := (by first | exact (Only.refl wx).drew.trans t1 | exact ((Only.refl wx).drew.alloc _).trans t1 | exact ((Only.refl wx).alloc _).drew.trans t1 | fail); have y1 := T1.size; have a1 := oa.only T1; have p1 := o2.only T1; have h1 := ht.trans T1; (first | have n1 : BigAt w1 wx.heap.size false none 0 0 := (Own2.new wx.drew (.bool false) (.slice none 0 0) 37).only t1 | have n1 : BigAt w1 wx.heap.size false none 0 0 := (Own2.new wx (.bool false) (.slice none 0 0) 37).drew.only t1 | skip)) | (go_at_call 48; (with_reducible refine (P64.out _).mono ?_); rintro r w2 ⟨b2, s2, k2, c2, rfl, r2, t2⟩; have T2 : Only w1 w2 := (by first | exact t2 | exact t2.skip | fail); have y2 := T2.size; have a2 := a1.only T2; have p2 := p1.only T2; have h2 := h1.trans T2; have r1 := r1.only T2; (first | have n2 := n1.only t2 | have n2 : BigAt w2 w1.heap.size false none 0 0 := (Own2.new w1 (.bool false) (.slice none 0 0) 37).only t2 | skip)) | (go_at_call 22; (first | (refine (bigMul_any r1 r2 LH.out LP.out).mono ?_) | (refine (bigMul_any (r1.only ((Only.refl _).alloc _)) (r2.only ((Only.refl _).alloc _)) LH.out LP.out).mono ?_)); rintro r w3 ⟨b3, s3, k3, c3, rfl, r3, t3⟩; have T3 : Only w2 w3 := (by first | exact t3 | exact t3.skip | fail); have y3 := T3.size; have a3 := a2.only T3; have p3 := p2.only T3; have h3 := h2.trans T3; have r1 := r1.only T3; have r2 := r2.only T3; (first | have n3 := n2.only t3 | have n3 : BigAt w3 w2.heap.size false none 0 0 := (Own2.new w2 (.bool false) (.slice none 0 0) 37).only t3 | skip)) | (go_at_call 47; (with_reducible refine (UL.out _).mono ?_); rintro r w4 ⟨b4, s4, k4, c4, rfl, r4, t4⟩; have T4 : Only w3 w4 := (by first | exact t4 | exact t4.skip | fail); have y4 := T4.size; have a4 := a3.only T4; have p4 := p3.only T4; have h4 := h3.trans T4; have r1 := r1.only T4; have r2 := r2.only T4; have r3 := r3.only T4; (first | have n4 := n3.only t4 | have n4 : BigAt w4 w3.heap.size false none 0 0 := (Own2.new w3 (.bool false) (.slice none 0 0) 37).only t4 | skip)) | (go_at_call 20; (first | (refine (bigAdd_any r3 r4 LM.out LL.out).mono ?_) | (refine (bigAdd_any (r3.only ((Only.refl _).alloc _)) (r4.only ((Only.refl _).alloc _)) LM.out LL.out).mono ?_)); rintro r w5 ⟨b5, s5, k5, c5, rfl, r5, t5⟩; have T5 : Only w4 w5 := (by first | exact t5 | exact t5.skip | fail); have y5 := T5.size; have a5 := a4.only T5; have p5 := p4.only T5; have h5 := h4.trans T5; have r1 := r1.only T5; have r2 := r2.only T5; have r3 := r3.only T5; have r4 := r4.only T5; (first | have n5 := n4.only t5 | have n5 : BigAt w5 w4.heap.size false none 0 0 := (Own2.new w4 (.bool false) (.slice none 0 0) 37).only t5 | skip); (first | obtain ⟨g1, g2, g3, g4, g5⟩ := n5.all | skip)))
    all_goals
      go_wp2_with fail
      go_meet
      first
        | exact ⟨_, b5, s5, k5, c5, rfl, by omega, n5.set _ _, r5.apart n5 _ _ _ _, (a5.far (by omega) 0 _).far (by omega) 1 _, (p5.far (by omega) 0 _).far (by omega) 1 _, (h5.set (by omega) 0 _).set (by omega) 1 _⟩
        | exact ⟨_, b5, s5, k5, c5, rfl, by omega, Own2.new _ _ _ _, r5.only ((Only.refl _).alloc _), a5.alloc _, p5.alloc _, h5.alloc _⟩
        | fail
  case rest =>
    clear ht oa o2 lz la
    obtain ⟨g, b, s, k, c, rfl, hg, ob, rb, oa, o2, ht⟩ := hcut
    obtain ⟨x1, x2, x3, x4, x5⟩ := oa.all
    obtain ⟨z1, z2, z3, z4, z5⟩ := ob.all
    have RB := Lib.hid rb
    have OB := Lib.hid ob
    have O2 := Lib.hid o2
    have HT := Lib.hid ht
    have NE := Lib.hid hg
    have n1 : ¬ w.heap.size + 1 = g := by omega
    have n2 : ¬ g = w.heap.size + 1 := by omega
    clear rb hg
    by_cases hge : 9223372036854775808 ≤ h
    · have tg : decide ((9223372036854775808 : Int) ≤ (h : Int)) = true := by simp; omega
      have tg2 : (9223372036854775808 : Int) ≤ (h : Int) := by omega
      have HX := Lib.hid (hX.out.trans (if_pos hge))
      clear hge o2 ob ht
      go_wp2_with fail
      go_region_law (first | (go_simp; go_at_call 48; refine (P128.out _).mono ?_; rintro r w1 ⟨b1, s1, k1, c1, rfl, r1, t1⟩; have T1 : Only wc w1 := (Only.refl wc).drew.trans t1; have p1 := OB.out.only T1; obtain ⟨e1, e2, e3, e4, e5⟩ := p1.all) | (go_simp; go_at_call 21; refine (bigSub_any (RB.out.only T1) r1 LS.out LP8.out).mono ?_; rintro r w5 ⟨b6, s6, k6, c6, rfl, r6, t5⟩; have p5 := p1.only t5; have T5 := T1.trans t5; obtain ⟨f1, f2, f3, f4, f5⟩ := p5.all))
      all_goals
        have o5 := O2.out.only T5
        obtain ⟨d1, d2, d3, d4, d5⟩ := ((o5.far n1 0 (.bool b6)).far n1 1 (.slice s6 k6 c6)).all
        obtain ⟨u1, u2, u3, u4, u5⟩ := (p5.set (.bool b6) (.slice s6 k6 c6)).all
        rw [← HX.out] at r6
        have HR := Lib.hid ((r6.apart p5 b6 s6 k6 c6).apart ((o5.far n1 0 (.bool b6)).far n1 1 (.slice s6 k6 c6)) b6 s6 k6 c6)
        have HT5 := Lib.hid (((((HT.out.trans T5).set (p := g) (by have := NE.out; omega) 0 (.bool b6)).set (p := g) (by have := NE.out; omega) 1 (.slice s6 k6 c6)).set (p := w.heap.size + 1) (by omega) 0 (.bool b6)).set (p := w.heap.size + 1) (by omega) 1 (.slice s6 k6 c6))
        clear p1 p5 T1 T5 o5 r6 r1 t1 t5
        go_wp2
        simp [bodyPost, results, Try.results17, go_sem, World.cell?_setCell_other, d1, d2]
        exact ⟨b6, s6, k6, c6, rfl, HR.out, HT5.out⟩
    · have tg : decide ((9223372036854775808 : Int) ≤ (h : Int)) = false := by simp; omega
      have HX := Lib.hid (hX.out.trans (if_neg hge))
      have tg2 : (h : Int) < 9223372036854775808 := by omega
      obtain ⟨d1, d2, d3, d4, d5⟩ := o2.all
      have rb := RB.out
      rw [← HX.out] at rb
      have HR := Lib.hid (rb.apart o2 b s k c)
      have HT5 := Lib.hid ((ht.set (p := w.heap.size + 1) (by omega) 0 (.bool b)).set (p := w.heap.size + 1) (by omega) 1 (.slice s k c))
      clear hge o2 ob ht rb
      go_wp2
      simp [bodyPost, results, Try.results17, go_sem, World.cell?_setCell_other, d1, d2]
      exact ⟨b, s, k, c, rfl, HR.out, HT5.out⟩

theorem value_any {x : Int} (hx : In x) (w : World) : Calls Try.prog 17 #[enc x] w (BigSays w x) := by
  obtain ⟨h, l, h0, h1, l0, l1, t, e⟩ := enc_words x
  obtain ⟨h, rfl⟩ := Int.eq_ofNat_of_zero_le h0
  obtain ⟨l, rfl⟩ := Int.eq_ofNat_of_zero_le l0
  rw [e]
  refine value_walk (by omega) (by omega) (Lib.hid ?_) w
  obtain ⟨eh, el⟩ := t
  obtain ⟨a, b⟩ := hx
  rw [show (2 : Int) ^ 64 = 18446744073709551616 from rfl, show (2 : Int) ^ 128 = 340282366920938463463374607431768211456 from rfl]
  split <;> omega
end Go.Proofs.Ytagilpgplcphpaa
