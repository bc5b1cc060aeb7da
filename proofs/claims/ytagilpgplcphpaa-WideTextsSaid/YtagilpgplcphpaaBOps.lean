/-
  Numbers compared, turned over, added, subtracted.
-/
import Derived.Test.YtagilpgplcphpaaBTrim
import Derived.Test.YtagilpgplcphpaaBCmp
import Derived.Test.YtagilpgplcphpaaBAdd
namespace Go.Proofs.Ytagilpgplcphpaa
open Go.RowKit Go.Maps Go.WideMaps

abbrev CmpDIs (w : World) (v u : Value) (c : Int) : Prop := ∀ W, Only w W → Calls Try.prog 51 #[v, u] W fun e w' => e = .returned (.int .i64 c) ∧ Only W w'

set_option maxHeartbeats 1600000 in
theorem bigCmp_walk {b1 b2 : Bool} {s1 s2 : Option Addr} {k1 c1 k2 c2 : Nat} {c : Int} {w : World} (C : CmpDIs w (.slice s1 k1 c1) (.slice s2 k2 c2) c) (hc : -1 ≤ c ∧ c ≤ 1) :
    Calls Try.prog 26 #[.agg #[.bool b1, .slice s1 k1 c1], .agg #[.bool b2, .slice s2 k2 c2]] w fun e w' => e = .returned (.int .i64 (if b1 = b2 then (if b1 then -c else c) else if b1 then -1 else 1)) ∧ Only w w' := by
  obtain ⟨hc1, hc2⟩ := hc
  have C := Lib.hid C
  obtain ⟨ht, o1, o2⟩ := boxes2 w b1 b2 s1 s2 k1 c1 k2 c2
  cases b1 <;> cases b2
  · go_enter Try.func26, Try.ntmps26
    go_wp2_with fail
    go_at_call 51
    refine (C.out _ ht).mono ?_
    rintro r w3 ⟨rfl, t3⟩
    obtain ⟨d1, d2, f1, f2, z1⟩ := (o1.only t3).all
    replace ht := ht.trans t3
    clear o1 o2 t3
    go_wp2
    go_ret
    exact ⟨rfl, ht⟩
  · go_enter Try.func26, Try.ntmps26
    go_wp2
    go_ret
    exact ⟨rfl, ht⟩
  · go_enter Try.func26, Try.ntmps26
    go_wp2
    go_ret
    exact ⟨rfl, ht⟩
  · go_enter Try.func26, Try.ntmps26
    go_wp2_with fail
    go_at_call 51
    refine (C.out _ ht).mono ?_
    rintro r w3 ⟨rfl, t3⟩
    obtain ⟨d1, d2, f1, f2, z1⟩ := (o1.only t3).all
    replace ht := ht.trans t3
    clear o1 o2 t3
    go_wp2
    go_ret
    exact ⟨rfl, ht⟩

theorem bigCmp_any {b1 b2 : Bool} {s1 s2 : Option Addr} {k1 c1 k2 c2 : Nat} {n m : Int} {w : World} (h1 : BigR w b1 s1 k1 c1 n) (h2 : BigR w b2 s2 k2 c2 m) (l1 : Lim n 100000) (l2 : Lim m 100000) :
    Calls Try.prog 26 #[.agg #[.bool b1, .slice s1 k1 c1], .agg #[.bool b2, .slice s2 k2 c2]] w fun e w' => e = .returned (.int .i64 (cmpI n m)) ∧ Only w w' := by
  obtain ⟨rfl, l, r1, g1⟩ := h1
  obtain ⟨rfl, m', r2, g2⟩ := h2
  have C : CmpDIs w (.slice s1 k1 c1) (.slice s2 k2 c2) (cmpN n.natAbs m.natAbs) := fun W t => cmpD_any (r1.only t) (r2.only t) g1 g2 (g1.len l1) (g2.len l2)
  refine (bigCmp_walk C (by unfold cmpN; split <;> (try split) <;> omega)).mono fun e w' h => ⟨h.1.trans ?_, h.2⟩
  by_cases q1 : n < 0 <;> by_cases q2 : m < 0
  · simp [q1, q2, cmpI_neg]
  · simp [q1, q2]; rw [cmpI_lt (by omega)]
  · simp [q1, q2]; rw [cmpI_gt (by omega)]
  · simp [q1, q2, cmpI_pos]

abbrev TrimIs (w : World) (neg : Bool) (v : Value) (n : Int) : Prop := ∀ W, Only w W → Calls Try.prog 49 #[.bool neg, v] W (BigSays W n)

set_option maxHeartbeats 1600000 in
theorem bigNeg_walk {b1 : Bool} {s1 : Option Addr} {k1 c1 : Nat} {n : Int} {w : World} (T : TrimIs w (!b1) (.slice s1 k1 c1) n) :
    Calls Try.prog 24 #[.agg #[.bool b1, .slice s1 k1 c1]] w (BigSays w n) := by
  have T := Lib.hid T
  obtain ⟨ht, o1, o2⟩ := boxes11 w b1 s1 k1 c1
  go_enter Try.func24, Try.ntmps24
  go_wp2_with fail
  go_at_call 49
  refine (T.out _ ht).mono ?_
  rintro r w3 ⟨b4, s4, k4, c4, rfl, hb4, t3⟩
  obtain ⟨d1, d2, f1, f2, z1⟩ := (o2.only t3).all
  have HB := Lib.hid (hb4.apart (o2.only t3) b4 s4 k4 c4)
  have HT := Lib.hid (((ht.trans t3).set (p := w.heap.size + 1) (by omega) 0 (.bool b4)).set (p := w.heap.size + 1) (by omega) 1 (.slice s4 k4 c4))
  clear o1 o2 t3 hb4 ht
  go_wp2
  simp [bodyPost, results, Try.results24, go_sem, World.cell?_setCell_other, d1, d2]
  exact ⟨b4, s4, k4, c4, rfl, HB.out, HT.out⟩

theorem bigNeg_any {b1 : Bool} {s1 : Option Addr} {k1 c1 : Nat} {n : Int} {w : World} (h1 : BigR w b1 s1 k1 c1 n) (l1 : Lim n 100000) :
    Calls Try.prog 24 #[.agg #[.bool b1, .slice s1 k1 c1]] w (BigSays w (-n)) := by
  obtain ⟨rfl, l, r1, g1⟩ := h1
  refine bigNeg_walk fun W t => ?_
  have h := trim_any (neg := !decide (n < 0)) (r1.only t) g1.dg (g1.len l1)
  rw [g1.eq, show sgn (!decide (n < 0)) n.natAbs = -n by unfold sgn; by_cases q : n < 0 <;> simp [q] <;> omega] at h
  exact h

/-- digits added, or taken off -/
abbrev NatsAre (w : World) (f : FuncId) (v u : Value) (N : Nat) : Prop := ∀ W, Only w W → Calls Try.prog f #[v, u] W (NatsSay W 100000 N)

set_option maxHeartbeats 3200000 in
theorem bigAdd_same {b1 : Bool} {s1 s2 : Option Addr} {k1 c1 k2 c2 : Nat} {N : Nat} {w : World} (A : NatsAre w 50 (.slice s1 k1 c1) (.slice s2 k2 c2) N) :
    Calls Try.prog 20 #[.agg #[.bool b1, .slice s1 k1 c1], .agg #[.bool b1, .slice s2 k2 c2]] w (BigSays w (sgn b1 N)) := by
  have A := Lib.hid A
  obtain ⟨ht, o1, o2, o3⟩ := boxes3 w b1 b1 s1 s2 k1 c1 k2 c2
  go_enter Try.func20, Try.ntmps20
  have hbb : (b1 == b1) = true := by simp
  go_wp2_with fail
  refine wp_name (fun wx => Only w wx ∧ BigAt wx w.heap.size b1 s1 k1 c1 ∧ BigAt wx (w.heap.size + 1) b1 s2 k2 c2 ∧ BigAt wx (w.heap.size + 1 + 1) false none 0 0) ⟨ht, o1, o2, o3⟩ ?_
  clear ht o1 o2 o3
  rintro wx ⟨ht, o1, o2, o3⟩
  obtain ⟨x1, x2, -, -, x3⟩ := o1.all
  obtain ⟨y1, y2, -, -, y3⟩ := o2.all
  have q1 := o1.drew
  have q2 := o2.drew
  go_region_held3 (fun w' => w'.cell? ⟨w.heap.size, 0, none⟩ = some (.bool b1) ∧ w'.cell? ⟨w.heap.size, 1, none⟩ = some (.slice s1 k1 c1) ∧ w'.cell? ⟨w.heap.size + 1, 1, none⟩ = some (.slice s2 k2 c2)) (first | exact ⟨q1.c0, q1.c1, q2.c1⟩ | exact ⟨p1.c0, p1.c1, p2.c1⟩ | exact ⟨((p1.far (by omega) 0 _).far (by omega) 1 _).c0, ((p1.far (by omega) 0 _).far (by omega) 1 _).c1, ((p2.far (by omega) 0 _).far (by omega) 1 _).c1⟩ | fail) (first | (go_at_call 50; refine (A.out _ ht.drew).mono ?_; rintro r w3 ⟨s4, k4, c4, l4, rfl, hr4, hd4, hv4, hl4, t3⟩; have p1 := q1.only t3; have p2 := q2.only t3; have p3 := o3.drew.only t3; have p5 := ht.drew.trans t3) | (go_at_call 49; refine (trim_any hr4 hd4 hl4).mono ?_; rintro r w4 ⟨b6, s6, k6, c6, rfl, hb6, t4⟩; have p1 := p1.only t4; have p2 := p2.only t4; have p3 := p3.only t4; have p5 := p5.trans t4; obtain ⟨g1, g2, g3, g4, g5⟩ := p3.all))
  rw [hv4] at hb6
  have HB := Lib.hid (hb6.apart p3 b6 s6 k6 c6)
  have HT := Lib.hid ((p5.set (p := w.heap.size + 1 + 1) (by omega) 0 (.bool b6)).set (p := w.heap.size + 1 + 1) (by omega) 1 (.slice s6 k6 c6))
  clear p1 p2 p3 p5 hb6 hv4 hr4 hd4 hl4 t3 t4 q1 q2 o1 o2 o3 ht
  go_wp2
  simp [bodyPost, results, Try.results20, go_sem, World.cell?_setCell_other, g1, g2]
  exact ⟨b6, s6, k6, c6, rfl, HB.out, HT.out⟩

set_option maxHeartbeats 3200000 in
theorem bigAdd_high {b1 b2 : Bool} {s1 s2 : Option Addr} {k1 c1 k2 c2 : Nat} {N : Nat} {c : Int} {w : World} (hb : (b1 == b2) = false) (C : CmpDIs w (.slice s1 k1 c1) (.slice s2 k2 c2) c) (hc : decide (0 ≤ c) = true) (A : NatsAre w 52 (.slice s1 k1 c1) (.slice s2 k2 c2) N) :
    Calls Try.prog 20 #[.agg #[.bool b1, .slice s1 k1 c1], .agg #[.bool b2, .slice s2 k2 c2]] w (BigSays w (sgn b1 N)) := by
  have A := Lib.hid A
  have C := Lib.hid C
  obtain ⟨ht, o1, o2, o3⟩ := boxes3 w b1 b2 s1 s2 k1 c1 k2 c2
  go_enter Try.func20, Try.ntmps20
  go_wp2_with fail
  go_at_call 51
  refine (C.out _ ht).mono ?_
  rintro r w2 ⟨rfl, t2⟩
  replace ht := ht.trans t2
  replace o1 := o1.only t2
  replace o2 := o2.only t2
  replace o3 := o3.only t2
  clear t2 C
  go_wp2_with fail
  refine wp_name (fun wx => Only w wx ∧ BigAt wx w.heap.size b1 s1 k1 c1 ∧ BigAt wx (w.heap.size + 1) b2 s2 k2 c2 ∧ BigAt wx (w.heap.size + 1 + 1) false none 0 0) ⟨ht, o1, o2, o3⟩ ?_
  clear ht o1 o2 o3
  rintro wx ⟨ht, o1, o2, o3⟩
  obtain ⟨x1, x2, -, -, x3⟩ := o1.all
  obtain ⟨y1, y2, -, -, y3⟩ := o2.all
  have q1 := o1.drew
  have q2 := o2.drew
  go_region_held3 (fun w' => w'.cell? ⟨w.heap.size, 0, none⟩ = some (.bool b1) ∧ w'.cell? ⟨w.heap.size, 1, none⟩ = some (.slice s1 k1 c1) ∧ w'.cell? ⟨w.heap.size + 1, 1, none⟩ = some (.slice s2 k2 c2)) (first | exact ⟨q1.c0, q1.c1, q2.c1⟩ | exact ⟨p1.c0, p1.c1, p2.c1⟩ | exact ⟨((p1.far (by omega) 0 _).far (by omega) 1 _).c0, ((p1.far (by omega) 0 _).far (by omega) 1 _).c1, ((p2.far (by omega) 0 _).far (by omega) 1 _).c1⟩ | fail) (first | (go_at_call 52; refine (A.out _ ht.drew).mono ?_; rintro r w3 ⟨s4, k4, c4, l4, rfl, hr4, hd4, hv4, hl4, t3⟩; have p1 := q1.only t3; have p2 := q2.only t3; have p3 := o3.drew.only t3; have p5 := ht.drew.trans t3) | (go_at_call 49; refine (trim_any hr4 hd4 hl4).mono ?_; rintro r w4 ⟨b6, s6, k6, c6, rfl, hb6, t4⟩; have p1 := p1.only t4; have p2 := p2.only t4; have p3 := p3.only t4; have p5 := p5.trans t4; obtain ⟨g1, g2, g3, g4, g5⟩ := p3.all))
  rw [hv4] at hb6
  have HB := Lib.hid (hb6.apart p3 b6 s6 k6 c6)
  have HT := Lib.hid ((p5.set (p := w.heap.size + 1 + 1) (by omega) 0 (.bool b6)).set (p := w.heap.size + 1 + 1) (by omega) 1 (.slice s6 k6 c6))
  clear p1 p2 p3 p5 hb6 hv4 hr4 hd4 hl4 t3 t4 q1 q2 o1 o2 o3 ht
  go_wp2
  simp [bodyPost, results, Try.results20, go_sem, World.cell?_setCell_other, g1, g2]
  exact ⟨b6, s6, k6, c6, rfl, HB.out, HT.out⟩

set_option maxHeartbeats 3200000 in
theorem bigAdd_low {b1 b2 : Bool} {s1 s2 : Option Addr} {k1 c1 k2 c2 : Nat} {N : Nat} {c : Int} {w : World} (hb : (b1 == b2) = false) (C : CmpDIs w (.slice s1 k1 c1) (.slice s2 k2 c2) c) (hc : decide (0 ≤ c) = false) (A : NatsAre w 52 (.slice s2 k2 c2) (.slice s1 k1 c1) N) :
    Calls Try.prog 20 #[.agg #[.bool b1, .slice s1 k1 c1], .agg #[.bool b2, .slice s2 k2 c2]] w (BigSays w (sgn b2 N)) := by
  have A := Lib.hid A
  have C := Lib.hid C
  obtain ⟨ht, o1, o2, o3⟩ := boxes3 w b1 b2 s1 s2 k1 c1 k2 c2
  go_enter Try.func20, Try.ntmps20
  go_wp2_with fail
  go_at_call 51
  refine (C.out _ ht).mono ?_
  rintro r w2 ⟨rfl, t2⟩
  replace ht := ht.trans t2
  replace o1 := o1.only t2
  replace o2 := o2.only t2
  replace o3 := o3.only t2
  clear t2 C
  go_wp2_with fail
  refine wp_name (fun wx => Only w wx ∧ BigAt wx w.heap.size b1 s1 k1 c1 ∧ BigAt wx (w.heap.size + 1) b2 s2 k2 c2 ∧ BigAt wx (w.heap.size + 1 + 1) false none 0 0) ⟨ht, o1, o2, o3⟩ ?_
  clear ht o1 o2 o3
  rintro wx ⟨ht, o1, o2, o3⟩
  obtain ⟨x1, x2, -, -, x3⟩ := o1.all
  obtain ⟨y1, y2, -, -, y3⟩ := o2.all
  have q1 := o1.drew
  have q2 := o2.drew
  go_region_held3 (fun w' => w'.cell? ⟨w.heap.size + 1, 0, none⟩ = some (.bool b2) ∧ w'.cell? ⟨w.heap.size + 1, 1, none⟩ = some (.slice s2 k2 c2) ∧ w'.cell? ⟨w.heap.size, 1, none⟩ = some (.slice s1 k1 c1)) (first | exact ⟨q2.c0, q2.c1, q1.c1⟩ | exact ⟨p2.c0, p2.c1, p1.c1⟩ | exact ⟨((p2.far (by omega) 0 _).far (by omega) 1 _).c0, ((p2.far (by omega) 0 _).far (by omega) 1 _).c1, ((p1.far (by omega) 0 _).far (by omega) 1 _).c1⟩ | fail) (first | (go_at_call 52; refine (A.out _ ht.drew).mono ?_; rintro r w3 ⟨s4, k4, c4, l4, rfl, hr4, hd4, hv4, hl4, t3⟩; have p1 := q1.only t3; have p2 := q2.only t3; have p3 := o3.drew.only t3; have p5 := ht.drew.trans t3) | (go_at_call 49; refine (trim_any hr4 hd4 hl4).mono ?_; rintro r w4 ⟨b6, s6, k6, c6, rfl, hb6, t4⟩; have p1 := p1.only t4; have p2 := p2.only t4; have p3 := p3.only t4; have p5 := p5.trans t4; obtain ⟨g1, g2, g3, g4, g5⟩ := p3.all))
  rw [hv4] at hb6
  have HB := Lib.hid (hb6.apart p3 b6 s6 k6 c6)
  have HT := Lib.hid ((p5.set (p := w.heap.size + 1 + 1) (by omega) 0 (.bool b6)).set (p := w.heap.size + 1 + 1) (by omega) 1 (.slice s6 k6 c6))
  clear p1 p2 p3 p5 hb6 hv4 hr4 hd4 hl4 t3 t4 q1 q2 o1 o2 o3 ht
  go_wp2
  simp [bodyPost, results, Try.results20, go_sem, World.cell?_setCell_other, g1, g2]
  exact ⟨b6, s6, k6, c6, rfl, HB.out, HT.out⟩

theorem bigAdd_any {b1 b2 : Bool} {s1 s2 : Option Addr} {k1 c1 k2 c2 : Nat} {n m : Int} {w : World} (h1 : BigR w b1 s1 k1 c1 n) (h2 : BigR w b2 s2 k2 c2 m) (l1 : Lim n 50000) (l2 : Lim m 50000) :
    Calls Try.prog 20 #[.agg #[.bool b1, .slice s1 k1 c1], .agg #[.bool b2, .slice s2 k2 c2]] w (BigSays w (n + m)) := by
  obtain ⟨rfl, l, r1, g1⟩ := h1
  obtain ⟨rfl, m', r2, g2⟩ := h2
  have e1 := g1.len l1
  have e2 := g2.len l2
  by_cases q : decide (n < 0) = decide (m < 0)
  · rw [← q]
    have A : NatsAre w 50 (.slice s1 k1 c1) (.slice s2 k2 c2) (n.natAbs + m.natAbs) := fun W t => (addN_any (r1.only t) (r2.only t) g1 g2 (by omega) (by omega)).mono fun e w' h => by
      obtain ⟨sp, k, cap, l', h1, h2, h3, h4⟩ := h
      exact ⟨sp, k, cap, l', h1, h2, h3.dg, h3.eq, h3.len_sum l1 l2 (by omega), h4⟩
    have h := bigAdd_same (b1 := decide (n < 0)) A
    rw [show sgn (decide (n < 0)) (n.natAbs + m.natAbs) = n + m by unfold sgn; simp only [decide_eq_decide] at q; by_cases c : n < 0 <;> simp [c] <;> omega] at h
    exact h
  · have hb : (decide (n < 0) == decide (m < 0)) = false := by simpa using q
    have C : CmpDIs w (.slice s1 k1 c1) (.slice s2 k2 c2) (cmpN n.natAbs m.natAbs) := fun W t => cmpD_any (r1.only t) (r2.only t) g1 g2 (by omega) (by omega)
    simp only [decide_eq_decide] at q
    by_cases g : m.natAbs ≤ n.natAbs
    · have A : NatsAre w 52 (.slice s1 k1 c1) (.slice s2 k2 c2) (n.natAbs - m.natAbs) := fun W t => (subN_any (r1.only t) (r2.only t) g1 g2 (by omega) (by omega) g).mono fun e w' h => by
        obtain ⟨sp, k, cap, l', h1, h2, h3, h4, h5, h6⟩ := h
        exact ⟨sp, k, cap, l', h1, h2, h3, h4, by omega, h6⟩
      have h := bigAdd_high hb C (by unfold cmpN; simp; split <;> (try split) <;> omega) A
      rw [show sgn (decide (n < 0)) (n.natAbs - m.natAbs) = n + m by unfold sgn; by_cases c : n < 0 <;> simp [c] <;> omega] at h
      exact h
    · have A : NatsAre w 52 (.slice s2 k2 c2) (.slice s1 k1 c1) (m.natAbs - n.natAbs) := fun W t => (subN_any (r2.only t) (r1.only t) g2 g1 (by omega) (by omega) (by omega)).mono fun e w' h => by
        obtain ⟨sp, k, cap, l', h1, h2, h3, h4, h5, h6⟩ := h
        exact ⟨sp, k, cap, l', h1, h2, h3, h4, by omega, h6⟩
      have h := bigAdd_low hb C (by unfold cmpN; simp; split <;> (try split) <;> omega) A
      rw [show sgn (decide (m < 0)) (m.natAbs - n.natAbs) = n + m by unfold sgn; by_cases c : m < 0 <;> simp [c] <;> omega] at h
      exact h

set_option maxHeartbeats 3200000 in
theorem bigSub_any {b1 b2 : Bool} {s1 s2 : Option Addr} {k1 c1 k2 c2 : Nat} {n m : Int} {w : World} (h1 : BigR w b1 s1 k1 c1 n) (h2 : BigR w b2 s2 k2 c2 m) (l1 : Lim n 50000) (l2 : Lim m 50000) :
    Calls Try.prog 21 #[.agg #[.bool b1, .slice s1 k1 c1], .agg #[.bool b2, .slice s2 k2 c2]] w (BigSays w (n - m)) := by
  have H1 := Lib.hid h1
  have L1 := Lib.hid l1
  have L2 := Lib.hid l2.neg
  have NG : Hid (∀ W, Only w W → Calls Try.prog 24 #[.agg #[.bool b2, .slice s2 k2 c2]] W (BigSays W (-m))) := Lib.hid fun W t => bigNeg_any (h2.only t) (l2.mono (by omega))
  obtain ⟨ht, o1, o2, o3⟩ := boxes3 w b1 b2 s1 s2 k1 c1 k2 c2
  clear h1 h2 l1 l2
  go_enter Try.func21, Try.ntmps21
  go_wp2_with fail
  refine wp_name (fun wx => Only w wx ∧ BigAt wx w.heap.size b1 s1 k1 c1 ∧ BigAt wx (w.heap.size + 1) b2 s2 k2 c2 ∧ BigAt wx (w.heap.size + 1 + 1) false none 0 0) ⟨ht, o1, o2, o3⟩ ?_
  clear ht o1 o2 o3
  rintro wx ⟨ht, o1, o2, o3⟩
  obtain ⟨x1, x2, -, -, x3⟩ := o1.all
  obtain ⟨y1, y2, -, -, y3⟩ := o2.all
  have q1 := o1.drew
  have q2 := o2.drew
  go_region_held3 (fun w' => w'.cell? ⟨w.heap.size, 0, none⟩ = some (.bool b1) ∧ w'.cell? ⟨w.heap.size, 1, none⟩ = some (.slice s1 k1 c1) ∧ w'.cell? ⟨w.heap.size + 1, 0, none⟩ = some (.bool b2) ∧ w'.cell? ⟨w.heap.size + 1, 1, none⟩ = some (.slice s2 k2 c2)) (first | exact ⟨q1.c0, q1.c1, q2.c0, q2.c1⟩ | exact ⟨p1.c0, p1.c1, p2.c0, p2.c1⟩ | exact ⟨((p1.far (by omega) 0 _).far (by omega) 1 _).c0, ((p1.far (by omega) 0 _).far (by omega) 1 _).c1, ((p2.far (by omega) 0 _).far (by omega) 1 _).c0, ((p2.far (by omega) 0 _).far (by omega) 1 _).c1⟩ | fail) (first | (go_at_call 24; refine (NG.out _ ht.drew).mono ?_; rintro r w3 ⟨b4, s4, k4, c4, rfl, hr4, t3⟩; have p1 := q1.only t3; have p2 := q2.only t3; have p3 := o3.drew.only t3; have p5 := ht.drew.trans t3) | (go_at_call 20; refine (bigAdd_any (H1.out.only p5) hr4 L1.out L2.out).mono ?_; rintro r w4 ⟨b6, s6, k6, c6, rfl, hb6, t4⟩; have p1 := p1.only t4; have p2 := p2.only t4; have p3 := p3.only t4; have p5 := p5.trans t4; obtain ⟨g1, g2, g3, g4, g5⟩ := p3.all))
  rw [← Int.sub_eq_add_neg] at hb6
  have HB := Lib.hid (hb6.apart p3 b6 s6 k6 c6)
  have HT := Lib.hid ((p5.set (p := w.heap.size + 1 + 1) (by omega) 0 (.bool b6)).set (p := w.heap.size + 1 + 1) (by omega) 1 (.slice s6 k6 c6))
  clear p1 p2 p3 p5 hb6 hr4 t3 t4 q1 q2 o1 o2 o3 ht
  go_wp2
  simp [bodyPost, results, Try.results21, go_sem, World.cell?_setCell_other, g1, g2]
  exact ⟨b6, s6, k6, c6, rfl, HB.out, HT.out⟩
end Go.Proofs.Ytagilpgplcphpaa
