/-
  Without 0 at the top.
-/
import Derived.Test.YtagilpgplcphpaaBNum
namespace Go.Proofs.Ytagilpgplcphpaa
open Go.RowKit Go.Maps Go.WideMaps

/-- what the loop keeps: n digits stand, and say all -/
def Stands (l : List Nat) (n : Nat) : Prop := n ≤ l.length ∧ bval (l.take n) = bval l

theorem Stands.start (l : List Nat) : Stands l l.length := ⟨Nat.le_refl _, by rw [List.take_length]⟩
theorem Stands.next {l : List Nat} {n : Nat} (h : Stands l (n + 1)) (hz : l[n]'(by have := h.1; omega) = 0) : Stands l n := by
  have := h.1
  exact ⟨by omega, bval_strip (by omega) hz h.2⟩
theorem Stands.top {l : List Nat} {n : Nat} (h : Stands l n) (hz : ∀ (hn : 0 < n), l[n - 1]'(by have := h.1; omega) ≠ 0) : Top (l.take n) := fun d hd => by
  have h1 := h.1
  rcases Nat.eq_zero_or_pos n with rfl | hn
  · simp at hd
  · rw [List.getLast?_eq_getElem?, List.length_take, Nat.min_eq_left h1, List.getElem?_take_of_lt (by omega), List.getElem?_eq_getElem (by omega)] at hd
    have := hz hn
    simp only [Option.some.injEq] at hd
    rw [← hd]; exact this

/-- the number that a sign and digits say -/
def sgn (neg : Bool) (n : Nat) : Int := if neg then -(n : Int) else n
theorem sgn_abs (neg : Bool) (n : Nat) : (sgn neg n).natAbs = n := by unfold sgn; split <;> omega
theorem sgn_neg {neg : Bool} {n : Nat} (h : 0 < n) : decide (sgn neg n < 0) = neg := by unfold sgn; cases neg <;> simp <;> omega
theorem sgn_zero (neg : Bool) : sgn neg 0 = 0 := by unfold sgn; split <;> rfl

/-- the end of trim -/
theorem trim_done {w w' : World} {neg : Bool} {l : List Nat} {n : Nat} (hd : Dg l) (hs : Stands l n) (hz : ∀ (hn : 0 < n), l[n - 1]'(by have := hs.1; omega) ≠ 0) {b : Bool} (hb : b = (neg && decide (0 < n))) {sp : Option Addr} {k cap : Nat} (hr : NatsR w' (.slice sp k cap) (l.take n)) (t : Only w w') :
    BigSays w (sgn neg (bval l)) (.returned (.agg #[.bool b, .slice sp k cap])) w' := by
  have hn : Nm (l.take n) (bval l) := ⟨hd.take n, hs.top hz, hs.2⟩
  refine ⟨b, sp, k, cap, rfl, ⟨?_, l.take n, hr, by rw [sgn_abs]; exact hn⟩, t⟩
  rw [hb]
  rcases Nat.eq_zero_or_pos n with rfl | hp
  · have e : bval l = 0 := by rw [← hs.2]; rfl
    rw [e, sgn_zero]; simp
  · have : 0 < bval l := hn.pos (by intro e; have := congrArg List.length e; rw [List.length_take, Nat.min_eq_left hs.1] at this; simp at this; omega)
    rw [sgn_neg this]; simp [hp]

/-- the number's box, and what append leaves -/
theorem trim_nats {w : World} {v : Value} {m : List Nat} (h : NatsR w v m) (o p : Obj) : NatsR ((w.alloc o).alloc p) v m := h.only (((Only.refl w).alloc _).alloc _)
theorem trim_own (w : World) (o : Obj) : NatsO ((w.alloc o).alloc (.cells #[] 3)) (w.heap.size + 1) (.slice (some ⟨w.heap.size + 1, 0, none⟩) 0 0) [] := by
  have := empty_nats (w.alloc o)
  simpa using this

theorem trim_w {w w4 : World} (hb : Below (w.heap.size + 1) ((w.alloc (.cells #[.bool false, .slice none 0 0] 37)).alloc (.cells #[] 3)) w4) : Own2 w4 w.heap.size (.bool false) (.slice none 0 0) ∧ Only w w4 :=
  ⟨((Own2.new w _ _ 37).alloc _).below hb (by omega), (((Only.refl w).alloc _).alloc _).below hb (by omega)⟩

set_option maxHeartbeats 1600000 in
theorem trim_nil {neg : Bool} {w : World} : Calls Try.prog 49 #[.bool neg, .slice none 0 0] w (BigSays w (sgn neg 0)) := by
  have HO := trim_own w (.cells #[.bool false, .slice none 0 0] 37)
  have HR := trim_nats (Or.inl ⟨rfl, rfl⟩ : NatsR w (.slice none 0 0) []) (.cells #[.bool false, .slice none 0 0] 37) (.cells #[] 3)
  have HO := Lib.hid HO
  have HR := Lib.hid HR
  cases neg
  all_goals
    go_enter Try.func49, Try.ntmps49
    go_wp2_with fail
    refine wp_loop_rounds 1 ?_
    rw [rounds_succ]
    go_wp2_with (at_builtin; refine append_nats2 rfl (.tmp 25) (.tmp 28) rfl (base := w.heap.size + 1) rfl rfl HO.out HR.out (List.nil_append _) rfl (by decide) (by simp) ?_)
    intro sp4 cap4 w4 hown hb hs
    obtain ⟨o4, t4⟩ := trim_w hb
    have HW := Lib.hid hown
    have T4 := Lib.hid t4
    have OO := Lib.hid o4
    obtain ⟨ca, cb, fa, fb, z⟩ := o4.all
    clear hown hb t4 hs o4
    go_wp2
    simp [bodyPost, results, Try.results49, go_sem, World.cell?_setCell_other, ca, cb]
    exact trim_done (w := w) (l := []) (n := 0) Dg.nil (Stands.start []) (fun h => absurd h (by decide)) (by simp) ((HW.out.far (by omega) 0 _).far (by omega) 1 _).toR ((T4.out.set (Nat.le_refl _) 0 _).set (Nat.le_refl _) 1 _)

set_option maxHeartbeats 1600000 in
theorem trim_some {neg : Bool} {g cap : Nat} {l : List Nat} {w : World} (h : NatsR w (.slice (some ⟨g, 0, none⟩) l.length cap) l) (hd : Dg l) (hl : l.length ≤ 100000) :
    Calls Try.prog 49 #[.bool neg, .slice (some ⟨g, 0, none⟩) l.length cap] w (BigSays w (sgn neg (bval l))) := by
  obtain ⟨sp, cap', e0, h2, h3, h5⟩ := h.form
  simp only [Value.slice.injEq] at e0
  obtain ⟨rfl, -, rfl⟩ := e0
  have H := Lib.hid h
  have H5 := Lib.hid h5
  have HD := Lib.hid hd
  have i9 : (l.length : Int) ≤ 100000 := by omega
  have HO := trim_own w (.cells #[.bool false, .slice none 0 0] 37)
  have HO := Lib.hid HO
  clear h h5 hd
  go_enter Try.func49, Try.ntmps49
  go_wp2_with fail
  obtain ⟨N, hN⟩ : ∃ N, N = l.length := ⟨_, rfl⟩
  have HN := Lib.hid hN
  clear hN
  go_loop [5] (fun i => ∃ n : Nat, i = .int .i64 n ∧ Stands l n) (fun i => (intOf i).toNat)
  case atStart => exact ⟨l.length, rfl, Stands.start l⟩
  case round =>
    obtain ⟨n, rfl, hs⟩ := hrel
    have hle := hs.1
    have hnN : (n : Int) ≤ l.length := by omega
    have HS := Lib.hid hs
    have HLE := Lib.hid hle
    have hcap : (n : Int) ≤ cap := by omega
    have HR := trim_nats (H.out.cut hle) (.cells #[.bool false, .slice none 0 0] 37) (.cells #[] 3)
    have HR := Lib.hid HR
    clear hs hle
    rcases Nat.eq_zero_or_pos n with h0 | hpos
    · have t0 : decide (0 < n) = false := by simp; omega
      have t1 : decide ((0 : Int) < (n : Int)) = false := by simp; omega
      have H0 := Lib.hid h0
      clear h0
      cases neg
      all_goals
        go_wp2_with (at_builtin; refine append_nats2 rfl (.tmp 25) (.tmp 28) rfl (base := w.heap.size + 1) rfl rfl HO.out HR.out (List.nil_append _) (by rw [List.length_take, Nat.min_eq_left HLE.out]) (by omega) (by simp) ?_)
        intro sp4 cap4 w4 hown hb hs
        obtain ⟨o4, t4⟩ := trim_w hb
        have HW := Lib.hid hown
        have T4 := Lib.hid t4
        have OO := Lib.hid o4
        obtain ⟨ca, cb, fa, fb, z⟩ := o4.all
        clear hown hb t4 hs o4
        go_wp2
        simp [bodyPost, results, Try.results49, go_sem, World.cell?_setCell_other, ca, cb]
        exact trim_done (w := w) (l := l) (n := n) HD.out HS.out (fun h => absurd h (by have := H0.out; omega)) (by simp [H0.out]) ((HW.out.far (by omega) 0 _).far (by omega) 1 _).toR ((T4.out.set (Nat.le_refl _) 0 _).set (Nat.le_refl _) 1 _)
    · obtain ⟨k, rfl⟩ : ∃ k, n = k + 1 := ⟨n - 1, by omega⟩
      have hk : k < l.length := by have := HLE.out; omega
      obtain ⟨g, e1, c1⟩ := H5.out k l[k] (List.getElem?_eq_getElem hk)
      simp only [Option.some.injEq, Addr.mk.injEq, and_true] at e1
      subst e1
      have c1 := ((Only.refl w).alloc (.cells #[.bool false, .slice none 0 0] 37)).cell c1
      unfold dgV at c1
      have i0 : (0 : Int) ≤ (k : Int) := by omega
      have i1 : (k : Int) < (l.length : Int) := by omega
      have hnx := fun h => HS.out.next (n := k) h
      obtain ⟨x, hx⟩ : ∃ x, x = l[k] := ⟨_, rfl⟩
      rw [← hx] at c1 hnx
      have NX := Lib.hid hnx
      clear hnx hpos
      by_cases hz : x = 0
      · have t1 : ((x : Int) == 0) = true := by simp; omega
        have HZ := Lib.hid hz
        clear hz hx
        go_wp2_with fail
        go_round
        case rel => exact ⟨k, by go_num, NX.out HZ.out⟩
        case measure => simp [intOf]
      · have t1 : ((x : Int) == 0) = false := by simp; omega
        have HZ := Lib.hid hz
        have HX := Lib.hid hx
        clear hz hx
        cases neg
        all_goals
          go_wp2_with (at_builtin; refine append_nats2 rfl (.tmp 25) (.tmp 28) rfl (base := w.heap.size + 1) rfl rfl HO.out HR.out (List.nil_append _) (by rw [List.length_take, Nat.min_eq_left HLE.out]) (by omega) (by simp) ?_)
          intro sp4 cap4 w4 hown hb hs
          obtain ⟨o4, t4⟩ := trim_w hb
          have HW := Lib.hid hown
          have T4 := Lib.hid t4
          have OO := Lib.hid o4
          obtain ⟨ca, cb, fa, fb, z⟩ := o4.all
          clear hown hb t4 hs o4
          go_wp2
          simp [bodyPost, results, Try.results49, go_sem, World.cell?_setCell_other, ca, cb]
          exact trim_done (w := w) (l := l) (n := (k + 1)) HD.out HS.out (fun _ => by have e := HX.out; intro e2; exact HZ.out (by rw [e]; exact e2)) (by simp) ((HW.out.far (by omega) 0 _).far (by omega) 1 _).toR ((T4.out.set (Nat.le_refl _) 0 _).set (Nat.le_refl _) 1 _)

theorem trim_any {neg : Bool} {v : Value} {l : List Nat} {w : World} (h : NatsR w v l) (hd : Dg l) (hl : l.length ≤ 100000) :
    Calls Try.prog 49 #[.bool neg, v] w (BigSays w (sgn neg (bval l))) := by
  rcases h with ⟨rfl, rfl⟩ | ⟨g, cap, rfl, h2, h3, h4⟩
  · exact trim_nil
  · exact trim_some (Or.inr ⟨g, cap, rfl, h2, h3, h4⟩) hd hl
end Go.Proofs.Ytagilpgplcphpaa
