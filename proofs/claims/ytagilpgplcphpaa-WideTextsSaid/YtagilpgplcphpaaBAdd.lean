/-
  Digits added, and taken off.
-/
import Derived.Test.YtagilpgplcphpaaBNum
namespace Go.Proofs.Ytagilpgplcphpaa
open Go.RowKit Go.Maps Go.WideMaps

set_option maxRecDepth 100000 in
set_option maxHeartbeats 3200000 in
theorem addN_any {va vb : Value} {a b : List Nat} {n m : Nat} {w : World} (ha : NatsR w va a) (hb : NatsR w vb b) (na : Nm a n) (nb : Nm b m) (la : a.length ≤ 100000) (lb : b.length ≤ 100000) :
    Calls Try.prog 50 #[va, vb] w (NmSay w (n + m)) := by
  obtain ⟨sa, ca, rfl, a2, a3, a5⟩ := ha.form
  obtain ⟨sb, cb, rfl, b2, b3, b5⟩ := hb.form
  have HA := Lib.hid a5
  have HB := Lib.hid b5
  have NA := Lib.hid na
  have NB := Lib.hid nb
  clear ha hb a5 b5 na nb
  go_enter Try.func50, Try.ntmps50
  go_wp2_with fail
  have la : (a.length : Int) ≤ 100000 := by omega
  have lb : (b.length : Int) ≤ 100000 := by omega
  go_loopw [5, 6, 7] (fun o c i wr => ∃ (k z : Nat) (l : List Nat), c = .int .i64 z ∧ i = .int .i64 k ∧ NatsO wr w.heap.size o l ∧ Adding a b l k z ∧ Rises a.length b.length (bval a + bval b) k ∧ Only w wr) (fun _ c i _ => 2 * (100001 - (intOf i).toNat) + (intOf c).toNat)
  case atStart => exact ⟨0, 0, [], rfl, rfl, NatsO.nil _ _, Adding.start a b, Or.inl (Nat.zero_le _), Only.refl _⟩
  case round =>
    obtain ⟨k, z, l, rfl, rfl, ho, hs, hr, ht⟩ := hrel
    obtain ⟨sp, cap, rfl⟩ := ho.form
    have hz1 : (z : Int) ≤ 1 := by have := hs.carry; omega
    have hkl := hs.len
    have hkm : (k : Int) ≤ 100001 := by
      rcases hr with q | ⟨q, -⟩ <;> omega
    have HO := Lib.hid ho
    have HS := Lib.hid hs
    have HR := Lib.hid hr
    have HT := Lib.hid ht
    have HL := Lib.hid (And.intro hkl hkm)
    clear ho hs hr ht hkl
    by_cases ha : k < a.length <;> by_cases hb : k < b.length
    · have ta : decide (k < a.length) = true := by simp; omega
      have tb : decide (k < b.length) = true := by simp; omega
      obtain ⟨g, e1, c1⟩ := HA.out k a[k] (List.getElem?_eq_getElem ha)
      subst e1
      replace c1 := HT.out.cell c1
      unfold dgV at c1
      have dx := dat_in ha
      obtain ⟨x, hx⟩ : ∃ x, x = a[k] := ⟨_, rfl⟩
      rw [← hx] at c1 dx
      have lx : (x : Int) < 10000 := by have := NA.out.dg.at_ ha; omega
      have i1 : (k : Int) < (a.length : Int) := by omega
      clear hx
      obtain ⟨g2, e2, c2⟩ := HB.out k b[k] (List.getElem?_eq_getElem hb)
      subst e2
      replace c2 := HT.out.cell c2
      unfold dgV at c2
      have dy := dat_in hb
      obtain ⟨y, hy⟩ : ∃ y, y = b[k] := ⟨_, rfl⟩
      rw [← hy] at c2 dy
      have ly : (y : Int) < 10000 := by have := NB.out.dg.at_ hb; omega
      have i2 : (k : Int) < (b.length : Int) := by omega
      clear hy
      have hst := add_step NA.out.dg NB.out.dg HS.out HR.out (by omega) (s := z + x + y) (by rw [dx, dy] <;> omega)
      have HST := Lib.hid hst
      have HM := Lib.hid (one_int wr (e := ((z : Int) + (x : Int) + (y : Int)) % 10000) (n := (z + x + y) % 10000) (by omega))
      have HO1 := Lib.hid (HO.out.only ((Only.refl wr).alloc (.cells #[.int .i64 (((z : Int) + (x : Int) + (y : Int)) % 10000)] 3)))
      clear hst dx dy ha hb
      go_wp2_with (at_builtin; refine append_nats2 rfl (.tmp 46) (.tmp 49) rfl (base := w.heap.size) rfl rfl HO1.out HM.out rfl (List.length_append ..) (by have := HL.out; simp; omega) (by have := HT.out.size; simp; omega) ?_)
      intro sp4 cap4 w4 hown hb hs
      have HW := Lib.hid hown
      have T4 := Lib.hid ((HT.out.alloc _).below hb (Nat.le_refl _))
      clear hown hb hs
      go_wp2
      go_roundw
      case rel => exact ⟨k + 1, (z + x + y) / 10000, l ++ [(z + x + y) % 10000], by congr 1, by go_num, HW.out, HST.out.1, HST.out.2, T4.out⟩
      case measure =>
        have := HST.out.2
        unfold Rises at this
        simp [intOf]; omega
    · have ta : decide (k < a.length) = true := by simp; omega
      have tb : decide (k < b.length) = false := by simp; omega
      obtain ⟨g, e1, c1⟩ := HA.out k a[k] (List.getElem?_eq_getElem ha)
      subst e1
      replace c1 := HT.out.cell c1
      unfold dgV at c1
      have dx := dat_in ha
      obtain ⟨x, hx⟩ : ∃ x, x = a[k] := ⟨_, rfl⟩
      rw [← hx] at c1 dx
      have lx : (x : Int) < 10000 := by have := NA.out.dg.at_ ha; omega
      have i1 : (k : Int) < (a.length : Int) := by omega
      clear hx
      have dy := dat_out (l := b) (i := k) (by omega)
      have hst := add_step NA.out.dg NB.out.dg HS.out HR.out (by omega) (s := z + x) (by rw [dx, dy] <;> omega)
      have HST := Lib.hid hst
      have HM := Lib.hid (one_int wr (e := ((z : Int) + (x : Int)) % 10000) (n := (z + x) % 10000) (by omega))
      have HO1 := Lib.hid (HO.out.only ((Only.refl wr).alloc (.cells #[.int .i64 (((z : Int) + (x : Int)) % 10000)] 3)))
      clear hst dx dy ha hb
      go_wp2_with (at_builtin; refine append_nats2 rfl (.tmp 46) (.tmp 49) rfl (base := w.heap.size) rfl rfl HO1.out HM.out rfl (List.length_append ..) (by have := HL.out; simp; omega) (by have := HT.out.size; simp; omega) ?_)
      intro sp4 cap4 w4 hown hb hs
      have HW := Lib.hid hown
      have T4 := Lib.hid ((HT.out.alloc _).below hb (Nat.le_refl _))
      clear hown hb hs
      go_wp2
      go_roundw
      case rel => exact ⟨k + 1, (z + x) / 10000, l ++ [(z + x) % 10000], by congr 1, by go_num, HW.out, HST.out.1, HST.out.2, T4.out⟩
      case measure =>
        have := HST.out.2
        unfold Rises at this
        simp [intOf]; omega
    · have ta : decide (k < a.length) = false := by simp; omega
      have tb : decide (k < b.length) = true := by simp; omega
      have dx := dat_out (l := a) (i := k) (by omega)
      obtain ⟨g2, e2, c2⟩ := HB.out k b[k] (List.getElem?_eq_getElem hb)
      subst e2
      replace c2 := HT.out.cell c2
      unfold dgV at c2
      have dy := dat_in hb
      obtain ⟨y, hy⟩ : ∃ y, y = b[k] := ⟨_, rfl⟩
      rw [← hy] at c2 dy
      have ly : (y : Int) < 10000 := by have := NB.out.dg.at_ hb; omega
      have i2 : (k : Int) < (b.length : Int) := by omega
      clear hy
      have hst := add_step NA.out.dg NB.out.dg HS.out HR.out (by omega) (s := z + y) (by rw [dx, dy] <;> omega)
      have HST := Lib.hid hst
      have HM := Lib.hid (one_int wr (e := ((z : Int) + (y : Int)) % 10000) (n := (z + y) % 10000) (by omega))
      have HO1 := Lib.hid (HO.out.only ((Only.refl wr).alloc (.cells #[.int .i64 (((z : Int) + (y : Int)) % 10000)] 3)))
      clear hst dx dy ha hb
      go_wp2_with (at_builtin; refine append_nats2 rfl (.tmp 46) (.tmp 49) rfl (base := w.heap.size) rfl rfl HO1.out HM.out rfl (List.length_append ..) (by have := HL.out; simp; omega) (by have := HT.out.size; simp; omega) ?_)
      intro sp4 cap4 w4 hown hb hs
      have HW := Lib.hid hown
      have T4 := Lib.hid ((HT.out.alloc _).below hb (Nat.le_refl _))
      clear hown hb hs
      go_wp2
      go_roundw
      case rel => exact ⟨k + 1, (z + y) / 10000, l ++ [(z + y) % 10000], by congr 1, by go_num, HW.out, HST.out.1, HST.out.2, T4.out⟩
      case measure =>
        have := HST.out.2
        unfold Rises at this
        simp [intOf]; omega
    · by_cases hz : 0 < z
      · have ta : decide (k < a.length) = false := by simp; omega
        have tb : decide (k < b.length) = false := by simp; omega
        have dx := dat_out (l := a) (i := k) (by omega)
        have dy := dat_out (l := b) (i := k) (by omega)
        have tz : decide (0 < z) = true := by simp; omega
        have tz2 : decide ((0 : Int) < (z : Int)) = true := by simp; omega
        have hst := add_step NA.out.dg NB.out.dg HS.out HR.out (by omega) (s := z) (by rw [dx, dy] <;> omega)
        have HST := Lib.hid hst
        have HM := Lib.hid (one_int wr (e := ((z : Int)) % 10000) (n := (z) % 10000) (by omega))
        have HO1 := Lib.hid (HO.out.only ((Only.refl wr).alloc (.cells #[.int .i64 (((z : Int)) % 10000)] 3)))
        clear hst dx dy ha hb
        go_wp2_with (at_builtin; refine append_nats2 rfl (.tmp 46) (.tmp 49) rfl (base := w.heap.size) rfl rfl HO1.out HM.out rfl (List.length_append ..) (by have := HL.out; simp; omega) (by have := HT.out.size; simp; omega) ?_)
        intro sp4 cap4 w4 hown hb hs
        have HW := Lib.hid hown
        have T4 := Lib.hid ((HT.out.alloc _).below hb (Nat.le_refl _))
        clear hown hb hs
        go_wp2
        go_roundw
        case rel => exact ⟨k + 1, (z) / 10000, l ++ [(z) % 10000], by congr 1, by go_num, HW.out, HST.out.1, HST.out.2, T4.out⟩
        case measure =>
          have := HST.out.2
          unfold Rises at this
          simp [intOf]; omega
      · have ta : decide (k < a.length) = false := by simp; omega
        have tb : decide (k < b.length) = false := by simp; omega
        have tz : decide (0 < z) = false := by simp; omega
        have tz2 : decide ((0 : Int) < (z : Int)) = false := by simp; omega
        have HZ := Lib.hid (show z = 0 by omega)
        have HAB := Lib.hid (And.intro ha hb)
        clear ha hb hz
        go_wp2
        go_ret
        refine ⟨sp, l.length, cap, l, rfl, HO.out.toR, ?_, HT.out⟩
        have h := HS.out
        rw [HZ.out] at h
        exact h.nm NA.out NB.out HR.out (by have := HAB.out.1; omega) (by have := HAB.out.2; omega)

set_option maxRecDepth 100000 in
set_option maxHeartbeats 3200000 in
theorem subN_any {va vb : Value} {a b : List Nat} {n m : Nat} {w : World} (ha : NatsR w va a) (hb : NatsR w vb b) (na : Nm a n) (nb : Nm b m) (la : a.length ≤ 100000) (lb : b.length ≤ 100000) (h : m ≤ n) :
    Calls Try.prog 52 #[va, vb] w (NatsSay w a.length (n - m)) := by
  obtain ⟨sa, ca, rfl, a2, a3, a5⟩ := ha.form
  obtain ⟨sb, cb, rfl, b2, b3, b5⟩ := hb.form
  have HA := Lib.hid a5
  have HB := Lib.hid b5
  have NA := Lib.hid na
  have NB := Lib.hid nb
  clear ha hb a5 b5 na nb
  go_enter Try.func52, Try.ntmps52
  go_wp2_with fail
  have la : (a.length : Int) ≤ 100000 := by omega
  have lb : (b.length : Int) ≤ 100000 := by omega
  go_loopw [5, 6, 7] (fun o c i wr => ∃ (k z : Nat) (l : List Nat), c = .int .i64 z ∧ i = .int .i64 k ∧ NatsO wr w.heap.size o l ∧ Taking a b l k z ∧ k ≤ a.length ∧ Only w wr) (fun _ _ i _ => a.length - (intOf i).toNat)
  case atStart => exact ⟨0, 0, [], rfl, rfl, NatsO.nil _ _, Taking.start a b, Nat.zero_le _, Only.refl _⟩
  case round =>
    obtain ⟨k, z, l, rfl, rfl, ho, hs, hk, ht⟩ := hrel
    obtain ⟨sp, cap, rfl⟩ := ho.form
    have hz1 : (z : Int) ≤ 1 := by have := hs.borrow; omega
    have hkl := hs.len
    have HO := Lib.hid ho
    have HS := Lib.hid hs
    have HT := Lib.hid ht
    have HL := Lib.hid (And.intro hkl hk)
    clear ho hs ht hkl
    by_cases ha : k < a.length
    · obtain ⟨g, e1, c1⟩ := HA.out k a[k] (List.getElem?_eq_getElem ha)
      subst e1
      replace c1 := HT.out.cell c1
      unfold dgV at c1
      have dx := dat_in ha
      have lx : (a[k] : Int) < 10000 := by have := NA.out.dg.at_ ha; omega
      have da := dat_drop a k
      rw [dx] at da
      obtain ⟨x, hx⟩ : ∃ x, x = a[k] := ⟨_, rfl⟩
      rw [← hx] at c1 lx da
      have i1 : (k : Int) < (a.length : Int) := by omega
      clear hx dx
      by_cases hb : k < b.length
      · have tb : decide (k < b.length) = true := by simp; omega
        obtain ⟨g2, e2, c2⟩ := HB.out k b[k] (List.getElem?_eq_getElem hb)
        subst e2
        replace c2 := HT.out.cell c2
        unfold dgV at c2
        have dy := dat_in hb
        obtain ⟨y, hy⟩ : ∃ y, y = b[k] := ⟨_, rfl⟩
        rw [← hy] at c2 dy
        have ly : (y : Int) < 10000 := by have := NB.out.dg.at_ hb; omega
        have i2 : (k : Int) < (b.length : Int) := by omega
        clear hy
        have dd := dat_drop b k
        rw [dy] at dd
        by_cases hn : (x : Int) - (z : Int) - (y : Int) < 0
        · have tn : decide ((x : Int) - (z : Int) - (y : Int) < 0) = true := by simp; omega
          have hst := HS.out.next (x := x) (y := y) (z := x + 10000 - z - y) (c' := 1) da dd (by omega) (by omega) (by omega)
          have HST := Lib.hid hst
          have HM := Lib.hid (one_int wr (e := (x : Int) - (z : Int) - (y : Int) + 10000) (n := x + 10000 - z - y) (by omega))
          have HO1 := Lib.hid (HO.out.only ((Only.refl wr).alloc (.cells #[.int .i64 ((x : Int) - (z : Int) - (y : Int) + 10000)] 3)))
          have HAK := Lib.hid ha
          clear hst da dd hn ha dy
          go_wp2_with (at_builtin; refine append_nats2 rfl (.tmp 35) (.tmp 37) rfl (base := w.heap.size) rfl rfl HO1.out HM.out rfl (List.length_append ..) (by have := HL.out; simp; omega) (by have := HT.out.size; simp; omega) ?_)
          intro sp4 cap4 w4 hown hb4 hs4
          have HW := Lib.hid hown
          have T4 := Lib.hid ((HT.out.alloc _).below hb4 (Nat.le_refl _))
          clear hown hb4 hs4
          go_wp2
          go_roundw
          case rel => exact ⟨k + 1, 1, l ++ [x + 10000 - z - y], by rfl, by go_num, HW.out, HST.out, HAK.out, T4.out⟩
          case measure => have := HAK.out; simp [intOf]; omega
        · have tn : decide ((x : Int) - (z : Int) - (y : Int) < 0) = false := by simp; omega
          have hst := HS.out.next (x := x) (y := y) (z := x - z - y) (c' := 0) da dd (by omega) (by omega) (by omega)
          have HST := Lib.hid hst
          have HM := Lib.hid (one_int wr (e := (x : Int) - (z : Int) - (y : Int)) (n := x - z - y) (by omega))
          have HO1 := Lib.hid (HO.out.only ((Only.refl wr).alloc (.cells #[.int .i64 ((x : Int) - (z : Int) - (y : Int))] 3)))
          have HAK := Lib.hid ha
          clear hst da dd hn ha dy
          go_wp2_with (at_builtin; refine append_nats2 rfl (.tmp 35) (.tmp 37) rfl (base := w.heap.size) rfl rfl HO1.out HM.out rfl (List.length_append ..) (by have := HL.out; simp; omega) (by have := HT.out.size; simp; omega) ?_)
          intro sp4 cap4 w4 hown hb4 hs4
          have HW := Lib.hid hown
          have T4 := Lib.hid ((HT.out.alloc _).below hb4 (Nat.le_refl _))
          clear hown hb4 hs4
          go_wp2
          go_roundw
          case rel => exact ⟨k + 1, 0, l ++ [x - z - y], by rfl, by go_num, HW.out, HST.out, HAK.out, T4.out⟩
          case measure => have := HAK.out; simp [intOf]; omega
      · have tb : decide (k < b.length) = false := by simp; omega
        have dy := dat_out (l := b) (i := k) (by omega)
        have dd := dat_drop b k
        rw [dy] at dd
        by_cases hn : (x : Int) - (z : Int) < 0
        · have tn : decide ((x : Int) - (z : Int) < 0) = true := by simp; omega
          have hst := HS.out.next (x := x) (y := 0) (z := x + 10000 - z - 0) (c' := 1) da dd (by omega) (by omega) (by omega)
          have HST := Lib.hid hst
          have HM := Lib.hid (one_int wr (e := (x : Int) - (z : Int) + 10000) (n := x + 10000 - z - 0) (by omega))
          have HO1 := Lib.hid (HO.out.only ((Only.refl wr).alloc (.cells #[.int .i64 ((x : Int) - (z : Int) + 10000)] 3)))
          have HAK := Lib.hid ha
          clear hst da dd hn ha dy
          go_wp2_with (at_builtin; refine append_nats2 rfl (.tmp 35) (.tmp 37) rfl (base := w.heap.size) rfl rfl HO1.out HM.out rfl (List.length_append ..) (by have := HL.out; simp; omega) (by have := HT.out.size; simp; omega) ?_)
          intro sp4 cap4 w4 hown hb4 hs4
          have HW := Lib.hid hown
          have T4 := Lib.hid ((HT.out.alloc _).below hb4 (Nat.le_refl _))
          clear hown hb4 hs4
          go_wp2
          go_roundw
          case rel => exact ⟨k + 1, 1, l ++ [x + 10000 - z - 0], by rfl, by go_num, HW.out, HST.out, HAK.out, T4.out⟩
          case measure => have := HAK.out; simp [intOf]; omega
        · have tn : decide ((x : Int) - (z : Int) < 0) = false := by simp; omega
          have hst := HS.out.next (x := x) (y := 0) (z := x - z - 0) (c' := 0) da dd (by omega) (by omega) (by omega)
          have HST := Lib.hid hst
          have HM := Lib.hid (one_int wr (e := (x : Int) - (z : Int)) (n := x - z - 0) (by omega))
          have HO1 := Lib.hid (HO.out.only ((Only.refl wr).alloc (.cells #[.int .i64 ((x : Int) - (z : Int))] 3)))
          have HAK := Lib.hid ha
          clear hst da dd hn ha dy
          go_wp2_with (at_builtin; refine append_nats2 rfl (.tmp 35) (.tmp 37) rfl (base := w.heap.size) rfl rfl HO1.out HM.out rfl (List.length_append ..) (by have := HL.out; simp; omega) (by have := HT.out.size; simp; omega) ?_)
          intro sp4 cap4 w4 hown hb4 hs4
          have HW := Lib.hid hown
          have T4 := Lib.hid ((HT.out.alloc _).below hb4 (Nat.le_refl _))
          clear hown hb4 hs4
          go_wp2
          go_roundw
          case rel => exact ⟨k + 1, 0, l ++ [x - z - 0], by rfl, by go_num, HW.out, HST.out, HAK.out, T4.out⟩
          case measure => have := HAK.out; simp [intOf]; omega
    · have ta : decide (k < a.length) = false := by simp; omega
      have HAK := Lib.hid ha
      clear ha
      go_wp2
      go_ret
      have hka : k = a.length := by have := HAK.out; omega
      have hlen : b.length ≤ a.length := by
        rcases Nat.lt_or_ge a.length b.length with c | c
        · have := bval_shorter NA.out.dg NB.out.top c
          rw [NA.out.eq, NB.out.eq] at this; omega
        · exact c
      have hs := HS.out
      have hl := HL.out.1
      rw [hka] at hs hl
      have hd := hs.done hlen (by rw [NA.out.eq, NB.out.eq]; exact h)
      rw [NA.out.eq, NB.out.eq] at hd
      exact ⟨sp, l.length, cap, l, rfl, HO.out.toR, HS.out.dg, by omega, by omega, HT.out⟩
end Go.Proofs.Ytagilpgplcphpaa
