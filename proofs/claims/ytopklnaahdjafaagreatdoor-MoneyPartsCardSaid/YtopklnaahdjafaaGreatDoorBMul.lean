/-
  Products.
-/
import Derived.Test.YtopklnaahdjafaaGreatDoorGBm
namespace Go.Proofs.YtopklnaahdjafaaGreatDoor
open Go.RowKit Go.Maps Go.WideMaps

/-- the boxes of a product, and its row -/
structure MulAt (w wr : World) (b1 b2 : Bool) (s1 s2 : Option Addr) (k1 c1 k2 c2 : Nat) (d : List Nat) : Prop where
  x : BigAt wr w.heap.size b1 s1 k1 c1
  y : BigAt wr (w.heap.size + 1) b2 s2 k2 c2
  r : BigAt wr (w.heap.size + 1 + 1) false none 0 0
  d : RowAt wr (w.heap.size + 1 + 1 + 1) d
  t : Only w wr

theorem MulAt.set {w wr : World} {b1 b2 : Bool} {s1 s2 : Option Addr} {k1 c1 k2 c2 : Nat} {d : List Nat} (h : MulAt w wr b1 b2 s1 s2 k1 c1 k2 c2 d) (j : Nat) {e : Int} {z : Nat} (he : e = z) :
    MulAt w (wr.setCell ⟨w.heap.size + 1 + 1 + 1, j, none⟩ (.int .i64 e)) b1 b2 s1 s2 k1 c1 k2 c2 (d.set j z) :=
  ⟨h.x.far (by omega) _ _, h.y.far (by omega) _ _, h.r.far (by omega) _ _, h.d.set j he, h.t.set (by omega) _ _⟩
theorem MulAt.drewN {w wr : World} {b1 b2 : Bool} {s1 s2 : Option Addr} {k1 c1 k2 c2 : Nat} {d : List Nat} (h : MulAt w wr b1 b2 s1 s2 k1 c1 k2 c2 d) (n : Nat) : MulAt w (wr.drewN n) b1 b2 s1 s2 k1 c1 k2 c2 d :=
  ⟨h.x, h.y, h.r, h.d, h.t.drewNB n⟩
theorem MulAt.start (w : World) (b1 b2 : Bool) (s1 s2 : Option Addr) (k1 c1 k2 c2 n : Nat) :
    MulAt w ((((w.alloc (boxOf b1 s1 k1 c1)).alloc (boxOf b2 s2 k2 c2)).alloc box0).alloc (.cells (madeCells #[.int .i64 0] n) 3)) b1 b2 s1 s2 k1 c1 k2 c2 (List.replicate n 0) := by
  obtain ⟨ht, o1, o2, o3⟩ := boxes3 w b1 b2 s1 s2 k1 c1 k2 c2
  refine ⟨o1.alloc _, o2.alloc _, o3.alloc _, ?_, ht.alloc _⟩
  have := RowAt.made (((w.alloc (boxOf b1 s1 k1 c1)).alloc (boxOf b2 s2 k2 c2)).alloc box0) n
  simpa using this

theorem take_digit {l : List Nat} {j : Nat} (h : j < l.length) : bval (l.take (j + 1)) = bval (l.take j) + 10000 ^ j * l[j] := by
  rw [List.take_succ_eq_append_getElem h, bval_snoc, List.length_take, Nat.min_eq_left (by omega)]
theorem take_beyond {l : List Nat} {j : Nat} (h : l.length ≤ j) : bval (l.take (j + 1)) = bval (l.take j) + 10000 ^ j * 0 := by
  rw [List.take_of_length_le (by omega), List.take_of_length_le h]; simp

set_option maxRecDepth 100000 in
set_option maxHeartbeats 6400000 in
theorem bigMul_walk {b1 b2 : Bool} {s1 s2 : Option Addr} {c1 c2 : Nat} {a b : List Nat} {w : World} (h1 : NatsR w (.slice s1 a.length c1) a) (h2 : NatsR w (.slice s2 b.length c2) b) (g1 : Dg a) (g2 : Dg b) (l1 : a.length ≤ 20000) (l2 : b.length ≤ 20000) :
    Calls Tryz.prog 12 #[.agg #[.bool b1, .slice s1 a.length c1], .agg #[.bool b2, .slice s2 b.length c2]] w (BigSays w (sgn (b1 != b2) (bval a * bval b))) := by
  obtain ⟨sp1, cap1, e1, -, -, a5⟩ := h1.form
  obtain ⟨sp2, cap2, e2, -, -, b5⟩ := h2.form
  simp only [Value.slice.injEq] at e1 e2
  obtain ⟨rfl, -, rfl⟩ := e1
  obtain ⟨rfl, -, rfl⟩ := e2
  have HA := Lib.hid a5
  have HB := Lib.hid b5
  have GA := Lib.hid g1
  have GB := Lib.hid g2
  have M0 := Lib.hid (MulAt.start w b1 b2 s1 s2 a.length c1 b.length c2 (a.length + b.length + 1))
  have la : (a.length : Int) ≤ 20000 := by omega
  have lb : (b.length : Int) ≤ 20000 := by omega
  have hmk := make_row (e := (a.length : Int) + (b.length : Int) + 1) (n := a.length + b.length + 1) (by omega) (by omega)
  clear h1 h2 a5 b5 g1 g2
  go_enter Tryz.func12, Tryz.ntmps12
  go_wp2_with fail
  go_loopw [6] (fun i wr => ∃ (k : Nat) (d : List Nat), i = .int .i64 k ∧ k ≤ a.length ∧ MulAt w wr b1 b2 s1 s2 a.length c1 b.length c2 d ∧ Rows_ a b d k) (fun i _ => a.length - (intOf i).toNat)
  case atStart => exact ⟨0, _, rfl, Nat.zero_le _, M0.out, Rows_.start a b⟩
  case round =>
    obtain ⟨k, d0, rfl, hk, hm0, hr0⟩ := hrel
    obtain ⟨x1, x2, x3, x4, x5⟩ := hm0.x.all
    obtain ⟨y1, y2, y3, y4, y5⟩ := hm0.y.all
    have HM0 := Lib.hid hm0
    have HR0 := Lib.hid hr0
    clear hm0 hr0
    by_cases ha : k < a.length
    · have ta : decide (k < a.length) = true := by simpa using ha
      go_wp2_with fail
      obtain ⟨wo, rfl⟩ : ∃ wo : World, wo = wr := ⟨_, rfl⟩
      go_loopw [7, 8] (fun c q wr => ∃ (z j : Nat) (d : List Nat), c = .int .i64 z ∧ q = .int .i64 j ∧ MulAt w wr b1 b2 s1 s2 a.length c1 b.length c2 d ∧ MRow a b d k j z a[k]) (fun _ q _ => b.length + 2 - (intOf q).toNat)
      case atStart => exact ⟨0, 0, d0, rfl, rfl, HM0.out, HR0.out.row _⟩
      case round =>
        clear x1 x2 x3 x4 x5 y1 y2 y3 y4 y5
        obtain ⟨z, j, d, rfl, rfl, hm, hr⟩ := hrel
        obtain ⟨x1, x2, x3, x4, x5⟩ := hm.x.all
        obtain ⟨y1, y2, y3, y4, y5⟩ := hm.y.all
        by_cases hb : j < b.length
        · have tb : decide (j < b.length) = true := by simpa using hb
          obtain ⟨g2, e2, v2⟩ := HB.out j b[j] (List.getElem?_eq_getElem hb)
          obtain ⟨g1, e1, v1⟩ := HA.out k a[k] (List.getElem?_eq_getElem ha)
          subst e1; subst e2
          replace v1 := hm.t.cell v1
          replace v2 := hm.t.cell v2
          unfold dgV at v1 v2
          have hy := take_digit hb
          have ly := GB.out.at_ hb
          have lx := GA.out.at_ ha
          obtain ⟨y, ey⟩ : ∃ y, y = b[j] := ⟨_, rfl⟩
          obtain ⟨x, ex⟩ : ∃ x, x = a[k] := ⟨_, rfl⟩
          rw [← ey] at v2 hy ly
          rw [← ex] at v1 lx hr
          clear ey
          have hin := (ex ▸ hr).inside ha GA.out GB.out (Or.inl hb)
          have hcell := hm.d.cell hin.1
          have hfree := hm.d.free (k + j)
          have hlen := hr.len
          have hzb := hr.carry
          have hu := hr.dg.at_ hin.1
          obtain ⟨u, eu⟩ : ∃ u, u = d[k + j] := ⟨_, rfl⟩
          rw [← eu] at hcell hu
          obtain ⟨p, ep⟩ : ∃ p, p = x * y := ⟨_, rfl⟩
          have hpl : p ≤ 99980001 := by rw [ep]; exact Nat.mul_le_mul (show x ≤ 9999 by omega) (show y ≤ 9999 by omega)
          have hxy : (x : Int) * (y : Int) = (p : Int) := by rw [ep]; exact (Int.natCast_mul x y).symm
          have w1 : IntKind.i64.wrap ((x : Int) * (y : Int)) = (p : Int) := by rw [hxy, IntKind.wrap_i64]; omega
          have w2 : IntKind.i64.wrap ((u : Int) + (z : Int) + (p : Int)) = (u : Int) + (z : Int) + (p : Int) := by rw [IntKind.wrap_i64]; omega
          have hnx := hr.next (y := y) (z := u + z + p) hin.1 lx hy ly (by rw [← eu, ← ep])
          have HS := Lib.hid (fun (W : World) (hW : MulAt w W b1 b2 (some ⟨g1, 0, none⟩) (some ⟨g2, 0, none⟩) a.length c1 b.length c2 d) => hW.set (k + j) (e := ((u : Int) + (z : Int) + (p : Int)) % 10000) (z := (u + z + p) % 10000) (by omega))
          have HNX := Lib.hid hnx
          have HIN := Lib.hid hin.2
          have iu : (u : Int) ≤ 9999 := by omega
          have iz : (z : Int) ≤ 9999 := by omega
          have ip : (p : Int) ≤ 99980001 := by omega
          have ij : (j : Int) < (b.length : Int) := by omega
          have ik : (k : Int) < (a.length : Int) := by omega
          have HXY := Lib.hid hxy
          have hkj : (k : Int) + (j : Int) < (a.length : Int) + (b.length : Int) + 1 := by have := hin.1; omega
          have hkj2 : k + j < a.length + b.length + 1 := by have := hin.1; omega
          have HM := Lib.hid hm
          have HXC := Lib.hid ex
          clear hnx hy hin hlen hzb hu eu hr lx hm ex ep ly hxy
          go_wp2_with fail
          go_quiet (fail)
          go_wp2_with fail
          go_roundw
          case rel => exact ⟨(u + z + p) / 10000, j + 1, d.set (k + j) ((u + z + p) % 10000), by congr 1, by go_num, (by first | exact (HS.out _ HM.out).drewN _ | exact HS.out _ (HM.out.drewN _) | exact HS.out _ HM.out), by have h := HNX.out; rw [HXC.out] at h; exact h⟩
          case measure => have := HIN.out; simp [intOf]; omega
        · by_cases hz : 0 < z
          · have tb : decide (j < b.length) = false := by simp; omega
            have tz : decide (0 < z) = true := by simpa using hz
            have tz2 : decide ((0 : Int) < (z : Int)) = true := by simp; omega
            have hy := take_beyond (l := b) (j := j) (by omega)
            obtain ⟨x, ex⟩ : ∃ x, x = a[k] := ⟨_, rfl⟩
            have lx := GA.out.at_ ha
            rw [← ex] at hr lx
            have hin := (ex ▸ hr).inside ha GA.out GB.out (Or.inr hz)
            have hcell := hm.d.cell hin.1
            have hfree := hm.d.free (k + j)
            have hlen := hr.len
            have hzb := hr.carry
            have hu := hr.dg.at_ hin.1
            obtain ⟨u, eu⟩ : ∃ u, u = d[k + j] := ⟨_, rfl⟩
            rw [← eu] at hcell hu
            have hnx := hr.next (y := 0) (z := u + z) hin.1 lx hy (by decide) (by rw [← eu]; simp)
            have HS := Lib.hid (fun (W : World) (hW : MulAt w W b1 b2 s1 s2 a.length c1 b.length c2 d) => hW.set (k + j) (e := ((u : Int) + (z : Int)) % 10000) (z := (u + z) % 10000) (by omega))
            have HNX := Lib.hid hnx
            have HIN := Lib.hid hin.2
            have iu : (u : Int) ≤ 9999 := by omega
            have iz : (z : Int) ≤ 9999 := by omega
            have hkj : (k : Int) + (j : Int) < (a.length : Int) + (b.length : Int) + 1 := by have := hin.1; omega
            have hkj2 : k + j < a.length + b.length + 1 := by have := hin.1; omega
            have HM := Lib.hid hm
            have HXC := Lib.hid ex
            clear hnx hy hin hlen hzb hu eu hr lx hm ex
            go_wp2_with fail
            go_roundw
            case rel => exact ⟨(u + z) / 10000, j + 1, d.set (k + j) ((u + z) % 10000), by congr 1, by go_num, (by first | exact (HS.out _ HM.out).drewN _ | exact HS.out _ (HM.out.drewN _) | exact HS.out _ HM.out), by have h := HNX.out; rw [HXC.out] at h; exact h⟩
            case measure => have := HIN.out; simp [intOf]; omega
          · have tb : decide (j < b.length) = false := by simp; omega
            have tz : decide (0 < z) = false := by simp; omega
            have tz2 : decide ((0 : Int) < (z : Int)) = false := by simp; omega
            have hr' := hr
            rw [show z = 0 by omega] at hr'
            have HD := Lib.hid (hr'.done ha (by omega))
            have HM := Lib.hid hm
            have HA2 := Lib.hid ha
            clear hr hr' hm hb hz
            go_wp2_with fail
            go_roundw
            case rel => exact ⟨k + 1, d, by go_num, HA2.out, HM.out, HD.out⟩
            case measure => simp [intOf]; omega
    · have ta : decide (k < a.length) = false := by simp; omega
      have hka : k = a.length := by omega
      have HK := Lib.hid hka
      clear hka ha
      go_wp2_with fail
      have hd := HR0.out
      rw [HK.out] at hd
      go_at_call 49
      refine (trim_any (HM0.out.d.toR' hd.len (by omega)) hd.dg (by have := hd.len; omega)).mono ?_
      rintro r w4 ⟨b6, s6, k6, c6, rfl, hb6, t4⟩
      rw [hd.done] at hb6
      have p3 := HM0.out.r.only t4
      have p5 := HM0.out.t.trans t4
      obtain ⟨g1, g2, g3, g4, g5⟩ := p3.all
      have HB := Lib.hid (hb6.apart p3 b6 s6 k6 c6)
      have HT := Lib.hid ((p5.set (p := w.heap.size + 1 + 1) (by omega) 0 (.bool b6)).set (p := w.heap.size + 1 + 1) (by omega) 1 (.slice s6 k6 c6))
      clear p3 p5 hb6 t4 hd x1 x2 x3 x4 x5 y1 y2 y3 y4 y5
      go_wp2
      simp [bodyPost, results, Tryz.results12, go_sem, World.cell?_setCell_other, g1, g2]
      exact ⟨b6, s6, k6, c6, rfl, HB.out, HT.out⟩

theorem bigMul_any {b1 b2 : Bool} {s1 s2 : Option Addr} {k1 c1 k2 c2 : Nat} {n m : Int} {w : World} (h1 : BigR w b1 s1 k1 c1 n) (h2 : BigR w b2 s2 k2 c2 m) (l1 : Lim n 20000) (l2 : Lim m 20000) :
    Calls Tryz.prog 12 #[.agg #[.bool b1, .slice s1 k1 c1], .agg #[.bool b2, .slice s2 k2 c2]] w (BigSays w (n * m)) := by
  obtain ⟨rfl, l, r1, g1⟩ := h1
  obtain ⟨rfl, m', r2, g2⟩ := h2
  obtain ⟨sp1, cap1, e1, -, -, -⟩ := r1.form
  obtain ⟨sp2, cap2, e2, -, -, -⟩ := r2.form
  simp only [Value.slice.injEq] at e1 e2
  obtain ⟨-, rfl, -⟩ := e1
  obtain ⟨-, rfl, -⟩ := e2
  have h := bigMul_walk (b1 := decide (n < 0)) (b2 := decide (m < 0)) r1 r2 g1.dg g2.dg (g1.len l1) (g2.len l2)
  rw [g1.eq, g2.eq, ← Int.natAbs_mul] at h
  have e : sgn (decide (n < 0) != decide (m < 0)) (n * m).natAbs = n * m := by
    have hn : (n.natAbs : Int) = if n < 0 then -n else n := by split <;> omega
    have hm : (m.natAbs : Int) = if m < 0 then -m else m := by split <;> omega
    rw [Int.natAbs_mul]
    unfold sgn
    rw [Int.natCast_mul, hn, hm]
    by_cases c1 : n < 0 <;> by_cases c2 : m < 0 <;> simp [c1, c2, Int.neg_mul, Int.mul_neg]
  rw [e] at h
  exact h
end Go.Proofs.YtopklnaahdjafaaGreatDoor
