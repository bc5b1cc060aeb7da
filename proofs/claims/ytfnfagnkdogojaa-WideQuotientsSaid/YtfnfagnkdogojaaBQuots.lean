/-
  WideQuotients: the walk.
-/
import Derived.Test.YtfnfagnkdogojaaBEven
import Derived.Test.YtfnfagnkdogojaaBSums
namespace Go.Proofs.Ytfnfagnkdogojaa
open Go.RowKit Go.Maps Go.WideMaps

theorem Own2.far2 {w : World} {b p : Nat} {x y : Value} (h : Own2 w b x y) (e : b ≠ p) (u v : Value) : Own2 ((w.setCell ⟨p, 0, none⟩ u).setCell ⟨p, 1, none⟩ v) b x y := (h.far e 0 u).far e 1 v

theorem new_behind (w : World) (b : Nat) (i j : Nat) (u v x y : Value) : Own2 (((w.setCell ⟨b, i, none⟩ u).setCell ⟨b, j, none⟩ v).alloc (.cells #[x, y] 37)) w.heap.size x y := by
  have := Own2.new ((w.setCell ⟨b, i, none⟩ u).setCell ⟨b, j, none⟩ v) x y 37
  simpa using this

/-- two numbers in boxes of their own -/
def TwoMid (w : World) (q r : Int) (p1 p2 : Value) (wc : World) : Prop :=
  ∃ (g1 g2 : Nat) (b1 b2 : Bool) (s1 s2 : Option Addr) (k1 c1 k2 c2 : Nat), p1 = .pointer (some ⟨g1, 0, none⟩) ∧ p2 = .pointer (some ⟨g2, 0, none⟩) ∧ BigAt wc g1 b1 s1 k1 c1 ∧ BigAt wc g2 b2 s2 k2 c2 ∧ BigR wc b1 s1 k1 c1 q ∧ BigR wc b2 s2 k2 c2 r ∧ Only w wc

section
variable {wx w6 : World} {b6 b7 : Bool} {s6 s7 : Option Addr} {k6 c6 k7 c7 : Nat} {q r : Int}
theorem two_F1 (r6 : BigR w6 b6 s6 k6 c6 q) (r7 : BigR w6 b7 s7 k7 c7 r) (T : Only wx w6) :
    TwoMid wx q r (.pointer (some ⟨w6.heap.size, 0, none⟩)) (.pointer (some ⟨w6.heap.size + 1, 0, none⟩)) ((w6.alloc (boxOf b6 s6 k6 c6)).alloc (boxOf b7 s7 k7 c7)) :=
  ⟨_, _, b6, b7, s6, s7, k6, c6, k7, c7, rfl, rfl, (Own2.new _ _ _ _).alloc _, Own2.new1 _ _ _ _ _, r6.only (((Only.refl _).alloc _).alloc _), r7.only (((Only.refl _).alloc _).alloc _), (T.alloc _).alloc _⟩
theorem two_F2 (r6 : BigR w6 b6 s6 k6 c6 q) (r7 : BigR w6 b7 s7 k7 c7 r) (T : Only wx w6) :
    TwoMid wx q r (.pointer (some ⟨w6.heap.size + 1, 0, none⟩)) (.pointer (some ⟨w6.heap.size, 0, none⟩)) ((w6.alloc (boxOf b7 s7 k7 c7)).alloc (boxOf b6 s6 k6 c6)) :=
  ⟨_, _, b6, b7, s6, s7, k6, c6, k7, c7, rfl, rfl, Own2.new1 _ _ _ _ _, (Own2.new _ _ _ _).alloc _, r6.only (((Only.refl _).alloc _).alloc _), r7.only (((Only.refl _).alloc _).alloc _), (T.alloc _).alloc _⟩
theorem two_G1 {X : Nat} (m1 : BigAt w6 X false none 0 0) (hX : wx.heap.size ≤ X) (r6 : BigR w6 b6 s6 k6 c6 q) (r7 : BigR w6 b7 s7 k7 c7 r) (T : Only wx w6) :
    TwoMid wx q r (.pointer (some ⟨X, 0, none⟩)) (.pointer (some ⟨w6.heap.size, 0, none⟩)) (((w6.setCell ⟨X, 0, none⟩ (.bool b6)).setCell ⟨X, 1, none⟩ (.slice s6 k6 c6)).alloc (boxOf b7 s7 k7 c7)) :=
  ⟨_, _, b6, b7, s6, s7, k6, c6, k7, c7, rfl, rfl, (m1.set _ _).alloc _, new_behind _ _ _ _ _ _ _ _, (r6.apart m1 _ _ _ _).only ((Only.refl _).alloc _), (r7.apart m1 _ _ _ _).only ((Only.refl _).alloc _), ((T.set hX 0 _).set hX 1 _).alloc _⟩
theorem two_G2 {X : Nat} (m1 : BigAt w6 X false none 0 0) (hX : wx.heap.size ≤ X) (r6 : BigR w6 b6 s6 k6 c6 q) (r7 : BigR w6 b7 s7 k7 c7 r) (T : Only wx w6) :
    TwoMid wx q r (.pointer (some ⟨w6.heap.size, 0, none⟩)) (.pointer (some ⟨X, 0, none⟩)) (((w6.setCell ⟨X, 0, none⟩ (.bool b7)).setCell ⟨X, 1, none⟩ (.slice s7 k7 c7)).alloc (boxOf b6 s6 k6 c6)) :=
  ⟨_, _, b6, b7, s6, s7, k6, c6, k7, c7, rfl, rfl, new_behind _ _ _ _ _ _ _ _, (m1.set _ _).alloc _, (r6.apart m1 _ _ _ _).only ((Only.refl _).alloc _), (r7.apart m1 _ _ _ _).only ((Only.refl _).alloc _), ((T.set hX 0 _).set hX 1 _).alloc _⟩
theorem two_H {X Y : Nat} (m1 : BigAt w6 X false none 0 0) (m2 : BigAt w6 Y false none 0 0) (hne : X ≠ Y) (hX : wx.heap.size ≤ X) (hY : wx.heap.size ≤ Y) (r6 : BigR w6 b6 s6 k6 c6 q) (r7 : BigR w6 b7 s7 k7 c7 r) (T : Only wx w6) :
    TwoMid wx q r (.pointer (some ⟨X, 0, none⟩)) (.pointer (some ⟨Y, 0, none⟩)) ((((w6.setCell ⟨X, 0, none⟩ (.bool b6)).setCell ⟨X, 1, none⟩ (.slice s6 k6 c6)).setCell ⟨Y, 0, none⟩ (.bool b7)).setCell ⟨Y, 1, none⟩ (.slice s7 k7 c7)) :=
  ⟨_, _, b6, b7, s6, s7, k6, c6, k7, c7, rfl, rfl, (m1.set _ _).far2 hne _ _, (m2.far2 (fun e => hne e.symm) _ _).set _ _, (r6.apart m1 _ _ _ _).apart (m2.far2 (fun e => hne e.symm) _ _) _ _ _ _, (r7.apart m1 _ _ _ _).apart (m2.far2 (fun e => hne e.symm) _ _) _ _ _ _, (((T.set hX 0 _).set hX 1 _).set hY 0 _).set hY 1 _⟩
end

set_option maxRecDepth 100000 in
set_option maxHeartbeats 16000000 in
theorem wideQuotients_walk {a d y z x0 rr k0 : Int} {ah al qh ql nh nl e f : Int} {whole : Bool} (hd : (d == 0) = false)
    (VA : ∀ W, Calls Try.prog 17 #[.agg #[.int .u64 ah, .int .u64 al]] W (BigSays W a))
    (QR : Gives 13 #[.agg #[.int .u64 ah, .int .u64 al], .int .i64 d] (.tuple #[.agg #[.int .u64 qh, .int .u64 ql], .int .i64 rr, .int .i64 e]))
    (DE : Gives 15 #[.agg #[.int .u64 ah, .int .u64 al], .int .i64 d] (.tuple #[.agg #[.int .u64 nh, .int .u64 nl], .int .i64 f]))
    (IS1 : IsYes qh ql e y) (IS2 : IsYes nh nl f x0) (BD : ∀ W, Calls Try.prog 23 #[.int .i64 d] W (BigSays W d))
    (BQ : ∀ W b s k c b' s' k' c', BigR W b s k c a → BigR W b' s' k' c' d → Calls Try.prog 31 #[.agg #[.bool b, .slice s k c], .agg #[.bool b', .slice s' k' c']] W (BigSays2 W y z))
    (BE : ∀ W b s k c b' s' k' c', BigR W b s k c a → BigR W b' s' k' c' d → Calls Try.prog 32 #[.agg #[.bool b, .slice s k c], .agg #[.bool b', .slice s' k' c']] W (BigSays W x0))
    (BI : ∀ W b' s k c, BigR W b' s k c z → Calls Try.prog 28 #[.agg #[.bool b', .slice s k c]] W fun r w' => r = .returned (.tuple #[.int .i64 k0, .bool whole]) ∧ Only W w')
    (hr : (e = 0 ∧ rr = k0) ∨ (e ≠ 0 ∧ rr = 0)) (w : World) :
    Calls Try.prog 5 #[.agg #[.int .u64 ah, .int .u64 al], .int .i64 d] w fun r w' => r = .returned (.bool true) ∧ Only w w' := by
  have VA := Lib.hid VA
  have QR := Lib.hid QR
  have DE := Lib.hid DE
  have IS1 := Lib.hid IS1
  have IS2 := Lib.hid IS2
  have BD := Lib.hid BD
  have BQ := Lib.hid BQ
  have BE := Lib.hid BE
  have BI := Lib.hid BI
  have HR := Lib.hid hr
  clear hr
  have oa := Own2.new w (.int .u64 ah) (.int .u64 al) 24
  have ht := (Only.refl w).alloc (.cells #[.int .u64 ah, .int .u64 al] 24)
  go_enter Try.func5, Try.ntmps5
  -- GEN
  go_wp2_with fail
  go_at_call 9
  refine (first_wide _).mono ?_
  rintro r w1 ⟨rfl, t⟩
  replace oa := (oa.only t)
  replace ht := (ht.trans t)
  clear t
  obtain ⟨av1, av2, av3, av4, av5⟩ := oa.all
  go_wp2_with fail
  go_at_call 13
  refine (QR.out _).mono ?_
  rintro r w2 ⟨rfl, t⟩
  clear av1 av2 av3 av4 av5
  replace oa := (oa.only t).alloc (.cells #[.int .u64 qh, .int .u64 ql] 24)
  replace ht := (ht.trans t).alloc (.cells #[.int .u64 qh, .int .u64 ql] 24)
  have oq : Own2 (w2.alloc (.cells #[.int .u64 qh, .int .u64 ql] 24)) w2.heap.size (.int .u64 qh) (.int .u64 ql) := Own2.new _ _ _ _
  clear t
  obtain ⟨av1, av2, av3, av4, av5⟩ := oa.all
  go_wp2_with fail
  go_at_call 15
  refine (DE.out _).mono ?_
  rintro r w3 ⟨rfl, t⟩
  clear av1 av2 av3 av4 av5
  replace oa := (oa.only t).alloc (.cells #[.int .u64 nh, .int .u64 nl] 24)
  replace oq := (oq.only t).alloc (.cells #[.int .u64 nh, .int .u64 nl] 24)
  replace ht := (ht.trans t).alloc (.cells #[.int .u64 nh, .int .u64 nl] 24)
  have on : Own2 (w3.alloc (.cells #[.int .u64 nh, .int .u64 nl] 24)) w3.heap.size (.int .u64 nh) (.int .u64 nl) := Own2.new _ _ _ _
  clear t
  obtain ⟨av1, av2, av3, av4, av5⟩ := oa.all
  go_wp2_with fail
  go_at_call 17
  refine (VA.out _).mono ?_
  rintro r w4 ⟨bx, sx, kx, cx, rfl, rx, t⟩
  clear av1 av2 av3 av4 av5
  replace oa := (oa.only t).alloc (boxOf bx sx kx cx)
  replace oq := (oq.only t).alloc (boxOf bx sx kx cx)
  replace on := (on.only t).alloc (boxOf bx sx kx cx)
  replace ht := (ht.trans t).alloc (boxOf bx sx kx cx)
  replace rx := rx.only ((Only.refl w4).alloc (boxOf bx sx kx cx))
  have ox : BigAt (w4.alloc (boxOf bx sx kx cx)) w4.heap.size bx sx kx cx := Own2.new _ _ _ _
  clear t
  go_upto_region 7 with (fail)
  refine wp_name (fun wx => Only w wx ∧ Own2 wx w.heap.size (.int .u64 ah) (.int .u64 al) ∧ Own2 wx w2.heap.size (.int .u64 qh) (.int .u64 ql) ∧ Own2 wx w3.heap.size (.int .u64 nh) (.int .u64 nl) ∧ Own2 wx w4.heap.size (.bool bx) (.slice sx kx cx) ∧ BigR wx bx sx kx cx a) ⟨ht, oa, oq, on, ox, rx⟩ ?_
  clear ht oa oq on ox rx
  rintro wx ⟨ht, oa, oq, on, ox, rx⟩
  go_cut [12, 13] (fun p1 p2 wc => TwoMid wx y z p1 p2 wc)
  case first =>
    have qx := ox.drew
    have lx := ox.lt
    obtain ⟨xv1, xv2, xv3, xv4, xv5⟩ := ox.all
    go_region_held3 (fun w' => w'.cell? ⟨w4.heap.size, 0, none⟩ = some (.bool bx) ∧ w'.cell? ⟨w4.heap.size, 1, none⟩ = some (.slice sx kx cx)) (first | with_reducible exact ⟨p6.c0, p6.c1⟩ | with_reducible exact ⟨(p6.alloc _).c0, (p6.alloc _).c1⟩ | with_reducible exact ⟨((p6.alloc _).alloc _).c0, ((p6.alloc _).alloc _).c1⟩ | with_reducible exact ⟨p5.c0, p5.c1⟩ | with_reducible exact ⟨(p5.alloc _).c0, (p5.alloc _).c1⟩ | with_reducible exact ⟨((p5.alloc _).alloc _).c0, ((p5.alloc _).alloc _).c1⟩ | with_reducible exact ⟨qx.c0, qx.c1⟩ | with_reducible exact ⟨(ox.alloc _).drew.c0, (ox.alloc _).drew.c1⟩ | with_reducible exact ⟨((ox.alloc _).alloc _).drew.c0, ((ox.alloc _).alloc _).drew.c1⟩ | with_reducible exact ⟨(p6.far2 (by omega) _ _).c0, (p6.far2 (by omega) _ _).c1⟩ | with_reducible exact ⟨((p6.far2 (by omega) _ _).far2 (by omega) _ _).c0, ((p6.far2 (by omega) _ _).far2 (by omega) _ _).c1⟩ | with_reducible exact ⟨((p6.alloc _).far2 (by omega) _ _).c0, ((p6.alloc _).far2 (by omega) _ _).c1⟩ | with_reducible exact ⟨((p6.far2 (by omega) _ _).alloc _).c0, ((p6.far2 (by omega) _ _).alloc _).c1⟩ | fail) (first | (go_at_call 23; refine (BD.out _).mono ?_; rintro r w5 ⟨b5, s5, k5, c5, rfl, r5, t5⟩; have T5 : Only wx w5 := (by first | exact (Only.refl wx).drew.trans t5 | exact ((Only.refl wx).alloc _).drew.trans t5 | exact (((Only.refl wx).alloc _).alloc _).drew.trans t5 | exact ((Only.refl wx).drew.alloc _).trans t5 | exact (((Only.refl wx).drew.alloc _).alloc _).trans t5 | fail); have y5 := T5.size; have p5 := ox.only T5; (first | (have n2 : BigAt w5 (wx.heap.size + 1) false none 0 0 := (by first | exact (Own2.new1 wx _ (.bool false) (.slice none 0 0) 37).drew.only t5 | exact (Own2.new1 wx.drew _ (.bool false) (.slice none 0 0) 37).only t5 | fail); have n1 : BigAt w5 wx.heap.size false none 0 0 := (by first | exact ((Own2.new wx (.bool false) (.slice none 0 0) 37).alloc _).drew.only t5 | exact ((Own2.new wx.drew (.bool false) (.slice none 0 0) 37).alloc _).only t5 | fail)) | (have n1 : BigAt w5 wx.heap.size false none 0 0 := (by first | exact (Own2.new wx (.bool false) (.slice none 0 0) 37).drew.only t5 | exact (Own2.new wx.drew (.bool false) (.slice none 0 0) 37).only t5 | fail)) | skip)) | (go_at_call 31; (first | refine (BQ.out _ _ _ _ _ _ _ _ _ (rx.only T5) r5).mono ?_ | refine (BQ.out _ _ _ _ _ _ _ _ _ ((rx.only T5).only ((Only.refl _).alloc _)) (r5.only ((Only.refl _).alloc _))).mono ?_ | refine (BQ.out _ _ _ _ _ _ _ _ _ ((rx.only T5).only (((Only.refl _).alloc _).alloc _)) (r5.only (((Only.refl _).alloc _).alloc _))).mono ?_); rintro r w6 ⟨b6, s6, k6, c6, b7, s7, k7, c7, rfl, r6, r7, t6⟩; have T6 : Only w5 w6 := (by first | exact t6 | exact t6.skip | exact t6.skip.skip | fail); have y6 := T6.size; have p6 := p5.only T6; have T7 := T5.trans T6; (first | (have m1 := n1.only T6; have m2 := n2.only T6) | (have m1 := n1.only T6; have m2 : BigAt w6 w5.heap.size false none 0 0 := (Own2.new w5 (.bool false) (.slice none 0 0) 37).only t6; have z1 : ¬ wx.heap.size = w5.heap.size := (by have := n1.lt; omega); have z2 : ¬ w5.heap.size = wx.heap.size := (by have := n1.lt; omega)) | (have m1 := n1.only T6; have z1 : ¬ wx.heap.size = w6.heap.size := (by have := m1.lt; omega); have z2 : ¬ w6.heap.size = wx.heap.size := (by have := m1.lt; omega)) | (have m2 : BigAt w6 (w5.heap.size + 1) false none 0 0 := (Own2.new1 w5 _ (.bool false) (.slice none 0 0) 37).only t6; have m1 : BigAt w6 w5.heap.size false none 0 0 := ((Own2.new w5 (.bool false) (.slice none 0 0) 37).alloc _).only t6) | (have m1 : BigAt w6 w5.heap.size false none 0 0 := (Own2.new w5 (.bool false) (.slice none 0 0) 37).only t6; have z1 : ¬ w5.heap.size = w6.heap.size := (by have := m1.lt; omega); have z2 : ¬ w6.heap.size = w5.heap.size := (by have := m1.lt; omega)) | skip); (first | obtain ⟨u1, u2, u3, u4, u5⟩ := m1.all | skip); (first | obtain ⟨v1, v2, v3, v4, v5⟩ := m2.all | skip)))
    all_goals
      go_wp2_with fail
      go_meet
      first
        | with_reducible exact two_F1 r6 r7 T7
        | with_reducible exact two_F2 r6 r7 T7
        | with_reducible exact two_G1 m1 (by omega) r6 r7 T7
        | with_reducible exact two_G2 m1 (by omega) r6 r7 T7
        | with_reducible exact two_H m1 m2 (by omega) (by omega) (by omega) r6 r7 T7
        | with_reducible exact two_H m2 m1 (by omega) (by omega) (by omega) r6 r7 T7
        | fail
  case rest =>
    obtain ⟨gy, gz, b1', b2', s1', s2', k1', c1', k2', c2', rfl, rfl, oy, oz, ry, rz, T⟩ := hcut
    replace oa := oa.only T
    replace oq := oq.only T
    replace on := on.only T
    replace ox := ox.only T
    replace rx := rx.only T
    replace ht := ht.trans T
    clear T
    obtain ⟨zv1, zv2, zv3, zv4, zv5⟩ := oz.all
    go_wp2_with fail
    go_at_call 28
    refine (BI.out _ _ _ _ _ rz).mono ?_
    rintro r w8 ⟨rfl, t⟩
    clear zv1 zv2 zv3 zv4 zv5
    replace oa := (oa.only t)
    replace oq := (oq.only t)
    replace on := (on.only t)
    replace ox := (ox.only t)
    replace oy := (oy.only t)
    replace oz := (oz.only t)
    replace rx := (rx.only t)
    replace ry := (ry.only t)
    replace rz := (rz.only t)
    replace ht := (ht.trans t)
    clear t
    clear oa oz rz
    go_upto_region 9 with (fail)
    refine wp_name (fun wz => Only w wz ∧ Own2 wz w2.heap.size (.int .u64 qh) (.int .u64 ql) ∧ Own2 wz w3.heap.size (.int .u64 nh) (.int .u64 nl) ∧ Own2 wz w4.heap.size (.bool bx) (.slice sx kx cx) ∧ Own2 wz gy (.bool b1') (.slice s1' k1' c1') ∧ BigR wz bx sx kx cx a ∧ BigR wz b1' s1' k1' c1' y) ⟨ht, oq, on, ox, oy, rx, ry⟩ ?_
    clear ht rx ry oq on ox oy
    rintro wz ⟨ht, oq, on, ox, oy, rx, ry⟩
    go_cut [16] (fun sl wc => sl = .bool true ∧ Only w wc ∧ Own2 wc w3.heap.size (.int .u64 nh) (.int .u64 nl) ∧ Own2 wc w4.heap.size (.bool bx) (.slice sx kx cx) ∧ BigR wc bx sx kx cx a)
    case first =>
      obtain ⟨k1, k2⟩ := oq.cone
      obtain ⟨k3, k4⟩ := oy.cone
      have IQ : ∀ n : Cone wz, Calls Try.prog 19 #[.agg #[.int .u64 qh, .int .u64 ql], .int .i64 e, .agg #[.bool b1', .slice s1' k1' c1']] n.out fun r w' => r = .returned (.bool true) ∧ Only n.out w' := fun n => IS1.out _ _ _ _ _ (ry.only n.only)
      have hr := HR.out
      clear oq oy ry VA QR DE IS1 IS2 BD BQ BE BI HR
      rcases hr with ⟨rfl, rfl⟩ | ⟨he, rfl⟩
      · have te : ((0 : Int) != 0) = false := by rfl
        refine wp_region_cone (by kernel_rfl) (by kernel_rfl) ?_
        repeat (any_goals (first | go_big_quiet_step (first | (go_at_call 11; with_reducible exact Cone.same (num_any _ _)) | (go_at_call 19; with_reducible exact Cone.call (IQ _))) | quiet_step (first | (go_at_call 11; with_reducible exact Cone.same (num_any _ _)) | (go_at_call 19; with_reducible exact Cone.call (IQ _)))))
        refine wpQuiet_nil ?_
        rintro w6 ⟨⟨_, t6⟩, rfl⟩
        go_wp2_with fail
        go_meet
        exact ⟨by simp, ht.trans t6, on.only t6, ox.only t6, rx.only t6⟩
      · have te : (e != 0) = true := by simpa using he
        clear he
        refine wp_region_cone (by kernel_rfl) (by kernel_rfl) ?_
        repeat (any_goals (first | go_big_quiet_step (first | (go_at_call 11; with_reducible exact Cone.same (num_any _ _)) | (go_at_call 19; with_reducible exact Cone.call (IQ _))) | quiet_step (first | (go_at_call 11; with_reducible exact Cone.same (num_any _ _)) | (go_at_call 19; with_reducible exact Cone.call (IQ _)))))
        refine wpQuiet_nil ?_
        rintro w6 ⟨⟨_, t6⟩, rfl⟩
        go_wp2_with fail
        go_meet
        exact ⟨by simp, ht.trans t6, on.only t6, ox.only t6, rx.only t6⟩
    case rest =>
      clear ht rx ry oq on ox oy
      obtain ⟨rfl, ht, on, ox, rx⟩ := hcut
      go_wp2_with fail
      refine wp_name (fun wz => Only w wz ∧ Own2 wz w3.heap.size (.int .u64 nh) (.int .u64 nl) ∧ Own2 wz w4.heap.size (.bool bx) (.slice sx kx cx) ∧ BigR wz bx sx kx cx a) ⟨ht, on, ox, rx⟩ ?_
      clear ht rx on ox
      rintro wz ⟨ht, on, ox, rx⟩
      have T := (Only.refl wz).drew
      have pn := on.drew
      have px := ox.drew
      go_region_held3 (fun w' => w'.cell? ⟨w3.heap.size, 0, none⟩ = some (.int .u64 nh) ∧ w'.cell? ⟨w3.heap.size, 1, none⟩ = some (.int .u64 nl) ∧ w'.cell? ⟨w4.heap.size, 0, none⟩ = some (.bool bx) ∧ w'.cell? ⟨w4.heap.size, 1, none⟩ = some (.slice sx kx cx)) ((with_reducible exact ⟨pn.c0, pn.c1, px.c0, px.c1⟩)) (first | (go_at_call 11; refine (num_any _ _).mono ?_; rintro r w9 ⟨rfl, rfl⟩) | (go_at_call 23; refine (BD.out _).mono ?_; rintro r w9 ⟨b9, s9, k9, c9, rfl, r9, t9⟩; have T := T.trans t9; have pn := pn.only t9; have px := px.only t9) | (go_at_call 32; refine (BE.out _ _ _ _ _ _ _ _ _ (rx.only T) r9).mono ?_; rintro r w9 ⟨b9, s9, k9, c9, rfl, r9, t9⟩; have T := T.trans t9; have pn := pn.only t9; have px := px.only t9) | (go_at_call 19; (with_reducible refine (IS2.out _ _ _ _ _ ?_).mono ?_); (exact r9); rintro r w9 ⟨rfl, t9⟩; have T := T.trans t9; have pn := pn.only t9; have px := px.only t9))
      clear pn px
      have HT := Lib.hid (ht.trans T)
      clear T t9
      go_wp2
      go_ret
      exact ⟨by simp, HT.out⟩
end Go.Proofs.Ytfnfagnkdogojaa
