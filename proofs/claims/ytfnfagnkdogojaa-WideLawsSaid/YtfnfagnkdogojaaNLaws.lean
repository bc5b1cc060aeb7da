/-
  WideLaws: the walk (by gen_widelaws.py).
-/
import Derived.Test.YtfnfagnkdogojaaNOrder
import Derived.Deep.DeepCutAuto
import Derived.Deep.RegionHeld3
namespace Go.Proofs.Ytfnfagnkdogojaa
open Go.RowKit Go.Shelf
set_option linter.unusedVariables false

abbrev MulIIs (v : Value) (n : Int) (x : Value) (k : Int) : Prop := ∀ w, Calls Try.prog 12 #[v, .int .i64 n] w fun e w' => e = .returned (.tuple #[x, .int .i64 k]) ∧ Only w w'
abbrev QuoIs (v : Value) (n : Int) (x : Value) (r k : Int) : Prop := ∀ w, Calls Try.prog 13 #[v, .int .i64 n] w fun e w' => e = .returned (.tuple #[x, .int .i64 r, .int .i64 k]) ∧ Only w w'
abbrev EvenIs (v : Value) (n : Int) (x : Value) (k : Int) : Prop := ∀ w, Calls Try.prog 15 #[v, .int .i64 n] w fun e w' => e = .returned (.tuple #[x, .int .i64 k]) ∧ Only w w'

set_option maxRecDepth 100000 in
set_option maxHeartbeats 32000000 in
theorem wideLaws_walk {ah al bh bl ch cl xh xl lh ll rh rl ph pl qh ql sh sl uh ul wh wl fh fl nh nl th tl mh ml : Int} {n d e g h i j k v rest aa tt : Int} {ez hz iz jz kz vb ab : Bool}
    (A1 : AddsIs (.agg #[.int .u64 ah, .int .u64 al]) (.agg #[.int .u64 bh, .int .u64 bl]) (.agg #[.int .u64 xh, .int .u64 xl]) e) (A2 : AddsIs (.agg #[.int .u64 bh, .int .u64 bl]) (.agg #[.int .u64 ah, .int .u64 al]) (.agg #[.int .u64 xh, .int .u64 xl]) e) (A3 : AddsIs (.agg #[.int .u64 xh, .int .u64 xl]) (.agg #[.int .u64 ch, .int .u64 cl]) (.agg #[.int .u64 lh, .int .u64 ll]) g) (A4 : AddsIs (.agg #[.int .u64 bh, .int .u64 bl]) (.agg #[.int .u64 ch, .int .u64 cl]) (.agg #[.int .u64 rh, .int .u64 rl]) h)
    (he : (e == 0) = ez) (hh : (h == 0) = hz) (A5 : Hid (ez = true ∧ hz = true → AddsIs (.agg #[.int .u64 ah, .int .u64 al]) (.agg #[.int .u64 rh, .int .u64 rl]) (.agg #[.int .u64 lh, .int .u64 ll]) g))
    (M1 : MulIIs (.agg #[.int .u64 ah, .int .u64 al]) n (.agg #[.int .u64 ph, .int .u64 pl]) i) (M2 : MulIIs (.agg #[.int .u64 bh, .int .u64 bl]) n (.agg #[.int .u64 qh, .int .u64 ql]) j) (M3 : MulIIs (.agg #[.int .u64 xh, .int .u64 xl]) n (.agg #[.int .u64 sh, .int .u64 sl]) k) (hi : (i == 0) = iz) (hj : (j == 0) = jz) (hk : (k == 0) = kz)
    (A6 : Hid ((ez = true ∧ iz = true) ∧ (jz = true ∧ kz = true) → AddsIs (.agg #[.int .u64 ph, .int .u64 pl]) (.agg #[.int .u64 qh, .int .u64 ql]) (.agg #[.int .u64 sh, .int .u64 sl]) 0))
    (QR : QuoIs (.agg #[.int .u64 ah, .int .u64 al]) d (.agg #[.int .u64 uh, .int .u64 ul]) rest v) (hv : (v != 0) = vb)
    (HV : Hid (vb = false → MulIIs (.agg #[.int .u64 uh, .int .u64 ul]) d (.agg #[.int .u64 wh, .int .u64 wl]) 0 ∧ AddsIs (.agg #[.int .u64 wh, .int .u64 wl]) (.agg #[.int .u64 fh, .int .u64 fl]) (.agg #[.int .u64 ah, .int .u64 al]) 0 ∧ FromIs rest (.agg #[.int .u64 fh, .int .u64 fl]) ∧ EvenIs (.agg #[.int .u64 ah, .int .u64 al]) d (.agg #[.int .u64 nh, .int .u64 nl]) aa)) (ha : (aa != 0) = ab)
    (HA : Hid (ab = false → SubIs (.agg #[.int .u64 nh, .int .u64 nl]) (.agg #[.int .u64 uh, .int .u64 ul]) (.agg #[.int .u64 th, .int .u64 tl]) tt ∧ ((th = 0 ∧ tl = 0) ∨ (th = 0 ∧ tl = 1) ∨ (th = mh ∧ tl = ml)) ∧ FromIs 1 (.agg #[.int .u64 0, .int .u64 1]) ∧ FromIs (-1) (.agg #[.int .u64 mh, .int .u64 ml]) ∧ mh ≠ 0)) (w : World) :
    Calls Try.prog 3 #[.agg #[.int .u64 ah, .int .u64 al], .agg #[.int .u64 bh, .int .u64 bl], .agg #[.int .u64 ch, .int .u64 cl], .int .i64 n, .int .i64 d] w fun r w' => r = .returned (.bool true) ∧ Only w w' := by
  go_enter Try.func3, Try.ntmps3
  go_wp2_with fail
  go_at_call 9
  refine (first_wide _).mono ?_
  rintro r w1 ⟨rfl, t⟩
  have oa := (((Own2.new w (.int .u64 ah) (.int .u64 al) 24).alloc (.cells #[.int .u64 bh, .int .u64 bl] 24)).alloc (.cells #[.int .u64 ch, .int .u64 cl] 24)).only t
  have ob := ((Own2.new1 w (.cells #[.int .u64 ah, .int .u64 al] 24) (.int .u64 bh) (.int .u64 bl) 24).alloc (.cells #[.int .u64 ch, .int .u64 cl] 24)).only t
  have oc := (Own2.new2 w (.cells #[.int .u64 ah, .int .u64 al] 24) (.cells #[.int .u64 bh, .int .u64 bl] 24) (.int .u64 ch) (.int .u64 cl) 24).only t
  have ht := ((((Only.refl w).alloc _).alloc _).alloc _).trans t
  clear t
  obtain ⟨caa, cab, faa, fab, za⟩ := oa.all
  obtain ⟨cba, cbb, fba, fbb, zb⟩ := ob.all
  obtain ⟨cca, ccb, fca, fcb, zc⟩ := oc.all
  go_wp2_with (go_at_call 11; refine (num_any _ _).mono ?_; rintro r wn ⟨rfl, rfl⟩)
  go_at_call 10
  refine (A1 _).mono ?_
  rintro r wd1 ⟨rfl, t⟩
  have oa := (oa.only t).alloc (.cells #[.int .u64 xh, .int .u64 xl] 24)
  have ob := (ob.only t).alloc (.cells #[.int .u64 xh, .int .u64 xl] 24)
  have oc := (oc.only t).alloc (.cells #[.int .u64 xh, .int .u64 xl] 24)
  have ht := (ht.trans t).alloc (.cells #[.int .u64 xh, .int .u64 xl] 24)
  clear t
  clear caa cab faa fab za
  clear cba cbb fba fbb zb
  clear cca ccb fca fcb zc
  have ox := Own2.new wd1 (.int .u64 xh) (.int .u64 xl) 24
  obtain ⟨caa, cab, faa, fab, za⟩ := oa.all
  obtain ⟨cba, cbb, fba, fbb, zb⟩ := ob.all
  obtain ⟨cca, ccb, fca, fcb, zc⟩ := oc.all
  obtain ⟨cxa, cxb, fxa, fxb, zx⟩ := ox.all
  go_wp2_with (go_at_call 11; refine (num_any _ _).mono ?_; rintro r wn ⟨rfl, rfl⟩)
  go_at_call 10
  refine (A2 _).mono ?_
  rintro r wd2 ⟨rfl, t⟩
  have oa := (oa.only t).alloc (.cells #[.int .u64 xh, .int .u64 xl] 24)
  have ob := (ob.only t).alloc (.cells #[.int .u64 xh, .int .u64 xl] 24)
  have oc := (oc.only t).alloc (.cells #[.int .u64 xh, .int .u64 xl] 24)
  have ox := (ox.only t).alloc (.cells #[.int .u64 xh, .int .u64 xl] 24)
  have ht := (ht.trans t).alloc (.cells #[.int .u64 xh, .int .u64 xl] 24)
  clear t
  clear caa cab faa fab za
  clear cba cbb fba fbb zb
  clear cca ccb fca fcb zc
  clear cxa cxb fxa fxb zx
  have oy := Own2.new wd2 (.int .u64 xh) (.int .u64 xl) 24
  obtain ⟨caa, cab, faa, fab, za⟩ := oa.all
  obtain ⟨cba, cbb, fba, fbb, zb⟩ := ob.all
  obtain ⟨cca, ccb, fca, fcb, zc⟩ := oc.all
  obtain ⟨cxa, cxb, fxa, fxb, zx⟩ := ox.all
  obtain ⟨cya, cyb, fya, fyb, zy⟩ := oy.all
  go_wp2_with (go_at_call 11; refine (num_any _ _).mono ?_; rintro r wn ⟨rfl, rfl⟩)
  go_at_call 10
  refine (A3 _).mono ?_
  rintro r wd3 ⟨rfl, t⟩
  have oa := (oa.only t).alloc (.cells #[.int .u64 lh, .int .u64 ll] 24)
  have ob := (ob.only t).alloc (.cells #[.int .u64 lh, .int .u64 ll] 24)
  have oc := (oc.only t).alloc (.cells #[.int .u64 lh, .int .u64 ll] 24)
  have ox := (ox.only t).alloc (.cells #[.int .u64 lh, .int .u64 ll] 24)
  have oy := (oy.only t).alloc (.cells #[.int .u64 lh, .int .u64 ll] 24)
  have ht := (ht.trans t).alloc (.cells #[.int .u64 lh, .int .u64 ll] 24)
  clear t
  clear caa cab faa fab za
  clear cba cbb fba fbb zb
  clear cca ccb fca fcb zc
  clear cxa cxb fxa fxb zx
  clear cya cyb fya fyb zy
  have ol := Own2.new wd3 (.int .u64 lh) (.int .u64 ll) 24
  obtain ⟨caa, cab, faa, fab, za⟩ := oa.all
  obtain ⟨cba, cbb, fba, fbb, zb⟩ := ob.all
  obtain ⟨cca, ccb, fca, fcb, zc⟩ := oc.all
  obtain ⟨cxa, cxb, fxa, fxb, zx⟩ := ox.all
  obtain ⟨cya, cyb, fya, fyb, zy⟩ := oy.all
  obtain ⟨cla, clb, fla, flb, zl⟩ := ol.all
  go_wp2_with (go_at_call 11; refine (num_any _ _).mono ?_; rintro r wn ⟨rfl, rfl⟩)
  go_at_call 10
  refine (A4 _).mono ?_
  rintro r wd4 ⟨rfl, t⟩
  have oa := (oa.only t).alloc (.cells #[.int .u64 rh, .int .u64 rl] 24)
  have ob := (ob.only t).alloc (.cells #[.int .u64 rh, .int .u64 rl] 24)
  have oc := (oc.only t).alloc (.cells #[.int .u64 rh, .int .u64 rl] 24)
  have ox := (ox.only t).alloc (.cells #[.int .u64 rh, .int .u64 rl] 24)
  have oy := (oy.only t).alloc (.cells #[.int .u64 rh, .int .u64 rl] 24)
  have ol := (ol.only t).alloc (.cells #[.int .u64 rh, .int .u64 rl] 24)
  have ht := (ht.trans t).alloc (.cells #[.int .u64 rh, .int .u64 rl] 24)
  clear t
  clear caa cab faa fab za
  clear cba cbb fba fbb zb
  clear cca ccb fca fcb zc
  clear cxa cxb fxa fxb zx
  clear cya cyb fya fyb zy
  clear cla clb fla flb zl
  have or := Own2.new wd4 (.int .u64 rh) (.int .u64 rl) 24
  clear oy
  obtain ⟨caa, cab, faa, fab, za⟩ := oa.all
  obtain ⟨cba, cbb, fba, fbb, zb⟩ := ob.all
  obtain ⟨cca, ccb, fca, fcb, zc⟩ := oc.all
  obtain ⟨cxa, cxb, fxa, fxb, zx⟩ := ox.all
  obtain ⟨cla, clb, fla, flb, zl⟩ := ol.all
  obtain ⟨cra, crb, fra, frb, zr⟩ := or.all
  go_upto_region 8 with (go_at_call 11; refine (num_any _ _).mono ?_; rintro r wn ⟨rfl, rfl⟩)
  go_cut [81] (fun s wc => s = .bool (ez && hz) ∧ Only w wc ∧ Own2 wc (w.heap.size) (.int .u64 ah) (.int .u64 al) ∧ Own2 wc (w.heap.size + 1) (.int .u64 bh) (.int .u64 bl) ∧ Own2 wc (wd1.heap.size) (.int .u64 xh) (.int .u64 xl) ∧ Own2 wc (wd3.heap.size) (.int .u64 lh) (.int .u64 ll) ∧ Own2 wc (wd4.heap.size) (.int .u64 rh) (.int .u64 rl))
  case first =>
    as_aux_lemma =>
      cases ez <;> cases hz
      all_goals (as_aux_lemma => (go_wp2_with (go_at_call 11; refine (num_any _ _).mono ?_; rintro r wn ⟨rfl, rfl⟩); go_meet; exact ⟨rfl, ht, oa, ob, ox, ol, or⟩))
  case rest =>
    as_aux_lemma =>
      clear caa cab faa fab za
      clear cba cbb fba fbb zb
      clear cca ccb fca fcb zc
      clear cxa cxb fxa fxb zx
      clear cla clb fla flb zl
      clear cra crb fra frb zr
      clear ht oa ob oc ox ol or
      obtain ⟨rfl, ht, oa, ob, ox, ol, or⟩ := hcut
      obtain ⟨b1, hb1⟩ : ∃ b, b = (ez && hz) := ⟨_, rfl⟩
      have HB1 := Lib.hid (show b1 = true → ez = true ∧ hz = true by rw [hb1]; simp)
      rw [← hb1]
      clear hb1
      go_upto_if 81 with (go_at_call 11; refine (num_any _ _).mono ?_; rintro r wn ⟨rfl, rfl⟩)
      go_cut [] (fun wc => Only w wc ∧ Own2 wc (w.heap.size) (.int .u64 ah) (.int .u64 al) ∧ Own2 wc (w.heap.size + 1) (.int .u64 bh) (.int .u64 bl) ∧ Own2 wc (wd1.heap.size) (.int .u64 xh) (.int .u64 xl))
      case first =>
        as_aux_lemma =>
          cases b1
          · as_aux_lemma =>
              go_wp2_with (go_at_call 11; refine (num_any _ _).mono ?_; rintro r wn ⟨rfl, rfl⟩)
              go_meet
              exact ⟨ht, oa, ob, ox⟩
          · as_aux_lemma =>
              obtain ⟨caa, cab, faa, fab, za⟩ := oa.all
              obtain ⟨cba, cbb, fba, fbb, zb⟩ := ob.all
              obtain ⟨cxa, cxb, fxa, fxb, zx⟩ := ox.all
              obtain ⟨cla, clb, fla, flb, zl⟩ := ol.all
              obtain ⟨cra, crb, fra, frb, zr⟩ := or.all
              go_wp2_with (go_at_call 11; refine (num_any _ _).mono ?_; rintro r wn ⟨rfl, rfl⟩)
              go_at_call 10
              refine (A5.out (by simpa using HB1.out) _).mono ?_
              rintro r wd5 ⟨rfl, t⟩
              have oa := (oa.only t).alloc (.cells #[.int .u64 lh, .int .u64 ll] 24)
              have ob := (ob.only t).alloc (.cells #[.int .u64 lh, .int .u64 ll] 24)
              have ox := (ox.only t).alloc (.cells #[.int .u64 lh, .int .u64 ll] 24)
              have ol := (ol.only t).alloc (.cells #[.int .u64 lh, .int .u64 ll] 24)
              have or := (or.only t).alloc (.cells #[.int .u64 lh, .int .u64 ll] 24)
              have ht := (ht.trans t).alloc (.cells #[.int .u64 lh, .int .u64 ll] 24)
              clear t
              clear caa cab faa fab za
              clear cba cbb fba fbb zb
              clear cxa cxb fxa fxb zx
              clear cla clb fla flb zl
              clear cra crb fra frb zr
              have om := Own2.new wd5 (.int .u64 lh) (.int .u64 ll) 24
              obtain ⟨caa, cab, faa, fab, za⟩ := oa.all
              obtain ⟨cba, cbb, fba, fbb, zb⟩ := ob.all
              obtain ⟨cxa, cxb, fxa, fxb, zx⟩ := ox.all
              obtain ⟨cla, clb, fla, flb, zl⟩ := ol.all
              obtain ⟨cra, crb, fra, frb, zr⟩ := or.all
              obtain ⟨cma, cmb, fma, fmb, zm⟩ := om.all
              go_wp2_with (go_at_call 11; refine (num_any _ _).mono ?_; rintro r wn ⟨rfl, rfl⟩)
              go_meet
              exact ⟨ht, oa, ob, ox⟩
      case rest =>
        as_aux_lemma =>
          clear ht oa ob ox ol or
          obtain ⟨ht, oa, ob, ox⟩ := hcut
          obtain ⟨caa, cab, faa, fab, za⟩ := oa.all
          obtain ⟨cba, cbb, fba, fbb, zb⟩ := ob.all
          obtain ⟨cxa, cxb, fxa, fxb, zx⟩ := ox.all
          go_wp2_with (go_at_call 11; refine (num_any _ _).mono ?_; rintro r wn ⟨rfl, rfl⟩)
          go_at_call 12
          refine (M1 _).mono ?_
          rintro r wd6 ⟨rfl, t⟩
          have oa := (oa.only t).alloc (.cells #[.int .u64 ph, .int .u64 pl] 24)
          have ob := (ob.only t).alloc (.cells #[.int .u64 ph, .int .u64 pl] 24)
          have ox := (ox.only t).alloc (.cells #[.int .u64 ph, .int .u64 pl] 24)
          have ht := (ht.trans t).alloc (.cells #[.int .u64 ph, .int .u64 pl] 24)
          clear t
          clear caa cab faa fab za
          clear cba cbb fba fbb zb
          clear cxa cxb fxa fxb zx
          have op := Own2.new wd6 (.int .u64 ph) (.int .u64 pl) 24
          obtain ⟨caa, cab, faa, fab, za⟩ := oa.all
          obtain ⟨cba, cbb, fba, fbb, zb⟩ := ob.all
          obtain ⟨cxa, cxb, fxa, fxb, zx⟩ := ox.all
          obtain ⟨cpa, cpb, fpa, fpb, zp⟩ := op.all
          go_wp2_with (go_at_call 11; refine (num_any _ _).mono ?_; rintro r wn ⟨rfl, rfl⟩)
          go_at_call 12
          refine (M2 _).mono ?_
          rintro r wd7 ⟨rfl, t⟩
          have oa := (oa.only t).alloc (.cells #[.int .u64 qh, .int .u64 ql] 24)
          have ob := (ob.only t).alloc (.cells #[.int .u64 qh, .int .u64 ql] 24)
          have ox := (ox.only t).alloc (.cells #[.int .u64 qh, .int .u64 ql] 24)
          have op := (op.only t).alloc (.cells #[.int .u64 qh, .int .u64 ql] 24)
          have ht := (ht.trans t).alloc (.cells #[.int .u64 qh, .int .u64 ql] 24)
          clear t
          clear caa cab faa fab za
          clear cba cbb fba fbb zb
          clear cxa cxb fxa fxb zx
          clear cpa cpb fpa fpb zp
          have oq := Own2.new wd7 (.int .u64 qh) (.int .u64 ql) 24
          obtain ⟨caa, cab, faa, fab, za⟩ := oa.all
          obtain ⟨cba, cbb, fba, fbb, zb⟩ := ob.all
          obtain ⟨cxa, cxb, fxa, fxb, zx⟩ := ox.all
          obtain ⟨cpa, cpb, fpa, fpb, zp⟩ := op.all
          obtain ⟨cqa, cqb, fqa, fqb, zq⟩ := oq.all
          go_wp2_with (go_at_call 11; refine (num_any _ _).mono ?_; rintro r wn ⟨rfl, rfl⟩)
          go_at_call 12
          refine (M3 _).mono ?_
          rintro r wd8 ⟨rfl, t⟩
          have oa := (oa.only t).alloc (.cells #[.int .u64 sh, .int .u64 sl] 24)
          have ob := (ob.only t).alloc (.cells #[.int .u64 sh, .int .u64 sl] 24)
          have ox := (ox.only t).alloc (.cells #[.int .u64 sh, .int .u64 sl] 24)
          have op := (op.only t).alloc (.cells #[.int .u64 sh, .int .u64 sl] 24)
          have oq := (oq.only t).alloc (.cells #[.int .u64 sh, .int .u64 sl] 24)
          have ht := (ht.trans t).alloc (.cells #[.int .u64 sh, .int .u64 sl] 24)
          clear t
          clear caa cab faa fab za
          clear cba cbb fba fbb zb
          clear cxa cxb fxa fxb zx
          clear cpa cpb fpa fpb zp
          clear cqa cqb fqa fqb zq
          have os := Own2.new wd8 (.int .u64 sh) (.int .u64 sl) 24
          obtain ⟨caa, cab, faa, fab, za⟩ := oa.all
          obtain ⟨cba, cbb, fba, fbb, zb⟩ := ob.all
          obtain ⟨cxa, cxb, fxa, fxb, zx⟩ := ox.all
          obtain ⟨cpa, cpb, fpa, fpb, zp⟩ := op.all
          obtain ⟨cqa, cqb, fqa, fqb, zq⟩ := oq.all
          obtain ⟨csa, csb, fsa, fsb, zs⟩ := os.all
          go_upto_region 15 with (go_at_call 11; refine (num_any _ _).mono ?_; rintro r wn ⟨rfl, rfl⟩)
          go_cut [135] (fun s wc => s = .bool ((ez && iz) && (jz && kz)) ∧ Only w wc ∧ Own2 wc (w.heap.size) (.int .u64 ah) (.int .u64 al) ∧ Own2 wc (wd6.heap.size) (.int .u64 ph) (.int .u64 pl) ∧ Own2 wc (wd7.heap.size) (.int .u64 qh) (.int .u64 ql) ∧ Own2 wc (wd8.heap.size) (.int .u64 sh) (.int .u64 sl))
          case first =>
            as_aux_lemma =>
              cases ez <;> cases iz <;> cases jz <;> cases kz
              all_goals (as_aux_lemma => (go_wp2_with (go_at_call 11; refine (num_any _ _).mono ?_; rintro r wn ⟨rfl, rfl⟩); go_meet; exact ⟨rfl, ht, oa, op, oq, os⟩))
          case rest =>
            as_aux_lemma =>
              clear caa cab faa fab za
              clear cba cbb fba fbb zb
              clear cxa cxb fxa fxb zx
              clear cpa cpb fpa fpb zp
              clear cqa cqb fqa fqb zq
              clear csa csb fsa fsb zs
              clear ht oa ob ox op oq os
              obtain ⟨rfl, ht, oa, op, oq, os⟩ := hcut
              obtain ⟨b2, hb2⟩ : ∃ b, b = ((ez && iz) && (jz && kz)) := ⟨_, rfl⟩
              have HB2 := Lib.hid (show b2 = true → ((ez = true ∧ iz = true) ∧ (jz = true ∧ kz = true)) by rw [hb2]; simp)
              rw [← hb2]
              clear hb2
              go_upto_if 135 with (go_at_call 11; refine (num_any _ _).mono ?_; rintro r wn ⟨rfl, rfl⟩)
              go_cut [] (fun wc => Only w wc ∧ Own2 wc (w.heap.size) (.int .u64 ah) (.int .u64 al))
              case first =>
                as_aux_lemma =>
                  cases b2
                  · as_aux_lemma =>
                      go_wp2_with (go_at_call 11; refine (num_any _ _).mono ?_; rintro r wn ⟨rfl, rfl⟩)
                      go_meet
                      exact ⟨ht, oa⟩
                  · as_aux_lemma =>
                      obtain ⟨caa, cab, faa, fab, za⟩ := oa.all
                      obtain ⟨cpa, cpb, fpa, fpb, zp⟩ := op.all
                      obtain ⟨cqa, cqb, fqa, fqb, zq⟩ := oq.all
                      obtain ⟨csa, csb, fsa, fsb, zs⟩ := os.all
                      go_wp2_with (go_at_call 11; refine (num_any _ _).mono ?_; rintro r wn ⟨rfl, rfl⟩)
                      go_at_call 10
                      refine (A6.out (by simpa using HB2.out) _).mono ?_
                      rintro r wd9 ⟨rfl, t⟩
                      have oa := (oa.only t).alloc (.cells #[.int .u64 sh, .int .u64 sl] 24)
                      have op := (op.only t).alloc (.cells #[.int .u64 sh, .int .u64 sl] 24)
                      have oq := (oq.only t).alloc (.cells #[.int .u64 sh, .int .u64 sl] 24)
                      have os := (os.only t).alloc (.cells #[.int .u64 sh, .int .u64 sl] 24)
                      have ht := (ht.trans t).alloc (.cells #[.int .u64 sh, .int .u64 sl] 24)
                      clear t
                      clear caa cab faa fab za
                      clear cpa cpb fpa fpb zp
                      clear cqa cqb fqa fqb zq
                      clear csa csb fsa fsb zs
                      have ot := Own2.new wd9 (.int .u64 sh) (.int .u64 sl) 24
                      obtain ⟨caa, cab, faa, fab, za⟩ := oa.all
                      obtain ⟨cpa, cpb, fpa, fpb, zp⟩ := op.all
                      obtain ⟨cqa, cqb, fqa, fqb, zq⟩ := oq.all
                      obtain ⟨csa, csb, fsa, fsb, zs⟩ := os.all
                      obtain ⟨cta, ctb, fta, ftb, zt⟩ := ot.all
                      go_wp2_with (go_at_call 11; refine (num_any _ _).mono ?_; rintro r wn ⟨rfl, rfl⟩)
                      go_meet
                      exact ⟨ht, oa⟩
              case rest =>
                as_aux_lemma =>
                  clear ht oa op oq os
                  obtain ⟨ht, oa⟩ := hcut
                  obtain ⟨caa, cab, faa, fab, za⟩ := oa.all
                  go_wp2_with (go_at_call 11; refine (num_any _ _).mono ?_; rintro r wn ⟨rfl, rfl⟩)
                  go_at_call 13
                  refine (QR _).mono ?_
                  rintro r wd10 ⟨rfl, t⟩
                  have oa := (oa.only t).alloc (.cells #[.int .u64 uh, .int .u64 ul] 24)
                  have ht := (ht.trans t).alloc (.cells #[.int .u64 uh, .int .u64 ul] 24)
                  clear t
                  clear caa cab faa fab za
                  have ou := Own2.new wd10 (.int .u64 uh) (.int .u64 ul) 24
                  cases vb
                  rotate_left
                  · as_aux_lemma =>
                      obtain ⟨caa, cab, faa, fab, za⟩ := oa.all
                      obtain ⟨cua, cub, fua, fub, zu⟩ := ou.all
                      go_wp2_with (go_at_call 11; refine (num_any _ _).mono ?_; rintro r wn ⟨rfl, rfl⟩)
                      go_ret
                      exact ⟨by simp, ht⟩
                  · as_aux_lemma =>
                      obtain ⟨MU, AW, FR, DE⟩ := HV.out rfl
                      obtain ⟨caa, cab, faa, fab, za⟩ := oa.all
                      obtain ⟨cua, cub, fua, fub, zu⟩ := ou.all
                      go_wp2_with (go_at_call 11; refine (num_any _ _).mono ?_; rintro r wn ⟨rfl, rfl⟩)
                      go_at_call 12
                      refine (MU _).mono ?_
                      rintro r wd11 ⟨rfl, t⟩
                      have oa := (oa.only t).alloc (.cells #[.int .u64 wh, .int .u64 wl] 24)
                      have ou := (ou.only t).alloc (.cells #[.int .u64 wh, .int .u64 wl] 24)
                      have ht := (ht.trans t).alloc (.cells #[.int .u64 wh, .int .u64 wl] 24)
                      clear t
                      clear caa cab faa fab za
                      clear cua cub fua fub zu
                      have ow := Own2.new wd11 (.int .u64 wh) (.int .u64 wl) 24
                      obtain ⟨caa, cab, faa, fab, za⟩ := oa.all
                      obtain ⟨cua, cub, fua, fub, zu⟩ := ou.all
                      obtain ⟨cwa, cwb, fwa, fwb, zw⟩ := ow.all
                      go_upto_region 23 with (go_at_call 11; refine (num_any _ _).mono ?_; rintro r wn ⟨rfl, rfl⟩)
                      go_cut [35, 36] (fun s35 s36 wc => ∃ g : Nat, s35 = .pointer (some ⟨g, 0, none⟩) ∧ s36 = .int .i64 0 ∧ Only w wc ∧ Own2 wc (w.heap.size) (.int .u64 ah) (.int .u64 al) ∧ Own2 wc (wd10.heap.size) (.int .u64 uh) (.int .u64 ul) ∧ Own2 wc (g) (.int .u64 ah) (.int .u64 al))
                      case first =>
                        as_aux_lemma =>
                          refine wp_name (fun wc => Only w wc ∧ Own2 wc (w.heap.size) (.int .u64 ah) (.int .u64 al) ∧ Own2 wc (wd10.heap.size) (.int .u64 uh) (.int .u64 ul) ∧ Own2 wc (wd11.heap.size) (.int .u64 wh) (.int .u64 wl)) ⟨ht, oa, ou, ow⟩ ?_
                          clear ht oa ou ow
                          rintro wy ⟨h5, h6, h7, h8⟩
                          have l8 := h8.lt
                          have l6 := h6.lt
                          have l7 := h7.lt
                          have q8 := h8.drew
                          go_region_held3 (fun w' => w'.cell? ⟨wd11.heap.size, 0, none⟩ = some (.int .u64 wh) ∧ w'.cell? ⟨wd11.heap.size, 1, none⟩ = some (.int .u64 wl)) (first | exact ⟨q8.c0, q8.c1⟩ | exact ⟨(q8.alloc _).c0, (q8.alloc _).c1⟩ | exact ⟨p8.c0, p8.c1⟩ | exact ⟨(p8.alloc _).c0, (p8.alloc _).c1⟩ | exact ⟨r8.c0, r8.c1⟩ | exact ⟨(r8.alloc _).c0, (r8.alloc _).c1⟩ | exact ⟨((r8.far (by omega) 0 _).far (by omega) 1 _).c0, ((r8.far (by omega) 0 _).far (by omega) 1 _).c1⟩ | fail) (first | (go_at_call 14; refine (FR _).mono ?_; rintro r w3 ⟨rfl, t3⟩; have p8 : Own2 w3 wd11.heap.size (.int .u64 wh) (.int .u64 wl) := (by first | exact q8.only t3 | exact (q8.alloc _).only t3 | fail); have p6 : Own2 w3 w.heap.size (.int .u64 ah) (.int .u64 al) := (by first | exact h6.drew.only t3 | exact (h6.drew.alloc _).only t3 | fail); have p7 : Own2 w3 wd10.heap.size (.int .u64 uh) (.int .u64 ul) := (by first | exact h7.drew.only t3 | exact (h7.drew.alloc _).only t3 | fail); have p5 : Only w w3 := (by first | exact h5.drew.trans t3 | exact (h5.drew.alloc _).trans t3 | fail); have l83 := p8.lt; have l63 := p6.lt; have l73 := p7.lt; first | have n3 : Own2 w3 wy.heap.size (.int .u64 0) (.int .u64 0) := (Own2.new wy.drew (.int .u64 0) (.int .u64 0) 24).only t3 | skip) | (go_at_call 10; refine (AW _).mono ?_; rintro r w4 ⟨rfl, t4⟩; have r8 : Own2 w4 wd11.heap.size (.int .u64 wh) (.int .u64 wl) := (by first | exact p8.only t4 | exact (p8.alloc _).only t4 | fail); have r6 : Own2 w4 w.heap.size (.int .u64 ah) (.int .u64 al) := (by first | exact p6.only t4 | exact (p6.alloc _).only t4 | fail); have r7 : Own2 w4 wd10.heap.size (.int .u64 uh) (.int .u64 ul) := (by first | exact p7.only t4 | exact (p7.alloc _).only t4 | fail); have r5 : Only w w4 := (by first | exact p5.trans t4 | exact (p5.alloc _).trans t4 | fail); first | (have n4a := (n3.only t4).c0; have n4b := (n3.only t4).c1; have n4c := (n3.only t4).f0; have n4d := (n3.only t4).f1; have n4e := (n3.only t4).lt) | (have n4a := ((Own2.new w3 (.int .u64 0) (.int .u64 0) 24).only t4).c0; have n4b := ((Own2.new w3 (.int .u64 0) (.int .u64 0) 24).only t4).c1; have n4c := ((Own2.new w3 (.int .u64 0) (.int .u64 0) 24).only t4).f0; have n4d := ((Own2.new w3 (.int .u64 0) (.int .u64 0) 24).only t4).f1; have n4e := ((Own2.new w3 (.int .u64 0) (.int .u64 0) 24).only t4).lt) | skip))
                          all_goals
                            go_wp2_with fail
                            go_meet
                            first
                              | exact ⟨_, rfl, rfl, r5.alloc _, r6.alloc _, r7.alloc _, Own2.new _ _ _ _⟩
                              | exact ⟨_, rfl, rfl, (r5.set (by omega) 0 _).set (by omega) 1 _, (r6.far (by omega) 0 _).far (by omega) 1 _, (r7.far (by omega) 0 _).far (by omega) 1 _, ((Own2.new w3 _ _ 24).only t4).set _ _⟩
                              | exact ⟨_, rfl, rfl, (r5.set (by omega) 0 _).set (by omega) 1 _, (r6.far (by omega) 0 _).far (by omega) 1 _, (r7.far (by omega) 0 _).far (by omega) 1 _, (n3.only t4).set _ _⟩
                              | fail
                      case rest =>
                        as_aux_lemma =>
                          clear caa cab faa fab za
                          clear cua cub fua fub zu
                          clear cwa cwb fwa fwb zw
                          clear ht oa ou ow MU AW FR
                          obtain ⟨g, rfl, rfl, ht, oa, ou, og⟩ := hcut
                          obtain ⟨caa, cab, faa, fab, za⟩ := oa.all
                          obtain ⟨cua, cub, fua, fub, zu⟩ := ou.all
                          obtain ⟨cga, cgb, fga, fgb, zg⟩ := og.all
                          go_wp2_with (go_at_call 11; refine (num_any _ _).mono ?_; rintro r wn ⟨rfl, rfl⟩)
                          go_at_call 15
                          refine (DE _).mono ?_
                          rintro r wd12 ⟨rfl, t⟩
                          have oa := (oa.only t).alloc (.cells #[.int .u64 nh, .int .u64 nl] 24)
                          have ou := (ou.only t).alloc (.cells #[.int .u64 nh, .int .u64 nl] 24)
                          have og := (og.only t).alloc (.cells #[.int .u64 nh, .int .u64 nl] 24)
                          have ht := (ht.trans t).alloc (.cells #[.int .u64 nh, .int .u64 nl] 24)
                          clear t
                          clear caa cab faa fab za
                          clear cua cub fua fub zu
                          clear cga cgb fga fgb zg
                          have on := Own2.new wd12 (.int .u64 nh) (.int .u64 nl) 24
                          clear og
                          cases ab
                          rotate_left
                          · as_aux_lemma =>
                              obtain ⟨caa, cab, faa, fab, za⟩ := oa.all
                              obtain ⟨cua, cub, fua, fub, zu⟩ := ou.all
                              obtain ⟨cna, cnb, fna, fnb, zn⟩ := on.all
                              go_wp2_with (go_at_call 11; refine (num_any _ _).mono ?_; rintro r wn ⟨rfl, rfl⟩)
                              go_ret
                              exact ⟨by simp, ht⟩
                          · as_aux_lemma =>
                              obtain ⟨SB, hT, F1, FM, hmh⟩ := HA.out rfl
                              obtain ⟨caa, cab, faa, fab, za⟩ := oa.all
                              obtain ⟨cua, cub, fua, fub, zu⟩ := ou.all
                              obtain ⟨cna, cnb, fna, fnb, zn⟩ := on.all
                              go_wp2_with (go_at_call 11; refine (num_any _ _).mono ?_; rintro r wn ⟨rfl, rfl⟩)
                              go_at_call 16
                              refine (SB _).mono ?_
                              rintro r wd13 ⟨rfl, t⟩
                              have oa := (oa.only t).alloc (.cells #[.int .u64 th, .int .u64 tl] 24)
                              have ou := (ou.only t).alloc (.cells #[.int .u64 th, .int .u64 tl] 24)
                              have on := (on.only t).alloc (.cells #[.int .u64 th, .int .u64 tl] 24)
                              have ht := (ht.trans t).alloc (.cells #[.int .u64 th, .int .u64 tl] 24)
                              clear t
                              clear caa cab faa fab za
                              clear cua cub fua fub zu
                              clear cna cnb fna fnb zn
                              have ot := Own2.new wd13 (.int .u64 th) (.int .u64 tl) 24
                              go_wp2_with (go_at_call 11; refine (num_any _ _).mono ?_; rintro r wn ⟨rfl, rfl⟩)
                              obtain ⟨k1, k2⟩ := ot.cone
                              clear A1 A2 A3 A4 A5 A6 M1 M2 M3 QR HV HA
                              rcases hT with ⟨rfl, rfl⟩ | ⟨rfl, rfl⟩ | ⟨rfl, rfl⟩
                              all_goals
                                refine wp_region_cone (by kernel_rfl) (by kernel_rfl) ?_
                                repeat (any_goals (first | go_big_quiet_step ((first | (go_at_call 14; with_reducible exact Cone.call (F1 _)) | (go_at_call 14; with_reducible exact Cone.call (FM _)))) | quiet_step ((first | (go_at_call 14; with_reducible exact Cone.call (F1 _)) | (go_at_call 14; with_reducible exact Cone.call (FM _))))))
                                refine wpQuiet_nil ?_
                                rintro we ⟨⟨_, t⟩, rfl⟩
                                have ht := ht.trans t
                                clear k1 k2 t oa ou on ot
                                go_wp2_with fail
                                go_ret
                                exact ⟨by simp, ht⟩
end Go.Proofs.Ytfnfagnkdogojaa
