/-
  WideSums: the walk.
-/
import Derived.Test.YtfnfagnkdogojaaBFits
import Derived.Test.YtfnfagnkdogojaaBAtoi
import Derived.Test.YtfnfagnkdogojaaNInts
namespace Go.Proofs.Ytfnfagnkdogojaa
open Go.RowKit Go.Maps Go.WideMaps

theorem cmpI_self (n : Int) : cmpI n n = 0 := by unfold cmpI; rw [if_neg (by omega), if_neg (by omega)]
theorem bigR_zero (w : World) : BigR w false none 0 0 0 := ⟨by decide, [], Or.inl ⟨rfl, rfl⟩, Nm.nil⟩
theorem lim_zero {K : Nat} : Lim 0 K := Nat.pow_pos (by decide)

/-- is, answered yes, of a number that was just made -/
abbrev IsYes (h l e n : Int) : Prop := ∀ W b s k c, BigR W b s k c n → Calls Try.prog 19 #[.agg #[.int .u64 h, .int .u64 l], .int .i64 e, .agg #[.bool b, .slice s k c]] W fun r w' => r = .returned (.bool true) ∧ Only W w'
/-- a call that answers one value and only makes memory -/
abbrev Gives (f : FuncId) (args : Array Value) (v : Value) : Prop := ∀ W, Calls Try.prog f args W fun r w' => r = .returned v ∧ Only W w'

set_option maxRecDepth 100000 in
set_option maxHeartbeats 16000000 in
theorem wideSums_walk {a b n m : Int} {ah al bh bl sh sl dh dl ph pl th tl qh ql fh fl e1 e2 e3 e4 i0 j0 k0 cc sg : Int} {whole : Bool}
    (VA : ∀ W, Calls Try.prog 17 #[.agg #[.int .u64 ah, .int .u64 al]] W (BigSays W a)) (VB : ∀ W, Calls Try.prog 17 #[.agg #[.int .u64 bh, .int .u64 bl]] W (BigSays W b))
    (ADD : Gives 10 #[.agg #[.int .u64 ah, .int .u64 al], .agg #[.int .u64 bh, .int .u64 bl]] (.tuple #[.agg #[.int .u64 sh, .int .u64 sl], .int .i64 e1]))
    (SUB : Gives 16 #[.agg #[.int .u64 ah, .int .u64 al], .agg #[.int .u64 bh, .int .u64 bl]] (.tuple #[.agg #[.int .u64 dh, .int .u64 dl], .int .i64 e2]))
    (MUI : Gives 12 #[.agg #[.int .u64 ah, .int .u64 al], .int .i64 n] (.tuple #[.agg #[.int .u64 ph, .int .u64 pl], .int .i64 e3]))
    (NEG : Gives 18 #[.agg #[.int .u64 ah, .int .u64 al]] (.tuple #[.agg #[.int .u64 th, .int .u64 tl], .int .i64 e4]))
    (IS1 : IsYes sh sl e1 (a + b)) (IS2 : IsYes dh dl e2 (a - b)) (IS3 : IsYes ph pl e3 (a * n)) (IS4 : IsYes th tl e4 (-a))
    (MUL : Gives 25 #[.int .i64 n, .int .i64 m] (.agg #[.int .u64 qh, .int .u64 ql])) (VQ : ∀ W, Calls Try.prog 17 #[.agg #[.int .u64 qh, .int .u64 ql]] W (BigSays W (n * m)))
    (FRI : Gives 14 #[.int .i64 n] (.agg #[.int .u64 fh, .int .u64 fl])) (VF : ∀ W, Calls Try.prog 17 #[.agg #[.int .u64 fh, .int .u64 fl]] W (BigSays W n))
    (BN : ∀ W, Calls Try.prog 23 #[.int .i64 n] W (BigSays W n)) (BM : ∀ W, Calls Try.prog 23 #[.int .i64 m] W (BigSays W m))
    (INT : Gives 27 #[.agg #[.int .u64 ah, .int .u64 al]] (.tuple #[.int .i64 i0, .int .i64 j0]))
    (BI : ∀ W b' s k c, BigR W b' s k c a → Calls Try.prog 28 #[.agg #[.bool b', .slice s k c]] W fun r w' => r = .returned (.tuple #[.int .i64 k0, .bool whole]) ∧ Only W w')
    (hw : (whole = true ∧ i0 = k0 ∧ j0 = 0) ∨ (whole = false ∧ i0 = 0 ∧ j0 = 16))
    (CMP : Gives 29 #[.agg #[.int .u64 ah, .int .u64 al], .agg #[.int .u64 bh, .int .u64 bl]] (.int .i64 cc)) (SGN : Gives 30 #[.agg #[.int .u64 ah, .int .u64 al]] (.int .i64 sg))
    (hcc : cc = cmpI a b) (hsg : sg = cmpI a 0) (la : Lim a 10) (lb : Lim b 10) (lnn : Lim n 5) (lm : Lim m 5) (w : World) :
    Calls Try.prog 4 #[.agg #[.int .u64 ah, .int .u64 al], .agg #[.int .u64 bh, .int .u64 bl], .int .i64 n, .int .i64 m] w fun r w' => r = .returned (.bool true) ∧ Only w w' := by
  have VA := Lib.hid VA
  have VB := Lib.hid VB
  have ADD := Lib.hid ADD
  have SUB := Lib.hid SUB
  have MUI := Lib.hid MUI
  have NEG := Lib.hid NEG
  have IS1 := Lib.hid IS1
  have IS2 := Lib.hid IS2
  have IS3 := Lib.hid IS3
  have IS4 := Lib.hid IS4
  have MUL := Lib.hid MUL
  have VQ := Lib.hid VQ
  have FRI := Lib.hid FRI
  have VF := Lib.hid VF
  have BN := Lib.hid BN
  have BM := Lib.hid BM
  have INT := Lib.hid INT
  have BI := Lib.hid BI
  have CMP := Lib.hid CMP
  have SGN := Lib.hid SGN
  have HW := Lib.hid hw
  have HCC := Lib.hid hcc
  have HSG := Lib.hid hsg
  have LA := Lib.hid la
  have LB := Lib.hid lb
  have LN := Lib.hid lnn
  have LM := Lib.hid lm
  clear hw hcc hsg la lb lnn lm
  have oa := (Own2.new w (.int .u64 ah) (.int .u64 al) 24).alloc (.cells #[.int .u64 bh, .int .u64 bl] 24)
  have ob := Own2.new1 w (.cells #[.int .u64 ah, .int .u64 al] 24) (.int .u64 bh) (.int .u64 bl) 24
  have ht := ((Only.refl w).alloc (.cells #[.int .u64 ah, .int .u64 al] 24)).alloc (.cells #[.int .u64 bh, .int .u64 bl] 24)
  go_enter Try.func4, Try.ntmps4
  go_wp2_with fail
  go_at_call 9
  refine (first_wide _).mono ?_
  rintro r w1 ⟨rfl, t⟩
  replace oa := oa.only t
  replace ob := ob.only t
  replace ht := ht.trans t
  clear t
  obtain ⟨a1, a2, a3, a4, a5⟩ := oa.all
  obtain ⟨b1, b2, b3, b4, b5⟩ := ob.all
  go_wp2_with fail
  go_at_call 17
  refine (VA.out _).mono ?_
  rintro r w2 ⟨bx, sx, kx, cx, rfl, rx, t⟩
  clear a1 a2 a3 a4 a5 b1 b2 b3 b4 b5
  replace oa := (oa.only t).alloc (boxOf bx sx kx cx)
  replace ob := (ob.only t).alloc (boxOf bx sx kx cx)
  replace ht := (ht.trans t).alloc (boxOf bx sx kx cx)
  have ox : BigAt (w2.alloc (boxOf bx sx kx cx)) w2.heap.size bx sx kx cx := Own2.new _ _ _ _
  replace rx := rx.only ((Only.refl w2).alloc (boxOf bx sx kx cx))
  clear t
  obtain ⟨a1, a2, a3, a4, a5⟩ := oa.all
  obtain ⟨b1, b2, b3, b4, b5⟩ := ob.all
  go_wp2_with fail
  go_at_call 17
  refine (VB.out _).mono ?_
  rintro r w3 ⟨by', sy, ky, cy, rfl, ry, t⟩
  clear a1 a2 a3 a4 a5 b1 b2 b3 b4 b5
  replace oa := (oa.only t).alloc (boxOf by' sy ky cy)
  replace ob := (ob.only t).alloc (boxOf by' sy ky cy)
  replace ox := (ox.only t).alloc (boxOf by' sy ky cy)
  replace ht := (ht.trans t).alloc (boxOf by' sy ky cy)
  have oy : BigAt (w3.alloc (boxOf by' sy ky cy)) w3.heap.size by' sy ky cy := Own2.new _ _ _ _
  replace rx := (rx.only t).only ((Only.refl w3).alloc (boxOf by' sy ky cy))
  replace ry := ry.only ((Only.refl w3).alloc (boxOf by' sy ky cy))
  clear t
  obtain ⟨a1, a2, a3, a4, a5⟩ := oa.all
  obtain ⟨b1, b2, b3, b4, b5⟩ := ob.all
  -- GEN
  go_wp2_with fail
  go_at_call 10
  refine (ADD.out _).mono ?_
  rintro r w4 ⟨rfl, t⟩
  clear a1 a2 a3 a4 a5 b1 b2 b3 b4 b5
  replace oa := (oa.only t).alloc (.cells #[.int .u64 sh, .int .u64 sl] 24)
  replace ob := (ob.only t).alloc (.cells #[.int .u64 sh, .int .u64 sl] 24)
  replace ox := (ox.only t).alloc (.cells #[.int .u64 sh, .int .u64 sl] 24)
  replace oy := (oy.only t).alloc (.cells #[.int .u64 sh, .int .u64 sl] 24)
  replace rx := (rx.only t).only ((Only.refl w4).alloc (.cells #[.int .u64 sh, .int .u64 sl] 24))
  replace ry := (ry.only t).only ((Only.refl w4).alloc (.cells #[.int .u64 sh, .int .u64 sl] 24))
  replace ht := (ht.trans t).alloc (.cells #[.int .u64 sh, .int .u64 sl] 24)
  have os : Own2 (w4.alloc (.cells #[.int .u64 sh, .int .u64 sl] 24)) w4.heap.size (.int .u64 sh) (.int .u64 sl) := Own2.new _ _ _ _
  clear t
  obtain ⟨a1, a2, a3, a4, a5⟩ := oa.all
  obtain ⟨b1, b2, b3, b4, b5⟩ := ob.all
  go_wp2_with fail
  go_at_call 16
  refine (SUB.out _).mono ?_
  rintro r w5 ⟨rfl, t⟩
  clear a1 a2 a3 a4 a5 b1 b2 b3 b4 b5
  replace oa := (oa.only t).alloc (.cells #[.int .u64 dh, .int .u64 dl] 24)
  replace ob := (ob.only t).alloc (.cells #[.int .u64 dh, .int .u64 dl] 24)
  replace ox := (ox.only t).alloc (.cells #[.int .u64 dh, .int .u64 dl] 24)
  replace oy := (oy.only t).alloc (.cells #[.int .u64 dh, .int .u64 dl] 24)
  replace os := (os.only t).alloc (.cells #[.int .u64 dh, .int .u64 dl] 24)
  replace rx := (rx.only t).only ((Only.refl w5).alloc (.cells #[.int .u64 dh, .int .u64 dl] 24))
  replace ry := (ry.only t).only ((Only.refl w5).alloc (.cells #[.int .u64 dh, .int .u64 dl] 24))
  replace ht := (ht.trans t).alloc (.cells #[.int .u64 dh, .int .u64 dl] 24)
  have od : Own2 (w5.alloc (.cells #[.int .u64 dh, .int .u64 dl] 24)) w5.heap.size (.int .u64 dh) (.int .u64 dl) := Own2.new _ _ _ _
  clear t
  obtain ⟨a1, a2, a3, a4, a5⟩ := oa.all
  obtain ⟨b1, b2, b3, b4, b5⟩ := ob.all
  go_wp2_with fail
  go_at_call 12
  refine (MUI.out _).mono ?_
  rintro r w6 ⟨rfl, t⟩
  clear a1 a2 a3 a4 a5 b1 b2 b3 b4 b5
  replace oa := (oa.only t).alloc (.cells #[.int .u64 ph, .int .u64 pl] 24)
  replace ob := (ob.only t).alloc (.cells #[.int .u64 ph, .int .u64 pl] 24)
  replace ox := (ox.only t).alloc (.cells #[.int .u64 ph, .int .u64 pl] 24)
  replace oy := (oy.only t).alloc (.cells #[.int .u64 ph, .int .u64 pl] 24)
  replace os := (os.only t).alloc (.cells #[.int .u64 ph, .int .u64 pl] 24)
  replace od := (od.only t).alloc (.cells #[.int .u64 ph, .int .u64 pl] 24)
  replace rx := (rx.only t).only ((Only.refl w6).alloc (.cells #[.int .u64 ph, .int .u64 pl] 24))
  replace ry := (ry.only t).only ((Only.refl w6).alloc (.cells #[.int .u64 ph, .int .u64 pl] 24))
  replace ht := (ht.trans t).alloc (.cells #[.int .u64 ph, .int .u64 pl] 24)
  have op : Own2 (w6.alloc (.cells #[.int .u64 ph, .int .u64 pl] 24)) w6.heap.size (.int .u64 ph) (.int .u64 pl) := Own2.new _ _ _ _
  clear t
  obtain ⟨a1, a2, a3, a4, a5⟩ := oa.all
  obtain ⟨b1, b2, b3, b4, b5⟩ := ob.all
  go_wp2_with fail
  go_at_call 18
  refine (NEG.out _).mono ?_
  rintro r w7 ⟨rfl, t⟩
  clear a1 a2 a3 a4 a5 b1 b2 b3 b4 b5
  replace oa := (oa.only t).alloc (.cells #[.int .u64 th, .int .u64 tl] 24)
  replace ob := (ob.only t).alloc (.cells #[.int .u64 th, .int .u64 tl] 24)
  replace ox := (ox.only t).alloc (.cells #[.int .u64 th, .int .u64 tl] 24)
  replace oy := (oy.only t).alloc (.cells #[.int .u64 th, .int .u64 tl] 24)
  replace os := (os.only t).alloc (.cells #[.int .u64 th, .int .u64 tl] 24)
  replace od := (od.only t).alloc (.cells #[.int .u64 th, .int .u64 tl] 24)
  replace op := (op.only t).alloc (.cells #[.int .u64 th, .int .u64 tl] 24)
  replace rx := (rx.only t).only ((Only.refl w7).alloc (.cells #[.int .u64 th, .int .u64 tl] 24))
  replace ry := (ry.only t).only ((Only.refl w7).alloc (.cells #[.int .u64 th, .int .u64 tl] 24))
  replace ht := (ht.trans t).alloc (.cells #[.int .u64 th, .int .u64 tl] 24)
  have ot : Own2 (w7.alloc (.cells #[.int .u64 th, .int .u64 tl] 24)) w7.heap.size (.int .u64 th) (.int .u64 tl) := Own2.new _ _ _ _
  clear t
  go_wp2_with fail
  refine wp_name (fun wx => Only w wx ∧ Own2 wx w.heap.size (.int .u64 ah) (.int .u64 al) ∧ Own2 wx (w.heap.size + 1) (.int .u64 bh) (.int .u64 bl) ∧ Own2 wx w2.heap.size (.bool bx) (.slice sx kx cx) ∧ Own2 wx w3.heap.size (.bool by') (.slice sy ky cy) ∧ Own2 wx w4.heap.size (.int .u64 sh) (.int .u64 sl) ∧ Own2 wx w5.heap.size (.int .u64 dh) (.int .u64 dl) ∧ Own2 wx w6.heap.size (.int .u64 ph) (.int .u64 pl) ∧ Own2 wx w7.heap.size (.int .u64 th) (.int .u64 tl) ∧ BigR wx bx sx kx cx a ∧ BigR wx by' sy ky cy b) ⟨ht, oa, ob, ox, oy, os, od, op, ot, rx, ry⟩ ?_
  clear ht rx ry oa ob ox oy os od op ot
  rintro wx ⟨ht, oa, ob, ox, oy, os, od, op, ot, rx, ry⟩
  have T := (Only.refl wx).drew
  have px := ox.drew
  have py := oy.drew
  have ps := os.drew
  have pd := od.drew
  have pp := op.drew
  have pt := ot.drew
  go_region_held3 (fun w' => w'.cell? ⟨w2.heap.size, 0, none⟩ = some (.bool bx) ∧ w'.cell? ⟨w2.heap.size, 1, none⟩ = some (.slice sx kx cx) ∧ w'.cell? ⟨w3.heap.size, 0, none⟩ = some (.bool by') ∧ w'.cell? ⟨w3.heap.size, 1, none⟩ = some (.slice sy ky cy) ∧ w'.cell? ⟨w4.heap.size, 0, none⟩ = some (.int .u64 sh) ∧ w'.cell? ⟨w4.heap.size, 1, none⟩ = some (.int .u64 sl) ∧ w'.cell? ⟨w5.heap.size, 0, none⟩ = some (.int .u64 dh) ∧ w'.cell? ⟨w5.heap.size, 1, none⟩ = some (.int .u64 dl) ∧ w'.cell? ⟨w6.heap.size, 0, none⟩ = some (.int .u64 ph) ∧ w'.cell? ⟨w6.heap.size, 1, none⟩ = some (.int .u64 pl) ∧ w'.cell? ⟨w7.heap.size, 0, none⟩ = some (.int .u64 th) ∧ w'.cell? ⟨w7.heap.size, 1, none⟩ = some (.int .u64 tl)) ((with_reducible exact ⟨px.c0, px.c1, py.c0, py.c1, ps.c0, ps.c1, pd.c0, pd.c1, pp.c0, pp.c1, pt.c0, pt.c1⟩)) (first | (go_at_call 11; refine (num_any _ _).mono ?_; rintro r w9 ⟨rfl, rfl⟩) | (go_at_call 20; refine (bigAdd_any (rx.only T) (ry.only T) (LA.out.mono (by omega)) (LB.out.mono (by omega))).mono ?_; rintro r w9 ⟨b9, s9, k9, c9, rfl, r9, t9⟩; have T := T.trans t9; have px := px.only t9; have py := py.only t9; have ps := ps.only t9; have pd := pd.only t9; have pp := pp.only t9; have pt := pt.only t9) | (go_at_call 21; refine (bigSub_any (rx.only T) (ry.only T) (LA.out.mono (by omega)) (LB.out.mono (by omega))).mono ?_; rintro r w9 ⟨b9, s9, k9, c9, rfl, r9, t9⟩; have T := T.trans t9; have px := px.only t9; have py := py.only t9; have ps := ps.only t9; have pd := pd.only t9; have pp := pp.only t9; have pt := pt.only t9) | (go_at_call 23; refine (BN.out _).mono ?_; rintro r w9 ⟨b9, s9, k9, c9, rfl, r9, t9⟩; have T := T.trans t9; have px := px.only t9; have py := py.only t9; have ps := ps.only t9; have pd := pd.only t9; have pp := pp.only t9; have pt := pt.only t9) | (go_at_call 22; refine (bigMul_any (rx.only T) r9 (LA.out.mono (by omega)) (LN.out.mono (by omega))).mono ?_; rintro r w9 ⟨b9, s9, k9, c9, rfl, r9, t9⟩; have T := T.trans t9; have px := px.only t9; have py := py.only t9; have ps := ps.only t9; have pd := pd.only t9; have pp := pp.only t9; have pt := pt.only t9) | (go_at_call 24; refine (bigNeg_any (rx.only T) (LA.out.mono (by omega))).mono ?_; rintro r w9 ⟨b9, s9, k9, c9, rfl, r9, t9⟩; have T := T.trans t9; have px := px.only t9; have py := py.only t9; have ps := ps.only t9; have pd := pd.only t9; have pp := pp.only t9; have pt := pt.only t9) | (go_at_call 19; (with_reducible refine (IS1.out _ _ _ _ _ ?_).mono ?_); (exact r9); rintro r w9 ⟨rfl, t9⟩; have T := T.trans t9; have px := px.only t9; have py := py.only t9; have ps := ps.only t9; have pd := pd.only t9; have pp := pp.only t9; have pt := pt.only t9) | (go_at_call 19; (with_reducible refine (IS2.out _ _ _ _ _ ?_).mono ?_); (exact r9); rintro r w9 ⟨rfl, t9⟩; have T := T.trans t9; have px := px.only t9; have py := py.only t9; have ps := ps.only t9; have pd := pd.only t9; have pp := pp.only t9; have pt := pt.only t9) | (go_at_call 19; (with_reducible refine (IS3.out _ _ _ _ _ ?_).mono ?_); (exact r9); rintro r w9 ⟨rfl, t9⟩; have T := T.trans t9; have px := px.only t9; have py := py.only t9; have ps := ps.only t9; have pd := pd.only t9; have pp := pp.only t9; have pt := pt.only t9) | (go_at_call 19; (with_reducible refine (IS4.out _ _ _ _ _ ?_).mono ?_); (exact r9); rintro r w9 ⟨rfl, t9⟩; have T := T.trans t9; have px := px.only t9; have py := py.only t9; have ps := ps.only t9; have pd := pd.only t9; have pp := pp.only t9; have pt := pt.only t9))
  clear px py ps pd pp pt
  replace oa := oa.only T
  replace ob := ob.only T
  replace ox := ox.only T
  replace oy := oy.only T
  replace os := os.only T
  replace od := od.only T
  replace op := op.only T
  replace ot := ot.only T
  replace rx := rx.only T
  replace ry := ry.only T
  replace ht := ht.trans T
  clear T
  clear t9 r9
  go_wp2_with fail
  go_at_call 25
  refine (MUL.out _).mono ?_
  rintro r w10 ⟨rfl, t⟩
  replace oa := (oa.only t).alloc (.cells #[.int .u64 qh, .int .u64 ql] 24)
  replace ob := (ob.only t).alloc (.cells #[.int .u64 qh, .int .u64 ql] 24)
  replace ox := (ox.only t).alloc (.cells #[.int .u64 qh, .int .u64 ql] 24)
  replace oy := (oy.only t).alloc (.cells #[.int .u64 qh, .int .u64 ql] 24)
  replace os := (os.only t).alloc (.cells #[.int .u64 qh, .int .u64 ql] 24)
  replace od := (od.only t).alloc (.cells #[.int .u64 qh, .int .u64 ql] 24)
  replace op := (op.only t).alloc (.cells #[.int .u64 qh, .int .u64 ql] 24)
  replace ot := (ot.only t).alloc (.cells #[.int .u64 qh, .int .u64 ql] 24)
  replace rx := (rx.only t).only ((Only.refl w10).alloc (.cells #[.int .u64 qh, .int .u64 ql] 24))
  replace ry := (ry.only t).only ((Only.refl w10).alloc (.cells #[.int .u64 qh, .int .u64 ql] 24))
  replace ht := (ht.trans t).alloc (.cells #[.int .u64 qh, .int .u64 ql] 24)
  have oq : Own2 (w10.alloc (.cells #[.int .u64 qh, .int .u64 ql] 24)) w10.heap.size (.int .u64 qh) (.int .u64 ql) := Own2.new _ _ _ _
  clear t
  obtain ⟨q1, q2, q3, q4, q5⟩ := oq.all
  go_wp2_with fail
  go_at_call 17
  refine (VQ.out _).mono ?_
  rintro r w11 ⟨brq, srq, krq, crq, rfl, rq, t⟩
  clear q1 q2 q3 q4 q5
  replace oa := oa.only t
  replace ob := ob.only t
  replace ox := ox.only t
  replace oy := oy.only t
  replace os := os.only t
  replace od := od.only t
  replace op := op.only t
  replace ot := ot.only t
  replace oq := oq.only t
  replace rx := rx.only t
  replace ry := ry.only t
  replace ht := ht.trans t
  clear t
  go_wp2_with fail
  go_at_call 23
  refine (BN.out _).mono ?_
  rintro r w12 ⟨brn, srn, krn, crn, rfl, rn, t⟩
  replace oa := oa.only t
  replace ob := ob.only t
  replace ox := ox.only t
  replace oy := oy.only t
  replace os := os.only t
  replace od := od.only t
  replace op := op.only t
  replace ot := ot.only t
  replace oq := oq.only t
  replace rx := rx.only t
  replace ry := ry.only t
  replace rq := rq.only t
  replace ht := ht.trans t
  clear t
  go_wp2_with fail
  go_at_call 23
  refine (BM.out _).mono ?_
  rintro r w13 ⟨brm, srm, krm, crm, rfl, rm, t⟩
  replace oa := oa.only t
  replace ob := ob.only t
  replace ox := ox.only t
  replace oy := oy.only t
  replace os := os.only t
  replace od := od.only t
  replace op := op.only t
  replace ot := ot.only t
  replace oq := oq.only t
  replace rx := rx.only t
  replace ry := ry.only t
  replace rq := rq.only t
  replace rn := rn.only t
  replace ht := ht.trans t
  clear t
  go_wp2_with fail
  go_at_call 22
  refine (bigMul_any rn rm (LN.out.mono (by omega)) (LM.out.mono (by omega))).mono ?_
  rintro r w14 ⟨brp, srp, krp, crp, rfl, rp, t⟩
  replace oa := oa.only t
  replace ob := ob.only t
  replace ox := ox.only t
  replace oy := oy.only t
  replace os := os.only t
  replace od := od.only t
  replace op := op.only t
  replace ot := ot.only t
  replace oq := oq.only t
  replace rx := rx.only t
  replace ry := ry.only t
  replace rq := rq.only t
  replace rn := rn.only t
  replace rm := rm.only t
  replace ht := ht.trans t
  clear t
  have LNM := Lib.hid ((LN.out.mul LM.out).mono (M := 100000) (by omega))
  go_wp2_with fail
  go_at_call 26
  refine (bigCmp_any rq rp LNM.out LNM.out).mono ?_
  rintro r w15 ⟨rfl, t⟩
  replace oa := (oa.only t)
  replace ob := (ob.only t)
  replace ox := (ox.only t)
  replace oy := (oy.only t)
  replace os := (os.only t)
  replace od := (od.only t)
  replace op := (op.only t)
  replace ot := (ot.only t)
  replace oq := (oq.only t)
  replace rx := (rx.only t)
  replace ry := (ry.only t)
  replace rq := (rq.only t)
  replace rn := (rn.only t)
  replace rm := (rm.only t)
  replace rp := (rp.only t)
  replace ht := (ht.trans t)
  clear t
  rw [cmpI_self]
  clear rq rn rm rp
  go_wp2_with fail
  go_at_call 14
  refine (FRI.out _).mono ?_
  rintro r w16 ⟨rfl, t⟩
  replace oa := (oa.only t)
  replace ob := (ob.only t)
  replace ox := (ox.only t)
  replace oy := (oy.only t)
  replace os := (os.only t)
  replace od := (od.only t)
  replace op := (op.only t)
  replace ot := (ot.only t)
  replace oq := (oq.only t)
  replace rx := (rx.only t)
  replace ry := (ry.only t)
  replace ht := (ht.trans t)
  clear t
  go_wp2_with fail
  go_at_call 17
  refine (VF.out _).mono ?_
  rintro r w17 ⟨brq, srq, krq, crq, rfl, rq, t⟩
  replace oa := oa.only t
  replace ob := ob.only t
  replace ox := ox.only t
  replace oy := oy.only t
  replace os := os.only t
  replace od := od.only t
  replace op := op.only t
  replace ot := ot.only t
  replace oq := oq.only t
  replace rx := rx.only t
  replace ry := ry.only t
  replace ht := ht.trans t
  clear t
  go_wp2_with fail
  go_at_call 23
  refine (BN.out _).mono ?_
  rintro r w18 ⟨brn, srn, krn, crn, rfl, rn, t⟩
  replace oa := oa.only t
  replace ob := ob.only t
  replace ox := ox.only t
  replace oy := oy.only t
  replace os := os.only t
  replace od := od.only t
  replace op := op.only t
  replace ot := ot.only t
  replace oq := oq.only t
  replace rx := rx.only t
  replace ry := ry.only t
  replace rq := rq.only t
  replace ht := ht.trans t
  clear t
  go_wp2_with fail
  go_at_call 26
  refine (bigCmp_any rq rn (LN.out.mono (by omega)) (LN.out.mono (by omega))).mono ?_
  rintro r w19 ⟨rfl, t⟩
  replace oa := (oa.only t)
  replace ob := (ob.only t)
  replace ox := (ox.only t)
  replace oy := (oy.only t)
  replace os := (os.only t)
  replace od := (od.only t)
  replace op := (op.only t)
  replace ot := (ot.only t)
  replace oq := (oq.only t)
  replace rx := (rx.only t)
  replace ry := (ry.only t)
  replace rq := (rq.only t)
  replace rn := (rn.only t)
  replace ht := (ht.trans t)
  clear t
  obtain ⟨a1, a2, a3, a4, a5⟩ := oa.all
  rw [cmpI_self]
  clear rq rn
  go_wp2_with fail
  go_at_call 27
  refine (INT.out _).mono ?_
  rintro r w20 ⟨rfl, t⟩
  clear a1 a2 a3 a4 a5
  replace oa := (oa.only t)
  replace ob := (ob.only t)
  replace ox := (ox.only t)
  replace oy := (oy.only t)
  replace os := (os.only t)
  replace od := (od.only t)
  replace op := (op.only t)
  replace ot := (ot.only t)
  replace oq := (oq.only t)
  replace rx := (rx.only t)
  replace ry := (ry.only t)
  replace ht := (ht.trans t)
  clear t
  obtain ⟨x1, x2, x3, x4, x5⟩ := ox.all
  go_wp2_with fail
  go_at_call 28
  refine (BI.out _ _ _ _ _ rx).mono ?_
  rintro r w21 ⟨rfl, t⟩
  clear x1 x2 x3 x4 x5
  replace oa := (oa.only t)
  replace ob := (ob.only t)
  replace ox := (ox.only t)
  replace oy := (oy.only t)
  replace os := (os.only t)
  replace od := (od.only t)
  replace op := (op.only t)
  replace ot := (ot.only t)
  replace oq := (oq.only t)
  replace rx := (rx.only t)
  replace ry := (ry.only t)
  replace ht := (ht.trans t)
  clear t
  rcases HW.out with ⟨rfl, rfl, rfl⟩ | ⟨rfl, rfl, rfl⟩
  all_goals
    go_wp2_with (go_at_call 11; refine (num_any _ _).mono ?_; rintro r w9 ⟨rfl, rfl⟩)
    refine wp_name (fun wx => Only w wx ∧ Own2 wx w.heap.size (.int .u64 ah) (.int .u64 al) ∧ Own2 wx (w.heap.size + 1) (.int .u64 bh) (.int .u64 bl) ∧ Own2 wx w2.heap.size (.bool bx) (.slice sx kx cx) ∧ Own2 wx w3.heap.size (.bool by') (.slice sy ky cy) ∧ Own2 wx w4.heap.size (.int .u64 sh) (.int .u64 sl) ∧ Own2 wx w5.heap.size (.int .u64 dh) (.int .u64 dl) ∧ Own2 wx w6.heap.size (.int .u64 ph) (.int .u64 pl) ∧ Own2 wx w7.heap.size (.int .u64 th) (.int .u64 tl) ∧ Own2 wx w10.heap.size (.int .u64 qh) (.int .u64 ql) ∧ BigR wx bx sx kx cx a ∧ BigR wx by' sy ky cy b) ⟨ht, oa, ob, ox, oy, os, od, op, ot, oq, rx, ry⟩ ?_
    clear ht rx ry oa ob ox oy os od op ot oq
    rintro wx ⟨ht, oa, ob, ox, oy, os, od, op, ot, oq, rx, ry⟩
    have C1 : Hid (∀ W, Only wx W → Calls Try.prog 26 #[.agg #[.bool bx, .slice sx kx cx], .agg #[.bool by', .slice sy ky cy]] W fun e w' => e = .returned (.int .i64 cc) ∧ Only W w') := Lib.hid fun W t => by rw [HCC.out]; exact bigCmp_any (rx.only t) (ry.only t) (LA.out.mono (by omega)) (LB.out.mono (by omega))
    have C2 : Hid (∀ W, Only wx W → Calls Try.prog 26 #[.agg #[.bool bx, .slice sx kx cx], .agg #[.bool false, .slice none 0 0]] W fun e w' => e = .returned (.int .i64 sg) ∧ Only W w') := Lib.hid fun W t => by rw [HSG.out]; exact bigCmp_any (rx.only t) (bigR_zero W) (LA.out.mono (by omega)) lim_zero
    have T := (Only.refl wx).drew
    have pa := oa.drew
    have pb := ob.drew
    have px := ox.drew
    have py := oy.drew
    go_region_held3 (fun w' => w'.cell? ⟨w.heap.size, 0, none⟩ = some (.int .u64 ah) ∧ w'.cell? ⟨w.heap.size, 1, none⟩ = some (.int .u64 al) ∧ w'.cell? ⟨(w.heap.size + 1), 0, none⟩ = some (.int .u64 bh) ∧ w'.cell? ⟨(w.heap.size + 1), 1, none⟩ = some (.int .u64 bl) ∧ w'.cell? ⟨w2.heap.size, 0, none⟩ = some (.bool bx) ∧ w'.cell? ⟨w2.heap.size, 1, none⟩ = some (.slice sx kx cx) ∧ w'.cell? ⟨w3.heap.size, 0, none⟩ = some (.bool by') ∧ w'.cell? ⟨w3.heap.size, 1, none⟩ = some (.slice sy ky cy)) ((with_reducible exact ⟨pa.c0, pa.c1, pb.c0, pb.c1, px.c0, px.c1, py.c0, py.c1⟩)) (first | (go_at_call 11; refine (num_any _ _).mono ?_; rintro r w9 ⟨rfl, rfl⟩) | (go_at_call 29; refine (CMP.out _).mono ?_; rintro r w9 ⟨rfl, t9⟩; have T := T.trans t9; have pa := pa.only t9; have pb := pb.only t9; have px := px.only t9; have py := py.only t9) | (go_at_call 30; refine (SGN.out _).mono ?_; rintro r w9 ⟨rfl, t9⟩; have T := T.trans t9; have pa := pa.only t9; have pb := pb.only t9; have px := px.only t9; have py := py.only t9) | (go_at_call 26; (with_reducible refine (C1.out _ ?_).mono ?_); (exact T); rintro r w9 ⟨rfl, t9⟩; have T := T.trans t9; have pa := pa.only t9; have pb := pb.only t9; have px := px.only t9; have py := py.only t9) | (go_at_call 26; (with_reducible refine (C2.out _ ?_).mono ?_); (exact T); rintro r w9 ⟨rfl, t9⟩; have T := T.trans t9; have pa := pa.only t9; have pb := pb.only t9; have px := px.only t9; have py := py.only t9))
    clear pa pb px py
    have HT := Lib.hid (ht.trans T)
    clear T t9
    go_wp2
    go_ret
    exact ⟨by simp, HT.out⟩
end Go.Proofs.Ytfnfagnkdogojaa
