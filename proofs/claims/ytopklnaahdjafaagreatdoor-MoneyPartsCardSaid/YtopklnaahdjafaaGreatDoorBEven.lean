/-
  The nearest quotient.
-/
import Derived.Test.YtopklnaahdjafaaGreatDoorBQuo
import Derived.Test.YtopklnaahdjafaaGreatDoorBLow
namespace Go.Proofs.YtopklnaahdjafaaGreatDoor
open Go.RowKit Go.Maps Go.WideMaps

/-- the nearest quotient of whole numbers, halves to the even -/
def evenOf (n m : Int) : Int :=
  if m.natAbs < 2 * (n.tmod m).natAbs ∨ (2 * (n.tmod m).natAbs = m.natAbs ∧ (n.tdiv m).natAbs % 2 = 1) then n.tdiv m + (if decide (n < 0) != decide (m < 0) then -1 else 1) else n.tdiv m

theorem Lim.small {n : Int} {K : Nat} (h : n.natAbs < 10000) : Lim n (K + 1) := by
  unfold Lim
  rw [Nat.pow_succ]
  have : 1 ≤ 10000 ^ K := Nat.pow_pos (by decide)
  omega
theorem odd_head {l : List Nat} {n : Nat} (h : Nm l n) : (∃ (h0 : 0 < l.length), l[0] % 2 = n % 2) ∨ (l = [] ∧ n = 0) := by
  cases l with
  | nil => exact Or.inr ⟨rfl, by rw [← h.eq]; rfl⟩
  | cons d r =>
    refine Or.inl ⟨by simp, ?_⟩
    rw [← h.eq]
    simp only [bval, List.getElem_cons_zero]
    omega

set_option maxRecDepth 100000 in
set_option maxHeartbeats 6400000 in
theorem bigEven_walk {b1 b2 : Bool} {s1 s2 : Option Addr} {k1 c1 k2 c2 : Nat} {q r x : Int} {m : Int} {l2 : List Nat} {w : World} (Q : ∀ W, Only w W → Calls Tryz.prog 72 #[.agg #[.bool b1, .slice s1 k1 c1], .agg #[.bool b2, .slice s2 k2 c2]] W (BigSays2 W q r))
    (h2 : NatsR w (.slice s2 k2 c2) l2) (g2 : Nm l2 m.natAbs) (lr : Lim r 4000) (lq : Lim q 4000) (lm : Lim m 4000) {t : Int} (ht' : t = cmpN (r.natAbs + r.natAbs) m.natAbs) {odd : Bool} (ho : odd = decide (q.natAbs % 2 = 1))
    (hx : x = if 0 < t ∨ (t = 0 ∧ odd = true) then q + (if b1 != b2 then -1 else 1) else q) :
    Calls Tryz.prog 106 #[.agg #[.bool b1, .slice s1 k1 c1], .agg #[.bool b2, .slice s2 k2 c2]] w (BigSays w x) := by
  have Q := Lib.hid Q
  have H2 := Lib.hid h2
  have G2 := Lib.hid g2
  have LR := Lib.hid lr
  have LQ := Lib.hid lq
  have LM := Lib.hid lm
  have HT' := Lib.hid ht'
  have HOD := Lib.hid ho
  have HX := Lib.hid hx
  obtain ⟨ht, o1, o2, o3⟩ := boxes3 w b1 b2 s1 s2 k1 c1 k2 c2
  clear h2 g2 lr lq lm ht' ho hx
  go_enter Tryz.func106, Tryz.ntmps106
  go_wp2_with fail
  go_at_call 72
  refine (Q.out _ ht).mono ?_
  rintro r' w2 ⟨bq, sq, kq, cq, br, sr, kr, cr, rfl, rq, rr, t2⟩
  go_upto_region 2 with (fail)
  refine wp_name (fun wx => Only w wx ∧ BigAt wx w.heap.size b1 s1 k1 c1 ∧ BigAt wx (w.heap.size + 1) b2 s2 k2 c2 ∧ BigAt wx (w.heap.size + 1 + 1) false none 0 0 ∧ BigAt wx w2.heap.size bq sq kq cq ∧ BigAt wx (w2.heap.size + 1) br sr kr cr ∧ BigR wx bq sq kq cq q ∧ BigR wx br sr kr cr r) ⟨((ht.trans t2).alloc _).alloc _, ((o1.only t2).alloc _).alloc _, ((o2.only t2).alloc _).alloc _, ((o3.only t2).alloc _).alloc _, (Own2.new _ _ _ _).alloc _, Own2.new1 _ _ _ _ _, rq.only (((Only.refl w2).alloc _).alloc _), rr.only (((Only.refl w2).alloc _).alloc _)⟩ ?_
  have lq2 : w.heap.size + 1 + 1 < w2.heap.size := (o3.only t2).lt
  clear ht o1 o2 o3 t2 rq rr
  rintro wx ⟨ht, o1, o2, o3, oq, orr, rq, rr⟩
  obtain ⟨hbr, lr', hrr, hrn⟩ := rr
  have lrl := hrn.len LR.out
  have T := (Only.refl wx).drew
  have p2 := o2.drew
  have pr := orr.drew
  have HRR := Lib.hid hrr
  have HRN := Lib.hid hrn
  clear hrr hrn
  go_region_held3 (fun w' => w'.cell? ⟨w2.heap.size + 1, 1, none⟩ = some (.slice sr kr cr) ∧ w'.cell? ⟨w.heap.size + 1, 1, none⟩ = some (.slice s2 k2 c2)) (with_reducible exact ⟨pr.c1, p2.c1⟩) (first | (go_at_call 82; refine (addN_any (HRR.out.only T) (HRR.out.only T) HRN.out HRN.out (by omega) (by omega)).mono ?_; rintro r4 w4 ⟨s4, k4, c4, l4, rfl, h4, n4, t4⟩; have T := T.trans t4; have p2 := p2.only t4; have pr := pr.only t4) | (go_at_call 50; refine (cmpD_any h4 (H2.out.only (ht.trans T)) n4 G2.out (Nm.len_sum n4 LR.out LR.out (by omega)) (Nat.le_trans (G2.out.len LM.out) (by omega))).mono ?_; rintro r5 w5 ⟨rfl, t5⟩; have T := T.trans t5; have p2 := p2.only t5; have pr := pr.only t5))
  rw [← HT'.out]
  replace ht := ht.trans T
  replace o1 := o1.only T
  replace o2 := o2.only T
  replace o3 := o3.only T
  replace oq := oq.only T
  replace rq := rq.only T
  have tr : -1 ≤ t ∧ t ≤ 1 := by rw [HT'.out]; unfold cmpN; split <;> (try split) <;> omega
  obtain ⟨tr1, tr2⟩ := tr
  clear p2 pr T t4 t5 h4 n4 orr lrl
  go_upto_region 3 with (fail)
  go_cut [8] (fun sl wc => sl = .bool odd ∧ Only w wc ∧ BigAt wc w.heap.size b1 s1 k1 c1 ∧ BigAt wc (w.heap.size + 1) b2 s2 k2 c2 ∧ BigAt wc (w.heap.size + 1 + 1) false none 0 0 ∧ BigAt wc w2.heap.size bq sq kq cq ∧ BigR wc bq sq kq cq q)
  case first =>
    have P := Lib.hid (And.intro ht (And.intro o1 (And.intro o2 (And.intro o3 (And.intro oq rq)))))
    obtain ⟨hbq, lq', hqr, hqn⟩ := rq
    have lql := hqn.len LQ.out
    have hks : kq = lq'.length := by
      obtain ⟨_, _, e9, -⟩ := hqr.form
      simp only [Value.slice.injEq] at e9
      exact e9.2.1
    obtain ⟨e1, e2, e3, e4, e5⟩ := oq.all
    rcases odd_head hqn with ⟨h0, hod⟩ | ⟨hnil, hz⟩
    · obtain ⟨spq, capq, eq', -, -, hqc⟩ := hqr.form
      obtain ⟨g, e9, v9⟩ := hqc 0 lq'[0] (List.getElem?_eq_getElem h0)
      subst e9
      simp only [Value.slice.injEq] at eq'
      obtain ⟨rfl, -, -⟩ := eq'
      unfold dgV at v9
      have hoo : ((((lq'[0] : Nat) : Int) % 2 == 1) = odd) := by rw [HOD.out, Bool.eq_iff_iff]; simp only [beq_iff_eq, decide_eq_true_eq]; omega
      have tl : decide (0 < kq) = true := by simp; omega
      have tl2 : decide ((0 : Int) < (kq : Int)) = true := by simp; omega
      have i0 : (0 : Int) < (kq : Int) := by omega
      have i1 : (kq : Int) ≤ 4000 := by omega
      obtain ⟨x0, ex0⟩ : ∃ x0, x0 = lq'[0] := ⟨_, rfl⟩
      rw [← ex0] at v9 hoo
      clear ex0 hod hqc hqr hqn ht o1 o2 o3 oq hbq lql hks h0 tr1 tr2
      go_wp2_with fail
      go_meet
      exact ⟨rfl, P.out⟩
    · have tl : decide (0 < kq) = false := by rw [hks, hnil]; rfl
      have tl2 : decide ((0 : Int) < (kq : Int)) = false := by rw [hks, hnil]; rfl
      have hod : odd = false := by rw [HOD.out, hz]; rfl
      have HO2 := Lib.hid hod
      clear hod hz hnil hqr hqn ht o1 o2 o3 oq hbq lql hks tr1 tr2
      go_wp2_with fail
      go_meet
      exact ⟨by rw [HO2.out], P.out⟩
  case rest =>
    clear ht o1 o2 o3 oq rq
    obtain ⟨rfl, ht, o1, o2, o3, oq, rq⟩ := hcut
    have oqw := oq.lt
    rcases (by omega : t = -1 ∨ t = 0 ∨ t = 1) with e | e | e
    · have p1 : decide (0 < t) = false := by simp; omega
      have p2 : (t == 0) = false := by simp; omega
      have hup : ¬ (0 < t ∨ (t = 0 ∧ odd = true)) := by omega
      clear e
      have HX2 := Lib.hid (HX.out.trans (if_neg hup))
      clear hup tr1 tr2
      obtain ⟨y1, y2, y3, y4, y5⟩ := o3.all
      obtain ⟨e1, e2, e3, e4, e5⟩ := oq.all
      have hb := rq.apart o3 bq sq kq cq
      rw [← HX2.out] at hb
      have HB := Lib.hid hb
      have HT2 := Lib.hid ((ht.set (p := w.heap.size + 1 + 1) (by omega) 0 (.bool bq)).set (p := w.heap.size + 1 + 1) (by omega) 1 (.slice sq kq cq))
      clear hb o3 rq ht o1 o2 oq
      go_wp2
      simp [bodyPost, results, Tryz.results106, go_sem, World.cell?_setCell_other, y1, y2]
      exact ⟨bq, sq, kq, cq, rfl, HB.out, HT2.out⟩
    · have p1 : decide (0 < t) = false := by simp; omega
      have p2 : (t == 0) = true := by simp; omega
      cases odd
      · have hup : ¬ (0 < t ∨ (t = 0 ∧ false = true)) := by simp; omega
        clear e
        have HX2 := Lib.hid (HX.out.trans (if_neg hup))
        clear hup tr1 tr2
        obtain ⟨y1, y2, y3, y4, y5⟩ := o3.all
        obtain ⟨e1, e2, e3, e4, e5⟩ := oq.all
        have hb := rq.apart o3 bq sq kq cq
        rw [← HX2.out] at hb
        have HB := Lib.hid hb
        have HT2 := Lib.hid ((ht.set (p := w.heap.size + 1 + 1) (by omega) 0 (.bool bq)).set (p := w.heap.size + 1 + 1) (by omega) 1 (.slice sq kq cq))
        clear hb o3 rq ht o1 o2 oq
        go_wp2
        simp [bodyPost, results, Tryz.results106, go_sem, World.cell?_setCell_other, y1, y2]
        exact ⟨bq, sq, kq, cq, rfl, HB.out, HT2.out⟩
      · have hup : (0 < t ∨ (t = 0 ∧ true = true)) := Or.inr ⟨e, rfl⟩
        clear e
        have HX2 := Lib.hid (HX.out.trans (if_pos hup))
        clear hup tr1 tr2
        go_wp2_with fail
        go_at_call 13
        refine (bigOf_any (N := 1) (by decide) (by decide) _).mono ?_
        rintro r5 w5 ⟨b5, s5, k5, c5, rfl, r5', t5⟩
        cases hbb : (b1 != b2)
        · rw [hbb] at HX2
          have hb2 : (b1 == b2) = true := by simpa [bne] using hbb
          clear hbb
          have ow : BigAt (w5.alloc (boxOf b5 s5 k5 c5)) w5.heap.size b5 s5 k5 c5 := Own2.new _ _ _ _
          replace o1 := (o1.only t5).alloc (boxOf b5 s5 k5 c5)
          replace o2 := (o2.only t5).alloc (boxOf b5 s5 k5 c5)
          replace o3 := (o3.only t5).alloc (boxOf b5 s5 k5 c5)
          replace oq := (oq.only t5).alloc (boxOf b5 s5 k5 c5)
          replace rq := (rq.only t5).only ((Only.refl w5).alloc (boxOf b5 s5 k5 c5))
          replace r5' := r5'.only ((Only.refl w5).alloc (boxOf b5 s5 k5 c5))
          replace ht := (ht.trans t5).alloc (boxOf b5 s5 k5 c5)
          have sz : w2.heap.size < w5.heap.size := by have := oqw; have := t5.size; omega
          have sz2 : w.heap.size + 1 + 1 < w5.heap.size := by omega
          clear t5
          obtain ⟨a1, a2, a3, a4, a5⟩ := o1.all
          obtain ⟨d1, d2, d3, d4, d5⟩ := o2.all
          obtain ⟨e1, e2, e3, e4, e5⟩ := oq.all
          obtain ⟨f1, f2, f3, f4, f5⟩ := ow.all
          have RQ := Lib.hid rq
          have R1 := Lib.hid r5'
          have O3 := Lib.hid o3
          have HT := Lib.hid ht
          clear rq r5' o3 oq ow ht o1 o2
          go_wp2_with fail
          go_at_call 48
          refine (bigAdd_any RQ.out R1.out (LQ.out.mono (by omega)) (Lim.small (by decide))).mono ?_
          rintro r8 w8 ⟨b8, s8, k8, c8, rfl, r8', t8⟩
          have o3 := O3.out.only t8
          obtain ⟨y1, y2, y3, y4, y5⟩ := o3.all
          have HB := Lib.hid (r8'.apart o3 b8 s8 k8 c8)
          have HT2 := Lib.hid (((HT.out.trans t8).set (p := w.heap.size + 1 + 1) (by omega) 0 (.bool b8)).set (p := w.heap.size + 1 + 1) (by omega) 1 (.slice s8 k8 c8))
          clear t8 o3 r8'
          clear a1 a2 a3 a4 a5 d1 d2 d3 d4 d5 e1 e2 e3 e4 e5 f1 f2 f3 f4 f5
          go_wp2
          simp [bodyPost, results, Tryz.results106, go_sem, World.cell?_setCell_other, y1, y2]
          have hx := HX2.out
          have hb := HB.out
          rw [show q + 1 = x by rw [hx]; simp] at hb
          exact ⟨b8, s8, k8, c8, rfl, hb, HT2.out⟩
        · rw [hbb] at HX2
          have hb2 : (b1 == b2) = false := by simpa [bne] using hbb
          clear hbb
          have ow : BigAt (w5.alloc (boxOf b5 s5 k5 c5)) w5.heap.size b5 s5 k5 c5 := Own2.new _ _ _ _
          replace o1 := (o1.only t5).alloc (boxOf b5 s5 k5 c5)
          replace o2 := (o2.only t5).alloc (boxOf b5 s5 k5 c5)
          replace o3 := (o3.only t5).alloc (boxOf b5 s5 k5 c5)
          replace oq := (oq.only t5).alloc (boxOf b5 s5 k5 c5)
          replace rq := (rq.only t5).only ((Only.refl w5).alloc (boxOf b5 s5 k5 c5))
          replace r5' := r5'.only ((Only.refl w5).alloc (boxOf b5 s5 k5 c5))
          replace ht := (ht.trans t5).alloc (boxOf b5 s5 k5 c5)
          have sz : w2.heap.size < w5.heap.size := by have := oqw; have := t5.size; omega
          have sz2 : w.heap.size + 1 + 1 < w5.heap.size := by omega
          clear t5
          obtain ⟨a1, a2, a3, a4, a5⟩ := o1.all
          obtain ⟨d1, d2, d3, d4, d5⟩ := o2.all
          obtain ⟨e1, e2, e3, e4, e5⟩ := oq.all
          obtain ⟨f1, f2, f3, f4, f5⟩ := ow.all
          go_wp2_with fail
          go_at_call 13
          refine (bigOf_any (N := -1) (by decide) (by decide) _).mono ?_
          rintro r6 w6 ⟨b6, s6, k6, c6, rfl, r6', t6⟩
          clear a1 a2 a3 a4 a5 d1 d2 d3 d4 d5 e1 e2 e3 e4 e5 f1 f2 f3 f4 f5 r5'
          have r7 := r6'.apart (ow.only t6) b6 s6 k6 c6
          replace rq := (rq.only t6).apart (ow.only t6) b6 s6 k6 c6
          replace o3 := ((o3.only t6).far (p := w5.heap.size) (by omega) 0 (.bool b6)).far (p := w5.heap.size) (by omega) 1 (.slice s6 k6 c6)
          replace oq := ((oq.only t6).far (p := w5.heap.size) (by omega) 0 (.bool b6)).far (p := w5.heap.size) (by omega) 1 (.slice s6 k6 c6)
          replace ht := ((ht.trans t6).set (p := w5.heap.size) (by omega) 0 (.bool b6)).set (p := w5.heap.size) (by omega) 1 (.slice s6 k6 c6)
          replace ow := ow.only t6
          obtain ⟨g1, g2, g3, g4, g5⟩ := ow.all
          replace ow := ow.set (.bool b6) (.slice s6 k6 c6)
          clear t6 r6' o1 o2
          obtain ⟨e1, e2, e3, e4, e5⟩ := oq.all
          obtain ⟨f1, f2, f3, f4, f5⟩ := ow.all
          have RQ := Lib.hid rq
          have R1 := Lib.hid r7
          have O3 := Lib.hid o3
          have HT := Lib.hid ht
          clear rq r7 o3 oq ow ht
          go_wp2_with fail
          go_at_call 48
          refine (bigAdd_any RQ.out R1.out (LQ.out.mono (by omega)) (Lim.small (by decide))).mono ?_
          rintro r8 w8 ⟨b8, s8, k8, c8, rfl, r8', t8⟩
          have o3 := O3.out.only t8
          obtain ⟨y1, y2, y3, y4, y5⟩ := o3.all
          have HB := Lib.hid (r8'.apart o3 b8 s8 k8 c8)
          have HT2 := Lib.hid (((HT.out.trans t8).set (p := w.heap.size + 1 + 1) (by omega) 0 (.bool b8)).set (p := w.heap.size + 1 + 1) (by omega) 1 (.slice s8 k8 c8))
          clear t8 o3 r8'
          clear e1 e2 e3 e4 e5 f1 f2 f3 f4 f5 g1 g2 g3 g4 g5
          go_wp2
          simp [bodyPost, results, Tryz.results106, go_sem, World.cell?_setCell_other, y1, y2]
          have hx := HX2.out
          have hb := HB.out
          rw [show q + (-1) = x by rw [hx]; simp] at hb
          exact ⟨b8, s8, k8, c8, rfl, hb, HT2.out⟩
    · have p1 : decide (0 < t) = true := by simp; omega
      have hup : (0 < t ∨ (t = 0 ∧ odd = true)) := Or.inl (by omega)
      clear e
      have HX2 := Lib.hid (HX.out.trans (if_pos hup))
      clear hup tr1 tr2
      go_wp2_with fail
      go_at_call 13
      refine (bigOf_any (N := 1) (by decide) (by decide) _).mono ?_
      rintro r5 w5 ⟨b5, s5, k5, c5, rfl, r5', t5⟩
      cases hbb : (b1 != b2)
      · rw [hbb] at HX2
        have hb2 : (b1 == b2) = true := by simpa [bne] using hbb
        clear hbb
        have ow : BigAt (w5.alloc (boxOf b5 s5 k5 c5)) w5.heap.size b5 s5 k5 c5 := Own2.new _ _ _ _
        replace o1 := (o1.only t5).alloc (boxOf b5 s5 k5 c5)
        replace o2 := (o2.only t5).alloc (boxOf b5 s5 k5 c5)
        replace o3 := (o3.only t5).alloc (boxOf b5 s5 k5 c5)
        replace oq := (oq.only t5).alloc (boxOf b5 s5 k5 c5)
        replace rq := (rq.only t5).only ((Only.refl w5).alloc (boxOf b5 s5 k5 c5))
        replace r5' := r5'.only ((Only.refl w5).alloc (boxOf b5 s5 k5 c5))
        replace ht := (ht.trans t5).alloc (boxOf b5 s5 k5 c5)
        have sz : w2.heap.size < w5.heap.size := by have := oqw; have := t5.size; omega
        have sz2 : w.heap.size + 1 + 1 < w5.heap.size := by omega
        clear t5
        obtain ⟨a1, a2, a3, a4, a5⟩ := o1.all
        obtain ⟨d1, d2, d3, d4, d5⟩ := o2.all
        obtain ⟨e1, e2, e3, e4, e5⟩ := oq.all
        obtain ⟨f1, f2, f3, f4, f5⟩ := ow.all
        have RQ := Lib.hid rq
        have R1 := Lib.hid r5'
        have O3 := Lib.hid o3
        have HT := Lib.hid ht
        clear rq r5' o3 oq ow ht o1 o2
        go_wp2_with fail
        go_at_call 48
        refine (bigAdd_any RQ.out R1.out (LQ.out.mono (by omega)) (Lim.small (by decide))).mono ?_
        rintro r8 w8 ⟨b8, s8, k8, c8, rfl, r8', t8⟩
        have o3 := O3.out.only t8
        obtain ⟨y1, y2, y3, y4, y5⟩ := o3.all
        have HB := Lib.hid (r8'.apart o3 b8 s8 k8 c8)
        have HT2 := Lib.hid (((HT.out.trans t8).set (p := w.heap.size + 1 + 1) (by omega) 0 (.bool b8)).set (p := w.heap.size + 1 + 1) (by omega) 1 (.slice s8 k8 c8))
        clear t8 o3 r8'
        clear a1 a2 a3 a4 a5 d1 d2 d3 d4 d5 e1 e2 e3 e4 e5 f1 f2 f3 f4 f5
        go_wp2
        simp [bodyPost, results, Tryz.results106, go_sem, World.cell?_setCell_other, y1, y2]
        have hx := HX2.out
        have hb := HB.out
        rw [show q + 1 = x by rw [hx]; simp] at hb
        exact ⟨b8, s8, k8, c8, rfl, hb, HT2.out⟩
      · rw [hbb] at HX2
        have hb2 : (b1 == b2) = false := by simpa [bne] using hbb
        clear hbb
        have ow : BigAt (w5.alloc (boxOf b5 s5 k5 c5)) w5.heap.size b5 s5 k5 c5 := Own2.new _ _ _ _
        replace o1 := (o1.only t5).alloc (boxOf b5 s5 k5 c5)
        replace o2 := (o2.only t5).alloc (boxOf b5 s5 k5 c5)
        replace o3 := (o3.only t5).alloc (boxOf b5 s5 k5 c5)
        replace oq := (oq.only t5).alloc (boxOf b5 s5 k5 c5)
        replace rq := (rq.only t5).only ((Only.refl w5).alloc (boxOf b5 s5 k5 c5))
        replace r5' := r5'.only ((Only.refl w5).alloc (boxOf b5 s5 k5 c5))
        replace ht := (ht.trans t5).alloc (boxOf b5 s5 k5 c5)
        have sz : w2.heap.size < w5.heap.size := by have := oqw; have := t5.size; omega
        have sz2 : w.heap.size + 1 + 1 < w5.heap.size := by omega
        clear t5
        obtain ⟨a1, a2, a3, a4, a5⟩ := o1.all
        obtain ⟨d1, d2, d3, d4, d5⟩ := o2.all
        obtain ⟨e1, e2, e3, e4, e5⟩ := oq.all
        obtain ⟨f1, f2, f3, f4, f5⟩ := ow.all
        go_wp2_with fail
        go_at_call 13
        refine (bigOf_any (N := -1) (by decide) (by decide) _).mono ?_
        rintro r6 w6 ⟨b6, s6, k6, c6, rfl, r6', t6⟩
        clear a1 a2 a3 a4 a5 d1 d2 d3 d4 d5 e1 e2 e3 e4 e5 f1 f2 f3 f4 f5 r5'
        have r7 := r6'.apart (ow.only t6) b6 s6 k6 c6
        replace rq := (rq.only t6).apart (ow.only t6) b6 s6 k6 c6
        replace o3 := ((o3.only t6).far (p := w5.heap.size) (by omega) 0 (.bool b6)).far (p := w5.heap.size) (by omega) 1 (.slice s6 k6 c6)
        replace oq := ((oq.only t6).far (p := w5.heap.size) (by omega) 0 (.bool b6)).far (p := w5.heap.size) (by omega) 1 (.slice s6 k6 c6)
        replace ht := ((ht.trans t6).set (p := w5.heap.size) (by omega) 0 (.bool b6)).set (p := w5.heap.size) (by omega) 1 (.slice s6 k6 c6)
        replace ow := ow.only t6
        obtain ⟨g1, g2, g3, g4, g5⟩ := ow.all
        replace ow := ow.set (.bool b6) (.slice s6 k6 c6)
        clear t6 r6' o1 o2
        obtain ⟨e1, e2, e3, e4, e5⟩ := oq.all
        obtain ⟨f1, f2, f3, f4, f5⟩ := ow.all
        have RQ := Lib.hid rq
        have R1 := Lib.hid r7
        have O3 := Lib.hid o3
        have HT := Lib.hid ht
        clear rq r7 o3 oq ow ht
        go_wp2_with fail
        go_at_call 48
        refine (bigAdd_any RQ.out R1.out (LQ.out.mono (by omega)) (Lim.small (by decide))).mono ?_
        rintro r8 w8 ⟨b8, s8, k8, c8, rfl, r8', t8⟩
        have o3 := O3.out.only t8
        obtain ⟨y1, y2, y3, y4, y5⟩ := o3.all
        have HB := Lib.hid (r8'.apart o3 b8 s8 k8 c8)
        have HT2 := Lib.hid (((HT.out.trans t8).set (p := w.heap.size + 1 + 1) (by omega) 0 (.bool b8)).set (p := w.heap.size + 1 + 1) (by omega) 1 (.slice s8 k8 c8))
        clear t8 o3 r8'
        clear e1 e2 e3 e4 e5 f1 f2 f3 f4 f5 g1 g2 g3 g4 g5
        go_wp2
        simp [bodyPost, results, Tryz.results106, go_sem, World.cell?_setCell_other, y1, y2]
        have hx := HX2.out
        have hb := HB.out
        rw [show q + (-1) = x by rw [hx]; simp] at hb
        exact ⟨b8, s8, k8, c8, rfl, hb, HT2.out⟩

theorem bigEven_any {b1 b2 : Bool} {s1 s2 : Option Addr} {k1 c1 k2 c2 : Nat} {n m : Int} {w : World} (h1 : BigR w b1 s1 k1 c1 n) (h2 : BigR w b2 s2 k2 c2 m) (l1 : Lim n 4000) (l2 : Lim m 4000) (hm : m ≠ 0) :
    Calls Tryz.prog 106 #[.agg #[.bool b1, .slice s1 k1 c1], .agg #[.bool b2, .slice s2 k2 c2]] w (BigSays w (evenOf n m)) := by
  have e1 := h1.1
  have e2 := h2.1
  obtain ⟨-, l2', r2, g2⟩ := h2
  have lr : Lim (n.tmod m) 4000 := by
    unfold Lim at *
    rw [Int.natAbs_tmod]
    exact Nat.lt_of_le_of_lt (Nat.mod_le _ _) l1
  have lq : Lim (n.tdiv m) 4000 := by
    unfold Lim at *
    rw [Int.natAbs_tdiv]
    exact Nat.lt_of_le_of_lt (Nat.div_le_self _ _) l1
  refine bigEven_walk (q := n.tdiv m) (r := n.tmod m) (m := m) (fun W t => bigQuo_any (h1.only t) (⟨e2, l2', r2.only t, g2⟩ : BigR W b2 s2 k2 c2 m) (l1.mono (by omega)) (l2.mono (by omega)) hm) r2 g2 lr lq l2 rfl rfl ?_
  rw [e1, e2]
  unfold evenOf
  have ht : (0 < cmpN ((n.tmod m).natAbs + (n.tmod m).natAbs) m.natAbs ∨ (cmpN ((n.tmod m).natAbs + (n.tmod m).natAbs) m.natAbs = 0 ∧ decide ((n.tdiv m).natAbs % 2 = 1) = true)) ↔ (m.natAbs < 2 * (n.tmod m).natAbs ∨ (2 * (n.tmod m).natAbs = m.natAbs ∧ (n.tdiv m).natAbs % 2 = 1)) := by
    simp only [decide_eq_true_eq]
    generalize (n.tmod m).natAbs = r
    generalize (n.tdiv m).natAbs = q
    unfold cmpN
    split <;> (try split) <;> omega
  by_cases c : m.natAbs < 2 * (n.tmod m).natAbs ∨ (2 * (n.tmod m).natAbs = m.natAbs ∧ (n.tdiv m).natAbs % 2 = 1)
  · rw [if_pos c, if_pos (ht.2 c)]
  · rw [if_neg c, if_neg (fun h => c (ht.1 h))]
end Go.Proofs.YtopklnaahdjafaaGreatDoor
