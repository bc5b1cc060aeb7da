/-
  THE LAW FsPlays: Does of Append.
-/
import Derived.Test.YtpaekggmphahoaaEDoes
namespace Go.Proofs.Ytpaekggmphahoaa
open Go.RowKit Go.Maps Go.WideMaps
set_option linter.unusedVariables false
set_option linter.unusedSimpArgs false
section
variable {w w1 w2 w' : World} {p q base : Nat} {S S' : Fsp.Fs} {Q R : Nat → Prop} {v : Value} {l : List RF}

theorem LentE.block {b : List UInt8} (h : LentE w base v b) : ∃ g cap, v = .slice (some ⟨g, 0, none⟩) b.length cap ∧ base ≤ g ∧ g < w.heap.size := by
  obtain ⟨g, cap, e, h1, h3, h2⟩ := h
  have := h2.new g (by simp [Value.ownBlock])
  exact ⟨g, cap, e, this.1, this.2⟩
/-- both operations, and a block that is neither's written over -/
theorem Both.stepG {mo : Option Nat} {pl : List UInt8 → Pl} {g : Nat} (h1 : RepX w p S false Q mo pl) (h2 : RefX w q S R v l) (h3 : ∀ b, Q b → ¬ R b) (h4 : ∀ b, Q b → base ≤ b) (h5 : ∀ b, R b → base ≤ b) (hb : base ≤ w.heap.size)
    (k1 : Post w p S' Q w1) (k2 : RPost w1 q S' R w2) (hQ : ¬ Q g) (hR : ¬ R g) (hg : g < w.heap.size) (hgb : base ≤ g) (t : Turn (fun b => b = g) w2 w') : BPost w p q S' base w' := by
  obtain ⟨⟨mo', pl', r1⟩, t1⟩ := k1
  obtain ⟨⟨v', l', r2⟩, t2⟩ := k2
  have s1 := t1.size
  have s2 := t2.size
  have s3 := t.size
  have hd : ∀ b, Grow Q w w1 b → ¬ R b := fun b g r => by
    rcases g with g | g
    · exact h3 b g r
    · have := h2.lt b r; omega
  have n1 : ¬ Grow Q w w1 g := fun k => by
    rcases k with k | k
    · exact hQ k
    · omega
  have n2 : ¬ Grow R w1 w2 g := fun k => by
    rcases k with k | k
    · exact hR k
    · omega
  have e1 := (r1.turned t2 hd).turned t (fun b k e => n1 (e ▸ k))
  have e2 := r2.turned t (fun b k e => n2 (e ▸ k))
  refine ⟨⟨Grow Q w w1, Grow R w1 w2, mo', pl', v', l', e1, e2, fun b g k => ?_, fun b g => ?_, fun b g => ?_⟩, ?_⟩
  · rcases k with k | k
    · exact hd b g k
    · have := r1.lt b g; omega
  · rcases g with g | g
    · exact h4 b g
    · omega
  · rcases g with g | g
    · exact h5 b g
    · omega
  · exact ((t1.mono h4).trans (t2.mono h5) (fun _ _ e => e)).trans (t.mono fun b e => by rw [e]; exact hgb) (fun _ _ e => e)
/-- a block of bytes -/
def Cur (w : World) (g n : Nat) : Prop := ∃ cur, w.heap[g]? = some (.cells cur 5 (0, 0)) ∧ n ≤ cur.size
theorem Cur.set {g n : Nat} (h : Cur w g n) (j : Nat) (u : Value) : Cur (w.setCell ⟨g, j, none⟩ u) g n := by
  obtain ⟨cur, h1, h2⟩ := h
  exact ⟨_, hset h1 u, by simpa using h2⟩
theorem Cur.cell {g n j : Nat} (h : Cur w g n) (hj : j < n) : (∃ x, w.cell? ⟨g, j, none⟩ = some x) ∧ w.frozen? ⟨g, j, none⟩ = false := by
  obtain ⟨cur, h1, h2⟩ := h
  refine ⟨⟨cur[j], ?_⟩, by simp [World.frozen?, h1]⟩
  simp [World.cell?, h1]
theorem LentE.cur {b : List UInt8} {g n cap : Nat} (h : LentE w base (.slice (some ⟨g, 0, none⟩) n cap) b) : Cur w g b.length := by
  obtain ⟨g', cap', e, h1, h3, h2⟩ := h
  simp only [Value.slice.injEq, Option.some.injEq, Addr.mk.injEq] at e
  obtain ⟨⟨rfl, -, -⟩, -, -⟩ := e
  rcases h2.2 with ⟨k, _⟩ | ⟨g2, cap2, cur, e2, k1, k2, k3, k4, k5, k6⟩
  · cases k
  · simp only [Value.slice.injEq, Option.some.injEq, Addr.mk.injEq] at e2
    obtain ⟨⟨rfl, -, -⟩, -, rfl⟩ := e2
    exact ⟨cur, k2, by omega⟩
set_option maxRecDepth 100000 in
set_option maxHeartbeats 1000000 in
theorem does_1 (h : Both w p q S base) (hb : base ≤ w.heap.size) (hs : StepsOk S) (o : OpD) (ho : OpOk w o) (hl : o.b.length ≤ 1048576) (hv : ∀ W, Turn (fun b => base ≤ b) w W → SliceI W o.bv o.b) (hk : o.kind = 1) :
    Calls Try.prog 11 #[.pointer (some ⟨p, 0, none⟩), .pointer (some ⟨q, 0, none⟩), opVal o] w fun r w' => r = .returned (.bool true) ∧ BPost w p q (toldS S o).1 base w' := by
  have ht := turnBox w (boxOf o)
  have HT := Lib.hid ht
  have e : toldS S o = Fsp.append S o.name.data.toList o.b := by simp [toldS, hk]
  rw [e]
  unfold opVal
  rw [hk]
  obtain ⟨Q, R, mo, pl, v, l, g1, g2, h3, h4, h5⟩ := h
  have LE := Lib.hid (lent_any (hv _ (ht.mono fun _ e => e.elim)) hl)
  unfold boxOf at LE
  rw [hk] at LE
  have b2 : (w.alloc (.cells #[.int .i64 1, .int .i64 o.n, .string o.name, .string o.to, o.bv] 31)).cell? ⟨w.heap.size, 2, none⟩ = some (.string o.name) := cell_new w _ _ 2
  have b4 : (w.alloc (.cells #[.int .i64 1, .int .i64 o.n, .string o.name, .string o.to, o.bv] 31)).cell? ⟨w.heap.size, 4, none⟩ = some o.bv := cell_new w _ _ 4
  have hst : S.steps < 9223372036854775807 := by unfold StepsOk at hs; omega
  have hn := ho.name
  have hg := g1.good
  obtain ⟨wb, hwb⟩ : ∃ wb, wb = w.alloc (.cells #[.int .i64 1, .int .i64 o.n, .string o.name, .string o.to, o.bv] 31) := ⟨_, rfl⟩
  unfold boxOf at ht
  rw [hk, ← hwb] at ht
  rw [← hwb] at LE b2 b4
  have h1 := g1.turned ht (fun _ _ e => e)
  have h2 := g2.same ht
  have hQ : ¬ Q w.heap.size := fun k => by have := g1.lt _ k; omega
  have hR : ¬ R w.heap.size := fun k => by have := g2.lt _ k; omega
  have hbb := ht.size
  have AP := Lib.hid (fun (w1 : World) (t : Only wb w1) (v1 : Value) (hle : LentE w1 wb.heap.size v1 o.b) => append_any (h1.turned t.turn (fun _ _ e => e)) hs o.name hn v1 o.b hle.I (by unfold maxLen; omega) (fun ad n cap e h0 k => by
    obtain ⟨g, cap', e2, k1, k2⟩ := hle.block
    rw [e2] at e; simp only [Value.slice.injEq, Option.some.injEq] at e
    obtain ⟨rfl, -, -⟩ := e
    have := h1.lt _ k; simp at this; omega))
  have tw : ∀ w1 w2, Only wb w1 → Turn Q w1 w2 → Turn (fun b => base ≤ b) w w2 := fun w1 w2 t1 t2 => ((ht.mono fun _ e => e.elim).trans ((t1.turn).mono fun _ e => e.elim) (fun _ _ e => e)).trans (t2.mono h4) (fun _ _ e => e)
  have RA := Lib.hid (fun (w1 w2 : World) (t : Only wb w1) (t2 : Turn Q w1 w2) => rAppend_any (vb := o.bv) (b := o.b) (Both.turnR (h2.same t.turn) h3 t2) hg hst o.name (fun W tW => hv W ((tw w1 w2 t t2).trans (tW.mono h5) (fun _ _ e => e))) (by omega))
  have KE := Lib.hid (fun (w1 w2 w3 : World) (v1 : Value) (t : Only wb w1) (hle : LentE w1 wb.heap.size v1 o.b) (t2 : Turn Q w1 w2) (t3 : Turn R w2 w3) => kept_any (b := o.b) (u := o.bv) ((hle.turned t2 (fun r hr k => by
      obtain ⟨g, cap', e2, k1, k2⟩ := hle.block
      rw [e2] at hr; simp [Value.ownBlock] at hr; subst hr
      have := h1.lt _ k; omega)).turned t3 (fun r hr k => by
      obtain ⟨g, cap', e2, k1, k2⟩ := hle.block
      rw [e2] at hr; simp [Value.ownBlock] at hr; subst hr
      have := h2.lt _ k; omega)) (hv w3 ((tw w1 w2 t t2).trans (t3.mono h5) (fun _ _ e => e))) hl)
  have LK := Lib.hid (fun (w1 w2 w3 : World) (v1 : Value) (hle : LentE w1 wb.heap.size v1 o.b) (t2 : Turn Q w1 w2) (t3 : Turn R w2 w3) => (hle.turned t2 (fun r hr k => by
      obtain ⟨g, cap', e2, k1, k2⟩ := hle.block
      rw [e2] at hr; simp [Value.ownBlock] at hr; subst hr
      have := h1.lt _ k; omega)).turned t3 (fun r hr k => by
      obtain ⟨g, cap', e2, k1, k2⟩ := hle.block
      rw [e2] at hr; simp [Value.ownBlock] at hr; subst hr
      have := h2.lt _ k; omega))
  have FIN := Lib.hid (fun (w1 w2 w3 wr : World) (g : Nat) (t : Only wb w1) (k1 : Post w1 p (Fsp.append S o.name.data.toList o.b).1 Q w2) (k2 : RPost w2 q (Fsp.append S o.name.data.toList o.b).1 R w3) (hg1 : wb.heap.size ≤ g) (hg2 : g < w1.heap.size) (tr : Turn (fun b => b = g) w3 wr) => ((Both.stepG (h1.turned t.turn (fun _ _ e => e)) (h2.same t.turn) h3 h4 h5 (Nat.le_trans (Nat.le_trans hb hbb) t.size) k1 k2 (fun k => by have := h1.lt _ k; omega) (fun k => by have := h2.lt _ k; omega) hg2 (by omega) tr).pre t.turn).pre ht)
  have HQR := Lib.hid (And.intro hQ hR)
  have HK := Lib.hid hk
  clear e ho hk g1 g2 h1 h2 h3 h4 h5 hs hst hn hg ht hb hv tw hQ hR hbb
  go_enter Try.func11, Try.ntmps11
  rw [hwb] at LE b2 b4
  go_wp2_with fail
  go_at_call 29
  refine LE.out.mono ?_
  rintro r w1 ⟨⟨v1, rfl, hle⟩, t1⟩
  have q2 := t1.cellM b2
  have q4 := t1.cellM b4
  have HLE := Lib.hid hle
  have T1 := Lib.hid t1
  clear b2 b4 hle t1
  go_wp2_with fail
  go_at_call 16
  refine (AP.out w1 (by rw [hwb]; exact T1.out) v1 (by rw [hwb]; exact HLE.out)).mono ?_
  rintro r w2 ⟨rfl, hp⟩
  have HP := Lib.hid hp
  have r2 := turned_cell q2 hp.2 HQR.out.1
  have r4 := turned_cell q4 hp.2 HQR.out.1
  clear q2 q4 hp
  go_wp2_with fail
  go_at_call 30
  refine (RA.out w1 w2 (by rw [hwb]; exact T1.out) HP.out.2).mono ?_
  rintro r w3 ⟨rfl, hr⟩
  have HR := Lib.hid hr
  have s4 := turned_cell r4 hr.2 HQR.out.2
  clear r2 r4 hr
  go_wp2_with fail
  go_at_call 31
  refine (KE.out w1 w2 w3 v1 (by rw [hwb]; exact T1.out) (by rw [hwb]; exact HLE.out) HP.out.2 HR.out.2).mono ?_
  rintro r w4 ⟨rfl, hlk⟩
  have HLK := Lib.hid hlk
  clear hlk s4
  go_wp2_with fail
  obtain ⟨g, cap1, hv1, hg1, hg2⟩ := HLE.out.block
  subst hv1
  have hl3 := (LK.out w1 w2 w3 _ (by rw [hwb]; exact HLE.out) HP.out.2 HR.out.2).cur
  have hc4 : Cur w4 g o.b.length := by
    obtain ⟨cur, k1, k2⟩ := hl3
    exact ⟨cur, by rw [HLK.out.heap]; exact k1, k2⟩
  have HC4 := Lib.hid hc4
  have HG := Lib.hid (And.intro hg1 hg2)
  clear hl3 hc4 hg1 hg2
  obtain ⟨m, hm⟩ : ∃ m, m = o.b.length := ⟨_, rfl⟩
  rw [← hm] at HC4 ⊢
  have hm2 : (m : Int) ≤ 1048576 := by omega
  clear hm
  go_loopw [11] (fun i wr => ∃ k : Nat, k ≤ m ∧ i = .int .i64 (k : Int) ∧ Cur wr g m ∧ Turn (fun b => b = g) w4 wr) (fun i _ => m - (intOf i).toNat)
  case atStart => exact ⟨0, Nat.zero_le _, rfl, HC4.out, Turn.refl _ _⟩
  case round =>
    obtain ⟨k, hk, rfl, hc, htr⟩ := hrel
    have HC := Lib.hid hc
    have HTR := Lib.hid htr
    clear hc htr
    by_cases hlt : k < m
    · have j1 : (k : Int) < (m : Int) := by omega
      obtain ⟨⟨x, cx⟩, fx⟩ := HC.out.cell hlt
      go_wp2_with fail
      exact ⟨⟨k + 1, by omega, by go_num, HC.out.set _ _, HTR.out.set _ _ (Or.inl rfl) _⟩, by simp [intOf]; omega⟩
    · obtain rfl : k = m := by omega
      have HF := Lib.hid (FIN.out w1 w2 w3 _ g (by rw [hwb]; exact T1.out) HP.out HR.out (by rw [hwb]; exact HG.out.1) HG.out.2 (Turn.trans ⟨HLK.out.os, HLK.out.tape, HLK.out.output, by rw [HLK.out.heap]; exact Nat.le_refl _, fun k _ _ => by rw [HLK.out.heap]⟩ HTR.out (fun _ _ e => e)))
      go_wp2_with (go_at_call 20; refine (num_any _ _).mono ?_; rintro r w' ⟨rfl, rfl⟩)
      go_ret
      exact ⟨ret_bool (by simp), HF.out⟩
end
end Go.Proofs.Ytpaekggmphahoaa
