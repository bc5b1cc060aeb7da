/-
  THE LAW FsPlays: both file systems beside each other; Does, one operation at a time.
-/
import Derived.Test.YtpaekggmphahoaaELent
namespace Go.Proofs.Ytpaekggmphahoaa
open Go.RowKit Go.Maps Go.WideMaps
set_option linter.unusedVariables false
set_option linter.unusedSimpArgs false

/-- the program's file system at p and the document's at q hold the same; all their blocks lie from base on -/
def Both (w : World) (p q : Nat) (S : Fsp.Fs) (base : Nat) : Prop :=
  ∃ (Q R : Nat → Prop) (mo : Option Nat) (pl : List UInt8 → Pl) (v : Value) (l : List RF), RepX w p S false Q mo pl ∧ RefX w q S R v l ∧ (∀ b, Q b → ¬ R b) ∧ (∀ b, Q b → base ≤ b) ∧ (∀ b, R b → base ≤ b)
/-- what an operation on both leaves -/
def BPost (w : World) (p q : Nat) (S : Fsp.Fs) (base : Nat) (w' : World) : Prop := Both w' p q S base ∧ Turn (fun b => base ≤ b) w w'
section
variable {w w1 w2 w' : World} {p q base : Nat} {S S' : Fsp.Fs}
theorem Both.good (h : Both w p q S base) : Fsp.Good S := by obtain ⟨Q, R, mo, pl, v, l, h1, -⟩ := h; exact h1.good
theorem Both.same (h : Both w p q S base) (t : Turn (fun _ => False) w w') : Both w' p q S base := by
  obtain ⟨Q, R, mo, pl, v, l, h1, h2, h3⟩ := h
  exact ⟨Q, R, mo, pl, v, l, h1.turned t (fun _ _ e => e), h2.same t, h3⟩
/-- the program's operation, then the document's -/
theorem Both.step {Q R : Nat → Prop} {mo : Option Nat} {pl : List UInt8 → Pl} {v : Value} {l : List RF} (h1 : RepX w p S false Q mo pl) (h2 : RefX w q S R v l) (h3 : ∀ b, Q b → ¬ R b) (h4 : ∀ b, Q b → base ≤ b) (h5 : ∀ b, R b → base ≤ b) (hb : base ≤ w.heap.size)
    (k1 : Post w p S' Q w1) (k2 : RPost w1 q S' R w2) : BPost w p q S' base w2 := by
  obtain ⟨⟨mo', pl', r1⟩, t1⟩ := k1
  obtain ⟨⟨v', l', r2⟩, t2⟩ := k2
  have s1 := t1.size
  have s2 := t2.size
  have hd : ∀ b, Grow Q w w1 b → ¬ R b := fun b g r => by
    rcases g with g | g
    · exact h3 b g r
    · have := h2.lt b r; omega
  refine ⟨⟨Grow Q w w1, Grow R w1 w2, mo', pl', v', l', r1.turned t2 hd, r2, fun b g k => ?_, fun b g => ?_, fun b g => ?_⟩, ?_⟩
  · rcases k with k | k
    · exact hd b g k
    · have := r1.lt b g; omega
  · rcases g with g | g
    · exact h4 b g
    · omega
  · rcases g with g | g
    · exact h5 b g
    · omega
  · exact (t1.mono h4).trans (t2.mono h5) (fun _ _ e => e)
theorem Both.turnR {Q R : Nat → Prop} {v : Value} {l : List RF} (h2 : RefX w q S R v l) (h3 : ∀ b, Q b → ¬ R b) (t1 : Turn Q w w1) : RefX w1 q S R v l := h2.turned t1 (fun b r g => h3 b g r)

theorem BPost.pre {w0 : World} (h : BPost w p q S base w') (t : Turn (fun _ => False) w0 w) : BPost w0 p q S base w' := ⟨h.1, (t.mono fun _ e => e.elim).trans h.2 (fun _ _ e => e)⟩

/-- the same, with what only makes memory between -/
theorem Both.steps {Q R : Nat → Prop} {mo : Option Nat} {pl : List UInt8 → Pl} {v : Value} {l : List RF} {w0 wx : World} (h1 : RepX w p S false Q mo pl) (h2 : RefX w q S R v l) (h3 : ∀ b, Q b → ¬ R b) (h4 : ∀ b, Q b → base ≤ b) (h5 : ∀ b, R b → base ≤ b) (hb : base ≤ w.heap.size)
    (t0 : Turn (fun _ => False) w w0) (k1 : Post w0 p S' Q w1) (tx : Turn (fun _ => False) w1 wx) (k2 : RPost wx q S' R w2) : BPost w p q S' base w2 := by
  have a1 := h1.turned t0 (fun _ _ e => e)
  have k1' : Post w0 p S' Q wx := by
    obtain ⟨⟨mo', pl', r1⟩, t1⟩ := k1
    have s1 := tx.size
    exact ⟨⟨mo', pl', (r1.turned tx (fun _ _ e => e)).mono (fun b hb => by rcases hb with k | k; exact Or.inl k; exact Or.inr ⟨k.1, by omega⟩) (fun b hb => by
      rcases hb with k | k
      · have := a1.lt b k; have := t1.size; omega
      · exact k.2)⟩, t1.trans (tx.mono fun _ e => e.elim) (fun _ _ e => e)⟩
  exact (Both.step a1 (h2.same t0) h3 h4 h5 (Nat.le_trans hb t0.size) k1' k2).pre t0

set_option maxRecDepth 100000 in
set_option maxHeartbeats 1000000 in
theorem does_0 (h : Both w p q S base) (hb : base ≤ w.heap.size) (hs : StepsOk S) (o : OpD) (ho : OpOk w o) (hk : o.kind = 0) :
    Calls Try.prog 11 #[.pointer (some ⟨p, 0, none⟩), .pointer (some ⟨q, 0, none⟩), opVal o] w fun r w' => r = .returned (.bool true) ∧ BPost w p q (toldS S o).1 base w' := by
  have ht := turnBox w (boxOf o)
  have HT := Lib.hid ht
  have hb' : base ≤ (w.alloc (boxOf o)).heap.size := Nat.le_trans hb ht.size
  unfold boxOf at hb'
  have e : toldS S o = Fsp.create S o.name.data.toList := by simp [toldS, hk]
  rw [e]
  unfold opVal
  rw [hk] at hb' ⊢
  obtain ⟨Q, R, mo, pl, v, l, g1, g2, h3, h4, h5⟩ := h
  have hQ : ¬ Q w.heap.size := fun k => by have := g1.lt _ k; omega
  have hR : ¬ R w.heap.size := fun k => by have := g2.lt _ k; omega
  have h1 := g1.turned ht (fun _ _ e => e)
  have h2 := g2.same ht
  unfold boxOf at h1 h2
  rw [hk] at h1 h2
  have hn := ho.name
  have hto := ho.to
  have hnn := ho.n
  have CR := Lib.hid (fun (w0 : World) (t : Turn (fun _ => False) _ w0) => create_any (h1.turned t (fun _ _ e => e)) hs o.name hn)
  have hg := h1.good
  have hst : S.steps < 9223372036854775807 := by unfold StepsOk at hs; omega
  have RC := Lib.hid (fun (w0 w1 wx : World) (t0 : Turn (fun _ => False) _ w0) (t1 : Turn Q w0 w1) (tx : Turn (fun _ => False) w1 wx) => rCreate_any ((Both.turnR (h2.same t0) h3 t1).same tx) hg hst o.name (fun W => rValid_any o.name hn W))
  have FIN := Lib.hid (fun (w0 w1 wx w2 : World) (t0 : Turn (fun _ => False) _ w0) (k1 : Post w0 p (Fsp.create S o.name.data.toList).1 Q w1) (tx : Turn (fun _ => False) w1 wx) (k2 : RPost wx q (Fsp.create S o.name.data.toList).1 R w2) => Both.steps h1 h2 h3 h4 h5 hb' t0 k1 tx k2)
  have HK := Lib.hid hk
  clear e ho hk g1 g2 h1 h2 h3 h4 h5 hs hg hn hto hnn ht hb hb' hst
  go_enter Try.func11, Try.ntmps11
  go_upto_region 3 with (fail)
  have b2 : (w.alloc (.cells #[.int .i64 0, .int .i64 o.n, .string o.name, .string o.to, o.bv] 31)).cell? ⟨w.heap.size, 2, none⟩ = some (.string o.name) := cell_new w _ _ 2
  go_region_held3 (fun w' => w'.cell? ⟨w.heap.size, 2, none⟩ = some (.string o.name)) (first | (exact b2) | (exact q2) | (exact q3) | go_keep) (first | (go_at_call 9; refine (CR.out _ (Turn.refl _ _).drew).mono ?_; rintro r w1 ⟨rfl, hp⟩; have HP := Lib.hid hp; have q2 := turned_cell b2 (((Turn.refl (fun _ => False) _).drew.mono (fun _ e => e.elim)).trans hp.2 (fun _ _ e => e)) hQ; clear hp) | (go_at_call 20; refine (num_any _ _).mono ?_; rintro r w' ⟨rfl, rfl⟩) | (go_at_call 28; refine (RC.out _ _ _ (Turn.refl _ _).drew HP.out.2 (Turn.refl _ _)).mono ?_; rintro r w2 ⟨rfl, hr⟩; have HF := Lib.hid (FIN.out _ _ _ _ (Turn.refl _ _).drew HP.out (Turn.refl _ _) hr); have q3 := turned_cell q2 hr.2 hR; clear hr))
  go_wp2_with fail
  go_ret
  have HT' := HT.out
  unfold boxOf at HT'
  rw [HK.out] at HT'
  exact ⟨ret_bool (by simp), HF.out.pre HT'⟩

set_option maxRecDepth 100000 in
set_option maxHeartbeats 1000000 in
theorem does_2 (h : Both w p q S base) (hb : base ≤ w.heap.size) (hs : StepsOk S) (o : OpD) (ho : OpOk w o) (hk : o.kind = 2) :
    Calls Try.prog 11 #[.pointer (some ⟨p, 0, none⟩), .pointer (some ⟨q, 0, none⟩), opVal o] w fun r w' => r = .returned (.bool true) ∧ BPost w p q (toldS S o).1 base w' := by
  have ht := turnBox w (boxOf o)
  have HT := Lib.hid ht
  have hb' : base ≤ (w.alloc (boxOf o)).heap.size := Nat.le_trans hb ht.size
  unfold boxOf at hb'
  have e : toldS S o = Fsp.sync S o.name.data.toList := by simp [toldS, hk]
  rw [e]
  unfold opVal
  rw [hk] at hb' ⊢
  obtain ⟨Q, R, mo, pl, v, l, g1, g2, h3, h4, h5⟩ := h
  have hQ : ¬ Q w.heap.size := fun k => by have := g1.lt _ k; omega
  have hR : ¬ R w.heap.size := fun k => by have := g2.lt _ k; omega
  have h1 := g1.turned ht (fun _ _ e => e)
  have h2 := g2.same ht
  unfold boxOf at h1 h2
  rw [hk] at h1 h2
  have hn := ho.name
  have hto := ho.to
  have hnn := ho.n
  have CR := Lib.hid (fun (w0 : World) (t : Turn (fun _ => False) _ w0) => sync_any (h1.turned t (fun _ _ e => e)) hs o.name hn)
  have hg := h1.good
  have hst : S.steps < 9223372036854775807 := by unfold StepsOk at hs; omega
  have RC := Lib.hid (fun (w0 w1 wx : World) (t0 : Turn (fun _ => False) _ w0) (t1 : Turn Q w0 w1) (tx : Turn (fun _ => False) w1 wx) => rSync_any ((Both.turnR (h2.same t0) h3 t1).same tx) hg hst o.name)
  have FIN := Lib.hid (fun (w0 w1 wx w2 : World) (t0 : Turn (fun _ => False) _ w0) (k1 : Post w0 p (Fsp.sync S o.name.data.toList).1 Q w1) (tx : Turn (fun _ => False) w1 wx) (k2 : RPost wx q (Fsp.sync S o.name.data.toList).1 R w2) => Both.steps h1 h2 h3 h4 h5 hb' t0 k1 tx k2)
  have HK := Lib.hid hk
  clear e ho hk g1 g2 h1 h2 h3 h4 h5 hs hg hn hto hnn ht hb hb' hst
  go_enter Try.func11, Try.ntmps11
  go_upto_region 15 with (fail)
  have b2 : (w.alloc (.cells #[.int .i64 2, .int .i64 o.n, .string o.name, .string o.to, o.bv] 31)).cell? ⟨w.heap.size, 2, none⟩ = some (.string o.name) := cell_new w _ _ 2
  have b1 : (w.alloc (.cells #[.int .i64 2, .int .i64 o.n, .string o.name, .string o.to, o.bv] 31)).cell? ⟨w.heap.size, 1, none⟩ = some (.int .i64 o.n) := cell_new w _ _ 1
  have b3 : (w.alloc (.cells #[.int .i64 2, .int .i64 o.n, .string o.name, .string o.to, o.bv] 31)).cell? ⟨w.heap.size, 3, none⟩ = some (.string o.to) := cell_new w _ _ 3
  go_region_held3 (fun w' => w'.cell? ⟨w.heap.size, 2, none⟩ = some (.string o.name) ∧ w'.cell? ⟨w.heap.size, 1, none⟩ = some (.int .i64 o.n) ∧ w'.cell? ⟨w.heap.size, 3, none⟩ = some (.string o.to)) (first | (exact ⟨b2, b1, b3⟩) | (exact ⟨q2, q1, q4⟩) | (exact ⟨q3, q5, q6⟩) | go_keep) (first | (go_at_call 17; refine (CR.out _ (Turn.refl _ _).drew).mono ?_; rintro r w1 ⟨rfl, hp⟩; have HP := Lib.hid hp; have q2 := turned_cell b2 (((Turn.refl (fun _ => False) _).drew.mono (fun _ e => e.elim)).trans hp.2 (fun _ _ e => e)) hQ; have q1 := turned_cell b1 (((Turn.refl (fun _ => False) _).drew.mono (fun _ e => e.elim)).trans hp.2 (fun _ _ e => e)) hQ; have q4 := turned_cell b3 (((Turn.refl (fun _ => False) _).drew.mono (fun _ e => e.elim)).trans hp.2 (fun _ _ e => e)) hQ; clear hp) | (go_at_call 20; refine (num_any _ _).mono ?_; rintro r w' ⟨rfl, rfl⟩) | (go_at_call 32; refine (RC.out _ _ _ (Turn.refl _ _).drew HP.out.2 (Turn.refl _ _)).mono ?_; rintro r w2 ⟨rfl, hr⟩; have HF := Lib.hid (FIN.out _ _ _ _ (Turn.refl _ _).drew HP.out (Turn.refl _ _) hr); have q3 := turned_cell q2 hr.2 hR; have q5 := turned_cell q1 hr.2 hR; have q6 := turned_cell q4 hr.2 hR; clear hr))
  go_wp2_with fail
  go_ret
  have HT' := HT.out
  unfold boxOf at HT'
  rw [HK.out] at HT'
  exact ⟨ret_bool (by simp), HF.out.pre HT'⟩

set_option maxRecDepth 100000 in
set_option maxHeartbeats 1000000 in
theorem does_3 (h : Both w p q S base) (hb : base ≤ w.heap.size) (hs : StepsOk S) (o : OpD) (ho : OpOk w o) (hk : o.kind = 3) :
    Calls Try.prog 11 #[.pointer (some ⟨p, 0, none⟩), .pointer (some ⟨q, 0, none⟩), opVal o] w fun r w' => r = .returned (.bool true) ∧ BPost w p q (toldS S o).1 base w' := by
  have ht := turnBox w (boxOf o)
  have HT := Lib.hid ht
  have hb' : base ≤ (w.alloc (boxOf o)).heap.size := Nat.le_trans hb ht.size
  unfold boxOf at hb'
  have e : toldS S o = Fsp.truncate S o.name.data.toList o.n := by simp [toldS, hk]
  rw [e]
  unfold opVal
  rw [hk] at hb' ⊢
  obtain ⟨Q, R, mo, pl, v, l, g1, g2, h3, h4, h5⟩ := h
  have hQ : ¬ Q w.heap.size := fun k => by have := g1.lt _ k; omega
  have hR : ¬ R w.heap.size := fun k => by have := g2.lt _ k; omega
  have h1 := g1.turned ht (fun _ _ e => e)
  have h2 := g2.same ht
  unfold boxOf at h1 h2
  rw [hk] at h1 h2
  have hn := ho.name
  have hto := ho.to
  have hnn := ho.n
  have CR := Lib.hid (fun (w0 : World) (t : Turn (fun _ => False) _ w0) => truncate_any (h1.turned t (fun _ _ e => e)) hs o.name hn o.n)
  have hg := h1.good
  have hst : S.steps < 9223372036854775807 := by unfold StepsOk at hs; omega
  have RC := Lib.hid (fun (w0 w1 wx : World) (t0 : Turn (fun _ => False) _ w0) (t1 : Turn Q w0 w1) (tx : Turn (fun _ => False) w1 wx) => rTruncate_any ((Both.turnR (h2.same t0) h3 t1).same tx) hg hst o.name o.n hnn)
  have FIN := Lib.hid (fun (w0 w1 wx w2 : World) (t0 : Turn (fun _ => False) _ w0) (k1 : Post w0 p (Fsp.truncate S o.name.data.toList o.n).1 Q w1) (tx : Turn (fun _ => False) w1 wx) (k2 : RPost wx q (Fsp.truncate S o.name.data.toList o.n).1 R w2) => Both.steps h1 h2 h3 h4 h5 hb' t0 k1 tx k2)
  have HK := Lib.hid hk
  clear e ho hk g1 g2 h1 h2 h3 h4 h5 hs hg hn hto hnn ht hb hb' hst
  go_enter Try.func11, Try.ntmps11
  go_upto_region 17 with (fail)
  have b2 : (w.alloc (.cells #[.int .i64 3, .int .i64 o.n, .string o.name, .string o.to, o.bv] 31)).cell? ⟨w.heap.size, 2, none⟩ = some (.string o.name) := cell_new w _ _ 2
  have b1 : (w.alloc (.cells #[.int .i64 3, .int .i64 o.n, .string o.name, .string o.to, o.bv] 31)).cell? ⟨w.heap.size, 1, none⟩ = some (.int .i64 o.n) := cell_new w _ _ 1
  have b3 : (w.alloc (.cells #[.int .i64 3, .int .i64 o.n, .string o.name, .string o.to, o.bv] 31)).cell? ⟨w.heap.size, 3, none⟩ = some (.string o.to) := cell_new w _ _ 3
  go_region_held3 (fun w' => w'.cell? ⟨w.heap.size, 2, none⟩ = some (.string o.name) ∧ w'.cell? ⟨w.heap.size, 1, none⟩ = some (.int .i64 o.n) ∧ w'.cell? ⟨w.heap.size, 3, none⟩ = some (.string o.to)) (first | (exact ⟨b2, b1, b3⟩) | (exact ⟨q2, q1, q4⟩) | (exact ⟨q3, q5, q6⟩) | go_keep) (first | (go_at_call 33; refine (CR.out _ (Turn.refl _ _).drew).mono ?_; rintro r w1 ⟨rfl, hp⟩; have HP := Lib.hid hp; have q2 := turned_cell b2 (((Turn.refl (fun _ => False) _).drew.mono (fun _ e => e.elim)).trans hp.2 (fun _ _ e => e)) hQ; have q1 := turned_cell b1 (((Turn.refl (fun _ => False) _).drew.mono (fun _ e => e.elim)).trans hp.2 (fun _ _ e => e)) hQ; have q4 := turned_cell b3 (((Turn.refl (fun _ => False) _).drew.mono (fun _ e => e.elim)).trans hp.2 (fun _ _ e => e)) hQ; clear hp) | (go_at_call 20; refine (num_any _ _).mono ?_; rintro r w' ⟨rfl, rfl⟩) | (go_at_call 34; refine (RC.out _ _ _ (Turn.refl _ _).drew HP.out.2 (Turn.refl _ _)).mono ?_; rintro r w2 ⟨rfl, hr⟩; have HF := Lib.hid (FIN.out _ _ _ _ (Turn.refl _ _).drew HP.out (Turn.refl _ _) hr); have q3 := turned_cell q2 hr.2 hR; have q5 := turned_cell q1 hr.2 hR; have q6 := turned_cell q4 hr.2 hR; clear hr))
  go_wp2_with fail
  go_ret
  have HT' := HT.out
  unfold boxOf at HT'
  rw [HK.out] at HT'
  exact ⟨ret_bool (by simp), HF.out.pre HT'⟩

set_option maxRecDepth 100000 in
set_option maxHeartbeats 1000000 in
theorem does_4 (h : Both w p q S base) (hb : base ≤ w.heap.size) (hs : StepsOk S) (o : OpD) (ho : OpOk w o) (hk : o.kind = 4) :
    Calls Try.prog 11 #[.pointer (some ⟨p, 0, none⟩), .pointer (some ⟨q, 0, none⟩), opVal o] w fun r w' => r = .returned (.bool true) ∧ BPost w p q (toldS S o).1 base w' := by
  have ht := turnBox w (boxOf o)
  have HT := Lib.hid ht
  have hb' : base ≤ (w.alloc (boxOf o)).heap.size := Nat.le_trans hb ht.size
  unfold boxOf at hb'
  have e : toldS S o = Fsp.rename S o.name.data.toList o.to.data.toList := by simp [toldS, hk]
  rw [e]
  unfold opVal
  rw [hk] at hb' ⊢
  obtain ⟨Q, R, mo, pl, v, l, g1, g2, h3, h4, h5⟩ := h
  have hQ : ¬ Q w.heap.size := fun k => by have := g1.lt _ k; omega
  have hR : ¬ R w.heap.size := fun k => by have := g2.lt _ k; omega
  have h1 := g1.turned ht (fun _ _ e => e)
  have h2 := g2.same ht
  unfold boxOf at h1 h2
  rw [hk] at h1 h2
  have hn := ho.name
  have hto := ho.to
  have hnn := ho.n
  have CR := Lib.hid (fun (w0 : World) (t : Turn (fun _ => False) _ w0) => rename_any (h1.turned t (fun _ _ e => e)) hs o.name o.to hn hto)
  have hg := h1.good
  have hst : S.steps < 9223372036854775807 := by unfold StepsOk at hs; omega
  have RC := Lib.hid (fun (w0 w1 wx : World) (t0 : Turn (fun _ => False) _ w0) (t1 : Turn Q w0 w1) (tx : Turn (fun _ => False) w1 wx) => rRename_any ((Both.turnR (h2.same t0) h3 t1).same tx) hg hst o.name o.to (fun W => rValid_any o.to hto W))
  have FIN := Lib.hid (fun (w0 w1 wx w2 : World) (t0 : Turn (fun _ => False) _ w0) (k1 : Post w0 p (Fsp.rename S o.name.data.toList o.to.data.toList).1 Q w1) (tx : Turn (fun _ => False) w1 wx) (k2 : RPost wx q (Fsp.rename S o.name.data.toList o.to.data.toList).1 R w2) => Both.steps h1 h2 h3 h4 h5 hb' t0 k1 tx k2)
  have HK := Lib.hid hk
  clear e ho hk g1 g2 h1 h2 h3 h4 h5 hs hg hn hto hnn ht hb hb' hst
  go_enter Try.func11, Try.ntmps11
  go_upto_region 19 with (fail)
  have b2 : (w.alloc (.cells #[.int .i64 4, .int .i64 o.n, .string o.name, .string o.to, o.bv] 31)).cell? ⟨w.heap.size, 2, none⟩ = some (.string o.name) := cell_new w _ _ 2
  have b1 : (w.alloc (.cells #[.int .i64 4, .int .i64 o.n, .string o.name, .string o.to, o.bv] 31)).cell? ⟨w.heap.size, 1, none⟩ = some (.int .i64 o.n) := cell_new w _ _ 1
  have b3 : (w.alloc (.cells #[.int .i64 4, .int .i64 o.n, .string o.name, .string o.to, o.bv] 31)).cell? ⟨w.heap.size, 3, none⟩ = some (.string o.to) := cell_new w _ _ 3
  go_region_held3 (fun w' => w'.cell? ⟨w.heap.size, 2, none⟩ = some (.string o.name) ∧ w'.cell? ⟨w.heap.size, 1, none⟩ = some (.int .i64 o.n) ∧ w'.cell? ⟨w.heap.size, 3, none⟩ = some (.string o.to)) (first | (exact ⟨b2, b1, b3⟩) | (exact ⟨q2, q1, q4⟩) | (exact ⟨q3, q5, q6⟩) | go_keep) (first | (go_at_call 35; refine (CR.out _ (Turn.refl _ _).drew).mono ?_; rintro r w1 ⟨rfl, hp⟩; have HP := Lib.hid hp; have q2 := turned_cell b2 (((Turn.refl (fun _ => False) _).drew.mono (fun _ e => e.elim)).trans hp.2 (fun _ _ e => e)) hQ; have q1 := turned_cell b1 (((Turn.refl (fun _ => False) _).drew.mono (fun _ e => e.elim)).trans hp.2 (fun _ _ e => e)) hQ; have q4 := turned_cell b3 (((Turn.refl (fun _ => False) _).drew.mono (fun _ e => e.elim)).trans hp.2 (fun _ _ e => e)) hQ; clear hp) | (go_at_call 20; refine (num_any _ _).mono ?_; rintro r w' ⟨rfl, rfl⟩) | (go_at_call 36; refine (RC.out _ _ _ (Turn.refl _ _).drew HP.out.2 (Turn.refl _ _)).mono ?_; rintro r w2 ⟨rfl, hr⟩; have HF := Lib.hid (FIN.out _ _ _ _ (Turn.refl _ _).drew HP.out (Turn.refl _ _) hr); have q3 := turned_cell q2 hr.2 hR; have q5 := turned_cell q1 hr.2 hR; have q6 := turned_cell q4 hr.2 hR; clear hr))
  go_wp2_with fail
  go_ret
  have HT' := HT.out
  unfold boxOf at HT'
  rw [HK.out] at HT'
  exact ⟨ret_bool (by simp), HF.out.pre HT'⟩

set_option maxRecDepth 100000 in
set_option maxHeartbeats 1000000 in
theorem does_5 (h : Both w p q S base) (hb : base ≤ w.heap.size) (hs : StepsOk S) (o : OpD) (ho : OpOk w o) (hk : o.kind = 5) :
    Calls Try.prog 11 #[.pointer (some ⟨p, 0, none⟩), .pointer (some ⟨q, 0, none⟩), opVal o] w fun r w' => r = .returned (.bool true) ∧ BPost w p q (toldS S o).1 base w' := by
  have ht := turnBox w (boxOf o)
  have HT := Lib.hid ht
  have hb' : base ≤ (w.alloc (boxOf o)).heap.size := Nat.le_trans hb ht.size
  unfold boxOf at hb'
  have e : toldS S o = Fsp.remove S o.name.data.toList := by simp [toldS, hk]
  rw [e]
  unfold opVal
  rw [hk] at hb' ⊢
  obtain ⟨Q, R, mo, pl, v, l, g1, g2, h3, h4, h5⟩ := h
  have hQ : ¬ Q w.heap.size := fun k => by have := g1.lt _ k; omega
  have hR : ¬ R w.heap.size := fun k => by have := g2.lt _ k; omega
  have h1 := g1.turned ht (fun _ _ e => e)
  have h2 := g2.same ht
  unfold boxOf at h1 h2
  rw [hk] at h1 h2
  have hn := ho.name
  have hto := ho.to
  have hnn := ho.n
  have CR := Lib.hid (fun (w0 : World) (t : Turn (fun _ => False) _ w0) => remove_any (h1.turned t (fun _ _ e => e)) hs o.name hn)
  have hg := h1.good
  have hst : S.steps < 9223372036854775807 := by unfold StepsOk at hs; omega
  have RC := Lib.hid (fun (w0 w1 wx : World) (t0 : Turn (fun _ => False) _ w0) (t1 : Turn Q w0 w1) (tx : Turn (fun _ => False) w1 wx) => rRemove_any ((Both.turnR (h2.same t0) h3 t1).same tx) hg hst o.name)
  have FIN := Lib.hid (fun (w0 w1 wx w2 : World) (t0 : Turn (fun _ => False) _ w0) (k1 : Post w0 p (Fsp.remove S o.name.data.toList).1 Q w1) (tx : Turn (fun _ => False) w1 wx) (k2 : RPost wx q (Fsp.remove S o.name.data.toList).1 R w2) => Both.steps h1 h2 h3 h4 h5 hb' t0 k1 tx k2)
  have HK := Lib.hid hk
  clear e ho hk g1 g2 h1 h2 h3 h4 h5 hs hg hn hto hnn ht hb hb' hst
  go_enter Try.func11, Try.ntmps11
  go_upto_region 21 with (fail)
  have b2 : (w.alloc (.cells #[.int .i64 5, .int .i64 o.n, .string o.name, .string o.to, o.bv] 31)).cell? ⟨w.heap.size, 2, none⟩ = some (.string o.name) := cell_new w _ _ 2
  have b1 : (w.alloc (.cells #[.int .i64 5, .int .i64 o.n, .string o.name, .string o.to, o.bv] 31)).cell? ⟨w.heap.size, 1, none⟩ = some (.int .i64 o.n) := cell_new w _ _ 1
  have b3 : (w.alloc (.cells #[.int .i64 5, .int .i64 o.n, .string o.name, .string o.to, o.bv] 31)).cell? ⟨w.heap.size, 3, none⟩ = some (.string o.to) := cell_new w _ _ 3
  go_region_held3 (fun w' => w'.cell? ⟨w.heap.size, 2, none⟩ = some (.string o.name) ∧ w'.cell? ⟨w.heap.size, 1, none⟩ = some (.int .i64 o.n) ∧ w'.cell? ⟨w.heap.size, 3, none⟩ = some (.string o.to)) (first | (exact ⟨b2, b1, b3⟩) | (exact ⟨q2, q1, q4⟩) | (exact ⟨q3, q5, q6⟩) | go_keep) (first | (go_at_call 37; refine (CR.out _ (Turn.refl _ _).drew).mono ?_; rintro r w1 ⟨rfl, hp⟩; have HP := Lib.hid hp; have q2 := turned_cell b2 (((Turn.refl (fun _ => False) _).drew.mono (fun _ e => e.elim)).trans hp.2 (fun _ _ e => e)) hQ; have q1 := turned_cell b1 (((Turn.refl (fun _ => False) _).drew.mono (fun _ e => e.elim)).trans hp.2 (fun _ _ e => e)) hQ; have q4 := turned_cell b3 (((Turn.refl (fun _ => False) _).drew.mono (fun _ e => e.elim)).trans hp.2 (fun _ _ e => e)) hQ; clear hp) | (go_at_call 20; refine (num_any _ _).mono ?_; rintro r w' ⟨rfl, rfl⟩) | (go_at_call 38; refine (RC.out _ _ _ (Turn.refl _ _).drew HP.out.2 (Turn.refl _ _)).mono ?_; rintro r w2 ⟨rfl, hr⟩; have HF := Lib.hid (FIN.out _ _ _ _ (Turn.refl _ _).drew HP.out (Turn.refl _ _) hr); have q3 := turned_cell q2 hr.2 hR; have q5 := turned_cell q1 hr.2 hR; have q6 := turned_cell q4 hr.2 hR; clear hr))
  go_wp2_with fail
  go_ret
  have HT' := HT.out
  unfold boxOf at HT'
  rw [HK.out] at HT'
  exact ⟨ret_bool (by simp), HF.out.pre HT'⟩

end
end Go.Proofs.Ytpaekggmphahoaa
