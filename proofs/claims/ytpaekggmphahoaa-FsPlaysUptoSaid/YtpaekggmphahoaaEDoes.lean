/-
  THE LAW FsPlays: Does of Arm.
-/
import Derived.Test.YtpaekggmphahoaaEBoth
namespace Go.Proofs.Ytpaekggmphahoaa
open Go.RowKit Go.Maps Go.WideMaps
set_option linter.unusedVariables false
set_option linter.unusedSimpArgs false
section
variable {w w1 w2 w' : World} {p q base : Nat} {S S' : Fsp.Fs} {Q R : Nat → Prop} {v : Value} {l : List RF}
theorem RefX.arm (h : RefX w q S R v l) (n : Int) : RPost w q (Fsp.arm S n) R (w.setCell ⟨q, 3, none⟩ (.int .i64 (max n 0))) := by
  have tq : Turn (fun b => b = q) w (w.setCell ⟨q, 3, none⟩ (.int .i64 (max n 0))) := (Turn.refl (fun b => b = q) w).set _ _ (Or.inl rfl) _
  have e : (((Fsp.arm S n).armed : Nat) : Int) = max n 0 := by show ((n.toNat : Nat) : Int) = _; omega
  have hh := hset (j := 3) h.head (.int .i64 (max n 0))
  rw [← e] at hh
  have hx := h.headed (S' := Fsp.arm S n) (by rw [← e]; exact hh) tq rfl
  exact ⟨⟨_, _, hx.mono (fun b hb => Or.inl hb) (fun b hb => by rcases hb with k | k; exact hx.lt b k; exact k.2)⟩, tq.mono fun b e => by rw [e]; exact h.inQ⟩

set_option maxRecDepth 100000 in
set_option maxHeartbeats 1000000 in
theorem does_6 (h : Both w p q S base) (hb : base ≤ w.heap.size) (hs : StepsOk S) (o : OpD) (ho : OpOk w o) (hk : o.kind = 6) :
    Calls Try.prog 11 #[.pointer (some ⟨p, 0, none⟩), .pointer (some ⟨q, 0, none⟩), opVal o] w fun r w' => r = .returned (.bool true) ∧ BPost w p q (toldS S o).1 base w' := by
  have ht := turnBox w (boxOf o)
  have HT := Lib.hid ht
  have hb' : base ≤ (w.alloc (boxOf o)).heap.size := Nat.le_trans hb ht.size
  unfold boxOf at hb'
  have e : toldS S o = (Fsp.arm S o.n, 0) := by simp [toldS, hk]
  rw [e]
  unfold opVal
  rw [hk] at hb' ⊢
  obtain ⟨Q, R, mo, pl, v, l, g1, g2, h3, h4, h5⟩ := h
  have h1 := g1.turned ht (fun _ _ e => e)
  have h2 := g2.same ht
  unfold boxOf at h1 h2
  rw [hk] at h1 h2
  have hQ : ¬ Q w.heap.size := fun k => by have := g1.lt _ k; omega
  have b1 : (w.alloc (.cells #[.int .i64 6, .int .i64 o.n, .string o.name, .string o.to, o.bv] 31)).cell? ⟨w.heap.size, 1, none⟩ = some (.int .i64 o.n) := cell_new w _ _ 1
  have hnn := ho.n
  have CR := Lib.hid (arm_any h1 o.n hnn.2)
  have RC := Lib.hid (fun (w1 : World) (t1 : Turn Q _ w1) => Both.turnR h2 h3 t1)
  have FIN := Lib.hid (fun (w1 w2 : World) (k1 : Post _ p (Fsp.arm S o.n) Q w1) (k2 : RPost w1 q (Fsp.arm S o.n) R w2) => Both.step h1 h2 h3 h4 h5 hb' k1 k2)
  have HK := Lib.hid hk
  clear e ho hk g1 g2 h1 h2 h3 h4 h5 hs hnn ht hb hb'
  go_enter Try.func11, Try.ntmps11
  go_wp2_with fail
  go_at_call 39
  refine CR.out.mono ?_
  rintro r w1 ⟨rfl, hp⟩
  have hx := RC.out w1 hp.2
  have cc := hx.cells
  have c3 := cc.c3
  have f3 := cc.fr 3
  have q1 := turned_cell b1 hp.2 hQ
  have HF := Lib.hid (FIN.out _ _ hp (hx.arm o.n))
  clear cc hx hp b1
  go_wp2_with fail
  go_ret
  have HT' := HT.out
  unfold boxOf at HT'
  rw [HK.out] at HT'
  exact ⟨rfl, HF.out.pre HT'⟩
end
end Go.Proofs.Ytpaekggmphahoaa
