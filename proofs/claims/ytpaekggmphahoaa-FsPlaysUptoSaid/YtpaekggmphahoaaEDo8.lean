/-
  THE LAW FsPlays: Does that only asks, of a name that is not there.
-/
import Derived.Test.YtpaekggmphahoaaEDo1
namespace Go.Proofs.Ytpaekggmphahoaa
open Go.RowKit Go.Maps Go.WideMaps
set_option linter.unusedVariables false
set_option linter.unusedSimpArgs false
section
variable {w w1 w2 w' : World} {p q base : Nat} {S S' : Fsp.Fs} {Q R : Nat → Prop} {v : Value} {l : List RF}

theorem told_none (S : Fsp.Fs) (o : OpD) (hk : ¬ (o.kind = 0 ∨ o.kind = 1 ∨ o.kind = 2 ∨ o.kind = 3 ∨ o.kind = 4 ∨ o.kind = 5 ∨ o.kind = 6 ∨ o.kind = 7)) : toldS S o = (S, 0) := by
  simp only [not_or] at hk
  obtain ⟨h0, h1, h2, h3, h4, h5, h6, h7⟩ := hk
  simp [toldS, h0, h1, h2, h3, h4, h5, h6, h7]

set_option maxRecDepth 100000 in
set_option maxHeartbeats 1000000 in
theorem does_8n (h : Both w p q S base) (hb : base ≤ w.heap.size) (o : OpD) (ho : OpOk w o) (hf : Fsp.find S.L o.name.data.toList = none) (hat : atN S.L o.name.data.toList = none)
    (hk : ¬ (o.kind = 0 ∨ o.kind = 1 ∨ o.kind = 2 ∨ o.kind = 3 ∨ o.kind = 4 ∨ o.kind = 5 ∨ o.kind = 6 ∨ o.kind = 7)) :
    Calls Try.prog 11 #[.pointer (some ⟨p, 0, none⟩), .pointer (some ⟨q, 0, none⟩), opVal o] w fun r w' => r = .returned (.bool true) ∧ BPost w p q (toldS S o).1 base w' := by
  rw [told_none S o hk]
  have ht := turnBox w (boxOf o)
  have hB := h.same ht
  have HF : Hid (BPost w p q S base (w.alloc (boxOf o))) := Lib.hid ⟨hB, ht.mono fun _ e => e.elim⟩
  obtain ⟨Q, R, mo, pl, v, l, g1, g2, h3, h4, h5⟩ := hB
  have hn := ho.name
  have RD := Lib.hid (read_none g1 o.name hn hf)
  have SZ := Lib.hid (size_none g1 o.name hn hf)
  have AT := Lib.hid (rAt_any g2 o.name (by have := Good.len g1.good g2; omega))
  rw [hat] at AT
  have V1 : Hid (∀ W, Calls Try.prog 23 #[.string o.name] W fun r w' => r = .returned (.bool (Fsp.valid o.name.data.toList)) ∧ w' = W) := Lib.hid (fun W => (valid_any o.name hn W).mono (by rintro r w' ⟨rfl, rfl⟩; exact ⟨rfl, rfl⟩))
  have V2 : Hid (∀ W, Calls Try.prog 44 #[.string o.name] W fun r w' => r = .returned (.bool (Fsp.valid o.name.data.toList)) ∧ w' = W) := Lib.hid (fun W => (rValid_any o.name hn W).mono (by rintro r w' ⟨rfl, rfl⟩; exact ⟨rfl, rfl⟩))
  have b2 : (w.alloc (boxOf o)).cell? ⟨w.heap.size, 2, none⟩ = some (.string o.name) := cell_new w _ _ 2
  have b0 : (w.alloc (boxOf o)).cell? ⟨w.heap.size, 0, none⟩ = some (.int .i64 o.kind) := cell_new w _ _ 0
  unfold boxOf at HF RD SZ AT b2 b0
  simp only [not_or] at hk
  obtain ⟨k0, k1, k2, k3, k4, k5, k6, k7⟩ := hk
  have k0 : (o.kind == 0) = false := by simpa using k0
  have k1 : (o.kind == 1) = false := by simpa using k1
  have k2 : (o.kind == 2) = false := by simpa using k2
  have k3 : (o.kind == 3) = false := by simpa using k3
  have k4 : (o.kind == 4) = false := by simpa using k4
  have k5 : (o.kind == 5) = false := by simpa using k5
  have k6 : (o.kind == 6) = false := by simpa using k6
  have k7 : (o.kind == 7) = false := by simpa using k7
  unfold opVal
  clear h hb ho hf hat ht g1 g2 h3 h4 h5 hn
  go_enter Try.func11, Try.ntmps11
  go_wp2_with (first | (go_at_call 19; refine RD.out.mono ?_; rintro r w' ⟨rfl, rfl⟩) | (go_at_call 41; refine SZ.out.mono ?_; rintro r w' ⟨rfl, rfl⟩) | (go_at_call 42; refine AT.out.mono ?_; rintro r w' ⟨rfl, rfl⟩; rw [show atI none = -1 from rfl]) | (go_at_call 20; refine (num_any _ _).mono ?_; rintro r w' ⟨rfl, rfl⟩) | (go_at_call 23; refine (V1.out _).mono ?_; rintro r w' ⟨rfl, rfl⟩) | (go_at_call 44; refine (V2.out _).mono ?_; rintro r w' ⟨rfl, rfl⟩))
  obtain ⟨wb, hwb⟩ : ∃ wb, wb = w.alloc (.cells #[.int .i64 o.kind, .int .i64 o.n, .string o.name, .string o.to, o.bv] 31) := ⟨_, rfl⟩
  rw [← hwb] at HF b2 b0 ⊢
  clear hwb RD SZ AT
  go_loopw [18] (fun i wr => i = .int .i64 0 ∧ wr = wb) (fun _ _ => 0)
  case atStart => exact ⟨rfl, rfl⟩
  case round =>
    obtain ⟨rfl, rfl⟩ := hrel
    have d2 : ∀ n : Cone wr, n.out.cell? ⟨w.heap.size, 2, none⟩ = some (.string o.name) := fun n => n.only.cellM b2
    go_upto_region 38 with (fail)
    refine wp_region_cone (by kernel_rfl) (by kernel_rfl) ?_
    repeat (any_goals (first | go_big_quiet_step (((first | (go_at_call 23; with_reducible exact Cone.same (V1.out _)) | (go_at_call 44; with_reducible exact Cone.same (V2.out _))))) | quiet_step (((first | (go_at_call 23; with_reducible exact Cone.same (V1.out _)) | (go_at_call 44; with_reducible exact Cone.same (V2.out _)))))))
    refine wpQuiet_nil ?_
    rintro w8 ⟨⟨_, t8⟩, rfl⟩
    have HFI : Hid (BPost w p q S base w8) := Lib.hid ⟨HF.out.1.same t8.turn, HF.out.2.trans (t8.turn.mono fun _ e => e.elim) (fun _ _ e => e)⟩
    go_wp2_with fail
    go_ret
    exact ⟨ret_bool (by simp), HFI.out⟩
end
end Go.Proofs.Ytpaekggmphahoaa
