/-
  Copy of a file system that never had a file.
-/
import Derived.Test.YtpaekggmphahoaaCopy
namespace Go.Proofs.Ytpaekggmphahoaa
open Go.RowKit Go.Maps Go.WideMaps Go.Sort

section
variable {w w' : World} {p : Nat} {S : Fsp.Fs} {c : Bool} {Q : Nat → Prop} {mo : Option Nat} {pl : List UInt8 → Pl}

set_option maxRecDepth 100000 in
set_option maxHeartbeats 2000000 in
theorem copy_nil (h : RepX w p S c Q none pl) :
    Calls Try.prog 8 #[.pointer (some ⟨p, 0, none⟩)] w fun r w' => r = .returned (.pointer (some ⟨w.heap.size, 0, none⟩)) ∧ Since w w.heap.size S w' := by
  have hL : S.L = [] := h.map
  have HL := Lib.hid hL
  have hgd := Lib.hid h.good
  clear hL
  have c0 := h.cells.c0
  have c1 := h.cells.c1
  have c2 := h.cells.c2
  have c3 := h.cells.c3
  have c4 := h.cells.c4
  have c5 := h.cells.c5
  have c6 := h.cells.c6
  have ka := cell_alloc c0
  have kb := fun (o o2 : Obj) => cell_alloc (cell_alloc c0 o) o2
  have mh := make_hint
  have hrg := fun (w : World) => run_range_nilMap (P := Try.prog) w 53 9 56 Try.underlying53
  have hnx : ∀ (w0 : World) ty, (Instr.next (.pointer (some ⟨w0.heap.size, 0, none⟩)) false ty).run Try.prog (w0.alloc (.mapIter none 0 #[] 0)) = _ := fun w0 ty => run_next_nilMap w0 ty 0 0 #[]
  have hnx2 := fun ty => hnx ((w.alloc (headOf S false (some (w.heap.size + 1)))).alloc (.map #[] 0)) ty
  simp only [World.size_alloc, Nat.add_assoc, Nat.reduceAdd] at hnx2
  go_enter Try.func8, Try.ntmps8
  go_wp2_with (at_len; refine wpList_len_run rfl _ 53 rfl _ _ rfl (len_is (h.turned (turnBox w _) (fun _ _ q => q))) ?_)
  refine wp_loop_rounds 1 ?_
  rw [rounds_succ]
  go_wp2
  go_ret
  have hT := ((turnBox w (headOf S false (some (w.heap.size + 1)))).alloc (.map #[] 0)).alloc (.mapIter none 0 #[] 0)
  have hhd : (((w.alloc (headOf S false (some (w.heap.size + 1)))).alloc (.map #[] 0)).alloc (.mapIter none 0 #[] 0)).heap[w.heap.size]? = some (headOf S false (some (w.heap.size + 1))) :=
    (Below.heap_alloc _ _ _ (by simp; omega)).trans ((Below.heap_alloc _ _ _ (by simp)).trans (heap_alloc_new _ _))
  have hmp : (((w.alloc (headOf S false (some (w.heap.size + 1)))).alloc (.map #[] 0)).alloc (.mapIter none 0 #[] 0)).ownsMap Try.prog 9 ptrElem (w.heap.size + 1) 0 (.map []) := by
    have h1 := World.ownsMap_made (w.alloc (headOf S false (some (w.heap.size + 1)))) Try.prog 9 ptrElem
    have h2 := ownsMap_turned h1 (turnBox _ (.mapIter none 0 #[] 0)) (fun q => q)
    simpa using h2
  have hhalf := Half.start hgd.out hhd hmp (by omega) pl
  refine ⟨rfl, ⟨_, _, (hhalf.done hgd.out (by rw [Fsp.only_none, HL.out])).mono (fun b hb => ?_) (fun b hb => hb.2)⟩, hT⟩
  rcases hb with rfl | rfl
  · exact ⟨Nat.le_refl _, by simp; omega⟩
  · exact ⟨by omega, by simp⟩

/-- Copy: another file system of the same files -/
theorem copy_any (h : RepX w p S c Q mo pl) :
    Calls Try.prog 8 #[.pointer (some ⟨p, 0, none⟩)] w fun r w' => r = .returned (.pointer (some ⟨w.heap.size, 0, none⟩)) ∧ Since w w.heap.size S w' := by
  cases mo with
  | none => exact copy_nil h
  | some mb => exact copy_some h

end
end Go.Proofs.Ytpaekggmphahoaa
