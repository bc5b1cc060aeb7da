/-
  A row of digits that is written.
-/
import Derived.Test.YtagilpgplcphpaaBOf
import Derived.Deep.OwnRows
namespace Go.Proofs.Ytagilpgplcphpaa
open Go.RowKit Go.Maps Go.WideMaps

/-- block D holds these digits -/
def RowAt (w : World) (D : Nat) (l : List Nat) : Prop := ∃ ty, w.heap[D]? = some (.cells (l.map dgV).toArray ty)

section
variable {w w' : World} {D : Nat} {l : List Nat}
theorem RowAt.lt (h : RowAt w D l) : D < w.heap.size := by obtain ⟨ty, h⟩ := h; exact (Array.getElem?_eq_some_iff.1 h).1
theorem RowAt.cell (h : RowAt w D l) {j : Nat} (hj : j < l.length) : w.cell? ⟨D, j, none⟩ = some (.int .i64 (l[j] : Nat)) := by
  obtain ⟨ty, h⟩ := h
  simp only [World.cell?, h]
  simp [hj, dgV]
theorem RowAt.free (h : RowAt w D l) (j : Nat) : w.frozen? ⟨D, j, none⟩ = false := by
  obtain ⟨ty, h⟩ := h
  simp [World.frozen?, h]
theorem RowAt.set (h : RowAt w D l) (j : Nat) {e : Int} {z : Nat} (he : e = z) : RowAt (w.setCell ⟨D, j, none⟩ (.int .i64 e)) D (l.set j z) := by
  subst he
  obtain ⟨ty, h⟩ := h
  refine ⟨ty, ?_⟩
  have := heap_setCell_same h (dgV z) (j := j)
  rw [show (l.set j z).map dgV = (l.map dgV).set j (dgV z) from List.map_set]
  unfold dgV at *
  simpa using this
theorem RowAt.only (h : RowAt w D l) (t : Only w w') : RowAt w' D l := by
  have := h.lt
  obtain ⟨ty, h⟩ := h
  exact ⟨ty, (t.block D this).trans h⟩
theorem RowAt.far (h : RowAt w D l) {p : Nat} (e : D ≠ p) (j : Nat) (u : Value) : RowAt (w.setCell ⟨p, j, none⟩ u) D l := by
  obtain ⟨ty, h⟩ := h
  exact ⟨ty, (heap_setCell_other e u).trans h⟩
theorem RowAt.toR (h : RowAt w D l) (hl : l.length ≤ 9223372036854775807) : NatsR w (.slice (some ⟨D, 0, none⟩) l.length l.length) l :=
  Or.inr ⟨D, l.length, rfl, Nat.le_refl _, hl, fun j x hj => by
    obtain ⟨h1, h2⟩ := List.getElem?_eq_some_iff.1 hj
    rw [h.cell h1, h2]; rfl⟩
theorem RowAt.toR' (h : RowAt w D l) {n : Nat} (hn : l.length = n) (hl : n ≤ 9223372036854775807) : NatsR w (.slice (some ⟨D, 0, none⟩) n n) l := by
  subst hn; exact h.toR hl
theorem RowAt.made (w : World) (n : Nat) : RowAt (w.alloc (.cells (madeCells #[.int .i64 0] n) 3)) w.heap.size (List.replicate n 0) := by
  have e : madeCells #[.int .i64 0] n = ((List.replicate n 0).map dgV).toArray := by
    apply Array.ext
    · simp [size_madeCells]
    · intro i h1 h2; simp [madeCells, dgV, Nat.mod_one]
  rw [e]
  exact ⟨_, heap_alloc_new _ _⟩
end

/-- make of so many digits -/
theorem make_row {e : Int} {n : Nat} (he : e = n) (hn : n ≤ 1000000) (w : World) : (Instr.makeSlice 35 (.int .i64 e) (.int .i64 e)).run Try.prog w = .ok (.slice (some ⟨w.heap.size, 0, none⟩) n n) (w.alloc (.cells (madeCells #[.int .i64 0] n) 3)) := by
  subst he
  exact run_make_row' (P := Try.prog) 35 3 (.int .i64 0) 8 Try.underlying35 infoInt rfl .i64 .i64 n (by omega) (by omega) w
end Go.Proofs.Ytagilpgplcphpaa
