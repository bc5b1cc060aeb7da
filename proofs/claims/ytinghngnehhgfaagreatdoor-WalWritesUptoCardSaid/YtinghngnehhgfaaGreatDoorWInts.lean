/-
  WalWrites: ints that come in.
-/
import Derived.Test.YtinghngnehhgfaaGreatDoorWArgs
import Derived.Test.YtinghngnehhgfaaGreatDoorWIntsP
namespace Go.Proofs.YtinghngnehhgfaaGreatDoor
open Go.ChangeShapes Go.WideShapes Go.ChangeAt Go.RowKit Go.Deep
set_option linter.unusedVariables false
section
variable {H : Type} {enc : TypeId × Value → H} {W : World} {base : Nat} {spare : Nat → Bool} {held : Bool}
theorem cellsInt : Tryz.prog.cellsOf 3 = 1 := by kernel_rfl
set_option maxRecDepth 100000 in
theorem ints_in {r : Reach} {b0 : Nat} {v : Value} {d : DataW H} {p : List MemPlace} (hval : Value.okWide Tryz.prog W r b0 23 v) (h : DataW.Trod enc Tryz.prog W base (fun _ => true) held 23 v d p) (hk : Rows.uptoBulk d ≤ 1048576) : ∃ l, IntsIn W v l ∧ 1 ≤ Rows.uptoBulk d := by
  obtain ⟨a0, len, cap, rfl⟩ := okWide_slice (P := Tryz.prog) (w := W) (r := r) (base := b0) (t := 23) (v := v) Tryz.underlying23 hval
  obtain ⟨fuel, hf⟩ := h
  rcases open_ints Tryz.underlying23 Tryz.underlying3 cellsInt hf with ⟨hcs, _⟩ | ⟨a, len', cap', zs, hcs, _, hl, hm, hz, _, hc, hw⟩
  · simp [Value.cells] at hcs
    obtain ⟨rfl, rfl, rfl⟩ := hcs
    exact ⟨[], ⟨none, 0, rfl, Nat.zero_le _, fun i o h => by simp at h⟩, bulk_one d⟩
  · simp [Value.cells] at hcs
    obtain ⟨rfl, rfl, rfl⟩ := hcs
    simp only [if_true] at hz
    have hle : len ≤ zs.length := by omega
    have hbl : (zs.take len).length = len := by rw [List.length_take]; omega
    refine ⟨zs.take len, ⟨some a, cap, by rw [hbl], by rw [hbl]; omega, fun i x hx => ?_⟩, bulk_one d⟩
    have hi : i < len := by have := (List.getElem?_eq_some_iff.1 hx).1; omega
    rw [List.getElem?_take_of_lt hi] at hx
    obtain ⟨hiz, e⟩ := List.getElem?_eq_some_iff.1 hx
    refine ⟨⟨a, rfl, ?_⟩, bounds_of (hw x (List.mem_of_getElem? hx))⟩
    rw [hc i hiz]
    simp [List.getD, hx]
end
end Go.Proofs.YtinghngnehhgfaaGreatDoor
