/-
  THE LAW FsPlays: the operations that came in, with a bound on their bytes.
-/
import Derived.Test.YtpaekggmphahoaaOpen
namespace Go.Proofs.Ytpaekggmphahoaa
open Go.ChangeShapes Go.WideShapes Go.ChangeAt Go.RowKit Go.Deep
set_option linter.unusedVariables false
section
variable {H : Type} {enc : TypeId × Value → H} {W : World} {base : Nat} {spare : Nat → Bool} {held : Bool}
theorem bulk_one {H : Type} (d : DataW H) : 1 ≤ Rows.uptoBulk d := by
  cases d with
  | lit l => cases l <;> simp [Rows.uptoBulk]
  | nil => simp [Rows.uptoBulk]
  | ptr d => simp [Rows.uptoBulk]
  | slice elems spare => simp [Rows.uptoBulk]
  | agg parts => simp [Rows.uptoBulk]
  | iface t d => simp [Rows.uptoBulk]
  | map entries => simp [Rows.uptoBulk]
  | held h => simp [Rows.uptoBulk]
theorem bulk_length {H : Type} (l : List (DataW H)) : l.length ≤ Rows.uptoBulkAll l := by
  induction l with
  | nil => simp [Rows.uptoBulkAll]
  | cons x r ih => have := bulk_one x; simp only [Rows.uptoBulkAll, List.length_cons]; omega
theorem bulk_mem {H : Type} {l : List (DataW H)} {y : DataW H} (h : y ∈ l) : Rows.uptoBulk y ≤ Rows.uptoBulkAll l := by
  induction l with
  | nil => cases h
  | cons z r ih =>
    simp only [Rows.uptoBulkAll]
    cases List.mem_cons.1 h with
    | inl e => subst e; omega
    | inr e => have := ih e; omega

theorem bytes_openB {fuel : Nat} {cs : List Value} {x : DataW H × List MemPlace} (h : DataW.trod enc Try.prog W base spare held fuel 29 cs = some x) :
    ∃ v b, cs = [v] ∧ SliceB W v b ∧ b.length ≤ maxLen ∧ b.length ≤ Rows.uptoBulk x.1 := by
  rcases open_ints Try.underlying29 Try.underlying5 cellsU8 h with ⟨rfl, _⟩ | ⟨a, len, cap, zs, rfl, _, hl, hm, hz, hx, hc, hw⟩
  · exact ⟨_, [], rfl, Or.inl ⟨rfl, rfl⟩, Nat.zero_le _, Nat.zero_le _⟩
  · have hzl : len ≤ zs.length := by rw [hz]; split <;> omega
    have hbl : ((zs.take len).map byteOf).length = len := by simp; omega
    refine ⟨_, (zs.take len).map byteOf, rfl, Or.inr ⟨a, cap, by rw [hbl], fun j x hj => ?_⟩, by rw [hbl]; omega, ?_⟩
    · have hjl : j < len := by have := (List.getElem?_eq_some_iff.1 hj).1; omega
      have hjz : j < zs.length := by omega
      rw [List.getElem?_map, List.getElem?_take_of_lt hjl, List.getElem?_eq_getElem hjz] at hj
      simp only [Option.map_some, Option.some.injEq] at hj
      subst hj
      rw [hc j hjz, byteV_of (hw _ (List.getElem_mem hjz))]
      simp [List.getD, List.getElem?_eq_getElem hjz]
    · subst hx
      simp only [Rows.uptoBulk]
      rw [hbl]
      have h1 := bulk_length (H := H) (lits .u8 (zs.take len))
      simp [lits] at h1 ⊢
      omega

theorem op_openB {fuel : Nat} {a : Addr} {cs : List Value} {x : DataW H × List MemPlace} (hcs : W.cells? base a 5 = some cs) (h : DataW.trod enc Try.prog W base spare held fuel 31 cs = some x) :
    ∃ o : OpD, OpAt W a o ∧ OpOk W o ∧ o.b.length ≤ Rows.uptoBulk x.1 := by
  obtain ⟨hb, hlen, hcell⟩ := World.cells?_some hcs
  obtain ⟨xs, n, _, hxe, hl, hxl, hf⟩ := DataW.trod_struct Try.underlying31 h
  have h0 := hcell 0 (by omega)
  rw [List.getElem?_eq_getElem (by omega)] at h0
  obtain ⟨b, off, spot⟩ := a
  have hspot : spot = none := by simpa [Addr.add] using World.cell?_spot h0
  subst hspot
  have some_of : ∀ i, i < xs.length → ∃ y, xs[i]? = some y := fun i hi => ⟨_, List.getElem?_eq_getElem hi⟩
  have hx5 : xs.length = 5 := hxl
  obtain ⟨y0, e0⟩ := some_of 0 (by omega)
  obtain ⟨y1, e1⟩ := some_of 1 (by omega)
  obtain ⟨y2, e2⟩ := some_of 2 (by omega)
  obtain ⟨y3, e3⟩ := some_of 3 (by omega)
  obtain ⟨y4, e4⟩ := some_of 4 (by omega)
  have f0 : DataW.trod enc Try.prog W base spare held n 3 ((cs.drop 0).take (Try.prog.cellsOf 3)) = some y0 := (hf 0 _ rfl).trans e0
  have f1 : DataW.trod enc Try.prog W base spare held n 3 ((cs.drop 1).take (Try.prog.cellsOf 3)) = some y1 := (hf 1 _ rfl).trans e1
  have f2 : DataW.trod enc Try.prog W base spare held n 9 ((cs.drop 2).take (Try.prog.cellsOf 9)) = some y2 := (hf 2 _ rfl).trans e2
  have f3 : DataW.trod enc Try.prog W base spare held n 9 ((cs.drop 3).take (Try.prog.cellsOf 9)) = some y3 := (hf 3 _ rfl).trans e3
  have f4 : DataW.trod enc Try.prog W base spare held n 29 ((cs.drop 4).take (Try.prog.cellsOf 29)) = some y4 := (hf 4 _ rfl).trans e4
  have k3 : Try.prog.cellsOf 3 = 1 := by kernel_rfl
  have k9 : Try.prog.cellsOf 9 = 1 := by kernel_rfl
  have k23 : Try.prog.cellsOf 29 = 1 := by kernel_rfl
  rw [k3] at f0 f1
  rw [k9] at f2 f3
  rw [k23] at f4
  obtain ⟨kd, c0, _, w0⟩ := DataW.trod_int Try.underlying3 f0
  obtain ⟨nn, c1, _, w1⟩ := DataW.trod_int Try.underlying3 f1
  obtain ⟨nm, c2, _, w2⟩ := DataW.trod_string Try.underlying9 f2
  obtain ⟨tt, c3, _, w3⟩ := DataW.trod_string Try.underlying9 f3
  obtain ⟨bv, bb, c4, w4, w5, w6⟩ := bytes_openB f4
  have g : ∀ i, i < 5 → W.cell? ⟨b, off + i, none⟩ = cs[i]? := fun i hi => by rw [← add_row]; exact hcell i hi
  refine ⟨⟨kd, nn, nm, tt, bv, bb⟩, ⟨?_, ?_, ?_, ?_, ?_⟩, ⟨bounds_of w1, bounds_of w0, w2, w3, w5, w4⟩, ?_⟩
  · exact (g 0 (by omega)).trans (take_one c0)
  · exact (g 1 (by omega)).trans (take_one c1)
  · exact (g 2 (by omega)).trans (take_one c2)
  · exact (g 3 (by omega)).trans (take_one c3)
  · exact (g 4 (by omega)).trans (take_one c4)
  · have h5 := bulk_mem (List.mem_map.2 ⟨y4, List.mem_of_getElem? e4, rfl⟩ : y4.1 ∈ xs.map (·.1))
    rw [hxe]
    simp only [Rows.uptoBulk]
    omega

set_option maxRecDepth 100000 in
/-- the operations that came in -/
theorem ops_openB {r : Reach} {b0 : Nat} {v : Value} {d : DataW H} {p : List MemPlace} (hval : Value.okWide Try.prog W r b0 22 v) (h : DataW.Trod enc Try.prog W base spare held 22 v d p) : ∃ ops, OpsAt W v ops ∧ ∀ o ∈ ops, o.b.length ≤ Rows.uptoBulk d := by
  obtain ⟨a0, len, cap, rfl⟩ := okWide_slice (P := Try.prog) (w := W) (r := r) (base := b0) (t := 22) (v := v) Try.underlying22 hval
  obtain ⟨fuel, hf⟩ := h
  rcases open_slice Try.underlying22 hf with ⟨hcs, _⟩ | ⟨a, len', cap', m, n, D, Pl, hcs, _, hl, hm, hmm, hd, hx⟩
  · simp [Value.cells] at hcs
    obtain ⟨rfl, rfl, rfl⟩ := hcs
    exact ⟨[], ⟨none, 0, rfl, Nat.zero_le _, fun i o h => by simp at h⟩, fun o h => by cases h⟩
  · simp [Value.cells] at hcs
    obtain ⟨rfl, rfl, rfl⟩ := hcs
    rw [cellsOp] at hx
    have hle : len ≤ m := by rw [hmm]; split <;> omega
    obtain ⟨ops, hol, hop⟩ := list_of (p := fun i o => OpAt W (a.add (i * 5)) o ∧ OpOk W o ∧ o.b.length ≤ Rows.uptoBulk d) len fun i hi => by
      obtain ⟨cs', h1, h2⟩ := hx i (by omega)
      obtain ⟨o, o1, o2, o3⟩ := op_openB h1 h2
      refine ⟨o, o1, o2, ?_⟩
      have h5 := bulk_mem (List.mem_map.2 ⟨i, List.mem_range.2 hi, rfl⟩ : D i ∈ (List.range len).map D)
      rw [(Prod.mk.inj hd).1]
      simp only [Rows.uptoBulk]
      simp only at o3
      omega
    refine ⟨ops, ⟨some a, cap, by rw [hol], by rw [hol]; omega, fun i o ho => ⟨⟨a, rfl, (hop i o ho).1⟩, (hop i o ho).2.1⟩⟩, fun o ho => ?_⟩
    obtain ⟨i, hi⟩ := List.mem_iff_getElem?.1 ho
    exact (hop i o hi).2.2

end
end Go.Proofs.Ytpaekggmphahoaa
