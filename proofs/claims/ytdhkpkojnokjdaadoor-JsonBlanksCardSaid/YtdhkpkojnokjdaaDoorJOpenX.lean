/-
  Bytes that come in, read byte by byte.
-/
import Derived.Test.YtdhkpkojnokjdaaDoorJSprW
namespace Go.Proofs.YtdhkpkojnokjdaaDoor
open Go.ChangeShapes Go.WideShapes Go.ChangeAt Go.RowKit Go.Deep Go.Joins Go.Lib
set_option linter.unusedVariables false
section
variable {H : Type} {enc : TypeId × Value → H} {W : World} {base : Nat} {held : Bool}
set_option maxRecDepth 100000 in
/-- the bytes that came in -/
theorem bytesX_open {r : Reach} {b0 : Nat} {v : Value} {d : DataW H} {p : List MemPlace} (hval : Value.okWide Tryd.prog W r b0 26 v) (h : DataW.Trod enc Tryd.prog W base (fun _ => true) held 26 v d p) : ∃ b, BytesIn W v b ∧ BytesX W v b := by
  obtain ⟨a0, len, cap, rfl⟩ := okWide_slice (P := Tryd.prog) (w := W) (r := r) (base := b0) (t := 26) (v := v) Tryd.underlying26 hval
  obtain ⟨fuel, hf⟩ := h
  rcases open_ints Tryd.underlying26 Tryd.underlying5 cellsU8J hf with ⟨h1, -⟩ | ⟨a, len', cap', zs, h1, _, hl, hm, hz, -, hc, hw⟩
  · simp [Value.cells] at h1
    obtain ⟨rfl, rfl, rfl⟩ := h1
    exact ⟨[], BytesIn.own (BytesO.nil W 0), none, 0, rfl, Or.inl rfl⟩
  · simp [Value.cells] at h1
    obtain ⟨rfl, rfl, rfl⟩ := h1
    rw [if_pos rfl] at hz
    have hbl : ((zs.take len).map byteOf).length = len := by simp; omega
    refine ⟨(zs.take len).map byteOf, ?_⟩
    have hcells : ∀ j x, (((zs.take len).map byteOf).map u8V)[j]? = some x → W.cell? (a.add j) = some x := fun j x hj => by
      rw [List.getElem?_map, List.getElem?_map] at hj
      have hjl : j < len := by
        rcases Nat.lt_or_ge j len with k | k
        · exact k
        · rw [List.getElem?_eq_none (by simp; omega)] at hj; simp at hj
      have hjz : j < zs.length := by omega
      rw [List.getElem?_take_of_lt hjl, List.getElem?_eq_getElem hjz] at hj
      simp only [Option.map_some, Option.some.injEq] at hj
      rw [hc j hjz, ← hj, u8V_of (hw _ (List.getElem_mem hjz))]
      simp [List.getD, List.getElem?_eq_getElem hjz]
    have h1 := BytesIn.addr (w := W) (a := a) (cap := cap) (l := (zs.take len).map byteOf) hcells
    rw [hbl] at h1
    refine ⟨h1, some a, cap, by rw [hbl], ?_⟩
    by_cases h0 : (zs.take len).map byteOf = []
    · exact Or.inl h0
    · have hp : 0 < ((zs.take len).map byteOf).length := List.length_pos_iff.2 h0
      obtain ⟨g, off, spot⟩ := a
      have hs := World.cell?_spot (hcells 0 _ (by rw [List.getElem?_map, List.getElem?_eq_getElem hp]; rfl))
      have hspot : spot = none := by
        cases spot with
        | none => rfl
        | some s => simp [Addr.add] at hs
      subst hspot
      refine Or.inr ⟨g, off, rfl, fun i hi => ?_⟩
      have h2 := hcells i _ (by rw [List.getElem?_map, List.getElem?_eq_getElem hi]; rfl)
      rw [add_at] at h2
      exact h2
end
end Go.Proofs.YtdhkpkojnokjdaaDoor
