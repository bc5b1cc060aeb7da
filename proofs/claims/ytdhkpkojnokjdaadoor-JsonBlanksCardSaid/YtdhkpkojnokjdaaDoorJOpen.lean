/-
  Bytes that come in to a law of package json.
-/
import Derived.Test.YtdhkpkojnokjdaaDoorJArgsD
namespace Go.Proofs.YtdhkpkojnokjdaaDoor
open Go.ChangeShapes Go.WideShapes Go.ChangeAt Go.RowKit Go.Deep Go.Joins Go.Lib
set_option linter.unusedVariables false

theorem cellsU8J : Tryd.prog.cellsOf 5 = 1 := by kernel_rfl
theorem bytes_convA {w : World} {a : Addr} {cap : Nat} {l : List UInt8} (hc : ∀ j u, (l.map u8V)[j]? = some u → w.cell? (a.add j) = some u) : (convert 26 9 (.slice (some a) l.length cap)).run Tryd.prog w = .ok (.string ⟨l.toArray⟩) w := by
  rw [run_convert_bytes_string w 26 9 5 _ _ _ (by kernel_rfl) (by kernel_rfl) (by kernel_rfl)]
  have hl : (loadCells a l.length).run Tryd.prog w = .ok ((l.map fun c => (c.toNat : Int)).map (Value.int .u8)).toArray w := by
    have := run_loadCells_list (P := Tryd.prog) (w := w) a (l.map u8V) (fun j v hj => hc j v hj)
    simp only [List.length_map] at this
    rw [this, List.map_map]; rfl
  rw [run_bytesToString w _ _ _ _ hl]
  congr 2
  have : ∀ (l : List UInt8) (s : ByteArray), (l.map fun c => (c.toNat : Int)).foldl (fun r n => r.push (UInt8.ofNat n.toNat)) s = ⟨s.data ++ l.toArray⟩ := by
    intro l
    induction l with
    | nil => intro s; simp
    | cons c l ih => intro s; simp only [List.map_cons, List.foldl_cons, ih]; simp [ByteArray.push]
  rw [this]; simp
theorem BytesIn.addr {w : World} {a : Addr} {cap : Nat} {l : List UInt8} (hc : ∀ j u, (l.map u8V)[j]? = some u → w.cell? (a.add j) = some u) : BytesIn w (.slice (some a) l.length cap) l :=
  ⟨⟨_, _, rfl⟩, fun W t => bytes_convA fun j u h => cell_only (hc j u h) t⟩

def byteOf (z : Int) : UInt8 := UInt8.ofNat z.toNat
theorem u8V_of {z : Int} (h : (Lit.int .u8 z).wf = true) : u8V (byteOf z) = .int .u8 z := by
  have hx : 0 ≤ z ∧ z ≤ 255 := by simpa [Lit.wf, IntKind.min, IntKind.max, IntKind.signed, IntKind.bits] using h
  have : (UInt8.ofNat z.toNat).toNat = z.toNat := by
    rw [UInt8.toNat_ofNat']
    exact Nat.mod_eq_of_lt (by have : z.toNat ≤ 255 := by omega
                               omega)
  unfold u8V byteOf
  rw [this, Int.toNat_of_nonneg hx.1]

section
variable {H : Type} {enc : TypeId × Value → H} {W : World} {base : Nat} {held : Bool}
set_option maxRecDepth 100000 in
/-- the bytes that came in -/
theorem bytesJ_open {r : Reach} {b0 : Nat} {v : Value} {d : DataW H} {p : List MemPlace} (hval : Value.okWide Tryd.prog W r b0 26 v) (h : DataW.Trod enc Tryd.prog W base (fun _ => true) held 26 v d p) : ∃ b, BytesIn W v b := by
  obtain ⟨a0, len, cap, rfl⟩ := okWide_slice (P := Tryd.prog) (w := W) (r := r) (base := b0) (t := 26) (v := v) Tryd.underlying26 hval
  obtain ⟨fuel, hf⟩ := h
  rcases open_ints Tryd.underlying26 Tryd.underlying5 cellsU8J hf with ⟨h1, -⟩ | ⟨a, len', cap', zs, h1, _, hl, hm, hz, -, hc, hw⟩
  · simp [Value.cells] at h1
    obtain ⟨rfl, rfl, rfl⟩ := h1
    exact ⟨[], BytesIn.own (BytesO.nil W 0)⟩
  · simp [Value.cells] at h1
    obtain ⟨rfl, rfl, rfl⟩ := h1
    rw [if_pos rfl] at hz
    have hbl : ((zs.take len).map byteOf).length = len := by simp; omega
    refine ⟨(zs.take len).map byteOf, ?_⟩
    have := BytesIn.addr (w := W) (a := a) (cap := cap) (l := (zs.take len).map byteOf) fun j x hj => by
      rw [List.getElem?_map, List.getElem?_map] at hj
      have hjl : j < len := by
        rcases Nat.lt_or_ge j len with k | k
        · exact k
        · rw [List.getElem?_eq_none (by simp; omega)] at hj; simp at hj
      have hjz : j < zs.length := by omega
      rw [List.getElem?_take_of_lt hjl, List.getElem?_eq_getElem hjz] at hj
      simp only [Option.map_some, Option.some.injEq] at hj
      rw [hc j hjz, ← hj, u8V_of (hw _ (List.getElem_mem hjz))]
      simp [List.getD, List.getElem?_eq_getElem hjz]
    rwa [hbl] at this
end
end Go.Proofs.YtdhkpkojnokjdaaDoor
