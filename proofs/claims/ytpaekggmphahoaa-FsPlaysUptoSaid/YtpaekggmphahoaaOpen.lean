/-
  What comes in, read as the walks want it: a slice of operations, a slice of bytes.
-/
import Derived.Test.YtpaekggmphahoaaFpF
import Derived.Test.YtpaekggmphahoaaRows
import Derived.WalkKit
import Derived.ProofKit
import Derived.OpenShut
import Derived.JoinedCond
import Derived.Carry
import Derived.ChangeMaps5
import Derived.Deep.Slices
import Derived.Deep.Fields
namespace Go.Proofs.Ytpaekggmphahoaa
open Go.ChangeShapes Go.WideShapes Go.ChangeAt Go.RowKit Go.Deep
set_option linter.unusedVariables false

theorem ownK : ownKnob Try.prog.godebug = none := by kernel_rfl
theorem laidOut : laidOutB Try.prog = true := by kernel_rfl
theorem cellsU8 : Try.prog.cellsOf 5 = 1 := by kernel_rfl
theorem cellsOp : Try.prog.cellsOf 31 = 5 := by kernel_rfl

section
variable {H : Type} {enc : TypeId × Value → H} {W : World} {base : Nat} {spare : Nat → Bool} {held : Bool}

def byteOf (z : Int) : UInt8 := UInt8.ofNat z.toNat

theorem byteV_of {z : Int} (h : (Lit.int .u8 z).wf = true) : byteV (byteOf z) = .int .u8 z := by
  have hx : 0 ≤ z ∧ z ≤ 255 := by simpa [Lit.wf, IntKind.min, IntKind.max, IntKind.signed, IntKind.bits] using h
  have : (UInt8.ofNat z.toNat).toNat = z.toNat := by
    rw [UInt8.toNat_ofNat']
    exact Nat.mod_eq_of_lt (by have : z.toNat ≤ 255 := by omega
                               omega)
  unfold byteV byteOf
  rw [this, Int.toNat_of_nonneg hx.1]

theorem bytes_open {fuel : Nat} {cs : List Value} {x : DataW H × List MemPlace} (h : DataW.trod enc Try.prog W base spare held fuel 29 cs = some x) :
    ∃ v b, cs = [v] ∧ SliceB W v b ∧ b.length ≤ maxLen := by
  rcases open_ints Try.underlying29 Try.underlying5 cellsU8 h with ⟨rfl, _⟩ | ⟨a, len, cap, zs, rfl, _, hl, hm, hz, _, hc, hw⟩
  · exact ⟨_, [], rfl, Or.inl ⟨rfl, rfl⟩, Nat.zero_le _⟩
  · have hzl : len ≤ zs.length := by rw [hz]; split <;> omega
    have hbl : ((zs.take len).map byteOf).length = len := by simp; omega
    refine ⟨_, (zs.take len).map byteOf, rfl, Or.inr ⟨a, cap, by rw [hbl], fun j x hj => ?_⟩, by rw [hbl]; omega⟩
    have hjl : j < len := by have := (List.getElem?_eq_some_iff.1 hj).1; omega
    have hjz : j < zs.length := by omega
    rw [List.getElem?_map, List.getElem?_take_of_lt hjl, List.getElem?_eq_getElem hjz] at hj
    simp only [Option.map_some, Option.some.injEq] at hj
    subst hj
    rw [hc j hjz, byteV_of (hw _ (List.getElem_mem hjz))]
    simp [List.getD, List.getElem?_eq_getElem hjz]

theorem bounds_of {z : Int} (h : (Lit.int .i64 z).wf = true) : -9223372036854775808 ≤ z ∧ z ≤ 9223372036854775807 := by
  simpa [Lit.wf, IntKind.min, IntKind.max, IntKind.signed, IntKind.bits] using h

theorem take_one {α : Type} {l : List α} {i : Nat} {x : α} (h : (l.drop i).take 1 = [x]) : l[i]? = some x := by
  have : ((l.drop i).take 1)[0]? = some x := by rw [h]; rfl
  simpa using this

theorem add_row (b off i : Nat) : (⟨b, off, none⟩ : Addr).add i = ⟨b, off + i, none⟩ := by
  unfold Addr.add; split <;> simp_all

theorem op_open {fuel : Nat} {a : Addr} {cs : List Value} {x : DataW H × List MemPlace} (hcs : W.cells? base a 5 = some cs) (h : DataW.trod enc Try.prog W base spare held fuel 31 cs = some x) :
    ∃ o : OpD, OpAt W a o ∧ OpOk W o := by
  obtain ⟨hb, hlen, hcell⟩ := World.cells?_some hcs
  obtain ⟨xs, n, _, _, hl, hxl, hf⟩ := DataW.trod_struct Try.underlying31 h
  have h0 := hcell 0 (by omega)
  rw [List.getElem?_eq_getElem (by omega)] at h0
  obtain ⟨b, off, spot⟩ := a
  have hspot : spot = none := by simpa [Addr.add] using World.cell?_spot h0
  subst hspot
  have some_of : ∀ i, i < xs.length → ∃ y, xs[i]? = some y := fun i hi => ⟨_, List.getElem?_eq_getElem hi⟩
  have hx5 : xs.length = 5 := hxl
  obtain ⟨y0, e0⟩ := some_of 0 (by omega)
  obtain ⟨y1, e1⟩ := some_of 1 (by omega)
  obtain ⟨y2, e2⟩ := some_of 2 (by omega)
  obtain ⟨y3, e3⟩ := some_of 3 (by omega)
  obtain ⟨y4, e4⟩ := some_of 4 (by omega)
  have f0 : DataW.trod enc Try.prog W base spare held n 3 ((cs.drop 0).take (Try.prog.cellsOf 3)) = some y0 := (hf 0 _ rfl).trans e0
  have f1 : DataW.trod enc Try.prog W base spare held n 3 ((cs.drop 1).take (Try.prog.cellsOf 3)) = some y1 := (hf 1 _ rfl).trans e1
  have f2 : DataW.trod enc Try.prog W base spare held n 9 ((cs.drop 2).take (Try.prog.cellsOf 9)) = some y2 := (hf 2 _ rfl).trans e2
  have f3 : DataW.trod enc Try.prog W base spare held n 9 ((cs.drop 3).take (Try.prog.cellsOf 9)) = some y3 := (hf 3 _ rfl).trans e3
  have f4 : DataW.trod enc Try.prog W base spare held n 29 ((cs.drop 4).take (Try.prog.cellsOf 29)) = some y4 := (hf 4 _ rfl).trans e4
  have k3 : Try.prog.cellsOf 3 = 1 := by kernel_rfl
  have k9 : Try.prog.cellsOf 9 = 1 := by kernel_rfl
  have k23 : Try.prog.cellsOf 29 = 1 := by kernel_rfl
  rw [k3] at f0 f1
  rw [k9] at f2 f3
  rw [k23] at f4
  obtain ⟨kd, c0, _, w0⟩ := DataW.trod_int Try.underlying3 f0
  obtain ⟨nn, c1, _, w1⟩ := DataW.trod_int Try.underlying3 f1
  obtain ⟨nm, c2, _, w2⟩ := DataW.trod_string Try.underlying9 f2
  obtain ⟨tt, c3, _, w3⟩ := DataW.trod_string Try.underlying9 f3
  obtain ⟨bv, bb, c4, w4, w5⟩ := bytes_open f4
  have g : ∀ i, i < 5 → W.cell? ⟨b, off + i, none⟩ = cs[i]? := fun i hi => by rw [← add_row]; exact hcell i hi
  refine ⟨⟨kd, nn, nm, tt, bv, bb⟩, ⟨?_, ?_, ?_, ?_, ?_⟩, ⟨bounds_of w1, bounds_of w0, w2, w3, w5, w4⟩⟩
  · exact (g 0 (by omega)).trans (take_one c0)
  · exact (g 1 (by omega)).trans (take_one c1)
  · exact (g 2 (by omega)).trans (take_one c2)
  · exact (g 3 (by omega)).trans (take_one c3)
  · exact (g 4 (by omega)).trans (take_one c4)

theorem list_of {α : Type} {p : Nat → α → Prop} : ∀ n, (∀ i, i < n → ∃ x, p i x) → ∃ l : List α, l.length = n ∧ ∀ i x, l[i]? = some x → p i x
  | 0, _ => ⟨[], rfl, fun i x h => by simp at h⟩
  | n + 1, h => by
    obtain ⟨l, hl, hp⟩ := list_of n fun i hi => h i (by omega)
    obtain ⟨x, hx⟩ := h n (by omega)
    refine ⟨l ++ [x], by simp [hl], fun i y hy => ?_⟩
    by_cases hi : i < l.length
    · rw [List.getElem?_append_left hi] at hy; exact hp i y hy
    · have : i < (l ++ [x]).length := (List.getElem?_eq_some_iff.1 hy).1
      have : i = l.length := by simp at this; omega
      subst this
      rw [List.getElem?_append_right (Nat.le_refl _)] at hy
      simp at hy
      subst hy
      rw [hl]; exact hx

set_option maxRecDepth 100000 in
/-- the operations that came in -/
theorem ops_open {r : Reach} {b0 : Nat} {v : Value} {d : DataW H} {p : List MemPlace} (hval : Value.okWide Try.prog W r b0 22 v) (h : DataW.Trod enc Try.prog W base spare held 22 v d p) : ∃ ops, OpsAt W v ops := by
  obtain ⟨a0, len, cap, rfl⟩ := okWide_slice (P := Try.prog) (w := W) (r := r) (base := b0) (t := 22) (v := v) Try.underlying22 hval
  obtain ⟨fuel, hf⟩ := h
  rcases open_slice Try.underlying22 hf with ⟨hcs, _⟩ | ⟨a, len', cap', m, n, D, Pl, hcs, _, hl, hm, hmm, _, hx⟩
  · simp [Value.cells] at hcs
    obtain ⟨rfl, rfl, rfl⟩ := hcs
    exact ⟨[], none, 0, rfl, Nat.zero_le _, fun i o h => by simp at h⟩
  · simp [Value.cells] at hcs
    obtain ⟨rfl, rfl, rfl⟩ := hcs
    rw [cellsOp] at hx
    have hle : len ≤ m := by rw [hmm]; split <;> omega
    obtain ⟨ops, hol, hop⟩ := list_of (p := fun i o => OpAt W (a.add (i * 5)) o ∧ OpOk W o) len fun i hi => by
      obtain ⟨cs', h1, h2⟩ := hx i (by omega)
      exact op_open h1 h2
    refine ⟨ops, some a, cap, by rw [hol], by rw [hol]; omega, fun i o ho => ⟨⟨a, rfl, (hop i o ho).1⟩, (hop i o ho).2⟩⟩

set_option maxRecDepth 100000 in
/-- the bytes that came in -/
theorem bytes_in {r : Reach} {b0 : Nat} {v : Value} {d : DataW H} {p : List MemPlace} (hval : Value.okWide Try.prog W r b0 29 v) (h : DataW.Trod enc Try.prog W base spare held 29 v d p) : ∃ b, SliceB W v b ∧ b.length ≤ maxLen := by
  obtain ⟨a0, len, cap, rfl⟩ := okWide_slice (P := Try.prog) (w := W) (r := r) (base := b0) (t := 29) (v := v) Try.underlying29 hval
  obtain ⟨fuel, hf⟩ := h
  obtain ⟨v, b, hcs, hb, hl⟩ := bytes_open hf
  simp [Value.cells] at hcs
  subst hcs
  exact ⟨b, hb, hl⟩

/-- what turned nowhere of what was there -/
theorem Turn.below {w w' : World} (h : Turn (fun _ => False) w w') : Below w.heap.size w w' := ⟨h.os, h.tape, h.output, h.size, fun k hk => h.block k hk (fun q => q)⟩
end
end Go.Proofs.Ytpaekggmphahoaa
