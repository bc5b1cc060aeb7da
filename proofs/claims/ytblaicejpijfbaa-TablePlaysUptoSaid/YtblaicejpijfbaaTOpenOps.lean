/-
  The arguments of the laws of tables: operations that come in.
-/
import Derived.Test.YtblaicejpijfbaaRows
import Derived.WalkKit
import Derived.ProofKit
import Derived.OpenShut
import Derived.JoinedCond
import Derived.Carry
import Derived.ChangeMaps5
import Derived.Deep.Slices
import Derived.Deep.Fields
import Derived.Test.YtblaicejpijfbaaTFew
namespace Go.Proofs.Ytblaicejpijfbaa
open Go.ChangeShapes Go.WideShapes Go.ChangeAt Go.RowKit Go.Deep Go.Proofs.Ytblaicejpijfbaa.Tb
set_option linter.unusedVariables false

theorem ownK : ownKnob Try.prog.godebug = none := by kernel_rfl
theorem laidOut : laidOutB Try.prog = true := by kernel_rfl
theorem cellsOp : Try.prog.cellsOf 32 = 4 := by kernel_rfl

section
variable {H : Type} {enc : TypeId × Value → H} {W : World} {base : Nat} {spare : Nat → Bool} {held : Bool}

theorem take_one {α : Type} {l : List α} {i : Nat} {x : α} (h : (l.drop i).take 1 = [x]) : l[i]? = some x := by
  have : ((l.drop i).take 1)[0]? = some x := by rw [h]; rfl
  simpa using this

theorem string_list (s : ByteArray) : (.string ⟨s.data.toList.toArray⟩ : Value) = .string s := by simp

theorem op_open {fuel : Nat} {a : Addr} {cs : List Value} {x : DataW H × List MemPlace} (hcs : W.cells? base a 4 = some cs) (h : DataW.trod enc Try.prog W base spare held fuel 32 cs = some x) :
    a.spot = none ∧ ∃ o : Op3, Op3.at_ W a o := by
  obtain ⟨hb, hlen, hcell⟩ := World.cells?_some hcs
  obtain ⟨xs, n, _, _, hl, hxl, hf⟩ := DataW.trod_struct Try.underlying32 h
  have h0 := hcell 0 (by omega)
  rw [List.getElem?_eq_getElem (by omega)] at h0
  obtain ⟨b, off, spot⟩ := a
  have hspot : spot = none := by simpa [Addr.add] using World.cell?_spot h0
  subst hspot
  have some_of : ∀ i, i < xs.length → ∃ y, xs[i]? = some y := fun i hi => ⟨_, List.getElem?_eq_getElem hi⟩
  have hx4 : xs.length = 4 := hxl
  obtain ⟨y0, e0⟩ := some_of 0 (by omega)
  obtain ⟨y1, e1⟩ := some_of 1 (by omega)
  obtain ⟨y2, e2⟩ := some_of 2 (by omega)
  obtain ⟨y3, e3⟩ := some_of 3 (by omega)
  have f0 : DataW.trod enc Try.prog W base spare held n 3 ((cs.drop 0).take (Try.prog.cellsOf 3)) = some y0 := (hf 0 _ rfl).trans e0
  have f1 : DataW.trod enc Try.prog W base spare held n 3 ((cs.drop 1).take (Try.prog.cellsOf 3)) = some y1 := (hf 1 _ rfl).trans e1
  have f2 : DataW.trod enc Try.prog W base spare held n 9 ((cs.drop 2).take (Try.prog.cellsOf 9)) = some y2 := (hf 2 _ rfl).trans e2
  have f3 : DataW.trod enc Try.prog W base spare held n 9 ((cs.drop 3).take (Try.prog.cellsOf 9)) = some y3 := (hf 3 _ rfl).trans e3
  have k3 : Try.prog.cellsOf 3 = 1 := by kernel_rfl
  have k9 : Try.prog.cellsOf 9 = 1 := by kernel_rfl
  rw [k3] at f0 f1
  rw [k9] at f2 f3
  obtain ⟨kd, c0, _, w0⟩ := DataW.trod_int Try.underlying3 f0
  obtain ⟨nn, c1, _, w1⟩ := DataW.trod_int Try.underlying3 f1
  obtain ⟨nm, c2, _, w2⟩ := DataW.trod_string Try.underlying9 f2
  obtain ⟨tt, c3, _, w3⟩ := DataW.trod_string Try.underlying9 f3
  have g : ∀ i, i < 4 → W.cell? ((⟨b, off, none⟩ : Addr).add i) = cs[i]? := fun i hi => hcell i hi
  refine ⟨rfl, ⟨kd, nn, nm.data.toList, tt.data.toList⟩, ⟨?_, ?_⟩, ?_, ?_, ?_, ?_⟩
  · have h := w2; simp only [maxLen] at h; simpa using h
  · have h := w3; simp only [maxLen] at h; simpa using h
  · have h := (g 0 (by omega)).trans (take_one c0)
    rw [add_at] at h; exact h
  · exact (g 1 (by omega)).trans (take_one c1)
  · rw [string_list]; exact (g 2 (by omega)).trans (take_one c2)
  · rw [string_list]; exact (g 3 (by omega)).trans (take_one c3)

theorem list_of {α : Type} {p : Nat → α → Prop} : ∀ n, (∀ i, i < n → ∃ x, p i x) → ∃ l : List α, l.length = n ∧ ∀ i x, l[i]? = some x → p i x
  | 0, _ => ⟨[], rfl, fun i x h => by simp at h⟩
  | n + 1, h => by
    obtain ⟨l, hl, hp⟩ := list_of n fun i hi => h i (by omega)
    obtain ⟨x, hx⟩ := h n (by omega)
    refine ⟨l ++ [x], by simp [hl], fun i y hy => ?_⟩
    by_cases hi : i < l.length
    · rw [List.getElem?_append_left hi] at hy; exact hp i y hy
    · have : i < (l ++ [x]).length := (List.getElem?_eq_some_iff.1 hy).1
      have : i = l.length := by simp at this; omega
      subst this
      rw [List.getElem?_append_right (Nat.le_refl _)] at hy
      simp at hy
      subst hy
      rw [hl]; exact hx

set_option maxRecDepth 100000 in
/-- the operations that came in -/
theorem ops_open {r : Reach} {b0 : Nat} {v : Value} {d : DataW H} {p : List MemPlace} (hval : Value.okWide Try.prog W r b0 22 v) (h : DataW.Trod enc Try.prog W base spare held 22 v d p) : ∃ ops, OpsR W v ops ∧ ops.length ≤ maxLen := by
  obtain ⟨a0, len, cap, rfl⟩ := okWide_slice (P := Try.prog) (w := W) (r := r) (base := b0) (t := 22) (v := v) Try.underlying22 hval
  obtain ⟨fuel, hf⟩ := h
  rcases open_slice Try.underlying22 hf with ⟨hcs, _⟩ | ⟨a, len', cap', m, n, D, Pl, hcs, _, hl, hm, hmm, _, hx⟩
  · simp [Value.cells] at hcs
    obtain ⟨rfl, rfl, rfl⟩ := hcs
    exact ⟨[], ⟨none, 0, rfl, fun h0 => absurd h0 (by simp)⟩, Nat.zero_le _⟩
  · simp [Value.cells] at hcs
    obtain ⟨rfl, rfl, rfl⟩ := hcs
    rw [cellsOp] at hx
    have hle : len ≤ m := by rw [hmm]; split <;> omega
    obtain ⟨ops, hol, hop⟩ := list_of (p := fun i o => (a.add (i * 4)).spot = none ∧ Op3.at_ W (a.add (i * 4)) o) len fun i hi => by
      obtain ⟨cs', h1, h2⟩ := hx i (by omega)
      obtain ⟨h3, o, h4⟩ := op_open h1 h2
      exact ⟨o, h3, h4⟩
    refine ⟨ops, ⟨some a, cap, by rw [hol], fun h0 => ?_⟩, by rw [hol]; omega⟩
    obtain ⟨b, off, spot⟩ := a
    have hs := (hop 0 _ (List.getElem?_eq_getElem h0)).1
    have hspot : spot = none := by
      cases spot with
      | none => rfl
      | some s => simp [Addr.add] at hs
    subst hspot
    refine ⟨b, off, rfl, fun j x hj => ?_⟩
    have := (hop j x hj).2
    rw [add_at] at this
    exact this
end

end Go.Proofs.Ytblaicejpijfbaa
