/-
  Lists of parts, as they come in and as they are made.
-/
import Derived.Test.YtipcdbdlopmdoaaDoorKTake
import Derived.Test.YtipcdbdlopmdoaaDoorKGrew
namespace Go.Proofs.YtipcdbdlopmdoaaDoor
open Go.RowKit Go.Maps Go.WideMaps Go.Shelf
set_option linter.unusedVariables false
set_option linter.unusedSimpArgs false

theorem add_atK (b off i : Nat) : (⟨b, off, none⟩ : Addr).add i = ⟨b, off + i, none⟩ := by
  unfold Addr.add; split <;> simp_all

/-- the cells of a part -/
def PartAt (w : World) (b o : Nat) (p : KP) : Prop := w.cell? ⟨b, o, none⟩ = some (.int .i64 p.kind) ∧ w.cell? ⟨b, o + 1, none⟩ = some (.int .i64 p.n) ∧ w.cell? ⟨b, o + 2, none⟩ = some (.string (ktxt p.s))
/-- v reads as these parts -/
def PartsR (w : World) (v : Value) (l : List KP) : Prop :=
  ∃ sp cap, v = .slice sp l.length cap ∧ (0 < l.length → ∃ g o, sp = some ⟨g, o, none⟩ ∧ ∀ i (h : i < l.length), PartAt w g (o + i * 3) l[i])

theorem PartAt.only {w w' : World} {b o : Nat} {p : KP} (h : PartAt w b o p) (t : Only w w') : PartAt w' b o p :=
  ⟨(Below.cell t (World.block_lt_of_cell? w _ h.1)).trans h.1, (Below.cell t (World.block_lt_of_cell? w _ h.2.1)).trans h.2.1, (Below.cell t (World.block_lt_of_cell? w _ h.2.2)).trans h.2.2⟩
theorem PartsR.only {w w' : World} {v : Value} {l : List KP} (h : PartsR w v l) (t : Only w w') : PartsR w' v l := by
  obtain ⟨sp, cap, h1, h2⟩ := h
  refine ⟨sp, cap, h1, fun h0 => ?_⟩
  obtain ⟨g, o, e, h3⟩ := h2 h0
  exact ⟨g, o, e, fun i hi => (h3 i hi).only t⟩

/-- a part's numbers are ints, its text is not too long -/
structure KOk (p : KP) : Prop where
  k1 : -9223372036854775808 ≤ p.kind
  k2 : p.kind ≤ 9223372036854775807
  n : numOk p
  s : p.s.length ≤ 1000

theorem kind_wf {k : Int} (h1 : -9223372036854775808 ≤ k) (h2 : k ≤ 9223372036854775807) : (Lit.int .i64 k).wf = true := by
  exact WalkArith.wf_i64 (by omega)

theorem encP_1 {p : KP} (h : p.kind = 1) : (encP p).length = 9 := by simp [encP, bodyP, h, be_length]
theorem encP_2 {p : KP} (h : p.kind = 2) : (encP p).length = (esc p.s).length + 3 := by simp [encP, bodyP, h]
theorem encP_le {p : KP} (h : KOk p) : (encP p).length ≤ 2100 := by
  have h1 := esc_length p.s
  have h2 : p.s.count 0 ≤ p.s.length := List.count_le_length
  have := h.s
  by_cases e : p.kind = 1
  · rw [encP_1 e]; omega
  · have : (encP p).length = (esc p.s).length + 3 := by simp [encP, bodyP, e]
    omega
theorem encL_le : ∀ (l : List KP), (∀ p ∈ l, KOk p) → (encL l).length ≤ 2100 * l.length
  | [], _ => by simp [encL]
  | p :: l, h => by
    have h1 := encP_le (h p (by simp))
    have h2 := encL_le l fun q hq => h q (by simp [hq])
    simp only [encL, List.length_append, List.length_cons]; omega
theorem encL_snoc (l : List KP) (i : Nat) (h : i < l.length) : encL (l.take (i + 1)) = encL (l.take i) ++ encP l[i] := by
  rw [List.take_add_one, List.getElem?_eq_getElem h, encL_append]
  simp [encL]
theorem all_snoc (l : List KP) (i : Nat) (h : i < l.length) : (l.take (i + 1)).all kindOk = ((l.take i).all kindOk && kindOk l[i]) := by
  rw [List.take_add_one, List.getElem?_eq_getElem h, List.all_append]
  simp only [Option.toList, List.all_cons, List.all_nil, Bool.and_true]

theorem Own3.of_part {w : World} (p : KP) : Own3 (w.alloc (.cells #[.int .i64 p.kind, .int .i64 p.n, .string (ktxt p.s)] 40)) w.heap.size (.int .i64 p.kind) (.int .i64 p.n) (.string (ktxt p.s)) := Own3.new _ _ _ _ _
end Go.Proofs.YtipcdbdlopmdoaaDoor
