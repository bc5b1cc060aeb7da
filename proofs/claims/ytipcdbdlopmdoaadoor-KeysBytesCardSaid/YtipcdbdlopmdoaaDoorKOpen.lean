/-
  Lists of parts that came in to the laws of package keys.
-/
import Derived.Test.YtipcdbdlopmdoaaDoorKArgs
namespace Go.Proofs.YtipcdbdlopmdoaaDoor
open Go.ChangeShapes Go.WideShapes Go.ChangeAt Go.RowKit Go.Deep Go.Joins
set_option linter.unusedVariables false

theorem take_oneK {α : Type} {l : List α} {i : Nat} {x : α} (h : (l.drop i).take 1 = [x]) : l[i]? = some x := by
  have : ((l.drop i).take 1)[0]? = some x := by rw [h]; rfl
  simpa using this
theorem list_ofK {α : Type} {p : Nat → α → Prop} : ∀ n, (∀ i, i < n → ∃ x, p i x) → ∃ l : List α, l.length = n ∧ ∀ i x, l[i]? = some x → p i x
  | 0, _ => ⟨[], rfl, fun i x h => by simp at h⟩
  | n + 1, h => by
    obtain ⟨l, hl, hp⟩ := list_ofK n fun i hi => h i (by omega)
    obtain ⟨x, hx⟩ := h n (by omega)
    refine ⟨l ++ [x], by simp [hl], fun i y hy => ?_⟩
    by_cases hi : i < l.length
    · rw [List.getElem?_append_left hi] at hy; exact hp i y hy
    · have : i < (l ++ [x]).length := (List.getElem?_eq_some_iff.1 hy).1
      have : i = l.length := by simp at this; omega
      subst this
      rw [List.getElem?_append_right (Nat.le_refl _)] at hy
      simp at hy
      subst hy
      rw [hl]; exact hx

/-- a part that came in -/
structure KIn (p : KP) : Prop where
  k1 : -9223372036854775808 ≤ p.kind
  k2 : p.kind ≤ 9223372036854775807
  n : numOk p
  s : p.s.length ≤ 9223372036854775807
theorem KIn.ok {p : KP} (h : KIn p) (hs : p.s.length ≤ 300) : KOk p := ⟨h.k1, h.k2, h.n, by omega⟩

section
variable {H : Type} {enc : TypeId × Value → H} {W : World} {base : Nat} {spare : Nat → Bool} {held : Bool}

theorem int_in {z : Int} (h : (Lit.int .i64 z).wf = true) : -9223372036854775808 ≤ z ∧ z ≤ 9223372036854775807 := by
  simpa [Lit.wf, IntKind.min, IntKind.max, IntKind.signed, IntKind.bits] using h

theorem part_open {fuel : Nat} {a : Addr} {cs : List Value} {x : DataW H × List MemPlace} (hcs : W.cells? base a 3 = some cs) (h : DataW.trod enc Tryd.prog W base spare held fuel 40 cs = some x) :
    a.spot = none ∧ ∃ p : KP, KIn p ∧ W.cell? (a.add 0) = some (.int .i64 p.kind) ∧ W.cell? (a.add 1) = some (.int .i64 p.n) ∧ W.cell? (a.add 2) = some (.string (ktxt p.s)) := by
  obtain ⟨hb, hlen, hcell⟩ := World.cells?_some hcs
  obtain ⟨xs, n, _, _, hl, hxl, hf⟩ := DataW.trod_struct Tryd.underlying40 h
  have h0 := hcell 0 (by omega)
  rw [List.getElem?_eq_getElem (by omega)] at h0
  obtain ⟨b, off, spot⟩ := a
  have hspot : spot = none := by simpa [Addr.add] using World.cell?_spot h0
  subst hspot
  have hx3 : xs.length = 3 := hxl
  have some_of : ∀ i, i < xs.length → ∃ y, xs[i]? = some y := fun i hi => ⟨_, List.getElem?_eq_getElem hi⟩
  obtain ⟨y0, e0⟩ := some_of 0 (by omega)
  obtain ⟨y1, e1⟩ := some_of 1 (by omega)
  obtain ⟨y2, e2⟩ := some_of 2 (by omega)
  have f0 : DataW.trod enc Tryd.prog W base spare held n 3 ((cs.drop 0).take (Tryd.prog.cellsOf 3)) = some y0 := (hf 0 _ rfl).trans e0
  have f1 : DataW.trod enc Tryd.prog W base spare held n 3 ((cs.drop 1).take (Tryd.prog.cellsOf 3)) = some y1 := (hf 1 _ rfl).trans e1
  have f2 : DataW.trod enc Tryd.prog W base spare held n 9 ((cs.drop 2).take (Tryd.prog.cellsOf 9)) = some y2 := (hf 2 _ rfl).trans e2
  have k3 : Tryd.prog.cellsOf 3 = 1 := by kernel_rfl
  have k9 : Tryd.prog.cellsOf 9 = 1 := by kernel_rfl
  rw [k3] at f0 f1
  rw [k9] at f2
  obtain ⟨u, c0, _, w0⟩ := DataW.trod_int Tryd.underlying3 f0
  obtain ⟨z, c1, _, w1⟩ := DataW.trod_int Tryd.underlying3 f1
  obtain ⟨s, c2, _, w2⟩ := DataW.trod_string Tryd.underlying9 f2
  refine ⟨rfl, ⟨u, z, s.data.toList⟩, ⟨(int_in w0).1, (int_in w0).2, int_in w1, ?_⟩, (hcell 0 (by omega)).trans (take_oneK c0), (hcell 1 (by omega)).trans (take_oneK c1), (hcell 2 (by omega)).trans (take_oneK c2)⟩
  have h := w2; simp only [maxLen] at h; simpa using h

set_option maxRecDepth 100000 in
/-- the parts that came in -/
theorem parts_open {r : Reach} {b0 : Nat} {v : Value} {d : DataW H} {p : List MemPlace} (hval : Value.okWide Tryd.prog W r b0 22 v) (h : DataW.Trod enc Tryd.prog W base spare held 22 v d p) :
    ∃ l, PartsR W v l ∧ l.length ≤ maxLen ∧ (∀ x ∈ l, KIn x) ∧ ∀ sp n cap, v = .slice sp n cap → n ≤ cap := by
  obtain ⟨a0, len, cap, rfl⟩ := okWide_slice (P := Tryd.prog) (w := W) (r := r) (base := b0) (t := 22) (v := v) Tryd.underlying22 hval
  obtain ⟨fuel, hf⟩ := h
  rcases open_slice Tryd.underlying22 hf with ⟨hcs, _⟩ | ⟨a, len', cap', m, n, D, Pl, hcs, _, hl, hm, hmm, _, hx⟩
  · simp [Value.cells] at hcs
    obtain ⟨rfl, rfl, rfl⟩ := hcs
    exact ⟨[], ⟨none, 0, rfl, fun h0 => absurd h0 (by simp)⟩, Nat.zero_le _, (fun x hx => by simp at hx), fun sp n cap e => by simp only [Value.slice.injEq] at e; omega⟩
  · simp [Value.cells] at hcs
    obtain ⟨rfl, rfl, rfl⟩ := hcs
    rw [cellsPa] at hx
    have hle : len ≤ m := by rw [hmm]; split <;> omega
    obtain ⟨l, hol, hop⟩ := list_ofK (p := fun i (o : KP) => (a.add (i * 3)).spot = none ∧ KIn o ∧ W.cell? ((a.add (i * 3)).add 0) = some (.int .i64 o.kind) ∧ W.cell? ((a.add (i * 3)).add 1) = some (.int .i64 o.n) ∧ W.cell? ((a.add (i * 3)).add 2) = some (.string (ktxt o.s))) len fun i hi => by
      obtain ⟨cs', h1, h2⟩ := hx i (by omega)
      obtain ⟨h3, o, h4⟩ := part_open h1 h2
      exact ⟨o, h3, h4⟩
    refine ⟨l, ⟨some a, cap, by rw [hol], fun h0 => ?_⟩, by rw [hol]; omega, (fun x hx => ?_), fun sp n cp e => by simp only [Value.slice.injEq] at e; omega⟩
    · obtain ⟨b, off, spot⟩ := a
      have hs := (hop 0 _ (List.getElem?_eq_getElem h0)).1
      have hspot : spot = none := by
        cases spot with
        | none => rfl
        | some s => simp [Addr.add] at hs
      subst hspot
      refine ⟨b, off, rfl, fun j hj => ?_⟩
      have := (hop j _ (List.getElem?_eq_getElem hj)).2.2
      rw [add_atK, add_atK, add_atK, add_atK, Nat.add_zero] at this
      exact this
    · obtain ⟨i, hi, rfl⟩ := List.getElem_of_mem hx
      exact (hop i _ (List.getElem?_eq_getElem hi)).2.1
end
end Go.Proofs.YtipcdbdlopmdoaaDoor
