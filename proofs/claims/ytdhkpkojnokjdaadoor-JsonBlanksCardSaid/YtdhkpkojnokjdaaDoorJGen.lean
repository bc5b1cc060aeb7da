/-
  Any JSON value in memory, whatever it is made of; what was read is one.
-/
import Derived.Test.YtdhkpkojnokjdaaDoorJVal
namespace Go.Proofs.YtdhkpkojnokjdaaDoor
open Go.RowKit Go.Maps Go.WideMaps Go.Shelf
set_option linter.unusedVariables false
set_option linter.unusedSimpArgs false

/-- a value: kind, text, elements, names -/
inductive GV
  | mk (k : Int) (t : List UInt8) (l : List GV) (ns : List (List UInt8))

/-- names that stand in memory -/
def NamesIn (w : World) (N : Value) (ns : List (List UInt8)) : Prop := ∃ sp cap, N = .slice sp ns.length cap ∧ ns.length ≤ cap ∧ (ns = [] ∨ ∃ g off, sp = some ⟨g, off, none⟩ ∧ ∀ i (h : i < ns.length), w.cell? ⟨g, off + i, none⟩ = some (txt ns[i]))

mutual
/-- memory shows that value -/
def GIn (w : World) : GV → Value → Prop
  | .mk k t l ns, v => ∃ L N, v = .agg #[.int .i64 k, txt t, L, N] ∧ (∃ sp cap, L = .slice sp l.length cap ∧ (l = [] ∨ ∃ g off, sp = some ⟨g, off, none⟩ ∧ GCells w l g off)) ∧ NamesIn w N ns
/-- memory shows those values from a cell on, four cells each -/
def GCells (w : World) : List GV → Nat → Nat → Prop
  | [], g, off => True
  | x :: r, g, off => (∃ a b c d, (w.cell? ⟨g, off, none⟩ = some a ∧ w.cell? ⟨g, off + 1, none⟩ = some b ∧ w.cell? ⟨g, off + 2, none⟩ = some c ∧ w.cell? ⟨g, off + 3, none⟩ = some d) ∧ GIn w x (.agg #[a, b, c, d])) ∧ GCells w r g (off + 4)
end

theorem cell_only {w w' : World} {a : Addr} {v : Value} (h : w.cell? a = some v) (t : Only w w') : w'.cell? a = some v :=
  (World.cell?_of_block (t.block a.block (World.block_lt_of_cell? w a h))).trans h
theorem NamesIn.only {w w' : World} {N : Value} {ns : List (List UInt8)} (h : NamesIn w N ns) (t : Only w w') : NamesIn w' N ns := by
  obtain ⟨sp, cap, e, hc0, h⟩ := h
  refine ⟨sp, cap, e, hc0, ?_⟩
  rcases h with h | ⟨g, off, e2, hc⟩
  · exact Or.inl h
  · exact Or.inr ⟨g, off, e2, fun i hi => cell_only (hc i hi) t⟩
theorem NamesIn.nil (w : World) : NamesIn w (.slice none 0 0) [] := ⟨none, 0, rfl, Nat.le_refl _, Or.inl rfl⟩
theorem NamesIn.take {w : World} {sp : Option Addr} {n cap m : Nat} {ns : List (List UInt8)} (h : NamesIn w (.slice sp n cap) ns) (hm : m ≤ ns.length) : NamesIn w (.slice sp m cap) (ns.take m) := by
  obtain ⟨sp', cap', e, hc0, h⟩ := h
  simp only [Value.slice.injEq] at e
  obtain ⟨rfl, rfl, rfl⟩ := e
  have hl : (ns.take m).length = m := by rw [List.length_take]; omega
  refine ⟨sp, cap, by rw [hl], by omega, ?_⟩
  rcases h with h | ⟨g, off, e2, hc⟩
  · exact Or.inl (by rw [h]; simp)
  · exact Or.inr ⟨g, off, e2, fun i hi => by rw [hc i (by omega)]; simp⟩
mutual
theorem GIn.only {w w' : World} (t : Only w w') : ∀ (x : GV) {v : Value}, GIn w x v → GIn w' x v
  | .mk k tx l ns, v, h => by
    unfold GIn at h ⊢
    obtain ⟨L, N, e, ⟨sp, cap, e2, hl⟩, hn⟩ := h
    refine ⟨L, N, e, ⟨sp, cap, e2, ?_⟩, hn.only t⟩
    rcases hl with hl | ⟨g, off, e3, hc⟩
    · exact Or.inl hl
    · exact Or.inr ⟨g, off, e3, GCells.only t l hc⟩
theorem GCells.only {w w' : World} (t : Only w w') : ∀ (l : List GV) {g off : Nat}, GCells w l g off → GCells w' l g off
  | [], g, off, h => h
  | x :: r, g, off, h => by
    unfold GCells at h ⊢
    obtain ⟨⟨a, b, c, d, ⟨h1, h2, h3, h4⟩, hx⟩, hr⟩ := h
    exact ⟨⟨a, b, c, d, ⟨cell_only h1 t, cell_only h2 t, cell_only h3 t, cell_only h4 t⟩, GIn.only t x hx⟩, GCells.only t r hr⟩
end
theorem GCells.at_ {w : World} : ∀ {l : List GV} {g off : Nat}, GCells w l g off → ∀ i (h : i < l.length), ∃ a b c d, (w.cell? ⟨g, off + i * 4, none⟩ = some a ∧ w.cell? ⟨g, off + i * 4 + 1, none⟩ = some b ∧ w.cell? ⟨g, off + i * 4 + 2, none⟩ = some c ∧ w.cell? ⟨g, off + i * 4 + 3, none⟩ = some d) ∧ GIn w l[i] (.agg #[a, b, c, d])
  | x :: r, g, off, h, 0, hi => by
    unfold GCells at h
    simpa using h.1
  | x :: r, g, off, h, i + 1, hi => by
    unfold GCells at h
    obtain ⟨a, b, c, d, ⟨h1, h2, h3, h4⟩, hx⟩ := GCells.at_ h.2 i (by simpa using hi)
    have e : off + 4 + i * 4 = off + (i + 1) * 4 := by omega
    rw [e] at h1 h2 h3 h4
    exact ⟨a, b, c, d, ⟨h1, h2, h3, h4⟩, by simpa using hx⟩

/-- what was read, as a value -/
def toG : JV → GV
  | .plain k => .mk (k : Int) [] [] []
  | .num t => .mk 3 t [] []
  | .str t => .mk 4 t [] []
  | .arr l => .mk 5 [] (l.attach.map fun ⟨x, _⟩ => toG x) []
  | .obj ns l => .mk 6 [] (l.attach.map fun ⟨x, _⟩ => toG x) ns
theorem toG_arr (l : List JV) : toG (.arr l) = .mk 5 [] (l.map toG) [] := by
  rw [toG]; simp
theorem toG_obj (ns : List (List UInt8)) (l : List JV) : toG (.obj ns l) = .mk 6 [] (l.map toG) ns := by
  rw [toG]; simp

theorem row_cell {w : World} {t : TypeId} {size : Nat} {v : Value} {n : Nat} {xs : List Value} (h : w.ownsRow 0 t size v n xs) : (v = .slice none 0 0 ∧ n = 0) ∨ ∃ g cap, v = .slice (some ⟨g, 0, none⟩) n cap ∧ n ≤ cap ∧ ∀ i, i < n * size → w.cell? ⟨g, 0 + i, none⟩ = xs[i]? := by
  have h' := h
  rcases h.2 with hv | ⟨g, cap, cur, e, hg, hh, h1, h2, h3, h4⟩
  · exact Or.inl hv
  · subst e
    refine Or.inr ⟨g, cap, rfl, h1, fun i hi => ?_⟩
    rw [Nat.zero_add]
    exact h'.cellAt i hi

mutual
theorem VRep.gin {w : World} : ∀ (x : JV) {S : Nat → Prop} {v : Value}, VRep w x S v → GIn w (toG x) v
  | .plain k, S, v, h => by
    obtain ⟨rfl, -⟩ := h
    unfold toG GIn
    exact ⟨_, _, rfl, ⟨none, 0, rfl, Or.inl rfl⟩, NamesIn.nil _⟩
  | .num t, S, v, h => by
    have h : v = vOf 3 t nilS nilS := h
    subst h
    unfold toG GIn
    exact ⟨_, _, rfl, ⟨none, 0, rfl, Or.inl rfl⟩, NamesIn.nil _⟩
  | .str t, S, v, h => by
    have h : v = vOf 4 t nilS nilS := h
    subst h
    unfold toG GIn
    exact ⟨_, _, rfl, ⟨none, 0, rfl, Or.inl rfl⟩, NamesIn.nil _⟩
  | .arr l, S, v, h => by
    unfold VRep at h
    obtain ⟨L, xs, rfl, hr, hl⟩ := h
    rw [toG_arr]
    unfold GIn
    refine ⟨L, nilS, rfl, ?_, NamesIn.nil _⟩
    rw [List.length_map]
    rcases row_cell hr.1 with ⟨e, h0⟩ | ⟨g, cap, e, -, hc⟩
    · exact ⟨none, 0, by rw [e, h0], Or.inl (by rw [List.length_eq_zero_iff.1 h0]; rfl)⟩
    · exact ⟨_, cap, e, Or.inr ⟨g, 0, rfl, LRep.gcells l hl (fun i hi => hc i (by have := hr.1.1; omega))⟩⟩
  | .obj ns l, S, v, h => by
    unfold VRep at h
    obtain ⟨L, N, xs, rfl, hn, hd, hr, hr2, hl⟩ := h
    rw [toG_obj]
    unfold GIn
    refine ⟨L, N, rfl, ?_, ?_⟩
    · rw [List.length_map]
      rcases row_cell hr.1 with ⟨e, h0⟩ | ⟨g, cap, e, -, hc⟩
      · exact ⟨none, 0, by rw [e, h0], Or.inl (by rw [List.length_eq_zero_iff.1 h0]; rfl)⟩
      · exact ⟨_, cap, e, Or.inr ⟨g, 0, rfl, LRep.gcells l hl (fun i hi => hc i (by have := hr.1.1; omega))⟩⟩
    · rcases row_cell hr2.1 with ⟨e, h0⟩ | ⟨g, cap, e, hcp, hc⟩
      · exact ⟨none, 0, by rw [e, h0], by omega, Or.inl (List.length_eq_zero_iff.1 h0)⟩
      · exact ⟨_, cap, e, hcp, Or.inr ⟨g, 0, rfl, fun i hi => by rw [hc i (by omega)]; simp [hi]⟩⟩
theorem LRep.gcells {w : World} : ∀ (l : List JV) {S : Nat → Prop} {xs : List Value} {g off : Nat}, LRep w l S xs → (∀ i, i < xs.length → w.cell? ⟨g, off + i, none⟩ = xs[i]?) → GCells w (l.map toG) g off
  | [], S, xs, g, off, h, hc => by unfold GCells; trivial
  | x :: r, S, xs, g, off, h, hc => by
    unfold LRep at h
    obtain ⟨a, b, c, d, ys, rfl, h1, h2⟩ := h
    rw [List.map_cons]
    unfold GCells
    refine ⟨⟨a, b, c, d, ⟨?_, ?_, ?_, ?_⟩, VRep.gin x h1⟩, LRep.gcells r h2 (fun i hi => ?_)⟩
    · simpa using hc 0 (by simp)
    · simpa using hc 1 (by simp)
    · simpa using hc 2 (by simp)
    · simpa using hc 3 (by simp)
    · have := hc (i + 4) (by simp; omega)
      rw [show off + (i + 4) = off + 4 + i by omega] at this
      simpa using this
end
end Go.Proofs.YtdhkpkojnokjdaaDoor
