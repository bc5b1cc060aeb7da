/-
  The arguments of the laws of meters: events that come in, ints.
-/
import Derived.Test.YtnlanemldapfiaaGreatRows
import Derived.WalkKit
import Derived.ProofKit
import Derived.OpenShut
import Derived.JoinedCond
import Derived.Carry
import Derived.ChangeMaps5
import Derived.Deep.Slices
import Derived.Deep.Fields
import Derived.Test.YtnlanemldapfiaaGreatVCheck
namespace Go.Proofs.YtnlanemldapfiaaGreat.se
open Go.ChangeShapes Go.WideShapes Go.ChangeAt Go.RowKit Go.Deep Go.Proofs.YtnlanemldapfiaaGreat.Tb
set_option linter.unusedVariables false

theorem ownK : ownKnob Tryz.prog.godebug = none := by kernel_rfl
theorem laidOut : laidOutB Tryz.prog = true := by kernel_rfl
theorem cellsEv : Tryz.prog.cellsOf 32 = 5 := by kernel_rfl
theorem add_atV (b off i : Nat) : (⟨b, off, none⟩ : Addr).add i = ⟨b, off + i, none⟩ := by
  unfold Addr.add; split <;> simp_all

/-- fits an int -/
def I64 (x : Int) : Prop := -9223372036854775808 ≤ x ∧ x < 9223372036854775808

/-- an event's cells, wherever they lie -/
structure EvLie (w : World) (b o : Nat) (x : Ev) : Prop where
  c0 : w.cell? ⟨b, o, none⟩ = some (strE x.key)
  c1 : w.cell? ⟨b, o + 1, none⟩ = some (strE x.acc)
  c2 : w.cell? ⟨b, o + 2, none⟩ = some (strE x.met)
  c3 : w.cell? ⟨b, o + 3, none⟩ = some (.int .i64 x.qty)
  c4 : w.cell? ⟨b, o + 4, none⟩ = some (.int .i64 x.at_)

theorem EvLie.later {w w' : World} {b o : Nat} {x : Ev} (h : EvLie w b o x) (ht : Turn (fun _ => False) w w') : EvLie w' b o x :=
  ⟨turn_cell ht h.c0, turn_cell ht h.c1, turn_cell ht h.c2, turn_cell ht h.c3, turn_cell ht h.c4⟩

/-- v reads as these events -/
def EvsR (w : World) (v : Value) (l : List Ev) : Prop :=
  ∃ sp cap, v = .slice sp l.length cap ∧ (0 < l.length → ∃ b o, sp = some ⟨b, o, none⟩ ∧ ∀ j x, l[j]? = some x → EvLie w b (o + j * 5) x)

/-- v reads as these ints -/
def IntsR (w : World) (v : Value) (l : List Int) : Prop :=
  ∃ sp cap, v = .slice sp l.length cap ∧ (0 < l.length → ∃ b o, sp = some ⟨b, o, none⟩ ∧ ∀ j x, l[j]? = some x → w.cell? ⟨b, o + j, none⟩ = some (.int .i64 x))

/-- lengths and numbers as they may be -/
structure EvB (x : Ev) : Prop where
  k : x.key.length ≤ 9223372036854775807
  a : x.acc.length ≤ 9223372036854775807
  m : x.met.length ≤ 9223372036854775807
  q : I64 x.qty
  t : I64 x.at_

section
variable {H : Type} {enc : TypeId × Value → H} {W : World} {base : Nat} {spare : Nat → Bool} {held : Bool}

theorem i64_wf {x : Int} (h : (Lit.int .i64 x).wf = true) : I64 x := by
  have : -9223372036854775808 ≤ x ∧ x ≤ 9223372036854775807 := by simpa [Lit.wf, IntKind.min, IntKind.max, IntKind.signed, IntKind.bits] using h
  exact ⟨by omega, by omega⟩

theorem take_one {α : Type} {l : List α} {i : Nat} {x : α} (h : (l.drop i).take 1 = [x]) : l[i]? = some x := by
  have : ((l.drop i).take 1)[0]? = some x := by rw [h]; rfl
  simpa using this

theorem string_list (s : ByteArray) : (.string ⟨s.data.toList.toArray⟩ : Value) = .string s := by simp

theorem ev_in {fuel : Nat} {a : Addr} {cs : List Value} {x : DataW H × List MemPlace} (hcs : W.cells? base a 5 = some cs) (h : DataW.trod enc Tryz.prog W base spare held fuel 32 cs = some x) :
    a.spot = none ∧ ∃ o : Ev, EvLie W a.block a.off o ∧ EvB o := by
  obtain ⟨hb, hlen, hcell⟩ := World.cells?_some hcs
  obtain ⟨xs, n, _, _, hl, hxl, hf⟩ := DataW.trod_struct Tryz.underlying32 h
  have h0 := hcell 0 (by omega)
  rw [List.getElem?_eq_getElem (by omega)] at h0
  obtain ⟨b, off, spot⟩ := a
  have hspot : spot = none := by simpa [Addr.add] using World.cell?_spot h0
  subst hspot
  have some_of : ∀ i, i < xs.length → ∃ y, xs[i]? = some y := fun i hi => ⟨_, List.getElem?_eq_getElem hi⟩
  have hx4 : xs.length = 5 := hxl
  obtain ⟨y0, e0⟩ := some_of 0 (by omega)
  obtain ⟨y1, e1⟩ := some_of 1 (by omega)
  obtain ⟨y2, e2⟩ := some_of 2 (by omega)
  obtain ⟨y3, e3⟩ := some_of 3 (by omega)
  obtain ⟨y4, e4⟩ := some_of 4 (by omega)
  have f0 : DataW.trod enc Tryz.prog W base spare held n 9 ((cs.drop 0).take (Tryz.prog.cellsOf 9)) = some y0 := (hf 0 _ rfl).trans e0
  have f1 : DataW.trod enc Tryz.prog W base spare held n 9 ((cs.drop 1).take (Tryz.prog.cellsOf 9)) = some y1 := (hf 1 _ rfl).trans e1
  have f2 : DataW.trod enc Tryz.prog W base spare held n 9 ((cs.drop 2).take (Tryz.prog.cellsOf 9)) = some y2 := (hf 2 _ rfl).trans e2
  have f3 : DataW.trod enc Tryz.prog W base spare held n 3 ((cs.drop 3).take (Tryz.prog.cellsOf 3)) = some y3 := (hf 3 _ rfl).trans e3
  have f4 : DataW.trod enc Tryz.prog W base spare held n 3 ((cs.drop 4).take (Tryz.prog.cellsOf 3)) = some y4 := (hf 4 _ rfl).trans e4
  have k3 : Tryz.prog.cellsOf 3 = 1 := by kernel_rfl
  have k9 : Tryz.prog.cellsOf 9 = 1 := by kernel_rfl
  rw [k3] at f3 f4
  rw [k9] at f0 f1 f2
  obtain ⟨s0, c0, _, w0⟩ := DataW.trod_string Tryz.underlying9 f0
  obtain ⟨s1, c1, _, w1⟩ := DataW.trod_string Tryz.underlying9 f1
  obtain ⟨s2, c2, _, w2⟩ := DataW.trod_string Tryz.underlying9 f2
  obtain ⟨q, c3, _, w3⟩ := DataW.trod_int Tryz.underlying3 f3
  obtain ⟨t, c4, _, w4⟩ := DataW.trod_int Tryz.underlying3 f4
  have g : ∀ i, i < 5 → W.cell? ((⟨b, off, none⟩ : Addr).add i) = cs[i]? := fun i hi => hcell i hi
  refine ⟨rfl, ⟨s0.data.toList, s1.data.toList, s2.data.toList, q, t⟩, ⟨?_, ?_, ?_, ?_, ?_⟩, ⟨?_, ?_, ?_, i64_wf w3, i64_wf w4⟩⟩
  · have h := (g 0 (by omega)).trans (take_one c0)
    rw [add_atV] at h
    show W.cell? _ = some (.string _)
    rw [string_list]
    exact h
  · have h := (g 1 (by omega)).trans (take_one c1)
    rw [add_atV] at h
    show W.cell? _ = some (.string _)
    rw [string_list]
    exact h
  · have h := (g 2 (by omega)).trans (take_one c2)
    rw [add_atV] at h
    show W.cell? _ = some (.string _)
    rw [string_list]
    exact h
  · have h := (g 3 (by omega)).trans (take_one c3)
    rw [add_atV] at h
    exact h
  · have h := (g 4 (by omega)).trans (take_one c4)
    rw [add_atV] at h
    exact h
  · have h := w0; simp only [maxLen] at h; simpa using h
  · have h := w1; simp only [maxLen] at h; simpa using h
  · have h := w2; simp only [maxLen] at h; simpa using h

theorem list_of {α : Type} {p : Nat → α → Prop} : ∀ n, (∀ i, i < n → ∃ x, p i x) → ∃ l : List α, l.length = n ∧ ∀ i x, l[i]? = some x → p i x
  | 0, _ => ⟨[], rfl, fun i x h => by simp at h⟩
  | n + 1, h => by
    obtain ⟨l, hl, hp⟩ := list_of n fun i hi => h i (by omega)
    obtain ⟨x, hx⟩ := h n (by omega)
    refine ⟨l ++ [x], by simp [hl], fun i y hy => ?_⟩
    by_cases hi : i < l.length
    · rw [List.getElem?_append_left hi] at hy; exact hp i y hy
    · have : i < (l ++ [x]).length := (List.getElem?_eq_some_iff.1 hy).1
      have : i = l.length := by simp at this; omega
      subst this
      rw [List.getElem?_append_right (Nat.le_refl _)] at hy
      simp at hy
      subst hy
      rw [hl]; exact hx

set_option maxRecDepth 100000 in
/-- the events that came in -/
theorem evs_open {r : Reach} {b0 : Nat} {v : Value} {d : DataW H} {p : List MemPlace} (hval : Value.okWide Tryz.prog W r b0 22 v) (h : DataW.Trod enc Tryz.prog W base spare held 22 v d p) :
    ∃ l, EvsR W v l ∧ l.length ≤ maxLen ∧ ∀ x ∈ l, EvB x := by
  obtain ⟨a0, len, cap, rfl⟩ := okWide_slice (P := Tryz.prog) (w := W) (r := r) (base := b0) (t := 22) (v := v) Tryz.underlying22 hval
  obtain ⟨fuel, hf⟩ := h
  rcases open_slice Tryz.underlying22 hf with ⟨hcs, _⟩ | ⟨a, len', cap', m, n, D, Pl, hcs, _, hl, hm, hmm, _, hx⟩
  · simp [Value.cells] at hcs
    obtain ⟨rfl, rfl, rfl⟩ := hcs
    exact ⟨[], ⟨none, 0, rfl, fun h0 => absurd h0 (by simp)⟩, Nat.zero_le _, fun x hx => by simp at hx⟩
  · simp [Value.cells] at hcs
    obtain ⟨rfl, rfl, rfl⟩ := hcs
    rw [cellsEv] at hx
    have hle : len ≤ m := by rw [hmm]; split <;> omega
    obtain ⟨l, hol, hop⟩ := list_of (p := fun i o => (a.add (i * 5)).spot = none ∧ EvLie W (a.add (i * 5)).block (a.add (i * 5)).off o ∧ EvB o) len fun i hi => by
      obtain ⟨cs', h1, h2⟩ := hx i (by omega)
      obtain ⟨h3, o, h4⟩ := ev_in h1 h2
      exact ⟨o, h3, h4⟩
    refine ⟨l, ⟨some a, cap, by rw [hol], fun h0 => ?_⟩, by rw [hol]; omega, fun x hx => ?_⟩
    · obtain ⟨b, off, spot⟩ := a
      have hs := (hop 0 _ (List.getElem?_eq_getElem h0)).1
      have hspot : spot = none := by
        cases spot with
        | none => rfl
        | some s => simp [Addr.add] at hs
      subst hspot
      refine ⟨b, off, rfl, fun j x hj => ?_⟩
      have := (hop j x hj).2.1
      rw [add_atV] at this
      exact this
    · obtain ⟨i, hi, rfl⟩ := List.getElem_of_mem hx
      exact (hop i _ (List.getElem?_eq_getElem hi)).2.2

set_option maxRecDepth 100000 in
theorem ints_open {r : Reach} {b0 : Nat} {v : Value} {d : DataW H} {p : List MemPlace} (hval : Value.okWide Tryz.prog W r b0 23 v) (h : DataW.Trod enc Tryz.prog W base spare held 23 v d p) :
    ∃ l, IntsR W v l ∧ l.length ≤ maxLen ∧ ∀ x ∈ l, I64 x := by
  obtain ⟨a0, len, cap, rfl⟩ := okWide_slice (P := Tryz.prog) (w := W) (r := r) (base := b0) (t := 23) (v := v) Tryz.underlying23 hval
  obtain ⟨fuel, hf⟩ := h
  rcases open_ints Tryz.underlying23 Tryz.underlying3 (by kernel_rfl) hf with ⟨hcs, _⟩ | ⟨a, len', cap', zs, hcs, _, hl, hm, hz, _, hc, hw⟩
  · simp [Value.cells] at hcs
    obtain ⟨rfl, rfl, rfl⟩ := hcs
    exact ⟨[], ⟨none, 0, rfl, fun h0 => absurd h0 (by simp)⟩, Nat.zero_le _, fun x hx => by simp at hx⟩
  · simp [Value.cells] at hcs
    obtain ⟨rfl, rfl, rfl⟩ := hcs
    have hzl : len ≤ zs.length := by rw [hz]; split <;> omega
    have hbl : (zs.take len).length = len := by simp; omega
    have hcell : ∀ j x, (zs.take len)[j]? = some x → W.cell? (a.add j) = some (.int .i64 x) := fun j x hj => by
      have hjl : j < len := by have := (List.getElem?_eq_some_iff.1 hj).1; omega
      have hjz : j < zs.length := by omega
      rw [List.getElem?_take_of_lt hjl, List.getElem?_eq_getElem hjz] at hj
      simp only [Option.some.injEq] at hj
      subst hj
      rw [hc j hjz]
      simp [List.getD, List.getElem?_eq_getElem hjz]
    refine ⟨zs.take len, ⟨some a, cap, by rw [hbl], fun h0 => ?_⟩, by rw [hbl]; omega, fun x hx => i64_wf (hw x (List.mem_of_mem_take hx))⟩
    obtain ⟨b, off, spot⟩ := a
    have h0' := hcell 0 _ (List.getElem?_eq_getElem h0)
    have hspot : spot = none := by simpa [Addr.add] using World.cell?_spot h0'
    subst hspot
    exact ⟨b, off, rfl, fun j x hj => by rw [← add_atV]; exact hcell j x hj⟩
end
end Go.Proofs.YtnlanemldapfiaaGreat.se
