/-
  Lists of amounts and of ints that came in to the laws of package money.
-/
import Derived.Test.YtopklnaahdjafaaGreatDoorMArgs
import Derived.Test.YtopklnaahdjafaaGreatDoorMAms
namespace Go.Proofs.YtopklnaahdjafaaGreatDoor
open Go.ChangeShapes Go.WideShapes Go.ChangeAt Go.RowKit Go.Deep Go.Joins
set_option linter.unusedVariables false

theorem add_atM (b off i : Nat) : (⟨b, off, none⟩ : Addr).add i = ⟨b, off + i, none⟩ := by
  unfold Addr.add; split <;> simp_all
theorem take_oneM {α : Type} {l : List α} {i : Nat} {x : α} (h : (l.drop i).take 1 = [x]) : l[i]? = some x := by
  have : ((l.drop i).take 1)[0]? = some x := by rw [h]; rfl
  simpa using this
theorem list_ofM {α : Type} {p : Nat → α → Prop} : ∀ n, (∀ i, i < n → ∃ x, p i x) → ∃ l : List α, l.length = n ∧ ∀ i x, l[i]? = some x → p i x
  | 0, _ => ⟨[], rfl, fun i x h => by simp at h⟩
  | n + 1, h => by
    obtain ⟨l, hl, hp⟩ := list_ofM n fun i hi => h i (by omega)
    obtain ⟨x, hx⟩ := h n (by omega)
    refine ⟨l ++ [x], by simp [hl], fun i y hy => ?_⟩
    by_cases hi : i < l.length
    · rw [List.getElem?_append_left hi] at hy; exact hp i y hy
    · have : i < (l ++ [x]).length := (List.getElem?_eq_some_iff.1 hy).1
      have : i = l.length := by simp at this; omega
      subst this
      rw [List.getElem?_append_right (Nat.le_refl _)] at hy
      simp at hy
      subst hy
      rw [hl]; exact hx

/-- v reads as these ints -/
def IntsIn (w : World) (v : Value) (l : List Int) : Prop :=
  ∃ sp cap, v = .slice sp l.length cap ∧ (0 < l.length → ∃ g o, sp = some ⟨g, o, none⟩ ∧ ∀ (i : Nat) (x : Int), l[i]? = some x → w.cell? ⟨g, o + i, none⟩ = some (.int .i64 x))

section
variable {H : Type} {enc : TypeId × Value → H} {W : World} {base : Nat} {spare : Nat → Bool} {held : Bool}

theorem am_open {fuel : Nat} {a : Addr} {cs : List Value} {x : DataW H × List MemPlace} (hcs : W.cells? base a 2 = some cs) (h : DataW.trod enc Tryz.prog W base spare held fuel 23 cs = some x) :
    a.spot = none ∧ ∃ o : Int × ByteArray, I64 o.1 ∧ W.cell? (a.add 0) = some (.int .i64 o.1) ∧ W.cell? (a.add 1) = some (.string o.2) := by
  obtain ⟨hb, hlen, hcell⟩ := World.cells?_some hcs
  obtain ⟨xs, n, _, _, hl, hxl, hf⟩ := DataW.trod_struct Tryz.underlying23 h
  have h0 := hcell 0 (by omega)
  rw [List.getElem?_eq_getElem (by omega)] at h0
  obtain ⟨b, off, spot⟩ := a
  have hspot : spot = none := by simpa [Addr.add] using World.cell?_spot h0
  subst hspot
  have hx2 : xs.length = 2 := hxl
  have some_of : ∀ i, i < xs.length → ∃ y, xs[i]? = some y := fun i hi => ⟨_, List.getElem?_eq_getElem hi⟩
  obtain ⟨y0, e0⟩ := some_of 0 (by omega)
  obtain ⟨y1, e1⟩ := some_of 1 (by omega)
  have f0 : DataW.trod enc Tryz.prog W base spare held n 3 ((cs.drop 0).take (Tryz.prog.cellsOf 3)) = some y0 := (hf 0 _ rfl).trans e0
  have f1 : DataW.trod enc Tryz.prog W base spare held n 9 ((cs.drop 1).take (Tryz.prog.cellsOf 9)) = some y1 := (hf 1 _ rfl).trans e1
  have k3 : Tryz.prog.cellsOf 3 = 1 := by kernel_rfl
  have k9 : Tryz.prog.cellsOf 9 = 1 := by kernel_rfl
  rw [k3] at f0
  rw [k9] at f1
  obtain ⟨u, c0, _, w0⟩ := DataW.trod_int Tryz.underlying3 f0
  obtain ⟨s, c1, _, w1⟩ := DataW.trod_string Tryz.underlying9 f1
  exact ⟨rfl, ⟨u, s⟩, i64_wf w0, (hcell 0 (by omega)).trans (take_oneM c0), (hcell 1 (by omega)).trans (take_oneM c1)⟩

set_option maxRecDepth 100000 in
/-- the amounts that came in -/
theorem ams_open {r : Reach} {b0 : Nat} {v : Value} {d : DataW H} {p : List MemPlace} (hval : Value.okWide Tryz.prog W r b0 26 v) (h : DataW.Trod enc Tryz.prog W base spare held 26 v d p) :
    ∃ l, AmsR W v l ∧ l.length ≤ maxLen ∧ ∀ x ∈ l, I64 x.1 := by
  obtain ⟨a0, len, cap, rfl⟩ := okWide_slice (P := Tryz.prog) (w := W) (r := r) (base := b0) (t := 26) (v := v) Tryz.underlying26 hval
  obtain ⟨fuel, hf⟩ := h
  rcases open_slice Tryz.underlying26 hf with ⟨hcs, _⟩ | ⟨a, len', cap', m, n, D, Pl, hcs, _, hl, hm, hmm, _, hx⟩
  · simp [Value.cells] at hcs
    obtain ⟨rfl, rfl, rfl⟩ := hcs
    exact ⟨[], ⟨none, 0, rfl, fun h0 => absurd h0 (by simp)⟩, Nat.zero_le _, fun x hx => by simp at hx⟩
  · simp [Value.cells] at hcs
    obtain ⟨rfl, rfl, rfl⟩ := hcs
    rw [cellsAm] at hx
    have hle : len ≤ m := by rw [hmm]; split <;> omega
    obtain ⟨l, hol, hop⟩ := list_ofM (p := fun i (o : Int × ByteArray) => (a.add (i * 2)).spot = none ∧ I64 o.1 ∧ W.cell? ((a.add (i * 2)).add 0) = some (.int .i64 o.1) ∧ W.cell? ((a.add (i * 2)).add 1) = some (.string o.2)) len fun i hi => by
      obtain ⟨cs', h1, h2⟩ := hx i (by omega)
      obtain ⟨h3, o, h4⟩ := am_open h1 h2
      exact ⟨o, h3, h4⟩
    refine ⟨l, ⟨some a, cap, by rw [hol], fun h0 => ?_⟩, by rw [hol]; omega, fun x hx => ?_⟩
    · obtain ⟨b, off, spot⟩ := a
      have hs := (hop 0 _ (List.getElem?_eq_getElem h0)).1
      have hspot : spot = none := by
        cases spot with
        | none => rfl
        | some s => simp [Addr.add] at hs
      subst hspot
      refine ⟨b, off, rfl, fun j x hj => ?_⟩
      have := (hop j x hj).2.2
      rw [add_atM, add_atM, add_atM, Nat.add_zero] at this
      exact this
    · obtain ⟨i, hi, rfl⟩ := List.getElem_of_mem hx
      exact (hop i _ (List.getElem?_eq_getElem hi)).2.1

set_option maxRecDepth 100000 in
theorem ints_open {r : Reach} {b0 : Nat} {v : Value} {d : DataW H} {p : List MemPlace} (hval : Value.okWide Tryz.prog W r b0 24 v) (h : DataW.Trod enc Tryz.prog W base spare held 24 v d p) :
    ∃ l, IntsIn W v l ∧ l.length ≤ maxLen ∧ ∀ x ∈ l, I64 x := by
  obtain ⟨a0, len, cap, rfl⟩ := okWide_slice (P := Tryz.prog) (w := W) (r := r) (base := b0) (t := 24) (v := v) Tryz.underlying24 hval
  obtain ⟨fuel, hf⟩ := h
  rcases open_ints Tryz.underlying24 Tryz.underlying3 (by kernel_rfl) hf with ⟨hcs, _⟩ | ⟨a, len', cap', zs, hcs, _, hl, hm, hz, _, hc, hw⟩
  · simp [Value.cells] at hcs
    obtain ⟨rfl, rfl, rfl⟩ := hcs
    exact ⟨[], ⟨none, 0, rfl, fun h0 => absurd h0 (by simp)⟩, Nat.zero_le _, fun x hx => by simp at hx⟩
  · simp [Value.cells] at hcs
    obtain ⟨rfl, rfl, rfl⟩ := hcs
    have hzl : len ≤ zs.length := by rw [hz]; split <;> omega
    have hbl : (zs.take len).length = len := by simp; omega
    have hcell : ∀ j x, (zs.take len)[j]? = some x → W.cell? (a.add j) = some (.int .i64 x) := fun j x hj => by
      have hjl : j < len := by have := (List.getElem?_eq_some_iff.1 hj).1; omega
      have hjz : j < zs.length := by omega
      rw [List.getElem?_take_of_lt hjl, List.getElem?_eq_getElem hjz] at hj
      simp only [Option.some.injEq] at hj
      subst hj
      rw [hc j hjz]
      simp [List.getD, List.getElem?_eq_getElem hjz]
    refine ⟨zs.take len, ⟨some a, cap, by rw [hbl], fun h0 => ?_⟩, by rw [hbl]; omega, fun x hx => i64_wf (hw x (List.mem_of_mem_take hx))⟩
    obtain ⟨b, off, spot⟩ := a
    have h0' := hcell 0 _ (List.getElem?_eq_getElem h0)
    have hspot : spot = none := by simpa [Addr.add] using World.cell?_spot h0'
    subst hspot
    exact ⟨b, off, rfl, fun j x hj => by rw [← add_atM]; exact hcell j x hj⟩
end
end Go.Proofs.YtopklnaahdjafaaGreatDoor
