/-
  The crashes that came in.
-/
import Derived.Test.YtkhlejficonhpaaGreatDoorWArgs
import Derived.Test.YtkhlejficonhpaaGreatDoorWKept
namespace Go.Proofs.YtkhlejficonhpaaGreatDoor
open Go.ChangeShapes Go.WideShapes Go.ChangeAt Go.RowKit Go.Deep
set_option linter.unusedVariables false

theorem cellsCrash : Tryz.prog.cellsOf 35 = 2 := by kernel_rfl

section
variable {H : Type} {enc : TypeId × Value → H} {W : World} {base : Nat} {spare : Nat → Bool} {held : Bool}

theorem take_one {α : Type} {l : List α} {i : Nat} {x : α} (h : (l.drop i).take 1 = [x]) : l[i]? = some x := by
  have : ((l.drop i).take 1)[0]? = some x := by rw [h]; rfl
  simpa using this

theorem crash_open {fuel : Nat} {a : Addr} {cs : List Value} {x : DataW H × List MemPlace} (hcs : W.cells? base a 2 = some cs) (h : DataW.trod enc Tryz.prog W base spare held fuel 35 cs = some x) :
    ∃ o : Int × Int, CrashAt W a o ∧ o.1 ≤ 9223372036854775807 := by
  obtain ⟨hb, hlen, hcell⟩ := World.cells?_some hcs
  obtain ⟨xs, n, _, _, hl, hxl, hf⟩ := DataW.trod_struct Tryz.underlying35 h
  have h0 := hcell 0 (by omega)
  rw [List.getElem?_eq_getElem (by omega)] at h0
  obtain ⟨b, off, spot⟩ := a
  have hspot : spot = none := by simpa [Addr.add] using World.cell?_spot h0
  subst hspot
  have hx2 : xs.length = 2 := hxl
  obtain ⟨y0, e0⟩ : ∃ y, xs[0]? = some y := ⟨_, List.getElem?_eq_getElem (by omega)⟩
  obtain ⟨y1, e1⟩ : ∃ y, xs[1]? = some y := ⟨_, List.getElem?_eq_getElem (by omega)⟩
  have f0 : DataW.trod enc Tryz.prog W base spare held n 3 ((cs.drop 0).take (Tryz.prog.cellsOf 3)) = some y0 := (hf 0 _ rfl).trans e0
  have f1 : DataW.trod enc Tryz.prog W base spare held n 3 ((cs.drop 1).take (Tryz.prog.cellsOf 3)) = some y1 := (hf 1 _ rfl).trans e1
  have k3 : Tryz.prog.cellsOf 3 = 1 := by kernel_rfl
  rw [k3] at f0 f1
  obtain ⟨kd, c0, _, w0⟩ := DataW.trod_int Tryz.underlying3 f0
  obtain ⟨nn, c1, _, w1⟩ := DataW.trod_int Tryz.underlying3 f1
  have g : ∀ i, i < 2 → W.cell? ⟨b, off + i, none⟩ = cs[i]? := fun i hi => by rw [← add_at]; exact hcell i hi
  exact ⟨(kd, nn), ⟨(g 0 (by omega)).trans (take_one c0), (g 1 (by omega)).trans (take_one c1)⟩, (bounds_of w0).2⟩

set_option maxRecDepth 100000 in
theorem crashes_in {r : Reach} {b0 : Nat} {v : Value} {d : DataW H} {p : List MemPlace} (hval : Value.okWide Tryz.prog W r b0 23 v) (h : DataW.Trod enc Tryz.prog W base (fun _ => true) held 23 v d p) (hk : Rows.uptoBulk d ≤ 1048576) : ∃ cs, CrashesIn W v cs ∧ 0 ≤ Rows.uptoBulk d := by
  obtain ⟨a0, len, cap, rfl⟩ := okWide_slice (P := Tryz.prog) (w := W) (r := r) (base := b0) (t := 23) (v := v) Tryz.underlying23 hval
  obtain ⟨fuel, hf⟩ := h
  rcases open_slice Tryz.underlying23 hf with ⟨hcs, hd⟩ | ⟨a, len', cap', m, n, D, Pl, hcs, _, hl, hm, hmm, hd, hx⟩
  · simp [Value.cells] at hcs
    obtain ⟨rfl, rfl, rfl⟩ := hcs
    exact ⟨[], ⟨none, 0, rfl, Nat.zero_le _, fun i o h => by simp at h⟩, Nat.zero_le _⟩
  · simp [Value.cells] at hcs
    obtain ⟨rfl, rfl, rfl⟩ := hcs
    rw [cellsCrash] at hx
    have hle : len ≤ m := by rw [hmm]; split <;> omega
    obtain ⟨ls, hol, hop⟩ := list_of (p := fun i (o : Int × Int) => CrashAt W (a.add (i * 2)) o ∧ o.1 ≤ 9223372036854775807) len fun i hi => by
      obtain ⟨cs', h1, h2⟩ := hx i (by omega)
      exact crash_open h1 h2
    exact ⟨ls, ⟨some a, cap, by rw [hol], by rw [hol]; omega, fun i o ho => ⟨⟨a, rfl, (hop i o ho).1⟩, (hop i o ho).2⟩⟩, Nat.zero_le _⟩

end
end Go.Proofs.YtkhlejficonhpaaGreatDoor
