/-
  A log in memory; its small calls; Rotate.
-/
import Derived.Test.YtjjajnfkngfpjaaGreatDoorWFrame
import Derived.Test.YtjjajnfkngfpjaaGreatDoorWName
import Derived.Test.YtjjajnfkngfpjaaGreatDoorWLive
import Derived.Deep.RegionHeld3
namespace Go.Proofs.YtjjajnfkngfpjaaGreatDoor
open Go.RowKit Go.Maps Go.WideMaps

def LogAt (w : World) (lp p : Nat) (l : Walp.Lg) : Prop :=
  w.heap[lp]? = some (.cells #[.pointer (some ⟨p, 0, none⟩), .string (txt l.dir), .int .i64 (l.size : Nat), .int .i64 (l.first : Nat), .int .i64 (l.last : Nat), .int .i64 (l.cut : Nat), .bool l.stuck] 71 (0, 0))

structure LogX (w0 w : World) (p : Nat) (S : Fsp.Fs) (Q : Nat → Prop) (lp : Nat) (l : Walp.Lg) : Prop where
  rep : Rep w p S Q
  log : LogAt w lp p l
  out : ¬ Q lp
  new : w0.heap.size ≤ lp
  newQ : ∀ b, Q b → w0.heap.size ≤ b
  turn : Turn (fun _ => False) w0 w

/-- what a call of a log leaves -/
def LogP (w0 w : World) (p : Nat) (S' : Fsp.Fs) (Q : Nat → Prop) (lp : Nat) (l' : Walp.Lg) (w' : World) : Prop := LogX w0 w' p S' (Grow Q w w') lp l' ∧ Turn (fun b => Q b ∨ b = lp) w w'

structure LCells (w : World) (lp p : Nat) (l : Walp.Lg) : Prop where
  c0 : w.cell? ⟨lp, 0, none⟩ = some (.pointer (some ⟨p, 0, none⟩))
  c1 : w.cell? ⟨lp, 1, none⟩ = some (.string (txt l.dir))
  c2 : w.cell? ⟨lp, 2, none⟩ = some (.int .i64 (l.size : Nat))
  c3 : w.cell? ⟨lp, 3, none⟩ = some (.int .i64 (l.first : Nat))
  c4 : w.cell? ⟨lp, 4, none⟩ = some (.int .i64 (l.last : Nat))
  c5 : w.cell? ⟨lp, 5, none⟩ = some (.int .i64 (l.cut : Nat))
  c6 : w.cell? ⟨lp, 6, none⟩ = some (.bool l.stuck)
  fr : ∀ j, w.frozen? ⟨lp, j, none⟩ = false

section
variable {w0 w w' : World} {p lp : Nat} {S S' : Fsp.Fs} {c c' : Bool} {Q : Nat → Prop} {mo : Option Nat} {pl : List UInt8 → Pl} {l l' : Walp.Lg}

theorem LogAt.cells (h : LogAt w lp p l) : LCells w lp p l := by
  unfold LogAt at h
  constructor <;> simp [World.cell?, World.frozen?, h]

theorem LogAt.lt (h : LogAt w lp p l) : lp < w.heap.size := (Array.getElem?_eq_some_iff.1 h).1
theorem LogAt.turned (h : LogAt w lp p l) (ht : Turn Q w w') (hq : ¬ Q lp) : LogAt w' lp p l := (ht.block lp h.lt hq).trans h

theorem LogAt.set (h : LogAt w lp p l) {j : Nat} {v : Value} (he : (#[.pointer (some ⟨p, 0, none⟩), .string (txt l.dir), .int .i64 (l.size : Nat), .int .i64 (l.first : Nat), .int .i64 (l.last : Nat), .int .i64 (l.cut : Nat), .bool l.stuck] : Array Value).setIfInBounds j v =
    #[.pointer (some ⟨p, 0, none⟩), .string (txt l'.dir), .int .i64 (l'.size : Nat), .int .i64 (l'.first : Nat), .int .i64 (l'.last : Nat), .int .i64 (l'.cut : Nat), .bool l'.stuck]) : LogAt (w.setCell ⟨lp, j, none⟩ v) lp p l' := by
  unfold LogAt at *
  rw [heap_setCell_same h, he]

theorem isStuck_any (h : LogAt w lp p l) {b : Bool} (hb : l.stuck = b) : Calls Tryz.prog 51 #[.pointer (some ⟨lp, 0, none⟩)] w fun r w' => r = .returned (.bool b) ∧ w = w' := by
  have c6 := h.cells.c6
  rw [hb] at c6
  cases b
  all_goals
    go_enter Tryz.func51, Tryz.ntmps51
    go_wp2
    go_ret
    exact ⟨rfl, rfl⟩

theorem met_no (e : Nat) (he : e ≠ 5) (a : Addr) (w : World) : Calls Tryz.prog 53 #[.pointer (some a), .int .i64 (e : Int)] w fun r w' => r = .returned (.int .i64 (e : Int)) ∧ w = w' := by
  have b1 : ((e : Int) == 5) = false := by rw [beq_eq_false_iff_ne]; omega
  clear he
  go_enter Tryz.func53, Tryz.ntmps53
  go_wp2
  go_ret
  exact ⟨rfl, rfl⟩

theorem met_yes (h : LogAt w lp p l) : Calls Tryz.prog 53 #[.pointer (some ⟨lp, 0, none⟩), .int .i64 5] w fun r w' => r = .returned (.int .i64 5) ∧ w.setCell ⟨lp, 6, none⟩ (.bool true) = w' := by
  have c6 := h.cells.c6
  have f6 := h.cells.fr 6
  go_enter Tryz.func53, Tryz.ntmps53
  go_wp2
  go_ret
  exact ⟨rfl, rfl⟩

theorem LogX.same (h : LogX w0 w p S Q lp l) : LogP w0 w p S Q lp l w := by
  obtain ⟨⟨mo, pl, hr⟩, h2, h3, h4, h5, h6⟩ := h
  exact ⟨⟨⟨mo, pl, hr.grow w⟩, h2, fun q => q.elim h3 (fun q => by have := h2.lt; omega), h4, fun b q => q.elim (h5 b) (fun q => by have := h6.size; omega), h6⟩, Turn.refl _ _⟩

/-- behind a call of the files -/
theorem LogX.post (h : LogX w0 w p S Q lp l) {w1 : World} (hp : Post w p S' Q w1) : LogX w0 w1 p S' (Grow Q w w1) lp l := by
  obtain ⟨hr, ht⟩ := hp
  obtain ⟨_, h2, h3, h4, h5, h6⟩ := h
  exact ⟨hr, h2.turned ht h3, fun q => q.elim h3 (fun q => by have := h2.lt; omega), h4, fun b q => q.elim (h5 b) (fun q => by have := h6.size; omega), h6.trans ht (fun i hi q => by have := h5 i q; omega)⟩

/-- behind what turned nothing -/
theorem LogX.later (h : LogX w0 w p S Q lp l) {w1 : World} (ht : Turn (fun _ => False) w w1) : LogX w0 w1 p S Q lp l :=
  ⟨h.rep.turned ht (fun _ _ q => q), h.log.turned ht (fun q => q), h.out, h.new, h.newQ, h.turn.trans ht (fun _ _ q => q)⟩

/-- a cell of the log's own -/
theorem LogX.set (h : LogX w0 w p S Q lp l) {j : Nat} {v : Value} (hl : LogAt (w.setCell ⟨lp, j, none⟩ v) lp p l') : LogX w0 (w.setCell ⟨lp, j, none⟩ v) p S Q lp l' :=
  have ht : Turn (fun b => b = lp) w (w.setCell ⟨lp, j, none⟩ v) := turnP w lp j v
  ⟨h.rep.turned ht (fun b hb e => h.out (by rw [← e]; exact hb)), hl, h.out, h.new, h.newQ, h.turn.trans ht (fun i hi e => by have := h.new; omega)⟩

theorem LogP.of {w1 : World} (h : LogX w0 w1 p S' (Grow Q w w1) lp l') (ht : Turn (fun b => Q b ∨ b = lp) w w1) : LogP w0 w p S' Q lp l' w1 := ⟨h, ht⟩

theorem LogP.set {w1 : World} (h : LogP w0 w p S' Q lp l w1) {j : Nat} {v : Value} (hl : LogAt (w1.setCell ⟨lp, j, none⟩ v) lp p l') : LogP w0 w p S' Q lp l' (w1.setCell ⟨lp, j, none⟩ v) := by
  obtain ⟨hx, ht⟩ := h
  have h2 := hx.set hl
  have hsz : (w1.setCell ⟨lp, j, none⟩ v).heap.size = w1.heap.size := by simp [World.setCell]
  refine ⟨?_, ht.set lp j (Or.inl (Or.inr rfl)) v⟩
  have e : Grow Q w (w1.setCell ⟨lp, j, none⟩ v) = Grow Q w w1 := by
    funext b; unfold Grow; rw [hsz]
  rw [e]; exact h2

/-- first what turned nothing, then a call of the files -/
theorem LogX.call {w1 w2 : World} (h : LogX w0 w p S Q lp l) (ht : Turn (fun _ => False) w w1) (hp : Post w1 p S' Q w2) : LogP w0 w p S' Q lp l w2 := by
  have h1 := (h.later ht).post hp
  refine ⟨?_, (ht.mono (fun _ q => q.elim)).trans (hp.2.mono (fun _ q => Or.inl q)) (fun _ _ q => q)⟩
  have hp2 := hp.pre ht
  exact { h1 with rep := hp2.1, out := fun q => q.elim h.out (fun q => by have := h.log.lt; omega), newQ := fun b q => q.elim (h.newQ b) (fun q => by have := h.turn.size; omega) }

theorem LogP.trans {w1 w2 : World} {S1 : Fsp.Fs} {l1 : Walp.Lg} (h : LogP w0 w p S1 Q lp l1 w1) (h2 : LogP w0 w1 p S' (Grow Q w w1) lp l' w2) : LogP w0 w p S' Q lp l' w2 := by
  obtain ⟨hx, ht⟩ := h
  obtain ⟨hx2, ht2⟩ := h2
  refine ⟨?_, ht.trans ht2 (fun i hi q => ?_)⟩
  · have hq : ∀ b, Grow (Grow Q w w1) w1 w2 b → Grow Q w w2 b := fun b q => Grow.trans ht.size ht2.size b q
    obtain ⟨⟨mo, pl, hr⟩, g2, g3, g4, g5, g6⟩ := hx2
    refine ⟨⟨mo, pl, hr.mono hq (fun b q => ?_)⟩, g2, fun q => ?_, g4, fun b q => ?_, g6⟩
    · rcases q with q | q
      · exact hr.lt b (Or.inl (Or.inl q))
      · exact q.2
    · rcases q with q | q
      · exact g3 (Or.inl (Or.inl q))
      · by_cases hlt : lp < w1.heap.size
        · exact g3 (Or.inl (Or.inr ⟨q.1, hlt⟩))
        · have := hx.log.lt; omega
    · rcases q with q | q
      · exact g5 b (Or.inl (Or.inl q))
      · by_cases hlt : b < w1.heap.size
        · exact g5 b (Or.inl (Or.inr ⟨q.1, hlt⟩))
        · exact g5 b (Or.inr ⟨by omega, q.2⟩)
  · rcases q with (q | q) | q
    · exact Or.inl q
    · omega
    · exact Or.inr q

theorem LogP.later {w1 w2 : World} (h : LogP w0 w p S' Q lp l' w1) (ht : Turn (fun _ => False) w1 w2) : LogP w0 w p S' Q lp l' w2 := by
  obtain ⟨hx, h2⟩ := h
  have h3 := hx.later ht
  obtain ⟨⟨mo, pl, hr⟩, g2, g3, g4, g5, g6⟩ := h3
  refine ⟨⟨⟨mo, pl, hr.mono (fun b q => q.imp id (fun q => ⟨q.1, by have := ht.size; omega⟩)) (fun b q => ?_)⟩, g2, fun q => ?_, g4, fun b q => ?_, g6⟩, h2.trans ht (fun _ _ q => q.elim)⟩
  · rcases q with q | q
    · exact hr.lt b (Or.inl q)
    · exact q.2
  · rcases q with q | q
    · exact g3 (Or.inl q)
    · exact g3 (Or.inr ⟨q.1, hx.log.lt⟩)
  · rcases q with q | q
    · exact g5 b (Or.inl q)
    · have := h2.size; have := hx.turn.size; have := g6.size
      by_cases hb : b < w1.heap.size
      · exact g5 b (Or.inr ⟨q.1, hb⟩)
      · omega

end
end Go.Proofs.YtjjajnfkngfpjaaGreatDoor
