/-
  What serves all texts of the table: worlds, one of another's turns (as in the texts of stage 1).
-/
import Derived.Test.YtnlanemldapfiaaGreatRows
import Derived.WalkKit
import Derived.WalkSpells
import Derived.WalkLawsBesides
import Derived.Outline
import Derived.Deep.QuietTactic
import Derived.BigQuiet
import Derived.RegionTactic
import Derived.ChangeAlike
import Derived.LoopTactic
import Derived.IntWalk
import Derived.Maps.AppendAt
namespace Go.Proofs.YtnlanemldapfiaaGreat
open Go.RowKit Go.Maps Go.WideMaps

/-- w' is w but for blocks of Q and new ones -/
structure Turn (Q : Nat → Prop) (w w' : World) : Prop where
  os : w'.os = w.os
  tape : w'.tape = w.tape
  output : w'.output = w.output
  size : w.heap.size ≤ w'.heap.size
  block : ∀ k, k < w.heap.size → ¬ Q k → w'.heap[k]? = w.heap[k]?

theorem Turn.refl (Q : Nat → Prop) (w : World) : Turn Q w w := ⟨rfl, rfl, rfl, Nat.le_refl _, fun _ _ _ => rfl⟩

/-- what is behind the second step's blocks: those of the first, or new -/
theorem Turn.trans {Q Q' : Nat → Prop} {a b c : World} (h : Turn Q a b) (k : Turn Q' b c) (hq : ∀ i, i < a.heap.size → Q' i → Q i) : Turn Q a c :=
  ⟨k.os.trans h.os, k.tape.trans h.tape, k.output.trans h.output, Nat.le_trans h.size k.size, fun i hi hn =>
    (k.block i (Nat.lt_of_lt_of_le hi h.size) (fun hq' => hn (hq i hi hq'))).trans (h.block i hi hn)⟩

theorem Turn.mono {Q Q' : Nat → Prop} {a b : World} (h : Turn Q a b) (hq : ∀ i, Q i → Q' i) : Turn Q' a b :=
  ⟨h.os, h.tape, h.output, h.size, fun i hi hn => h.block i hi (fun q => hn (hq i q))⟩

theorem Turn.drew {Q : Nat → Prop} {a b : World} (h : Turn Q a b) : Turn Q a b.drew := ⟨h.os, h.tape, h.output, h.size, h.block⟩

theorem Turn.alloc {Q : Nat → Prop} {a b : World} (h : Turn Q a b) (o : Obj) : Turn Q a (b.alloc o) :=
  h.trans (Q' := Q) ⟨rfl, rfl, rfl, by simp, fun i hi _ => Below.heap_alloc _ _ _ hi⟩ (fun _ _ q => q)

theorem Turn.setCell {Q : Nat → Prop} {a b : World} (h : Turn Q a b) {p : Addr} (hp : Q p.block ∨ a.heap.size ≤ p.block) (u : Value) : Turn Q a (b.setCell p u) :=
  h.trans (Q' := fun i => i = p.block) ⟨rfl, rfl, rfl, by simp [World.setCell], fun i hi hn => Below.heap_setCell _ _ _ _ hn⟩
    (fun i hi e => by subst e; rcases hp with hp | hp; exact hp; omega)

theorem Turn.set {Q : Nat → Prop} {a b : World} (h : Turn Q a b) (p j : Nat) (hp : Q p ∨ a.heap.size ≤ p) (u : Value) : Turn Q a (b.setCell ⟨p, j, none⟩ u) := h.setCell (p := ⟨p, j, none⟩) hp u

theorem Turn.grown {Q : Nat → Prop} {a b c : World} {row : Option Nat} (h : Turn Q a b) (hg : b.grownBy c row) (hr : ∀ k, row = some k → Q k ∨ a.heap.size ≤ k) : Turn Q a c :=
  h.trans (Q' := fun i => row = some i) ⟨hg.os, hg.tape, hg.output, hg.size, fun i hi hn => hg.block i hi (fun e => hn e.symm)⟩
    (fun i hi e => by rcases hr i e with h | h; exact h; omega)

theorem Below.turn {w w' : World} (h : Below w.heap.size w w') (Q : Nat → Prop) : Turn Q w w' := ⟨h.os, h.tape, h.output, h.size, fun k hk _ => h.block k hk⟩
theorem Turn.below {w w' : World} (h : Turn (fun _ => False) w w') : Below w.heap.size w w' := ⟨h.os, h.tape, h.output, h.size, fun k hk => h.block k hk (fun q => q)⟩

/-- b is as a, but for how often the tape was asked -/
structure Like (a b : World) : Prop where
  heap : b.heap = a.heap
  os : b.os = a.os
  tape : b.tape = a.tape
  output : b.output = a.output

theorem Like.refl (a : World) : Like a a := ⟨rfl, rfl, rfl, rfl⟩
theorem like_drewN (w : World) (n : Nat) : Like w (w.drewN n) := ⟨rfl, rfl, rfl, rfl⟩
theorem like_drew (w : World) : Like w w.drew := ⟨rfl, rfl, rfl, rfl⟩
theorem Like.trans {a b d : World} (h : Like a b) (k : Like b d) : Like a d := ⟨k.heap.trans h.heap, k.os.trans h.os, k.tape.trans h.tape, k.output.trans h.output⟩
theorem Like.cell {w w' : World} (h : Like w w') {a : Addr} {v : Value} (k : w.cell? a = some v) : w'.cell? a = some v :=
  (World.cell?_of_block (by rw [h.heap])).trans k
theorem Turn.like {Q : Nat → Prop} {a b c : World} (h : Turn Q a b) (k : Like b c) : Turn Q a c :=
  ⟨k.os.trans h.os, k.tape.trans h.tape, k.output.trans h.output, by rw [k.heap]; exact h.size, fun i hi hn => by rw [k.heap]; exact h.block i hi hn⟩
theorem Like.turn {w w' : World} (h : Like w w') (Q : Nat → Prop) : Turn Q w w' := Turn.like (Turn.refl _ w) h

section
variable {w w' : World} {Q : Nat → Prop}

theorem turn_cell {a : Addr} {v : Value} (ht : Turn (fun _ => False) w w') (h : w.cell? a = some v) : w'.cell? a = some v :=
  (World.cell?_of_block (ht.block a.block (World.block_lt_of_cell? w a h) (fun e => e))).trans h
theorem turned_cell {b o : Nat} {v : Value} (h : w.cell? ⟨b, o, none⟩ = some v) (ht : Turn Q w w') (hq : ¬ Q b) : w'.cell? ⟨b, o, none⟩ = some v :=
  (World.cell?_of_block (ht.block b (World.block_lt_of_cell? w _ h) hq)).trans h
theorem turn_heap {b : Nat} {o : Obj} (ht : Turn (fun _ => False) w w') (h : w.heap[b]? = some o) : w'.heap[b]? = some o :=
  (ht.block b (Array.getElem?_eq_some_iff.1 h).1 (fun e => e)).trans h
theorem heap_setCell_same {w : World} {p j : Nat} {cs : Array Value} {t : TypeId} {fr : Nat × Nat} (h : w.heap[p]? = some (.cells cs t fr)) (v : Value) : (w.setCell ⟨p, j, none⟩ v).heap[p]? = some (.cells (cs.setIfInBounds j v) t fr) := by
  simp [World.setCell, Array.getElem?_modify, h]
theorem heap_setCell_other {w : World} {p j k : Nat} (h : k ≠ p) (v : Value) : (w.setCell ⟨p, j, none⟩ v).heap[k]? = w.heap[k]? := Below.heap_setCell _ _ _ _ h
theorem turnBox (w : World) (o : Obj) : Turn (fun _ => False) w (w.alloc o) := (Turn.refl _ w).alloc o
theorem cell_new (w : World) (cs : Array Value) (t : TypeId) (j : Nat) : (w.alloc (.cells cs t)).cell? ⟨w.heap.size, j, none⟩ = cs[j]? := by
  unfold World.cell?
  simp only [heap_alloc_new]
  rfl

theorem ret_bool {a b : Bool} (h : a = b) : Ending.returned (.bool a) = .returned (.bool b) := by rw [h]
theorem ret_int {k : IntKind} {a b : Int} (h : a = b) : Ending.returned (.int k a) = .returned (.int k b) := by rw [h]

theorem ownsRow_turned {base : Nat} {e : TypeId} {size : Nat} {v : Value} {n : Nat} {xs : List Value} (h : w.ownsRow base e size v n xs) (ht : Turn Q w w') (hq : ∀ r, v.ownBlock = some r → ¬ Q r) : w'.ownsRow base e size v n xs := by
  refine ⟨h.1, ?_⟩
  rcases h.2 with hn | ⟨g, cap, cur, rfl, hb, hgg, rest⟩
  · exact .inl hn
  · refine .inr ⟨g, cap, cur, rfl, hb, ?_, rest⟩
    rw [ht.block g (Array.getElem?_eq_some_iff.1 hgg).1 (hq g rfl)]
    exact hgg
end

/-- the order of texts in the model is that of lists -/
theorem less_eq : ∀ (x y : List UInt8), Op.bytesLess x y = decide (x < y)
  | [], [] => by simp [Op.bytesLess]
  | _ :: _, [] => by simp [Op.bytesLess]
  | [], _ :: _ => by simp [Op.bytesLess]
  | a :: x, b :: y => by
    rw [Op.bytesLess, less_eq x y]
    rw [Bool.eq_iff_iff]
    simp [List.cons_lt_cons_iff]

end Go.Proofs.YtnlanemldapfiaaGreat
