/-
  What only makes memory, two cells of our own, a cone of worlds (as in the texts of wide, over the texts of fs).
-/
import Derived.Test.YtinghngnehhgfaaGreatDoorWLogI
import Derived.Lib.Hide
import Derived.Deep.QuietTactic
import Derived.BigQuiet
import Derived.Outline
import Derived.IntWalk
namespace Go.Proofs.YtinghngnehhgfaaGreatDoor
open Go.RowKit Go.Shelf

theorem heap_setCell_sameF {w : World} {p j : Nat} {cs : Array Value} {t : TypeId} {fr : Nat × Nat} (h : w.heap[p]? = some (.cells cs t fr)) (v : Value) : (w.setCell ⟨p, j, none⟩ v).heap[p]? = some (.cells (cs.setIfInBounds j v) t fr) := heap_setCell_same h v
theorem heap_setCell_otherF {w : World} {p j k : Nat} (h : k ≠ p) (v : Value) : (w.setCell ⟨p, j, none⟩ v).heap[k]? = w.heap[k]? := Below.heap_setCell _ _ _ _ h
theorem Turn.belowE {w w' : World} (h : Turn (fun _ => False) w w') : Below w.heap.size w w' := ⟨h.os, h.tape, h.output, h.size, fun k hk => h.block k hk (fun q => q)⟩
/-- only new memory: nothing that was there has turned -/
def Only (w w' : World) : Prop := Below w.heap.size w w'
theorem Only.refl (w : World) : Only w w := Below.refl _ _
theorem Only.trans {a b c : World} (h : Only a b) (k : Only b c) : Only a c := Below.trans h (Below.mono k h.size)
theorem Only.alloc {a b : World} (h : Only a b) (o : Obj) : Only a (b.alloc o) := Below.alloc h h.size o
theorem Only.drew {a b : World} (h : Only a b) : Only a b.drew := Below.drew h
theorem Only.set {a b : World} (h : Only a b) {p : Nat} (hp : a.heap.size ≤ p) (j : Nat) (u : Value) : Only a (b.setCell ⟨p, j, none⟩ u) := Below.setCell h hp u
theorem Only.turn {a b : World} (h : Only a b) : Turn (fun _ => False) a b := Below.turn h _
theorem Turn.only {a b : World} (h : Turn (fun _ => False) a b) : Only a b := h.belowE

/-- block b holds two cells -/
def Own2 (w : World) (b : Nat) (x y : Value) : Prop := ∃ ty, w.heap[b]? = some (.cells #[x, y] ty)

theorem Own2.lt {w : World} {b : Nat} {x y : Value} (h : Own2 w b x y) : b < w.heap.size := by
  obtain ⟨ty, h⟩ := h; exact (Array.getElem?_eq_some_iff.1 h).1
theorem Own2.c0 {w : World} {b : Nat} {x y : Value} (h : Own2 w b x y) : w.cell? ⟨b, 0, none⟩ = some x := by
  obtain ⟨ty, h⟩ := h; simp [World.cell?, h]
theorem Own2.c1 {w : World} {b : Nat} {x y : Value} (h : Own2 w b x y) : w.cell? ⟨b, 1, none⟩ = some y := by
  obtain ⟨ty, h⟩ := h; simp [World.cell?, h]
theorem Own2.f0 {w : World} {b : Nat} {x y : Value} (h : Own2 w b x y) : w.frozen? ⟨b, 0, none⟩ = false := by
  obtain ⟨ty, h⟩ := h; simp [World.frozen?, h]
theorem Own2.f1 {w : World} {b : Nat} {x y : Value} (h : Own2 w b x y) : w.frozen? ⟨b, 1, none⟩ = false := by
  obtain ⟨ty, h⟩ := h; simp [World.frozen?, h]
theorem Own2.only {w w' : World} {b : Nat} {x y : Value} (h : Own2 w b x y) (t : Only w w') : Own2 w' b x y := by
  have := h.lt
  obtain ⟨ty, h⟩ := h
  exact ⟨ty, (t.block b this).trans h⟩
theorem Own2.drew {w : World} {b : Nat} {x y : Value} (h : Own2 w b x y) : Own2 w.drew b x y := h
theorem Own2.alloc {w : World} {b : Nat} {x y : Value} (h : Own2 w b x y) (o : Obj) : Own2 (w.alloc o) b x y := h.only ((Only.refl w).alloc o)
theorem Own2.new (w : World) (x y : Value) (ty : TypeId) : Own2 (w.alloc (.cells #[x, y] ty)) w.heap.size x y := ⟨_, heap_alloc_new ..⟩
theorem Own2.set {w : World} {b : Nat} {x y : Value} (h : Own2 w b x y) (u v : Value) : Own2 ((w.setCell ⟨b, 0, none⟩ u).setCell ⟨b, 1, none⟩ v) b u v := by
  obtain ⟨ty, h⟩ := h
  exact ⟨ty, heap_setCell_sameF (heap_setCell_sameF h u) v⟩
theorem Own2.far {w : World} {b p : Nat} {x y : Value} (h : Own2 w b x y) (e : b ≠ p) (j : Nat) (u : Value) : Own2 (w.setCell ⟨p, j, none⟩ u) b x y := by
  obtain ⟨ty, h⟩ := h
  exact ⟨ty, (heap_setCell_otherF e u).trans h⟩

theorem Own2.new1 (w : World) (p : Obj) (x y : Value) (ty : TypeId) : Own2 ((w.alloc p).alloc (.cells #[x, y] ty)) (w.heap.size + 1) x y := by simpa using Own2.new (w.alloc p) x y ty
theorem Own2.new2 (w : World) (p q : Obj) (x y : Value) (ty : TypeId) : Own2 (((w.alloc p).alloc q).alloc (.cells #[x, y] ty)) (w.heap.size + 1 + 1) x y := by simpa using Own2.new ((w.alloc p).alloc q) x y ty
theorem Own2.new3 (w : World) (p q r : Obj) (x y : Value) (ty : TypeId) : Own2 ((((w.alloc p).alloc q).alloc r).alloc (.cells #[x, y] ty)) (w.heap.size + 1 + 1 + 1) x y := by simpa using Own2.new (((w.alloc p).alloc q).alloc r) x y ty

/-- what stands stands behind new memory, too -/
theorem cell_kept (w : World) (b j : Nat) (o : Obj) (h : b < w.heap.size) : (w.alloc o).cell? ⟨b, j, none⟩ = w.cell? ⟨b, j, none⟩ :=
  World.cell?_of_block (Below.heap_alloc _ _ _ h)

/-- the facts of two cells, as the walk takes them -/
theorem Own2.all {w : World} {b : Nat} {x y : Value} (h : Own2 w b x y) : w.cell? ⟨b, 0, none⟩ = some x ∧ w.cell? ⟨b, 1, none⟩ = some y ∧ w.frozen? ⟨b, 0, none⟩ = false ∧ w.frozen? ⟨b, 1, none⟩ = false ∧ b < w.heap.size := ⟨h.c0, h.c1, h.f0, h.f1, h.lt⟩

/-- the world under another name, with what is known of it -/
theorem wp_name {P : Program} {c : Code} {Q : Exit → Act → World → Prop} {a : Act} {W : World} (S : World → Prop) (hS : S W) (h : ∀ wx, S wx → c.wp P Q a wx) : c.wp P Q a W := h W hS

theorem then_name {K : Act → World → Prop} {Q : Exit → Act → World → Prop} {e : Exit} {a : Act} {W : World} (S : World → Prop) (hS : S W) (h : ∀ wx, S wx → Exit.then K Q e a wx) : Exit.then K Q e a W := h W hS

/-- a world that only new memory parts from w -/
structure Cone (w : World) where
  out : World
  only : Only w out

instance (w : World) : Nonempty (Cone w) := ⟨⟨w, Only.refl w⟩⟩

/-- a region that draws its order, whose operations read what stands and whose callees only make memory: one walk serves every order -/
theorem wp_region_cone {P : Program} {id : Nat} {Q : Exit → Act → World → Prop} {a : Act} {w : World} {l : List Oper} (hm : P.follows .mixedOrders = true) (hB : Region.lexB .any l.toArray = true)
    (h : wpQuiet P l.toArray (fun w' => ∃ n : Cone w, w' = n.out) (fun a' => ∀ w', (∃ n : Cone w, w' = n.out) → Q .normal a' w') l a) : (Code.region id l.toArray true).wp P Q a w :=
  wp_region_quiet (C := fun w' => ∃ n : Cone w, w' = n.out) hm hB ⟨⟨_, (Only.refl w).drew⟩, rfl⟩ (by simpa using h)

/-- a callee's contract, met in a world of the cone -/
theorem Cone.call {P : Program} {f : FuncId} {args : Array Value} {w : World} {n : Cone w} {v : Value}
    (h : Calls P f args n.out fun e w' => e = .returned v ∧ Only n.out w') : Calls P f args n.out fun e w'' => e = .returned v ∧ ∃ m : Cone w, w'' = m.out :=
  h.mono fun _ w' ⟨he, hm⟩ => ⟨he, ⟨w', n.only.trans hm⟩, rfl⟩
theorem Cone.same {P : Program} {f : FuncId} {args : Array Value} {w : World} {n : Cone w} {v : Value}
    (h : Calls P f args n.out fun e w' => e = .returned v ∧ w' = n.out) : Calls P f args n.out fun e w'' => e = .returned v ∧ ∃ m : Cone w, w'' = m.out :=
  h.mono fun _ _ ⟨he, hm⟩ => ⟨he, n, hm⟩
theorem Own2.cone {w : World} {b : Nat} {x y : Value} (h : Own2 w b x y) : (∀ n : Cone w, n.out.cell? ⟨b, 0, none⟩ = some x) ∧ (∀ n : Cone w, n.out.cell? ⟨b, 1, none⟩ = some y) :=
  ⟨fun n => (h.only n.only).c0, fun n => (h.only n.only).c1⟩

theorem Only.cellM {w w' : World} (t : Only w w') {b j : Nat} {v : Value} (h : w.cell? ⟨b, j, none⟩ = some v) : w'.cell? ⟨b, j, none⟩ = some v :=
  (World.cell?_of_block (t.block b (World.block_lt_of_cell? w _ h))).trans h
end Go.Proofs.YtinghngnehhgfaaGreatDoor
