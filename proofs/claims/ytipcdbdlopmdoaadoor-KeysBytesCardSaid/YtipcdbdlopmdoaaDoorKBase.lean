/-
  Cells of our own, and what a call that only makes memory leaves of them.
-/
import Derived.Test.YtipcdbdlopmdoaaDoorTBase
import Derived.Lib.Hide
import Derived.Shelf.Lay
import Derived.Deep.QuietTactic
import Derived.BigQuiet
import Derived.Outline
namespace Go.Proofs.YtipcdbdlopmdoaaDoor
open Go.RowKit Go.Shelf

/-- only new memory: nothing that was there has turned -/
def Only (w w' : World) : Prop := Below w.heap.size w w'
theorem Only.refl (w : World) : Only w w := Below.refl _ _
theorem Only.trans {a b c : World} (h : Only a b) (k : Only b c) : Only a c := Below.trans h (Below.mono k h.size)
theorem Only.alloc {a b : World} (h : Only a b) (o : Obj) : Only a (b.alloc o) := Below.alloc h h.size o
theorem Only.drew {a b : World} (h : Only a b) : Only a b.drew := Below.drew h
theorem Only.set {a b : World} (h : Only a b) {p : Nat} (hp : a.heap.size ≤ p) (j : Nat) (u : Value) : Only a (b.setCell ⟨p, j, none⟩ u) := Below.setCell h hp u
theorem Only.drewN {a b : World} (h : Only a b) (n : Nat) : Only a (b.drewN n) := ⟨h.os, h.tape, h.output, h.size, h.block⟩
theorem Only.turn {a b : World} (h : Only a b) : Turn (fun _ => False) a b := Below.turn h _
theorem Turn.only {a b : World} (h : Turn (fun _ => False) a b) : Only a b := h.below

/-- block b holds two cells -/
def Own2 (w : World) (b : Nat) (x y : Value) : Prop := ∃ ty, w.heap[b]? = some (.cells #[x, y] ty)

theorem Own2.lt {w : World} {b : Nat} {x y : Value} (h : Own2 w b x y) : b < w.heap.size := by
  obtain ⟨ty, h⟩ := h; exact (Array.getElem?_eq_some_iff.1 h).1
theorem Own2.c0 {w : World} {b : Nat} {x y : Value} (h : Own2 w b x y) : w.cell? ⟨b, 0, none⟩ = some x := by
  obtain ⟨ty, h⟩ := h; simp [World.cell?, h]
theorem Own2.c1 {w : World} {b : Nat} {x y : Value} (h : Own2 w b x y) : w.cell? ⟨b, 1, none⟩ = some y := by
  obtain ⟨ty, h⟩ := h; simp [World.cell?, h]
theorem Own2.f0 {w : World} {b : Nat} {x y : Value} (h : Own2 w b x y) : w.frozen? ⟨b, 0, none⟩ = false := by
  obtain ⟨ty, h⟩ := h; simp [World.frozen?, h]
theorem Own2.f1 {w : World} {b : Nat} {x y : Value} (h : Own2 w b x y) : w.frozen? ⟨b, 1, none⟩ = false := by
  obtain ⟨ty, h⟩ := h; simp [World.frozen?, h]
theorem Own2.only {w w' : World} {b : Nat} {x y : Value} (h : Own2 w b x y) (t : Only w w') : Own2 w' b x y := by
  have := h.lt
  obtain ⟨ty, h⟩ := h
  exact ⟨ty, (t.block b this).trans h⟩
theorem Own2.drew {w : World} {b : Nat} {x y : Value} (h : Own2 w b x y) : Own2 w.drew b x y := h
theorem Own2.alloc {w : World} {b : Nat} {x y : Value} (h : Own2 w b x y) (o : Obj) : Own2 (w.alloc o) b x y := h.only ((Only.refl w).alloc o)
theorem Own2.new (w : World) (x y : Value) (ty : TypeId) : Own2 (w.alloc (.cells #[x, y] ty)) w.heap.size x y := ⟨_, heap_alloc_new ..⟩
theorem Own2.set {w : World} {b : Nat} {x y : Value} (h : Own2 w b x y) (u v : Value) : Own2 ((w.setCell ⟨b, 0, none⟩ u).setCell ⟨b, 1, none⟩ v) b u v := by
  obtain ⟨ty, h⟩ := h
  exact ⟨ty, heap_setCell_same (heap_setCell_same h u) v⟩
theorem Own2.far {w : World} {b p : Nat} {x y : Value} (h : Own2 w b x y) (e : b ≠ p) (j : Nat) (u : Value) : Own2 (w.setCell ⟨p, j, none⟩ u) b x y := by
  obtain ⟨ty, h⟩ := h
  exact ⟨ty, (heap_setCell_other e u).trans h⟩

theorem Own2.new1 (w : World) (p : Obj) (x y : Value) (ty : TypeId) : Own2 ((w.alloc p).alloc (.cells #[x, y] ty)) (w.heap.size + 1) x y := by simpa using Own2.new (w.alloc p) x y ty
theorem Own2.new2 (w : World) (p q : Obj) (x y : Value) (ty : TypeId) : Own2 (((w.alloc p).alloc q).alloc (.cells #[x, y] ty)) (w.heap.size + 1 + 1) x y := by simpa using Own2.new ((w.alloc p).alloc q) x y ty
theorem Own2.new3 (w : World) (p q r : Obj) (x y : Value) (ty : TypeId) : Own2 ((((w.alloc p).alloc q).alloc r).alloc (.cells #[x, y] ty)) (w.heap.size + 1 + 1 + 1) x y := by simpa using Own2.new (((w.alloc p).alloc q).alloc r) x y ty

/-- what stands stands behind new memory, too -/
theorem cell_kept (w : World) (b j : Nat) (o : Obj) (h : b < w.heap.size) : (w.alloc o).cell? ⟨b, j, none⟩ = w.cell? ⟨b, j, none⟩ :=
  World.cell?_of_block (Below.heap_alloc _ _ _ h)

/-- the facts of two cells, as the walk takes them -/
theorem Own2.all {w : World} {b : Nat} {x y : Value} (h : Own2 w b x y) : w.cell? ⟨b, 0, none⟩ = some x ∧ w.cell? ⟨b, 1, none⟩ = some y ∧ w.frozen? ⟨b, 0, none⟩ = false ∧ w.frozen? ⟨b, 1, none⟩ = false ∧ b < w.heap.size := ⟨h.c0, h.c1, h.f0, h.f1, h.lt⟩

/-- the world under another name, with what is known of it -/
theorem wp_name {P : Program} {c : Code} {Q : Exit → Act → World → Prop} {a : Act} {W : World} (S : World → Prop) (hS : S W) (h : ∀ wx, S wx → c.wp P Q a wx) : c.wp P Q a W := h W hS

theorem then_name {K : Act → World → Prop} {Q : Exit → Act → World → Prop} {e : Exit} {a : Act} {W : World} (S : World → Prop) (hS : S W) (h : ∀ wx, S wx → Exit.then K Q e a wx) : Exit.then K Q e a W := h W hS

/-- a world that only new memory parts from w -/
structure Cone (w : World) where
  out : World
  only : Only w out

instance (w : World) : Nonempty (Cone w) := ⟨⟨w, Only.refl w⟩⟩

/-- a region that draws its order, whose operations read what stands and whose callees only make memory: one walk serves every order -/
theorem wp_region_cone {P : Program} {id : Nat} {Q : Exit → Act → World → Prop} {a : Act} {w : World} {l : List Oper} (hm : P.follows .mixedOrders = true) (hB : Region.lexB .any l.toArray = true)
    (h : wpQuiet P l.toArray (fun w' => ∃ n : Cone w, w' = n.out) (fun a' => ∀ w', (∃ n : Cone w, w' = n.out) → Q .normal a' w') l a) : (Code.region id l.toArray true).wp P Q a w :=
  wp_region_quiet (C := fun w' => ∃ n : Cone w, w' = n.out) hm hB ⟨⟨_, (Only.refl w).drew⟩, rfl⟩ (by simpa using h)

/-- a callee's contract, met in a world of the cone -/
theorem Cone.call {P : Program} {f : FuncId} {args : Array Value} {w : World} {n : Cone w} {v : Value}
    (h : Calls P f args n.out fun e w' => e = .returned v ∧ Only n.out w') : Calls P f args n.out fun e w'' => e = .returned v ∧ ∃ m : Cone w, w'' = m.out :=
  h.mono fun _ w' ⟨he, hm⟩ => ⟨he, ⟨w', n.only.trans hm⟩, rfl⟩
theorem Cone.same {P : Program} {f : FuncId} {args : Array Value} {w : World} {n : Cone w} {v : Value}
    (h : Calls P f args n.out fun e w' => e = .returned v ∧ w' = n.out) : Calls P f args n.out fun e w'' => e = .returned v ∧ ∃ m : Cone w, w'' = m.out :=
  h.mono fun _ _ ⟨he, hm⟩ => ⟨he, n, hm⟩
theorem Own2.cone {w : World} {b : Nat} {x y : Value} (h : Own2 w b x y) : (∀ n : Cone w, n.out.cell? ⟨b, 0, none⟩ = some x) ∧ (∀ n : Cone w, n.out.cell? ⟨b, 1, none⟩ = some y) :=
  ⟨fun n => (h.only n.only).c0, fun n => (h.only n.only).c1⟩

/-- three cells in a row: a part -/
def Own3 (w : World) (b : Nat) (x y z : Value) : Prop := ∃ ty, w.heap[b]? = some (.cells #[x, y, z] ty)
theorem Own3.lt {w : World} {b : Nat} {x y z : Value} (h : Own3 w b x y z) : b < w.heap.size := by
  obtain ⟨ty, h⟩ := h; exact (Array.getElem?_eq_some_iff.1 h).1
theorem Own3.c0 {w : World} {b : Nat} {x y z : Value} (h : Own3 w b x y z) : w.cell? ⟨b, 0, none⟩ = some x := by
  obtain ⟨ty, h⟩ := h; simp [World.cell?, h]
theorem Own3.c1 {w : World} {b : Nat} {x y z : Value} (h : Own3 w b x y z) : w.cell? ⟨b, 1, none⟩ = some y := by
  obtain ⟨ty, h⟩ := h; simp [World.cell?, h]
theorem Own3.c2 {w : World} {b : Nat} {x y z : Value} (h : Own3 w b x y z) : w.cell? ⟨b, 2, none⟩ = some z := by
  obtain ⟨ty, h⟩ := h; simp [World.cell?, h]
theorem Own3.only {w w' : World} {b : Nat} {x y z : Value} (h : Own3 w b x y z) (t : Only w w') : Own3 w' b x y z := by
  have := h.lt
  obtain ⟨ty, h⟩ := h
  exact ⟨ty, (t.block b this).trans h⟩
theorem Own3.all {w : World} {b : Nat} {x y z : Value} (h : Own3 w b x y z) : w.cell? ⟨b, 0, none⟩ = some x ∧ w.cell? ⟨b, 1, none⟩ = some y ∧ w.cell? ⟨b, 2, none⟩ = some z := ⟨h.c0, h.c1, h.c2⟩
theorem Own3.cone {w : World} {b : Nat} {x y z : Value} (h : Own3 w b x y z) : (∀ n : Cone w, n.out.cell? ⟨b, 0, none⟩ = some x) ∧ (∀ n : Cone w, n.out.cell? ⟨b, 1, none⟩ = some y) ∧ (∀ n : Cone w, n.out.cell? ⟨b, 2, none⟩ = some z) :=
  ⟨fun n => (h.only n.only).c0, fun n => (h.only n.only).c1, fun n => (h.only n.only).c2⟩
theorem Own3.new (w : World) (x y z : Value) (ty : TypeId) : Own3 (w.alloc (.cells #[x, y, z] ty)) w.heap.size x y z := ⟨_, heap_alloc_new ..⟩
theorem Own3.drew {w : World} {b : Nat} {x y z : Value} (h : Own3 w b x y z) : Own3 w.drew b x y z := h
theorem Own3.alloc {w : World} {b : Nat} {x y z : Value} (h : Own3 w b x y z) (o : Obj) : Own3 (w.alloc o) b x y z := h.only ((Only.refl w).alloc o)
theorem Own3.free {w : World} {b : Nat} {x y z : Value} (h : Own3 w b x y z) (j : Nat) : w.frozen? ⟨b, j, none⟩ = false := by
  obtain ⟨ty, h⟩ := h; simp [World.frozen?, h]
theorem Own3.all6 {w : World} {b : Nat} {x y z : Value} (h : Own3 w b x y z) : w.cell? ⟨b, 0, none⟩ = some x ∧ w.cell? ⟨b, 1, none⟩ = some y ∧ w.cell? ⟨b, 2, none⟩ = some z ∧ w.frozen? ⟨b, 0, none⟩ = false ∧ w.frozen? ⟨b, 1, none⟩ = false ∧ w.frozen? ⟨b, 2, none⟩ = false ∧ b < w.heap.size := ⟨h.c0, h.c1, h.c2, h.free 0, h.free 1, h.free 2, h.lt⟩
theorem Own3.set {w : World} {b : Nat} {x y z : Value} (h : Own3 w b x y z) (u v t : Value) : Own3 (((w.setCell ⟨b, 0, none⟩ u).setCell ⟨b, 1, none⟩ v).setCell ⟨b, 2, none⟩ t) b u v t := by
  obtain ⟨ty, h⟩ := h
  exact ⟨ty, heap_setCell_same (heap_setCell_same (heap_setCell_same h u) v) t⟩
theorem Only.set3 {a b : World} (h : Only a b) {p : Nat} (hp : a.heap.size ≤ p) (u v t : Value) : Only a (((b.setCell ⟨p, 0, none⟩ u).setCell ⟨p, 1, none⟩ v).setCell ⟨p, 2, none⟩ t) := ((h.set hp 0 u).set hp 1 v).set hp 2 t
end Go.Proofs.YtipcdbdlopmdoaaDoor
