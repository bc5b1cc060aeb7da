/-
  Two cells of our own, and what a call that only makes memory leaves of them.
-/
import Derived.Test.YtopklnaahdjafaaGreatDoorNWalk1
import Derived.Deep.QuietTactic
import Derived.BigQuiet
import Derived.Outline
namespace Go.Proofs.YtopklnaahdjafaaGreatDoor
open Go.RowKit Go.Shelf

/-- only new memory: nothing that was there has turned -/
def Only (w w' : World) : Prop := Below w.heap.size w w'
theorem Only.refl (w : World) : Only w w := Below.refl _ _
theorem Only.trans {a b c : World} (h : Only a b) (k : Only b c) : Only a c := Below.trans h (Below.mono k h.size)
theorem Only.alloc {a b : World} (h : Only a b) (o : Obj) : Only a (b.alloc o) := Below.alloc h h.size o
theorem Only.drew {a b : World} (h : Only a b) : Only a b.drew := Below.drew h
theorem Only.set {a b : World} (h : Only a b) {p : Nat} (hp : a.heap.size ≤ p) (j : Nat) (u : Value) : Only a (b.setCell ⟨p, j, none⟩ u) := Below.setCell h hp u
theorem Only.turn {a b : World} (h : Only a b) : Turn (fun _ => False) a b := Below.turn h _
theorem Turn.only {a b : World} (h : Turn (fun _ => False) a b) : Only a b := h.below

/-- block b holds two cells -/
def Own2 (w : World) (b : Nat) (x y : Value) : Prop := ∃ ty, w.heap[b]? = some (.cells #[x, y] ty)

theorem Own2.lt {w : World} {b : Nat} {x y : Value} (h : Own2 w b x y) : b < w.heap.size := by
  obtain ⟨ty, h⟩ := h; exact (Array.getElem?_eq_some_iff.1 h).1
theorem Own2.c0 {w : World} {b : Nat} {x y : Value} (h : Own2 w b x y) : w.cell? ⟨b, 0, none⟩ = some x := by
  obtain ⟨ty, h⟩ := h; simp [World.cell?, h]
theorem Own2.c1 {w : World} {b : Nat} {x y : Value} (h : Own2 w b x y) : w.cell? ⟨b, 1, none⟩ = some y := by
  obtain ⟨ty, h⟩ := h; simp [World.cell?, h]
theorem Own2.f0 {w : World} {b : Nat} {x y : Value} (h : Own2 w b x y) : w.frozen? ⟨b, 0, none⟩ = false := by
  obtain ⟨ty, h⟩ := h; simp [World.frozen?, h]
theorem Own2.f1 {w : World} {b : Nat} {x y : Value} (h : Own2 w b x y) : w.frozen? ⟨b, 1, none⟩ = false := by
  obtain ⟨ty, h⟩ := h; simp [World.frozen?, h]
theorem Own2.only {w w' : World} {b : Nat} {x y : Value} (h : Own2 w b x y) (t : Only w w') : Own2 w' b x y := by
  have := h.lt
  obtain ⟨ty, h⟩ := h
  exact ⟨ty, (t.block b this).trans h⟩
theorem Own2.drew {w : World} {b : Nat} {x y : Value} (h : Own2 w b x y) : Own2 w.drew b x y := h
theorem Own2.alloc {w : World} {b : Nat} {x y : Value} (h : Own2 w b x y) (o : Obj) : Own2 (w.alloc o) b x y := h.only ((Only.refl w).alloc o)
theorem Own2.new (w : World) (x y : Value) (ty : TypeId) : Own2 (w.alloc (.cells #[x, y] ty)) w.heap.size x y := ⟨_, heap_alloc_new ..⟩
theorem Own2.set {w : World} {b : Nat} {x y : Value} (h : Own2 w b x y) (u v : Value) : Own2 ((w.setCell ⟨b, 0, none⟩ u).setCell ⟨b, 1, none⟩ v) b u v := by
  obtain ⟨ty, h⟩ := h
  exact ⟨ty, heap_setCell_same (heap_setCell_same h u) v⟩
theorem Own2.far {w : World} {b p : Nat} {x y : Value} (h : Own2 w b x y) (e : b ≠ p) (j : Nat) (u : Value) : Own2 (w.setCell ⟨p, j, none⟩ u) b x y := by
  obtain ⟨ty, h⟩ := h
  exact ⟨ty, (heap_setCell_other e u).trans h⟩

theorem Own2.new1 (w : World) (p : Obj) (x y : Value) (ty : TypeId) : Own2 ((w.alloc p).alloc (.cells #[x, y] ty)) (w.heap.size + 1) x y := by simpa using Own2.new (w.alloc p) x y ty
theorem Own2.new2 (w : World) (p q : Obj) (x y : Value) (ty : TypeId) : Own2 (((w.alloc p).alloc q).alloc (.cells #[x, y] ty)) (w.heap.size + 1 + 1) x y := by simpa using Own2.new ((w.alloc p).alloc q) x y ty
theorem Own2.new3 (w : World) (p q r : Obj) (x y : Value) (ty : TypeId) : Own2 ((((w.alloc p).alloc q).alloc r).alloc (.cells #[x, y] ty)) (w.heap.size + 1 + 1 + 1) x y := by simpa using Own2.new (((w.alloc p).alloc q).alloc r) x y ty

/-- what stands stands behind new memory, too -/
theorem cell_kept (w : World) (b j : Nat) (o : Obj) (h : b < w.heap.size) : (w.alloc o).cell? ⟨b, j, none⟩ = w.cell? ⟨b, j, none⟩ :=
  World.cell?_of_block (Below.heap_alloc _ _ _ h)

/-- the facts of two cells, as the walk takes them -/
theorem Own2.all {w : World} {b : Nat} {x y : Value} (h : Own2 w b x y) : w.cell? ⟨b, 0, none⟩ = some x ∧ w.cell? ⟨b, 1, none⟩ = some y ∧ w.frozen? ⟨b, 0, none⟩ = false ∧ w.frozen? ⟨b, 1, none⟩ = false ∧ b < w.heap.size := ⟨h.c0, h.c1, h.f0, h.f1, h.lt⟩

/-- the world under another name, with what is known of it -/
theorem wp_name {P : Program} {c : Code} {Q : Exit → Act → World → Prop} {a : Act} {W : World} (S : World → Prop) (hS : S W) (h : ∀ wx, S wx → c.wp P Q a wx) : c.wp P Q a W := h W hS

theorem then_name {K : Act → World → Prop} {Q : Exit → Act → World → Prop} {e : Exit} {a : Act} {W : World} (S : World → Prop) (hS : S W) (h : ∀ wx, S wx → Exit.then K Q e a wx) : Exit.then K Q e a W := h W hS

/-- a world that only new memory parts from w -/
structure Cone (w : World) where
  out : World
  only : Only w out

instance (w : World) : Nonempty (Cone w) := ⟨⟨w, Only.refl w⟩⟩

/-- a region that draws its order, whose operations read what stands and whose callees only make memory: one walk serves every order -/
theorem wp_region_cone {P : Program} {id : Nat} {Q : Exit → Act → World → Prop} {a : Act} {w : World} {l : List Oper} (hm : P.follows .mixedOrders = true) (hB : Region.lexB .any l.toArray = true)
    (h : wpQuiet P l.toArray (fun w' => ∃ n : Cone w, w' = n.out) (fun a' => ∀ w', (∃ n : Cone w, w' = n.out) → Q .normal a' w') l a) : (Code.region id l.toArray true).wp P Q a w :=
  wp_region_quiet (C := fun w' => ∃ n : Cone w, w' = n.out) hm hB ⟨⟨_, (Only.refl w).drew⟩, rfl⟩ (by simpa using h)

/-- a callee's contract, met in a world of the cone -/
theorem Cone.call {P : Program} {f : FuncId} {args : Array Value} {w : World} {n : Cone w} {v : Value}
    (h : Calls P f args n.out fun e w' => e = .returned v ∧ Only n.out w') : Calls P f args n.out fun e w'' => e = .returned v ∧ ∃ m : Cone w, w'' = m.out :=
  h.mono fun _ w' ⟨he, hm⟩ => ⟨he, ⟨w', n.only.trans hm⟩, rfl⟩
theorem Cone.same {P : Program} {f : FuncId} {args : Array Value} {w : World} {n : Cone w} {v : Value}
    (h : Calls P f args n.out fun e w' => e = .returned v ∧ w' = n.out) : Calls P f args n.out fun e w'' => e = .returned v ∧ ∃ m : Cone w, w'' = m.out :=
  h.mono fun _ _ ⟨he, hm⟩ => ⟨he, n, hm⟩
theorem Own2.cone {w : World} {b : Nat} {x y : Value} (h : Own2 w b x y) : (∀ n : Cone w, n.out.cell? ⟨b, 0, none⟩ = some x) ∧ (∀ n : Cone w, n.out.cell? ⟨b, 1, none⟩ = some y) :=
  ⟨fun n => (h.only n.only).c0, fun n => (h.only n.only).c1⟩

/-- what a function answers that has to give n -/
def ans (n : Int) : Value := if In n then .tuple #[enc n, .int .i64 0] else .tuple #[enc 0, .int .i64 16]
theorem ans_in {n : Int} (h : In n) : ans n = .tuple #[enc n, .int .i64 0] := if_pos h
theorem ans_out {n : Int} (h : ¬ In n) : ans n = .tuple #[enc 0, .int .i64 16] := if_neg h
theorem enc_zero : enc 0 = .agg #[.int .u64 0, .int .u64 0] := rfl

/-- what below answers of a number -/
abbrev BelowIs (v : Value) (s : Bool) : Prop := ∀ w, Calls Tryz.prog 80 #[v] w fun e w' => e = .returned (.bool s) ∧ Only w w'

/-- below, by its sign -/
theorem below_is {h l : Int} (h0 : 0 ≤ h) (h1 : h < 18446744073709551616) {s : Bool} (hs : decide (9223372036854775808 ≤ h) = s) (w : World) :
    Calls Tryz.prog 80 #[.agg #[.int .u64 h, .int .u64 l]] w fun e w' => e = .returned (.bool s) ∧ Only w w' := by
  subst hs
  exact (below_any h l h0 h1 w).mono fun _ _ k => ⟨k.1, k.2.only⟩
end Go.Proofs.YtopklnaahdjafaaGreatDoor
