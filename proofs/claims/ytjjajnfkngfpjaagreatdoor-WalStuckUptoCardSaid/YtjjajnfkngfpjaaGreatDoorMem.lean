/-
  HOW A FILE SYSTEM LIES IN MEMORY: 'Rep w p S Q': block p of w is a file system that reads as S; all its blocks are among Q.
-/
import Derived.Test.YtjjajnfkngfpjaaGreatDoorRows
import Derived.Test.YtjjajnfkngfpjaaGreatDoorPlain
import Derived.Maps.OwnSet
import Derived.Maps.RangeWalk
import Derived.Sort.KeysCollected
import Derived.WalkKit
import Derived.WalkSpells
import Derived.WalkLawsBesides
namespace Go.Proofs.YtjjajnfkngfpjaaGreatDoor
open Go.RowKit Go.Maps

/-! ### worlds -/
/-- w' is w but for blocks of Q and new ones -/
structure Turn (Q : Nat → Prop) (w w' : World) : Prop where
  os : w'.os = w.os
  tape : w'.tape = w.tape
  output : w'.output = w.output
  size : w.heap.size ≤ w'.heap.size
  block : ∀ k, k < w.heap.size → ¬ Q k → w'.heap[k]? = w.heap[k]?

theorem Turn.refl (Q : Nat → Prop) (w : World) : Turn Q w w := ⟨rfl, rfl, rfl, Nat.le_refl _, fun _ _ _ => rfl⟩

/-- what is behind the second step's blocks: those of the first, or new -/
theorem Turn.trans {Q Q' : Nat → Prop} {a b c : World} (h : Turn Q a b) (k : Turn Q' b c) (hq : ∀ i, i < a.heap.size → Q' i → Q i) : Turn Q a c :=
  ⟨k.os.trans h.os, k.tape.trans h.tape, k.output.trans h.output, Nat.le_trans h.size k.size, fun i hi hn =>
    (k.block i (Nat.lt_of_lt_of_le hi h.size) (fun hq' => hn (hq i hi hq'))).trans (h.block i hi hn)⟩

theorem Turn.mono {Q Q' : Nat → Prop} {a b : World} (h : Turn Q a b) (hq : ∀ i, Q i → Q' i) : Turn Q' a b :=
  ⟨h.os, h.tape, h.output, h.size, fun i hi hn => h.block i hi (fun q => hn (hq i q))⟩

theorem Turn.drew {Q : Nat → Prop} {a b : World} (h : Turn Q a b) : Turn Q a b.drew := ⟨h.os, h.tape, h.output, h.size, h.block⟩

theorem Turn.alloc {Q : Nat → Prop} {a b : World} (h : Turn Q a b) (o : Obj) : Turn Q a (b.alloc o) :=
  h.trans (Q' := Q) ⟨rfl, rfl, rfl, by simp, fun i hi _ => Below.heap_alloc _ _ _ hi⟩ (fun _ _ q => q)

theorem Turn.setCell {Q : Nat → Prop} {a b : World} (h : Turn Q a b) {p : Addr} (hp : Q p.block ∨ a.heap.size ≤ p.block) (u : Value) : Turn Q a (b.setCell p u) :=
  h.trans (Q' := fun i => i = p.block) ⟨rfl, rfl, rfl, by simp [World.setCell], fun i hi hn => Below.heap_setCell _ _ _ _ hn⟩
    (fun i hi e => by subst e; rcases hp with hp | hp; exact hp; omega)

theorem Turn.set {Q : Nat → Prop} {a b : World} (h : Turn Q a b) (p j : Nat) (hp : Q p ∨ a.heap.size ≤ p) (u : Value) : Turn Q a (b.setCell ⟨p, j, none⟩ u) := h.setCell (p := ⟨p, j, none⟩) hp u

theorem Turn.grown {Q : Nat → Prop} {a b c : World} {row : Option Nat} (h : Turn Q a b) (hg : b.grownBy c row) (hr : ∀ k, row = some k → Q k ∨ a.heap.size ≤ k) : Turn Q a c :=
  h.trans (Q' := fun i => row = some i) ⟨hg.os, hg.tape, hg.output, hg.size, fun i hi hn => hg.block i hi (fun e => hn e.symm)⟩
    (fun i hi e => by rcases hr i e with h | h; exact h; omega)

/-- the blocks of Q, and those that have come since -/
def Grow (Q : Nat → Prop) (w w' : World) (b : Nat) : Prop := Q b ∨ (w.heap.size ≤ b ∧ b < w'.heap.size)

theorem Grow.old {Q : Nat → Prop} {w w' : World} {b : Nat} (h : Q b) : Grow Q w w' b := Or.inl h
theorem Grow.new {Q : Nat → Prop} {w w' : World} {b : Nat} (h : w.heap.size ≤ b) (k : b < w'.heap.size) : Grow Q w w' b := Or.inr ⟨h, k⟩

/-! ### elements of the map: pointers -/
abbrev fbLit (b : Nat) : DataW Unit := .lit (.int .i64 (b : Int))

/-- a pointer to a block's head reads as the block's number -/
def ptrElem (v : Value) : Option (DataW Unit × List MemPlace) :=
  match v with
  | .pointer none => some (.nil, [])
  | .pointer (some ⟨b, 0, none⟩) => some (fbLit b, [])
  | _ => none

theorem ptrElem_nil : ptrElem (.pointer none) = some (.nil, []) := rfl
theorem ptrElem_mk (b : Nat) : ptrElem (.pointer (some ⟨b, 0, none⟩)) = some (fbLit b, []) := rfl

theorem ptrElem_inv_nil {v : Value} {ps : List MemPlace} (h : ptrElem v = some (.nil, ps)) : v = .pointer none := by
  unfold ptrElem at h
  split at h
  · rfl
  · cases h
  · cases h

theorem ptrElem_inv {v : Value} {b : Nat} {ps : List MemPlace} (h : ptrElem v = some (fbLit b, ps)) : v = .pointer (some ⟨b, 0, none⟩) := by
  unfold ptrElem at h
  split at h
  · cases h
  · simp only [Option.some.injEq, Prod.mk.injEq, DataW.lit.injEq, Lit.int.injEq] at h
    obtain ⟨⟨_, h⟩, _⟩ := h
    have : ∀ {a b : Nat}, (a : Int) = b → a = b := by omega
    rw [this h]
  · cases h

theorem ptrElem_shape {v : Value} {y : DataW Unit × List MemPlace} (h : ptrElem v = some y) : (v = .pointer none ∧ y.1 = .nil) ∨ ∃ b, v = .pointer (some ⟨b, 0, none⟩) ∧ y.1 = fbLit b := by
  unfold ptrElem at h
  split at h
  · cases h; exact Or.inl ⟨rfl, rfl⟩
  · cases h; exact Or.inr ⟨_, rfl, rfl⟩
  · cases h

theorem lawS : Keyed Tryz.prog 9 := string_keyed Tryz.underlying9
theorem zeroP (w : World) : (zeroValue 87).run Tryz.prog w = .ok (.pointer none) w := by kernel_rfl

theorem ownsMap_resize {H : Type} {P : Program} {k : TypeId} {R : Value → Option (DataW H × List MemPlace)} {w : World} {b n : Nat} {D : DataW H} (h : w.ownsMap P k R b n D) : w.ownsMap P k R b (Maps.size D) D := by
  obtain ⟨es, clock, hb, F, hs, rfl⟩ := h
  refine ⟨es, clock, hb, F, ?_, rfl⟩
  rw [Maps.size_eq, length_read]
  exact Nat.le_refl _

theorem ownsMap_turned {H : Type} {P : Program} {k : TypeId} {R : Value → Option (DataW H × List MemPlace)} {w w' : World} {b n : Nat} {D : DataW H} {Q : Nat → Prop} (h : w.ownsMap P k R b n D) (ht : Turn Q w w') (hq : ¬ Q b) : w'.ownsMap P k R b n D := by
  have hl := h.lt
  obtain ⟨es, clock, hb, r⟩ := h
  exact ⟨es, clock, (ht.block b hl hq).trans hb, r⟩

theorem ownsRow_turned {w w' : World} {base : Nat} {e : TypeId} {size : Nat} {v : Value} {n : Nat} {xs : List Value} {Q : Nat → Prop} (h : w.ownsRow base e size v n xs) (ht : Turn Q w w') (hq : ∀ r, v.ownBlock = some r → ¬ Q r) : w'.ownsRow base e size v n xs := by
  refine ⟨h.1, ?_⟩
  rcases h.2 with hn | ⟨g, cap, cur, rfl, hb, hgg, rest⟩
  · exact .inl hn
  · refine .inr ⟨g, cap, cur, rfl, hb, ?_, rest⟩
    rw [ht.block g (Array.getElem?_eq_some_iff.1 hgg).1 (hq g rfl)]
    exact hgg

/-! ### a file; a file system -/
abbrev byteV (b : UInt8) : Value := .int .u8 (b.toNat : Int)

def FileAt (w : World) (fb : Nat) (sv : Value) (f : Fsp.File) : Prop :=
  w.heap[fb]? = some (.cells #[sv, .int .i64 (f.synced : Int)] 90 (0, 0)) ∧ w.ownsRow 0 5 1 sv f.data.length (f.data.map byteV)

structure Pl where
  fb : Nat
  sv : Value

/-- the map's datum and the list of files -/
structure Agree (D : DataW Unit) (L : List (List UInt8 × Fsp.File)) (pl : List UInt8 → Pl) : Prop where
  has : ∀ n, Maps.has D (.string n) = (Fsp.find L n).isSome
  at_ : ∀ n f, Fsp.find L n = some f → ∀ z, D.atKey (.string n) z = fbLit (pl n).fb
  size : Maps.size D = L.length

def MapAt (w : World) (mo : Option Nat) (L : List (List UInt8 × Fsp.File)) (pl : List UInt8 → Pl) : Prop :=
  match mo with
  | none => L = []
  | some mb => ∃ D, w.ownsMap Tryz.prog 9 ptrElem mb L.length D ∧ Agree D L pl

structure RepX (w : World) (p : Nat) (S : Fsp.Fs) (crashing : Bool) (Q : Nat → Prop) (mo : Option Nat) (pl : List UInt8 → Pl) : Prop where
  good : Fsp.Good S
  head : w.heap[p]? = some (.cells #[.map mo, .int .i64 (S.room : Int), .int .i64 (Fsp.usedOf S.L : Int), .int .i64 (S.steps : Int), .int .i64 (S.armed : Int), .bool S.down, .bool crashing] 67 (0, 0))
  map : MapAt w mo S.L pl
  file : ∀ n f, Fsp.find S.L n = some f → FileAt w (pl n).fb (pl n).sv f
  apartF : ∀ n m, (Fsp.find S.L n).isSome → (Fsp.find S.L m).isSome → (pl n).fb = (pl m).fb → n = m
  apartR : ∀ n m, (Fsp.find S.L n).isSome → (Fsp.find S.L m).isSome → ∀ r, (pl n).sv.ownBlock = some r → (pl m).sv.ownBlock = some r → n = m
  inP : Q p
  inM : ∀ mb, mo = some mb → Q mb
  inF : ∀ n, (Fsp.find S.L n).isSome → Q (pl n).fb
  inR : ∀ n, (Fsp.find S.L n).isSome → ∀ r, (pl n).sv.ownBlock = some r → Q r
  lt : ∀ b, Q b → b < w.heap.size

def Rep (w : World) (p : Nat) (S : Fsp.Fs) (Q : Nat → Prop) : Prop := ∃ mo pl, RepX w p S false Q mo pl

theorem MapAt.turned {w w' : World} {mo : Option Nat} {L : List (List UInt8 × Fsp.File)} {pl : List UInt8 → Pl} {Q : Nat → Prop} (h : MapAt w mo L pl) (ht : Turn Q w w') (hq : ∀ mb, mo = some mb → ¬ Q mb) : MapAt w' mo L pl := by
  cases mo with
  | none => exact h
  | some mb => obtain ⟨D, h1, h2⟩ := h; exact ⟨D, ownsMap_turned h1 ht (hq mb rfl), h2⟩

theorem FileAt.lt {w : World} {fb : Nat} {sv : Value} {f : Fsp.File} (h : FileAt w fb sv f) : fb < w.heap.size := (Array.getElem?_eq_some_iff.1 h.1).1

theorem FileAt.turned {w w' : World} {fb : Nat} {sv : Value} {f : Fsp.File} {Q : Nat → Prop} (h : FileAt w fb sv f) (ht : Turn Q w w') (hf : ¬ Q fb) (hr : ∀ r, sv.ownBlock = some r → ¬ Q r) : FileAt w' fb sv f :=
  ⟨(ht.block fb h.lt hf).trans h.1, ownsRow_turned h.2 ht hr⟩

/-- what others do leaves it as it is -/
theorem RepX.turned {w w' : World} {p : Nat} {S : Fsp.Fs} {c : Bool} {Q Q' : Nat → Prop} {mo : Option Nat} {pl : List UInt8 → Pl} (h : RepX w p S c Q mo pl) (ht : Turn Q' w w') (hq : ∀ b, Q b → ¬ Q' b) : RepX w' p S c Q mo pl :=
  { h with
    head := (ht.block p (h.lt p h.inP) (hq p h.inP)).trans h.head
    map := h.map.turned ht (fun mb e => hq mb (h.inM mb e))
    file := fun n f hf => (h.file n f hf).turned ht (hq _ (h.inF n (by simp [hf]))) (fun r hr => hq r (h.inR n (by simp [hf]) r hr))
    lt := fun b hb => Nat.lt_of_lt_of_le (h.lt b hb) ht.size }

theorem Rep.turned {w w' : World} {p : Nat} {S : Fsp.Fs} {Q Q' : Nat → Prop} (h : Rep w p S Q) (ht : Turn Q' w w') (hq : ∀ b, Q b → ¬ Q' b) : Rep w' p S Q := by
  obtain ⟨mo, pl, h⟩ := h; exact ⟨mo, pl, h.turned ht hq⟩

theorem RepX.mono {w : World} {p : Nat} {S : Fsp.Fs} {c : Bool} {Q Q' : Nat → Prop} {mo : Option Nat} {pl : List UInt8 → Pl} (h : RepX w p S c Q mo pl) (hq : ∀ b, Q b → Q' b) (hl : ∀ b, Q' b → b < w.heap.size) : RepX w p S c Q' mo pl :=
  { h with inP := hq _ h.inP, inM := fun mb e => hq _ (h.inM mb e), inF := fun n e => hq _ (h.inF n e), inR := fun n e r hr => hq _ (h.inR n e r hr), lt := hl }

end Go.Proofs.YtjjajnfkngfpjaaGreatDoor
