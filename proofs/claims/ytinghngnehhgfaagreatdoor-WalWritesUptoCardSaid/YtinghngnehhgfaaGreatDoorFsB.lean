/-
  PARTS: Mem, Walk1, Walk2, Shelf, Walk3, Rep, Step.
-/
import Derived.Test.YtinghngnehhgfaaGreatDoorRows
import Derived.Test.YtinghngnehhgfaaGreatDoorFsA
import Derived.Maps.OwnSet
import Derived.Maps.RangeWalk
import Derived.Sort.KeysCollected
import Derived.WalkKit
import Derived.WalkSpells
import Derived.WalkLawsBesides
import Derived.Outline
import Derived.Lib.Hide
import Derived.LoopTactic
import Derived.Shelf.Strconv.Clone
import Derived.Shelf.Strings.Prefix
import Derived.Shelf.Lay
import Derived.Laws.CopyOwn
import Derived.RegionTactic
import Derived.ChangeAlike
import Derived.Deep.QuietTactic
import Derived.BigQuiet
/-
  HOW A FILE SYSTEM LIES IN MEMORY: 'Rep w p S Q': block p of w is a file system that reads as S; all its blocks are among Q.
-/
namespace Go.Proofs.YtinghngnehhgfaaGreatDoor
open Go.RowKit Go.Maps

/-! ### worlds -/
/-- w' is w but for blocks of Q and new ones -/
structure Turn (Q : Nat → Prop) (w w' : World) : Prop where
  os : w'.os = w.os
  tape : w'.tape = w.tape
  output : w'.output = w.output
  size : w.heap.size ≤ w'.heap.size
  block : ∀ k, k < w.heap.size → ¬ Q k → w'.heap[k]? = w.heap[k]?

theorem Turn.refl (Q : Nat → Prop) (w : World) : Turn Q w w := ⟨rfl, rfl, rfl, Nat.le_refl _, fun _ _ _ => rfl⟩

/-- what is behind the second step's blocks: those of the first, or new -/
theorem Turn.trans {Q Q' : Nat → Prop} {a b c : World} (h : Turn Q a b) (k : Turn Q' b c) (hq : ∀ i, i < a.heap.size → Q' i → Q i) : Turn Q a c :=
  ⟨k.os.trans h.os, k.tape.trans h.tape, k.output.trans h.output, Nat.le_trans h.size k.size, fun i hi hn =>
    (k.block i (Nat.lt_of_lt_of_le hi h.size) (fun hq' => hn (hq i hi hq'))).trans (h.block i hi hn)⟩

theorem Turn.mono {Q Q' : Nat → Prop} {a b : World} (h : Turn Q a b) (hq : ∀ i, Q i → Q' i) : Turn Q' a b :=
  ⟨h.os, h.tape, h.output, h.size, fun i hi hn => h.block i hi (fun q => hn (hq i q))⟩

theorem Turn.drew {Q : Nat → Prop} {a b : World} (h : Turn Q a b) : Turn Q a b.drew := ⟨h.os, h.tape, h.output, h.size, h.block⟩

theorem Turn.alloc {Q : Nat → Prop} {a b : World} (h : Turn Q a b) (o : Obj) : Turn Q a (b.alloc o) :=
  h.trans (Q' := Q) ⟨rfl, rfl, rfl, by simp, fun i hi _ => Below.heap_alloc _ _ _ hi⟩ (fun _ _ q => q)

theorem Turn.setCell {Q : Nat → Prop} {a b : World} (h : Turn Q a b) {p : Addr} (hp : Q p.block ∨ a.heap.size ≤ p.block) (u : Value) : Turn Q a (b.setCell p u) :=
  h.trans (Q' := fun i => i = p.block) ⟨rfl, rfl, rfl, by simp [World.setCell], fun i hi hn => Below.heap_setCell _ _ _ _ hn⟩
    (fun i hi e => by subst e; rcases hp with hp | hp; exact hp; omega)

theorem Turn.set {Q : Nat → Prop} {a b : World} (h : Turn Q a b) (p j : Nat) (hp : Q p ∨ a.heap.size ≤ p) (u : Value) : Turn Q a (b.setCell ⟨p, j, none⟩ u) := h.setCell (p := ⟨p, j, none⟩) hp u

theorem Turn.grown {Q : Nat → Prop} {a b c : World} {row : Option Nat} (h : Turn Q a b) (hg : b.grownBy c row) (hr : ∀ k, row = some k → Q k ∨ a.heap.size ≤ k) : Turn Q a c :=
  h.trans (Q' := fun i => row = some i) ⟨hg.os, hg.tape, hg.output, hg.size, fun i hi hn => hg.block i hi (fun e => hn e.symm)⟩
    (fun i hi e => by rcases hr i e with h | h; exact h; omega)

/-- the blocks of Q, and those that have come since -/
def Grow (Q : Nat → Prop) (w w' : World) (b : Nat) : Prop := Q b ∨ (w.heap.size ≤ b ∧ b < w'.heap.size)

theorem Grow.old {Q : Nat → Prop} {w w' : World} {b : Nat} (h : Q b) : Grow Q w w' b := Or.inl h
theorem Grow.new {Q : Nat → Prop} {w w' : World} {b : Nat} (h : w.heap.size ≤ b) (k : b < w'.heap.size) : Grow Q w w' b := Or.inr ⟨h, k⟩

/-! ### elements of the map: pointers -/
abbrev fbLit (b : Nat) : DataW Unit := .lit (.int .i64 (b : Int))

/-- a pointer to a block's head reads as the block's number -/
def ptrElem (v : Value) : Option (DataW Unit × List MemPlace) :=
  match v with
  | .pointer none => some (.nil, [])
  | .pointer (some ⟨b, 0, none⟩) => some (fbLit b, [])
  | _ => none

theorem ptrElem_nil : ptrElem (.pointer none) = some (.nil, []) := rfl
theorem ptrElem_mk (b : Nat) : ptrElem (.pointer (some ⟨b, 0, none⟩)) = some (fbLit b, []) := rfl

theorem ptrElem_inv_nil {v : Value} {ps : List MemPlace} (h : ptrElem v = some (.nil, ps)) : v = .pointer none := by
  unfold ptrElem at h
  split at h
  · rfl
  · cases h
  · cases h

theorem ptrElem_inv {v : Value} {b : Nat} {ps : List MemPlace} (h : ptrElem v = some (fbLit b, ps)) : v = .pointer (some ⟨b, 0, none⟩) := by
  unfold ptrElem at h
  split at h
  · cases h
  · simp only [Option.some.injEq, Prod.mk.injEq, DataW.lit.injEq, Lit.int.injEq] at h
    obtain ⟨⟨_, h⟩, _⟩ := h
    have : ∀ {a b : Nat}, (a : Int) = b → a = b := by omega
    rw [this h]
  · cases h

theorem ptrElem_shape {v : Value} {y : DataW Unit × List MemPlace} (h : ptrElem v = some y) : (v = .pointer none ∧ y.1 = .nil) ∨ ∃ b, v = .pointer (some ⟨b, 0, none⟩) ∧ y.1 = fbLit b := by
  unfold ptrElem at h
  split at h
  · cases h; exact Or.inl ⟨rfl, rfl⟩
  · cases h; exact Or.inr ⟨_, rfl, rfl⟩
  · cases h

theorem lawS : Keyed Tryz.prog 9 := string_keyed Tryz.underlying9
theorem zeroP (w : World) : (zeroValue 64).run Tryz.prog w = .ok (.pointer none) w := by kernel_rfl

theorem ownsMap_resize {H : Type} {P : Program} {k : TypeId} {R : Value → Option (DataW H × List MemPlace)} {w : World} {b n : Nat} {D : DataW H} (h : w.ownsMap P k R b n D) : w.ownsMap P k R b (Maps.size D) D := by
  obtain ⟨es, clock, hb, F, hs, rfl⟩ := h
  refine ⟨es, clock, hb, F, ?_, rfl⟩
  rw [Maps.size_eq, length_read]
  exact Nat.le_refl _

theorem ownsMap_turned {H : Type} {P : Program} {k : TypeId} {R : Value → Option (DataW H × List MemPlace)} {w w' : World} {b n : Nat} {D : DataW H} {Q : Nat → Prop} (h : w.ownsMap P k R b n D) (ht : Turn Q w w') (hq : ¬ Q b) : w'.ownsMap P k R b n D := by
  have hl := h.lt
  obtain ⟨es, clock, hb, r⟩ := h
  exact ⟨es, clock, (ht.block b hl hq).trans hb, r⟩

theorem ownsRow_turned {w w' : World} {base : Nat} {e : TypeId} {size : Nat} {v : Value} {n : Nat} {xs : List Value} {Q : Nat → Prop} (h : w.ownsRow base e size v n xs) (ht : Turn Q w w') (hq : ∀ r, v.ownBlock = some r → ¬ Q r) : w'.ownsRow base e size v n xs := by
  refine ⟨h.1, ?_⟩
  rcases h.2 with hn | ⟨g, cap, cur, rfl, hb, hgg, rest⟩
  · exact .inl hn
  · refine .inr ⟨g, cap, cur, rfl, hb, ?_, rest⟩
    rw [ht.block g (Array.getElem?_eq_some_iff.1 hgg).1 (hq g rfl)]
    exact hgg

/-! ### a file; a file system -/
abbrev byteV (b : UInt8) : Value := .int .u8 (b.toNat : Int)

def FileAt (w : World) (fb : Nat) (sv : Value) (f : Fsp.File) : Prop :=
  w.heap[fb]? = some (.cells #[sv, .int .i64 (f.synced : Int)] 67 (0, 0)) ∧ w.ownsRow 0 5 1 sv f.data.length (f.data.map byteV)

structure Pl where
  fb : Nat
  sv : Value

/-- the map's datum and the list of files -/
structure Agree (D : DataW Unit) (L : List (List UInt8 × Fsp.File)) (pl : List UInt8 → Pl) : Prop where
  has : ∀ n, Maps.has D (.string n) = (Fsp.find L n).isSome
  at_ : ∀ n f, Fsp.find L n = some f → ∀ z, D.atKey (.string n) z = fbLit (pl n).fb
  size : Maps.size D = L.length

def MapAt (w : World) (mo : Option Nat) (L : List (List UInt8 × Fsp.File)) (pl : List UInt8 → Pl) : Prop :=
  match mo with
  | none => L = []
  | some mb => ∃ D, w.ownsMap Tryz.prog 9 ptrElem mb L.length D ∧ Agree D L pl

structure RepX (w : World) (p : Nat) (S : Fsp.Fs) (crashing : Bool) (Q : Nat → Prop) (mo : Option Nat) (pl : List UInt8 → Pl) : Prop where
  good : Fsp.Good S
  head : w.heap[p]? = some (.cells #[.map mo, .int .i64 (S.room : Int), .int .i64 (Fsp.usedOf S.L : Int), .int .i64 (S.steps : Int), .int .i64 (S.armed : Int), .bool S.down, .bool crashing] 49 (0, 0))
  map : MapAt w mo S.L pl
  file : ∀ n f, Fsp.find S.L n = some f → FileAt w (pl n).fb (pl n).sv f
  apartF : ∀ n m, (Fsp.find S.L n).isSome → (Fsp.find S.L m).isSome → (pl n).fb = (pl m).fb → n = m
  apartR : ∀ n m, (Fsp.find S.L n).isSome → (Fsp.find S.L m).isSome → ∀ r, (pl n).sv.ownBlock = some r → (pl m).sv.ownBlock = some r → n = m
  inP : Q p
  inM : ∀ mb, mo = some mb → Q mb
  inF : ∀ n, (Fsp.find S.L n).isSome → Q (pl n).fb
  inR : ∀ n, (Fsp.find S.L n).isSome → ∀ r, (pl n).sv.ownBlock = some r → Q r
  lt : ∀ b, Q b → b < w.heap.size

def Rep (w : World) (p : Nat) (S : Fsp.Fs) (Q : Nat → Prop) : Prop := ∃ mo pl, RepX w p S false Q mo pl

theorem MapAt.turned {w w' : World} {mo : Option Nat} {L : List (List UInt8 × Fsp.File)} {pl : List UInt8 → Pl} {Q : Nat → Prop} (h : MapAt w mo L pl) (ht : Turn Q w w') (hq : ∀ mb, mo = some mb → ¬ Q mb) : MapAt w' mo L pl := by
  cases mo with
  | none => exact h
  | some mb => obtain ⟨D, h1, h2⟩ := h; exact ⟨D, ownsMap_turned h1 ht (hq mb rfl), h2⟩

theorem FileAt.lt {w : World} {fb : Nat} {sv : Value} {f : Fsp.File} (h : FileAt w fb sv f) : fb < w.heap.size := (Array.getElem?_eq_some_iff.1 h.1).1

theorem FileAt.turned {w w' : World} {fb : Nat} {sv : Value} {f : Fsp.File} {Q : Nat → Prop} (h : FileAt w fb sv f) (ht : Turn Q w w') (hf : ¬ Q fb) (hr : ∀ r, sv.ownBlock = some r → ¬ Q r) : FileAt w' fb sv f :=
  ⟨(ht.block fb h.lt hf).trans h.1, ownsRow_turned h.2 ht hr⟩

/-- what others do leaves it as it is -/
theorem RepX.turned {w w' : World} {p : Nat} {S : Fsp.Fs} {c : Bool} {Q Q' : Nat → Prop} {mo : Option Nat} {pl : List UInt8 → Pl} (h : RepX w p S c Q mo pl) (ht : Turn Q' w w') (hq : ∀ b, Q b → ¬ Q' b) : RepX w' p S c Q mo pl :=
  { h with
    head := (ht.block p (h.lt p h.inP) (hq p h.inP)).trans h.head
    map := h.map.turned ht (fun mb e => hq mb (h.inM mb e))
    file := fun n f hf => (h.file n f hf).turned ht (hq _ (h.inF n (by simp [hf]))) (fun r hr => hq r (h.inR n (by simp [hf]) r hr))
    lt := fun b hb => Nat.lt_of_lt_of_le (h.lt b hb) ht.size }

theorem Rep.turned {w w' : World} {p : Nat} {S : Fsp.Fs} {Q Q' : Nat → Prop} (h : Rep w p S Q) (ht : Turn Q' w w') (hq : ∀ b, Q b → ¬ Q' b) : Rep w' p S Q := by
  obtain ⟨mo, pl, h⟩ := h; exact ⟨mo, pl, h.turned ht hq⟩

theorem RepX.mono {w : World} {p : Nat} {S : Fsp.Fs} {c : Bool} {Q Q' : Nat → Prop} {mo : Option Nat} {pl : List UInt8 → Pl} (h : RepX w p S c Q mo pl) (hq : ∀ b, Q b → Q' b) (hl : ∀ b, Q' b → b < w.heap.size) : RepX w p S c Q' mo pl :=
  { h with inP := hq _ h.inP, inM := fun mb e => hq _ (h.inM mb e), inF := fun n e => hq _ (h.inF n e), inR := fun n e r hr => hq _ (h.inR n e r hr), lt := hl }

end Go.Proofs.YtinghngnehhgfaaGreatDoor

/-
  WALKS: Down, find, step, Used, Room, Steps, Arm; exref.Num.
-/
namespace Go.Proofs.YtinghngnehhgfaaGreatDoor
open Go.RowKit Go.Maps Go.WideMaps

/-- the cells of a file system's own block -/
structure Cells (w : World) (p : Nat) (mo : Option Nat) (room used steps armed : Int) (down crashing : Bool) : Prop where
  c0 : w.cell? ⟨p, 0, none⟩ = some (.map mo)
  c1 : w.cell? ⟨p, 1, none⟩ = some (.int .i64 room)
  c2 : w.cell? ⟨p, 2, none⟩ = some (.int .i64 used)
  c3 : w.cell? ⟨p, 3, none⟩ = some (.int .i64 steps)
  c4 : w.cell? ⟨p, 4, none⟩ = some (.int .i64 armed)
  c5 : w.cell? ⟨p, 5, none⟩ = some (.bool down)
  c6 : w.cell? ⟨p, 6, none⟩ = some (.bool crashing)
  fr : ∀ j, w.frozen? ⟨p, j, none⟩ = false

theorem RepX.cells {w : World} {p : Nat} {S : Fsp.Fs} {c : Bool} {Q : Nat → Prop} {mo : Option Nat} {pl : List UInt8 → Pl} (h : RepX w p S c Q mo pl) : Cells w p mo S.room (Fsp.usedOf S.L) S.steps S.armed S.down c := by
  have hh := h.head
  constructor <;> simp [World.cell?, World.frozen?, hh]

theorem num_any (e : Int) (w : World) : Calls Tryz.prog 8 #[.int .i64 e] w fun r w' => r = .returned (.int .i64 e) ∧ w = w' := by
  go_enter Tryz.func8, Tryz.ntmps8
  go_wp2
  go_ret
  exact ⟨rfl, rfl⟩

theorem down_any {w : World} {p : Nat} {mo : Option Nat} {room used steps armed : Int} {down crashing : Bool} (h : Cells w p mo room used steps armed down crashing) :
    Calls Tryz.prog 22 #[.pointer (some ⟨p, 0, none⟩)] w fun r w' => r = .returned (.bool down) ∧ w = w' := by
  have c5 := h.c5
  cases down
  all_goals
    go_enter Tryz.func22, Tryz.ntmps22
    go_wp2
    go_ret
    exact ⟨rfl, rfl⟩









theorem find_walk_nil {w : World} {p : Nat} {room used steps armed : Int} {down crashing : Bool} (h : Cells w p none room used steps armed down crashing) (s : ByteArray) (hs : s.size ≤ maxLen) :
    Calls Tryz.prog 38 #[.pointer (some ⟨p, 0, none⟩), .string s] w fun r w' => r = .returned (.pointer none) ∧ w = w' := by
  have c0 := h.c0
  have hrun := look_nil (w := w) false lawS Tryz.underlying47 (zeroP _) (keyOf_string_mk Tryz.underlying9 hs)
  go_enter Tryz.func38, Tryz.ntmps38
  go_wp2
  go_ret
  exact ⟨rfl, rfl⟩

theorem find_walk {w : World} {p : Nat} {mb : Nat} {room used steps armed : Int} {down crashing : Bool} (h : Cells w p (some mb) room used steps armed down crashing) {n : Nat} {D : DataW Unit}
    (hown : w.ownsMap Tryz.prog 9 ptrElem mb n D) (s : ByteArray) (hs : s.size ≤ maxLen) :
    Calls Tryz.prog 38 #[.pointer (some ⟨p, 0, none⟩), .string s] w fun r w' => (∃ v ps, r = .returned v ∧ ptrElem v = some (D.atKey (.string s.data.toList) .nil, ps)) ∧ w = w' := by
  have c0 := h.c0
  obtain ⟨v, ps, hrun, hv⟩ := hown.lookup lawS Tryz.underlying47 (zeroP _) ptrElem_nil (keyOf_string_mk Tryz.underlying9 hs)
  go_enter Tryz.func38, Tryz.ntmps38
  go_wp2
  go_ret
  exact ⟨⟨v, ps, rfl, hv⟩, rfl⟩

theorem step_walk {w : World} {p : Nat} {mo : Option Nat} {room used steps armed : Int} {down crashing : Bool} (h : Cells w p mo room used steps armed down crashing) (h1 : ¬ armed = 1) (h0 : 0 ≤ armed) (ha : armed ≤ 9223372036854775807) (hs0 : 0 ≤ steps) (hs : steps < 4611686018427387904) :
    Calls Tryz.prog 47 #[.pointer (some ⟨p, 0, none⟩)] w fun r w' => r = .returned (.bool true) ∧ (if 0 < armed then w.setCell ⟨p, 4, none⟩ (.int .i64 (armed - 1)) else w).setCell ⟨p, 3, none⟩ (.int .i64 (steps + 1)) = w' := by
  have c3 := h.c3
  have c4 := h.c4
  have f3 := h.fr 3
  have f4 := h.fr 4
  have e1 : (armed == 1) = false := by simpa using h1
  by_cases hp : 0 < armed
  all_goals
    go_enter Tryz.func47, Tryz.ntmps47
    go_wp2
    go_ret
    exact ⟨rfl, rfl⟩

theorem step_armed {w : World} {p : Nat} {mo : Option Nat} {room used steps : Int} {down crashing : Bool} (h : Cells w p mo room used steps 1 down crashing) :
    Calls Tryz.prog 47 #[.pointer (some ⟨p, 0, none⟩)] w fun r w' => r = .returned (.bool false) ∧ (w.setCell ⟨p, 4, none⟩ (.int .i64 0)).setCell ⟨p, 5, none⟩ (.bool true) = w' := by
  have c4 := h.c4
  have c5 := h.c5
  have f5 := h.fr 5
  have f4 := h.fr 4
  go_enter Tryz.func47, Tryz.ntmps47
  go_wp2
  go_ret
  exact ⟨rfl, rfl⟩

theorem ret_bool {a b : Bool} (h : a = b) : Ending.returned (.bool a) = .returned (.bool b) := by rw [h]
theorem ret_int {k : IntKind} {a b : Int} (h : a = b) : Ending.returned (.int k a) = .returned (.int k b) := by rw [h]

/-- a byte of a name, as an int -/
def okI (c : Int) : Bool := decide (97 ≤ c ∧ c ≤ 122 ∨ 48 ≤ c ∧ c ≤ 57 ∨ c = 45 ∨ c = 46 ∨ c = 47)

theorem okI_eq (c : UInt8) : okI c.toNat = Fsp.okByte c := by
  unfold okI Fsp.okByte
  rw [Bool.eq_iff_iff]
  simp [UInt8.le_iff_toNat_le, ← UInt8.toNat_inj]
  omega

theorem validByte_any (c : Int) (hc : 0 ≤ c ∧ c ≤ 255) (w : World) : Calls Tryz.prog 40 #[.int .u8 c] w fun r w' => r = .returned (.bool (okI c)) ∧ w = w' := by
  go_enter Tryz.func40, Tryz.ntmps40
  go_wp2
  all_goals go_ret
  all_goals refine ⟨ret_bool ?_, rfl⟩
  all_goals (rw [Bool.eq_iff_iff]; simp [okI]; try omega)

end Go.Proofs.YtinghngnehhgfaaGreatDoor

/-
  WALKS: Valid, HasPrefix, Clone, copied.
-/
namespace Go.Proofs.YtinghngnehhgfaaGreatDoor
open Go.RowKit Go.Maps Go.WideMaps

theorem all_take_snoc (s : ByteArray) (k : Nat) (h : k < s.size) : (s.data.toList.take (k + 1)).all Fsp.okByte = ((s.data.toList.take k).all Fsp.okByte && Fsp.okByte s[k]) := by
  have e : s.data.toList.take (k + 1) = s.data.toList.take k ++ [s[k]] := by
    rw [List.take_succ_eq_append_getElem (by simpa using h)]; rfl
  rw [e, List.all_append]; simp

theorem valid_bad (s : ByteArray) (k : Nat) (h : k < s.size) (hb : Fsp.okByte s[k] = false) : Fsp.valid s.data.toList = false := by
  have : s.data.toList.all Fsp.okByte = false := by
    rw [List.all_eq_false]
    exact ⟨s[k], by rw [show s[k] = s.data.toList[k]'(by simpa using h) from rfl]; exact List.getElem_mem _, by simp [hb]⟩
  simp only [Fsp.valid, this, Bool.and_false, Bool.false_and]

theorem valid_end (s : ByteArray) (h1 : 0 < s.size) (h2 : s.size ≤ 100) (hall : s.data.toList.all Fsp.okByte = true) :
    ((((s[0].toNat : Nat) : Int) != 47) && (((s[s.size - 1].toNat : Nat) : Int) != 47)) = Fsp.valid s.data.toList := by
  have hl : s.data.toList.length = s.size := by simp
  have e0 : s.data.toList.head? = some s[0] := by
    rw [List.head?_eq_getElem?, List.getElem?_eq_getElem (by omega)]; rfl
  have e1 : s.data.toList.getLast? = some s[s.size - 1] := by
    rw [List.getLast?_eq_getElem?, List.getElem?_eq_getElem (by omega)]
    simp only [hl]; rfl
  have c : ∀ b : UInt8, (((b.toNat : Nat) : Int) != 47) = (some b != some 47) := fun b => by
    rw [Bool.eq_iff_iff]; simp [← UInt8.toNat_inj]; omega
  simp only [Fsp.valid, hall, e0, e1, c]
  have g1 : decide (1 ≤ s.data.toList.length) = true := by simp; omega
  have g2 : decide (s.data.toList.length ≤ 100) = true := by simp; omega
  rw [g1, g2]; simp

set_option maxHeartbeats 400000 in
theorem valid_any (s : ByteArray) (hs : s.size ≤ maxLen) (w : World) : Calls Tryz.prog 20 #[.string s] w fun r w' => r = .returned (.bool (Fsp.valid s.data.toList)) ∧ w = w' := by
  unfold maxLen at hs
  by_cases h1 : 1 ≤ s.size
  · by_cases h2 : s.size ≤ 100
    · have b1 : (1 : Int) ≤ s.size := by omega
      have b2 : (s.size : Int) ≤ 100 := by omega
      have e1 : ((s.size : Int) < 1 ∨ 100 < (s.size : Int)) = False := by simp; omega
      go_enter Tryz.func20, Tryz.ntmps20
      go_wp2
      go_loop [14] (fun i => ∃ k : Nat, k ≤ s.size ∧ i = .int .i64 k ∧ (s.data.toList.take k).all Fsp.okByte = true) (fun i => s.size - (intOf i).toNat)
      case atStart => exact ⟨0, Nat.zero_le _, rfl, rfl⟩
      case round =>
        obtain ⟨k, hk, rfl, hall⟩ := hrel
        have HA := Lib.hid hall
        clear hall
        by_cases hlt : k < s.size
        · have hby : (0 : Int) ≤ (s[k].toNat : Int) ∧ (s[k].toNat : Int) ≤ 255 := by have := s[k].toNat_lt; omega
          by_cases hok : okI (s[k].toNat : Int) = true
          · go_wp2_with (go_at_call 40; refine (validByte_any _ hby _).mono ?_; rintro r w' ⟨rfl, rfl⟩)
            go_round
            case rel => exact ⟨k + 1, by omega, by go_num, by rw [all_take_snoc s k hlt, HA.out, ← okI_eq, hok]; rfl⟩
            case measure => simp [intOf]; omega
          · have hfv : Fsp.valid s.data.toList = false := valid_bad s k hlt (by rw [← okI_eq]; simpa using hok)
            have hok' : okI (s[k].toNat : Int) = false := by simpa using hok
            have HF := Lib.hid hfv
            clear hfv hok
            go_wp2_with (go_at_call 40; refine (validByte_any _ hby _).mono ?_; rintro r w' ⟨rfl, rfl⟩)
            go_ret
            exact ⟨ret_bool HF.out.symm, rfl⟩
        · have hk' : k = s.size := by omega
          have hv := valid_end s (by omega) h2 (by have := HA.out; rw [hk', List.take_of_length_le (by simp)] at this; exact this)
          have HV := Lib.hid hv
          clear hv hk'
          go_wp2
          · have h47 : (s[0].toNat : Int) = 47 := by assumption
            go_ret
            exact ⟨ret_bool (by rw [← HV.out, h47]; rfl), rfl⟩
          · go_ret
            exact ⟨ret_bool HV.out, rfl⟩
    · have b2 : (100 : Int) < s.size := by omega
      have hf : Fsp.valid s.data.toList = false := by simp [Fsp.valid]; omega
      rw [hf]; clear hf
      go_enter Tryz.func20, Tryz.ntmps20
      go_wp2
      go_ret
      exact ⟨rfl, rfl⟩
  · have b2 : (s.size : Int) < 1 := by omega
    have hf : Fsp.valid s.data.toList = false := by simp [Fsp.valid]; omega
    rw [hf]; clear hf
    go_enter Tryz.func20, Tryz.ntmps20
    go_wp2
    go_ret
    exact ⟨rfl, rfl⟩

end Go.Proofs.YtinghngnehhgfaaGreatDoor

/-
  CONTRACTS OF THE LIBRARY, laid off the shelf: strings.Clone, strings.HasPrefix, slices.Sort.
-/
namespace Go.Proofs
open Go.Shelf
def Tryz.laysM316_ren : Go.Shelf.Ren := ⟨fun | 316 => 43 | n => n, fun | 9 => 9 | 3 => 3 | 4 => 4 | 37 => 33 | 0 => 0 | 127 => 91 | 5 => 5 | n => n, fun | n => n⟩
theorem Tryz.laysM316 : Go.Proofs.LaysM.n316 Tryz.prog Tryz.laysM316_ren := {
  mixed := by kernel_rfl
  f316 := Tryz.func43.trans (congrArg some (by kernel_rfl))
  t0 := Tryz.underlying0
  a0 := Tryz.isAgg0
  z0 := Tryz.sizeOf0
  v0 := Tryz.zeroValue0
  t3 := Tryz.underlying3
  a3 := Tryz.isAgg3
  z3 := Tryz.sizeOf3
  v3 := Tryz.zeroValue3
  t4 := Tryz.underlying4
  a4 := Tryz.isAgg4
  z4 := Tryz.sizeOf4
  v4 := Tryz.zeroValue4
  t9 := Tryz.underlying9
  a9 := Tryz.isAgg9
  z9 := Tryz.sizeOf9
  v9 := Tryz.zeroValue9
  t37 := Tryz.underlying33
  a37 := Tryz.isAgg33
  z37 := Tryz.sizeOf33
  v37 := Tryz.zeroValue33
  t127 := Tryz.underlying91
  a127 := Tryz.isAgg91
  z127 := Tryz.sizeOf91
  v127 := Tryz.zeroValue91
  t5 := Tryz.underlying5
  a5 := Tryz.isAgg5
  z5 := Tryz.sizeOf5
  v5 := Tryz.zeroValue5
  i0 := by kernel_rfl
  i3 := by kernel_rfl
  i4 := by kernel_rfl
  i5 := by kernel_rfl
  i9 := by kernel_rfl
  i37 := by kernel_rfl
  i127 := by kernel_rfl }
def Tryz.lays99_ren : Go.Shelf.Ren := ⟨fun | 99 => 36 | 206 => 52 | n => n, fun | 9 => 9 | 4 => 4 | 3 => 3 | n => n, fun | n => n⟩
theorem Tryz.lays99 : Go.Proofs.Lays.n99 Tryz.prog Tryz.lays99_ren := {
  mixed := by kernel_rfl
  f99 := Tryz.func36.trans (congrArg some (by kernel_rfl))
  f206 := Tryz.func52.trans (congrArg some (by kernel_rfl))
  t3 := Tryz.underlying3
  a3 := Tryz.isAgg3
  z3 := Tryz.sizeOf3
  v3 := Tryz.zeroValue3
  t4 := Tryz.underlying4
  a4 := Tryz.isAgg4
  z4 := Tryz.sizeOf4
  v4 := Tryz.zeroValue4
  t9 := Tryz.underlying9
  a9 := Tryz.isAgg9
  z9 := Tryz.sizeOf9
  v9 := Tryz.zeroValue9 }
end Go.Proofs
namespace Go.Proofs.YtinghngnehhgfaaGreatDoor
open Go.RowKit Go.Maps Go.WideMaps

theorem sClone_any (s : ByteArray) (hs : s.size ≤ 281474976710656) (w : World) : Calls Tryz.prog 43 #[.string s] w fun r w' => r = .returned (.string s) ∧ Below w.heap.size w w' := Any.stringslite_Clone Tryz.laysM316 s w hs

theorem Below.turn {w w' : World} (h : Below w.heap.size w w') (Q : Nat → Prop) : Turn Q w w' := ⟨h.os, h.tape, h.output, h.size, fun k hk _ => h.block k hk⟩

theorem clone_any (s : ByteArray) (hs : s.size ≤ 281474976710656) (w : World) : Calls Tryz.prog 23 #[.string s] w fun r w' => r = .returned (.string s) ∧ Turn (fun _ => False) w w' := by
  go_enter Tryz.func23, Tryz.ntmps23
  go_wp2_with (go_at_call 43; refine (sClone_any s hs _).mono ?_; rintro r w' ⟨rfl, hb⟩)
  go_ret
  exact ⟨rfl, Below.turn hb _⟩

theorem hasPrefix_any (s t : ByteArray) (w : World) : Calls Tryz.prog 36 #[.string s, .string t] w fun r w' => r = .returned (.bool (Lib.hasPrefix s.data.toList t.data.toList)) ∧ w' = w := Any.strings_HasPrefix Tryz.lays99 s t w

end Go.Proofs.YtinghngnehhgfaaGreatDoor

/-
  WALKS: find by what is there; copied.
-/
namespace Go.Proofs.YtinghngnehhgfaaGreatDoor
open Go.RowKit Go.Maps Go.WideMaps

/-- find, by the list -/
theorem find_none {w : World} {p : Nat} {S : Fsp.Fs} {c : Bool} {Q : Nat → Prop} {mo : Option Nat} {pl : List UInt8 → Pl} (h : RepX w p S c Q mo pl) (s : ByteArray) (hs : s.size ≤ maxLen) (hf : Fsp.find S.L s.data.toList = none) :
    Calls Tryz.prog 38 #[.pointer (some ⟨p, 0, none⟩), .string s] w fun r w' => r = .returned (.pointer none) ∧ w = w' := by
  cases mo with
  | none => exact find_walk_nil h.cells s hs
  | some mb =>
    obtain ⟨D, hown, hag⟩ := h.map
    refine (find_walk h.cells hown s hs).mono ?_
    rintro r w' ⟨⟨v, ps, rfl, hv⟩, rfl⟩
    have hno : Maps.has D (.string s.data.toList) = false := by rw [hag.has, hf]; rfl
    rw [atKey_of_not_has hno] at hv
    rw [ptrElem_inv_nil hv]
    exact ⟨rfl, rfl⟩

theorem find_some {w : World} {p : Nat} {S : Fsp.Fs} {c : Bool} {Q : Nat → Prop} {mo : Option Nat} {pl : List UInt8 → Pl} (h : RepX w p S c Q mo pl) (s : ByteArray) (hs : s.size ≤ maxLen) {f : Fsp.File} (hf : Fsp.find S.L s.data.toList = some f) :
    Calls Tryz.prog 38 #[.pointer (some ⟨p, 0, none⟩), .string s] w fun r w' => r = .returned (.pointer (some ⟨(pl s.data.toList).fb, 0, none⟩)) ∧ w = w' := by
  cases mo with
  | none =>
    have : S.L = [] := h.map
    rw [this] at hf; simp [Fsp.find] at hf
  | some mb =>
    obtain ⟨D, hown, hag⟩ := h.map
    refine (find_walk h.cells hown s hs).mono ?_
    rintro r w' ⟨⟨v, ps, rfl, hv⟩, rfl⟩
    rw [hag.at_ _ _ hf] at hv
    rw [ptrElem_inv hv]
    exact ⟨rfl, rfl⟩

/-- a slice of bytes that reads as data -/
def SliceR (w : World) (v : Value) (data : List UInt8) : Prop :=
  ∃ sp cap, v = .slice sp data.length cap ∧ (0 < data.length → ∃ ad, sp = some ad ∧ ∀ j x, data[j]? = some x → w.cell? (ad.add j) = some (byteV x))

theorem add_head (g j : Nat) : (⟨g, 0, none⟩ : Addr).add j = ⟨g, j, none⟩ := by
  unfold Addr.add; split <;> simp_all

theorem SliceR.of_own {w : World} {base : Nat} {v : Value} {data : List UInt8} (h : w.ownsRow base 5 1 v data.length (data.map byteV)) : SliceR w v data := by
  rcases h.2 with ⟨hv, hn⟩ | ⟨g, cap, cur, hv, hg, hh, h1, h2, h3, h4⟩
  · exact ⟨none, 0, by rw [hv, hn], fun h0 => by omega⟩
  · refine ⟨some ⟨g, 0, none⟩, cap, hv, fun _ => ⟨_, rfl, fun j x hj => ?_⟩⟩
    have hown : w.ownsRow base 5 1 (.slice (some ⟨g, 0, none⟩) data.length cap) data.length (data.map byteV) := by rw [← hv]; exact h
    have hlt : j < data.length := (List.getElem?_eq_some_iff.1 hj).1
    have := hown.cellAt j (by omega)
    rw [add_head, this, List.getElem?_map, hj]; rfl

theorem Tryz.infoU8 : (Tryz.prog.info? 5).map (fun i => (i.zero, i.size, i.bytes)) = some (some (.int .u8 0), 1, 1) := by kernel_rfl

set_option maxHeartbeats 400000 in
theorem copied_any {w : World} {v : Value} {data : List UInt8} (h : SliceR w v data) (hl : data.length ≤ 281474976710656) :
    Calls Tryz.prog 39 #[v] w fun r w' => ∃ g, r = .returned (.slice (some ⟨g, 0, none⟩) data.length data.length) ∧ w'.ownsRow w.heap.size 5 1 (.slice (some ⟨g, 0, none⟩) data.length data.length) data.length (data.map byteV) ∧ Turn (fun _ => False) w w' := by
  have hmax : data.length ≤ maxLen := by unfold maxLen; omega
  obtain ⟨sp, cap, rfl, hsrc⟩ := h
  obtain ⟨i0, hi, hz0, hz1, hz2⟩ := info_parts Tryz.infoU8
  go_enter Tryz.func39, Tryz.ntmps39
  go_wp2_with (at_make; refine wpList_make_full _ rfl _ _ 33 rfl w.heap.size 5 i0 (.int .u8 0) 1 Tryz.underlying33 hi hz0 hz1 _ _ _ _ data.length rfl rfl rfl rfl ?b1 ?b2 ?b3 ?_)
  case b1 => rw [hz2]; omega
  case b2 => unfold maxLen; omega
  case b3 => omega
  intro w1 hown hgrow
  have hcopy : ∃ cur : List Value, cur.length = data.length ∧ w1.heap[w.heap.size]? = some (.cells cur.toArray 5 (0, 0)) := by
    rcases hown.2 with ⟨hv, _⟩ | ⟨g, cap', cur, hv, hg, hh, h1, h2, h3, h4⟩
    · cases hv
    · simp only [Value.slice.injEq, Option.some.injEq, Addr.mk.injEq] at hv
      obtain ⟨⟨rfl, _⟩, _, rfl⟩ := hv
      exact ⟨cur.toList, by simp [h3], by rw [hh]⟩
  obtain ⟨cur, hcl, hcw⟩ := hcopy
  have hsz1 : (Tryz.prog.info? 5).map (·.size) = some 1 := by rw [hi]; simp [hz1]
  have hpos : 0 < (data.map byteV).length → some (⟨w.heap.size, 0, none⟩ : Addr) = some ⟨w.heap.size, 0, none⟩ ∧ ∃ ad, sp = some ad ∧ ∀ j v, (data.map byteV)[j]? = some v → w1.cell? (ad.add j) = some v := by
    intro h0
    obtain ⟨ad, e1, e2⟩ := hsrc (by simpa using h0)
    refine ⟨rfl, ad, e1, fun j v hj => ?_⟩
    rw [List.getElem?_map] at hj
    obtain ⟨x, hx, rfl⟩ := Option.map_eq_some_iff.1 hj
    exact hgrow.cell (e2 j x hx) (by simp)
  have hn : (data.map byteV).length = Nat.min data.length data.length := by simp
  have hfit : 0 + (data.map byteV).length ≤ cur.length := by simp [hcl]
  have h1 : ∀ v ∈ data.map byteV, v.oneCell' = true := by
    intro v hv
    obtain ⟨x, _, rfl⟩ := List.mem_map.1 hv
    rfl
  have hb : Below w.heap.size w w1 := (Below.refl _ _).grown hgrow (Nat.le_refl _) (fun k h => by cases h)
  obtain ⟨X, hX⟩ : ∃ X, X = data.map byteV := ⟨_, rfl⟩
  rw [← hX] at hpos hn hfit h1
  have HX := Lib.hid hX
  have HS := Lib.hid hpos
  have HC := Lib.hid hcw
  have HD := Lib.hid hfit
  have HN := Lib.hid hn
  have HL := Lib.hid hcl
  clear hl hsrc hpos hcw hown hgrow hX hfit hn hcl
  go_wp2_with (with_reducible refine wpList_copy_splice rfl (.tmp 7) (.tmp 8) 33 33 rfl 5 Tryz.underlying33 hsz1 (some ⟨w.heap.size, 0, none⟩) sp data.length data.length data.length cap rfl rfl w.heap.size 0 cur 5 HC.out X HN.out HS.out HD.out h1 w.heap.size w hb (Nat.le_refl _) ?_)
  intro w2 hw2 hb2
  go_wp2
  go_ret
  have hsp : splice cur 0 X = data.map byteV := by
    have h0 : X.length = data.length := by rw [HX.out]; simp
    unfold splice
    rw [List.take_zero, List.nil_append, List.drop_eq_nil_of_le (by rw [Nat.zero_add, h0, HL.out]; exact Nat.le_refl _), List.append_nil, HX.out]
  have hw2' := hw2.out
  rw [hsp] at hw2'
  exact ⟨_, rfl, ⟨by simp, Or.inr ⟨w.heap.size, data.length, _, rfl, Nat.le_refl _, hw2', Nat.le_refl _, hmax, by simp, List.take_of_length_le (by simp)⟩⟩, Below.turn hb2 _⟩

end Go.Proofs.YtinghngnehhgfaaGreatDoor

/-
  WHAT A WRITE MAKES OF A FILE SYSTEM IN MEMORY: the head's cells; one file's; a file more; a file fewer; a file under another name.
-/
namespace Go.Proofs.YtinghngnehhgfaaGreatDoor
open Go.RowKit Go.Maps Go.WideMaps

section
variable {w w' : World} {p : Nat} {S S' : Fsp.Fs} {c c' : Bool} {Q : Nat → Prop} {mo : Option Nat} {pl : List UInt8 → Pl}

/-- a row's block holds bytes -/
theorem rowBlock {w : World} {sv : Value} {f : Fsp.File} {fb r : Nat} (h : FileAt w fb sv f) (hr : sv.ownBlock = some r) : ∃ cur, w.heap[r]? = some (.cells cur 5 (0, 0)) := by
  rcases h.2.2 with ⟨rfl, _⟩ | ⟨g, cap, cur, rfl, _, hh, _⟩
  · cases hr
  · simp [Value.ownBlock] at hr; subst hr; exact ⟨cur, hh⟩

theorem RepX.p_ne_mb (h : RepX w p S c Q mo pl) {mb : Nat} (e : mo = some mb) : p ≠ mb := by
  subst e
  obtain ⟨D, ⟨es, clock, hb, _⟩, _⟩ := h.map
  have hh := h.head
  intro e; rw [e, hb] at hh; cases hh

theorem RepX.p_ne_fb (h : RepX w p S c Q mo pl) {n : List UInt8} {f : Fsp.File} (hf : Fsp.find S.L n = some f) : p ≠ (pl n).fb := by
  have h1 := (h.file n f hf).1
  have hh := h.head
  intro e; rw [e, h1] at hh; simp at hh

theorem RepX.p_ne_row (h : RepX w p S c Q mo pl) {n : List UInt8} {f : Fsp.File} (hf : Fsp.find S.L n = some f) {r : Nat} (hr : (pl n).sv.ownBlock = some r) : p ≠ r := by
  obtain ⟨cur, h1⟩ := rowBlock (h.file n f hf) hr
  have hh := h.head
  intro e; rw [e, h1] at hh; simp at hh

theorem RepX.fb_ne_mb (h : RepX w p S c Q mo pl) {n : List UInt8} {f : Fsp.File} (hf : Fsp.find S.L n = some f) {mb : Nat} (e : mo = some mb) : (pl n).fb ≠ mb := by
  subst e
  obtain ⟨D, ⟨es, clock, hb, _⟩, _⟩ := h.map
  have h1 := (h.file n f hf).1
  intro e; rw [e, hb] at h1; cases h1

theorem RepX.row_ne_mb (h : RepX w p S c Q mo pl) {n : List UInt8} {f : Fsp.File} (hf : Fsp.find S.L n = some f) {r : Nat} (hr : (pl n).sv.ownBlock = some r) {mb : Nat} (e : mo = some mb) : r ≠ mb := by
  subst e
  obtain ⟨D, ⟨es, clock, hb, _⟩, _⟩ := h.map
  obtain ⟨cur, h1⟩ := rowBlock (h.file n f hf) hr
  intro e; rw [e, hb] at h1; cases h1

theorem RepX.fb_ne_row (h : RepX w p S c Q mo pl) {n m : List UInt8} {f g : Fsp.File} (hf : Fsp.find S.L n = some f) (hg : Fsp.find S.L m = some g) {r : Nat} (hr : (pl m).sv.ownBlock = some r) : (pl n).fb ≠ r := by
  have h1 := (h.file n f hf).1
  obtain ⟨cur, h2⟩ := rowBlock (h.file m g hg) hr
  intro e; rw [e, h2] at h1; simp at h1

/-- the head's cells of a state -/
abbrev headOf (S : Fsp.Fs) (c : Bool) (mo : Option Nat) : Obj :=
  .cells #[.map mo, .int .i64 (S.room : Int), .int .i64 (Fsp.usedOf S.L : Int), .int .i64 (S.steps : Int), .int .i64 (S.armed : Int), .bool S.down, .bool c] 49 (0, 0)

/-- only the head has turned -/
theorem RepX.setHead (h : RepX w p S c Q mo pl) (ht : Turn (fun b => b = p) w w') (hh : w'.heap[p]? = some (headOf S' c' mo)) (hL : S'.L = S.L) (hg : Fsp.Good S') : RepX w' p S' c' Q mo pl :=
  { good := hg
    head := hh
    map := by rw [hL]; exact h.map.turned ht (fun mb e e2 => h.p_ne_mb e e2.symm)
    file := fun n f hf => by
      rw [hL] at hf
      exact (h.file n f hf).turned ht (fun e => h.p_ne_fb hf e.symm) (fun r hr e => h.p_ne_row hf hr e.symm)
    apartF := by rw [hL]; exact h.apartF
    apartR := by rw [hL]; exact h.apartR
    inP := h.inP
    inM := h.inM
    inF := by rw [hL]; exact h.inF
    inR := by rw [hL]; exact h.inR
    lt := fun b hb => Nat.lt_of_lt_of_le (h.lt b hb) ht.size }

def setPl (pl : List UInt8 → Pl) (n : List UInt8) (x : Pl) : List UInt8 → Pl := fun m => if m = n then x else pl m
theorem setPl_same (pl : List UInt8 → Pl) (n : List UInt8) (x : Pl) : setPl pl n x n = x := by simp [setPl]
theorem setPl_other (pl : List UInt8 → Pl) {n m : List UInt8} (h : m ≠ n) (x : Pl) : setPl pl n x m = pl m := by simp [setPl, h]

theorem isSome_put {L : List (List UInt8 × Fsp.File)} {n m : List UInt8} {f : Fsp.File} (h : (Fsp.find (Fsp.put L n f) m).isSome) (hm : m ≠ n) : (Fsp.find L m).isSome := by
  rw [Fsp.find_put_other L hm] at h; exact h

/-- one file has turned -/
theorem RepX.setFile (h : RepX w p S c Q mo pl) {n : List UInt8} {f f' : Fsp.File} {sv' : Value} (hf : Fsp.find S.L n = some f)
    (ht : Turn (fun b => b = p ∨ b = (pl n).fb ∨ (pl n).sv.ownBlock = some b) w w') (hh : w'.heap[p]? = some (headOf S' c' mo)) (hL : S'.L = Fsp.put S.L n f') (hg : Fsp.Good S')
    (hfile : FileAt w' (pl n).fb sv' f') (hnew : ∀ r, sv'.ownBlock = some r → (pl n).sv.ownBlock = some r ∨ w.heap.size ≤ r) : RepX w' p S' c' (Grow Q w w') mo (setPl pl n ⟨(pl n).fb, sv'⟩) := by
  have hsome : (Fsp.find S.L n).isSome := by rw [hf]; rfl
  have hrow : ∀ r, sv'.ownBlock = some r → r < w'.heap.size := fun r hr => by
    obtain ⟨cur, h1⟩ := rowBlock hfile hr
    exact (Array.getElem?_eq_some_iff.1 h1).1
  have oldrow : ∀ m, (Fsp.find S.L m).isSome → ∀ r, (pl m).sv.ownBlock = some r → r < w.heap.size := fun m hm r hr => h.lt r (h.inR m hm r hr)
  refine { good := hg, head := hh, map := ?_, file := ?_, apartF := ?_, apartR := ?_, inP := Grow.old h.inP, inM := fun mb e => Grow.old (h.inM mb e), inF := ?_, inR := ?_, lt := ?_ }
  · cases mo with
    | none =>
      have e : S.L = [] := h.map
      rw [e] at hf; simp [Fsp.find] at hf
    | some mb =>
      obtain ⟨D, hown, hag⟩ := h.map
      refine ⟨D, ?_, ⟨fun m => ?_, fun m g hm z => ?_, ?_⟩⟩
      · have e : S'.L.length = S.L.length := by rw [hL, Fsp.length_put _ h.good.1, if_pos hsome]
        rw [e]
        exact ownsMap_turned hown ht (fun e => by
          rcases e with e | e | e
          · exact h.p_ne_mb rfl e.symm
          · exact h.fb_ne_mb hf rfl e.symm
          · exact h.row_ne_mb hf e rfl rfl)
      · rw [hag.has m, hL]
        by_cases e : m = n
        · subst e; rw [Fsp.find_put_same, hf]; rfl
        · rw [Fsp.find_put_other _ e]
      · rw [hL] at hm
        by_cases e : m = n
        · subst e; rw [setPl_same]; exact hag.at_ _ f hf z
        · rw [setPl_other _ e]; rw [Fsp.find_put_other _ e] at hm; exact hag.at_ _ g hm z
      · rw [hag.size, hL, Fsp.length_put _ h.good.1, if_pos hsome]
  · intro m g hm
    rw [hL] at hm
    by_cases e : m = n
    · subst e
      rw [Fsp.find_put_same] at hm
      cases hm
      rw [setPl_same]; exact hfile
    · rw [Fsp.find_put_other _ e] at hm
      rw [setPl_other _ e]
      have hm' : (Fsp.find S.L m).isSome := by rw [hm]; rfl
      refine (h.file m g hm).turned ht (fun e' => ?_) (fun r hr e' => ?_)
      · rcases e' with e' | e' | e'
        · exact h.p_ne_fb hm e'.symm
        · exact e (h.apartF m n hm' hsome e')
        · exact h.fb_ne_row hm hf e' rfl
      · rcases e' with e' | e' | e'
        · exact h.p_ne_row hm hr e'.symm
        · exact h.fb_ne_row hf hm hr e'.symm
        · exact e (h.apartR m n hm' hsome r hr e')
  · intro m k hm hk e
    rw [hL] at hm hk
    have key : ∀ x, (Fsp.find (Fsp.put S.L n f') x).isSome → (Fsp.find S.L x).isSome ∧ (setPl pl n ⟨(pl n).fb, sv'⟩ x).fb = (pl x).fb := fun x hx => by
      by_cases ex : x = n
      · subst ex; rw [setPl_same]; exact ⟨hsome, rfl⟩
      · rw [setPl_other _ ex]; exact ⟨isSome_put hx ex, rfl⟩
    rw [(key m hm).2, (key k hk).2] at e
    exact h.apartF m k (key m hm).1 (key k hk).1 e
  · intro m k hm hk r hr1 hr2
    rw [hL] at hm hk
    by_cases em : m = n
    · by_cases ek : k = n
      · rw [em, ek]
      · subst em
        rw [setPl_same] at hr1
        rw [setPl_other _ ek] at hr2
        have hk' := isSome_put hk ek
        rcases hnew r hr1 with h1 | h1
        · exact absurd (h.apartR k m hk' hsome r hr2 h1) ek
        · exact absurd (oldrow k hk' r hr2) (by omega)
    · by_cases ek : k = n
      · subst ek
        rw [setPl_same] at hr2
        rw [setPl_other _ em] at hr1
        have hm' := isSome_put hm em
        rcases hnew r hr2 with h1 | h1
        · exact absurd (h.apartR m k hm' hsome r hr1 h1) em
        · exact absurd (oldrow m hm' r hr1) (by omega)
      · rw [setPl_other _ em] at hr1
        rw [setPl_other _ ek] at hr2
        exact h.apartR m k (isSome_put hm em) (isSome_put hk ek) r hr1 hr2
  · intro m hm
    rw [hL] at hm
    by_cases e : m = n
    · subst e; rw [setPl_same]; exact Grow.old (h.inF _ hsome)
    · rw [setPl_other _ e]; exact Grow.old (h.inF _ (isSome_put hm e))
  · intro m hm r hr
    rw [hL] at hm
    by_cases e : m = n
    · subst e
      rw [setPl_same] at hr
      rcases hnew r hr with h1 | h1
      · exact Grow.old (h.inR _ hsome r h1)
      · exact Grow.new h1 (hrow r hr)
    · rw [setPl_other _ e] at hr; exact Grow.old (h.inR _ (isSome_put hm e) r hr)
  · intro b hb
    rcases hb with hb | hb
    · exact Nat.lt_of_lt_of_le (h.lt b hb) ht.size
    · exact hb.2

/-- a file more, at a name that was free -/
theorem RepX.addFile (h : RepX w p S c Q mo pl) {n : List UInt8} {f' : Fsp.File} {sv' : Value} {fb mb : Nat} {D : DataW Unit} {k : Nat} (hf : Fsp.find S.L n = none)
    (ht : Turn (fun b => b = p ∨ mo = some b) w w') (hh : w'.heap[p]? = some (headOf S' c' (some mb))) (hL : S'.L = Fsp.put S.L n f') (hg : Fsp.Good S')
    (hmb : mo = some mb ∨ w.heap.size ≤ mb) (hown : w'.ownsMap Tryz.prog 9 ptrElem mb k D) (hag : Agree D (Fsp.put S.L n f') (setPl pl n ⟨fb, sv'⟩))
    (hfile : FileAt w' fb sv' f') (hfb : w.heap.size ≤ fb) (hnew : ∀ r, sv'.ownBlock = some r → w.heap.size ≤ r) : RepX w' p S' c' (Grow Q w w') (some mb) (setPl pl n ⟨fb, sv'⟩) := by
  have hrow : ∀ r, sv'.ownBlock = some r → r < w'.heap.size := fun r hr => by
    obtain ⟨cur, h1⟩ := rowBlock hfile hr
    exact (Array.getElem?_eq_some_iff.1 h1).1
  have oldrow : ∀ m, (Fsp.find S.L m).isSome → ∀ r, (pl m).sv.ownBlock = some r → r < w.heap.size := fun m hm r hr => h.lt r (h.inR m hm r hr)
  have oldfb : ∀ m, (Fsp.find S.L m).isSome → (pl m).fb < w.heap.size := fun m hm => h.lt _ (h.inF m hm)
  refine { good := hg, head := hh, map := ?_, file := ?_, apartF := ?_, apartR := ?_, inP := Grow.old h.inP, inM := ?_, inF := ?_, inR := ?_, lt := ?_ }
  · refine ⟨D, ?_, ?_⟩
    · have := ownsMap_resize hown
      rw [hag.size, ← hL] at this
      exact this
    · rw [hL]; exact hag
  · intro m g hm
    rw [hL] at hm
    by_cases e : m = n
    · subst e
      rw [Fsp.find_put_same] at hm
      cases hm
      rw [setPl_same]; exact hfile
    · rw [Fsp.find_put_other _ e] at hm
      rw [setPl_other _ e]
      refine (h.file m g hm).turned ht (fun e' => ?_) (fun r hr e' => ?_)
      · rcases e' with e' | e'
        · exact h.p_ne_fb hm e'.symm
        · exact h.fb_ne_mb hm e' rfl
      · rcases e' with e' | e'
        · exact h.p_ne_row hm hr e'.symm
        · exact h.row_ne_mb hm hr e' rfl
  · intro m k hm hk e
    rw [hL] at hm hk
    by_cases em : m = n
    · by_cases ek : k = n
      · rw [em, ek]
      · subst em
        rw [setPl_same, setPl_other _ ek] at e
        have := oldfb k (isSome_put hk ek)
        simp only at e; omega
    · by_cases ek : k = n
      · subst ek
        rw [setPl_same, setPl_other _ em] at e
        have := oldfb m (isSome_put hm em)
        simp only at e; omega
      · rw [setPl_other _ em, setPl_other _ ek] at e
        exact h.apartF m k (isSome_put hm em) (isSome_put hk ek) e
  · intro m k hm hk r hr1 hr2
    rw [hL] at hm hk
    by_cases em : m = n
    · by_cases ek : k = n
      · rw [em, ek]
      · subst em
        rw [setPl_same] at hr1
        rw [setPl_other _ ek] at hr2
        have h1 := hnew r hr1
        exact absurd (oldrow k (isSome_put hk ek) r hr2) (by omega)
    · by_cases ek : k = n
      · subst ek
        rw [setPl_same] at hr2
        rw [setPl_other _ em] at hr1
        have h1 := hnew r hr2
        exact absurd (oldrow m (isSome_put hm em) r hr1) (by omega)
      · rw [setPl_other _ em] at hr1
        rw [setPl_other _ ek] at hr2
        exact h.apartR m k (isSome_put hm em) (isSome_put hk ek) r hr1 hr2
  · intro mb' e
    cases e
    rcases hmb with e | e
    · exact Grow.old (h.inM _ e)
    · exact Grow.new e hown.lt
  · intro m hm
    rw [hL] at hm
    by_cases e : m = n
    · subst e; rw [setPl_same]; exact Grow.new hfb hfile.lt
    · rw [setPl_other _ e]; exact Grow.old (h.inF _ (isSome_put hm e))
  · intro m hm r hr
    rw [hL] at hm
    by_cases e : m = n
    · subst e
      rw [setPl_same] at hr
      exact Grow.new (hnew r hr) (hrow r hr)
    · rw [setPl_other _ e] at hr; exact Grow.old (h.inR _ (isSome_put hm e) r hr)
  · intro b hb
    rcases hb with hb | hb
    · exact Nat.lt_of_lt_of_le (h.lt b hb) ht.size
    · exact hb.2

theorem isSome_del {L : List (List UInt8 × Fsp.File)} (hs : Fsp.Sorted L) {n m : List UInt8} (h : (Fsp.find (Fsp.del L n) m).isSome) : m ≠ n ∧ (Fsp.find L m).isSome := by
  by_cases e : m = n
  · subst e; rw [Fsp.find_del_same hs] at h; cases h
  · rw [Fsp.find_del_other _ e] at h; exact ⟨e, h⟩

theorem string_ne {m n : List UInt8} (h : m ≠ n) : Lit.string m ≠ Lit.string n := fun e => h (by simpa using e)

theorem Agree.del {D : DataW Unit} {L : List (List UInt8 × Fsp.File)} (h : Agree D L pl) (hs : Fsp.Sorted L) (hD : Tidy D) (n : List UInt8) : Agree (D.del (.string n)) (Fsp.del L n) pl := by
  refine ⟨fun m => ?_, fun m f hm z => ?_, ?_⟩
  · by_cases e : m = n
    · subst e; rw [has_del_same, Fsp.find_del_same hs]; rfl
    · rw [has_del_other (string_ne e), Fsp.find_del_other _ e]; exact h.has m
  · have e : m ≠ n := (isSome_del hs (by rw [hm]; rfl)).1
    rw [Fsp.find_del_other _ e] at hm
    rw [atKey_del_other (string_ne e)]
    exact h.at_ m f hm z
  · have h1 := size_del (k := .string n) hD
    have h2 := Fsp.length_del L n
    rw [h.has n, h.size] at h1
    omega

theorem isKey (n : List UInt8) : WideAt.IsKeyLit (.string n) := by simp [WideAt.IsKeyLit]

theorem Agree.put {D : DataW Unit} {L : List (List UInt8 × Fsp.File)} (h : Agree D L pl) (hs : Fsp.Sorted L) (hD : Tidy D) (n : List UInt8) (f : Fsp.File) (x : Pl) : Agree (D.put (.string n) (fbLit x.fb)) (Fsp.put L n f) (setPl pl n x) := by
  refine ⟨fun m => ?_, fun m g hm z => ?_, ?_⟩
  · by_cases e : m = n
    · subst e; rw [has_put_same hD.isMap (isKey _), Fsp.find_put_same]; rfl
    · rw [has_put_other (string_ne e), Fsp.find_put_other _ e]; exact h.has m
  · by_cases e : m = n
    · subst e; rw [atKey_put_same hD.isMap (isKey _), setPl_same]
    · rw [Fsp.find_put_other _ e] at hm
      rw [atKey_put_other (string_ne e), setPl_other _ e]
      exact h.at_ m g hm z
  · rw [size_put hD, Fsp.length_put _ hs, h.has n, h.size]

/-- a file fewer -/
theorem RepX.delFile {mb : Nat} (h : RepX w p S c Q (some mb) pl) {n : List UInt8} {D : DataW Unit} {k : Nat} (ht : Turn (fun b => b = p ∨ b = mb) w w') (hh : w'.heap[p]? = some (headOf S' c' (some mb)))
    (hL : S'.L = Fsp.del S.L n) (hg : Fsp.Good S') (hown : w'.ownsMap Tryz.prog 9 ptrElem mb k D) (hag : Agree D (Fsp.del S.L n) pl) : RepX w' p S' c' Q (some mb) pl := by
  have hs := h.good.1
  refine { good := hg, head := hh, map := ?_, file := ?_, apartF := ?_, apartR := ?_, inP := h.inP, inM := h.inM, inF := ?_, inR := ?_, lt := fun b hb => Nat.lt_of_lt_of_le (h.lt b hb) ht.size }
  · refine ⟨D, ?_, ?_⟩
    · have := ownsMap_resize hown
      rw [hag.size, ← hL] at this
      exact this
    · rw [hL]; exact hag
  · intro m g hm
    rw [hL] at hm
    have e := (isSome_del hs (n := n) (m := m) (by rw [hm]; rfl)).1
    rw [Fsp.find_del_other _ e] at hm
    refine (h.file m g hm).turned ht (fun e' => ?_) (fun r hr e' => ?_)
    · rcases e' with e' | e'
      · exact h.p_ne_fb hm e'.symm
      · exact h.fb_ne_mb hm rfl e'
    · rcases e' with e' | e'
      · exact h.p_ne_row hm hr e'.symm
      · exact h.row_ne_mb hm hr rfl e'
  · intro m k' hm hk e
    rw [hL] at hm hk
    exact h.apartF m k' (isSome_del hs hm).2 (isSome_del hs hk).2 e
  · intro m k' hm hk
    rw [hL] at hm hk
    exact h.apartR m k' (isSome_del hs hm).2 (isSome_del hs hk).2
  · intro m hm
    rw [hL] at hm
    exact h.inF m (isSome_del hs hm).2
  · intro m hm
    rw [hL] at hm
    exact h.inR m (isSome_del hs hm).2

/-- a file under another name, one that was free -/
theorem RepX.moveFile {mb : Nat} (h : RepX w p S c Q (some mb) pl) {a b : List UInt8} {f : Fsp.File} {D : DataW Unit} {k : Nat} (ht : Turn (fun x => x = mb) w w')
    (hfa : Fsp.find S.L a = some f) (hfb : Fsp.find S.L b = none) (hh : w'.heap[p]? = some (headOf S' c' (some mb))) (hL : S'.L = Fsp.put (Fsp.del S.L a) b f) (hg : Fsp.Good S')
    (hown : w'.ownsMap Tryz.prog 9 ptrElem mb k D) (hag : Agree D (Fsp.put (Fsp.del S.L a) b f) (setPl pl b (pl a))) : RepX w' p S' c' Q (some mb) (setPl pl b (pl a)) := by
  have hs := h.good.1
  have hsa : (Fsp.find S.L a).isSome := by rw [hfa]; rfl
  -- whoever is there now was there: b as a, any other as itself
  have key : ∀ m, (Fsp.find S'.L m).isSome → ∃ m0, (Fsp.find S.L m0).isSome ∧ setPl pl b (pl a) m = pl m0 ∧ Fsp.find S'.L m = Fsp.find S.L m0 ∧ ((m = b ∧ m0 = a) ∨ (m ≠ b ∧ m0 = m ∧ m ≠ a)) := by
    intro m hm
    rw [hL] at hm ⊢
    by_cases e : m = b
    · subst e
      exact ⟨a, hsa, setPl_same _ _ _, by rw [Fsp.find_put_same, hfa], Or.inl ⟨rfl, rfl⟩⟩
    · have h1 := isSome_del hs (isSome_put hm e)
      exact ⟨m, h1.2, setPl_other _ e _, by rw [Fsp.find_put_other _ e, Fsp.find_del_other _ h1.1], Or.inr ⟨e, rfl, h1.1⟩⟩
  refine { good := hg, head := hh, map := ?_, file := ?_, apartF := ?_, apartR := ?_, inP := h.inP, inM := h.inM, inF := ?_, inR := ?_, lt := fun b hb => Nat.lt_of_lt_of_le (h.lt b hb) ht.size }
  · refine ⟨D, ?_, ?_⟩
    · have := ownsMap_resize hown
      rw [hag.size, ← hL] at this
      exact this
    · rw [hL]; exact hag
  · intro m g hm
    obtain ⟨m0, h1, h2, h3, _⟩ := key m (by rw [hm]; rfl)
    rw [h2]
    rw [h3] at hm
    exact (h.file m0 g hm).turned ht (fun e' => h.fb_ne_mb hm rfl e') (fun r hr e' => h.row_ne_mb hm hr rfl e')
  · intro m k' hm hk e
    obtain ⟨m0, h1, h2, _, h4⟩ := key m hm
    obtain ⟨k0, g1, g2, _, g4⟩ := key k' hk
    rw [h2, g2] at e
    have e0 := h.apartF m0 k0 h1 g1 e
    rcases h4 with ⟨rfl, rfl⟩ | ⟨_, rfl, h5⟩ <;> rcases g4 with ⟨rfl, rfl⟩ | ⟨_, rfl, g5⟩
    · rfl
    · exact absurd e0.symm g5
    · exact absurd e0 h5
    · exact e0
  · intro m k' hm hk r hr1 hr2
    obtain ⟨m0, h1, h2, _, h4⟩ := key m hm
    obtain ⟨k0, g1, g2, _, g4⟩ := key k' hk
    rw [h2] at hr1
    rw [g2] at hr2
    have e0 := h.apartR m0 k0 h1 g1 r hr1 hr2
    rcases h4 with ⟨rfl, rfl⟩ | ⟨_, rfl, h5⟩ <;> rcases g4 with ⟨rfl, rfl⟩ | ⟨_, rfl, g5⟩
    · rfl
    · exact absurd e0.symm g5
    · exact absurd e0 h5
    · exact e0
  · intro m hm
    obtain ⟨m0, h1, h2, _⟩ := key m hm
    rw [h2]; exact h.inF m0 h1
  · intro m hm
    obtain ⟨m0, h1, h2, _⟩ := key m hm
    rw [h2]; exact h.inR m0 h1

end
end Go.Proofs.YtinghngnehhgfaaGreatDoor

/-
  step AND drop, cut AT THE FILE SYSTEM's OWN WORD.
-/
namespace Go.Proofs.YtinghngnehhgfaaGreatDoor
open Go.RowKit Go.Maps Go.WideMaps

theorem heap_setCell_same {w : World} {p j : Nat} {cs : Array Value} {t : TypeId} {fr : Nat × Nat} (h : w.heap[p]? = some (.cells cs t fr)) (v : Value) : (w.setCell ⟨p, j, none⟩ v).heap[p]? = some (.cells (cs.setIfInBounds j v) t fr) := by
  simp [World.setCell, Array.getElem?_modify, h]

/-- so few writes that their number is an int's -/
def StepsOk (S : Fsp.Fs) : Prop := S.steps < 4611686018427387904

section
variable {w w' : World} {p : Nat} {S S' : Fsp.Fs} {c c' : Bool} {Q : Nat → Prop} {mo : Option Nat} {pl : List UInt8 → Pl}

theorem good_stepped (h : Fsp.Good S) : Fsp.Good (Fsp.stepped S) := by
  obtain ⟨h1, h2, h3, h4, h5, h6⟩ := h
  unfold Fsp.stepped
  split
  · exact ⟨h1, h2, h3, h4, by simp, h6⟩
  · exact ⟨h1, h2, h3, h4, by simp; omega, h6⟩

theorem stepped_L (S : Fsp.Fs) : (Fsp.stepped S).L = S.L := by unfold Fsp.stepped; split <;> rfl
theorem stepped_room (S : Fsp.Fs) : (Fsp.stepped S).room = S.room := by unfold Fsp.stepped; split <;> rfl

theorem turnP (w : World) (p j : Nat) (v : Value) : Turn (fun b => b = p) w (w.setCell ⟨p, j, none⟩ v) := Turn.setCell (Turn.refl (fun b => b = p) w) (p := ⟨p, j, none⟩) (Or.inl rfl) v

theorem step_no (h : RepX w p S c Q mo pl) (ha : S.armed = 1) :
    Calls Tryz.prog 47 #[.pointer (some ⟨p, 0, none⟩)] w fun r w' => r = .returned (.bool false) ∧ RepX w' p (Fsp.stepped S) c Q mo pl ∧ Turn (fun b => b = p) w w' := by
  have hc := h.cells
  rw [ha] at hc
  refine (step_armed hc).mono ?_
  rintro r w' ⟨rfl, rfl⟩
  have ht : Turn (fun b => b = p) w ((w.setCell ⟨p, 4, none⟩ (.int .i64 0)).setCell ⟨p, 5, none⟩ (.bool true)) := (turnP w p 4 _).setCell (Or.inl rfl) _
  refine ⟨rfl, h.setHead ht ?_ (stepped_L S) (good_stepped h.good), ht⟩
  rw [heap_setCell_same (heap_setCell_same h.head _)]
  simp [headOf, Fsp.stepped, ha]

theorem step_yes (h : RepX w p S c Q mo pl) (ha : S.armed ≠ 1) (hs : StepsOk S) :
    Calls Tryz.prog 47 #[.pointer (some ⟨p, 0, none⟩)] w fun r w' => r = .returned (.bool true) ∧ RepX w' p (Fsp.stepped S) c Q mo pl ∧ Turn (fun b => b = p) w w' := by
  have hg := h.good
  unfold StepsOk at hs
  refine (step_walk h.cells (by omega) (by omega) (by have := hg.2.2.2.2.1; omega) (by omega) (by omega)).mono ?_
  rintro r w' ⟨rfl, rfl⟩
  by_cases hp : 0 < (S.armed : Int)
  · simp only [if_pos hp]
    have ht : Turn (fun b => b = p) w ((w.setCell ⟨p, 4, none⟩ (.int .i64 ((S.armed : Int) - 1))).setCell ⟨p, 3, none⟩ (.int .i64 ((S.steps : Int) + 1))) := (turnP w p 4 _).setCell (Or.inl rfl) _
    refine ⟨trivial, h.setHead ht ?_ (stepped_L S) (good_stepped hg), ht⟩
    rw [heap_setCell_same (heap_setCell_same h.head _)]
    have e : ((S.armed - 1 : Nat) : Int) = (S.armed : Int) - 1 := by omega
    simp [headOf, Fsp.stepped, ha, e]
  · simp only [if_neg hp]
    have ht : Turn (fun b => b = p) w (w.setCell ⟨p, 3, none⟩ (.int .i64 ((S.steps : Int) + 1))) := turnP w p 3 _
    refine ⟨trivial, h.setHead ht ?_ (stepped_L S) (good_stepped hg), ht⟩
    rw [heap_setCell_same h.head _]
    have e : S.armed = 0 := by omega
    simp [headOf, Fsp.stepped, e]

/-- b is as a, but for how often the tape was asked -/
structure Like (a b : World) : Prop where
  heap : b.heap = a.heap
  os : b.os = a.os
  tape : b.tape = a.tape
  output : b.output = a.output

theorem Turn.like {Q : Nat → Prop} {a b c : World} (h : Turn Q a b) (k : Like b c) : Turn Q a c :=
  ⟨k.os.trans h.os, k.tape.trans h.tape, k.output.trans h.output, by rw [k.heap]; exact h.size, fun i hi hn => by rw [k.heap]; exact h.block i hi hn⟩

/-! ### a file's two cells -/
structure FCells (w : World) (fb : Nat) (sv : Value) (synced : Int) : Prop where
  c0 : w.cell? ⟨fb, 0, none⟩ = some sv
  c1 : w.cell? ⟨fb, 1, none⟩ = some (.int .i64 synced)
  fr : ∀ j, w.frozen? ⟨fb, j, none⟩ = false

theorem FileAt.cells {fb : Nat} {sv : Value} {f : Fsp.File} (h : FileAt w fb sv f) : FCells w fb sv f.synced := by
  have hh := h.1
  constructor <;> simp [World.cell?, World.frozen?, hh]

theorem own_slice {base : Nat} {v : Value} {n : Nat} {xs : List Value} (h : w.ownsRow base 5 1 v n xs) : ∃ sp cap, v = .slice sp n cap ∧ n ≤ cap ∧ (∀ r, v.ownBlock = some r → sp = some ⟨r, 0, none⟩) ∧ (sp = none → n = 0 ∧ cap = 0) := by
  rcases h.2 with ⟨rfl, rfl⟩ | ⟨g, cap, cur, rfl, _, _, h1, _⟩
  · exact ⟨none, 0, rfl, Nat.le_refl _, fun r hr => by simp [Value.ownBlock] at hr, fun _ => ⟨rfl, rfl⟩⟩
  · exact ⟨some ⟨g, 0, none⟩, cap, rfl, h1, fun r hr => by simp [Value.ownBlock] at hr; subst hr; rfl, fun e => by cases e⟩

set_option maxHeartbeats 400000 in
/-- cut, of any file's cells -/
theorem cut_walk {fb : Nat} {sp : Option Addr} {len cap : Nat} {room used steps armed synced : Int} {down crashing : Bool} (h : Cells w p mo room used steps armed down crashing) (hf : FCells w fb (.slice sp len cap) synced)
    (n : Nat) (hn : n ≤ len) (hlc : len ≤ cap) (hcap : cap ≤ maxLen) (hu : (len : Int) ≤ used) (hu2 : used ≤ 67108864) :
    Calls Tryz.prog 82 #[.pointer (some ⟨p, 0, none⟩), .pointer (some ⟨fb, 0, none⟩), .int .i64 n] w fun r w' => r = .returned (.tuple #[]) ∧
      Like (((w.setCell ⟨p, 2, none⟩ (.int .i64 (used - ((len : Int) - n)))).setCell ⟨fb, 0, none⟩ (.slice sp n cap)).setCell ⟨fb, 1, none⟩ (.int .i64 (min synced n))) w' := by
  have c2 := h.c2
  have k2 := h.fr 2
  have f0 := hf.c0
  have f1 := hf.c1
  have g0 := hf.fr 0
  have g1 := hf.fr 1
  unfold maxLen at hcap
  go_enter Tryz.func82, Tryz.ntmps82
  go_wp2
  go_region
  all_goals go_wp2
  all_goals go_end0
  all_goals exact ⟨rfl, rfl, rfl, rfl, rfl⟩

theorem good_put (h : Fsp.Good S) {n : List UInt8} {f' : Fsp.File} (hL : S'.L = Fsp.put S.L n f') (hr : S'.room = S.room) (ha : S'.armed ≤ 9223372036854775807) (hv : Fsp.valid n = true) (hsy : f'.synced ≤ f'.data.length)
    (hlen : (Fsp.find S.L n).isSome ∨ S.L.length < 400) (hu : Fsp.usedOf (Fsp.put S.L n f') ≤ S.room) : Fsp.Good S' := by
  obtain ⟨h1, h2, h3, h4, h5, h6⟩ := h
  refine ⟨by rw [hL]; exact Fsp.put_sorted h1 _ _, by rw [hL, hr]; exact hu, by rw [hr]; exact h3, ?_, ha, ?_⟩
  · rw [hL, Fsp.length_put _ h1]
    split
    · exact h4
    · rename_i hno
      rcases hlen with hh | hh
      · exact absurd hh hno
      · omega
  · intro m g hm
    rw [hL] at hm
    by_cases e : m = n
    · subst e
      rw [Fsp.find_put_same] at hm
      cases hm
      exact ⟨hv, hsy⟩
    · rw [Fsp.find_put_other _ e] at hm
      exact h6 m g hm

theorem good_del (h : Fsp.Good S) {n : List UInt8} (hL : S'.L = Fsp.del S.L n) (hr : S'.room = S.room) (ha : S'.armed ≤ 9223372036854775807) : Fsp.Good S' := by
  obtain ⟨h1, h2, h3, h4, h5, h6⟩ := h
  have hu : Fsp.usedOf (Fsp.del S.L n) ≤ Fsp.usedOf S.L := by
    cases hf : Fsp.find S.L n with
    | none => rw [Fsp.del_none hf]; exact Nat.le_refl _
    | some g => have := Fsp.used_del hf; omega
  refine ⟨by rw [hL]; exact Fsp.del_sorted h1 _, by rw [hL, hr]; omega, by rw [hr]; exact h3, ?_, ha, ?_⟩
  · rw [hL]; have := Fsp.length_del S.L n; omega
  · intro m g hm
    rw [hL] at hm
    have e := isSome_del h1 (n := n) (m := m) (by rw [hm]; rfl)
    rw [Fsp.find_del_other _ e.1] at hm
    exact h6 m g hm

theorem file_open (h : RepX w p S c Q mo pl) {n : List UInt8} {f : Fsp.File} (hf : Fsp.find S.L n = some f) :
    ∃ sp cap, (pl n).sv = .slice sp f.data.length cap ∧ f.data.length ≤ cap ∧ cap ≤ maxLen ∧ FCells w (pl n).fb (.slice sp f.data.length cap) f.synced := by
  have hfile := h.file n f hf
  obtain ⟨sp, cap, hsv, hlc, _⟩ := own_slice hfile.2
  have hc := hfile.cells
  rw [hsv] at hc
  refine ⟨sp, cap, hsv, hlc, ?_, hc⟩
  rcases hfile.2.2 with ⟨e, _⟩ | ⟨g, cap', cur, e, _, _, _, h2, _⟩
  · rw [hsv] at e; simp only [Value.slice.injEq] at e; rw [e.2.2]; exact Nat.zero_le _
  · rw [hsv] at e; simp only [Value.slice.injEq] at e; rw [e.2.2]; exact h2

theorem own_shrink {base : Nat} {sp : Option Addr} {len cap k : Nat} {data : List UInt8} (h : w.ownsRow base 5 1 (.slice sp len cap) len (data.map byteV)) (hk : k ≤ len) : w.ownsRow base 5 1 (.slice sp k cap) k ((data.take k).map byteV) := by
  have hl := h.1
  simp only [List.length_map, Nat.mul_one] at hl
  refine ⟨by simp; omega, ?_⟩
  rcases h.2 with ⟨hv, rfl⟩ | ⟨g, cap', cur, hv, hg, hh, h1, h2, h3, h4⟩
  · simp only [Value.slice.injEq] at hv
    obtain ⟨rfl, _, rfl⟩ := hv
    obtain rfl : k = 0 := by omega
    exact Or.inl ⟨rfl, rfl⟩
  · simp only [Value.slice.injEq] at hv
    obtain ⟨rfl, _, rfl⟩ := hv
    refine Or.inr ⟨g, cap, cur, rfl, hg, hh, by omega, h2, h3, ?_⟩
    rw [Nat.mul_one] at h4 ⊢
    rw [List.map_take, ← h4, List.take_take, Nat.min_eq_left hk]

/-- a file is cut -/
theorem RepX.cutTo (h : RepX w p S c Q mo pl) {n : List UInt8} {f : Fsp.File} {sp : Option Addr} {cap : Nat} {w2 : World} (k kk : Nat) (hf : Fsp.find S.L n = some f) (hk : k ≤ f.data.length) (hkk : kk ≤ k) (hsv : (pl n).sv = .slice sp f.data.length cap)
    (ht : Turn (fun b => b = p ∨ b = (pl n).fb) w w2) (hh : w2.heap[p]? = some (.cells #[.map mo, .int .i64 (S.room : Int), .int .i64 ((Fsp.usedOf S.L : Int) - ((f.data.length : Int) - k)), .int .i64 (S.steps : Int), .int .i64 (S.armed : Int), .bool S.down, .bool c] 49 (0, 0)))
    (hb : w2.heap[(pl n).fb]? = some (.cells #[.slice sp k cap, .int .i64 (kk : Int)] 67 (0, 0))) :
    RepX w2 p { S with L := Fsp.put S.L n ⟨f.data.take k, kk⟩ } c (Grow Q w w2) mo (setPl pl n ⟨(pl n).fb, .slice sp k cap⟩) := by
  have hfile := h.file n f hf
  have hu := Fsp.used_put_some h.good.1 hf ⟨f.data.take k, kk⟩
  have hlen : (f.data.take k).length = k := by simp; omega
  simp only [hlen] at hu
  have hown : w.ownsRow 0 5 1 (.slice sp f.data.length cap) f.data.length (f.data.map byteV) := by rw [← hsv]; exact hfile.2
  have hblk : ∀ r, (Value.slice sp k cap).ownBlock = some r → (pl n).sv.ownBlock = some r := by
    intro r hr
    rw [hsv]
    cases sp
    · simp [Value.ownBlock] at hr
    · simpa [Value.ownBlock] using hr
  refine h.setFile (f' := ⟨f.data.take k, kk⟩) hf (ht.mono fun i hi => hi.elim Or.inl (fun e => Or.inr (Or.inl e))) ?_ rfl ?_ ⟨hb, ?_⟩ (fun r hr => Or.inl (hblk r hr))
  · rw [hh]
    have e : ((Fsp.usedOf S.L : Int) - ((f.data.length : Int) - k)) = (Fsp.usedOf (Fsp.put S.L n ⟨f.data.take k, kk⟩) : Nat) := by omega
    simp only [headOf, e]
  · exact good_put h.good rfl rfl h.good.2.2.2.2.1 (h.good.2.2.2.2.2 n f hf).1 (by simp only [hlen]; exact hkk) (Or.inl (by rw [hf]; rfl)) (by have := h.good.2.1; omega)
  · simp only [hlen]
    exact ownsRow_turned (own_shrink hown hk) ht (fun r hr e => by
      have hr' := hblk r hr
      rcases e with e | e
      · exact h.p_ne_row hf hr' e.symm
      · exact h.fb_ne_row hf hf hr' e.symm)

theorem down_is (h : RepX w p S c Q mo pl) {b : Bool} (hd : S.down = b) : Calls Tryz.prog 22 #[.pointer (some ⟨p, 0, none⟩)] w fun r w' => r = .returned (.bool b) ∧ w = w' := by
  have := h.cells
  rw [hd] at this
  exact down_any this

/-- what a call leaves: the file system as it should be, its blocks its own or new ones; nothing else has turned -/
def Post (w : World) (p : Nat) (S' : Fsp.Fs) (Q : Nat → Prop) (w' : World) : Prop := Rep w' p S' (Grow Q w w') ∧ Turn Q w w'

theorem RepX.grow (w : World) (h : RepX w' p S c Q mo pl) : RepX w' p S c (Grow Q w w') mo pl :=
  h.mono (fun _ hb => Grow.old hb) (fun b hb => by rcases hb with hb | hb; exact h.lt b hb; exact hb.2)

theorem Post.same (h : RepX w p S false Q mo pl) : Post w p S Q w := ⟨⟨mo, pl, h.grow w⟩, Turn.refl _ _⟩

theorem Post.head (h : RepX w' p S false Q mo pl) (hp : Q p) (ht : Turn (fun b => b = p) w w') : Post w p S Q w' := by
  have t : Turn Q w w' := ht.mono fun i e => by rw [e]; exact hp
  exact ⟨⟨mo, pl, h.grow w⟩, t⟩

theorem Grow.trans {a b d : World} {Q : Nat → Prop} (h1 : a.heap.size ≤ b.heap.size) (h2 : b.heap.size ≤ d.heap.size) (i : Nat) (h : Grow (Grow Q a b) b d i) : Grow Q a d i := by
  rcases h with (h | h) | h
  · exact Or.inl h
  · exact Or.inr ⟨h.1, by omega⟩
  · exact Or.inr ⟨by omega, h.2⟩

theorem Grow.after {a b d : World} {Q : Nat → Prop} (h1 : a.heap.size ≤ b.heap.size) (i : Nat) (h : Grow Q b d i) : Grow Q a d i := by
  rcases h with h | h
  · exact Or.inl h
  · exact Or.inr ⟨by omega, h.2⟩

/-- behind a step and a write to one file -/
theorem Post.file {w1 w2 : World} {n : List UInt8} {f f' : Fsp.File} {sv' : Value} (h1 : RepX w1 p S false Q mo pl) (ht : Turn (fun b => b = p) w w1) (hf : Fsp.find S.L n = some f)
    (ht2 : Turn (fun b => b = p ∨ b = (pl n).fb ∨ (pl n).sv.ownBlock = some b) w1 w2) (hh : w2.heap[p]? = some (headOf S' false mo)) (hL : S'.L = Fsp.put S.L n f') (hg : Fsp.Good S')
    (hfile : FileAt w2 (pl n).fb sv' f') (hnew : ∀ r, sv'.ownBlock = some r → (pl n).sv.ownBlock = some r ∨ w1.heap.size ≤ r) : Post w p S' Q w2 := by
  have h2 := h1.setFile hf ht2 hh hL hg hfile hnew
  refine ⟨⟨mo, _, h2.mono (fun i hi => Grow.after ht.size i hi) ?_⟩, ?_⟩
  · intro b hb
    rcases hb with hb | hb
    · exact Nat.lt_of_lt_of_le (h1.lt b hb) ht2.size
    · exact hb.2
  · refine (ht.mono (fun i e => by rw [e]; exact h1.inP)).trans ht2 (fun i _ hi => ?_)
    rcases hi with e | e | e
    · rw [e]; exact h1.inP
    · rw [e]; exact h1.inF n (by rw [hf]; rfl)
    · exact h1.inR n (by rw [hf]; rfl) i e

theorem heap_setCell_other {w : World} {p j k : Nat} (h : k ≠ p) (v : Value) : (w.setCell ⟨p, j, none⟩ v).heap[k]? = w.heap[k]? := Below.heap_setCell _ _ _ _ h

/-- whoever holds it in a later world, holds it with the blocks since the first -/
theorem Post.of {w1 w2 : World} {mo2 : Option Nat} {pl2 : List UInt8 → Pl} (h1 : RepX w1 p S false Q mo pl) (ht : Turn (fun b => b = p) w w1) (h2 : RepX w2 p S' false (Grow Q w1 w2) mo2 pl2) (ht2 : Turn Q w1 w2) : Post w p S' Q w2 := by
  refine ⟨⟨mo2, _, h2.mono (fun i hi => Grow.after ht.size i hi) ?_⟩, ?_⟩
  · intro b hb
    rcases hb with hb | hb
    · exact Nat.lt_of_lt_of_le (h1.lt b hb) ht2.size
    · exact hb.2
  · exact (ht.mono (fun i e => by rw [e]; exact h1.inP)).trans ht2 (fun i _ hi => hi)

/-- the write of a file's second cell alone -/
theorem Post.syncCell {w1 w2 : World} {n : List UInt8} {f : Fsp.File} (k : Nat) (h1 : RepX w1 p S false Q mo pl) (ht : Turn (fun b => b = p) w w1) (hf : Fsp.find S.L n = some f) (hk : k ≤ f.data.length)
    (hL : S' = { S with L := Fsp.put S.L n ⟨f.data, k⟩ }) (hw : w2 = w1.setCell ⟨(pl n).fb, 1, none⟩ (.int .i64 (k : Int))) : Post w p S' Q w2 := by
  subst hw; subst hL
  have hfile := h1.file n f hf
  have hu := Fsp.used_put_some h1.good.1 hf ⟨f.data, k⟩
  have ht2 : Turn (fun b => b = p ∨ b = (pl n).fb ∨ (pl n).sv.ownBlock = some b) w1 (w1.setCell ⟨(pl n).fb, 1, none⟩ (.int .i64 (k : Int))) := Turn.setCell (Turn.refl _ _) (p := ⟨(pl n).fb, 1, none⟩) (Or.inl (Or.inr (Or.inl rfl))) _
  have ht3 : Turn (fun b => b = (pl n).fb) w1 (w1.setCell ⟨(pl n).fb, 1, none⟩ (.int .i64 (k : Int))) := turnP _ _ _ _
  have hu2 : Fsp.usedOf (Fsp.put S.L n ⟨f.data, k⟩) = Fsp.usedOf S.L := by simp only at hu; omega
  refine Post.file (sv' := (pl n).sv) (f' := ⟨f.data, k⟩) h1 ht hf ht2 ?_ rfl ?_ ⟨?_, ?_⟩ (fun r hr => Or.inl hr)
  · rw [heap_setCell_other (h1.p_ne_fb hf), h1.head]
    simp only [headOf, hu2]
  · exact good_put h1.good rfl rfl h1.good.2.2.2.2.1 (h1.good.2.2.2.2.2 n f hf).1 hk (Or.inl (by rw [hf]; rfl)) (by rw [hu2]; exact h1.good.2.1)
  · rw [heap_setCell_same hfile.1]; rfl
  · exact ownsRow_turned hfile.2 ht3 (fun r hr e => h1.fb_ne_row hf hf hr e.symm)

end
end Go.Proofs.YtinghngnehhgfaaGreatDoor
