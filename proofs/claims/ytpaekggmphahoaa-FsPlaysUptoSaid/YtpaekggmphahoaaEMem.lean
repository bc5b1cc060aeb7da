/-
  THE DOCUMENT's FILE SYSTEM (exref1) IN MEMORY: a struct of five cells, a row of files, each a name, bytes and a number.
-/
import Derived.Test.YtpaekggmphahoaaFpB
import Derived.Maps.AppendAt
import Derived.Laws.AppendOwnNone
import Derived.LoopTactic
import Derived.BigQuiet
import Derived.Deep.QuietTactic
namespace Go.Proofs.Ytpaekggmphahoaa
open Go.RowKit Go.Maps Go.WideMaps

abbrev FL := List (List UInt8 × Fsp.File)
/-- a file, and the value that its bytes are -/
structure RF where
  name : List UInt8
  f : Fsp.File
  dv : Value
def RF.pair (x : RF) : List UInt8 × Fsp.File := (x.name, x.f)
def RF.cells (x : RF) : List Value := [encStr x.name, x.dv, .int .i64 (x.f.synced : Int)]
def rfC (l : List RF) : List Value := l.flatMap RF.cells
theorem rfC_append (l m : List RF) : rfC (l ++ m) = rfC l ++ rfC m := by simp [rfC]
theorem rfC_len (l : List RF) : (rfC l).length = l.length * 3 := by
  induction l with
  | nil => rfl
  | cons x l ih =>
    have e : rfC (x :: l) = x.cells ++ rfC l := rfl
    rw [e, List.length_append, ih, List.length_cons]; simp [RF.cells]; omega
theorem rfC_at {l : List RF} {i : Nat} {x : RF} (h : l[i]? = some x) : (rfC l)[i * 3]? = some (encStr x.name) ∧ (rfC l)[i * 3 + 1]? = some x.dv ∧ (rfC l)[i * 3 + 2]? = some (.int .i64 (x.f.synced : Int)) := by
  induction l generalizing i with
  | nil => simp at h
  | cons y l ih =>
    have e : rfC (y :: l) = encStr y.name :: y.dv :: .int .i64 (y.f.synced : Int) :: rfC l := rfl
    cases i with
    | zero => simp at h; subst h; simp [e]
    | succ i =>
      obtain ⟨a, b, c⟩ := ih (i := i) (by simpa using h)
      rw [e, show (i + 1) * 3 = i * 3 + 1 + 1 + 1 by omega, show i * 3 + 1 + 1 + 1 + 1 = (i * 3 + 1) + 1 + 1 + 1 by omega, show i * 3 + 1 + 1 + 1 + 2 = (i * 3 + 2) + 1 + 1 + 1 by omega]
      simp only [List.getElem?_cons_succ]
      exact ⟨a, b, c⟩
theorem rfC_set {l : List RF} {i : Nat} (x : RF) (hi : i < l.length) : rfC (l.set i x) = (((rfC l).set (i * 3) (encStr x.name)).set (i * 3 + 1) x.dv).set (i * 3 + 2) (.int .i64 (x.f.synced : Int)) := by
  induction l generalizing i with
  | nil => simp at hi
  | cons y l ih =>
    have e : rfC (y :: l) = encStr y.name :: y.dv :: .int .i64 (y.f.synced : Int) :: rfC l := rfl
    cases i with
    | zero => simp [rfC, RF.cells]
    | succ i =>
      rw [List.set_cons_succ, show rfC (y :: l.set i x) = encStr y.name :: y.dv :: .int .i64 (y.f.synced : Int) :: rfC (l.set i x) from rfl, ih (by simpa using hi), e,
        show (i + 1) * 3 = i * 3 + 1 + 1 + 1 by omega, show i * 3 + 1 + 1 + 1 + 1 = (i * 3 + 1) + 1 + 1 + 1 by omega, show i * 3 + 1 + 1 + 1 + 2 = (i * 3 + 2) + 1 + 1 + 1 by omega]
      simp only [List.set_cons_succ]

theorem SliceR.turnedE {w w' : World} {v : Value} {data : List UInt8} {Q : Nat → Prop} (h : SliceR w v data) (ht : Turn Q w w') (hq : 0 < data.length → ∀ r, v.ownBlock = some r → ¬ Q r) : SliceR w' v data := by
  obtain ⟨sp, cap, rfl, hr⟩ := h
  refine ⟨sp, cap, rfl, fun h0 => ?_⟩
  obtain ⟨ad, rfl, hc⟩ := hr h0
  refine ⟨ad, rfl, fun j x hj => ?_⟩
  have hc := hc j x hj
  have hblk : (ad.add j).block = ad.block := by unfold Addr.add; split <;> rfl
  refine (World.cell?_of_block ?_).trans hc
  rw [hblk]
  exact ht.block _ (by have := World.block_lt_of_cell? w _ hc; rwa [hblk] at this) (hq h0 _ rfl)

/-- bytes that are kept: nil, or with an address -/
def SliceN (w : World) (v : Value) (data : List UInt8) : Prop :=
  (v = .slice none 0 0 ∧ data = []) ∨ ∃ ad cap, v = .slice (some ad) data.length cap ∧ data.length ≤ cap ∧ ad.spot = none ∧ ∀ j x, data[j]? = some x → w.cell? (ad.add j) = some (byteV x)
theorem SliceN.toR {w : World} {v : Value} {data : List UInt8} (h : SliceN w v data) : SliceR w v data := by
  rcases h with ⟨rfl, rfl⟩ | ⟨ad, cap, rfl, h1, -, h2⟩
  · exact ⟨none, 0, rfl, fun h0 => by simp at h0⟩
  · exact ⟨some ad, cap, rfl, fun _ => ⟨ad, rfl, h2⟩⟩
theorem SliceN.turned {w w' : World} {v : Value} {data : List UInt8} {Q : Nat → Prop} (h : SliceN w v data) (ht : Turn Q w w') (hq : 0 < data.length → ∀ r, v.ownBlock = some r → ¬ Q r) : SliceN w' v data := by
  rcases h with h | ⟨ad, cap, rfl, h1, hs, h2⟩
  · exact Or.inl h
  · refine Or.inr ⟨ad, cap, rfl, h1, hs, fun j x hj => ?_⟩
    have hc := h2 j x hj
    have hblk : (ad.add j).block = ad.block := by unfold Addr.add; split <;> rfl
    refine (World.cell?_of_block ?_).trans hc
    rw [hblk]
    refine ht.block _ (by have := World.block_lt_of_cell? w _ hc; rwa [hblk] at this) (hq ?_ _ rfl)
    have := (List.getElem?_eq_some_iff.1 hj).1
    omega
theorem SliceN.of_own {w : World} {base : Nat} {v : Value} {data : List UInt8} (h : w.ownsRow base 5 1 v data.length (data.map byteV)) : SliceN w v data := by
  rcases h.2 with ⟨hv, hn⟩ | ⟨g, cap, cur, hv, hg, hh, h1, h2, h3, h4⟩
  · exact Or.inl ⟨hv, List.length_eq_zero_iff.1 hn⟩
  · refine Or.inr ⟨⟨g, 0, none⟩, cap, hv, h1, rfl, fun j x hj => ?_⟩
    have hown : w.ownsRow base 5 1 (.slice (some ⟨g, 0, none⟩) data.length cap) data.length (data.map byteV) := by rw [← hv]; exact h
    have hlt : j < data.length := (List.getElem?_eq_some_iff.1 hj).1
    have := hown.cellAt j (by omega)
    rw [add_head, this, List.getElem?_map, hj]; rfl
/-- its front -/
theorem SliceN.take {w : World} {sp : Option Addr} {n cap k : Nat} {data : List UInt8} (h : SliceN w (.slice sp n cap) data) (hk : k ≤ data.length) (h0 : sp ≠ none) : SliceN w (.slice sp k cap) (data.take k) := by
  rcases h with ⟨e, rfl⟩ | ⟨ad, cap', e, h1, hs, h2⟩
  · simp only [Value.slice.injEq] at e
    exact absurd e.1 h0
  · simp only [Value.slice.injEq] at e
    obtain ⟨rfl, rfl, rfl⟩ := e
    refine Or.inr ⟨ad, cap, by rw [List.length_take, Nat.min_eq_left hk], by rw [List.length_take]; omega, hs, fun j x hj => h2 j x ?_⟩
    rw [List.getElem?_take] at hj
    split at hj
    · exact hj
    · cases hj

/-- a file system of the document's lies at q; all its blocks are among Q -/
structure RefX (w : World) (q : Nat) (S : Fsp.Fs) (Q : Nat → Prop) (v : Value) (l : List RF) : Prop where
  head : w.heap[q]? = some (.cells #[.int .i64 (S.room : Int), v, .int .i64 (S.steps : Int), .int .i64 (S.armed : Int), .bool S.down] 41 (0, 0))
  row : w.ownsRow 0 44 3 v l.length (rfC l)
  L : S.L = l.map RF.pair
  data : ∀ (i : Nat) x, l[i]? = some x → SliceN w x.dv x.f.data
  sep : ∀ (i : Nat) x, l[i]? = some x → 0 < x.f.data.length → ∀ r, x.dv.ownBlock = some r → r ≠ q ∧ v.ownBlock ≠ some r
  ownq : v.ownBlock ≠ some q
  inQ : Q q
  inR : ∀ r, v.ownBlock = some r → Q r
  inD : ∀ (i : Nat) x, l[i]? = some x → 0 < x.f.data.length → ∀ r, x.dv.ownBlock = some r → Q r
  lt : ∀ b, Q b → b < w.heap.size

section
variable {w w' : World} {q : Nat} {S : Fsp.Fs} {Q Q' : Nat → Prop} {v : Value} {l : List RF}
/-- what others do leaves it as it is -/
theorem RefX.turned (h : RefX w q S Q v l) (ht : Turn Q' w w') (hq : ∀ b, Q b → ¬ Q' b) : RefX w' q S Q v l :=
  { h with
    head := (ht.block q (h.lt q h.inQ) (hq q h.inQ)).trans h.head
    row := ownsRow_turned h.row ht (fun r hr => hq r (h.inR r hr))
    data := fun i x hx => (h.data i x hx).turned ht (fun h0 r hr => hq r (h.inD i x hx h0 r hr))
    lt := fun b hb => Nat.lt_of_lt_of_le (h.lt b hb) ht.size }
theorem RefX.same (h : RefX w q S Q v l) (ht : Turn (fun _ => False) w w') : RefX w' q S Q v l := h.turned ht fun _ _ q => q
theorem RefX.mono (h : RefX w q S Q v l) (hq : ∀ b, Q b → Q' b) (hl : ∀ b, Q' b → b < w.heap.size) : RefX w q S Q' v l :=
  { h with inQ := hq _ h.inQ, inR := fun r e => hq _ (h.inR r e), inD := fun i x hx h0 r e => hq _ (h.inD i x hx h0 r e), lt := hl }
theorem RefX.n (h : RefX w q S Q v l) : S.L.length = l.length := by rw [h.L, List.length_map]
theorem RefX.form (h : RefX w q S Q v l) : ∃ sp cap, v = .slice sp l.length cap := by
  rcases h.row.2 with ⟨h1, h2⟩ | ⟨g, cap, cur, h1, _⟩
  · exact ⟨none, 0, by rw [h1, h2]⟩
  · exact ⟨_, _, h1⟩
/-- the head's cells -/
structure RCells (w : World) (q : Nat) (room : Int) (v : Value) (steps armed : Int) (down : Bool) : Prop where
  c0 : w.cell? ⟨q, 0, none⟩ = some (.int .i64 room)
  c1 : w.cell? ⟨q, 1, none⟩ = some v
  c2 : w.cell? ⟨q, 2, none⟩ = some (.int .i64 steps)
  c3 : w.cell? ⟨q, 3, none⟩ = some (.int .i64 armed)
  c4 : w.cell? ⟨q, 4, none⟩ = some (.bool down)
  fr : ∀ j, w.frozen? ⟨q, j, none⟩ = false
theorem RefX.cells (h : RefX w q S Q v l) : RCells w q S.room v S.steps S.armed S.down := by
  have hh := h.head
  constructor <;> simp [World.cell?, World.frozen?, hh]
/-- a file's cells -/
theorem RefX.at (h : RefX w q S Q v l) {i : Nat} {x : RF} (hx : l[i]? = some x) : ∃ g cap, v = .slice (some ⟨g, 0, none⟩) l.length cap ∧ w.cell? ⟨g, i * 3, none⟩ = some (encStr x.name) ∧ w.cell? ⟨g, i * 3 + 1, none⟩ = some x.dv ∧ w.cell? ⟨g, i * 3 + 2, none⟩ = some (.int .i64 (x.f.synced : Int)) ∧ (∀ j, w.frozen? ⟨g, j, none⟩ = false) := by
  have hlt : i < l.length := (List.getElem?_eq_some_iff.1 hx).1
  obtain ⟨a, b, c⟩ := rfC_at hx
  rcases h.row.2 with ⟨-, e⟩ | ⟨g, cap, cur, e, hg, hh, h1, h2, h3, h4⟩
  · omega
  · have hown : w.ownsRow 0 44 3 (.slice (some ⟨g, 0, none⟩) l.length cap) l.length (rfC l) := by rw [← e]; exact h.row
    refine ⟨g, cap, e, (hown.cellAt (i * 3) (by omega)).trans a, (hown.cellAt (i * 3 + 1) (by omega)).trans b, (hown.cellAt (i * 3 + 2) (by omega)).trans c, fun j => by simp [World.frozen?, hh]⟩
end
/-- what an operation of the document's leaves: the file system S, in its own blocks or new ones -/
def RPost (w : World) (q : Nat) (S : Fsp.Fs) (Q : Nat → Prop) (w' : World) : Prop := (∃ v l, RefX w' q S (Grow Q w w') v l) ∧ Turn Q w w'
theorem RefX.post {w w' : World} {q : Nat} {S : Fsp.Fs} {Q : Nat → Prop} {v : Value} {l : List RF} (h : RefX w q S Q v l) (ht : Turn (fun _ => False) w w') : RPost w q S Q w' :=
  ⟨⟨v, l, (h.same ht).mono (fun b hb => Or.inl hb) (fun b hb => by rcases hb with hb | hb; exact Nat.lt_of_lt_of_le (h.lt b hb) ht.size; exact hb.2)⟩, ht.mono fun _ q => q.elim⟩
end Go.Proofs.Ytpaekggmphahoaa
