/-
  PARTS: BMem, BNum, BTrim, BCmp, BAdd, BOps, BOf, BRow.
-/
import Derived.Test.YtopklnaahdjafaaGreatDoorGPl
import Derived.Test.YtopklnaahdjafaaGreatDoorNBase
import Derived.Maps.AppendAt
import Derived.Laws.AppendOwnNone
import Derived.Lib.Hide
import Derived.LoopTactic
import Derived.Deep.RegionHeld3
import Derived.Deep.OwnRows
/-
  Digits in memory; digits behind digits.
-/
namespace Go.Proofs.YtopklnaahdjafaaGreatDoor
open Go.RowKit Go.Maps Go.WideMaps

def dgV (x : Nat) : Value := .int .i64 (x : Int)
theorem infoInt : (Tryz.prog.info? 3).map (fun i => (i.zero, i.size, i.bytes)) = some (some (.int .i64 0), 1, 8) := by kernel_rfl

/-- v reads as these digits; nothing lies ahead of them in their block -/
def NatsR (w : World) (v : Value) (l : List Nat) : Prop :=
  (v = .slice none 0 0 ∧ l = []) ∨ ∃ g cap, v = .slice (some ⟨g, 0, none⟩) l.length cap ∧ l.length ≤ cap ∧ cap ≤ 9223372036854775807 ∧ ∀ j x, l[j]? = some x → w.cell? ⟨g, j, none⟩ = some (dgV x)

/-- the digits are ours: behind base -/
def NatsO (w : World) (base : Nat) (v : Value) (l : List Nat) : Prop := w.ownsRow base 3 1 v l.length (l.map dgV)

section
variable {w w' : World}

theorem NatsR.only {v : Value} {l : List Nat} (h : NatsR w v l) (t : Only w w') : NatsR w' v l := by
  rcases h with h | ⟨g, cap, h1, h2, h3, h4⟩
  · exact Or.inl h
  · exact Or.inr ⟨g, cap, h1, h2, h3, fun j x hj => by
      have k := h4 j x hj
      have hb := World.block_lt_of_cell? w _ k
      exact (Below.cell t (p := ⟨g, j, none⟩) hb).trans k⟩

theorem NatsO.toR {base : Nat} {v : Value} {l : List Nat} (h : NatsO w base v l) : NatsR w v l := by
  have h' := h
  rcases h.2 with ⟨hv, hn⟩ | ⟨g, cap, cur, hv, hg, hh, h1, h2, h3, h4⟩
  · exact Or.inl ⟨hv, List.length_eq_zero_iff.1 hn⟩
  · refine Or.inr ⟨g, cap, hv, h1, ?_, fun j x hj => ?_⟩
    · unfold maxLen at *; omega
    · have hown : w.ownsRow base 3 1 (.slice (some ⟨g, 0, none⟩) l.length cap) l.length (l.map dgV) := by rw [← hv]; exact h
      have hlt : j < l.length := (List.getElem?_eq_some_iff.1 hj).1
      have := hown.cellAt j (by omega)
      rw [this, List.getElem?_map, hj]; rfl

theorem append_nats {ops : Array Oper} {rest : List Oper} {o : Oper} {a : Act} {Qx : Exit → Act → World → Prop} (hgd : o.guard = none) (s x : Operand)
    (ho : o.op = .call { callee := .builtin .append, args := #[s, x], argTypes := #[24, 24] }) {base : Nat} {v u : Value} {l m : List Nat} (hs : a.eval s = v) (hx : a.eval x = u)
    (hl : NatsO w base v l) (hm : NatsR w u m) (hn : l.length + m.length ≤ 1000000000) (hbase : base ≤ w.heap.size)
    (h : ∀ sp cap w', NatsO w' base (.slice sp (l ++ m).length cap) (l ++ m) → Below base w w' → w.heap.size ≤ w'.heap.size → wpList Tryz.prog ops Qx rest (a.put o.dst (.slice sp (l ++ m).length cap)) w') :
    wpList Tryz.prog ops Qx (o :: rest) a w := by
  obtain ⟨i0, hi, hz0, hz1, hz2⟩ := info_parts infoInt
  have hown : ∀ r, v.ownBlock = some r → base ≤ r := fun r hr => by
    rcases hl.2 with ⟨rfl, _⟩ | ⟨g, cap, cur, rfl, hg, _⟩
    · cases hr
    · simp [Value.ownBlock] at hr; omega
  have shape : ∃ sp cap, v = .slice sp l.length cap := by
    rcases hl.2 with ⟨h1, h2⟩ | ⟨g, cap, cur, h1, _⟩
    · exact ⟨none, 0, by rw [h1, h2]⟩
    · exact ⟨_, _, h1⟩
  rcases hm with ⟨rfl, rfl⟩ | ⟨g, cap, rfl, hlc, hcap, hc⟩
  · obtain ⟨sp2, cap2, hv⟩ := shape
    refine wpList_append_own_none hgd s x 24 ho base 3 i0 1 Tryz.underlying24 hi v l.length _ hs hl hx ?_
    have h2 := h sp2 cap2 w (by rw [List.append_nil, ← hv]; exact hl) (Below.refl _ _) (Nat.le_refl _)
    rw [List.append_nil, ← hv] at h2
    exact h2
  · refine wpList_append_own_at w hgd s x 24 ho base 3 i0 (.int .i64 0) 1 8 Tryz.underlying24 hi hz0 hz1 hz2 rfl (by decide) v l.length _ hs hl ⟨g, 0, none⟩ m.length cap (m.map dgV) hx (by simp) (fun j y hj => ?_) (fun y hy => ?_) (by unfold maxLen; omega) (by omega) hbase ?_
    · rw [List.getElem?_map] at hj
      obtain ⟨z, hz, rfl⟩ := Option.map_eq_some_iff.1 hj
      rw [show (⟨g, 0, none⟩ : Addr).add j = ⟨g, j, none⟩ by unfold Addr.add; split <;> simp_all]
      exact hc j z hz
    · obtain ⟨z, _, rfl⟩ := List.mem_map.1 hy
      rfl
    · intro v' w2 hown' hg _ _
      have hown2 : NatsO w2 base v' (l ++ m) := by unfold NatsO; rw [List.length_append, List.map_append]; exact hown'
      have shape2 : ∃ sp cap, v' = .slice sp (l ++ m).length cap := by
        rcases hown2.2 with ⟨h1, h2⟩ | ⟨g, cap, cur, h1, _⟩
        · exact ⟨none, 0, by rw [h1, h2]⟩
        · exact ⟨_, _, h1⟩
      obtain ⟨sp4, cap4, e4⟩ := shape2
      subst e4
      exact h sp4 cap4 w2 hown2 (Below.grown (Below.refl _ _) hg hbase (fun k e => hown k e)) hg.size

theorem empty_nats (w : World) : NatsO (w.alloc (.cells #[] 3)) w.heap.size (.slice (some ⟨w.heap.size, 0, none⟩) 0 0) [] :=
  ⟨by simp, Or.inr ⟨w.heap.size, 0, _, rfl, Nat.le_refl _, heap_alloc_new _ _, Nat.le_refl _, Nat.zero_le _, by simp, by simp⟩⟩
end
end Go.Proofs.YtopklnaahdjafaaGreatDoor

/-
  A number of the document's, in memory.
-/
namespace Go.Proofs.YtopklnaahdjafaaGreatDoor
open Go.RowKit Go.Maps Go.WideMaps

/-- sign and digits of n -/
def BigR (w : World) (b : Bool) (sp : Option Addr) (k cap : Nat) (n : Int) : Prop := b = decide (n < 0) ∧ ∃ l, NatsR w (.slice sp k cap) l ∧ Nm l n.natAbs
/-- a function answers the number n, and only makes memory -/
def BigSays (w : World) (n : Int) (e : Ending) (w' : World) : Prop := ∃ b sp k cap, e = .returned (.agg #[.bool b, .slice sp k cap]) ∧ BigR w' b sp k cap n ∧ Only w w'
/-- a row lies in memory made since -/
def Fresh (w : World) (sp : Option Addr) : Prop := ∀ a, sp = some a → w.heap.size ≤ a.block
theorem Fresh.of {w w0 : World} {sp : Option Addr} (h : Fresh w sp) (t : Only w0 w) : Fresh w0 sp := fun a e => Nat.le_trans t.size (h a e)
/-- a function answers the number n, in memory of its own, and only makes memory -/
def BigSaysF (w : World) (n : Int) (e : Ending) (w' : World) : Prop := ∃ b sp k cap, e = .returned (.agg #[.bool b, .slice sp k cap]) ∧ BigR w' b sp k cap n ∧ Fresh w sp ∧ Only w w'
theorem BigSaysF.plain {w w' : World} {n : Int} {e : Ending} (h : BigSaysF w n e w') : BigSays w n e w' := by
  obtain ⟨b, sp, k, cap, h1, h2, -, h3⟩ := h
  exact ⟨b, sp, k, cap, h1, h2, h3⟩
theorem NatsO.fresh {w w0 : World} {base : Nat} {sp : Option Addr} {k cap : Nat} {l : List Nat} (h : NatsO w base (.slice sp k cap) l) (hb : w0.heap.size ≤ base) : Fresh w0 sp := by
  intro a e
  rcases h.2 with ⟨hv, -⟩ | ⟨g, cap', cur, hv, hg, -⟩
  · simp at hv
    rw [hv.1] at e; cases e
  · simp at hv
    rw [hv.1] at e
    cases e
    exact Nat.le_trans hb hg
/-- a function answers digits that say n -/
def NatsSay (w : World) (K n : Nat) (e : Ending) (w' : World) : Prop := ∃ sp k cap l, e = .returned (.slice sp k cap) ∧ NatsR w' (.slice sp k cap) l ∧ Dg l ∧ bval l = n ∧ l.length ≤ K ∧ Only w w'
/-- the same, without 0 at the top -/
def NmSay (w : World) (n : Nat) (e : Ending) (w' : World) : Prop := ∃ sp k cap l, e = .returned (.slice sp k cap) ∧ NatsR w' (.slice sp k cap) l ∧ Nm l n ∧ Only w w'

theorem Only.cell {w w' : World} (t : Only w w') {b j : Nat} {v : Value} (h : w.cell? ⟨b, j, none⟩ = some v) : w'.cell? ⟨b, j, none⟩ = some v :=
  (Below.cell t (p := ⟨b, j, none⟩) (World.block_lt_of_cell? w _ h)).trans h

theorem BigR.only {w w' : World} {b : Bool} {sp : Option Addr} {k cap : Nat} {n : Int} (h : BigR w b sp k cap n) (t : Only w w') : BigR w' b sp k cap n := by
  obtain ⟨h1, l, h2, h3⟩ := h
  exact ⟨h1, l, h2.only t, h3⟩
theorem BigSays.before {w0 w : World} {n : Int} {e : Ending} {w' : World} (h : BigSays w n e w') (t : Only w0 w) : BigSays w0 n e w' := by
  obtain ⟨b, sp, k, cap, h1, h2, h3⟩ := h
  exact ⟨b, sp, k, cap, h1, h2, t.trans h3⟩

theorem Only.drewNB {a b : World} (h : Only a b) (n : Nat) : Only a (b.drewN n) := by
  induction n with
  | zero => exact h
  | succ n ih => exact ih.drew

theorem NatsR.form {w : World} {v : Value} {l : List Nat} (h : NatsR w v l) : ∃ sp cap, v = .slice sp l.length cap ∧ l.length ≤ cap ∧ cap ≤ 9223372036854775807 ∧ (∀ j x, l[j]? = some x → ∃ g, sp = some ⟨g, 0, none⟩ ∧ w.cell? ⟨g, j, none⟩ = some (dgV x)) := by
  rcases h with ⟨rfl, rfl⟩ | ⟨g, cap, rfl, h2, h3, h4⟩
  · exact ⟨none, 0, rfl, Nat.le_refl _, by omega, fun j x hj => by simp at hj⟩
  · exact ⟨some ⟨g, 0, none⟩, cap, rfl, h2, h3, fun j x hj => ⟨g, rfl, h4 j x hj⟩⟩

theorem NatsR.cut {w : World} {sp : Option Addr} {k cap : Nat} {l : List Nat} (h : NatsR w (.slice sp k cap) l) {n : Nat} (hn : n ≤ l.length) : NatsR w (.slice sp n cap) (l.take n) := by
  rcases h with ⟨h1, rfl⟩ | ⟨g, cap', h1, h2, h3, h4⟩
  · simp only [Value.slice.injEq] at h1
    obtain ⟨rfl, rfl, rfl⟩ := h1
    simp at hn; subst hn
    exact Or.inl ⟨rfl, rfl⟩
  · simp only [Value.slice.injEq] at h1
    obtain ⟨rfl, rfl, rfl⟩ := h1
    refine Or.inr ⟨g, cap, by rw [List.length_take, Nat.min_eq_left hn], by rw [List.length_take]; omega, h3, fun j x hj => h4 j x ?_⟩
    rw [List.getElem?_take] at hj
    split at hj
    · exact hj
    · cases hj

/-- the one digit that append takes -/
theorem one_nats (w : World) (x : Nat) : NatsR (w.alloc (.cells #[dgV x] 3)) (.slice (some ⟨w.heap.size, 0, none⟩) 1 1) [x] :=
  Or.inr ⟨w.heap.size, 1, rfl, Nat.le_refl _, by omega, fun j y hj => by
    rcases j with _ | j
    · simp at hj; subst hj; simp only [World.cell?]; rw [heap_alloc_new]; rfl
    · simp at hj⟩

theorem one_int (w : World) {e : Int} {n : Nat} (h : e = n) : NatsR (w.alloc (.cells #[.int .i64 e] 3)) (.slice (some ⟨w.heap.size, 0, none⟩) 1 1) [n] := by
  subst h; exact one_nats w n
theorem NatsO.form {w : World} {base : Nat} {v : Value} {l : List Nat} (h : NatsO w base v l) : ∃ sp cap, v = .slice sp l.length cap := by
  rcases h.2 with ⟨h1, h2⟩ | ⟨g, cap, cur, h1, _⟩
  · exact ⟨none, 0, by rw [h1, h2]⟩
  · exact ⟨_, _, h1⟩

theorem NatsO.nil (w : World) (base : Nat) : NatsO w base (.slice none 0 0) [] := World.ownsRow_nil _ _ _ _

theorem NatsO.only {w w' : World} {base : Nat} {v : Value} {l : List Nat} (h : NatsO w base v l) (t : Only w w') : NatsO w' base v l := by
  refine ⟨h.1, ?_⟩
  rcases h.2 with k | ⟨g, cap, cur, e1, hg, hh, r⟩
  · exact Or.inl k
  · exact Or.inr ⟨g, cap, cur, e1, hg, (t.block g (Array.getElem?_eq_some_iff.1 hh).1).trans hh, r⟩
theorem append_nats2 {w : World} {ops : Array Oper} {rest : List Oper} {o : Oper} {a : Act} {Qx : Exit → Act → World → Prop} (hgd : o.guard = none) (s x : Operand)
    (ho : o.op = .call { callee := .builtin .append, args := #[s, x], argTypes := #[24, 24] }) {base : Nat} {v u : Value} {l m r : List Nat} {k : Nat} (hs : a.eval s = v) (hx : a.eval x = u)
    (hl : NatsO w base v l) (hm : NatsR w u m) (hr : l ++ m = r) (hk : r.length = k) (hn : k ≤ 1000000000) (hbase : base ≤ w.heap.size)
    (h : ∀ sp cap w', NatsO w' base (.slice sp k cap) r → Below base w w' → w.heap.size ≤ w'.heap.size → wpList Tryz.prog ops Qx rest (a.put o.dst (.slice sp k cap)) w') :
    wpList Tryz.prog ops Qx (o :: rest) a w := by
  subst hr; subst hk
  exact append_nats hgd s x ho hs hx hl hm (by rw [← List.length_append]; exact hn) hbase h

theorem Only.below {w a b : World} {B : Nat} (h : Only w a) (k : Below B a b) (hB : w.heap.size ≤ B) : Only w b := Below.trans h (Below.mono k hB)
theorem Own2.belowN {w w' : World} {B b : Nat} {x y : Value} (h : Own2 w b x y) (k : Below B w w') (hB : b < B) : Own2 w' b x y := by
  obtain ⟨ty, h⟩ := h
  exact ⟨ty, (k.block b hB).trans h⟩
theorem NatsR.below {w w' : World} {B : Nat} {v : Value} {l : List Nat} (h : NatsR w v l) (k : Below B w w') (hB : ∀ g j x, w.cell? ⟨g, j, none⟩ = some x → v.ownBlock = some g → g < B) : NatsR w' v l := by
  rcases h with h | ⟨g, cap, h1, h2, h3, h4⟩
  · exact Or.inl h
  · refine Or.inr ⟨g, cap, h1, h2, h3, fun j x hj => ?_⟩
    have e := h4 j x hj
    have hb := hB g j _ e (by rw [h1]; rfl)
    exact (Below.cell k (p := ⟨g, j, none⟩) hb).trans e
theorem NatsO.far {w : World} {base p : Nat} {v : Value} {l : List Nat} (h : NatsO w base v l) (hp : p < base) (j : Nat) (u : Value) : NatsO (w.setCell ⟨p, j, none⟩ u) base v l := by
  refine ⟨h.1, ?_⟩
  rcases h.2 with k | ⟨g, cap, cur, e1, hg, hh, r⟩
  · exact Or.inl k
  · exact Or.inr ⟨g, cap, cur, e1, hg, (heap_setCell_other (by omega) u).trans hh, r⟩
/-- what was there before a block was laid stands below it -/
theorem NatsR.old {w w' W : World} {B : Nat} {v : Value} {l : List Nat} (h : NatsR w v l) (t : Only w W) (k : Below B W w') (hB : w.heap.size ≤ B) : NatsR w' v l :=
  h.only (t.below k hB)

/-- digits are no number's box -/
theorem NatsR.apart {w : World} {v : Value} {l : List Nat} (h : NatsR w v l) {R : Nat} {b : Bool} {s : Option Addr} {k c : Nat} (o : Own2 w R (.bool b) (.slice s k c)) (b' : Bool) (s' : Option Addr) (k' c' : Nat) :
    NatsR ((w.setCell ⟨R, 0, none⟩ (.bool b')).setCell ⟨R, 1, none⟩ (.slice s' k' c')) v l := by
  rcases h with h | ⟨g, cap, h1, h2, h3, h4⟩
  · exact Or.inl h
  · refine Or.inr ⟨g, cap, h1, h2, h3, fun j x hj => ?_⟩
    have e := h4 j x hj
    have hne : g ≠ R := by
      rintro rfl
      obtain ⟨ty, hc⟩ := o
      simp only [World.cell?, hc] at e
      rcases j with _ | _ | j
      · simp [dgV] at e
      · simp [dgV] at e
      · simp at e
    rw [World.cell?_of_block (heap_setCell_other hne _), World.cell?_of_block (heap_setCell_other hne _)]
    exact e
theorem BigR.apart {w : World} {b0 : Bool} {sp : Option Addr} {k0 cap : Nat} {n : Int} (h : BigR w b0 sp k0 cap n) {R : Nat} {b : Bool} {s : Option Addr} {k c : Nat} (o : Own2 w R (.bool b) (.slice s k c)) (b' : Bool) (s' : Option Addr) (k' c' : Nat) :
    BigR ((w.setCell ⟨R, 0, none⟩ (.bool b')).setCell ⟨R, 1, none⟩ (.slice s' k' c')) b0 sp k0 cap n := by
  obtain ⟨h1, l, h2, h3⟩ := h
  exact ⟨h1, l, h2.apart o _ _ _ _, h3⟩

/-- a number's box: its block, what it holds -/
abbrev BigAt (w : World) (R : Nat) (b : Bool) (s : Option Addr) (k c : Nat) : Prop := Own2 w R (.bool b) (.slice s k c)
/-- an empty box -/
abbrev box0 : Obj := .cells #[.bool false, .slice none 0 0] 34
abbrev boxOf (b : Bool) (s : Option Addr) (k c : Nat) : Obj := .cells #[.bool b, .slice s k c] 34

/-- three boxes laid -/
theorem boxes3 (w : World) (b1 b2 : Bool) (s1 s2 : Option Addr) (k1 c1 k2 c2 : Nat) :
    Only w (((w.alloc (boxOf b1 s1 k1 c1)).alloc (boxOf b2 s2 k2 c2)).alloc box0) ∧ BigAt (((w.alloc (boxOf b1 s1 k1 c1)).alloc (boxOf b2 s2 k2 c2)).alloc box0) w.heap.size b1 s1 k1 c1 ∧
      BigAt (((w.alloc (boxOf b1 s1 k1 c1)).alloc (boxOf b2 s2 k2 c2)).alloc box0) (w.heap.size + 1) b2 s2 k2 c2 ∧ BigAt (((w.alloc (boxOf b1 s1 k1 c1)).alloc (boxOf b2 s2 k2 c2)).alloc box0) (w.heap.size + 1 + 1) false none 0 0 :=
  ⟨(((Only.refl w).alloc _).alloc _).alloc _, ((Own2.new w _ _ _).alloc _).alloc _, (Own2.new1 w _ _ _ _).alloc _, Own2.new2 w _ _ _ _ _⟩
theorem boxes2 (w : World) (b1 b2 : Bool) (s1 s2 : Option Addr) (k1 c1 k2 c2 : Nat) :
    Only w ((w.alloc (boxOf b1 s1 k1 c1)).alloc (boxOf b2 s2 k2 c2)) ∧ BigAt ((w.alloc (boxOf b1 s1 k1 c1)).alloc (boxOf b2 s2 k2 c2)) w.heap.size b1 s1 k1 c1 ∧
      BigAt ((w.alloc (boxOf b1 s1 k1 c1)).alloc (boxOf b2 s2 k2 c2)) (w.heap.size + 1) b2 s2 k2 c2 :=
  ⟨((Only.refl w).alloc _).alloc _, (Own2.new w _ _ _).alloc _, Own2.new1 w _ _ _ _⟩
theorem boxes11 (w : World) (b1 : Bool) (s1 : Option Addr) (k1 c1 : Nat) :
    Only w ((w.alloc (boxOf b1 s1 k1 c1)).alloc box0) ∧ BigAt ((w.alloc (boxOf b1 s1 k1 c1)).alloc box0) w.heap.size b1 s1 k1 c1 ∧ BigAt ((w.alloc (boxOf b1 s1 k1 c1)).alloc box0) (w.heap.size + 1) false none 0 0 :=
  boxes2 w b1 false s1 none k1 c1 0 0

/-- append, as one step of a region that draws its order -/
theorem step_nats {w : World} {ops : Array Oper} {o : Oper} {a : Act} {K : Act → World → Prop} {Qx : Exit → Act → World → Prop} {E : Prop} (hgd : o.guard = none) (s x : Operand)
    (ho : o.op = .call { callee := .builtin .append, args := #[s, x], argTypes := #[24, 24] }) {base : Nat} {v u : Value} {l m r : List Nat} {k : Nat} (hs : a.eval s = v) (hx : a.eval x = u)
    (hl : NatsO w base v l) (hm : NatsR w u m) (hr : l ++ m = r) (hk : r.length = k) (hn : k ≤ 1000000000) (hbase : base ≤ w.heap.size)
    (h : ∀ sp cap w', NatsO w' base (.slice sp k cap) r → Below base w w' → w.heap.size ≤ w'.heap.size → K (a.put o.dst (.slice sp k cap)) w') :
    if Region.wanted o (yielded ops a.tmps) = true then Oper.wp Tryz.prog o a w K Qx else E := by
  have hw : Region.wanted o (yielded ops a.tmps) = true := by simp [Region.wanted, hgd]
  rw [if_pos hw]
  subst hr; subst hk
  obtain ⟨i0, hi, hz0, hz1, hz2⟩ := info_parts infoInt
  have hown : ∀ r, v.ownBlock = some r → base ≤ r := fun r hr => by
    rcases hl.2 with ⟨rfl, _⟩ | ⟨g, cap, cur, rfl, hg, _⟩
    · cases hr
    · simp [Value.ownBlock] at hr; omega
  rw [List.length_append] at hn h
  rcases hm with ⟨rfl, rfl⟩ | ⟨g, cap, rfl, hlc, hcap, hc⟩
  · obtain ⟨sp2, cap2, hv⟩ := hl.form
    have hrun := run_append_owned_none (P := Tryz.prog) (w := w) base 24 o.type 3 i0 1 Tryz.underlying24 hi v l.length _ hl
    unfold Oper.wp
    simp [execOp, ho, resolve, invoke, builtin, hs, hx, hrun, Result.andThen]
    have h2 := h sp2 cap2 w (by rw [List.append_nil, List.length_nil, Nat.add_zero, ← hv]; exact hl) (Below.refl _ _) (Nat.le_refl _)
    rw [List.length_nil, Nat.add_zero, ← hv] at h2
    exact h2
  · obtain ⟨v', w2, hrun, hown', hg, -, -⟩ := run_append_own_at (P := Tryz.prog) (w := w) base 24 o.type 3 i0 (.int .i64 0) 1 8 Tryz.underlying24 hi hz0 hz1 hz2 rfl (by decide) v l.length _ hl ⟨g, 0, none⟩ m.length cap (m.map dgV) (by simp) (fun j y hj => by
      rw [List.getElem?_map] at hj
      obtain ⟨z, hz, rfl⟩ := Option.map_eq_some_iff.1 hj
      rw [show (⟨g, 0, none⟩ : Addr).add j = ⟨g, j, none⟩ by unfold Addr.add; split <;> simp_all]
      exact hc j z hz) (fun y hy => by
      obtain ⟨z, _, rfl⟩ := List.mem_map.1 hy
      rfl) (by unfold maxLen; omega) (by omega) hbase
    unfold Oper.wp
    simp [execOp, ho, resolve, invoke, builtin, hs, hx, hrun, Result.andThen]
    have hown2 : NatsO w2 base v' (l ++ m) := by unfold NatsO; rw [List.length_append, List.map_append]; exact hown'
    obtain ⟨sp4, cap4, e4⟩ := hown2.form
    rw [List.length_append] at e4
    subst e4
    exact h sp4 cap4 w2 hown2 (Below.grown (Below.refl _ _) hg hbase (fun k e => hown k e)) hg.size
end Go.Proofs.YtopklnaahdjafaaGreatDoor

/-
  Without 0 at the top.
-/
namespace Go.Proofs.YtopklnaahdjafaaGreatDoor
open Go.RowKit Go.Maps Go.WideMaps

/-- what the loop keeps: n digits stand, and say all -/
def Stands (l : List Nat) (n : Nat) : Prop := n ≤ l.length ∧ bval (l.take n) = bval l

theorem Stands.start (l : List Nat) : Stands l l.length := ⟨Nat.le_refl _, by rw [List.take_length]⟩
theorem Stands.next {l : List Nat} {n : Nat} (h : Stands l (n + 1)) (hz : l[n]'(by have := h.1; omega) = 0) : Stands l n := by
  have := h.1
  exact ⟨by omega, bval_strip (by omega) hz h.2⟩
theorem Stands.top {l : List Nat} {n : Nat} (h : Stands l n) (hz : ∀ (hn : 0 < n), l[n - 1]'(by have := h.1; omega) ≠ 0) : Top (l.take n) := fun d hd => by
  have h1 := h.1
  rcases Nat.eq_zero_or_pos n with rfl | hn
  · simp at hd
  · rw [List.getLast?_eq_getElem?, List.length_take, Nat.min_eq_left h1, List.getElem?_take_of_lt (by omega), List.getElem?_eq_getElem (by omega)] at hd
    have := hz hn
    simp only [Option.some.injEq] at hd
    rw [← hd]; exact this

/-- the number that a sign and digits say -/
def sgn (neg : Bool) (n : Nat) : Int := if neg then -(n : Int) else n
theorem sgn_abs (neg : Bool) (n : Nat) : (sgn neg n).natAbs = n := by unfold sgn; split <;> omega
theorem sgn_neg {neg : Bool} {n : Nat} (h : 0 < n) : decide (sgn neg n < 0) = neg := by unfold sgn; cases neg <;> simp <;> omega
theorem sgn_zero (neg : Bool) : sgn neg 0 = 0 := by unfold sgn; split <;> rfl

/-- the end of trim -/
theorem trim_done {w w' : World} {neg : Bool} {l : List Nat} {n : Nat} (hd : Dg l) (hs : Stands l n) (hz : ∀ (hn : 0 < n), l[n - 1]'(by have := hs.1; omega) ≠ 0) {b : Bool} (hb : b = (neg && decide (0 < n))) {sp : Option Addr} {k cap : Nat} (hr : NatsR w' (.slice sp k cap) (l.take n)) (t : Only w w') (hf : Fresh w sp) :
    BigSaysF w (sgn neg (bval l)) (.returned (.agg #[.bool b, .slice sp k cap])) w' := by
  have hn : Nm (l.take n) (bval l) := ⟨hd.take n, hs.top hz, hs.2⟩
  refine ⟨b, sp, k, cap, rfl, ⟨?_, l.take n, hr, by rw [sgn_abs]; exact hn⟩, hf, t⟩
  rw [hb]
  rcases Nat.eq_zero_or_pos n with rfl | hp
  · have e : bval l = 0 := by rw [← hs.2]; rfl
    rw [e, sgn_zero]; simp
  · have : 0 < bval l := hn.pos (by intro e; have := congrArg List.length e; rw [List.length_take, Nat.min_eq_left hs.1] at this; simp at this; omega)
    rw [sgn_neg this]; simp [hp]

/-- the number's box, and what append leaves -/
theorem trim_nats {w : World} {v : Value} {m : List Nat} (h : NatsR w v m) (o p : Obj) : NatsR ((w.alloc o).alloc p) v m := h.only (((Only.refl w).alloc _).alloc _)
theorem trim_own (w : World) (o : Obj) : NatsO ((w.alloc o).alloc (.cells #[] 3)) (w.heap.size + 1) (.slice (some ⟨w.heap.size + 1, 0, none⟩) 0 0) [] := by
  have := empty_nats (w.alloc o)
  simpa using this

theorem trim_w {w w4 : World} (hb : Below (w.heap.size + 1) ((w.alloc (.cells #[.bool false, .slice none 0 0] 34)).alloc (.cells #[] 3)) w4) : Own2 w4 w.heap.size (.bool false) (.slice none 0 0) ∧ Only w w4 :=
  ⟨((Own2.new w _ _ 34).alloc _).belowN hb (by omega), (((Only.refl w).alloc _).alloc _).below hb (by omega)⟩

set_option maxHeartbeats 1600000 in
theorem trim_nil {neg : Bool} {w : World} : Calls Tryz.prog 49 #[.bool neg, .slice none 0 0] w (BigSaysF w (sgn neg 0)) := by
  have HO := trim_own w (.cells #[.bool false, .slice none 0 0] 34)
  have HR := trim_nats (Or.inl ⟨rfl, rfl⟩ : NatsR w (.slice none 0 0) []) (.cells #[.bool false, .slice none 0 0] 34) (.cells #[] 3)
  have HO := Lib.hid HO
  have HR := Lib.hid HR
  cases neg
  all_goals
    go_enter Tryz.func49, Tryz.ntmps49
    go_wp2_with fail
    refine wp_loop_rounds 1 ?_
    rw [rounds_succ]
    go_wp2_with (at_builtin; refine append_nats2 rfl (.tmp 25) (.tmp 28) rfl (base := w.heap.size + 1) rfl rfl HO.out HR.out (List.nil_append _) rfl (by decide) (by simp) ?_)
    intro sp4 cap4 w4 hown hb hs
    obtain ⟨o4, t4⟩ := trim_w hb
    have HW := Lib.hid hown
    have T4 := Lib.hid t4
    have OO := Lib.hid o4
    obtain ⟨ca, cb, fa, fb, z⟩ := o4.all
    clear hown hb t4 hs o4
    go_wp2
    simp [bodyPost, results, Tryz.results49, go_sem, World.cell?_setCell_other, ca, cb]
    exact trim_done (w := w) (l := []) (n := 0) Dg.nil (Stands.start []) (fun h => absurd h (by decide)) (by simp) ((HW.out.far (by omega) 0 _).far (by omega) 1 _).toR ((T4.out.set (Nat.le_refl _) 0 _).set (Nat.le_refl _) 1 _) (HW.out.fresh (by omega))

set_option maxHeartbeats 1600000 in
theorem trim_some {neg : Bool} {g cap : Nat} {l : List Nat} {w : World} (h : NatsR w (.slice (some ⟨g, 0, none⟩) l.length cap) l) (hd : Dg l) (hl : l.length ≤ 100000) :
    Calls Tryz.prog 49 #[.bool neg, .slice (some ⟨g, 0, none⟩) l.length cap] w (BigSaysF w (sgn neg (bval l))) := by
  obtain ⟨sp, cap', e0, h2, h3, h5⟩ := h.form
  simp only [Value.slice.injEq] at e0
  obtain ⟨rfl, -, rfl⟩ := e0
  have H := Lib.hid h
  have H5 := Lib.hid h5
  have HD := Lib.hid hd
  have i9 : (l.length : Int) ≤ 100000 := by omega
  have HO := trim_own w (.cells #[.bool false, .slice none 0 0] 34)
  have HO := Lib.hid HO
  clear h h5 hd
  go_enter Tryz.func49, Tryz.ntmps49
  go_wp2_with fail
  obtain ⟨N, hN⟩ : ∃ N, N = l.length := ⟨_, rfl⟩
  have HN := Lib.hid hN
  clear hN
  go_loop [5] (fun i => ∃ n : Nat, i = .int .i64 n ∧ Stands l n) (fun i => (intOf i).toNat)
  case atStart => exact ⟨l.length, rfl, Stands.start l⟩
  case round =>
    obtain ⟨n, rfl, hs⟩ := hrel
    have hle := hs.1
    have hnN : (n : Int) ≤ l.length := by omega
    have HS := Lib.hid hs
    have HLE := Lib.hid hle
    have hcap : (n : Int) ≤ cap := by omega
    have HR := trim_nats (H.out.cut hle) (.cells #[.bool false, .slice none 0 0] 34) (.cells #[] 3)
    have HR := Lib.hid HR
    clear hs hle
    rcases Nat.eq_zero_or_pos n with h0 | hpos
    · have t0 : decide (0 < n) = false := by simp; omega
      have t1 : decide ((0 : Int) < (n : Int)) = false := by simp; omega
      have H0 := Lib.hid h0
      clear h0
      cases neg
      all_goals
        go_wp2_with (at_builtin; refine append_nats2 rfl (.tmp 25) (.tmp 28) rfl (base := w.heap.size + 1) rfl rfl HO.out HR.out (List.nil_append _) (by rw [List.length_take, Nat.min_eq_left HLE.out]) (by omega) (by simp) ?_)
        intro sp4 cap4 w4 hown hb hs
        obtain ⟨o4, t4⟩ := trim_w hb
        have HW := Lib.hid hown
        have T4 := Lib.hid t4
        have OO := Lib.hid o4
        obtain ⟨ca, cb, fa, fb, z⟩ := o4.all
        clear hown hb t4 hs o4
        go_wp2
        simp [bodyPost, results, Tryz.results49, go_sem, World.cell?_setCell_other, ca, cb]
        exact trim_done (w := w) (l := l) (n := n) HD.out HS.out (fun h => absurd h (by have := H0.out; omega)) (by simp [H0.out]) ((HW.out.far (by omega) 0 _).far (by omega) 1 _).toR ((T4.out.set (Nat.le_refl _) 0 _).set (Nat.le_refl _) 1 _) (HW.out.fresh (by omega))
    · obtain ⟨k, rfl⟩ : ∃ k, n = k + 1 := ⟨n - 1, by omega⟩
      have hk : k < l.length := by have := HLE.out; omega
      obtain ⟨g, e1, c1⟩ := H5.out k l[k] (List.getElem?_eq_getElem hk)
      simp only [Option.some.injEq, Addr.mk.injEq, and_true] at e1
      subst e1
      have c1 := ((Only.refl w).alloc (.cells #[.bool false, .slice none 0 0] 34)).cell c1
      unfold dgV at c1
      have i0 : (0 : Int) ≤ (k : Int) := by omega
      have i1 : (k : Int) < (l.length : Int) := by omega
      have hnx := fun h => HS.out.next (n := k) h
      obtain ⟨x, hx⟩ : ∃ x, x = l[k] := ⟨_, rfl⟩
      rw [← hx] at c1 hnx
      have NX := Lib.hid hnx
      clear hnx hpos
      by_cases hz : x = 0
      · have t1 : ((x : Int) == 0) = true := by simp; omega
        have HZ := Lib.hid hz
        clear hz hx
        go_wp2_with fail
        go_round
        case rel => exact ⟨k, by go_num, NX.out HZ.out⟩
        case measure => simp [intOf]
      · have t1 : ((x : Int) == 0) = false := by simp; omega
        have HZ := Lib.hid hz
        have HX := Lib.hid hx
        clear hz hx
        cases neg
        all_goals
          go_wp2_with (at_builtin; refine append_nats2 rfl (.tmp 25) (.tmp 28) rfl (base := w.heap.size + 1) rfl rfl HO.out HR.out (List.nil_append _) (by rw [List.length_take, Nat.min_eq_left HLE.out]) (by omega) (by simp) ?_)
          intro sp4 cap4 w4 hown hb hs
          obtain ⟨o4, t4⟩ := trim_w hb
          have HW := Lib.hid hown
          have T4 := Lib.hid t4
          have OO := Lib.hid o4
          obtain ⟨ca, cb, fa, fb, z⟩ := o4.all
          clear hown hb t4 hs o4
          go_wp2
          simp [bodyPost, results, Tryz.results49, go_sem, World.cell?_setCell_other, ca, cb]
          exact trim_done (w := w) (l := l) (n := (k + 1)) HD.out HS.out (fun _ => by have e := HX.out; intro e2; exact HZ.out (by rw [e]; exact e2)) (by simp) ((HW.out.far (by omega) 0 _).far (by omega) 1 _).toR ((T4.out.set (Nat.le_refl _) 0 _).set (Nat.le_refl _) 1 _) (HW.out.fresh (by omega))

theorem trimF_any {neg : Bool} {v : Value} {l : List Nat} {w : World} (h : NatsR w v l) (hd : Dg l) (hl : l.length ≤ 100000) :
    Calls Tryz.prog 49 #[.bool neg, v] w (BigSaysF w (sgn neg (bval l))) := by
  rcases h with ⟨rfl, rfl⟩ | ⟨g, cap, rfl, h2, h3, h4⟩
  · exact trim_nil
  · exact trim_some (Or.inr ⟨g, cap, rfl, h2, h3, h4⟩) hd hl
theorem trim_any {neg : Bool} {v : Value} {l : List Nat} {w : World} (h : NatsR w v l) (hd : Dg l) (hl : l.length ≤ 100000) :
    Calls Tryz.prog 49 #[.bool neg, v] w (BigSays w (sgn neg (bval l))) :=
  (trimF_any h hd hl).mono fun _ _ h => h.plain
end Go.Proofs.YtopklnaahdjafaaGreatDoor

/-
  Digits compared.
-/
namespace Go.Proofs.YtopklnaahdjafaaGreatDoor
open Go.RowKit Go.Maps Go.WideMaps

set_option maxHeartbeats 1600000 in
theorem cmpD_any {va vb : Value} {a b : List Nat} {n m : Nat} {w : World} (ha : NatsR w va a) (hb : NatsR w vb b) (na : Nm a n) (nb : Nm b m) (la : a.length ≤ 100000) (_lb : b.length ≤ 100000) :
    Calls Tryz.prog 50 #[va, vb] w fun e w' => e = .returned (.int .i64 (cmpN n m)) ∧ Only w w' := by
  obtain ⟨sa, ca, rfl, a2, a3, a5⟩ := ha.form
  obtain ⟨sb, cb, rfl, b2, b3, b5⟩ := hb.form
  have HA := Lib.hid a5
  have HB := Lib.hid b5
  have NA := Lib.hid na
  have NB := Lib.hid nb
  clear ha hb a5 b5 na nb
  rcases Nat.lt_trichotomy a.length b.length with hlt | heq | hgt
  · have t1 : ((a.length : Int) != (b.length : Int)) = true := by rw [bne_iff_ne]; omega
    have t2 : decide (a.length < b.length) = true := by simpa using hlt
    have t3 : (a.length != b.length) = true := by rw [bne_iff_ne]; omega
    have t4 : decide ((a.length : Int) < b.length) = true := by simp; omega
    go_enter Tryz.func50, Tryz.ntmps50
    go_wp2
    go_ret
    refine ⟨?_, Only.refl _⟩
    rw [← NA.out.eq, ← NB.out.eq, cmp_shorter NA.out.dg NB.out.top hlt]; rfl
  · have t1 : ((a.length : Int) != (b.length : Int)) = false := by rw [bne_eq_false_iff_eq]; omega
    have HE := Lib.hid heq
    have t3 : (a.length != b.length) = false := by rw [bne_eq_false_iff_eq]; omega
    clear heq
    go_enter Tryz.func50, Tryz.ntmps50
    go_wp2_with fail
    go_loopw [5] (fun i wr => ∃ (k : Nat) (q : Int), k ≤ a.length ∧ q = (k : Int) - 1 ∧ i = .int .i64 q ∧ a.drop k = b.drop k ∧ Only w wr) (fun i _ => (intOf i + 1).toNat)
    case atStart => exact ⟨a.length, (a.length : Int) - 1, Nat.le_refl _, rfl, rfl, by rw [List.drop_length, HE.out, List.drop_length], Only.refl _⟩
    case round =>
      obtain ⟨k, q, hk, hq, rfl, hd, ht⟩ := hrel
      have HT := Lib.hid ht
      have HD := Lib.hid hd
      clear ht hd
      rcases Nat.eq_zero_or_pos k with rfl | hpos
      · have i1 : ¬ (0 : Int) ≤ q := by omega
        clear hq
        go_wp2
        go_ret
        refine ⟨?_, HT.out⟩
        have e : a = b := by simpa using HD.out
        rw [← NA.out.eq, ← NB.out.eq, e, cmpN_eq]; rfl
      · obtain ⟨j, rfl⟩ : ∃ j, k = j + 1 := ⟨k - 1, by omega⟩
        have hj : j < a.length := by omega
        have hjb : j < b.length := by have := HE.out; omega
        obtain ⟨g, e1, c1⟩ := HA.out j a[j] (List.getElem?_eq_getElem hj)
        obtain ⟨g2, e2, c2⟩ := HB.out j b[j] (List.getElem?_eq_getElem hjb)
        subst e1; subst e2
        replace c1 := HT.out.cell c1
        replace c2 := HT.out.cell c2
        have hqj : q = (j : Int) := by omega
        subst hqj
        unfold dgV at c1 c2
        have hlow := fun h => cmp_low NA.out.dg NB.out.dg HE.out hj HD.out h
        have hhigh := fun h => cmp_high NA.out.dg NB.out.dg HE.out hj HD.out h
        have hstep := drop_step hj hjb HD.out
        obtain ⟨x, hx⟩ : ∃ x, x = a[j] := ⟨_, rfl⟩
        obtain ⟨y, hy⟩ : ∃ y, y = b[j] := ⟨_, rfl⟩
        rw [← hx, ← hy] at hlow hhigh hstep
        rw [← hx] at c1
        rw [← hy] at c2
        have LO := Lib.hid hlow
        have HI := Lib.hid hhigh
        have ST := Lib.hid hstep
        have i0 : (0 : Int) ≤ (j : Int) := by omega
        have i1 : (j : Int) < (a.length : Int) := by omega
        have i2 : (j : Int) < (b.length : Int) := by omega
        clear hlow hhigh hstep hx hy hq hpos
        rcases Nat.lt_trichotomy x y with hlt | hxy | hgt
        · have t1 : decide (x < y) = true := by simpa using hlt
          have HX := Lib.hid hlt
          clear hlt
          go_wp2_with fail
          go_quiet (fail)
          go_wp2
          go_ret
          refine ⟨?_, HT.out.drewNB _⟩
          rw [← NA.out.eq, ← NB.out.eq, LO.out HX.out]; rfl
        · have t1 : decide (x < y) = false := by simp; omega
          have t2 : decide (y < x) = false := by simp; omega
          have HX := Lib.hid hxy
          clear hxy
          go_wp2_with fail
          go_quiet (fail)
          go_wp2_with fail
          go_quiet (fail)
          go_wp2
          go_roundw
          case rel => exact ⟨j, (j : Int) - 1, by omega, rfl, by go_num, ST.out HX.out, HT.out.drewNB _⟩
          case measure => simp [intOf]
        · have t1 : decide (x < y) = false := by simp; omega
          have t2 : decide (y < x) = true := by simp; omega
          have HX := Lib.hid hgt
          clear hgt
          go_wp2_with fail
          go_quiet (fail)
          go_wp2_with fail
          go_quiet (fail)
          go_wp2
          go_ret
          refine ⟨?_, (HT.out.drewNB _).drewNB _⟩
          rw [← NA.out.eq, ← NB.out.eq, HI.out HX.out]; rfl
  · have t1 : ((a.length : Int) != (b.length : Int)) = true := by rw [bne_iff_ne]; omega
    have t2 : decide (a.length < b.length) = false := by simp; omega
    have t3 : (a.length != b.length) = true := by rw [bne_iff_ne]; omega
    have t4 : decide ((a.length : Int) < b.length) = false := by simp; omega
    go_enter Tryz.func50, Tryz.ntmps50
    go_wp2
    go_ret
    refine ⟨?_, Only.refl _⟩
    rw [← NA.out.eq, ← NB.out.eq, cmp_longer NA.out.top NB.out.dg hgt]; rfl
end Go.Proofs.YtopklnaahdjafaaGreatDoor

/-
  Digits added, and taken off.
-/
namespace Go.Proofs.YtopklnaahdjafaaGreatDoor
open Go.RowKit Go.Maps Go.WideMaps

set_option maxRecDepth 100000 in
set_option maxHeartbeats 3200000 in
theorem addN_any {va vb : Value} {a b : List Nat} {n m : Nat} {w : World} (ha : NatsR w va a) (hb : NatsR w vb b) (na : Nm a n) (nb : Nm b m) (la : a.length ≤ 100000) (lb : b.length ≤ 100000) :
    Calls Tryz.prog 82 #[va, vb] w (NmSay w (n + m)) := by
  obtain ⟨sa, ca, rfl, a2, a3, a5⟩ := ha.form
  obtain ⟨sb, cb, rfl, b2, b3, b5⟩ := hb.form
  have HA := Lib.hid a5
  have HB := Lib.hid b5
  have NA := Lib.hid na
  have NB := Lib.hid nb
  clear ha hb a5 b5 na nb
  go_enter Tryz.func82, Tryz.ntmps82
  go_wp2_with fail
  have la : (a.length : Int) ≤ 100000 := by omega
  have lb : (b.length : Int) ≤ 100000 := by omega
  go_loopw [5, 6, 7] (fun o c i wr => ∃ (k z : Nat) (l : List Nat), c = .int .i64 z ∧ i = .int .i64 k ∧ NatsO wr w.heap.size o l ∧ Adding a b l k z ∧ Rises a.length b.length (bval a + bval b) k ∧ Only w wr) (fun _ c i _ => 2 * (100001 - (intOf i).toNat) + (intOf c).toNat)
  case atStart => exact ⟨0, 0, [], rfl, rfl, NatsO.nil _ _, Adding.start a b, Or.inl (Nat.zero_le _), Only.refl _⟩
  case round =>
    obtain ⟨k, z, l, rfl, rfl, ho, hs, hr, ht⟩ := hrel
    obtain ⟨sp, cap, rfl⟩ := ho.form
    have hz1 : (z : Int) ≤ 1 := by have := hs.carry; omega
    have hkl := hs.len
    have hkm : (k : Int) ≤ 100001 := by
      rcases hr with q | ⟨q, -⟩ <;> omega
    have HO := Lib.hid ho
    have HS := Lib.hid hs
    have HR := Lib.hid hr
    have HT := Lib.hid ht
    have HL := Lib.hid (And.intro hkl hkm)
    clear ho hs hr ht hkl
    by_cases ha : k < a.length <;> by_cases hb : k < b.length
    · have ta : decide (k < a.length) = true := by simp; omega
      have tb : decide (k < b.length) = true := by simp; omega
      obtain ⟨g, e1, c1⟩ := HA.out k a[k] (List.getElem?_eq_getElem ha)
      subst e1
      replace c1 := HT.out.cell c1
      unfold dgV at c1
      have dx := dat_in ha
      obtain ⟨x, hx⟩ : ∃ x, x = a[k] := ⟨_, rfl⟩
      rw [← hx] at c1 dx
      have lx : (x : Int) < 10000 := by have := NA.out.dg.at_ ha; omega
      have i1 : (k : Int) < (a.length : Int) := by omega
      clear hx
      obtain ⟨g2, e2, c2⟩ := HB.out k b[k] (List.getElem?_eq_getElem hb)
      subst e2
      replace c2 := HT.out.cell c2
      unfold dgV at c2
      have dy := dat_in hb
      obtain ⟨y, hy⟩ : ∃ y, y = b[k] := ⟨_, rfl⟩
      rw [← hy] at c2 dy
      have ly : (y : Int) < 10000 := by have := NB.out.dg.at_ hb; omega
      have i2 : (k : Int) < (b.length : Int) := by omega
      clear hy
      have hst := add_step NA.out.dg NB.out.dg HS.out HR.out (by omega) (s := z + x + y) (by rw [dx, dy] <;> omega)
      have HST := Lib.hid hst
      have HM := Lib.hid (one_int wr (e := ((z : Int) + (x : Int) + (y : Int)) % 10000) (n := (z + x + y) % 10000) (by omega))
      have HO1 := Lib.hid (HO.out.only ((Only.refl wr).alloc (.cells #[.int .i64 (((z : Int) + (x : Int) + (y : Int)) % 10000)] 3)))
      clear hst dx dy ha hb
      go_wp2_with (at_builtin; refine append_nats2 rfl (.tmp 46) (.tmp 49) rfl (base := w.heap.size) rfl rfl HO1.out HM.out rfl (List.length_append ..) (by have := HL.out; simp; omega) (by have := HT.out.size; simp; omega) ?_)
      intro sp4 cap4 w4 hown hb hs
      have HW := Lib.hid hown
      have T4 := Lib.hid ((HT.out.alloc _).below hb (Nat.le_refl _))
      clear hown hb hs
      go_wp2
      go_roundw
      case rel => exact ⟨k + 1, (z + x + y) / 10000, l ++ [(z + x + y) % 10000], by congr 1, by go_num, HW.out, HST.out.1, HST.out.2, T4.out⟩
      case measure =>
        have := HST.out.2
        unfold Rises at this
        simp [intOf]; omega
    · have ta : decide (k < a.length) = true := by simp; omega
      have tb : decide (k < b.length) = false := by simp; omega
      obtain ⟨g, e1, c1⟩ := HA.out k a[k] (List.getElem?_eq_getElem ha)
      subst e1
      replace c1 := HT.out.cell c1
      unfold dgV at c1
      have dx := dat_in ha
      obtain ⟨x, hx⟩ : ∃ x, x = a[k] := ⟨_, rfl⟩
      rw [← hx] at c1 dx
      have lx : (x : Int) < 10000 := by have := NA.out.dg.at_ ha; omega
      have i1 : (k : Int) < (a.length : Int) := by omega
      clear hx
      have dy := dat_out (l := b) (i := k) (by omega)
      have hst := add_step NA.out.dg NB.out.dg HS.out HR.out (by omega) (s := z + x) (by rw [dx, dy] <;> omega)
      have HST := Lib.hid hst
      have HM := Lib.hid (one_int wr (e := ((z : Int) + (x : Int)) % 10000) (n := (z + x) % 10000) (by omega))
      have HO1 := Lib.hid (HO.out.only ((Only.refl wr).alloc (.cells #[.int .i64 (((z : Int) + (x : Int)) % 10000)] 3)))
      clear hst dx dy ha hb
      go_wp2_with (at_builtin; refine append_nats2 rfl (.tmp 46) (.tmp 49) rfl (base := w.heap.size) rfl rfl HO1.out HM.out rfl (List.length_append ..) (by have := HL.out; simp; omega) (by have := HT.out.size; simp; omega) ?_)
      intro sp4 cap4 w4 hown hb hs
      have HW := Lib.hid hown
      have T4 := Lib.hid ((HT.out.alloc _).below hb (Nat.le_refl _))
      clear hown hb hs
      go_wp2
      go_roundw
      case rel => exact ⟨k + 1, (z + x) / 10000, l ++ [(z + x) % 10000], by congr 1, by go_num, HW.out, HST.out.1, HST.out.2, T4.out⟩
      case measure =>
        have := HST.out.2
        unfold Rises at this
        simp [intOf]; omega
    · have ta : decide (k < a.length) = false := by simp; omega
      have tb : decide (k < b.length) = true := by simp; omega
      have dx := dat_out (l := a) (i := k) (by omega)
      obtain ⟨g2, e2, c2⟩ := HB.out k b[k] (List.getElem?_eq_getElem hb)
      subst e2
      replace c2 := HT.out.cell c2
      unfold dgV at c2
      have dy := dat_in hb
      obtain ⟨y, hy⟩ : ∃ y, y = b[k] := ⟨_, rfl⟩
      rw [← hy] at c2 dy
      have ly : (y : Int) < 10000 := by have := NB.out.dg.at_ hb; omega
      have i2 : (k : Int) < (b.length : Int) := by omega
      clear hy
      have hst := add_step NA.out.dg NB.out.dg HS.out HR.out (by omega) (s := z + y) (by rw [dx, dy] <;> omega)
      have HST := Lib.hid hst
      have HM := Lib.hid (one_int wr (e := ((z : Int) + (y : Int)) % 10000) (n := (z + y) % 10000) (by omega))
      have HO1 := Lib.hid (HO.out.only ((Only.refl wr).alloc (.cells #[.int .i64 (((z : Int) + (y : Int)) % 10000)] 3)))
      clear hst dx dy ha hb
      go_wp2_with (at_builtin; refine append_nats2 rfl (.tmp 46) (.tmp 49) rfl (base := w.heap.size) rfl rfl HO1.out HM.out rfl (List.length_append ..) (by have := HL.out; simp; omega) (by have := HT.out.size; simp; omega) ?_)
      intro sp4 cap4 w4 hown hb hs
      have HW := Lib.hid hown
      have T4 := Lib.hid ((HT.out.alloc _).below hb (Nat.le_refl _))
      clear hown hb hs
      go_wp2
      go_roundw
      case rel => exact ⟨k + 1, (z + y) / 10000, l ++ [(z + y) % 10000], by congr 1, by go_num, HW.out, HST.out.1, HST.out.2, T4.out⟩
      case measure =>
        have := HST.out.2
        unfold Rises at this
        simp [intOf]; omega
    · by_cases hz : 0 < z
      · have ta : decide (k < a.length) = false := by simp; omega
        have tb : decide (k < b.length) = false := by simp; omega
        have dx := dat_out (l := a) (i := k) (by omega)
        have dy := dat_out (l := b) (i := k) (by omega)
        have tz : decide (0 < z) = true := by simp; omega
        have tz2 : decide ((0 : Int) < (z : Int)) = true := by simp; omega
        have hst := add_step NA.out.dg NB.out.dg HS.out HR.out (by omega) (s := z) (by rw [dx, dy] <;> omega)
        have HST := Lib.hid hst
        have HM := Lib.hid (one_int wr (e := ((z : Int)) % 10000) (n := (z) % 10000) (by omega))
        have HO1 := Lib.hid (HO.out.only ((Only.refl wr).alloc (.cells #[.int .i64 (((z : Int)) % 10000)] 3)))
        clear hst dx dy ha hb
        go_wp2_with (at_builtin; refine append_nats2 rfl (.tmp 46) (.tmp 49) rfl (base := w.heap.size) rfl rfl HO1.out HM.out rfl (List.length_append ..) (by have := HL.out; simp; omega) (by have := HT.out.size; simp; omega) ?_)
        intro sp4 cap4 w4 hown hb hs
        have HW := Lib.hid hown
        have T4 := Lib.hid ((HT.out.alloc _).below hb (Nat.le_refl _))
        clear hown hb hs
        go_wp2
        go_roundw
        case rel => exact ⟨k + 1, (z) / 10000, l ++ [(z) % 10000], by congr 1, by go_num, HW.out, HST.out.1, HST.out.2, T4.out⟩
        case measure =>
          have := HST.out.2
          unfold Rises at this
          simp [intOf]; omega
      · have ta : decide (k < a.length) = false := by simp; omega
        have tb : decide (k < b.length) = false := by simp; omega
        have tz : decide (0 < z) = false := by simp; omega
        have tz2 : decide ((0 : Int) < (z : Int)) = false := by simp; omega
        have HZ := Lib.hid (show z = 0 by omega)
        have HAB := Lib.hid (And.intro ha hb)
        clear ha hb hz
        go_wp2
        go_ret
        refine ⟨sp, l.length, cap, l, rfl, HO.out.toR, ?_, HT.out⟩
        have h := HS.out
        rw [HZ.out] at h
        exact h.nm NA.out NB.out HR.out (by have := HAB.out.1; omega) (by have := HAB.out.2; omega)

set_option maxRecDepth 100000 in
set_option maxHeartbeats 3200000 in
theorem subN_any {va vb : Value} {a b : List Nat} {n m : Nat} {w : World} (ha : NatsR w va a) (hb : NatsR w vb b) (na : Nm a n) (nb : Nm b m) (la : a.length ≤ 100000) (lb : b.length ≤ 100000) (h : m ≤ n) :
    Calls Tryz.prog 83 #[va, vb] w (NatsSay w a.length (n - m)) := by
  obtain ⟨sa, ca, rfl, a2, a3, a5⟩ := ha.form
  obtain ⟨sb, cb, rfl, b2, b3, b5⟩ := hb.form
  have HA := Lib.hid a5
  have HB := Lib.hid b5
  have NA := Lib.hid na
  have NB := Lib.hid nb
  clear ha hb a5 b5 na nb
  go_enter Tryz.func83, Tryz.ntmps83
  go_wp2_with fail
  have la : (a.length : Int) ≤ 100000 := by omega
  have lb : (b.length : Int) ≤ 100000 := by omega
  go_loopw [5, 6, 7] (fun o c i wr => ∃ (k z : Nat) (l : List Nat), c = .int .i64 z ∧ i = .int .i64 k ∧ NatsO wr w.heap.size o l ∧ Taking a b l k z ∧ k ≤ a.length ∧ Only w wr) (fun _ _ i _ => a.length - (intOf i).toNat)
  case atStart => exact ⟨0, 0, [], rfl, rfl, NatsO.nil _ _, Taking.start a b, Nat.zero_le _, Only.refl _⟩
  case round =>
    obtain ⟨k, z, l, rfl, rfl, ho, hs, hk, ht⟩ := hrel
    obtain ⟨sp, cap, rfl⟩ := ho.form
    have hz1 : (z : Int) ≤ 1 := by have := hs.borrow; omega
    have hkl := hs.len
    have HO := Lib.hid ho
    have HS := Lib.hid hs
    have HT := Lib.hid ht
    have HL := Lib.hid (And.intro hkl hk)
    clear ho hs ht hkl
    by_cases ha : k < a.length
    · obtain ⟨g, e1, c1⟩ := HA.out k a[k] (List.getElem?_eq_getElem ha)
      subst e1
      replace c1 := HT.out.cell c1
      unfold dgV at c1
      have dx := dat_in ha
      have lx : (a[k] : Int) < 10000 := by have := NA.out.dg.at_ ha; omega
      have da := dat_drop a k
      rw [dx] at da
      obtain ⟨x, hx⟩ : ∃ x, x = a[k] := ⟨_, rfl⟩
      rw [← hx] at c1 lx da
      have i1 : (k : Int) < (a.length : Int) := by omega
      clear hx dx
      by_cases hb : k < b.length
      · have tb : decide (k < b.length) = true := by simp; omega
        obtain ⟨g2, e2, c2⟩ := HB.out k b[k] (List.getElem?_eq_getElem hb)
        subst e2
        replace c2 := HT.out.cell c2
        unfold dgV at c2
        have dy := dat_in hb
        obtain ⟨y, hy⟩ : ∃ y, y = b[k] := ⟨_, rfl⟩
        rw [← hy] at c2 dy
        have ly : (y : Int) < 10000 := by have := NB.out.dg.at_ hb; omega
        have i2 : (k : Int) < (b.length : Int) := by omega
        clear hy
        have dd := dat_drop b k
        rw [dy] at dd
        by_cases hn : (x : Int) - (z : Int) - (y : Int) < 0
        · have tn : decide ((x : Int) - (z : Int) - (y : Int) < 0) = true := by simp; omega
          have hst := HS.out.next (x := x) (y := y) (z := x + 10000 - z - y) (c' := 1) da dd (by omega) (by omega) (by omega)
          have HST := Lib.hid hst
          have HM := Lib.hid (one_int wr (e := (x : Int) - (z : Int) - (y : Int) + 10000) (n := x + 10000 - z - y) (by omega))
          have HO1 := Lib.hid (HO.out.only ((Only.refl wr).alloc (.cells #[.int .i64 ((x : Int) - (z : Int) - (y : Int) + 10000)] 3)))
          have HAK := Lib.hid ha
          clear hst da dd hn ha dy
          go_wp2_with (at_builtin; refine append_nats2 rfl (.tmp 35) (.tmp 37) rfl (base := w.heap.size) rfl rfl HO1.out HM.out rfl (List.length_append ..) (by have := HL.out; simp; omega) (by have := HT.out.size; simp; omega) ?_)
          intro sp4 cap4 w4 hown hb4 hs4
          have HW := Lib.hid hown
          have T4 := Lib.hid ((HT.out.alloc _).below hb4 (Nat.le_refl _))
          clear hown hb4 hs4
          go_wp2
          go_roundw
          case rel => exact ⟨k + 1, 1, l ++ [x + 10000 - z - y], by rfl, by go_num, HW.out, HST.out, HAK.out, T4.out⟩
          case measure => have := HAK.out; simp [intOf]; omega
        · have tn : decide ((x : Int) - (z : Int) - (y : Int) < 0) = false := by simp; omega
          have hst := HS.out.next (x := x) (y := y) (z := x - z - y) (c' := 0) da dd (by omega) (by omega) (by omega)
          have HST := Lib.hid hst
          have HM := Lib.hid (one_int wr (e := (x : Int) - (z : Int) - (y : Int)) (n := x - z - y) (by omega))
          have HO1 := Lib.hid (HO.out.only ((Only.refl wr).alloc (.cells #[.int .i64 ((x : Int) - (z : Int) - (y : Int))] 3)))
          have HAK := Lib.hid ha
          clear hst da dd hn ha dy
          go_wp2_with (at_builtin; refine append_nats2 rfl (.tmp 35) (.tmp 37) rfl (base := w.heap.size) rfl rfl HO1.out HM.out rfl (List.length_append ..) (by have := HL.out; simp; omega) (by have := HT.out.size; simp; omega) ?_)
          intro sp4 cap4 w4 hown hb4 hs4
          have HW := Lib.hid hown
          have T4 := Lib.hid ((HT.out.alloc _).below hb4 (Nat.le_refl _))
          clear hown hb4 hs4
          go_wp2
          go_roundw
          case rel => exact ⟨k + 1, 0, l ++ [x - z - y], by rfl, by go_num, HW.out, HST.out, HAK.out, T4.out⟩
          case measure => have := HAK.out; simp [intOf]; omega
      · have tb : decide (k < b.length) = false := by simp; omega
        have dy := dat_out (l := b) (i := k) (by omega)
        have dd := dat_drop b k
        rw [dy] at dd
        by_cases hn : (x : Int) - (z : Int) < 0
        · have tn : decide ((x : Int) - (z : Int) < 0) = true := by simp; omega
          have hst := HS.out.next (x := x) (y := 0) (z := x + 10000 - z - 0) (c' := 1) da dd (by omega) (by omega) (by omega)
          have HST := Lib.hid hst
          have HM := Lib.hid (one_int wr (e := (x : Int) - (z : Int) + 10000) (n := x + 10000 - z - 0) (by omega))
          have HO1 := Lib.hid (HO.out.only ((Only.refl wr).alloc (.cells #[.int .i64 ((x : Int) - (z : Int) + 10000)] 3)))
          have HAK := Lib.hid ha
          clear hst da dd hn ha dy
          go_wp2_with (at_builtin; refine append_nats2 rfl (.tmp 35) (.tmp 37) rfl (base := w.heap.size) rfl rfl HO1.out HM.out rfl (List.length_append ..) (by have := HL.out; simp; omega) (by have := HT.out.size; simp; omega) ?_)
          intro sp4 cap4 w4 hown hb4 hs4
          have HW := Lib.hid hown
          have T4 := Lib.hid ((HT.out.alloc _).below hb4 (Nat.le_refl _))
          clear hown hb4 hs4
          go_wp2
          go_roundw
          case rel => exact ⟨k + 1, 1, l ++ [x + 10000 - z - 0], by rfl, by go_num, HW.out, HST.out, HAK.out, T4.out⟩
          case measure => have := HAK.out; simp [intOf]; omega
        · have tn : decide ((x : Int) - (z : Int) < 0) = false := by simp; omega
          have hst := HS.out.next (x := x) (y := 0) (z := x - z - 0) (c' := 0) da dd (by omega) (by omega) (by omega)
          have HST := Lib.hid hst
          have HM := Lib.hid (one_int wr (e := (x : Int) - (z : Int)) (n := x - z - 0) (by omega))
          have HO1 := Lib.hid (HO.out.only ((Only.refl wr).alloc (.cells #[.int .i64 ((x : Int) - (z : Int))] 3)))
          have HAK := Lib.hid ha
          clear hst da dd hn ha dy
          go_wp2_with (at_builtin; refine append_nats2 rfl (.tmp 35) (.tmp 37) rfl (base := w.heap.size) rfl rfl HO1.out HM.out rfl (List.length_append ..) (by have := HL.out; simp; omega) (by have := HT.out.size; simp; omega) ?_)
          intro sp4 cap4 w4 hown hb4 hs4
          have HW := Lib.hid hown
          have T4 := Lib.hid ((HT.out.alloc _).below hb4 (Nat.le_refl _))
          clear hown hb4 hs4
          go_wp2
          go_roundw
          case rel => exact ⟨k + 1, 0, l ++ [x - z - 0], by rfl, by go_num, HW.out, HST.out, HAK.out, T4.out⟩
          case measure => have := HAK.out; simp [intOf]; omega
    · have ta : decide (k < a.length) = false := by simp; omega
      have HAK := Lib.hid ha
      clear ha
      go_wp2
      go_ret
      have hka : k = a.length := by have := HAK.out; omega
      have hlen : b.length ≤ a.length := by
        rcases Nat.lt_or_ge a.length b.length with c | c
        · have := bval_shorter NA.out.dg NB.out.top c
          rw [NA.out.eq, NB.out.eq] at this; omega
        · exact c
      have hs := HS.out
      have hl := HL.out.1
      rw [hka] at hs hl
      have hd := hs.done hlen (by rw [NA.out.eq, NB.out.eq]; exact h)
      rw [NA.out.eq, NB.out.eq] at hd
      exact ⟨sp, l.length, cap, l, rfl, HO.out.toR, HS.out.dg, by omega, by omega, HT.out⟩
end Go.Proofs.YtopklnaahdjafaaGreatDoor

/-
  Numbers compared, turned over, added, subtracted.
-/
namespace Go.Proofs.YtopklnaahdjafaaGreatDoor
open Go.RowKit Go.Maps Go.WideMaps

abbrev CmpDIs (w : World) (v u : Value) (c : Int) : Prop := ∀ W, Only w W → Calls Tryz.prog 50 #[v, u] W fun e w' => e = .returned (.int .i64 c) ∧ Only W w'

set_option maxHeartbeats 1600000 in
theorem bigCmp_walk {b1 b2 : Bool} {s1 s2 : Option Addr} {k1 c1 k2 c2 : Nat} {c : Int} {w : World} (C : CmpDIs w (.slice s1 k1 c1) (.slice s2 k2 c2) c) (hc : -1 ≤ c ∧ c ≤ 1) :
    Calls Tryz.prog 15 #[.agg #[.bool b1, .slice s1 k1 c1], .agg #[.bool b2, .slice s2 k2 c2]] w fun e w' => e = .returned (.int .i64 (if b1 = b2 then (if b1 then -c else c) else if b1 then -1 else 1)) ∧ Only w w' := by
  obtain ⟨hc1, hc2⟩ := hc
  have C := Lib.hid C
  obtain ⟨ht, o1, o2⟩ := boxes2 w b1 b2 s1 s2 k1 c1 k2 c2
  cases b1 <;> cases b2
  · go_enter Tryz.func15, Tryz.ntmps15
    go_wp2_with fail
    go_at_call 50
    refine (C.out _ ht).mono ?_
    rintro r w3 ⟨rfl, t3⟩
    obtain ⟨d1, d2, f1, f2, z1⟩ := (o1.only t3).all
    replace ht := ht.trans t3
    clear o1 o2 t3
    go_wp2
    go_ret
    exact ⟨rfl, ht⟩
  · go_enter Tryz.func15, Tryz.ntmps15
    go_wp2
    go_ret
    exact ⟨rfl, ht⟩
  · go_enter Tryz.func15, Tryz.ntmps15
    go_wp2
    go_ret
    exact ⟨rfl, ht⟩
  · go_enter Tryz.func15, Tryz.ntmps15
    go_wp2_with fail
    go_at_call 50
    refine (C.out _ ht).mono ?_
    rintro r w3 ⟨rfl, t3⟩
    obtain ⟨d1, d2, f1, f2, z1⟩ := (o1.only t3).all
    replace ht := ht.trans t3
    clear o1 o2 t3
    go_wp2
    go_ret
    exact ⟨rfl, ht⟩

theorem bigCmp_any {b1 b2 : Bool} {s1 s2 : Option Addr} {k1 c1 k2 c2 : Nat} {n m : Int} {w : World} (h1 : BigR w b1 s1 k1 c1 n) (h2 : BigR w b2 s2 k2 c2 m) (l1 : Lim n 100000) (l2 : Lim m 100000) :
    Calls Tryz.prog 15 #[.agg #[.bool b1, .slice s1 k1 c1], .agg #[.bool b2, .slice s2 k2 c2]] w fun e w' => e = .returned (.int .i64 (cmpI n m)) ∧ Only w w' := by
  obtain ⟨rfl, l, r1, g1⟩ := h1
  obtain ⟨rfl, m', r2, g2⟩ := h2
  have C : CmpDIs w (.slice s1 k1 c1) (.slice s2 k2 c2) (cmpN n.natAbs m.natAbs) := fun W t => cmpD_any (r1.only t) (r2.only t) g1 g2 (g1.len l1) (g2.len l2)
  refine (bigCmp_walk C (by unfold cmpN; split <;> (try split) <;> omega)).mono fun e w' h => ⟨h.1.trans ?_, h.2⟩
  by_cases q1 : n < 0 <;> by_cases q2 : m < 0
  · simp [q1, q2, cmpI_neg]
  · simp [q1, q2]; rw [cmpI_lt (by omega)]
  · simp [q1, q2]; rw [cmpI_gt (by omega)]
  · simp [q1, q2, cmpI_pos]

abbrev TrimIs (w : World) (neg : Bool) (v : Value) (n : Int) : Prop := ∀ W, Only w W → Calls Tryz.prog 49 #[.bool neg, v] W (BigSaysF W n)

set_option maxHeartbeats 1600000 in
theorem bigNeg_walk {b1 : Bool} {s1 : Option Addr} {k1 c1 : Nat} {n : Int} {w : World} (T : TrimIs w (!b1) (.slice s1 k1 c1) n) :
    Calls Tryz.prog 14 #[.agg #[.bool b1, .slice s1 k1 c1]] w (BigSaysF w n) := by
  have T := Lib.hid T
  obtain ⟨ht, o1, o2⟩ := boxes11 w b1 s1 k1 c1
  go_enter Tryz.func14, Tryz.ntmps14
  go_wp2_with fail
  go_at_call 49
  refine (T.out _ ht).mono ?_
  rintro r w3 ⟨b4, s4, k4, c4, rfl, hb4, fr4, t3⟩
  have FR := Lib.hid (fr4.of ht)
  obtain ⟨d1, d2, f1, f2, z1⟩ := (o2.only t3).all
  have HB := Lib.hid (hb4.apart (o2.only t3) b4 s4 k4 c4)
  have HT := Lib.hid (((ht.trans t3).set (p := w.heap.size + 1) (by omega) 0 (.bool b4)).set (p := w.heap.size + 1) (by omega) 1 (.slice s4 k4 c4))
  clear o1 o2 t3 hb4 ht fr4
  go_wp2
  simp [bodyPost, results, Tryz.results14, go_sem, World.cell?_setCell_other, d1, d2]
  exact ⟨b4, s4, k4, c4, rfl, HB.out, FR.out, HT.out⟩

theorem bigNegF_any {b1 : Bool} {s1 : Option Addr} {k1 c1 : Nat} {n : Int} {w : World} (h1 : BigR w b1 s1 k1 c1 n) (l1 : Lim n 100000) :
    Calls Tryz.prog 14 #[.agg #[.bool b1, .slice s1 k1 c1]] w (BigSaysF w (-n)) := by
  obtain ⟨rfl, l, r1, g1⟩ := h1
  refine bigNeg_walk fun W t => ?_
  have h := trimF_any (neg := !decide (n < 0)) (r1.only t) g1.dg (g1.len l1)
  rw [g1.eq, show sgn (!decide (n < 0)) n.natAbs = -n by unfold sgn; by_cases q : n < 0 <;> simp [q] <;> omega] at h
  exact h

theorem bigNeg_any {b1 : Bool} {s1 : Option Addr} {k1 c1 : Nat} {n : Int} {w : World} (h1 : BigR w b1 s1 k1 c1 n) (l1 : Lim n 100000) :
    Calls Tryz.prog 14 #[.agg #[.bool b1, .slice s1 k1 c1]] w (BigSays w (-n)) :=
  (bigNegF_any h1 l1).mono fun _ _ h => h.plain

/-- digits added, or taken off -/
abbrev NatsAre (w : World) (f : FuncId) (v u : Value) (N : Nat) : Prop := ∀ W, Only w W → Calls Tryz.prog f #[v, u] W (NatsSay W 100000 N)

set_option maxHeartbeats 3200000 in
theorem bigAdd_same {b1 : Bool} {s1 s2 : Option Addr} {k1 c1 k2 c2 : Nat} {N : Nat} {w : World} (A : NatsAre w 82 (.slice s1 k1 c1) (.slice s2 k2 c2) N) :
    Calls Tryz.prog 48 #[.agg #[.bool b1, .slice s1 k1 c1], .agg #[.bool b1, .slice s2 k2 c2]] w (BigSays w (sgn b1 N)) := by
  have A := Lib.hid A
  obtain ⟨ht, o1, o2, o3⟩ := boxes3 w b1 b1 s1 s2 k1 c1 k2 c2
  go_enter Tryz.func48, Tryz.ntmps48
  have hbb : (b1 == b1) = true := by simp
  go_wp2_with fail
  refine wp_name (fun wx => Only w wx ∧ BigAt wx w.heap.size b1 s1 k1 c1 ∧ BigAt wx (w.heap.size + 1) b1 s2 k2 c2 ∧ BigAt wx (w.heap.size + 1 + 1) false none 0 0) ⟨ht, o1, o2, o3⟩ ?_
  clear ht o1 o2 o3
  rintro wx ⟨ht, o1, o2, o3⟩
  obtain ⟨x1, x2, -, -, x3⟩ := o1.all
  obtain ⟨y1, y2, -, -, y3⟩ := o2.all
  have q1 := o1.drew
  have q2 := o2.drew
  go_region_held3 (fun w' => w'.cell? ⟨w.heap.size, 0, none⟩ = some (.bool b1) ∧ w'.cell? ⟨w.heap.size, 1, none⟩ = some (.slice s1 k1 c1) ∧ w'.cell? ⟨w.heap.size + 1, 1, none⟩ = some (.slice s2 k2 c2)) (first | exact ⟨q1.c0, q1.c1, q2.c1⟩ | exact ⟨p1.c0, p1.c1, p2.c1⟩ | exact ⟨((p1.far (by omega) 0 _).far (by omega) 1 _).c0, ((p1.far (by omega) 0 _).far (by omega) 1 _).c1, ((p2.far (by omega) 0 _).far (by omega) 1 _).c1⟩ | fail) (first | (go_at_call 82; refine (A.out _ ht.drew).mono ?_; rintro r w3 ⟨s4, k4, c4, l4, rfl, hr4, hd4, hv4, hl4, t3⟩; have p1 := q1.only t3; have p2 := q2.only t3; have p3 := o3.drew.only t3; have p5 := ht.drew.trans t3) | (go_at_call 49; refine (trim_any hr4 hd4 hl4).mono ?_; rintro r w4 ⟨b6, s6, k6, c6, rfl, hb6, t4⟩; have p1 := p1.only t4; have p2 := p2.only t4; have p3 := p3.only t4; have p5 := p5.trans t4; obtain ⟨g1, g2, g3, g4, g5⟩ := p3.all))
  rw [hv4] at hb6
  have HB := Lib.hid (hb6.apart p3 b6 s6 k6 c6)
  have HT := Lib.hid ((p5.set (p := w.heap.size + 1 + 1) (by omega) 0 (.bool b6)).set (p := w.heap.size + 1 + 1) (by omega) 1 (.slice s6 k6 c6))
  clear p1 p2 p3 p5 hb6 hv4 hr4 hd4 hl4 t3 t4 q1 q2 o1 o2 o3 ht
  go_wp2
  simp [bodyPost, results, Tryz.results48, go_sem, World.cell?_setCell_other, g1, g2]
  exact ⟨b6, s6, k6, c6, rfl, HB.out, HT.out⟩

set_option maxHeartbeats 3200000 in
theorem bigAdd_high {b1 b2 : Bool} {s1 s2 : Option Addr} {k1 c1 k2 c2 : Nat} {N : Nat} {c : Int} {w : World} (hb : (b1 == b2) = false) (C : CmpDIs w (.slice s1 k1 c1) (.slice s2 k2 c2) c) (hc : decide (0 ≤ c) = true) (A : NatsAre w 83 (.slice s1 k1 c1) (.slice s2 k2 c2) N) :
    Calls Tryz.prog 48 #[.agg #[.bool b1, .slice s1 k1 c1], .agg #[.bool b2, .slice s2 k2 c2]] w (BigSays w (sgn b1 N)) := by
  have A := Lib.hid A
  have C := Lib.hid C
  obtain ⟨ht, o1, o2, o3⟩ := boxes3 w b1 b2 s1 s2 k1 c1 k2 c2
  go_enter Tryz.func48, Tryz.ntmps48
  go_wp2_with fail
  go_at_call 50
  refine (C.out _ ht).mono ?_
  rintro r w2 ⟨rfl, t2⟩
  replace ht := ht.trans t2
  replace o1 := o1.only t2
  replace o2 := o2.only t2
  replace o3 := o3.only t2
  clear t2 C
  go_wp2_with fail
  refine wp_name (fun wx => Only w wx ∧ BigAt wx w.heap.size b1 s1 k1 c1 ∧ BigAt wx (w.heap.size + 1) b2 s2 k2 c2 ∧ BigAt wx (w.heap.size + 1 + 1) false none 0 0) ⟨ht, o1, o2, o3⟩ ?_
  clear ht o1 o2 o3
  rintro wx ⟨ht, o1, o2, o3⟩
  obtain ⟨x1, x2, -, -, x3⟩ := o1.all
  obtain ⟨y1, y2, -, -, y3⟩ := o2.all
  have q1 := o1.drew
  have q2 := o2.drew
  go_region_held3 (fun w' => w'.cell? ⟨w.heap.size, 0, none⟩ = some (.bool b1) ∧ w'.cell? ⟨w.heap.size, 1, none⟩ = some (.slice s1 k1 c1) ∧ w'.cell? ⟨w.heap.size + 1, 1, none⟩ = some (.slice s2 k2 c2)) (first | exact ⟨q1.c0, q1.c1, q2.c1⟩ | exact ⟨p1.c0, p1.c1, p2.c1⟩ | exact ⟨((p1.far (by omega) 0 _).far (by omega) 1 _).c0, ((p1.far (by omega) 0 _).far (by omega) 1 _).c1, ((p2.far (by omega) 0 _).far (by omega) 1 _).c1⟩ | fail) (first | (go_at_call 83; refine (A.out _ ht.drew).mono ?_; rintro r w3 ⟨s4, k4, c4, l4, rfl, hr4, hd4, hv4, hl4, t3⟩; have p1 := q1.only t3; have p2 := q2.only t3; have p3 := o3.drew.only t3; have p5 := ht.drew.trans t3) | (go_at_call 49; refine (trim_any hr4 hd4 hl4).mono ?_; rintro r w4 ⟨b6, s6, k6, c6, rfl, hb6, t4⟩; have p1 := p1.only t4; have p2 := p2.only t4; have p3 := p3.only t4; have p5 := p5.trans t4; obtain ⟨g1, g2, g3, g4, g5⟩ := p3.all))
  rw [hv4] at hb6
  have HB := Lib.hid (hb6.apart p3 b6 s6 k6 c6)
  have HT := Lib.hid ((p5.set (p := w.heap.size + 1 + 1) (by omega) 0 (.bool b6)).set (p := w.heap.size + 1 + 1) (by omega) 1 (.slice s6 k6 c6))
  clear p1 p2 p3 p5 hb6 hv4 hr4 hd4 hl4 t3 t4 q1 q2 o1 o2 o3 ht
  go_wp2
  simp [bodyPost, results, Tryz.results48, go_sem, World.cell?_setCell_other, g1, g2]
  exact ⟨b6, s6, k6, c6, rfl, HB.out, HT.out⟩

set_option maxHeartbeats 3200000 in
theorem bigAdd_low {b1 b2 : Bool} {s1 s2 : Option Addr} {k1 c1 k2 c2 : Nat} {N : Nat} {c : Int} {w : World} (hb : (b1 == b2) = false) (C : CmpDIs w (.slice s1 k1 c1) (.slice s2 k2 c2) c) (hc : decide (0 ≤ c) = false) (A : NatsAre w 83 (.slice s2 k2 c2) (.slice s1 k1 c1) N) :
    Calls Tryz.prog 48 #[.agg #[.bool b1, .slice s1 k1 c1], .agg #[.bool b2, .slice s2 k2 c2]] w (BigSays w (sgn b2 N)) := by
  have A := Lib.hid A
  have C := Lib.hid C
  obtain ⟨ht, o1, o2, o3⟩ := boxes3 w b1 b2 s1 s2 k1 c1 k2 c2
  go_enter Tryz.func48, Tryz.ntmps48
  go_wp2_with fail
  go_at_call 50
  refine (C.out _ ht).mono ?_
  rintro r w2 ⟨rfl, t2⟩
  replace ht := ht.trans t2
  replace o1 := o1.only t2
  replace o2 := o2.only t2
  replace o3 := o3.only t2
  clear t2 C
  go_wp2_with fail
  refine wp_name (fun wx => Only w wx ∧ BigAt wx w.heap.size b1 s1 k1 c1 ∧ BigAt wx (w.heap.size + 1) b2 s2 k2 c2 ∧ BigAt wx (w.heap.size + 1 + 1) false none 0 0) ⟨ht, o1, o2, o3⟩ ?_
  clear ht o1 o2 o3
  rintro wx ⟨ht, o1, o2, o3⟩
  obtain ⟨x1, x2, -, -, x3⟩ := o1.all
  obtain ⟨y1, y2, -, -, y3⟩ := o2.all
  have q1 := o1.drew
  have q2 := o2.drew
  go_region_held3 (fun w' => w'.cell? ⟨w.heap.size + 1, 0, none⟩ = some (.bool b2) ∧ w'.cell? ⟨w.heap.size + 1, 1, none⟩ = some (.slice s2 k2 c2) ∧ w'.cell? ⟨w.heap.size, 1, none⟩ = some (.slice s1 k1 c1)) (first | exact ⟨q2.c0, q2.c1, q1.c1⟩ | exact ⟨p2.c0, p2.c1, p1.c1⟩ | exact ⟨((p2.far (by omega) 0 _).far (by omega) 1 _).c0, ((p2.far (by omega) 0 _).far (by omega) 1 _).c1, ((p1.far (by omega) 0 _).far (by omega) 1 _).c1⟩ | fail) (first | (go_at_call 83; refine (A.out _ ht.drew).mono ?_; rintro r w3 ⟨s4, k4, c4, l4, rfl, hr4, hd4, hv4, hl4, t3⟩; have p1 := q1.only t3; have p2 := q2.only t3; have p3 := o3.drew.only t3; have p5 := ht.drew.trans t3) | (go_at_call 49; refine (trim_any hr4 hd4 hl4).mono ?_; rintro r w4 ⟨b6, s6, k6, c6, rfl, hb6, t4⟩; have p1 := p1.only t4; have p2 := p2.only t4; have p3 := p3.only t4; have p5 := p5.trans t4; obtain ⟨g1, g2, g3, g4, g5⟩ := p3.all))
  rw [hv4] at hb6
  have HB := Lib.hid (hb6.apart p3 b6 s6 k6 c6)
  have HT := Lib.hid ((p5.set (p := w.heap.size + 1 + 1) (by omega) 0 (.bool b6)).set (p := w.heap.size + 1 + 1) (by omega) 1 (.slice s6 k6 c6))
  clear p1 p2 p3 p5 hb6 hv4 hr4 hd4 hl4 t3 t4 q1 q2 o1 o2 o3 ht
  go_wp2
  simp [bodyPost, results, Tryz.results48, go_sem, World.cell?_setCell_other, g1, g2]
  exact ⟨b6, s6, k6, c6, rfl, HB.out, HT.out⟩

theorem bigAdd_any {b1 b2 : Bool} {s1 s2 : Option Addr} {k1 c1 k2 c2 : Nat} {n m : Int} {w : World} (h1 : BigR w b1 s1 k1 c1 n) (h2 : BigR w b2 s2 k2 c2 m) (l1 : Lim n 50000) (l2 : Lim m 50000) :
    Calls Tryz.prog 48 #[.agg #[.bool b1, .slice s1 k1 c1], .agg #[.bool b2, .slice s2 k2 c2]] w (BigSays w (n + m)) := by
  obtain ⟨rfl, l, r1, g1⟩ := h1
  obtain ⟨rfl, m', r2, g2⟩ := h2
  have e1 := g1.len l1
  have e2 := g2.len l2
  by_cases q : decide (n < 0) = decide (m < 0)
  · rw [← q]
    have A : NatsAre w 82 (.slice s1 k1 c1) (.slice s2 k2 c2) (n.natAbs + m.natAbs) := fun W t => (addN_any (r1.only t) (r2.only t) g1 g2 (by omega) (by omega)).mono fun e w' h => by
      obtain ⟨sp, k, cap, l', h1, h2, h3, h4⟩ := h
      exact ⟨sp, k, cap, l', h1, h2, h3.dg, h3.eq, h3.len_sum l1 l2 (by omega), h4⟩
    have h := bigAdd_same (b1 := decide (n < 0)) A
    rw [show sgn (decide (n < 0)) (n.natAbs + m.natAbs) = n + m by unfold sgn; simp only [decide_eq_decide] at q; by_cases c : n < 0 <;> simp [c] <;> omega] at h
    exact h
  · have hb : (decide (n < 0) == decide (m < 0)) = false := by simpa using q
    have C : CmpDIs w (.slice s1 k1 c1) (.slice s2 k2 c2) (cmpN n.natAbs m.natAbs) := fun W t => cmpD_any (r1.only t) (r2.only t) g1 g2 (by omega) (by omega)
    simp only [decide_eq_decide] at q
    by_cases g : m.natAbs ≤ n.natAbs
    · have A : NatsAre w 83 (.slice s1 k1 c1) (.slice s2 k2 c2) (n.natAbs - m.natAbs) := fun W t => (subN_any (r1.only t) (r2.only t) g1 g2 (by omega) (by omega) g).mono fun e w' h => by
        obtain ⟨sp, k, cap, l', h1, h2, h3, h4, h5, h6⟩ := h
        exact ⟨sp, k, cap, l', h1, h2, h3, h4, by omega, h6⟩
      have h := bigAdd_high hb C (by unfold cmpN; simp; split <;> (try split) <;> omega) A
      rw [show sgn (decide (n < 0)) (n.natAbs - m.natAbs) = n + m by unfold sgn; by_cases c : n < 0 <;> simp [c] <;> omega] at h
      exact h
    · have A : NatsAre w 83 (.slice s2 k2 c2) (.slice s1 k1 c1) (m.natAbs - n.natAbs) := fun W t => (subN_any (r2.only t) (r1.only t) g2 g1 (by omega) (by omega) (by omega)).mono fun e w' h => by
        obtain ⟨sp, k, cap, l', h1, h2, h3, h4, h5, h6⟩ := h
        exact ⟨sp, k, cap, l', h1, h2, h3, h4, by omega, h6⟩
      have h := bigAdd_low hb C (by unfold cmpN; simp; split <;> (try split) <;> omega) A
      rw [show sgn (decide (m < 0)) (m.natAbs - n.natAbs) = n + m by unfold sgn; by_cases c : m < 0 <;> simp [c] <;> omega] at h
      exact h

set_option maxHeartbeats 3200000 in
theorem bigSub_any {b1 b2 : Bool} {s1 s2 : Option Addr} {k1 c1 k2 c2 : Nat} {n m : Int} {w : World} (h1 : BigR w b1 s1 k1 c1 n) (h2 : BigR w b2 s2 k2 c2 m) (l1 : Lim n 50000) (l2 : Lim m 50000) :
    Calls Tryz.prog 11 #[.agg #[.bool b1, .slice s1 k1 c1], .agg #[.bool b2, .slice s2 k2 c2]] w (BigSays w (n - m)) := by
  have H1 := Lib.hid h1
  have L1 := Lib.hid l1
  have L2 := Lib.hid l2.neg
  have NG : Hid (∀ W, Only w W → Calls Tryz.prog 14 #[.agg #[.bool b2, .slice s2 k2 c2]] W (BigSays W (-m))) := Lib.hid fun W t => bigNeg_any (h2.only t) (l2.mono (by omega))
  obtain ⟨ht, o1, o2, o3⟩ := boxes3 w b1 b2 s1 s2 k1 c1 k2 c2
  clear h1 h2 l1 l2
  go_enter Tryz.func11, Tryz.ntmps11
  go_wp2_with fail
  refine wp_name (fun wx => Only w wx ∧ BigAt wx w.heap.size b1 s1 k1 c1 ∧ BigAt wx (w.heap.size + 1) b2 s2 k2 c2 ∧ BigAt wx (w.heap.size + 1 + 1) false none 0 0) ⟨ht, o1, o2, o3⟩ ?_
  clear ht o1 o2 o3
  rintro wx ⟨ht, o1, o2, o3⟩
  obtain ⟨x1, x2, -, -, x3⟩ := o1.all
  obtain ⟨y1, y2, -, -, y3⟩ := o2.all
  have q1 := o1.drew
  have q2 := o2.drew
  go_region_held3 (fun w' => w'.cell? ⟨w.heap.size, 0, none⟩ = some (.bool b1) ∧ w'.cell? ⟨w.heap.size, 1, none⟩ = some (.slice s1 k1 c1) ∧ w'.cell? ⟨w.heap.size + 1, 0, none⟩ = some (.bool b2) ∧ w'.cell? ⟨w.heap.size + 1, 1, none⟩ = some (.slice s2 k2 c2)) (first | exact ⟨q1.c0, q1.c1, q2.c0, q2.c1⟩ | exact ⟨p1.c0, p1.c1, p2.c0, p2.c1⟩ | exact ⟨((p1.far (by omega) 0 _).far (by omega) 1 _).c0, ((p1.far (by omega) 0 _).far (by omega) 1 _).c1, ((p2.far (by omega) 0 _).far (by omega) 1 _).c0, ((p2.far (by omega) 0 _).far (by omega) 1 _).c1⟩ | fail) (first | (go_at_call 14; refine (NG.out _ ht.drew).mono ?_; rintro r w3 ⟨b4, s4, k4, c4, rfl, hr4, t3⟩; have p1 := q1.only t3; have p2 := q2.only t3; have p3 := o3.drew.only t3; have p5 := ht.drew.trans t3) | (go_at_call 48; refine (bigAdd_any (H1.out.only p5) hr4 L1.out L2.out).mono ?_; rintro r w4 ⟨b6, s6, k6, c6, rfl, hb6, t4⟩; have p1 := p1.only t4; have p2 := p2.only t4; have p3 := p3.only t4; have p5 := p5.trans t4; obtain ⟨g1, g2, g3, g4, g5⟩ := p3.all))
  rw [← Int.sub_eq_add_neg] at hb6
  have HB := Lib.hid (hb6.apart p3 b6 s6 k6 c6)
  have HT := Lib.hid ((p5.set (p := w.heap.size + 1 + 1) (by omega) 0 (.bool b6)).set (p := w.heap.size + 1 + 1) (by omega) 1 (.slice s6 k6 c6))
  clear p1 p2 p3 p5 hb6 hr4 t3 t4 q1 q2 o1 o2 o3 ht
  go_wp2
  simp [bodyPost, results, Tryz.results11, go_sem, World.cell?_setCell_other, g1, g2]
  exact ⟨b6, s6, k6, c6, rfl, HB.out, HT.out⟩
end Go.Proofs.YtopklnaahdjafaaGreatDoor

/-
  The number of an int, of a word; powers of two.
-/
namespace Go.Proofs.YtopklnaahdjafaaGreatDoor
open Go.RowKit Go.Maps Go.WideMaps

theorem of_done {N : Int} {l : List Nat} (h : Making N.natAbs l 0) : sgn (decide (N < 0)) (bval l) = N := by
  rw [h.done]; unfold sgn; by_cases c : N < 0 <;> simp [c] <;> omega

theorem box0_new (w : World) : Only w (w.alloc box0) ∧ BigAt (w.alloc box0) w.heap.size false none 0 0 := ⟨(Only.refl w).alloc _, Own2.new w _ _ _⟩

set_option maxRecDepth 100000 in
set_option maxHeartbeats 3200000 in
theorem bigOf_any {N : Int} (h0 : -9223372036854775808 ≤ N) (h1 : N < 9223372036854775808) (w : World) : Calls Tryz.prog 13 #[.int .i64 N] w (BigSays w N) := by
  have M0 : Making N.natAbs [] N.natAbs := Making.start (by omega)
  obtain ⟨t0, o0⟩ := box0_new w
  have O0 := Lib.hid o0
  have T0 := Lib.hid t0
  have M0 := Lib.hid M0
  clear o0 t0
  obtain ⟨ng, hng⟩ : ∃ b, b = decide (N < 0) := ⟨_, rfl⟩
  have hng' : decide (N < 0) = ng := hng.symm
  have HNG := Lib.hid hng
  clear hng
  go_enter Tryz.func13, Tryz.ntmps13
  go_wp2_with fail
  go_loopw [0, 4] (fun n d wr => ∃ (m : Int) (l : List Nat), n = .int .i64 m ∧ NatsO wr (w.heap.size + 1) d l ∧ Making N.natAbs l m.natAbs ∧ -9223372036854775808 ≤ m ∧ m < 9223372036854775808 ∧ BigAt wr w.heap.size false none 0 0 ∧ Only w wr) (fun n _ _ => (intOf n).natAbs)
  case atStart => exact ⟨N, [], rfl, NatsO.nil _ _, M0.out, h0, h1, O0.out, T0.out⟩
  case round =>
    obtain ⟨m, l, rfl, hd, hm, m0, m1, ho, ht⟩ := hrel
    obtain ⟨sp, cap, rfl⟩ := hd.form
    have HD := Lib.hid hd
    have HM := Lib.hid hm
    have HO := Lib.hid ho
    have HT := Lib.hid ht
    clear hd hm ho ht
    by_cases hz : m = 0
    · have tz : (m != 0) = false := by simpa using hz
      have HZ := Lib.hid hz
      have hm := HM.out
      rw [hz] at hm
      have HN := Lib.hid (of_done hm)
      have HL := Lib.hid hm.len
      clear hz hm
      go_wp2_with fail
      go_at_call 49
      refine (trim_any HD.out.toR HM.out.dg (by have := HL.out; omega)).mono ?_
      rintro r w4 ⟨b6, s6, k6, c6, rfl, hb6, t4⟩
      have p3 := HO.out.only t4
      have p5 := HT.out.trans t4
      obtain ⟨g1, g2, g3, g4, g5⟩ := p3.all
      rw [HNG.out, HN.out] at hb6
      have HB := Lib.hid (hb6.apart p3 b6 s6 k6 c6)
      have HT := Lib.hid ((p5.set (p := w.heap.size) (by omega) 0 (.bool b6)).set (p := w.heap.size) (by omega) 1 (.slice s6 k6 c6))
      clear p3 p5 hb6 t4 
      go_wp2
      simp [bodyPost, results, Tryz.results13, go_sem, World.cell?_setCell_other, g1, g2]
      exact ⟨b6, s6, k6, c6, rfl, HB.out, HT.out⟩
    · have tz : (m != 0) = true := by simpa using hz
      have hst := HM.out.next (show m.natAbs ≠ 0 by omega)
      obtain ⟨X, hX⟩ : ∃ X, m.tmod 10000 = X := ⟨_, rfl⟩
      obtain ⟨Q, hQ⟩ : ∃ Q, m.tdiv 10000 = Q := ⟨_, rfl⟩
      have eX : X.natAbs = m.natAbs % 10000 := by rw [← hX, Int.natAbs_tmod]; rfl
      have eQ : Q.natAbs = m.natAbs / 10000 := by rw [← hQ, Int.natAbs_tdiv]; rfl
      rw [← eX, ← eQ] at hst
      have HST := Lib.hid hst
      have x0 : -9999 ≤ X := by omega
      have x1 : X ≤ 9999 := by omega
      have q0 : -922337203685477 ≤ Q := by omega
      have q1 : Q ≤ 922337203685477 := by omega
      have hlt : Q.natAbs < m.natAbs := by omega
      have HLT := Lib.hid hlt
      clear hst eX eQ hlt hz
      by_cases hn : X < 0
      · have tn : decide (X < 0) = true := by simpa using hn
        have HMM := Lib.hid (one_int wr (e := -X) (n := X.natAbs) (by omega))
        have HO1 := Lib.hid (HD.out.only ((Only.refl wr).alloc (.cells #[.int .i64 (-X)] 3)))
        clear hn
        go_wp2_with (at_builtin; refine append_nats2 rfl (.tmp 16) (.tmp 18) rfl (base := w.heap.size + 1) rfl rfl HO1.out HMM.out rfl (List.length_append ..) (by have := HM.out.len; simp; omega) (by have := HO.out.lt; simp; omega) ?_)
        intro sp4 cap4 w4 hown hb4 hs4
        have HW := Lib.hid hown
        have T4 := Lib.hid ((HT.out.alloc _).below hb4 (by omega))
        have O4 := Lib.hid ((HO.out.alloc _).belowN hb4 (by omega))
        clear hown hb4 hs4
        go_wp2
        go_roundw
        case rel => exact ⟨Q, l ++ [X.natAbs], rfl, HW.out, HST.out, by omega, by omega, O4.out, T4.out⟩
        case measure => have := HLT.out; simp [intOf]; omega
      · have tn : decide (X < 0) = false := by simpa using hn
        have HMM := Lib.hid (one_int wr (e := X) (n := X.natAbs) (by omega))
        have HO1 := Lib.hid (HD.out.only ((Only.refl wr).alloc (.cells #[.int .i64 X] 3)))
        clear hn
        go_wp2_with (at_builtin; refine append_nats2 rfl (.tmp 16) (.tmp 18) rfl (base := w.heap.size + 1) rfl rfl HO1.out HMM.out rfl (List.length_append ..) (by have := HM.out.len; simp; omega) (by have := HO.out.lt; simp; omega) ?_)
        intro sp4 cap4 w4 hown hb4 hs4
        have HW := Lib.hid hown
        have T4 := Lib.hid ((HT.out.alloc _).below hb4 (by omega))
        have O4 := Lib.hid ((HO.out.alloc _).belowN hb4 (by omega))
        clear hown hb4 hs4
        go_wp2
        go_roundw
        case rel => exact ⟨Q, l ++ [X.natAbs], rfl, HW.out, HST.out, by omega, by omega, O4.out, T4.out⟩
        case measure => have := HLT.out; simp [intOf]; omega

theorem bigUint_of {W : World} {l : List Nat} {N : Nat} {v : Value} (hr : NatsR W v l) (h : Making N l 0) : Calls Tryz.prog 49 #[.bool false, v] W (BigSays W N) := by
  have := trim_any (neg := false) hr h.dg (by have := h.len; omega)
  rw [h.done] at this
  exact this



end Go.Proofs.YtopklnaahdjafaaGreatDoor

/-
  A row of digits that is written.
-/
namespace Go.Proofs.YtopklnaahdjafaaGreatDoor
open Go.RowKit Go.Maps Go.WideMaps

/-- block D holds these digits -/
def RowAt (w : World) (D : Nat) (l : List Nat) : Prop := ∃ ty, w.heap[D]? = some (.cells (l.map dgV).toArray ty)

section
variable {w w' : World} {D : Nat} {l : List Nat}
theorem RowAt.lt (h : RowAt w D l) : D < w.heap.size := by obtain ⟨ty, h⟩ := h; exact (Array.getElem?_eq_some_iff.1 h).1
theorem RowAt.cell (h : RowAt w D l) {j : Nat} (hj : j < l.length) : w.cell? ⟨D, j, none⟩ = some (.int .i64 (l[j] : Nat)) := by
  obtain ⟨ty, h⟩ := h
  simp only [World.cell?, h]
  simp [hj, dgV]
theorem RowAt.free (h : RowAt w D l) (j : Nat) : w.frozen? ⟨D, j, none⟩ = false := by
  obtain ⟨ty, h⟩ := h
  simp [World.frozen?, h]
theorem RowAt.set (h : RowAt w D l) (j : Nat) {e : Int} {z : Nat} (he : e = z) : RowAt (w.setCell ⟨D, j, none⟩ (.int .i64 e)) D (l.set j z) := by
  subst he
  obtain ⟨ty, h⟩ := h
  refine ⟨ty, ?_⟩
  have := heap_setCell_same h (dgV z) (j := j)
  rw [show (l.set j z).map dgV = (l.map dgV).set j (dgV z) from List.map_set]
  unfold dgV at *
  simpa using this
theorem RowAt.only (h : RowAt w D l) (t : Only w w') : RowAt w' D l := by
  have := h.lt
  obtain ⟨ty, h⟩ := h
  exact ⟨ty, (t.block D this).trans h⟩
theorem RowAt.far (h : RowAt w D l) {p : Nat} (e : D ≠ p) (j : Nat) (u : Value) : RowAt (w.setCell ⟨p, j, none⟩ u) D l := by
  obtain ⟨ty, h⟩ := h
  exact ⟨ty, (heap_setCell_other e u).trans h⟩
theorem RowAt.toR (h : RowAt w D l) (hl : l.length ≤ 9223372036854775807) : NatsR w (.slice (some ⟨D, 0, none⟩) l.length l.length) l :=
  Or.inr ⟨D, l.length, rfl, Nat.le_refl _, hl, fun j x hj => by
    obtain ⟨h1, h2⟩ := List.getElem?_eq_some_iff.1 hj
    rw [h.cell h1, h2]; rfl⟩
theorem RowAt.toR' (h : RowAt w D l) {n : Nat} (hn : l.length = n) (hl : n ≤ 9223372036854775807) : NatsR w (.slice (some ⟨D, 0, none⟩) n n) l := by
  subst hn; exact h.toR hl
theorem RowAt.made (w : World) (n : Nat) : RowAt (w.alloc (.cells (madeCells #[.int .i64 0] n) 3)) w.heap.size (List.replicate n 0) := by
  have e : madeCells #[.int .i64 0] n = ((List.replicate n 0).map dgV).toArray := by
    apply Array.ext
    · simp [size_madeCells]
    · intro i h1 h2; simp [madeCells, dgV, Nat.mod_one]
  rw [e]
  exact ⟨_, heap_alloc_new _ _⟩
end

/-- make of so many digits -/
theorem make_row {e : Int} {n : Nat} (he : e = n) (hn : n ≤ 1000000) (w : World) : (Instr.makeSlice 24 (.int .i64 e) (.int .i64 e)).run Tryz.prog w = .ok (.slice (some ⟨w.heap.size, 0, none⟩) n n) (w.alloc (.cells (madeCells #[.int .i64 0] n) 3)) := by
  subst he
  exact run_make_row' (P := Tryz.prog) 24 3 (.int .i64 0) 8 Tryz.underlying24 infoInt rfl .i64 .i64 n (by omega) (by omega) w
end Go.Proofs.YtopklnaahdjafaaGreatDoor
