/-
  PARTS: BMem, BNum, BTrim, JOf.
-/
import Derived.Test.YtfcplpejifmohaaGreatDoorGPl
import Derived.Test.YtfcplpejifmohaaGreatDoorJBase
import Derived.Maps.AppendAt
import Derived.Laws.AppendOwnNone
import Derived.Lib.Hide
import Derived.LoopTactic
import Derived.Deep.RegionHeld3
/-
  Digits in memory; digits behind digits.
-/
namespace Go.Proofs.YtfcplpejifmohaaGreatDoor
open Go.RowKit Go.Maps Go.WideMaps

def dgV (x : Nat) : Value := .int .i64 (x : Int)
theorem infoInt : (Tryz.prog.info? 3).map (fun i => (i.zero, i.size, i.bytes)) = some (some (.int .i64 0), 1, 8) := by kernel_rfl

/-- v reads as these digits; nothing lies ahead of them in their block -/
def NatsR (w : World) (v : Value) (l : List Nat) : Prop :=
  (v = .slice none 0 0 ∧ l = []) ∨ ∃ g cap, v = .slice (some ⟨g, 0, none⟩) l.length cap ∧ l.length ≤ cap ∧ cap ≤ 9223372036854775807 ∧ ∀ j x, l[j]? = some x → w.cell? ⟨g, j, none⟩ = some (dgV x)

/-- the digits are ours: behind base -/
def NatsO (w : World) (base : Nat) (v : Value) (l : List Nat) : Prop := w.ownsRow base 3 1 v l.length (l.map dgV)

section
variable {w w' : World}

theorem NatsR.only {v : Value} {l : List Nat} (h : NatsR w v l) (t : Only w w') : NatsR w' v l := by
  rcases h with h | ⟨g, cap, h1, h2, h3, h4⟩
  · exact Or.inl h
  · exact Or.inr ⟨g, cap, h1, h2, h3, fun j x hj => by
      have k := h4 j x hj
      have hb := World.block_lt_of_cell? w _ k
      exact (Below.cell t (p := ⟨g, j, none⟩) hb).trans k⟩

theorem NatsO.toR {base : Nat} {v : Value} {l : List Nat} (h : NatsO w base v l) : NatsR w v l := by
  have h' := h
  rcases h.2 with ⟨hv, hn⟩ | ⟨g, cap, cur, hv, hg, hh, h1, h2, h3, h4⟩
  · exact Or.inl ⟨hv, List.length_eq_zero_iff.1 hn⟩
  · refine Or.inr ⟨g, cap, hv, h1, ?_, fun j x hj => ?_⟩
    · unfold maxLen at *; omega
    · have hown : w.ownsRow base 3 1 (.slice (some ⟨g, 0, none⟩) l.length cap) l.length (l.map dgV) := by rw [← hv]; exact h
      have hlt : j < l.length := (List.getElem?_eq_some_iff.1 hj).1
      have := hown.cellAt j (by omega)
      rw [this, List.getElem?_map, hj]; rfl

theorem append_nats {ops : Array Oper} {rest : List Oper} {o : Oper} {a : Act} {Qx : Exit → Act → World → Prop} (hgd : o.guard = none) (s x : Operand)
    (ho : o.op = .call { callee := .builtin .append, args := #[s, x], argTypes := #[51, 51] }) {base : Nat} {v u : Value} {l m : List Nat} (hs : a.eval s = v) (hx : a.eval x = u)
    (hl : NatsO w base v l) (hm : NatsR w u m) (hn : l.length + m.length ≤ 1000000000) (hbase : base ≤ w.heap.size)
    (h : ∀ sp cap w', NatsO w' base (.slice sp (l ++ m).length cap) (l ++ m) → Below base w w' → w.heap.size ≤ w'.heap.size → wpList Tryz.prog ops Qx rest (a.put o.dst (.slice sp (l ++ m).length cap)) w') :
    wpList Tryz.prog ops Qx (o :: rest) a w := by
  obtain ⟨i0, hi, hz0, hz1, hz2⟩ := info_parts infoInt
  have hown : ∀ r, v.ownBlock = some r → base ≤ r := fun r hr => by
    rcases hl.2 with ⟨rfl, _⟩ | ⟨g, cap, cur, rfl, hg, _⟩
    · cases hr
    · simp [Value.ownBlock] at hr; omega
  have shape : ∃ sp cap, v = .slice sp l.length cap := by
    rcases hl.2 with ⟨h1, h2⟩ | ⟨g, cap, cur, h1, _⟩
    · exact ⟨none, 0, by rw [h1, h2]⟩
    · exact ⟨_, _, h1⟩
  rcases hm with ⟨rfl, rfl⟩ | ⟨g, cap, rfl, hlc, hcap, hc⟩
  · obtain ⟨sp2, cap2, hv⟩ := shape
    refine wpList_append_own_none hgd s x 51 ho base 3 i0 1 Tryz.underlying51 hi v l.length _ hs hl hx ?_
    have h2 := h sp2 cap2 w (by rw [List.append_nil, ← hv]; exact hl) (Below.refl _ _) (Nat.le_refl _)
    rw [List.append_nil, ← hv] at h2
    exact h2
  · refine wpList_append_own_at w hgd s x 51 ho base 3 i0 (.int .i64 0) 1 8 Tryz.underlying51 hi hz0 hz1 hz2 rfl (by decide) v l.length _ hs hl ⟨g, 0, none⟩ m.length cap (m.map dgV) hx (by simp) (fun j y hj => ?_) (fun y hy => ?_) (by unfold maxLen; omega) (by omega) hbase ?_
    · rw [List.getElem?_map] at hj
      obtain ⟨z, hz, rfl⟩ := Option.map_eq_some_iff.1 hj
      rw [show (⟨g, 0, none⟩ : Addr).add j = ⟨g, j, none⟩ by unfold Addr.add; split <;> simp_all]
      exact hc j z hz
    · obtain ⟨z, _, rfl⟩ := List.mem_map.1 hy
      rfl
    · intro v' w2 hown' hg _ _
      have hown2 : NatsO w2 base v' (l ++ m) := by unfold NatsO; rw [List.length_append, List.map_append]; exact hown'
      have shape2 : ∃ sp cap, v' = .slice sp (l ++ m).length cap := by
        rcases hown2.2 with ⟨h1, h2⟩ | ⟨g, cap, cur, h1, _⟩
        · exact ⟨none, 0, by rw [h1, h2]⟩
        · exact ⟨_, _, h1⟩
      obtain ⟨sp4, cap4, e4⟩ := shape2
      subst e4
      exact h sp4 cap4 w2 hown2 (Below.grown (Below.refl _ _) hg hbase (fun k e => hown k e)) hg.size

theorem empty_nats (w : World) : NatsO (w.alloc (.cells #[] 3)) w.heap.size (.slice (some ⟨w.heap.size, 0, none⟩) 0 0) [] :=
  ⟨by simp, Or.inr ⟨w.heap.size, 0, _, rfl, Nat.le_refl _, heap_alloc_new _ _, Nat.le_refl _, Nat.zero_le _, by simp, by simp⟩⟩
end
end Go.Proofs.YtfcplpejifmohaaGreatDoor

/-
  A number of the document's, in memory.
-/
namespace Go.Proofs.YtfcplpejifmohaaGreatDoor
open Go.RowKit Go.Maps Go.WideMaps

/-- sign and digits of n -/
def BigR (w : World) (b : Bool) (sp : Option Addr) (k cap : Nat) (n : Int) : Prop := b = decide (n < 0) ∧ ∃ l, NatsR w (.slice sp k cap) l ∧ Nm l n.natAbs
/-- a function answers the number n, and only makes memory -/
def BigSays (w : World) (n : Int) (e : Ending) (w' : World) : Prop := ∃ b sp k cap, e = .returned (.agg #[.bool b, .slice sp k cap]) ∧ BigR w' b sp k cap n ∧ Only w w'
/-- a function answers digits that say n -/
def NatsSay (w : World) (K n : Nat) (e : Ending) (w' : World) : Prop := ∃ sp k cap l, e = .returned (.slice sp k cap) ∧ NatsR w' (.slice sp k cap) l ∧ Dg l ∧ bval l = n ∧ l.length ≤ K ∧ Only w w'
/-- the same, without 0 at the top -/
def NmSay (w : World) (n : Nat) (e : Ending) (w' : World) : Prop := ∃ sp k cap l, e = .returned (.slice sp k cap) ∧ NatsR w' (.slice sp k cap) l ∧ Nm l n ∧ Only w w'

theorem Only.cell {w w' : World} (t : Only w w') {b j : Nat} {v : Value} (h : w.cell? ⟨b, j, none⟩ = some v) : w'.cell? ⟨b, j, none⟩ = some v :=
  (Below.cell t (p := ⟨b, j, none⟩) (World.block_lt_of_cell? w _ h)).trans h

theorem BigR.only {w w' : World} {b : Bool} {sp : Option Addr} {k cap : Nat} {n : Int} (h : BigR w b sp k cap n) (t : Only w w') : BigR w' b sp k cap n := by
  obtain ⟨h1, l, h2, h3⟩ := h
  exact ⟨h1, l, h2.only t, h3⟩
theorem BigSays.before {w0 w : World} {n : Int} {e : Ending} {w' : World} (h : BigSays w n e w') (t : Only w0 w) : BigSays w0 n e w' := by
  obtain ⟨b, sp, k, cap, h1, h2, h3⟩ := h
  exact ⟨b, sp, k, cap, h1, h2, t.trans h3⟩

theorem Only.drewNB {a b : World} (h : Only a b) (n : Nat) : Only a (b.drewN n) := by
  induction n with
  | zero => exact h
  | succ n ih => exact ih.drew

theorem NatsR.form {w : World} {v : Value} {l : List Nat} (h : NatsR w v l) : ∃ sp cap, v = .slice sp l.length cap ∧ l.length ≤ cap ∧ cap ≤ 9223372036854775807 ∧ (∀ j x, l[j]? = some x → ∃ g, sp = some ⟨g, 0, none⟩ ∧ w.cell? ⟨g, j, none⟩ = some (dgV x)) := by
  rcases h with ⟨rfl, rfl⟩ | ⟨g, cap, rfl, h2, h3, h4⟩
  · exact ⟨none, 0, rfl, Nat.le_refl _, by omega, fun j x hj => by simp at hj⟩
  · exact ⟨some ⟨g, 0, none⟩, cap, rfl, h2, h3, fun j x hj => ⟨g, rfl, h4 j x hj⟩⟩

theorem NatsR.cut {w : World} {sp : Option Addr} {k cap : Nat} {l : List Nat} (h : NatsR w (.slice sp k cap) l) {n : Nat} (hn : n ≤ l.length) : NatsR w (.slice sp n cap) (l.take n) := by
  rcases h with ⟨h1, rfl⟩ | ⟨g, cap', h1, h2, h3, h4⟩
  · simp only [Value.slice.injEq] at h1
    obtain ⟨rfl, rfl, rfl⟩ := h1
    simp at hn; subst hn
    exact Or.inl ⟨rfl, rfl⟩
  · simp only [Value.slice.injEq] at h1
    obtain ⟨rfl, rfl, rfl⟩ := h1
    refine Or.inr ⟨g, cap, by rw [List.length_take, Nat.min_eq_left hn], by rw [List.length_take]; omega, h3, fun j x hj => h4 j x ?_⟩
    rw [List.getElem?_take] at hj
    split at hj
    · exact hj
    · cases hj

/-- the one digit that append takes -/
theorem one_nats (w : World) (x : Nat) : NatsR (w.alloc (.cells #[dgV x] 3)) (.slice (some ⟨w.heap.size, 0, none⟩) 1 1) [x] :=
  Or.inr ⟨w.heap.size, 1, rfl, Nat.le_refl _, by omega, fun j y hj => by
    rcases j with _ | j
    · simp at hj; subst hj; simp only [World.cell?]; rw [heap_alloc_new]; rfl
    · simp at hj⟩

theorem one_int (w : World) {e : Int} {n : Nat} (h : e = n) : NatsR (w.alloc (.cells #[.int .i64 e] 3)) (.slice (some ⟨w.heap.size, 0, none⟩) 1 1) [n] := by
  subst h; exact one_nats w n
theorem NatsO.form {w : World} {base : Nat} {v : Value} {l : List Nat} (h : NatsO w base v l) : ∃ sp cap, v = .slice sp l.length cap := by
  rcases h.2 with ⟨h1, h2⟩ | ⟨g, cap, cur, h1, _⟩
  · exact ⟨none, 0, by rw [h1, h2]⟩
  · exact ⟨_, _, h1⟩

theorem NatsO.nil (w : World) (base : Nat) : NatsO w base (.slice none 0 0) [] := World.ownsRow_nil _ _ _ _

theorem NatsO.only {w w' : World} {base : Nat} {v : Value} {l : List Nat} (h : NatsO w base v l) (t : Only w w') : NatsO w' base v l := by
  refine ⟨h.1, ?_⟩
  rcases h.2 with k | ⟨g, cap, cur, e1, hg, hh, r⟩
  · exact Or.inl k
  · exact Or.inr ⟨g, cap, cur, e1, hg, (t.block g (Array.getElem?_eq_some_iff.1 hh).1).trans hh, r⟩
theorem append_nats2 {w : World} {ops : Array Oper} {rest : List Oper} {o : Oper} {a : Act} {Qx : Exit → Act → World → Prop} (hgd : o.guard = none) (s x : Operand)
    (ho : o.op = .call { callee := .builtin .append, args := #[s, x], argTypes := #[51, 51] }) {base : Nat} {v u : Value} {l m r : List Nat} {k : Nat} (hs : a.eval s = v) (hx : a.eval x = u)
    (hl : NatsO w base v l) (hm : NatsR w u m) (hr : l ++ m = r) (hk : r.length = k) (hn : k ≤ 1000000000) (hbase : base ≤ w.heap.size)
    (h : ∀ sp cap w', NatsO w' base (.slice sp k cap) r → Below base w w' → w.heap.size ≤ w'.heap.size → wpList Tryz.prog ops Qx rest (a.put o.dst (.slice sp k cap)) w') :
    wpList Tryz.prog ops Qx (o :: rest) a w := by
  subst hr; subst hk
  exact append_nats hgd s x ho hs hx hl hm (by rw [← List.length_append]; exact hn) hbase h

theorem Only.below {w a b : World} {B : Nat} (h : Only w a) (k : Below B a b) (hB : w.heap.size ≤ B) : Only w b := Below.trans h (Below.mono k hB)
theorem Own2.belowN {w w' : World} {B b : Nat} {x y : Value} (h : Own2 w b x y) (k : Below B w w') (hB : b < B) : Own2 w' b x y := by
  obtain ⟨ty, h⟩ := h
  exact ⟨ty, (k.block b hB).trans h⟩
theorem NatsR.below {w w' : World} {B : Nat} {v : Value} {l : List Nat} (h : NatsR w v l) (k : Below B w w') (hB : ∀ g j x, w.cell? ⟨g, j, none⟩ = some x → v.ownBlock = some g → g < B) : NatsR w' v l := by
  rcases h with h | ⟨g, cap, h1, h2, h3, h4⟩
  · exact Or.inl h
  · refine Or.inr ⟨g, cap, h1, h2, h3, fun j x hj => ?_⟩
    have e := h4 j x hj
    have hb := hB g j _ e (by rw [h1]; rfl)
    exact (Below.cell k (p := ⟨g, j, none⟩) hb).trans e
theorem NatsO.far {w : World} {base p : Nat} {v : Value} {l : List Nat} (h : NatsO w base v l) (hp : p < base) (j : Nat) (u : Value) : NatsO (w.setCell ⟨p, j, none⟩ u) base v l := by
  refine ⟨h.1, ?_⟩
  rcases h.2 with k | ⟨g, cap, cur, e1, hg, hh, r⟩
  · exact Or.inl k
  · exact Or.inr ⟨g, cap, cur, e1, hg, (heap_setCell_other (by omega) u).trans hh, r⟩
/-- what was there before a block was laid stands below it -/
theorem NatsR.old {w w' W : World} {B : Nat} {v : Value} {l : List Nat} (h : NatsR w v l) (t : Only w W) (k : Below B W w') (hB : w.heap.size ≤ B) : NatsR w' v l :=
  h.only (t.below k hB)

/-- digits are no number's box -/
theorem NatsR.apart {w : World} {v : Value} {l : List Nat} (h : NatsR w v l) {R : Nat} {b : Bool} {s : Option Addr} {k c : Nat} (o : Own2 w R (.bool b) (.slice s k c)) (b' : Bool) (s' : Option Addr) (k' c' : Nat) :
    NatsR ((w.setCell ⟨R, 0, none⟩ (.bool b')).setCell ⟨R, 1, none⟩ (.slice s' k' c')) v l := by
  rcases h with h | ⟨g, cap, h1, h2, h3, h4⟩
  · exact Or.inl h
  · refine Or.inr ⟨g, cap, h1, h2, h3, fun j x hj => ?_⟩
    have e := h4 j x hj
    have hne : g ≠ R := by
      rintro rfl
      obtain ⟨ty, hc⟩ := o
      simp only [World.cell?, hc] at e
      rcases j with _ | _ | j
      · simp [dgV] at e
      · simp [dgV] at e
      · simp at e
    rw [World.cell?_of_block (heap_setCell_other hne _), World.cell?_of_block (heap_setCell_other hne _)]
    exact e
theorem BigR.apart {w : World} {b0 : Bool} {sp : Option Addr} {k0 cap : Nat} {n : Int} (h : BigR w b0 sp k0 cap n) {R : Nat} {b : Bool} {s : Option Addr} {k c : Nat} (o : Own2 w R (.bool b) (.slice s k c)) (b' : Bool) (s' : Option Addr) (k' c' : Nat) :
    BigR ((w.setCell ⟨R, 0, none⟩ (.bool b')).setCell ⟨R, 1, none⟩ (.slice s' k' c')) b0 sp k0 cap n := by
  obtain ⟨h1, l, h2, h3⟩ := h
  exact ⟨h1, l, h2.apart o _ _ _ _, h3⟩

/-- a number's box: its block, what it holds -/
abbrev BigAt (w : World) (R : Nat) (b : Bool) (s : Option Addr) (k c : Nat) : Prop := Own2 w R (.bool b) (.slice s k c)
/-- an empty box -/
abbrev box0 : Obj := .cells #[.bool false, .slice none 0 0] 53
abbrev boxOf (b : Bool) (s : Option Addr) (k c : Nat) : Obj := .cells #[.bool b, .slice s k c] 53

/-- three boxes laid -/
theorem boxes3 (w : World) (b1 b2 : Bool) (s1 s2 : Option Addr) (k1 c1 k2 c2 : Nat) :
    Only w (((w.alloc (boxOf b1 s1 k1 c1)).alloc (boxOf b2 s2 k2 c2)).alloc box0) ∧ BigAt (((w.alloc (boxOf b1 s1 k1 c1)).alloc (boxOf b2 s2 k2 c2)).alloc box0) w.heap.size b1 s1 k1 c1 ∧
      BigAt (((w.alloc (boxOf b1 s1 k1 c1)).alloc (boxOf b2 s2 k2 c2)).alloc box0) (w.heap.size + 1) b2 s2 k2 c2 ∧ BigAt (((w.alloc (boxOf b1 s1 k1 c1)).alloc (boxOf b2 s2 k2 c2)).alloc box0) (w.heap.size + 1 + 1) false none 0 0 :=
  ⟨(((Only.refl w).alloc _).alloc _).alloc _, ((Own2.new w _ _ _).alloc _).alloc _, (Own2.new1 w _ _ _ _).alloc _, Own2.new2 w _ _ _ _ _⟩
theorem boxes2 (w : World) (b1 b2 : Bool) (s1 s2 : Option Addr) (k1 c1 k2 c2 : Nat) :
    Only w ((w.alloc (boxOf b1 s1 k1 c1)).alloc (boxOf b2 s2 k2 c2)) ∧ BigAt ((w.alloc (boxOf b1 s1 k1 c1)).alloc (boxOf b2 s2 k2 c2)) w.heap.size b1 s1 k1 c1 ∧
      BigAt ((w.alloc (boxOf b1 s1 k1 c1)).alloc (boxOf b2 s2 k2 c2)) (w.heap.size + 1) b2 s2 k2 c2 :=
  ⟨((Only.refl w).alloc _).alloc _, (Own2.new w _ _ _).alloc _, Own2.new1 w _ _ _ _⟩
theorem boxes11 (w : World) (b1 : Bool) (s1 : Option Addr) (k1 c1 : Nat) :
    Only w ((w.alloc (boxOf b1 s1 k1 c1)).alloc box0) ∧ BigAt ((w.alloc (boxOf b1 s1 k1 c1)).alloc box0) w.heap.size b1 s1 k1 c1 ∧ BigAt ((w.alloc (boxOf b1 s1 k1 c1)).alloc box0) (w.heap.size + 1) false none 0 0 :=
  boxes2 w b1 false s1 none k1 c1 0 0

/-- append, as one step of a region that draws its order -/
theorem step_nats {w : World} {ops : Array Oper} {o : Oper} {a : Act} {K : Act → World → Prop} {Qx : Exit → Act → World → Prop} {E : Prop} (hgd : o.guard = none) (s x : Operand)
    (ho : o.op = .call { callee := .builtin .append, args := #[s, x], argTypes := #[51, 51] }) {base : Nat} {v u : Value} {l m r : List Nat} {k : Nat} (hs : a.eval s = v) (hx : a.eval x = u)
    (hl : NatsO w base v l) (hm : NatsR w u m) (hr : l ++ m = r) (hk : r.length = k) (hn : k ≤ 1000000000) (hbase : base ≤ w.heap.size)
    (h : ∀ sp cap w', NatsO w' base (.slice sp k cap) r → Below base w w' → w.heap.size ≤ w'.heap.size → K (a.put o.dst (.slice sp k cap)) w') :
    if Region.wanted o (yielded ops a.tmps) = true then Oper.wp Tryz.prog o a w K Qx else E := by
  have hw : Region.wanted o (yielded ops a.tmps) = true := by simp [Region.wanted, hgd]
  rw [if_pos hw]
  subst hr; subst hk
  obtain ⟨i0, hi, hz0, hz1, hz2⟩ := info_parts infoInt
  have hown : ∀ r, v.ownBlock = some r → base ≤ r := fun r hr => by
    rcases hl.2 with ⟨rfl, _⟩ | ⟨g, cap, cur, rfl, hg, _⟩
    · cases hr
    · simp [Value.ownBlock] at hr; omega
  rw [List.length_append] at hn h
  rcases hm with ⟨rfl, rfl⟩ | ⟨g, cap, rfl, hlc, hcap, hc⟩
  · obtain ⟨sp2, cap2, hv⟩ := hl.form
    have hrun := run_append_owned_none (P := Tryz.prog) (w := w) base 51 o.type 3 i0 1 Tryz.underlying51 hi v l.length _ hl
    unfold Oper.wp
    simp [execOp, ho, resolve, invoke, builtin, hs, hx, hrun, Result.andThen]
    have h2 := h sp2 cap2 w (by rw [List.append_nil, List.length_nil, Nat.add_zero, ← hv]; exact hl) (Below.refl _ _) (Nat.le_refl _)
    rw [List.length_nil, Nat.add_zero, ← hv] at h2
    exact h2
  · obtain ⟨v', w2, hrun, hown', hg, -, -⟩ := run_append_own_at (P := Tryz.prog) (w := w) base 51 o.type 3 i0 (.int .i64 0) 1 8 Tryz.underlying51 hi hz0 hz1 hz2 rfl (by decide) v l.length _ hl ⟨g, 0, none⟩ m.length cap (m.map dgV) (by simp) (fun j y hj => by
      rw [List.getElem?_map] at hj
      obtain ⟨z, hz, rfl⟩ := Option.map_eq_some_iff.1 hj
      rw [show (⟨g, 0, none⟩ : Addr).add j = ⟨g, j, none⟩ by unfold Addr.add; split <;> simp_all]
      exact hc j z hz) (fun y hy => by
      obtain ⟨z, _, rfl⟩ := List.mem_map.1 hy
      rfl) (by unfold maxLen; omega) (by omega) hbase
    unfold Oper.wp
    simp [execOp, ho, resolve, invoke, builtin, hs, hx, hrun, Result.andThen]
    have hown2 : NatsO w2 base v' (l ++ m) := by unfold NatsO; rw [List.length_append, List.map_append]; exact hown'
    obtain ⟨sp4, cap4, e4⟩ := hown2.form
    rw [List.length_append] at e4
    subst e4
    exact h sp4 cap4 w2 hown2 (Below.grown (Below.refl _ _) hg hbase (fun k e => hown k e)) hg.size
end Go.Proofs.YtfcplpejifmohaaGreatDoor

/-
  Without 0 at the top.
-/
namespace Go.Proofs.YtfcplpejifmohaaGreatDoor
open Go.RowKit Go.Maps Go.WideMaps

/-- what the loop keeps: n digits stand, and say all -/
def Stands (l : List Nat) (n : Nat) : Prop := n ≤ l.length ∧ bval (l.take n) = bval l

theorem Stands.start (l : List Nat) : Stands l l.length := ⟨Nat.le_refl _, by rw [List.take_length]⟩
theorem Stands.next {l : List Nat} {n : Nat} (h : Stands l (n + 1)) (hz : l[n]'(by have := h.1; omega) = 0) : Stands l n := by
  have := h.1
  exact ⟨by omega, bval_strip (by omega) hz h.2⟩
theorem Stands.top {l : List Nat} {n : Nat} (h : Stands l n) (hz : ∀ (hn : 0 < n), l[n - 1]'(by have := h.1; omega) ≠ 0) : Top (l.take n) := fun d hd => by
  have h1 := h.1
  rcases Nat.eq_zero_or_pos n with rfl | hn
  · simp at hd
  · rw [List.getLast?_eq_getElem?, List.length_take, Nat.min_eq_left h1, List.getElem?_take_of_lt (by omega), List.getElem?_eq_getElem (by omega)] at hd
    have := hz hn
    simp only [Option.some.injEq] at hd
    rw [← hd]; exact this

/-- the number that a sign and digits say -/
def sgn (neg : Bool) (n : Nat) : Int := if neg then -(n : Int) else n
theorem sgn_abs (neg : Bool) (n : Nat) : (sgn neg n).natAbs = n := by unfold sgn; split <;> omega
theorem sgn_neg {neg : Bool} {n : Nat} (h : 0 < n) : decide (sgn neg n < 0) = neg := by unfold sgn; cases neg <;> simp <;> omega
theorem sgn_zero (neg : Bool) : sgn neg 0 = 0 := by unfold sgn; split <;> rfl

/-- the end of trim -/
theorem trim_done {w w' : World} {neg : Bool} {l : List Nat} {n : Nat} (hd : Dg l) (hs : Stands l n) (hz : ∀ (hn : 0 < n), l[n - 1]'(by have := hs.1; omega) ≠ 0) {b : Bool} (hb : b = (neg && decide (0 < n))) {sp : Option Addr} {k cap : Nat} (hr : NatsR w' (.slice sp k cap) (l.take n)) (t : Only w w') :
    BigSays w (sgn neg (bval l)) (.returned (.agg #[.bool b, .slice sp k cap])) w' := by
  have hn : Nm (l.take n) (bval l) := ⟨hd.take n, hs.top hz, hs.2⟩
  refine ⟨b, sp, k, cap, rfl, ⟨?_, l.take n, hr, by rw [sgn_abs]; exact hn⟩, t⟩
  rw [hb]
  rcases Nat.eq_zero_or_pos n with rfl | hp
  · have e : bval l = 0 := by rw [← hs.2]; rfl
    rw [e, sgn_zero]; simp
  · have : 0 < bval l := hn.pos (by intro e; have := congrArg List.length e; rw [List.length_take, Nat.min_eq_left hs.1] at this; simp at this; omega)
    rw [sgn_neg this]; simp [hp]

/-- the number's box, and what append leaves -/
theorem trim_nats {w : World} {v : Value} {m : List Nat} (h : NatsR w v m) (o p : Obj) : NatsR ((w.alloc o).alloc p) v m := h.only (((Only.refl w).alloc _).alloc _)
theorem trim_own (w : World) (o : Obj) : NatsO ((w.alloc o).alloc (.cells #[] 3)) (w.heap.size + 1) (.slice (some ⟨w.heap.size + 1, 0, none⟩) 0 0) [] := by
  have := empty_nats (w.alloc o)
  simpa using this

theorem trim_w {w w4 : World} (hb : Below (w.heap.size + 1) ((w.alloc (.cells #[.bool false, .slice none 0 0] 53)).alloc (.cells #[] 3)) w4) : Own2 w4 w.heap.size (.bool false) (.slice none 0 0) ∧ Only w w4 :=
  ⟨((Own2.new w _ _ 53).alloc _).belowN hb (by omega), (((Only.refl w).alloc _).alloc _).below hb (by omega)⟩

set_option maxHeartbeats 1600000 in
theorem trim_nil {neg : Bool} {w : World} : Calls Tryz.prog 38 #[.bool neg, .slice none 0 0] w (BigSays w (sgn neg 0)) := by
  have HO := trim_own w (.cells #[.bool false, .slice none 0 0] 53)
  have HR := trim_nats (Or.inl ⟨rfl, rfl⟩ : NatsR w (.slice none 0 0) []) (.cells #[.bool false, .slice none 0 0] 53) (.cells #[] 3)
  have HO := Lib.hid HO
  have HR := Lib.hid HR
  cases neg
  all_goals
    go_enter Tryz.func38, Tryz.ntmps38
    go_wp2_with fail
    refine wp_loop_rounds 1 ?_
    rw [rounds_succ]
    go_wp2_with (at_builtin; refine append_nats2 rfl (.tmp 25) (.tmp 28) rfl (base := w.heap.size + 1) rfl rfl HO.out HR.out (List.nil_append _) rfl (by decide) (by simp) ?_)
    intro sp4 cap4 w4 hown hb hs
    obtain ⟨o4, t4⟩ := trim_w hb
    have HW := Lib.hid hown
    have T4 := Lib.hid t4
    have OO := Lib.hid o4
    obtain ⟨ca, cb, fa, fb, z⟩ := o4.all
    clear hown hb t4 hs o4
    go_wp2
    simp [bodyPost, results, Tryz.results38, go_sem, World.cell?_setCell_other, ca, cb]
    exact trim_done (w := w) (l := []) (n := 0) Dg.nil (Stands.start []) (fun h => absurd h (by decide)) (by simp) ((HW.out.far (by omega) 0 _).far (by omega) 1 _).toR ((T4.out.set (Nat.le_refl _) 0 _).set (Nat.le_refl _) 1 _)

set_option maxHeartbeats 1600000 in
theorem trim_some {neg : Bool} {g cap : Nat} {l : List Nat} {w : World} (h : NatsR w (.slice (some ⟨g, 0, none⟩) l.length cap) l) (hd : Dg l) (hl : l.length ≤ 100000) :
    Calls Tryz.prog 38 #[.bool neg, .slice (some ⟨g, 0, none⟩) l.length cap] w (BigSays w (sgn neg (bval l))) := by
  obtain ⟨sp, cap', e0, h2, h3, h5⟩ := h.form
  simp only [Value.slice.injEq] at e0
  obtain ⟨rfl, -, rfl⟩ := e0
  have H := Lib.hid h
  have H5 := Lib.hid h5
  have HD := Lib.hid hd
  have i9 : (l.length : Int) ≤ 100000 := by omega
  have HO := trim_own w (.cells #[.bool false, .slice none 0 0] 53)
  have HO := Lib.hid HO
  clear h h5 hd
  go_enter Tryz.func38, Tryz.ntmps38
  go_wp2_with fail
  obtain ⟨N, hN⟩ : ∃ N, N = l.length := ⟨_, rfl⟩
  have HN := Lib.hid hN
  clear hN
  go_loop [5] (fun i => ∃ n : Nat, i = .int .i64 n ∧ Stands l n) (fun i => (intOf i).toNat)
  case atStart => exact ⟨l.length, rfl, Stands.start l⟩
  case round =>
    obtain ⟨n, rfl, hs⟩ := hrel
    have hle := hs.1
    have hnN : (n : Int) ≤ l.length := by omega
    have HS := Lib.hid hs
    have HLE := Lib.hid hle
    have hcap : (n : Int) ≤ cap := by omega
    have HR := trim_nats (H.out.cut hle) (.cells #[.bool false, .slice none 0 0] 53) (.cells #[] 3)
    have HR := Lib.hid HR
    clear hs hle
    rcases Nat.eq_zero_or_pos n with h0 | hpos
    · have t0 : decide (0 < n) = false := by simp; omega
      have t1 : decide ((0 : Int) < (n : Int)) = false := by simp; omega
      have H0 := Lib.hid h0
      clear h0
      cases neg
      all_goals
        go_wp2_with (at_builtin; refine append_nats2 rfl (.tmp 25) (.tmp 28) rfl (base := w.heap.size + 1) rfl rfl HO.out HR.out (List.nil_append _) (by rw [List.length_take, Nat.min_eq_left HLE.out]) (by omega) (by simp) ?_)
        intro sp4 cap4 w4 hown hb hs
        obtain ⟨o4, t4⟩ := trim_w hb
        have HW := Lib.hid hown
        have T4 := Lib.hid t4
        have OO := Lib.hid o4
        obtain ⟨ca, cb, fa, fb, z⟩ := o4.all
        clear hown hb t4 hs o4
        go_wp2
        simp [bodyPost, results, Tryz.results38, go_sem, World.cell?_setCell_other, ca, cb]
        exact trim_done (w := w) (l := l) (n := n) HD.out HS.out (fun h => absurd h (by have := H0.out; omega)) (by simp [H0.out]) ((HW.out.far (by omega) 0 _).far (by omega) 1 _).toR ((T4.out.set (Nat.le_refl _) 0 _).set (Nat.le_refl _) 1 _)
    · obtain ⟨k, rfl⟩ : ∃ k, n = k + 1 := ⟨n - 1, by omega⟩
      have hk : k < l.length := by have := HLE.out; omega
      obtain ⟨g, e1, c1⟩ := H5.out k l[k] (List.getElem?_eq_getElem hk)
      simp only [Option.some.injEq, Addr.mk.injEq, and_true] at e1
      subst e1
      have c1 := ((Only.refl w).alloc (.cells #[.bool false, .slice none 0 0] 53)).cell c1
      unfold dgV at c1
      have i0 : (0 : Int) ≤ (k : Int) := by omega
      have i1 : (k : Int) < (l.length : Int) := by omega
      have hnx := fun h => HS.out.next (n := k) h
      obtain ⟨x, hx⟩ : ∃ x, x = l[k] := ⟨_, rfl⟩
      rw [← hx] at c1 hnx
      have NX := Lib.hid hnx
      clear hnx hpos
      by_cases hz : x = 0
      · have t1 : ((x : Int) == 0) = true := by simp; omega
        have HZ := Lib.hid hz
        clear hz hx
        go_wp2_with fail
        go_round
        case rel => exact ⟨k, by go_num, NX.out HZ.out⟩
        case measure => simp [intOf]
      · have t1 : ((x : Int) == 0) = false := by simp; omega
        have HZ := Lib.hid hz
        have HX := Lib.hid hx
        clear hz hx
        cases neg
        all_goals
          go_wp2_with (at_builtin; refine append_nats2 rfl (.tmp 25) (.tmp 28) rfl (base := w.heap.size + 1) rfl rfl HO.out HR.out (List.nil_append _) (by rw [List.length_take, Nat.min_eq_left HLE.out]) (by omega) (by simp) ?_)
          intro sp4 cap4 w4 hown hb hs
          obtain ⟨o4, t4⟩ := trim_w hb
          have HW := Lib.hid hown
          have T4 := Lib.hid t4
          have OO := Lib.hid o4
          obtain ⟨ca, cb, fa, fb, z⟩ := o4.all
          clear hown hb t4 hs o4
          go_wp2
          simp [bodyPost, results, Tryz.results38, go_sem, World.cell?_setCell_other, ca, cb]
          exact trim_done (w := w) (l := l) (n := (k + 1)) HD.out HS.out (fun _ => by have e := HX.out; intro e2; exact HZ.out (by rw [e]; exact e2)) (by simp) ((HW.out.far (by omega) 0 _).far (by omega) 1 _).toR ((T4.out.set (Nat.le_refl _) 0 _).set (Nat.le_refl _) 1 _)

theorem trim_any {neg : Bool} {v : Value} {l : List Nat} {w : World} (h : NatsR w v l) (hd : Dg l) (hl : l.length ≤ 100000) :
    Calls Tryz.prog 38 #[.bool neg, v] w (BigSays w (sgn neg (bval l))) := by
  rcases h with ⟨rfl, rfl⟩ | ⟨g, cap, rfl, h2, h3, h4⟩
  · exact trim_nil
  · exact trim_some (Or.inr ⟨g, cap, rfl, h2, h3, h4⟩) hd hl
end Go.Proofs.YtfcplpejifmohaaGreatDoor

/-
  The number of an int, of a word; powers of two.
-/
namespace Go.Proofs.YtfcplpejifmohaaGreatDoor
open Go.RowKit Go.Maps Go.WideMaps

theorem of_done {N : Int} {l : List Nat} (h : Making N.natAbs l 0) : sgn (decide (N < 0)) (bval l) = N := by
  rw [h.done]; unfold sgn; by_cases c : N < 0 <;> simp [c] <;> omega

theorem box0_new (w : World) : Only w (w.alloc box0) ∧ BigAt (w.alloc box0) w.heap.size false none 0 0 := ⟨(Only.refl w).alloc _, Own2.new w _ _ _⟩

set_option maxRecDepth 100000 in
set_option maxHeartbeats 3200000 in
theorem bigOf_any {N : Int} (h0 : -9223372036854775808 ≤ N) (h1 : N < 9223372036854775808) (w : World) : Calls Tryz.prog 19 #[.int .i64 N] w (BigSays w N) := by
  have M0 : Making N.natAbs [] N.natAbs := Making.start (by omega)
  obtain ⟨t0, o0⟩ := box0_new w
  have O0 := Lib.hid o0
  have T0 := Lib.hid t0
  have M0 := Lib.hid M0
  clear o0 t0
  obtain ⟨ng, hng⟩ : ∃ b, b = decide (N < 0) := ⟨_, rfl⟩
  have hng' : decide (N < 0) = ng := hng.symm
  have HNG := Lib.hid hng
  clear hng
  go_enter Tryz.func19, Tryz.ntmps19
  go_wp2_with fail
  go_loopw [0, 4] (fun n d wr => ∃ (m : Int) (l : List Nat), n = .int .i64 m ∧ NatsO wr (w.heap.size + 1) d l ∧ Making N.natAbs l m.natAbs ∧ -9223372036854775808 ≤ m ∧ m < 9223372036854775808 ∧ BigAt wr w.heap.size false none 0 0 ∧ Only w wr) (fun n _ _ => (intOf n).natAbs)
  case atStart => exact ⟨N, [], rfl, NatsO.nil _ _, M0.out, h0, h1, O0.out, T0.out⟩
  case round =>
    obtain ⟨m, l, rfl, hd, hm, m0, m1, ho, ht⟩ := hrel
    obtain ⟨sp, cap, rfl⟩ := hd.form
    have HD := Lib.hid hd
    have HM := Lib.hid hm
    have HO := Lib.hid ho
    have HT := Lib.hid ht
    clear hd hm ho ht
    by_cases hz : m = 0
    · have tz : (m != 0) = false := by simpa using hz
      have HZ := Lib.hid hz
      have hm := HM.out
      rw [hz] at hm
      have HN := Lib.hid (of_done hm)
      have HL := Lib.hid hm.len
      clear hz hm
      go_wp2_with fail
      go_at_call 38
      refine (trim_any HD.out.toR HM.out.dg (by have := HL.out; omega)).mono ?_
      rintro r w4 ⟨b6, s6, k6, c6, rfl, hb6, t4⟩
      have p3 := HO.out.only t4
      have p5 := HT.out.trans t4
      obtain ⟨g1, g2, g3, g4, g5⟩ := p3.all
      rw [HNG.out, HN.out] at hb6
      have HB := Lib.hid (hb6.apart p3 b6 s6 k6 c6)
      have HT := Lib.hid ((p5.set (p := w.heap.size) (by omega) 0 (.bool b6)).set (p := w.heap.size) (by omega) 1 (.slice s6 k6 c6))
      clear p3 p5 hb6 t4 
      go_wp2
      simp [bodyPost, results, Tryz.results19, go_sem, World.cell?_setCell_other, g1, g2]
      exact ⟨b6, s6, k6, c6, rfl, HB.out, HT.out⟩
    · have tz : (m != 0) = true := by simpa using hz
      have hst := HM.out.next (show m.natAbs ≠ 0 by omega)
      obtain ⟨X, hX⟩ : ∃ X, m.tmod 10000 = X := ⟨_, rfl⟩
      obtain ⟨Q, hQ⟩ : ∃ Q, m.tdiv 10000 = Q := ⟨_, rfl⟩
      have eX : X.natAbs = m.natAbs % 10000 := by rw [← hX, Int.natAbs_tmod]; rfl
      have eQ : Q.natAbs = m.natAbs / 10000 := by rw [← hQ, Int.natAbs_tdiv]; rfl
      rw [← eX, ← eQ] at hst
      have HST := Lib.hid hst
      have x0 : -9999 ≤ X := by omega
      have x1 : X ≤ 9999 := by omega
      have q0 : -922337203685477 ≤ Q := by omega
      have q1 : Q ≤ 922337203685477 := by omega
      have hlt : Q.natAbs < m.natAbs := by omega
      have HLT := Lib.hid hlt
      clear hst eX eQ hlt hz
      by_cases hn : X < 0
      · have tn : decide (X < 0) = true := by simpa using hn
        have HMM := Lib.hid (one_int wr (e := -X) (n := X.natAbs) (by omega))
        have HO1 := Lib.hid (HD.out.only ((Only.refl wr).alloc (.cells #[.int .i64 (-X)] 3)))
        clear hn
        go_wp2_with (at_builtin; refine append_nats2 rfl (.tmp 16) (.tmp 18) rfl (base := w.heap.size + 1) rfl rfl HO1.out HMM.out rfl (List.length_append ..) (by have := HM.out.len; simp; omega) (by have := HO.out.lt; simp; omega) ?_)
        intro sp4 cap4 w4 hown hb4 hs4
        have HW := Lib.hid hown
        have T4 := Lib.hid ((HT.out.alloc _).below hb4 (by omega))
        have O4 := Lib.hid ((HO.out.alloc _).belowN hb4 (by omega))
        clear hown hb4 hs4
        go_wp2
        go_roundw
        case rel => exact ⟨Q, l ++ [X.natAbs], rfl, HW.out, HST.out, by omega, by omega, O4.out, T4.out⟩
        case measure => have := HLT.out; simp [intOf]; omega
      · have tn : decide (X < 0) = false := by simpa using hn
        have HMM := Lib.hid (one_int wr (e := X) (n := X.natAbs) (by omega))
        have HO1 := Lib.hid (HD.out.only ((Only.refl wr).alloc (.cells #[.int .i64 X] 3)))
        clear hn
        go_wp2_with (at_builtin; refine append_nats2 rfl (.tmp 16) (.tmp 18) rfl (base := w.heap.size + 1) rfl rfl HO1.out HMM.out rfl (List.length_append ..) (by have := HM.out.len; simp; omega) (by have := HO.out.lt; simp; omega) ?_)
        intro sp4 cap4 w4 hown hb4 hs4
        have HW := Lib.hid hown
        have T4 := Lib.hid ((HT.out.alloc _).below hb4 (by omega))
        have O4 := Lib.hid ((HO.out.alloc _).belowN hb4 (by omega))
        clear hown hb4 hs4
        go_wp2
        go_roundw
        case rel => exact ⟨Q, l ++ [X.natAbs], rfl, HW.out, HST.out, by omega, by omega, O4.out, T4.out⟩
        case measure => have := HLT.out; simp [intOf]; omega
end Go.Proofs.YtfcplpejifmohaaGreatDoor
