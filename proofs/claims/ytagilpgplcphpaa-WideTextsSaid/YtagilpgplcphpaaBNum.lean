/-
  A number of the document's, in memory.
-/
import Derived.Test.YtagilpgplcphpaaBMem
import Derived.Test.YtagilpgplcphpaaBPlain4
import Derived.LoopTactic
import Derived.Deep.RegionHeld3
namespace Go.Proofs.Ytagilpgplcphpaa
open Go.RowKit Go.Maps Go.WideMaps

/-- sign and digits of n -/
def BigR (w : World) (b : Bool) (sp : Option Addr) (k cap : Nat) (n : Int) : Prop := b = decide (n < 0) ∧ ∃ l, NatsR w (.slice sp k cap) l ∧ Nm l n.natAbs
/-- a function answers the number n, and only makes memory -/
def BigSays (w : World) (n : Int) (e : Ending) (w' : World) : Prop := ∃ b sp k cap, e = .returned (.agg #[.bool b, .slice sp k cap]) ∧ BigR w' b sp k cap n ∧ Only w w'
/-- a function answers digits that say n -/
def NatsSay (w : World) (K n : Nat) (e : Ending) (w' : World) : Prop := ∃ sp k cap l, e = .returned (.slice sp k cap) ∧ NatsR w' (.slice sp k cap) l ∧ Dg l ∧ bval l = n ∧ l.length ≤ K ∧ Only w w'
/-- the same, without 0 at the top -/
def NmSay (w : World) (n : Nat) (e : Ending) (w' : World) : Prop := ∃ sp k cap l, e = .returned (.slice sp k cap) ∧ NatsR w' (.slice sp k cap) l ∧ Nm l n ∧ Only w w'

theorem Only.cell {w w' : World} (t : Only w w') {b j : Nat} {v : Value} (h : w.cell? ⟨b, j, none⟩ = some v) : w'.cell? ⟨b, j, none⟩ = some v :=
  (Below.cell t (p := ⟨b, j, none⟩) (World.block_lt_of_cell? w _ h)).trans h

theorem BigR.only {w w' : World} {b : Bool} {sp : Option Addr} {k cap : Nat} {n : Int} (h : BigR w b sp k cap n) (t : Only w w') : BigR w' b sp k cap n := by
  obtain ⟨h1, l, h2, h3⟩ := h
  exact ⟨h1, l, h2.only t, h3⟩
theorem BigSays.before {w0 w : World} {n : Int} {e : Ending} {w' : World} (h : BigSays w n e w') (t : Only w0 w) : BigSays w0 n e w' := by
  obtain ⟨b, sp, k, cap, h1, h2, h3⟩ := h
  exact ⟨b, sp, k, cap, h1, h2, t.trans h3⟩

theorem Only.drewN {a b : World} (h : Only a b) (n : Nat) : Only a (b.drewN n) := by
  induction n with
  | zero => exact h
  | succ n ih => exact ih.drew

theorem NatsR.form {w : World} {v : Value} {l : List Nat} (h : NatsR w v l) : ∃ sp cap, v = .slice sp l.length cap ∧ l.length ≤ cap ∧ cap ≤ 9223372036854775807 ∧ (∀ j x, l[j]? = some x → ∃ g, sp = some ⟨g, 0, none⟩ ∧ w.cell? ⟨g, j, none⟩ = some (dgV x)) := by
  rcases h with ⟨rfl, rfl⟩ | ⟨g, cap, rfl, h2, h3, h4⟩
  · exact ⟨none, 0, rfl, Nat.le_refl _, by omega, fun j x hj => by simp at hj⟩
  · exact ⟨some ⟨g, 0, none⟩, cap, rfl, h2, h3, fun j x hj => ⟨g, rfl, h4 j x hj⟩⟩

theorem NatsR.cut {w : World} {sp : Option Addr} {k cap : Nat} {l : List Nat} (h : NatsR w (.slice sp k cap) l) {n : Nat} (hn : n ≤ l.length) : NatsR w (.slice sp n cap) (l.take n) := by
  rcases h with ⟨h1, rfl⟩ | ⟨g, cap', h1, h2, h3, h4⟩
  · simp only [Value.slice.injEq] at h1
    obtain ⟨rfl, rfl, rfl⟩ := h1
    simp at hn; subst hn
    exact Or.inl ⟨rfl, rfl⟩
  · simp only [Value.slice.injEq] at h1
    obtain ⟨rfl, rfl, rfl⟩ := h1
    refine Or.inr ⟨g, cap, by rw [List.length_take, Nat.min_eq_left hn], by rw [List.length_take]; omega, h3, fun j x hj => h4 j x ?_⟩
    rw [List.getElem?_take] at hj
    split at hj
    · exact hj
    · cases hj

/-- the one digit that append takes -/
theorem one_nats (w : World) (x : Nat) : NatsR (w.alloc (.cells #[dgV x] 3)) (.slice (some ⟨w.heap.size, 0, none⟩) 1 1) [x] :=
  Or.inr ⟨w.heap.size, 1, rfl, Nat.le_refl _, by omega, fun j y hj => by
    rcases j with _ | j
    · simp at hj; subst hj; simp only [World.cell?]; rw [heap_alloc_new]; rfl
    · simp at hj⟩

theorem one_int (w : World) {e : Int} {n : Nat} (h : e = n) : NatsR (w.alloc (.cells #[.int .i64 e] 3)) (.slice (some ⟨w.heap.size, 0, none⟩) 1 1) [n] := by
  subst h; exact one_nats w n
theorem NatsO.form {w : World} {base : Nat} {v : Value} {l : List Nat} (h : NatsO w base v l) : ∃ sp cap, v = .slice sp l.length cap := by
  rcases h.2 with ⟨h1, h2⟩ | ⟨g, cap, cur, h1, _⟩
  · exact ⟨none, 0, by rw [h1, h2]⟩
  · exact ⟨_, _, h1⟩

theorem NatsO.nil (w : World) (base : Nat) : NatsO w base (.slice none 0 0) [] := World.ownsRow_nil _ _ _ _

theorem NatsO.only {w w' : World} {base : Nat} {v : Value} {l : List Nat} (h : NatsO w base v l) (t : Only w w') : NatsO w' base v l := by
  refine ⟨h.1, ?_⟩
  rcases h.2 with k | ⟨g, cap, cur, e1, hg, hh, r⟩
  · exact Or.inl k
  · exact Or.inr ⟨g, cap, cur, e1, hg, (t.block g (Array.getElem?_eq_some_iff.1 hh).1).trans hh, r⟩
theorem append_nats2 {w : World} {ops : Array Oper} {rest : List Oper} {o : Oper} {a : Act} {Qx : Exit → Act → World → Prop} (hgd : o.guard = none) (s x : Operand)
    (ho : o.op = .call { callee := .builtin .append, args := #[s, x], argTypes := #[35, 35] }) {base : Nat} {v u : Value} {l m r : List Nat} {k : Nat} (hs : a.eval s = v) (hx : a.eval x = u)
    (hl : NatsO w base v l) (hm : NatsR w u m) (hr : l ++ m = r) (hk : r.length = k) (hn : k ≤ 1000000000) (hbase : base ≤ w.heap.size)
    (h : ∀ sp cap w', NatsO w' base (.slice sp k cap) r → Below base w w' → w.heap.size ≤ w'.heap.size → wpList Try.prog ops Qx rest (a.put o.dst (.slice sp k cap)) w') :
    wpList Try.prog ops Qx (o :: rest) a w := by
  subst hr; subst hk
  exact append_nats hgd s x ho hs hx hl hm (by rw [← List.length_append]; exact hn) hbase h

theorem Only.below {w a b : World} {B : Nat} (h : Only w a) (k : Below B a b) (hB : w.heap.size ≤ B) : Only w b := Below.trans h (Below.mono k hB)
theorem Own2.below {w w' : World} {B b : Nat} {x y : Value} (h : Own2 w b x y) (k : Below B w w') (hB : b < B) : Own2 w' b x y := by
  obtain ⟨ty, h⟩ := h
  exact ⟨ty, (k.block b hB).trans h⟩
theorem NatsR.below {w w' : World} {B : Nat} {v : Value} {l : List Nat} (h : NatsR w v l) (k : Below B w w') (hB : ∀ g j x, w.cell? ⟨g, j, none⟩ = some x → v.ownBlock = some g → g < B) : NatsR w' v l := by
  rcases h with h | ⟨g, cap, h1, h2, h3, h4⟩
  · exact Or.inl h
  · refine Or.inr ⟨g, cap, h1, h2, h3, fun j x hj => ?_⟩
    have e := h4 j x hj
    have hb := hB g j _ e (by rw [h1]; rfl)
    exact (Below.cell k (p := ⟨g, j, none⟩) hb).trans e
theorem NatsO.far {w : World} {base p : Nat} {v : Value} {l : List Nat} (h : NatsO w base v l) (hp : p < base) (j : Nat) (u : Value) : NatsO (w.setCell ⟨p, j, none⟩ u) base v l := by
  refine ⟨h.1, ?_⟩
  rcases h.2 with k | ⟨g, cap, cur, e1, hg, hh, r⟩
  · exact Or.inl k
  · exact Or.inr ⟨g, cap, cur, e1, hg, (heap_setCell_other (by omega) u).trans hh, r⟩
/-- what was there before a block was laid stands below it -/
theorem NatsR.old {w w' W : World} {B : Nat} {v : Value} {l : List Nat} (h : NatsR w v l) (t : Only w W) (k : Below B W w') (hB : w.heap.size ≤ B) : NatsR w' v l :=
  h.only (t.below k hB)

/-- digits are no number's box -/
theorem NatsR.apart {w : World} {v : Value} {l : List Nat} (h : NatsR w v l) {R : Nat} {b : Bool} {s : Option Addr} {k c : Nat} (o : Own2 w R (.bool b) (.slice s k c)) (b' : Bool) (s' : Option Addr) (k' c' : Nat) :
    NatsR ((w.setCell ⟨R, 0, none⟩ (.bool b')).setCell ⟨R, 1, none⟩ (.slice s' k' c')) v l := by
  rcases h with h | ⟨g, cap, h1, h2, h3, h4⟩
  · exact Or.inl h
  · refine Or.inr ⟨g, cap, h1, h2, h3, fun j x hj => ?_⟩
    have e := h4 j x hj
    have hne : g ≠ R := by
      rintro rfl
      obtain ⟨ty, hc⟩ := o
      simp only [World.cell?, hc] at e
      rcases j with _ | _ | j
      · simp [dgV] at e
      · simp [dgV] at e
      · simp at e
    rw [World.cell?_of_block (heap_setCell_other hne _), World.cell?_of_block (heap_setCell_other hne _)]
    exact e
theorem BigR.apart {w : World} {b0 : Bool} {sp : Option Addr} {k0 cap : Nat} {n : Int} (h : BigR w b0 sp k0 cap n) {R : Nat} {b : Bool} {s : Option Addr} {k c : Nat} (o : Own2 w R (.bool b) (.slice s k c)) (b' : Bool) (s' : Option Addr) (k' c' : Nat) :
    BigR ((w.setCell ⟨R, 0, none⟩ (.bool b')).setCell ⟨R, 1, none⟩ (.slice s' k' c')) b0 sp k0 cap n := by
  obtain ⟨h1, l, h2, h3⟩ := h
  exact ⟨h1, l, h2.apart o _ _ _ _, h3⟩

/-- a number's box: its block, what it holds -/
abbrev BigAt (w : World) (R : Nat) (b : Bool) (s : Option Addr) (k c : Nat) : Prop := Own2 w R (.bool b) (.slice s k c)
/-- an empty box -/
abbrev box0 : Obj := .cells #[.bool false, .slice none 0 0] 37
abbrev boxOf (b : Bool) (s : Option Addr) (k c : Nat) : Obj := .cells #[.bool b, .slice s k c] 37

/-- three boxes laid -/
theorem boxes3 (w : World) (b1 b2 : Bool) (s1 s2 : Option Addr) (k1 c1 k2 c2 : Nat) :
    Only w (((w.alloc (boxOf b1 s1 k1 c1)).alloc (boxOf b2 s2 k2 c2)).alloc box0) ∧ BigAt (((w.alloc (boxOf b1 s1 k1 c1)).alloc (boxOf b2 s2 k2 c2)).alloc box0) w.heap.size b1 s1 k1 c1 ∧
      BigAt (((w.alloc (boxOf b1 s1 k1 c1)).alloc (boxOf b2 s2 k2 c2)).alloc box0) (w.heap.size + 1) b2 s2 k2 c2 ∧ BigAt (((w.alloc (boxOf b1 s1 k1 c1)).alloc (boxOf b2 s2 k2 c2)).alloc box0) (w.heap.size + 1 + 1) false none 0 0 :=
  ⟨(((Only.refl w).alloc _).alloc _).alloc _, ((Own2.new w _ _ _).alloc _).alloc _, (Own2.new1 w _ _ _ _).alloc _, Own2.new2 w _ _ _ _ _⟩
theorem boxes2 (w : World) (b1 b2 : Bool) (s1 s2 : Option Addr) (k1 c1 k2 c2 : Nat) :
    Only w ((w.alloc (boxOf b1 s1 k1 c1)).alloc (boxOf b2 s2 k2 c2)) ∧ BigAt ((w.alloc (boxOf b1 s1 k1 c1)).alloc (boxOf b2 s2 k2 c2)) w.heap.size b1 s1 k1 c1 ∧
      BigAt ((w.alloc (boxOf b1 s1 k1 c1)).alloc (boxOf b2 s2 k2 c2)) (w.heap.size + 1) b2 s2 k2 c2 :=
  ⟨((Only.refl w).alloc _).alloc _, (Own2.new w _ _ _).alloc _, Own2.new1 w _ _ _ _⟩
theorem boxes11 (w : World) (b1 : Bool) (s1 : Option Addr) (k1 c1 : Nat) :
    Only w ((w.alloc (boxOf b1 s1 k1 c1)).alloc box0) ∧ BigAt ((w.alloc (boxOf b1 s1 k1 c1)).alloc box0) w.heap.size b1 s1 k1 c1 ∧ BigAt ((w.alloc (boxOf b1 s1 k1 c1)).alloc box0) (w.heap.size + 1) false none 0 0 :=
  boxes2 w b1 false s1 none k1 c1 0 0

/-- append, as one step of a region that draws its order -/
theorem step_nats {w : World} {ops : Array Oper} {o : Oper} {a : Act} {K : Act → World → Prop} {Qx : Exit → Act → World → Prop} {E : Prop} (hgd : o.guard = none) (s x : Operand)
    (ho : o.op = .call { callee := .builtin .append, args := #[s, x], argTypes := #[35, 35] }) {base : Nat} {v u : Value} {l m r : List Nat} {k : Nat} (hs : a.eval s = v) (hx : a.eval x = u)
    (hl : NatsO w base v l) (hm : NatsR w u m) (hr : l ++ m = r) (hk : r.length = k) (hn : k ≤ 1000000000) (hbase : base ≤ w.heap.size)
    (h : ∀ sp cap w', NatsO w' base (.slice sp k cap) r → Below base w w' → w.heap.size ≤ w'.heap.size → K (a.put o.dst (.slice sp k cap)) w') :
    if Region.wanted o (yielded ops a.tmps) = true then Oper.wp Try.prog o a w K Qx else E := by
  have hw : Region.wanted o (yielded ops a.tmps) = true := by simp [Region.wanted, hgd]
  rw [if_pos hw]
  subst hr; subst hk
  obtain ⟨i0, hi, hz0, hz1, hz2⟩ := info_parts infoInt
  have hown : ∀ r, v.ownBlock = some r → base ≤ r := fun r hr => by
    rcases hl.2 with ⟨rfl, _⟩ | ⟨g, cap, cur, rfl, hg, _⟩
    · cases hr
    · simp [Value.ownBlock] at hr; omega
  rw [List.length_append] at hn h
  rcases hm with ⟨rfl, rfl⟩ | ⟨g, cap, rfl, hlc, hcap, hc⟩
  · obtain ⟨sp2, cap2, hv⟩ := hl.form
    have hrun := run_append_owned_none (P := Try.prog) (w := w) base 35 o.type 3 i0 1 Try.underlying35 hi v l.length _ hl
    unfold Oper.wp
    simp [execOp, ho, resolve, invoke, builtin, hs, hx, hrun, Result.andThen]
    have h2 := h sp2 cap2 w (by rw [List.append_nil, List.length_nil, Nat.add_zero, ← hv]; exact hl) (Below.refl _ _) (Nat.le_refl _)
    rw [List.length_nil, Nat.add_zero, ← hv] at h2
    exact h2
  · obtain ⟨v', w2, hrun, hown', hg, -, -⟩ := run_append_own_at (P := Try.prog) (w := w) base 35 o.type 3 i0 (.int .i64 0) 1 8 Try.underlying35 hi hz0 hz1 hz2 rfl (by decide) v l.length _ hl ⟨g, 0, none⟩ m.length cap (m.map dgV) (by simp) (fun j y hj => by
      rw [List.getElem?_map] at hj
      obtain ⟨z, hz, rfl⟩ := Option.map_eq_some_iff.1 hj
      rw [show (⟨g, 0, none⟩ : Addr).add j = ⟨g, j, none⟩ by unfold Addr.add; split <;> simp_all]
      exact hc j z hz) (fun y hy => by
      obtain ⟨z, _, rfl⟩ := List.mem_map.1 hy
      rfl) (by unfold maxLen; omega) (by omega) hbase
    unfold Oper.wp
    simp [execOp, ho, resolve, invoke, builtin, hs, hx, hrun, Result.andThen]
    have hown2 : NatsO w2 base v' (l ++ m) := by unfold NatsO; rw [List.length_append, List.map_append]; exact hown'
    obtain ⟨sp4, cap4, e4⟩ := hown2.form
    rw [List.length_append] at e4
    subst e4
    exact h sp4 cap4 w2 hown2 (Below.grown (Below.refl _ _) hg hbase (fun k e => hown k e)) hg.size
end Go.Proofs.Ytagilpgplcphpaa
