/-
  PARTS: MBest, MPOwn, MPSt, MRAll0, NRichM.
-/
import Derived.Test.YtopklnaahdjafaaGreatDoorGMa
import Derived.Test.YtopklnaahdjafaaGreatDoorGBm
import Derived.Maps.AppendAt
import Derived.Laws.AppendOwnNone
import Derived.Test.YtopklnaahdjafaaGreatDoorMRef
import Derived.Test.YtopklnaahdjafaaGreatDoorGTl
/-
  The place that gets the next unit, as the document's side looks for it: of those that weigh something and have none yet, the one that lost most, of several the first.
-/
namespace Go.Proofs.YtopklnaahdjafaaGreatDoor
open Sorted
set_option linter.unusedVariables false

/-- may place i get a unit? -/
def candB (ws : List Nat) (gone : List Nat) (i : Nat) : Bool := decide (0 < ws.getD i 0) && !decide (i ∈ gone)
/-- the best of the first m places -/
def bestK (ws : List Nat) (lo : Nat → Nat) (gone : List Nat) : Nat → Option Nat
  | 0 => none
  | m + 1 => if candB ws gone m then (match bestK ws lo gone m with | none => some m | some b => if lo b < lo m then some m else some b) else bestK ws lo gone m
theorem bestK_is (ws : List Nat) (lo : Nat → Nat) (gone : List Nat) : ∀ m, (bestK ws lo gone m = none ∧ ∀ k, k < m → candB ws gone k = false) ∨ ∃ b, bestK ws lo gone m = some b ∧ b < m ∧ candB ws gone b = true ∧ ∀ k, k < m → candB ws gone k = true → k ≠ b → byT (lessL lo) b k
  | 0 => Or.inl ⟨rfl, fun k hk => by omega⟩
  | m + 1 => by
    have ih := bestK_is ws lo gone m
    rw [bestK]
    by_cases hc : candB ws gone m = true
    · rw [if_pos hc]
      right
      rcases ih with ⟨e, h⟩ | ⟨b, e, h1, h2, h3⟩
      · rw [e]
        refine ⟨m, rfl, by omega, hc, fun k hk hck hkm => ?_⟩
        have := h k (by omega)
        rw [this] at hck; cases hck
      · rw [e]
        by_cases hl : lo b < lo m
        · refine ⟨m, if_pos hl, by omega, hc, fun k hk hck hkm => ?_⟩
          by_cases hkb : k = b
          · subst hkb
            exact Or.inl ((lessL_iff lo m k).2 hl)
          · have hb := byL_le (h3 k (by omega) hck hkb)
            exact Or.inl ((lessL_iff lo m k).2 (by omega))
        · refine ⟨b, if_neg hl, by omega, h2, fun k hk hck hkb => ?_⟩
          by_cases hkm : k = m
          · subst hkm
            by_cases he : lo k < lo b
            · exact Or.inl ((lessL_iff lo b k).2 he)
            · exact Or.inr ⟨(lessL_no lo b k).2 (by omega), (lessL_no lo k b).2 (by omega), by omega⟩
          · exact h3 k (by omega) hck hkb
    · rw [if_neg hc]
      rcases ih with ⟨e, h⟩ | ⟨b, e, h1, h2, h3⟩
      · left
        refine ⟨e, fun k hk => ?_⟩
        by_cases hkm : k = m
        · subst hkm; simpa using hc
        · exact h k (by omega)
      · right
        refine ⟨b, e, by omega, h2, fun k hk hck hkb => ?_⟩
        by_cases hkm : k = m
        · subst hkm; exact absurd hck hc
        · exact h3 k (by omega) hck hkb

/-- it is the next one of those that get a unit -/
theorem best_next {u t : Nat} {ws : List Nat} (h0 : 0 < t) (ht : ws.sum = t) {j : Nat} (hj : j < leftP u t ws) :
    ∃ h : j < (lossOrd (lostP u t ws) ws.length).length, bestK ws (lostP u t ws) ((lossOrd (lostP u t ws) ws.length).take j) ws.length = some ((lossOrd (lostP u t ws) ws.length)[j]) := by
  have hlen := lossOrd_len (lostP u t ws) ws.length
  have hle := (left_eq (u := u) h0 ht).2.2
  have hjl : j < (lossOrd (lostP u t ws) ws.length).length := by omega
  refine ⟨hjl, ?_⟩
  obtain ⟨os, hos⟩ : ∃ os, os = lossOrd (lostP u t ws) ws.length := ⟨_, rfl⟩
  have hnd := lossOrd_nodup (lostP u t ws) ws.length
  have hs := lossOrd_sorted (lostP u t ws) ws.length
  have hmem : ∀ i, i ∈ os ↔ i < ws.length := fun i => by rw [hos]; exact lossOrd_mem
  have hfr : ∀ i, i ∈ os.take (leftP u t ws) → 0 < lostP u t ws i := fun i hi => front_lost h0 ht (by unfold frontP; rw [← hos]; exact hi)
  simp only [← hos] at hjl hnd hs hlen ⊢
  have hp : os[j] ∈ os.take (leftP u t ws) := List.mem_iff_getElem.2 ⟨j, by rw [List.length_take]; omega, by rw [List.getElem_take]⟩
  have hl := hfr _ hp
  have hw : 0 < ws.getD os[j] 0 := by
    rcases Nat.eq_zero_or_pos (ws.getD os[j] 0) with h | h
    · unfold lostP at hl; rw [h] at hl; simp at hl
    · exact h
  have hnot : os[j] ∉ os.take j := fun hm => by
    obtain ⟨i, hi, he⟩ := List.getElem_of_mem hm
    rw [List.length_take] at hi
    rw [List.getElem_take] at he
    exact List.pairwise_iff_getElem.1 hnd i j (by omega) hjl (by omega) he
  have hc : candB ws (os.take j) os[j] = true := by unfold candB; simp only [Bool.and_eq_true, decide_eq_true_eq, Bool.not_eq_true', decide_eq_false_iff_not]; exact ⟨hw, hnot⟩
  have hin : os[j] < ws.length := (hmem _).1 (List.getElem_mem hjl)
  rcases bestK_is ws (lostP u t ws) (os.take j) ws.length with ⟨-, h⟩ | ⟨b, e, h1, h2, h3⟩
  · have := h _ hin
    rw [this] at hc; cases hc
  · rw [e]
    by_cases hb : os[j] = b
    · rw [hb]
    · exfalso
      have k1 := h3 _ hin hc hb
      obtain ⟨i, hi, he⟩ := List.getElem_of_mem ((hmem b).2 h1)
      have hij : j < i := by
        rcases Nat.lt_trichotomy i j with q | q | q
        · have : b ∈ os.take j := List.mem_iff_getElem.2 ⟨i, by rw [List.length_take]; omega, by rw [List.getElem_take]; exact he⟩
          unfold candB at h2
          simp [this] at h2
        · subst q; exact absurd he hb
        · exact q
      have k2 := List.pairwise_iff_getElem.1 hs j i hjl hi hij
      rw [he] at k2
      have ST := strict_by (weakL (lostP u t ws))
      exact ST.irrefl _ (ST.trans _ _ _ k1 k2)
end Go.Proofs.YtopklnaahdjafaaGreatDoor

/-
  Ints and numbers appended to lists of our own, for the document's allocation: what of older memory may change is the list's own block alone.
-/
namespace Go.Proofs.YtopklnaahdjafaaGreatDoor
open Go.RowKit Go.Maps Go.WideMaps Go.Shelf
set_option linter.unusedVariables false

/-- a row of ours behind base: cells of n things of z cells -/
theorem own_le {w : World} {base z n : Nat} {e : TypeId} {v : Value} {cs : List Value} (h : w.ownsRow base e z v n cs) : ∀ r, v.ownBlock = some r → base ≤ r := fun r hr => by
  rcases h.2 with ⟨rfl, _⟩ | ⟨g, cap, cur, rfl, hg, _⟩
  · cases hr
  · simp [Value.ownBlock] at hr; omega
theorem own_only {w w' : World} {base z n : Nat} {e : TypeId} {v : Value} {cs : List Value} (h : w.ownsRow base e z v n cs) (t : Only w w') : w'.ownsRow base e z v n cs := by
  refine ⟨h.1, ?_⟩
  rcases h.2 with k | ⟨g, cap, cur, e1, hg, hh, r⟩
  · exact Or.inl k
  · exact Or.inr ⟨g, cap, cur, e1, hg, (t.block g (Array.getElem?_eq_some_iff.1 hh).1).trans hh, r⟩
theorem own_form {w : World} {base z n : Nat} {e : TypeId} {v : Value} {cs : List Value} (h : w.ownsRow base e z v n cs) : ∃ sp cap, v = .slice sp n cap := by
  rcases h.2 with ⟨h1, h2⟩ | ⟨g, cap, cur, h1, _⟩
  · exact ⟨none, 0, by rw [h1, h2]⟩
  · exact ⟨_, _, h1⟩

theorem infoIntP : ∃ i, Tryz.prog.info? 3 = some i ∧ i.zero = some (.int .i64 0) ∧ i.size = 1 ∧ i.bytes = 8 := by
  have h : (Tryz.prog.info? 3).map (fun i => (i.zero, i.size, i.bytes)) = some (some (.int .i64 0), 1, 8) := by kernel_rfl
  cases hi : Tryz.prog.info? 3 with
  | none => rw [hi] at h; simp at h
  | some i =>
    rw [hi] at h
    simp only [Option.map_some, Option.some.injEq, Prod.mk.injEq] at h
    exact ⟨i, rfl, h.1, h.2.1, h.2.2⟩
theorem infoBigP : ∃ i, Tryz.prog.info? 34 = some i ∧ i.zero = some (.agg #[.bool false, .slice none 0 0]) ∧ i.size = 2 ∧ i.bytes = 32 := by
  have h : (Tryz.prog.info? 34).map (fun i => (i.zero, i.size, i.bytes)) = some (some (.agg #[.bool false, .slice none 0 0]), 2, 32) := by kernel_rfl
  cases hi : Tryz.prog.info? 34 with
  | none => rw [hi] at h; simp at h
  | some i =>
    rw [hi] at h
    simp only [Option.map_some, Option.some.injEq, Prod.mk.injEq] at h
    exact ⟨i, rfl, h.1, h.2.1, h.2.2⟩

def ivC (l : List Int) : List Value := l.map fun x => .int .i64 x
def IntsO (w : World) (base : Nat) (v : Value) (l : List Int) : Prop := w.ownsRow base 3 1 v l.length (ivC l)
theorem IntsO.nil (w : World) (base : Nat) : IntsO w base (.slice none 0 0) [] := World.ownsRow_nil _ _ _ _

theorem append_int {w : World} {ops : Array Oper} {rest : List Oper} {o : Oper} {a : Act} {Qx : Exit → Act → World → Prop} (hgd : o.guard = none) (s x : Operand)
    (ho : o.op = .call { callee := .builtin .append, args := #[s, x], argTypes := #[24, 24] }) {base : Nat} {v : Value} {l : List Int} {y : Int} {g : Nat} (hs : a.eval s = v) (hx : a.eval x = .slice (some ⟨g, 0, none⟩) 1 1)
    (hl : IntsO w base v l) (h1 : w.cell? ⟨g, 0, none⟩ = some (.int .i64 y)) (hn : l.length ≤ 1000000) (hbase : base ≤ w.heap.size)
    (h : ∀ sp cap w', IntsO w' base (.slice sp (l ++ [y]).length cap) (l ++ [y]) → w.grownBy w' v.ownBlock → ((Value.slice sp (l ++ [y]).length cap).ownBlock = v.ownBlock ∨ (Value.slice sp (l ++ [y]).length cap).ownBlock = some w.heap.size) → wpList Tryz.prog ops Qx rest (a.put o.dst (.slice sp (l ++ [y]).length cap)) w') :
    wpList Tryz.prog ops Qx (o :: rest) a w := by
  obtain ⟨i0, hi, hz0, hz1, hz2⟩ := infoIntP
  refine wpList_append_own_at w hgd s x 24 ho base 3 i0 (.int .i64 0) 1 8 Tryz.underlying24 hi hz0 hz1 hz2 rfl (by decide) v l.length _ hs hl ⟨g, 0, none⟩ 1 1 [.int .i64 y] hx (by simp) (fun j u hj => ?_) (fun u hu => ?_) (by unfold maxLen; omega) (by omega) hbase ?_
  · rcases j with _ | j
    · simp at hj; subst hj; exact h1
    · simp at hj
  · simp at hu
    subst hu; rfl
  · intro v' w2 hown' hg _ hob
    have hown2 : IntsO w2 base v' (l ++ [y]) := by unfold IntsO ivC; rw [List.length_append, List.map_append]; exact hown'
    obtain ⟨sp, cap, e⟩ := own_form hown2
    subst e
    exact h sp cap w2 hown2 hg hob

def bgC (l : List (Bool × Option Addr × Nat × Nat)) : List Value := l.flatMap fun x => [.bool x.1, .slice x.2.1 x.2.2.1 x.2.2.2]
theorem bgC_append (l m : List (Bool × Option Addr × Nat × Nat)) : bgC (l ++ m) = bgC l ++ bgC m := by simp [bgC]
def BigsO (w : World) (base : Nat) (v : Value) (l : List (Bool × Option Addr × Nat × Nat)) : Prop := w.ownsRow base 34 2 v l.length (bgC l)
theorem BigsO.nil (w : World) (base : Nat) : BigsO w base (.slice none 0 0) [] := World.ownsRow_nil _ _ _ _

theorem append_big {w : World} {ops : Array Oper} {rest : List Oper} {o : Oper} {a : Act} {Qx : Exit → Act → World → Prop} (hgd : o.guard = none) (s x : Operand)
    (ho : o.op = .call { callee := .builtin .append, args := #[s, x], argTypes := #[119, 119] }) {base : Nat} {v : Value} {l : List (Bool × Option Addr × Nat × Nat)} {y : Bool × Option Addr × Nat × Nat} {g : Nat} (hs : a.eval s = v) (hx : a.eval x = .slice (some ⟨g, 0, none⟩) 1 1)
    (hl : BigsO w base v l) (h1 : w.cell? ⟨g, 0, none⟩ = some (.bool y.1)) (h2 : w.cell? ⟨g, 1, none⟩ = some (.slice y.2.1 y.2.2.1 y.2.2.2)) (hn : l.length ≤ 1000000) (hbase : base ≤ w.heap.size)
    (h : ∀ sp cap w', BigsO w' base (.slice sp (l ++ [y]).length cap) (l ++ [y]) → w.grownBy w' v.ownBlock → ((Value.slice sp (l ++ [y]).length cap).ownBlock = v.ownBlock ∨ (Value.slice sp (l ++ [y]).length cap).ownBlock = some w.heap.size) → wpList Tryz.prog ops Qx rest (a.put o.dst (.slice sp (l ++ [y]).length cap)) w') :
    wpList Tryz.prog ops Qx (o :: rest) a w := by
  obtain ⟨i0, hi, hz0, hz1, hz2⟩ := infoBigP
  refine wpList_append_own_at w hgd s x 119 ho base 34 i0 (.agg #[.bool false, .slice none 0 0]) 2 32 Tryz.underlying119 hi hz0 hz1 hz2 rfl (by decide) v l.length _ hs hl ⟨g, 0, none⟩ 1 1 [.bool y.1, .slice y.2.1 y.2.2.1 y.2.2.2] hx (by simp) (fun j u hj => ?_) (fun u hu => ?_) (by unfold maxLen; omega) (by omega) hbase ?_
  · rcases j with _ | _ | j
    · simp at hj; subst hj; exact h1
    · simp at hj; subst hj
      rw [show (⟨g, 0, none⟩ : Addr).add (0 + 1) = ⟨g, 1, none⟩ by unfold Addr.add; split <;> simp_all]
      exact h2
    · simp at hj
  · simp at hu
    rcases hu with rfl | rfl <;> rfl
  · intro v' w2 hown' hg _ hob
    have hown2 : BigsO w2 base v' (l ++ [y]) := by unfold BigsO; rw [List.length_append, bgC_append]; exact hown'
    obtain ⟨sp, cap, e⟩ := own_form hown2
    subst e
    exact h sp cap w2 hown2 hg hob

/-- what a grown world keeps: every block but the list's own -/
theorem grown_block {w w' : World} {row : Option Nat} (h : w.grownBy w' row) {j : Nat} (hj : j < w.heap.size) (hne : row ≠ some j) : w'.heap[j]? = w.heap[j]? := h.block j hj fun e => hne e.symm
theorem own_grown {w w' : World} {row : Option Nat} {base z n : Nat} {e : TypeId} {v : Value} {cs : List Value} (h : w.ownsRow base e z v n cs) (t : w.grownBy w' row) (hne : ∀ r, v.ownBlock = some r → row ≠ some r) : w'.ownsRow base e z v n cs := by
  refine ⟨h.1, ?_⟩
  rcases h.2 with k | ⟨g, cap, cur, e1, hg, hh, r⟩
  · exact Or.inl k
  · exact Or.inr ⟨g, cap, cur, e1, hg, (grown_block t (Array.getElem?_eq_some_iff.1 hh).1 (hne g (by subst e1; rfl))).trans hh, r⟩
theorem NatsR.grown {w w' : World} {row : Option Nat} {sp : Option Addr} {k cap : Nat} {l : List Nat} (h : NatsR w (.slice sp k cap) l) (t : w.grownBy w' row) (hne : ∀ a, sp = some a → row ≠ some a.block) : NatsR w' (.slice sp k cap) l := by
  rcases h with h | ⟨g, cap', h1, h2, h3, h4⟩
  · exact Or.inl h
  · refine Or.inr ⟨g, cap', h1, h2, h3, fun j x hj => ?_⟩
    have c := h4 j x hj
    have hb := World.block_lt_of_cell? w _ c
    simp only [Value.slice.injEq] at h1
    have hn := hne _ h1.1
    rw [World.cell?_of_block (grown_block t hb hn)]
    exact c
theorem BigR.grown {w w' : World} {row : Option Nat} {b : Bool} {sp : Option Addr} {k cap : Nat} {n : Int} (h : BigR w b sp k cap n) (t : w.grownBy w' row) (hne : ∀ a, sp = some a → row ≠ some a.block) : BigR w' b sp k cap n := by
  obtain ⟨h1, l, h2, h3⟩ := h
  exact ⟨h1, l, h2.grown t hne, h3⟩
theorem Only.grown {w0 w w' : World} {row : Option Nat} (h : Only w0 w) (t : w.grownBy w' row) (hr : ∀ r, row = some r → w0.heap.size ≤ r) : Only w0 w' := Below.grown h t h.size fun k e => hr k e
/-- a new block of the list's is newer than all -/
theorem own_new {w' : World} {base z n : Nat} {e : TypeId} {v' : Value} {cs : List Value} (h : w'.ownsRow base e z v' n cs) : ∀ r, v'.ownBlock = some r → r < w'.heap.size := fun r hr => by
  rcases h.2 with ⟨rfl, _⟩ | ⟨g, cap, cur, rfl, hg, hh, _⟩
  · cases hr
  · simp [Value.ownBlock] at hr
    rw [← hr]
    exact (Array.getElem?_eq_some_iff.1 hh).1
theorem ivC_at {l : List Int} {i : Nat} {x : Int} (h : l[i]? = some x) : (ivC l)[i]? = some (.int .i64 x) := by simp [ivC, h]
theorem bgC_at {l : List (Bool × Option Addr × Nat × Nat)} {i : Nat} {x : Bool × Option Addr × Nat × Nat} (h : l[i]? = some x) : (bgC l)[i * 2]? = some (.bool x.1) ∧ (bgC l)[i * 2 + 1]? = some (.slice x.2.1 x.2.2.1 x.2.2.2) := by
  induction l generalizing i with
  | nil => simp at h
  | cons y l ih =>
    cases i with
    | zero =>
      simp at h; subst h
      simp [bgC]
    | succ i =>
      have h' : l[i]? = some x := by simpa using h
      obtain ⟨a, b⟩ := ih h'
      have e : bgC (y :: l) = .bool y.1 :: .slice y.2.1 y.2.2.1 y.2.2.2 :: bgC l := rfl
      rw [e, show (i + 1) * 2 = i * 2 + 1 + 1 by omega, show i * 2 + 1 + 1 + 1 = (i * 2 + 1) + 1 + 1 by omega]
      simp only [List.getElem?_cons_succ]
      exact ⟨a, b⟩
end Go.Proofs.YtopklnaahdjafaaGreatDoor

/-
  What the document's allocation holds on its way: parts, what each lost, who got a unit.
-/
namespace Go.Proofs.YtopklnaahdjafaaGreatDoor
open Go.RowKit Go.Maps Go.WideMaps Go.Shelf Sorted
set_option linter.unusedVariables false

theorem sgnA_cases (x : Int) : (0 ≤ x ∧ x = (x.natAbs : Int) ∧ ∀ p, sgnA x p = (p : Int)) ∨ (x < 0 ∧ x = -(x.natAbs : Int) ∧ ∀ p, sgnA x p = -(p : Int)) := by
  by_cases h : x < 0
  · exact Or.inr ⟨h, by omega, fun p => if_pos h⟩
  · exact Or.inl ⟨by omega, by omega, fun p => if_neg h⟩
theorem quo_sgn (x : Int) (w t : Nat) : (x * (w : Int)).tdiv (t : Int) = sgnA x (x.natAbs * w / t) := by
  rcases sgnA_cases x with ⟨-, e, h⟩ | ⟨-, e, h⟩
  · rw [h]
    conv => lhs; rw [e]
    rw [← Int.natCast_mul, ← Int.ofNat_tdiv]
  · rw [h]
    conv => lhs; rw [e]
    rw [Int.neg_mul, Int.neg_tdiv, ← Int.natCast_mul, ← Int.ofNat_tdiv]
theorem rem_sgn (x : Int) (w t : Nat) : (x * (w : Int)).tmod (t : Int) = sgnA x (x.natAbs * w % t) := by
  rcases sgnA_cases x with ⟨-, e, h⟩ | ⟨-, e, h⟩
  · rw [h]
    conv => lhs; rw [e]
    rw [← Int.natCast_mul, ← Int.ofNat_tmod]
  · rw [h]
    conv => lhs; rw [e]
    rw [Int.neg_mul, Int.neg_tmod, ← Int.natCast_mul, ← Int.ofNat_tmod]
theorem sgnA_bound {x : Int} {p : Nat} (h : p ≤ x.natAbs) (hx : -4611686018427387904 ≤ x ∧ x ≤ 4611686018427387904) : -4611686018427387904 ≤ sgnA x p ∧ sgnA x p ≤ 4611686018427387904 := by
  rcases sgnA_cases x with ⟨-, e, k⟩ | ⟨-, e, k⟩ <;> rw [k] <;> omega
theorem sgnA_sub {x : Int} {p q : Nat} (h : q ≤ p) : sgnA x p - sgnA x q = sgnA x (p - q) := by
  rcases sgnA_cases x with ⟨-, e, k⟩ | ⟨-, e, k⟩ <;> rw [k, k, k] <;> omega
theorem sgnA_zero (x : Int) : sgnA x 0 = 0 := by rcases sgnA_cases x with ⟨-, e, k⟩ | ⟨-, e, k⟩ <;> rw [k] <;> rfl
theorem sgnA_self (x : Int) : sgnA x x.natAbs = x := by rcases sgnA_cases x with ⟨-, e, k⟩ | ⟨-, e, k⟩ <;> rw [k] <;> omega
theorem sgnA_abs {x : Int} {p : Nat} (h : sgnA x p < 0) : -(sgnA x p) = (p : Int) := by
  rcases sgnA_cases x with ⟨-, e, k⟩ | ⟨-, e, k⟩ <;> rw [k] at h ⊢ <;> omega
theorem sgnA_pos {x : Int} {p : Nat} (h : ¬ sgnA x p < 0) : sgnA x p = (p : Int) := by
  rcases sgnA_cases x with ⟨-, e, k⟩ | ⟨-, e, k⟩ <;> rw [k] at h ⊢ <;> omega

/-! ### the sums on the way -/
def sumQ (u t : Nat) (ws : List Nat) (k : Nat) : Nat := ((List.range' 0 k).map (unitP u t ws)).sum
theorem range_snoc (k : Nat) : List.range' 0 (k + 1) = List.range' 0 k ++ [k] := by rw [List.range'_1_concat]; simp
theorem sumQ_succ (u t : Nat) (ws : List Nat) (k : Nat) : sumQ u t ws (k + 1) = sumQ u t ws k + unitP u t ws k := by
  unfold sumQ; rw [range_snoc]; simp
theorem sumQ_mono (u t : Nat) (ws : List Nat) {k : Nat} : ∀ {n : Nat}, k ≤ n → sumQ u t ws k ≤ sumQ u t ws n
  | 0, h => by obtain rfl : k = 0 := by omega
               exact Nat.le_refl _
  | n + 1, h => by
    by_cases e : k = n + 1
    · subst e; exact Nat.le_refl _
    · have := sumQ_mono u t ws (k := k) (n := n) (by omega)
      rw [sumQ_succ]; omega
theorem sumQ_le {u t : Nat} {ws : List Nat} (h0 : 0 < t) (ht : ws.sum = t) {k : Nat} (hk : k ≤ ws.length) : sumQ u t ws k ≤ u :=
  Nat.le_trans (sumQ_mono u t ws hk) (left_eq (u := u) h0 ht).1
theorem unit_le {u t : Nat} {ws : List Nat} (h0 : 0 < t) (ht : ws.sum = t) {k : Nat} (hk : k < ws.length) : unitP u t ws k ≤ u := by
  have := sumQ_le (u := u) h0 ht (k := k + 1) (by omega)
  rw [sumQ_succ] at this; omega
def partsK (x : Int) (t : Nat) (ws : List Nat) (k : Nat) : List Int := (List.range' 0 k).map fun i => sgnA x (unitP x.natAbs t ws i)
theorem partsK_succ (x : Int) (t : Nat) (ws : List Nat) (k : Nat) : partsK x t ws (k + 1) = partsK x t ws k ++ [sgnA x (unitP x.natAbs t ws k)] := by
  unfold partsK; rw [range_snoc]; simp
theorem partsK_len (x : Int) (t : Nat) (ws : List Nat) (k : Nat) : (partsK x t ws k).length = k := by simp [partsK]
theorem partsK_at (x : Int) (t : Nat) (ws : List Nat) {k i : Nat} (h : i < k) : (partsK x t ws k)[i]? = some (sgnA x (unitP x.natAbs t ws i)) := by
  unfold partsK; rw [List.getElem?_map, List.getElem?_eq_getElem (by simpa using h)]; simp
def leftK (x : Int) (t : Nat) (ws : List Nat) (k : Nat) : Int := sgnA x (x.natAbs - sumQ x.natAbs t ws k)
theorem leftK_zero (x : Int) (t : Nat) (ws : List Nat) : leftK x t ws 0 = x := by unfold leftK sumQ; simpa using sgnA_self x
theorem leftK_succ {x : Int} {t : Nat} {ws : List Nat} (h0 : 0 < t) (ht : ws.sum = t) {k : Nat} (hk : k < ws.length) : leftK x t ws k - sgnA x (unitP x.natAbs t ws k) = leftK x t ws (k + 1) := by
  have h2 := sumQ_le (u := x.natAbs) h0 ht (k := k + 1) (by omega)
  unfold leftK
  rw [sumQ_succ] at h2 ⊢
  rw [sgnA_sub (by omega)]
  congr 1; omega
theorem leftK_end (x : Int) (t : Nat) (ws : List Nat) : leftK x t ws ws.length = sgnA x (leftP x.natAbs t ws) := rfl

/-! ### numbers keep where rows grow -/
theorem NatsR.empty {w w' : World} {sp : Option Addr} {k cap : Nat} (h : NatsR w (.slice sp k cap) []) : NatsR w' (.slice sp k cap) [] := by
  rcases h with ⟨h1, h2⟩ | ⟨g, cap', h1, h2, h3, h4⟩
  · exact Or.inl ⟨h1, h2⟩
  · exact Or.inr ⟨g, cap', h1, h2, h3, fun j x hj => by simp at hj⟩
theorem BigR.zero {w w' : World} {b : Bool} {sp : Option Addr} {k cap : Nat} (h : BigR w b sp k cap 0) : BigR w' b sp k cap 0 := by
  obtain ⟨h1, l, h2, h3⟩ := h
  have := h3.zero
  subst this
  exact ⟨h1, [], h2.empty, h3⟩
theorem BigR.block {w : World} {b : Bool} {sp : Option Addr} {k cap : Nat} {n : Int} (h : BigR w b sp k cap n) (hn : n ≠ 0) : ∀ a, sp = some a → a.block < w.heap.size := by
  obtain ⟨h1, l, h2, h3⟩ := h
  intro a ha
  rcases h2 with ⟨e, rfl⟩ | ⟨g, cap', e, k2, k3, k4⟩
  · simp only [Value.slice.injEq] at e
    rw [e.1] at ha; cases ha
  · simp only [Value.slice.injEq] at e
    rw [e.1] at ha
    cases ha
    have hl : l ≠ [] := by
      intro e2
      subst e2
      have := h3.eq
      simp [bval] at this
      omega
    obtain ⟨y, l', rfl⟩ := List.exists_cons_of_ne_nil hl
    exact World.block_lt_of_cell? w _ (k4 0 y (by simp))
theorem BigR.keep {w w' : World} {b : Bool} {sp : Option Addr} {k cap : Nat} {n : Int} (h : BigR w b sp k cap n) (hb : n ≠ 0 → ∀ a, sp = some a → w'.heap[a.block]? = w.heap[a.block]?) : BigR w' b sp k cap n := by
  by_cases hn : n = 0
  · subst hn; exact h.zero
  · obtain ⟨h1, l, h2, h3⟩ := h
    refine ⟨h1, l, ?_, h3⟩
    rcases h2 with e | ⟨g, cap', e, k2, k3, k4⟩
    · exact Or.inl e
    · refine Or.inr ⟨g, cap', e, k2, k3, fun j x hj => ?_⟩
      simp only [Value.slice.injEq] at e
      have hblk : w'.heap[g]? = w.heap[g]? := hb hn _ e.1
      rw [World.cell?_of_block (a := ⟨g, j, none⟩) hblk]
      exact k4 j x hj

/-! ### what a part lost, in a list of our own; no digits lie in the blocks that are shunned -/
structure LostI (w : World) (av : Nat → Prop) (y : Bool × Option Addr × Nat × Nat) (n : Int) : Prop where
  big : BigR w y.1 y.2.1 y.2.2.1 y.2.2.2 n
  far : n ≠ 0 → ∀ a, y.2.1 = some a → ¬ av a.block
theorem LostI.only {w w' : World} {av : Nat → Prop} {y : Bool × Option Addr × Nat × Nat} {n : Int} (h : LostI w av y n) (t : Only w w') : LostI w' av y n := ⟨h.big.only t, h.far⟩
theorem LostI.grown {w w' : World} {av av' : Nat → Prop} {row : Option Nat} {y : Bool × Option Addr × Nat × Nat} {n : Int} (h : LostI w av y n) (t : w.grownBy w' row) (hr : ∀ r, row = some r → av r) (ha : ∀ b, av' b → av b ∨ w.heap.size ≤ b) : LostI w' av' y n :=
  ⟨h.big.keep fun hn a e => grown_block t (h.big.block hn a e) fun e2 => h.far hn a e (hr _ e2), fun hn a e hv => by
    rcases ha _ hv with q | q
    · exact h.far hn a e q
    · have := h.big.block hn a e; omega⟩
theorem LostI.set {w : World} {av : Nat → Prop} {y : Bool × Option Addr × Nat × Nat} {n : Int} (h : LostI w av y n) {p : Nat} (hp : av p) (j : Nat) (u : Value) : LostI (w.setCell ⟨p, j, none⟩ u) av y n :=
  ⟨h.big.keep fun hn a e => heap_setCell_other (fun e2 => h.far hn a e (by rw [e2]; exact hp)) u, h.far⟩


/-! ### both lists together -/
def avB (vp vl : Value) (b : Nat) : Prop := vp.ownBlock = some b ∨ vl.ownBlock = some b
structure PL (w : World) (B : Nat) (vp vl : Value) (l : List Int) (L : List (Bool × Option Addr × Nat × Nat)) (lo : Nat → Int) : Prop where
  p : IntsO w B vp l
  l : BigsO w B vl L
  d : ∀ r, vp.ownBlock = some r → vl.ownBlock ≠ some r
  e : ∀ (i : Nat) y, L[i]? = some y → LostI w (avB vp vl) y (lo i)
theorem PL.start (w : World) (B : Nat) (lo : Nat → Int) : PL w B (.slice none 0 0) (.slice none 0 0) [] [] lo := ⟨IntsO.nil _ _, BigsO.nil _ _, (fun r h => by cases h), (fun i y h => by simp at h)⟩
theorem PL.own {w : World} {B : Nat} {vp vl : Value} {l : List Int} {L : List (Bool × Option Addr × Nat × Nat)} {lo : Nat → Int} (h : PL w B vp vl l L lo) : ∀ b, avB vp vl b → b < w.heap.size ∧ B ≤ b := fun b hb => by
  rcases hb with k | k
  · exact ⟨own_new h.p b k, own_le h.p b k⟩
  · exact ⟨own_new h.l b k, own_le h.l b k⟩
theorem PL.only {w w' : World} {B : Nat} {vp vl : Value} {l : List Int} {L : List (Bool × Option Addr × Nat × Nat)} {lo : Nat → Int} (h : PL w B vp vl l L lo) (t : Only w w') : PL w' B vp vl l L lo := ⟨own_only h.p t, own_only h.l t, h.d, fun i y hy => (h.e i y hy).only t⟩
theorem LostI.fresh {w w' : World} {av : Nat → Prop} {b : Bool} {s : Option Addr} {k c : Nat} {n : Int} (h : BigR w' b s k c n) (hf : Fresh w s) (ha : ∀ b, av b → b < w.heap.size) : LostI w' av (b, s, k, c) n := ⟨h, fun _ a e hv => by have := hf a e; have := ha _ hv; omega⟩
theorem PL.int {w w' : World} {B : Nat} {vp vp' vl : Value} {l : List Int} {L : List (Bool × Option Addr × Nat × Nat)} {lo : Nat → Int} {x : Int} (h : PL w B vp vl l L lo) (hn : IntsO w' B vp' (l ++ [x])) (t : w.grownBy w' vp.ownBlock) (ho : vp'.ownBlock = vp.ownBlock ∨ vp'.ownBlock = some w.heap.size) :
    PL w' B vp' vl (l ++ [x]) L lo ∧ ∀ y n, LostI w (avB vp vl) y n → LostI w' (avB vp' vl) y n := by
  have hi : ∀ y n, LostI w (avB vp vl) y n → LostI w' (avB vp' vl) y n := fun y n hy => hy.grown t (fun r e => Or.inl e) fun b hb => by
    rcases hb with k | k
    · rcases ho with e | e
      · exact Or.inl (Or.inl (e ▸ k))
      · rw [e] at k; right; have := Option.some.inj k; omega
    · exact Or.inl (Or.inr k)
  refine ⟨⟨hn, own_grown h.l t fun r e e2 => h.d r e2 e, fun r e e2 => ?_, fun i y hy => hi y _ (h.e i y hy)⟩, hi⟩
  rcases ho with q | q
  · exact h.d r (q ▸ e) e2
  · rw [q] at e
    have := (h.own r (Or.inr e2)).1
    have := Option.some.inj e
    omega
theorem PL.big {w w' : World} {B : Nat} {vp vl vl' : Value} {l : List Int} {L : List (Bool × Option Addr × Nat × Nat)} {lo : Nat → Int} {y : Bool × Option Addr × Nat × Nat} (h : PL w B vp vl l L lo) (hy : LostI w (avB vp vl) y (lo L.length)) (hn : BigsO w' B vl' (L ++ [y])) (t : w.grownBy w' vl.ownBlock) (ho : vl'.ownBlock = vl.ownBlock ∨ vl'.ownBlock = some w.heap.size) :
    PL w' B vp vl' l (L ++ [y]) lo := by
  have hi : ∀ y n, LostI w (avB vp vl) y n → LostI w' (avB vp vl') y n := fun y n hy => hy.grown t (fun r e => Or.inr e) fun b hb => by
    rcases hb with k | k
    · exact Or.inl (Or.inl k)
    · rcases ho with e | e
      · exact Or.inl (Or.inr (e ▸ k))
      · rw [e] at k; right; have := Option.some.inj k; omega
  refine ⟨own_grown h.p t fun r e e2 => h.d r e e2, hn, fun r e e2 => ?_, fun i z hz => ?_⟩
  · rcases ho with q | q
    · exact h.d r e (q ▸ e2)
    · rw [q] at e2
      have := (h.own r (Or.inl e)).1
      have := Option.some.inj e2
      omega
  · rw [List.getElem?_append] at hz
    split at hz
    · exact hi z _ (h.e i z hz)
    · rename_i hlt
      have hlen : i < (L ++ [y]).length := by
        rcases Nat.lt_or_ge i (L ++ [y]).length with q | q
        · exact q
        · have : ([y] : List (Bool × Option Addr × Nat × Nat))[i - L.length]? = none := List.getElem?_eq_none (by simp at q ⊢; omega)
          rw [this] at hz; cases hz
      have e : i = L.length := by simp at hlen; omega
      subst e
      simp at hz
      subst hz
      exact hi _ _ hy
theorem own_set {w : World} {base z n p : Nat} {e : TypeId} {v : Value} {cs : List Value} (h : w.ownsRow base e z v n cs) (hp : v.ownBlock ≠ some p) (j : Nat) (u : Value) : (w.setCell ⟨p, j, none⟩ u).ownsRow base e z v n cs := by
  refine ⟨h.1, ?_⟩
  rcases h.2 with k | ⟨g, cap, cur, e1, hg, hh, r⟩
  · exact Or.inl k
  · exact Or.inr ⟨g, cap, cur, e1, hg, (heap_setCell_other (fun q => hp (by subst e1; subst q; rfl)) u).trans hh, r⟩
/-- a number's box that is none of the lists is filled anew -/
theorem PL.box {w : World} {B R : Nat} {vp vl : Value} {l : List Int} {L : List (Bool × Option Addr × Nat × Nat)} {lo : Nat → Int} {b : Bool} {s : Option Addr} {k c : Nat} (h : PL w B vp vl l L lo) (o : Own2 w R (.bool b) (.slice s k c)) (hR : ¬ avB vp vl R) (b' : Bool) (s' : Option Addr) (k' c' : Nat) :
    PL ((w.setCell ⟨R, 0, none⟩ (.bool b')).setCell ⟨R, 1, none⟩ (.slice s' k' c')) B vp vl l L lo :=
  ⟨own_set (own_set h.p (fun e => hR (Or.inl e)) _ _) (fun e => hR (Or.inl e)) _ _, own_set (own_set h.l (fun e => hR (Or.inr e)) _ _) (fun e => hR (Or.inr e)) _ _, h.d, fun i y hy => ⟨(h.e i y hy).big.apart o _ _ _ _, (h.e i y hy).far⟩⟩
theorem Own2.grown {w w' : World} {b : Nat} {x y : Value} {row : Option Nat} (h : Own2 w b x y) (t : w.grownBy w' row) (hr : row ≠ some b) : Own2 w' b x y := by
  obtain ⟨ty, h⟩ := h
  exact ⟨ty, (grown_block t (Array.getElem?_eq_some_iff.1 h).1 hr).trans h⟩

/-! ### rows -/
/-- block g holds n ints / truths -/
def IntR (w : World) (g n : Nat) (f : Nat → Value) : Prop := ∃ cs ty, w.heap[g]? = some (.cells cs ty) ∧ n ≤ cs.size ∧ ∀ i, i < n → cs[i]? = some (f i)
theorem IntR.lt {w : World} {g n : Nat} {f : Nat → Value} (h : IntR w g n f) : g < w.heap.size := by
  obtain ⟨cs, ty, h, -⟩ := h; exact (Array.getElem?_eq_some_iff.1 h).1
theorem IntR.only {w w' : World} {g n : Nat} {f : Nat → Value} (h : IntR w g n f) (t : Only w w') : IntR w' g n f := by
  have := h.lt
  obtain ⟨cs, ty, h, k⟩ := h
  exact ⟨cs, ty, (t.block g this).trans h, k⟩
theorem IntR.grown {w w' : World} {g n : Nat} {f : Nat → Value} {row : Option Nat} (h : IntR w g n f) (t : w.grownBy w' row) (hr : row ≠ some g) : IntR w' g n f := by
  have := h.lt
  obtain ⟨cs, ty, h, k⟩ := h
  exact ⟨cs, ty, (grown_block t this hr).trans h, k⟩
theorem IntR.free {w : World} {g n : Nat} {f : Nat → Value} (h : IntR w g n f) (j : Nat) : w.frozen? ⟨g, j, none⟩ = false := by
  obtain ⟨cs, ty, h, -⟩ := h; simp [World.frozen?, h]
theorem IntR.cell {w : World} {g n : Nat} {f : Nat → Value} (h : IntR w g n f) {i : Nat} (hi : i < n) : w.cell? ⟨g, i, none⟩ = some (f i) := by
  obtain ⟨cs, ty, h, -, hc⟩ := h
  simp [World.cell?, h, hc i hi]
theorem IntR.ext {w : World} {g n : Nat} {f f' : Nat → Value} (h : IntR w g n f) (e : ∀ i, i < n → f i = f' i) : IntR w g n f' := by
  obtain ⟨cs, ty, h, k, hc⟩ := h
  exact ⟨cs, ty, h, k, fun i hi => by rw [← e i hi]; exact hc i hi⟩
theorem IntR.set {w : World} {g n : Nat} {f : Nat → Value} (h : IntR w g n f) (k : Nat) (x : Value) : IntR (w.setCell ⟨g, k, none⟩ x) g n (fun i => if i = k then x else f i) := by
  obtain ⟨cs, ty, h, hz, hc⟩ := h
  refine ⟨_, ty, heap_setCell_same h _, by simpa using hz, fun i hi => ?_⟩
  rw [Array.getElem?_setIfInBounds]
  by_cases e : i = k
  · subst e
    simp; omega
  · rw [if_neg (by omega)]
    simp only [if_neg e]
    exact hc i hi
theorem IntR.far {w : World} {g n p : Nat} {f : Nat → Value} (h : IntR w g n f) (hp : p ≠ g) (j : Nat) (u : Value) : IntR (w.setCell ⟨p, j, none⟩ u) g n f := by
  obtain ⟨cs, ty, h, k⟩ := h
  exact ⟨cs, ty, (heap_setCell_other (Ne.symm hp) u).trans h, k⟩
/-- block g holds n numbers -/
def LostR (w : World) (av : Nat → Prop) (g n : Nat) (lo : Nat → Int) : Prop := ∃ L : List (Bool × Option Addr × Nat × Nat), L.length = n ∧ (∃ cs ty, w.heap[g]? = some (.cells cs ty) ∧ ∀ (i : Nat) y, L[i]? = some y → cs[i * 2]? = some (.bool y.1) ∧ cs[i * 2 + 1]? = some (.slice y.2.1 y.2.2.1 y.2.2.2)) ∧ ∀ (i : Nat) y, L[i]? = some y → LostI w av y (lo i)
theorem LostR.lt {w : World} {av : Nat → Prop} {g n : Nat} {lo : Nat → Int} (h : LostR w av g n lo) : g < w.heap.size := by
  obtain ⟨L, -, ⟨cs, ty, h, -⟩, -⟩ := h; exact (Array.getElem?_eq_some_iff.1 h).1
theorem LostR.only {w w' : World} {av : Nat → Prop} {g n : Nat} {lo : Nat → Int} (h : LostR w av g n lo) (t : Only w w') : LostR w' av g n lo := by
  have := h.lt
  obtain ⟨L, h1, ⟨cs, ty, h, k⟩, h2⟩ := h
  exact ⟨L, h1, ⟨cs, ty, (t.block g this).trans h, k⟩, fun i y hy => (h2 i y hy).only t⟩
theorem LostR.set {w : World} {av : Nat → Prop} {g n p : Nat} {lo : Nat → Int} (h : LostR w av g n lo) (hp : p ≠ g) (ha : av p) (j : Nat) (u : Value) : LostR (w.setCell ⟨p, j, none⟩ u) av g n lo := by
  obtain ⟨L, h1, ⟨cs, ty, h, k⟩, h2⟩ := h
  exact ⟨L, h1, ⟨cs, ty, (heap_setCell_other (Ne.symm hp) u).trans h, k⟩, fun i y hy => (h2 i y hy).set ha j u⟩
theorem LostR.at {w : World} {av : Nat → Prop} {g n : Nat} {lo : Nat → Int} (h : LostR w av g n lo) {i : Nat} (hi : i < n) : ∃ b s k c, w.cell? ⟨g, i * 2, none⟩ = some (.bool b) ∧ w.cell? ⟨g, i * 2 + 1, none⟩ = some (.slice s k c) ∧ BigR w b s k c (lo i) := by
  obtain ⟨L, h1, ⟨cs, ty, h, k⟩, h2⟩ := h
  obtain ⟨y, hy⟩ : ∃ y, L[i]? = some y := ⟨_, List.getElem?_eq_getElem (by omega)⟩
  obtain ⟨c1, c2⟩ := k i y hy
  exact ⟨y.1, y.2.1, y.2.2.1, y.2.2.2, by simp [World.cell?, h, c1], by simp [World.cell?, h, c2], (h2 i y hy).big⟩

/-- our own lists, read as rows -/
theorem IntsO.row {w : World} {base : Nat} {v : Value} {l : List Int} (h : IntsO w base v l) (hl : 0 < l.length) : ∃ g cap, v = .slice (some ⟨g, 0, none⟩) l.length cap ∧ base ≤ g ∧ ∀ f : Nat → Int, (∀ i, i < l.length → l[i]? = some (f i)) → IntR w g l.length fun i => .int .i64 (f i) := by
  obtain ⟨h0, h⟩ := h
  rcases h with ⟨-, e⟩ | ⟨g, cap, cur, e1, hg, hh, hc, -, hz, ht⟩
  · omega
  · refine ⟨g, cap, e1, hg, fun f hf => ⟨cur, _, hh, by rw [hz]; omega, fun i hi => ?_⟩⟩
    have h2 : (cur.toList.take (l.length * 1))[i]? = (ivC l)[i]? := by rw [ht]
    rw [ivC_at (hf i hi), List.getElem?_take, if_pos (by omega)] at h2
    simpa using h2
theorem BigsO.row {w : World} {base : Nat} {v : Value} {l : List (Bool × Option Addr × Nat × Nat)} (h : BigsO w base v l) (hl : 0 < l.length) : ∃ g cap, v = .slice (some ⟨g, 0, none⟩) l.length cap ∧ base ≤ g ∧ ∀ (av : Nat → Prop) (lo : Nat → Int), (∀ (i : Nat) y, l[i]? = some y → LostI w av y (lo i)) → LostR w av g l.length lo := by
  obtain ⟨h0, h⟩ := h
  rcases h with ⟨-, e⟩ | ⟨g, cap, cur, e1, hg, hh, hc, -, hz, ht⟩
  · omega
  · refine ⟨g, cap, e1, hg, fun av lo hlo => ⟨l, rfl, ⟨cur, _, hh, fun i y hy => ?_⟩, hlo⟩⟩
    have hi : i < l.length := (List.getElem?_eq_some_iff.1 hy).1
    obtain ⟨c1, c2⟩ := bgC_at hy
    have h2 : (cur.toList.take (l.length * 2))[i * 2]? = (bgC l)[i * 2]? := by rw [ht]
    have h3 : (cur.toList.take (l.length * 2))[i * 2 + 1]? = (bgC l)[i * 2 + 1]? := by rw [ht]
    rw [c1, List.getElem?_take, if_pos (by omega)] at h2
    rw [c2, List.getElem?_take, if_pos (by omega)] at h3
    exact ⟨by simpa using h2, by simpa using h3⟩
end Go.Proofs.YtopklnaahdjafaaGreatDoor

/-
  exref6.Allocate: what it refuses.
-/
namespace Go.Proofs.YtopklnaahdjafaaGreatDoor
open Go.RowKit Go.Shelf Go.Maps Go.WideMaps
set_option linter.unusedVariables false
set_option linter.unusedSimpArgs false

abbrev RAlBad (w : World) (x : Int) (c : ByteArray) (v : Value) (e : Int) : Prop := Calls Tryz.prog 38 #[.agg #[.int .i64 x, .string c], v] w fun r w' => r = .returned (.tuple #[.slice none 0 0, .int .i64 e]) ∧ Only w w'

set_option maxRecDepth 100000 in
theorem rall_chk {x e : Int} {c : ByteArray} {v : Value} {w : World} (C : ChkIs x c e) (h1 : (e == 0) = false) (h2 : (e != 0) = true) : RAlBad w x c v e := by
  have C := Lib.hid C
  have ht := (Only.refl w).alloc (.cells #[.int .i64 x, .string c] 51)
  go_enter Tryz.func38, Tryz.ntmps38
  go_wp2_with fail
  go_at_call 21
  refine (C.out _).mono ?_
  rintro r w1 ⟨rfl, t1⟩
  replace ht := ht.trans t1
  clear t1
  go_wp2
  go_ret2
  exact ⟨rfl, ht⟩
set_option maxRecDepth 100000 in
theorem rall_many {x : Int} {c : ByteArray} {sp : Option Addr} {n cap : Nat} {w : World} (C : ChkIs x c 0) (h : (100 : Int) < (n : Int)) : RAlBad w x c (.slice sp n cap) 9 := by
  have C := Lib.hid C
  have ht := (Only.refl w).alloc (.cells #[.int .i64 x, .string c] 51)
  go_enter Tryz.func38, Tryz.ntmps38
  go_wp2_with fail
  go_at_call 21
  refine (C.out _).mono ?_
  rintro r w1 ⟨rfl, t1⟩
  replace ht := ht.trans t1
  clear t1
  go_wp2
  go_ret2
  exact ⟨rfl, ht⟩
set_option maxRecDepth 100000 in
theorem rall_none {x : Int} {c : ByteArray} {sp : Option Addr} {cap : Nat} {w : World} (C : ChkIs x c 0) : RAlBad w x c (.slice sp 0 cap) 17 := by
  have C := Lib.hid C
  have ht := (Only.refl w).alloc (.cells #[.int .i64 x, .string c] 51)
  go_enter Tryz.func38, Tryz.ntmps38
  go_wp2_with fail
  go_at_call 21
  refine (C.out _).mono ?_
  rintro r w1 ⟨rfl, t1⟩
  replace ht := ht.trans t1
  clear t1
  go_wp2
  go_ret2
  exact ⟨rfl, ht⟩

set_option maxRecDepth 100000 in
theorem rall_sum {x E : Int} {c : ByteArray} {l : List Int} {g o cap n : Nat} {w : World} (C : ChkIs x c 0) (hn : n = l.length) (h0 : 0 < n) (h1 : n ≤ 100) (hc : ∀ W, Only w W → ∀ (i : Nat) (y : Int), l[i]? = some y → W.cell? ⟨g, o + i, none⟩ = some (.int .i64 y))
    (hE : (¬ GoodW l ∧ E = 6) ∨ (GoodW l ∧ l.sum = 0 ∧ E = 17)) : RAlBad w x c (.slice (some ⟨g, o, none⟩) n cap) E := by
  have i1 : (n : Int) ≤ 100 := by omega
  have i2 : ((n : Int) == 0) = false := by simp; omega
  have HC := Lib.hid hc
  have HE := Lib.hid hE
  have HN := Lib.hid hn
  have C := Lib.hid C
  have ht := (Only.refl w).alloc (.cells #[.int .i64 x, .string c] 51)
  clear hc hE hn
  go_enter Tryz.func38, Tryz.ntmps38
  go_wp2_with fail
  go_at_call 21
  refine (C.out _).mono ?_
  rintro r w1 ⟨rfl, t1⟩
  replace ht := ht.trans t1
  have HT := Lib.hid ht
  clear t1 ht
  go_wp2_with fail
  go_loop [7, 8] (fun t i => ∃ k : Nat, k ≤ n ∧ i = .int .i64 (k : Int) ∧ GoodW (l.take k) ∧ t = .int .i64 (l.take k).sum) (fun _ i => n - (intOf i).toNat)
  case atStart => exact ⟨0, Nat.zero_le _, rfl, goodW_nil, rfl⟩
  case round =>
    obtain ⟨k, hk, rfl, hg, rfl⟩ := hrel
    have HG := Lib.hid hg
    clear hg
    by_cases hlt : k < n
    · have j1 : (k : Int) < (n : Int) := by omega
      have hkl : k < l.length := by rw [← HN.out]; exact hlt
      obtain ⟨y, hy⟩ : ∃ y, l[k]? = some y := ⟨_, List.getElem?_eq_getElem hkl⟩
      have c1 := HC.out _ HT.out k y hy
      have HX := Lib.hid hy
      clear hy hkl
      by_cases hx0 : y < 0
      · have hb : ¬ GoodW l := fun h => by have := h y (List.mem_of_getElem? HX.out); omega
        obtain rfl : E = 6 := by
          rcases HE.out with ⟨-, a⟩ | ⟨a, -⟩
          · exact a
          · exact absurd a hb
        clear hb
        go_wp2_with fail
        go_ret2
        exact ⟨rfl, HT.out⟩
      · by_cases hx1 : 2147483648 < y
        · have hb : ¬ GoodW l := fun h => by have := h y (List.mem_of_getElem? HX.out); omega
          obtain rfl : E = 6 := by
            rcases HE.out with ⟨-, a⟩ | ⟨a, -⟩
            · exact a
            · exact absurd a hb
          clear hb
          go_wp2_with fail
          go_ret2
          exact ⟨rfl, HT.out⟩
        · have hbd := goodW_sum HG.out
          have hle : (l.take k).length ≤ 100 := by rw [List.length_take]; omega
          obtain ⟨S, hS⟩ : ∃ S, S = (l.take k).sum := ⟨_, rfl⟩
          rw [← hS] at hbd ⊢
          have hnext : GoodW (l.take (k + 1)) ∧ S + y = (l.take (k + 1)).sum := by
            rw [List.take_add_one, HX.out, hS]
            exact ⟨goodW_snoc HG.out (by omega), (sum_snoc _ _).symm⟩
          have HNX := Lib.hid hnext
          have b1 : 0 ≤ S := hbd.1
          have b2 : S ≤ 214748364800 := by omega
          clear hnext hbd hle hS
          go_wp2_with fail
          go_round
          case rel => exact ⟨k + 1, by omega, by go_num, HNX.out.1, by rw [← HNX.out.2]⟩
          case measure => simp [intOf]; omega
    · have hkn : k = n := by omega
      subst hkn
      have hT : l.take k = l := List.take_of_length_le (by rw [← HN.out]; exact Nat.le_refl _)
      have hg := HG.out
      rw [hT] at hg ⊢
      rcases HE.out with ⟨a, -⟩ | ⟨-, a, rfl⟩
      · exact absurd hg a
      · rw [a]
        clear a hg hT HG
        go_wp2_with fail
        go_ret2
        exact ⟨rfl, HT.out⟩

/-- what is refused, is refused with the same error -/
theorem rall_bad {x : Int} {c : ByteArray} {l : List Int} {v : Value} {w : World} (hv : IntsIn w v l) (h : alloE x c l ≠ 0) : RAlBad w x c v (alloE x c l) := by
  have C := check_any x c
  obtain ⟨sp, cap, rfl, hr⟩ := hv
  unfold alloE at *
  by_cases hc : curE x c = 0
  · rw [if_pos hc] at h ⊢
    rw [hc] at C
    unfold totE at *
    by_cases h1 : 100 < l.length
    · rw [if_pos h1]; exact rall_many C (by omega)
    · rw [if_neg h1] at h ⊢
      by_cases h2 : l.length = 0
      · rw [if_pos h2, h2]; exact rall_none C
      · rw [if_neg h2] at h ⊢
        obtain ⟨g, o, rfl, hcell⟩ := hr (by omega)
        refine rall_sum C rfl (by omega) (by omega) (fun W t i y hy => (Below.cell t (World.block_lt_of_cell? _ _ (hcell i y hy))).trans (hcell i y hy)) ?_
        by_cases h3 : GoodW l
        · rw [if_pos h3] at h ⊢
          by_cases h4 : l.sum = 0
          · rw [if_pos h4]; exact Or.inr ⟨h3, h4, rfl⟩
          · rw [if_neg h4] at h; exact absurd rfl h
        · rw [if_neg h3]; exact Or.inl ⟨h3, rfl⟩
  · rw [if_neg hc]
    exact rall_chk C (ne_eqs hc).1 (ne_eqs hc).2
end Go.Proofs.YtopklnaahdjafaaGreatDoor

/-
  A region that draws its order; what its operations leave is said one by one, and of all together (X); memory may be made, and boxes filled (M). And a pair of numbers, `q, r := BigQuo(..)`, put into two boxes.
-/
namespace Go.Proofs.YtopklnaahdjafaaGreatDoor
open Go Go.RowKit

section
variable {P : Program} {l : List Oper} {a0 : Act} {M : World → World → Prop} {X : Array Bool → (Nat → Value) → World → Prop} {V : Nat → Value → List Value → World → Prop} {F : (Nat → Value) → Act} {Q : Exit → Act → World → Prop}

theorem rich_anyM (hb : richB l = true) (hF : ∀ vs, F vs = fills l 0 vs a0) (hV : ∀ i v ds w w', M w w' → V i v ds w → V i v ds w')
    (hst : ∀ i o, l[i]? = some o → ∀ (L : Array Bool) (vs : Nat → Value) (w : World), L.size = l.length → X L vs w → L.getD i false = false → (∀ j oj, l[j]? = some oj → L.getD j false = true → ∀ k ∈ depsOf oj, L.getD k false = true) → (∀ i, L.getD i false = true → Got l V vs i w) → (∀ j ∈ depsOf o, L.getD j false = true) → GotAll l V vs w (depsOf o) →
      ∀ K : Value → World → Prop, (∀ v w', M w w' → V i v ((depsOf o).map vs) w' → X (L.setIfInBounds i true) (upd vs i v) w' → K v w') →
      if Region.wanted o (yielded l.toArray (F vs).tmps) then RichAt P o (F vs) w K else K undef w)
    (hend : ∀ L vs w, (∀ i, i < l.length → L.getD i false = true) → X L vs w → (∀ i, i < l.length → Got l V vs i w) → Q .normal (F vs) w) :
    ∀ (f : Nat) (listed : Array Bool) (vs : Nat → Value) (w : World), listed.size = l.length → (∀ j oj, l[j]? = some oj → listed.getD j false = true → ∀ k ∈ depsOf oj, listed.getD k false = true) → X listed vs w →
      (∀ i, listed.getD i false = true → Got l V vs i w) → listed.toList.count false ≤ f → wpAny P .any l.toArray Q f listed (F vs) w := by
  have hdist : (l.filterMap (·.dst)).Nodup := by unfold richB at hb; simp only [Bool.and_eq_true, decide_eq_true_eq] at hb; exact hb.2
  have hback : ∀ i o, l[i]? = some o → ∀ j ∈ depsOf o, j < i := fun i o ho j hj => by
    unfold richB at hb
    simp only [Bool.and_eq_true] at hb
    have hd := List.all_eq_true.1 hb.1 i (List.mem_range.2 (List.getElem?_eq_some_iff.1 ho).1)
    rw [ho] at hd
    have := List.all_eq_true.1 hd j hj
    simpa using this
  have fin : ∀ (listed : Array Bool) (vs : Nat → Value) (w : World), listed.size = l.length → X listed vs w → (∀ i, listed.getD i false = true → Got l V vs i w) → Region.ready .any l.toArray listed = [] → Q .normal (F vs) w := by
    intro listed vs w hs hw hg hr
    have hall : ∀ i, i < l.length → listed.getD i false = true := fun i hi => by
      have := rich_listed hb hs hr (i + 1) i (by omega) hi
      have hi2 : i < listed.size := by omega
      simp [hi2] at this ⊢; exact this
    exact hend listed vs w hall hw fun i hi => hg i (hall i hi)
  intro f
  induction f with
  | zero =>
    intro listed vs w hs hcl hw hg hc
    have hr : Region.ready .any l.toArray listed = [] := by
      cases hr : Region.ready .any l.toArray listed with
      | nil => rfl
      | cons i r =>
        exfalso
        have hi : i ∈ Region.ready .any l.toArray listed := by rw [hr]; simp
        obtain ⟨hu, o, ho, -⟩ := mem_ready.1 hi
        have hlt : i < listed.size := by have := (Array.getElem?_eq_some_iff.1 ho).1; simp at this; omega
        simp [hlt] at hu
        have : false ∈ listed.toList := by rw [← hu]; simp
        have := List.count_pos_iff.2 this
        omega
    exact ⟨hr, fin listed vs w hs hw hg hr⟩
  | succ f ih =>
    intro listed vs w hs hcl hw hg hc
    refine ⟨fun hr => fin listed vs w hs hw hg hr, fun i hi => ?_⟩
    obtain ⟨hu, o, ho, hdep⟩ := mem_ready.1 hi
    have ho' : l[i]? = some o := by simpa using ho
    have hlt : i < listed.size := by have := (List.getElem?_eq_some_iff.1 ho').1; omega
    have hui : listed.getD i false = false := getD_both hu
    have hdl : ∀ j ∈ depsOf o, listed.getD j false = true := fun j hj => by
      obtain ⟨e, h1, h2, h3⟩ := depsOf_mem.1 hj
      subst h3
      exact hdep e h1 h2
    have hgd : ∀ j ∈ depsOf o, Got l V vs j w := fun j hj => hg _ (hdl j hj)
    have hcount := count_set listed.toList i (by simp [hlt] at hu; simp [hlt, hu])
    have next : ∀ v w', M w w' → V i v ((depsOf o).map vs) w' → X (listed.setIfInBounds i true) (upd vs i v) w' → wpAny P .any l.toArray Q f (listed.setIfInBounds i true) ((F vs).put o.dst v) w' := by
      intro v w' hmv hVi hX
      have e1 : (F vs).put o.dst v = F (upd vs i v) := by
        rw [hF, hF, ← fills_upd l 0 vs a0 i v o ho' hdist, Nat.zero_add]
      rw [e1]
      refine ih (listed.setIfInBounds i true) (upd vs i v) w' (by simpa using hs) ?_ hX ?_ (by rw [show (listed.setIfInBounds i true).toList = listed.toList.set i true by simp]; omega)
      · intro j oj hj hl k hk
        by_cases hji : i = j
        · subst hji
          have : oj = o := Option.some.inj (hj.symm.trans ho')
          subst this
          exact getD_set_true (hdl k hk)
        · rw [getD_set_ne false hji] at hl
          exact getD_set_true (hcl j oj hj hl k hk)
      · intro j hl oj hj
        by_cases hji : j = i
        · subst hji
          have : oj = o := Option.some.inj (hj.symm.trans ho')
          subst this
          rw [upd_same, List.map_congr_left (g := vs) (fun k hk => upd_other vs v (by have := hback j oj hj k hk; omega))]
          exact hVi
        · rw [getD_set_ne false (fun e => hji e.symm)] at hl
          have hgj := hg j hl oj hj
          rw [upd_other vs v hji, List.map_congr_left (g := vs) (fun k hk => upd_other vs v (fun e => by
            subst e
            have := hcl j oj hj hl k hk
            rw [hui] at this; cases this))]
          exact hV _ _ _ _ _ hmv hgj
    have h := hst i o ho' listed vs w hs hw hui hcl hg hdl (gotAll_of hgd) _ next
    unfold wpOp
    rw [ho]
    simp only
    split
    · rename_i hwant
      rw [if_pos hwant] at h
      exact Or.inl (wp_of_rich (fun v w' hk => hk) h)
    · rename_i hwant
      rw [if_neg hwant] at h
      exact h


end
section
variable (P : Program) (l : List Oper) (wx : World) (M : World → World → Prop) (X : Array Bool → (Nat → Value) → World → Prop) (ps : List Said) (F : (Nat → Value) → Act)
/-- an operation keeps what is said of all together -/
def StepM (i : Nat) (o : Oper) (p : Said) : Prop := ∀ (L : Array Bool) (vs : Nat → Value) (w : World), L.size = l.length → X L vs w → L.getD i false = false → (∀ j oj, l[j]? = some oj → L.getD j false = true → ∀ k ∈ depsOf oj, L.getD k false = true) → (∀ i, L.getD i false = true → Got l (saidV ps) vs i w) → (∀ j ∈ depsOf o, L.getD j false = true) → GotAll l (saidV ps) vs w (depsOf o) →
  ∀ K : Value → World → Prop, (∀ v w', M w w' → p v ((depsOf o).map vs) w' → X (L.setIfInBounds i true) (upd vs i v) w' → K v w') →
    if Region.wanted o (yielded l.toArray (F vs).tmps) then RichAt P o (F vs) w K else K undef w
/-- those of bs are said of all together; the others only make memory -/
def StepsX : List Oper → List Said → List Bool → Nat → Prop
  | [], _, _, _ => True
  | o :: r, p :: qs, b :: bs, i => (match b with | true => StepM P l M X ps F i o p | false => StepP P l wx ps F o p) ∧ StepsX r qs bs (i + 1)
  | _ :: _, _, _, _ => False
end
section
variable {P : Program} {l : List Oper} {wx : World} {M : World → World → Prop} {X : Array Bool → (Nat → Value) → World → Prop} {ps : List Said} {bs : List Bool} {F : (Nat → Value) → Act} {Q : Exit → Act → World → Prop}
theorem stepsX_at (hM : ∀ w w', Only w w' → M w w') (hXw : ∀ L vs w, X L vs w → Only wx w) (hX : ∀ i L vs w v w', bs.getD i false = false → X L vs w → Only w w' → X (L.setIfInBounds i true) (upd vs i v) w') :
    ∀ (r : List Oper) (qs : List Said) (cs : List Bool) (k : Nat), (∀ i, ps[k + i]? = qs[i]?) → (∀ i, bs[k + i]? = cs[i]?) → StepsX P l wx M X ps F r qs cs k → ∀ i o, r[i]? = some o → ∃ p, ps[k + i]? = some p ∧ StepM P l M X ps F (k + i) o p
  | [], _, _, _, _, _, _, _, _, h => by simp at h
  | o' :: r, [], _, _, _, _, h, _, _, _ => h.elim
  | o' :: r, p :: qs, [], _, _, _, h, _, _, _ => h.elim
  | o' :: r, p :: qs, b :: cs, k, hp, hb, hs, 0, o, h => by
    simp at h; subst h
    have e1 : ps[k]? = some p := by simpa using hp 0
    have e2 : bs[k]? = some b := by simpa using hb 0
    have e3 : bs.getD k false = b := by rw [List.getD_eq_getElem?_getD, e2]; rfl
    refine ⟨p, e1, ?_⟩
    have h1 := hs.1
    cases b with
    | true => exact h1
    | false => exact fun L vs w hL hx hu hcl hg hdl hga K hK => h1 vs w (hXw _ _ _ hx) hga K fun v w' t hpv => hK v w' (hM _ _ t) hpv (hX _ _ _ _ _ _ e3 hx t)
  | o' :: r, p :: qs, b :: cs, k, hp, hb, hs, i + 1, o, h => by
    rw [show k + (i + 1) = k + 1 + i by omega]
    exact stepsX_at hM hXw hX r qs cs (k + 1) (fun i => by rw [show k + 1 + i = k + (i + 1) by omega]; simpa using hp (i + 1)) (fun i => by rw [show k + 1 + i = k + (i + 1) by omega]; simpa using hb (i + 1)) hs.2 i o (by simpa using h)
theorem wp_richM {id : Nat} {a : Act} {w : World} (M : World → World → Prop) (X : Array Bool → (Nat → Value) → World → Prop) (ps : List Said) (bs : List Bool) {F : (Nat → Value) → Act} (hm : P.follows .mixedOrders = true) (hb : richB l = true) (hF : ∀ vs, fills l 0 vs a = F vs)
    (hM : ∀ w w', Only w w' → M w w') (hXw : ∀ L vs W, X L vs W → Only w W) (hX : ∀ i L vs w v w', bs.getD i false = false → X L vs w → Only w w' → X (L.setIfInBounds i true) (upd vs i v) w')
    (hO : ∀ p ∈ ps, ∀ v ds W W', M W W' → p v ds W → p v ds W') (h0 : ∀ vs, X (Array.replicate l.length false) vs { w with drawn := w.drawn + 1 }) (hst : StepsX P l w M X ps F l ps bs 0)
    (hend : ∀ L vs W, (∀ i, i < l.length → L.getD i false = true) → X L vs W → GotAll l (saidV ps) vs W (List.range l.length) → Q .normal (F vs) W) :
    (Code.region id l.toArray true).wp P Q a w := by
  refine wp_region_any hm ?_
  have hs := rich_anyM (P := P) (a0 := a) (Q := Q) (M := M) (X := X) (V := saidV ps) hb (fun vs => (hF vs).symm) (fun i v ds W W' t k => by
      unfold saidV at *
      cases hp : ps[i]? with
      | none => trivial
      | some p => rw [hp] at k; exact hO p (List.mem_of_getElem? hp) v ds W W' t k) (fun i o ho => by
      obtain ⟨p, hp, h⟩ := stepsX_at hM hXw hX l ps bs 0 (fun i => by rw [Nat.zero_add]) (fun i => by rw [Nat.zero_add]) hst i o ho
      rw [Nat.zero_add] at hp h
      intro L vs W h1 h2 h3 h4 h5 h6 h7 K hK
      exact h L vs W h1 h2 h3 h4 h5 h6 h7 K fun v w' t k x => hK v w' t (by rw [saidV_at hp]; exact k) x) (fun L vs W hL hX hg => hend L vs W hL hX (gotAll_of fun j hj => hg j (List.mem_range.1 hj))) l.toArray.size (Array.replicate l.toArray.size false)
    (fun i => ((l[i]?).bind (·.dst)).elim undef fun d => a.tmps.getD d undef) { w with drawn := w.drawn + 1 } (by simp) (fun j oj _ hl => by rw [getD_replicate_false] at hl; cases hl) (by simpa using h0 _) (fun i hl => by rw [getD_replicate_false] at hl; cases hl) (by simp)
  rw [← hF, fills_start l 0 _ a (fun i o d h1 h2 => by simp [h1, h2])] at hs
  exact hs
end

/-! ### numbers' boxes that are filled -/
def FillsB (base : Nat) (w w' : World) : Prop := ∃ g b s k c b' s' k' c', base ≤ g ∧ Own2 w g (.bool b) (.slice s k c) ∧ w' = (w.setCell ⟨g, 0, none⟩ (.bool b')).setCell ⟨g, 1, none⟩ (.slice s' k' c')
def MovB (base : Nat) (w w' : World) : Prop := Only w w' ∨ FillsB base w w'
def StabB (base : Nat) (p : Said) : Prop := ∀ v ds W W', MovB base W W' → p v ds W → p v ds W'
theorem stabB_val (base : Nat) (c : Value) : StabB base (pVal c) := fun _ _ _ _ _ h => h
theorem stabB_triv (base : Nat) : StabB base (fun _ _ _ => True) := fun _ _ _ _ _ _ => trivial
theorem BigR.mov {base : Nat} {w w' : World} {b : Bool} {s : Option Addr} {k c : Nat} {n : Int} (h : BigR w b s k c n) (t : MovB base w w') : BigR w' b s k c n := by
  rcases t with t | ⟨g, b1, s1, k1, c1, b2, s2, k2, c2, hg, o, e⟩
  · exact h.only t
  · subst e; exact h.apart o _ _ _ _
theorem FillsB.only {base : Nat} {wr w w' : World} (h : FillsB base w w') (hb : wr.heap.size ≤ base) (t : Only wr w) : Only wr w' := by
  obtain ⟨g, b1, s1, k1, c1, b2, s2, k2, c2, hg, o, e⟩ := h
  subst e
  exact (t.set (by omega) 0 _).set (by omega) 1 _
theorem MovB.only {base : Nat} {wr w w' : World} (h : MovB base w w') (hb : wr.heap.size ≤ base) (t : Only wr w) : Only wr w' := by
  rcases h with h | h
  · exact t.trans h
  · exact h.only hb t

/-- what stands in the two boxes -/
def QX (i13 i14 i15 i16 : Nat) (wr : World) (q r : Int) (L : Array Bool) (vs : Nat → Value) (w : World) : Prop := Only wr w ∧
  (L.getD i13 false = true → ∃ g b s k c, vs i13 = .pointer (some ⟨g, 0, none⟩) ∧ wr.heap.size ≤ g ∧ Own2 w g (.bool b) (.slice s k c) ∧ (L.getD i15 false = true → BigR w b s k c q)) ∧
  (L.getD i14 false = true → ∃ g b s k c, vs i14 = .pointer (some ⟨g, 0, none⟩) ∧ wr.heap.size ≤ g ∧ Own2 w g (.bool b) (.slice s k c) ∧ (L.getD i16 false = true → BigR w b s k c r ∧ Fresh wr s)) ∧
  (L.getD i13 false = true → L.getD i14 false = true → vs i13 ≠ vs i14)
section
variable {A B C D : Nat} {wr w w' : World} {q r : Int} {L : Array Bool} {vs : Nat → Value} {i : Nat} {v : Value}
theorem QX.start (vs : Nat → Value) (n : Nat) (t : Only wr w) : QX A B C D wr q r (Array.replicate n false) vs w :=
  by refine ⟨t, ?_, ?_, ?_⟩ <;> (intro h; rw [getD_replicate_false] at h; cases h)
theorem QX.other (h : QX A B C D wr q r L vs w) (hA : i ≠ A) (hB : i ≠ B) (hC : i ≠ C) (hD : i ≠ D) (t : Only w w') : QX A B C D wr q r (L.setIfInBounds i true) (upd vs i v) w' := by
  obtain ⟨h1, h2, h3, h4⟩ := h
  refine ⟨h1.trans t, fun hl => ?_, fun hl => ?_, fun hl hl' => ?_⟩
  · rw [getD_set_ne false hA] at hl
    obtain ⟨g, b, s, k, c, e1, e2, e3, e4⟩ := h2 hl
    exact ⟨g, b, s, k, c, by rw [upd_other vs v (Ne.symm hA)]; exact e1, e2, e3.only t, fun hq => by rw [getD_set_ne false hC] at hq; exact (e4 hq).only t⟩
  · rw [getD_set_ne false hB] at hl
    obtain ⟨g, b, s, k, c, e1, e2, e3, e4⟩ := h3 hl
    exact ⟨g, b, s, k, c, by rw [upd_other vs v (Ne.symm hB)]; exact e1, e2, e3.only t, fun hq => by rw [getD_set_ne false hD] at hq; exact ⟨(e4 hq).1.only t, (e4 hq).2⟩⟩
  · rw [getD_set_ne false hA] at hl
    rw [getD_set_ne false hB] at hl'
    rw [upd_other vs v (Ne.symm hA), upd_other vs v (Ne.symm hB)]
    exact h4 hl hl'
theorem QX.box1 (h : QX A B C D wr q r L vs w) (hAB : A ≠ B) (hAC : A ≠ C) (hAD : A ≠ D) (hC : L.getD C false = false) {ty : TypeId} : QX A B C D wr q r (L.setIfInBounds A true) (upd vs A (.pointer (some ⟨w.heap.size, 0, none⟩))) (w.alloc (.cells #[.bool false, .slice none 0 0] ty)) := by
  obtain ⟨h1, h2, h3, h4⟩ := h
  have t := (Only.refl w).alloc (.cells #[.bool false, .slice none 0 0] ty)
  refine ⟨h1.trans t, fun hl => ?_, fun hl => ?_, fun hl hl' => ?_⟩
  · exact ⟨w.heap.size, false, none, 0, 0, upd_same _ _ _, h1.size, Own2.new _ _ _ _, fun hq => by rw [getD_set_ne false hAC, hC] at hq; cases hq⟩
  · rw [getD_set_ne false hAB] at hl
    obtain ⟨g, b, s, k, c, e1, e2, e3, e4⟩ := h3 hl
    exact ⟨g, b, s, k, c, by rw [upd_other vs _ (Ne.symm hAB)]; exact e1, e2, e3.only t, fun hq => by rw [getD_set_ne false hAD] at hq; exact ⟨(e4 hq).1.only t, (e4 hq).2⟩⟩
  · rw [getD_set_ne false hAB] at hl'
    obtain ⟨g, b, s, k, c, e1, e2, e3, e4⟩ := h3 hl'
    rw [upd_same, upd_other vs _ (Ne.symm hAB), e1]
    intro e
    simp only [Value.pointer.injEq, Option.some.injEq, Addr.mk.injEq] at e
    have := e3.lt
    omega
theorem QX.box2 (h : QX A B C D wr q r L vs w) (hAB : B ≠ A) (hAC : B ≠ C) (hAD : B ≠ D) (hC : L.getD D false = false) {ty : TypeId} : QX A B C D wr q r (L.setIfInBounds B true) (upd vs B (.pointer (some ⟨w.heap.size, 0, none⟩))) (w.alloc (.cells #[.bool false, .slice none 0 0] ty)) := by
  obtain ⟨h1, h2, h3, h4⟩ := h
  have t := (Only.refl w).alloc (.cells #[.bool false, .slice none 0 0] ty)
  refine ⟨h1.trans t, fun hl => ?_, fun hl => ?_, fun hl hl' => ?_⟩
  · rw [getD_set_ne false hAB] at hl
    obtain ⟨g, b, s, k, c, e1, e2, e3, e4⟩ := h2 hl
    exact ⟨g, b, s, k, c, by rw [upd_other vs _ (Ne.symm hAB)]; exact e1, e2, e3.only t, fun hq => by rw [getD_set_ne false hAC] at hq; exact (e4 hq).only t⟩
  · exact ⟨w.heap.size, false, none, 0, 0, upd_same _ _ _, h1.size, Own2.new _ _ _ _, fun hq => by rw [getD_set_ne false hAD, hC] at hq; cases hq⟩
  · rw [getD_set_ne false hAB] at hl
    obtain ⟨g, b, s, k, c, e1, e2, e3, e4⟩ := h2 hl
    rw [upd_same, upd_other vs _ (Ne.symm hAB), e1]
    intro e
    simp only [Value.pointer.injEq, Option.some.injEq, Addr.mk.injEq] at e
    have := e3.lt
    omega
theorem ptr_ne {g g' : Nat} (h : Value.pointer (some ⟨g, 0, none⟩) ≠ .pointer (some ⟨g', 0, none⟩)) : g ≠ g' := fun e => h (by rw [e])
theorem QX.put1 {g : Nat} {b : Bool} {s : Option Addr} {k c : Nat} (h : QX A B C D wr q r L vs w) (hCA : C ≠ A) (hCB : C ≠ B) (hCD : C ≠ D) (lA : L.getD A false = true) (hg : vs A = .pointer (some ⟨g, 0, none⟩)) (hb : BigR w b s k c q) :
    (∃ b0 s0 k0 c0, wr.heap.size ≤ g ∧ Own2 w g (.bool b0) (.slice s0 k0 c0)) ∧ QX A B C D wr q r (L.setIfInBounds C true) (upd vs C v) ((w.setCell ⟨g, 0, none⟩ (.bool b)).setCell ⟨g, 1, none⟩ (.slice s k c)) := by
  obtain ⟨h1, h2, h3, h4⟩ := h
  obtain ⟨g', b0, s0, k0, c0, e1, e2, e3, -⟩ := h2 lA
  obtain rfl : g' = g := by rw [e1] at hg; simpa using hg
  refine ⟨⟨b0, s0, k0, c0, e2, e3⟩, (h1.set e2 0 _).set e2 1 _, fun hl => ?_, fun hl => ?_, fun hl hl' => ?_⟩
  · exact ⟨g', b, s, k, c, by rw [upd_other vs _ (Ne.symm hCA)]; exact e1, e2, e3.set _ _, fun _ => hb.apart e3 _ _ _ _⟩
  · rw [getD_set_ne false hCB] at hl
    obtain ⟨g2, b2, s2, k2, c2, f1, f2, f3, f4⟩ := h3 hl
    have hne := h4 lA hl
    rw [e1, f1] at hne
    have hne := ptr_ne hne
    exact ⟨g2, b2, s2, k2, c2, by rw [upd_other vs _ (Ne.symm hCB)]; exact f1, f2, (f3.far (Ne.symm hne) 0 _).far (Ne.symm hne) 1 _, fun hq => by rw [getD_set_ne false hCD] at hq; exact ⟨(f4 hq).1.apart e3 _ _ _ _, (f4 hq).2⟩⟩
  · rw [getD_set_ne false hCA] at hl
    rw [getD_set_ne false hCB] at hl'
    rw [upd_other vs _ (Ne.symm hCA), upd_other vs _ (Ne.symm hCB)]
    exact h4 hl hl'
theorem QX.put2 {g : Nat} {b : Bool} {s : Option Addr} {k c : Nat} (h : QX A B C D wr q r L vs w) (hDA : D ≠ A) (hDB : D ≠ B) (hDC : D ≠ C) (lB : L.getD B false = true) (hg : vs B = .pointer (some ⟨g, 0, none⟩)) (hb : BigR w b s k c r) (hf : Fresh wr s) :
    (∃ b0 s0 k0 c0, wr.heap.size ≤ g ∧ Own2 w g (.bool b0) (.slice s0 k0 c0)) ∧ QX A B C D wr q r (L.setIfInBounds D true) (upd vs D v) ((w.setCell ⟨g, 0, none⟩ (.bool b)).setCell ⟨g, 1, none⟩ (.slice s k c)) := by
  obtain ⟨h1, h2, h3, h4⟩ := h
  obtain ⟨g', b0, s0, k0, c0, e1, e2, e3, -⟩ := h3 lB
  obtain rfl : g' = g := by rw [e1] at hg; simpa using hg
  refine ⟨⟨b0, s0, k0, c0, e2, e3⟩, (h1.set e2 0 _).set e2 1 _, fun hl => ?_, fun hl => ?_, fun hl hl' => ?_⟩
  · rw [getD_set_ne false hDA] at hl
    obtain ⟨g2, b2, s2, k2, c2, f1, f2, f3, f4⟩ := h2 hl
    have hne := h4 hl lB
    rw [e1, f1] at hne
    have hne := ptr_ne hne
    exact ⟨g2, b2, s2, k2, c2, by rw [upd_other vs _ (Ne.symm hDA)]; exact f1, f2, (f3.far hne 0 _).far hne 1 _, fun hq => by rw [getD_set_ne false hDC] at hq; exact (f4 hq).apart e3 _ _ _ _⟩
  · exact ⟨g', b, s, k, c, by rw [upd_other vs _ (Ne.symm hDB)]; exact e1, e2, e3.set _ _, fun _ => ⟨hb.apart e3 _ _ _ _, hf⟩⟩
  · rw [getD_set_ne false hDA] at hl
    rw [getD_set_ne false hDB] at hl'
    rw [upd_other vs _ (Ne.symm hDA), upd_other vs _ (Ne.symm hDB)]
    exact h4 hl hl'
end
end Go.Proofs.YtopklnaahdjafaaGreatDoor
