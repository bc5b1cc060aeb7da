/-
  Parts appended to a list of our own.
-/
import Derived.Test.YtipcdbdlopmdoaaDoorKParts
import Derived.Maps.AppendAt
import Derived.Laws.AppendOwnNone
namespace Go.Proofs.YtipcdbdlopmdoaaDoor
open Go.RowKit Go.Maps Go.WideMaps Go.Shelf
set_option linter.unusedVariables false

theorem infoPa : (Tryd.prog.info? 40).map (fun i => (i.zero, i.size, i.bytes)) = some (some (.agg #[.int .i64 0, .int .i64 0, .string ⟨#[]⟩]), 3, 32) := by kernel_rfl
theorem infoPa_parts : ∃ i, Tryd.prog.info? 40 = some i ∧ i.zero = some (.agg #[.int .i64 0, .int .i64 0, .string ⟨#[]⟩]) ∧ i.size = 3 ∧ i.bytes = 32 := by
  have h := infoPa
  cases hi : Tryd.prog.info? 40 with
  | none => rw [hi] at h; simp at h
  | some i =>
    rw [hi] at h
    simp only [Option.map_some, Option.some.injEq, Prod.mk.injEq] at h
    exact ⟨i, rfl, h.1, h.2.1, h.2.2⟩

/-- the cells of parts -/
def paC (l : List KP) : List Value := l.flatMap fun x => [.int .i64 x.kind, .int .i64 x.n, .string (ktxt x.s)]
theorem paC_length (l : List KP) : (paC l).length = l.length * 3 := by
  induction l with
  | nil => rfl
  | cons x l ih => simp [paC] at ih ⊢; omega
theorem paC_at {l : List KP} {i : Nat} {x : KP} (h : l[i]? = some x) : (paC l)[i * 3]? = some (.int .i64 x.kind) ∧ (paC l)[i * 3 + 1]? = some (.int .i64 x.n) ∧ (paC l)[i * 3 + 2]? = some (.string (ktxt x.s)) := by
  induction l generalizing i with
  | nil => simp at h
  | cons y l ih =>
    cases i with
    | zero =>
      simp at h; subst h
      simp [paC]
    | succ i =>
      have h' : l[i]? = some x := by simpa using h
      obtain ⟨a, b, c⟩ := ih h'
      have e : paC (y :: l) = .int .i64 y.kind :: .int .i64 y.n :: .string (ktxt y.s) :: paC l := rfl
      rw [e, show (i + 1) * 3 = i * 3 + 1 + 1 + 1 by omega, show i * 3 + 1 + 1 + 1 + 1 = (i * 3 + 1) + 1 + 1 + 1 by omega, show i * 3 + 1 + 1 + 1 + 2 = (i * 3 + 2) + 1 + 1 + 1 by omega]
      simp only [List.getElem?_cons_succ]
      exact ⟨a, b, c⟩
theorem paC_append (l m : List KP) : paC (l ++ m) = paC l ++ paC m := by simp [paC]

def PartsO (w : World) (base : Nat) (v : Value) (l : List KP) : Prop := w.ownsRow base 40 3 v l.length (paC l)

theorem PartsO.nil (w : World) (base : Nat) : PartsO w base (.slice none 0 0) [] := World.ownsRow_nil _ _ _ _

theorem PartsO.toR {w : World} {base : Nat} {v : Value} {l : List KP} (h : PartsO w base v l) : PartsR w v l := by
  have h' := h
  rcases h.2 with ⟨hv, hn⟩ | ⟨g, cap, cur, hv, hg, hh, h1, h2, h3, h4⟩
  · have : l = [] := List.length_eq_zero_iff.1 hn
    subst this
    exact ⟨none, 0, hv, fun h0 => by simp at h0⟩
  · refine ⟨some ⟨g, 0, none⟩, cap, hv, fun _ => ⟨g, 0, rfl, fun i hi => ?_⟩⟩
    have hown : w.ownsRow base 40 3 (.slice (some ⟨g, 0, none⟩) l.length cap) l.length (paC l) := by rw [← hv]; exact h
    obtain ⟨a, b, c⟩ := paC_at (List.getElem?_eq_getElem hi)
    rw [Nat.zero_add]
    exact ⟨(hown.cellAt (i * 3) (by omega)).trans a, (hown.cellAt (i * 3 + 1) (by omega)).trans b, (hown.cellAt (i * 3 + 2) (by omega)).trans c⟩

theorem PartsO.only {w w' : World} {base : Nat} {v : Value} {l : List KP} (h : PartsO w base v l) (t : Only w w') : PartsO w' base v l := by
  refine ⟨h.1, ?_⟩
  rcases h.2 with k | ⟨g, cap, cur, e1, hg, hh, r⟩
  · exact Or.inl k
  · exact Or.inr ⟨g, cap, cur, e1, hg, (t.block g (Array.getElem?_eq_some_iff.1 hh).1).trans hh, r⟩
theorem PartsO.base {w : World} {b c : Nat} {v : Value} {l : List KP} (h : PartsO w b v l) (hb : c ≤ b) : PartsO w c v l := by
  refine ⟨h.1, ?_⟩
  rcases h.2 with k | ⟨g, cap, cur, e1, hg, hh, r⟩
  · exact Or.inl k
  · exact Or.inr ⟨g, cap, cur, e1, Nat.le_trans hb hg, hh, r⟩
theorem PartsO.form {w : World} {base : Nat} {v : Value} {l : List KP} (h : PartsO w base v l) : ∃ sp cap, v = .slice sp l.length cap := by
  obtain ⟨sp, cap, e, -⟩ := h.toR
  exact ⟨sp, cap, e⟩

theorem append_part {w : World} {ops : Array Oper} {rest : List Oper} {o : Oper} {a : Act} {Qx : Exit → Act → World → Prop} (hgd : o.guard = none) (s x : Operand)
    (ho : o.op = .call { callee := .builtin .append, args := #[s, x], argTypes := #[22, 22] }) {base : Nat} {v : Value} {l : List KP} {y : KP} {g : Nat} (hs : a.eval s = v) (hx : a.eval x = .slice (some ⟨g, 0, none⟩) 1 1)
    (hl : PartsO w base v l) (h1 : w.cell? ⟨g, 0, none⟩ = some (.int .i64 y.kind)) (h2 : w.cell? ⟨g, 1, none⟩ = some (.int .i64 y.n)) (h3 : w.cell? ⟨g, 2, none⟩ = some (.string (ktxt y.s))) (hn : l.length ≤ 1000000) (hbase : base ≤ w.heap.size)
    (h : ∀ sp cap w', PartsO w' base (.slice sp (l ++ [y]).length cap) (l ++ [y]) → Below base w w' → w.heap.size ≤ w'.heap.size → wpList Tryd.prog ops Qx rest (a.put o.dst (.slice sp (l ++ [y]).length cap)) w') :
    wpList Tryd.prog ops Qx (o :: rest) a w := by
  obtain ⟨i0, hi, hz0, hz1, hz2⟩ := infoPa_parts
  have hown : ∀ r, v.ownBlock = some r → base ≤ r := fun r hr => by
    rcases hl.2 with ⟨rfl, _⟩ | ⟨g, cap, cur, rfl, hg, _⟩
    · cases hr
    · simp [Value.ownBlock] at hr; omega
  refine wpList_append_own_at w hgd s x 22 ho base 40 i0 (.agg #[.int .i64 0, .int .i64 0, .string ⟨#[]⟩]) 3 32 Tryd.underlying22 hi hz0 hz1 hz2 rfl (by decide) v l.length _ hs hl ⟨g, 0, none⟩ 1 1 [.int .i64 y.kind, .int .i64 y.n, .string (ktxt y.s)] hx (by simp) (fun j u hj => ?_) (fun u hu => ?_) (by unfold maxLen; omega) (by omega) hbase ?_
  · rcases j with _ | _ | _ | j
    · simp at hj; subst hj; exact h1
    · simp at hj; subst hj
      rw [show (⟨g, 0, none⟩ : Addr).add (0 + 1) = ⟨g, 1, none⟩ by unfold Addr.add; split <;> simp_all]
      exact h2
    · simp at hj; subst hj
      rw [show (⟨g, 0, none⟩ : Addr).add (0 + 1 + 1) = ⟨g, 2, none⟩ by unfold Addr.add; split <;> simp_all]
      exact h3
    · simp at hj
  · simp at hu
    rcases hu with rfl | rfl | rfl <;> rfl
  · intro v' w2 hown' hg _ _
    have hown2 : PartsO w2 base v' (l ++ [y]) := by unfold PartsO; rw [List.length_append, paC_append]; exact hown'
    obtain ⟨sp, cap, e⟩ := hown2.form
    subst e
    exact h sp cap w2 hown2 (Below.grown (Below.refl _ _) hg hbase (fun k e => hown k e)) hg.size

/-! what Decode does, as plain data -/
theorem decL_fuel : ∀ (f : Nat) (r : List UInt8), r.length ≤ f → ∀ g, r.length ≤ g → decL f r = decL g r
  | f, [], _, g, _ => by cases f <;> cases g <;> rfl
  | 0, _ :: _, h, _, _ => by simp at h
  | f + 1, b :: r, h, 0, h' => by simp at h'
  | f + 1, b :: r, h, g + 1, h' => by
    have e : ∀ f, decL (f + 1) (b :: r) = (takeE (b :: r)).bind fun x => (decL f x.2).map (x.1 :: ·) := fun _ => rfl
    rw [e, e]
    cases ht : takeE (b :: r) with
    | none => rfl
    | some x =>
      have := takeE_shorter ht
      simp only [List.length_cons] at this h h'
      simp only [Option.bind_some]
      rw [decL_fuel f x.2 (by omega) g (by omega)]

/-- what is answered when these parts are read and these bytes are left -/
def decF (acc : List KP) (r : List UInt8) : Option (List KP) := (decL r.length r).bind fun m => if 8 < (acc ++ m).length then none else some (acc ++ m)
theorem decF_start {key : List UInt8} (h : ¬ 200 < key.length) : decE key = decF [] key := by
  unfold decE decF
  rw [if_neg h]; rfl
theorem decF_nil {acc : List KP} (h : acc.length ≤ 8) : decF acc [] = some acc := by
  have : decL ([] : List UInt8).length [] = some [] := rfl
  unfold decF
  rw [this, Option.bind_some, List.append_nil, if_neg (by omega)]
theorem decF_none {acc : List KP} {b : UInt8} {r : List UInt8} (h : takeE (b :: r) = none) : decF acc (b :: r) = none := by
  have : decL (b :: r).length (b :: r) = (takeE (b :: r)).bind fun x => (decL r.length x.2).map (x.1 :: ·) := rfl
  unfold decF
  rw [this, h]; rfl
theorem decF_some {acc : List KP} {b : UInt8} {r : List UInt8} {x : KP × List UInt8} (h : takeE (b :: r) = some x) : decF acc (b :: r) = decF (acc ++ [x.1]) x.2 := by
  have e : decL (b :: r).length (b :: r) = (takeE (b :: r)).bind fun x => (decL r.length x.2).map (x.1 :: ·) := rfl
  have hs := takeE_shorter h
  simp only [List.length_cons] at hs
  unfold decF
  rw [e, h, Option.bind_some, decL_fuel r.length x.2 (by omega) x.2.length (Nat.le_refl _)]
  cases decL x.2.length x.2 with
  | none => rfl
  | some m => simp [List.append_assoc]
theorem decF_full {acc : List KP} {b : UInt8} {r : List UInt8} (h : acc.length = 8) : decF acc (b :: r) = none := by
  cases ht : takeE (b :: r) with
  | none => exact decF_none ht
  | some x =>
    rw [decF_some ht]
    unfold decF
    cases decL x.2.length x.2 with
    | none => rfl
    | some m => simp [h]
end Go.Proofs.YtipcdbdlopmdoaaDoor
