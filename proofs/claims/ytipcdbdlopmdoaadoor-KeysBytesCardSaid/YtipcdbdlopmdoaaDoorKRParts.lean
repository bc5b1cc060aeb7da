/-
  The document's parts appended to a list of our own.
-/
import Derived.Test.YtipcdbdlopmdoaaDoorKPartsO
import Derived.Maps.AppendAt
import Derived.Laws.AppendOwnNone
namespace Go.Proofs.YtipcdbdlopmdoaaDoor
open Go.RowKit Go.Maps Go.WideMaps Go.Shelf
set_option linter.unusedVariables false

theorem infoRPa : (Tryd.prog.info? 41).map (fun i => (i.zero, i.size, i.bytes)) = some (some (.agg #[.int .i64 0, .int .i64 0, .string ⟨#[]⟩]), 3, 32) := by kernel_rfl
theorem infoRPa_parts : ∃ i, Tryd.prog.info? 41 = some i ∧ i.zero = some (.agg #[.int .i64 0, .int .i64 0, .string ⟨#[]⟩]) ∧ i.size = 3 ∧ i.bytes = 32 := by
  have h := infoRPa
  cases hi : Tryd.prog.info? 41 with
  | none => rw [hi] at h; simp at h
  | some i =>
    rw [hi] at h
    simp only [Option.map_some, Option.some.injEq, Prod.mk.injEq] at h
    exact ⟨i, rfl, h.1, h.2.1, h.2.2⟩

def RPartsO (w : World) (base : Nat) (v : Value) (l : List KP) : Prop := w.ownsRow base 41 3 v l.length (paC l)

theorem RPartsO.nil (w : World) (base : Nat) : RPartsO w base (.slice none 0 0) [] := World.ownsRow_nil _ _ _ _

theorem RPartsO.toR {w : World} {base : Nat} {v : Value} {l : List KP} (h : RPartsO w base v l) : PartsR w v l := by
  have h' := h
  rcases h.2 with ⟨hv, hn⟩ | ⟨g, cap, cur, hv, hg, hh, h1, h2, h3, h4⟩
  · have : l = [] := List.length_eq_zero_iff.1 hn
    subst this
    exact ⟨none, 0, hv, fun h0 => by simp at h0⟩
  · refine ⟨some ⟨g, 0, none⟩, cap, hv, fun _ => ⟨g, 0, rfl, fun i hi => ?_⟩⟩
    have hown : w.ownsRow base 41 3 (.slice (some ⟨g, 0, none⟩) l.length cap) l.length (paC l) := by rw [← hv]; exact h
    obtain ⟨a, b, c⟩ := paC_at (List.getElem?_eq_getElem hi)
    rw [Nat.zero_add]
    exact ⟨(hown.cellAt (i * 3) (by omega)).trans a, (hown.cellAt (i * 3 + 1) (by omega)).trans b, (hown.cellAt (i * 3 + 2) (by omega)).trans c⟩

theorem RPartsO.only {w w' : World} {base : Nat} {v : Value} {l : List KP} (h : RPartsO w base v l) (t : Only w w') : RPartsO w' base v l := by
  refine ⟨h.1, ?_⟩
  rcases h.2 with k | ⟨g, cap, cur, e1, hg, hh, r⟩
  · exact Or.inl k
  · exact Or.inr ⟨g, cap, cur, e1, hg, (t.block g (Array.getElem?_eq_some_iff.1 hh).1).trans hh, r⟩
theorem RPartsO.base {w : World} {b c : Nat} {v : Value} {l : List KP} (h : RPartsO w b v l) (hb : c ≤ b) : RPartsO w c v l := by
  refine ⟨h.1, ?_⟩
  rcases h.2 with k | ⟨g, cap, cur, e1, hg, hh, r⟩
  · exact Or.inl k
  · exact Or.inr ⟨g, cap, cur, e1, Nat.le_trans hb hg, hh, r⟩
theorem RPartsO.form {w : World} {base : Nat} {v : Value} {l : List KP} (h : RPartsO w base v l) : ∃ sp cap, v = .slice sp l.length cap := by
  obtain ⟨sp, cap, e, -⟩ := h.toR
  exact ⟨sp, cap, e⟩

theorem append_rpart {w : World} {ops : Array Oper} {rest : List Oper} {o : Oper} {a : Act} {Qx : Exit → Act → World → Prop} (hgd : o.guard = none) (s x : Operand)
    (ho : o.op = .call { callee := .builtin .append, args := #[s, x], argTypes := #[35, 35] }) {base : Nat} {v : Value} {l : List KP} {y : KP} {g : Nat} (hs : a.eval s = v) (hx : a.eval x = .slice (some ⟨g, 0, none⟩) 1 1)
    (hl : RPartsO w base v l) (h1 : w.cell? ⟨g, 0, none⟩ = some (.int .i64 y.kind)) (h2 : w.cell? ⟨g, 1, none⟩ = some (.int .i64 y.n)) (h3 : w.cell? ⟨g, 2, none⟩ = some (.string (ktxt y.s))) (hn : l.length ≤ 1000000) (hbase : base ≤ w.heap.size)
    (h : ∀ sp cap w', RPartsO w' base (.slice sp (l ++ [y]).length cap) (l ++ [y]) → Below base w w' → w.heap.size ≤ w'.heap.size → wpList Tryd.prog ops Qx rest (a.put o.dst (.slice sp (l ++ [y]).length cap)) w') :
    wpList Tryd.prog ops Qx (o :: rest) a w := by
  obtain ⟨i0, hi, hz0, hz1, hz2⟩ := infoRPa_parts
  have hown : ∀ r, v.ownBlock = some r → base ≤ r := fun r hr => by
    rcases hl.2 with ⟨rfl, _⟩ | ⟨g, cap, cur, rfl, hg, _⟩
    · cases hr
    · simp [Value.ownBlock] at hr; omega
  refine wpList_append_own_at w hgd s x 35 ho base 41 i0 (.agg #[.int .i64 0, .int .i64 0, .string ⟨#[]⟩]) 3 32 Tryd.underlying35 hi hz0 hz1 hz2 rfl (by decide) v l.length _ hs hl ⟨g, 0, none⟩ 1 1 [.int .i64 y.kind, .int .i64 y.n, .string (ktxt y.s)] hx (by simp) (fun j u hj => ?_) (fun u hu => ?_) (by unfold maxLen; omega) (by omega) hbase ?_
  · rcases j with _ | _ | _ | j
    · simp at hj; subst hj; exact h1
    · simp at hj; subst hj
      rw [show (⟨g, 0, none⟩ : Addr).add (0 + 1) = ⟨g, 1, none⟩ by unfold Addr.add; split <;> simp_all]
      exact h2
    · simp at hj; subst hj
      rw [show (⟨g, 0, none⟩ : Addr).add (0 + 1 + 1) = ⟨g, 2, none⟩ by unfold Addr.add; split <;> simp_all]
      exact h3
    · simp at hj
  · simp at hu
    rcases hu with rfl | rfl | rfl <;> rfl
  · intro v' w2 hown' hg _ _
    have hown2 : RPartsO w2 base v' (l ++ [y]) := by unfold RPartsO; rw [List.length_append, paC_append]; exact hown'
    obtain ⟨sp, cap, e⟩ := hown2.form
    subst e
    exact h sp cap w2 hown2 (Below.grown (Below.refl _ _) hg hbase (fun k e => hown k e)) hg.size


/-- a part appended as a step of a region that draws its order -/
theorem step_rpart {w : World} {ops : Array Oper} {o : Oper} {a : Act} {K : Act → World → Prop} {Qx : Exit → Act → World → Prop} {E : Prop} (hgd : o.guard = none) (s x : Operand)
    (ho : o.op = .call { callee := .builtin .append, args := #[s, x], argTypes := #[35, 35] }) {base : Nat} {v : Value} {l : List KP} {y : KP} {g : Nat} (hs : a.eval s = v) (hx : a.eval x = .slice (some ⟨g, 0, none⟩) 1 1)
    (hl : RPartsO w base v l) (h1 : w.cell? ⟨g, 0, none⟩ = some (.int .i64 y.kind)) (h2 : w.cell? ⟨g, 1, none⟩ = some (.int .i64 y.n)) (h3 : w.cell? ⟨g, 2, none⟩ = some (.string (ktxt y.s))) (hn : l.length ≤ 1000000) (hbase : base ≤ w.heap.size)
    (h : ∀ v' w', RPartsO w' base v' (l ++ [y]) → Below base w w' → w.heap.size ≤ w'.heap.size → K (a.put o.dst v') w') :
    if Region.wanted o (yielded ops a.tmps) = true then Oper.wp Tryd.prog o a w K Qx else E := by
  have hw : Region.wanted o (yielded ops a.tmps) = true := by simp [Region.wanted, hgd]
  rw [if_pos hw]
  obtain ⟨i0, hi, hz0, hz1, hz2⟩ := infoRPa_parts
  have hown : ∀ r, v.ownBlock = some r → base ≤ r := fun r hr => by
    rcases hl.2 with ⟨rfl, _⟩ | ⟨g, cap, cur, rfl, hg, _⟩
    · cases hr
    · simp [Value.ownBlock] at hr; omega
  obtain ⟨v', w2, hrun, hown', hg, -, -⟩ := run_append_own_at (P := Tryd.prog) (w := w) base 35 o.type 41 i0 (.agg #[.int .i64 0, .int .i64 0, .string ⟨#[]⟩]) 3 32 Tryd.underlying35 hi hz0 hz1 hz2 rfl (by decide) v l.length _ hl ⟨g, 0, none⟩ 1 1 [.int .i64 y.kind, .int .i64 y.n, .string (ktxt y.s)] (by simp) (fun j u hj => by
      rcases j with _ | _ | _ | j
      · simp at hj; subst hj; exact h1
      · simp at hj; subst hj
        rw [show (⟨g, 0, none⟩ : Addr).add (0 + 1) = ⟨g, 1, none⟩ by unfold Addr.add; split <;> simp_all]
        exact h2
      · simp at hj; subst hj
        rw [show (⟨g, 0, none⟩ : Addr).add (0 + 1 + 1) = ⟨g, 2, none⟩ by unfold Addr.add; split <;> simp_all]
        exact h3
      · simp at hj) (fun u hu => by
      simp at hu
      rcases hu with rfl | rfl | rfl <;> rfl) (by unfold maxLen; omega) (by omega) hbase
  unfold Oper.wp
  simp [execOp, ho, resolve, invoke, builtin, hs, hx, hrun, Result.andThen]
  have hown2 : RPartsO w2 base v' (l ++ [y]) := by unfold RPartsO; rw [List.length_append, paC_append]; exact hown'
  exact h v' w2 hown2 (Below.grown (Below.refl _ _) hg hbase (fun k e => hown k e)) hg.size
end Go.Proofs.YtipcdbdlopmdoaaDoor
