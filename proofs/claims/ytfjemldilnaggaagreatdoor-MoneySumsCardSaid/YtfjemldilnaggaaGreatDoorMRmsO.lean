/-
  The document's amounts appended to a list of our own.
-/
import Derived.Test.YtfjemldilnaggaaGreatDoorMAms
import Derived.Maps.AppendAt
import Derived.Laws.AppendOwnNone
namespace Go.Proofs.YtfjemldilnaggaaGreatDoor
open Go.RowKit Go.Maps Go.WideMaps Go.Shelf
set_option linter.unusedVariables false

theorem infoRm : (Tryz.prog.info? 51).map (fun i => (i.zero, i.size, i.bytes)) = some (some (.agg #[.int .i64 0, .string ⟨#[]⟩]), 2, 24) := by kernel_rfl
theorem infoRm_parts : ∃ i, Tryz.prog.info? 51 = some i ∧ i.zero = some (.agg #[.int .i64 0, .string ⟨#[]⟩]) ∧ i.size = 2 ∧ i.bytes = 24 := by
  have h := infoRm
  cases hi : Tryz.prog.info? 51 with
  | none => rw [hi] at h; simp at h
  | some i =>
    rw [hi] at h
    simp only [Option.map_some, Option.some.injEq, Prod.mk.injEq] at h
    exact ⟨i, rfl, h.1, h.2.1, h.2.2⟩

/-- the cells of amounts -/
def rmC (l : List (Int × ByteArray)) : List Value := l.flatMap fun x => [.int .i64 x.1, .string x.2]
theorem rmC_length (l : List (Int × ByteArray)) : (rmC l).length = l.length * 2 := by
  induction l with
  | nil => rfl
  | cons x l ih => simp [rmC] at ih ⊢; omega
theorem rmC_at {l : List (Int × ByteArray)} {i : Nat} {x : Int × ByteArray} (h : l[i]? = some x) : (rmC l)[i * 2]? = some (.int .i64 x.1) ∧ (rmC l)[i * 2 + 1]? = some (.string x.2) := by
  induction l generalizing i with
  | nil => simp at h
  | cons y l ih =>
    cases i with
    | zero =>
      simp at h; subst h
      simp [rmC]
    | succ i =>
      have h' : l[i]? = some x := by simpa using h
      obtain ⟨a, b⟩ := ih h'
      have e : rmC (y :: l) = .int .i64 y.1 :: .string y.2 :: rmC l := rfl
      rw [e, show (i + 1) * 2 = i * 2 + 1 + 1 by omega, show i * 2 + 1 + 1 + 1 = (i * 2 + 1) + 1 + 1 by omega]
      simp only [List.getElem?_cons_succ]
      exact ⟨a, b⟩
theorem rmC_append (l m : List (Int × ByteArray)) : rmC (l ++ m) = rmC l ++ rmC m := by simp [rmC]

def RmsO (w : World) (base : Nat) (v : Value) (l : List (Int × ByteArray)) : Prop := w.ownsRow base 51 2 v l.length (rmC l)

theorem RmsO.nil (w : World) (base : Nat) : RmsO w base (.slice none 0 0) [] := World.ownsRow_nil _ _ _ _

theorem RmsO.toR {w : World} {base : Nat} {v : Value} {l : List (Int × ByteArray)} (h : RmsO w base v l) : AmsR w v l := by
  have h' := h
  rcases h.2 with ⟨hv, hn⟩ | ⟨g, cap, cur, hv, hg, hh, h1, h2, h3, h4⟩
  · have : l = [] := List.length_eq_zero_iff.1 hn
    subst this
    exact ⟨none, 0, hv, fun h0 => by simp at h0⟩
  · refine ⟨some ⟨g, 0, none⟩, cap, hv, fun _ => ⟨g, 0, rfl, fun i x hx => ?_⟩⟩
    have hown : w.ownsRow base 51 2 (.slice (some ⟨g, 0, none⟩) l.length cap) l.length (rmC l) := by rw [← hv]; exact h
    have hlt : i < l.length := (List.getElem?_eq_some_iff.1 hx).1
    obtain ⟨a, b⟩ := rmC_at hx
    rw [Nat.zero_add]
    exact ⟨(hown.cellAt (i * 2) (by omega)).trans a, (hown.cellAt (i * 2 + 1) (by omega)).trans b⟩

theorem RmsO.only {w w' : World} {base : Nat} {v : Value} {l : List (Int × ByteArray)} (h : RmsO w base v l) (t : Only w w') : RmsO w' base v l := by
  refine ⟨h.1, ?_⟩
  rcases h.2 with k | ⟨g, cap, cur, e1, hg, hh, r⟩
  · exact Or.inl k
  · exact Or.inr ⟨g, cap, cur, e1, hg, (t.block g (Array.getElem?_eq_some_iff.1 hh).1).trans hh, r⟩
theorem RmsO.form {w : World} {base : Nat} {v : Value} {l : List (Int × ByteArray)} (h : RmsO w base v l) : ∃ sp cap, v = .slice sp l.length cap := by
  obtain ⟨sp, cap, e, -⟩ := h.toR
  exact ⟨sp, cap, e⟩

theorem append_rm {w : World} {ops : Array Oper} {rest : List Oper} {o : Oper} {a : Act} {Qx : Exit → Act → World → Prop} (hgd : o.guard = none) (s x : Operand)
    (ho : o.op = .call { callee := .builtin .append, args := #[s, x], argTypes := #[60, 60] }) {base : Nat} {v : Value} {l : List (Int × ByteArray)} {y : Int × ByteArray} {g : Nat} (hs : a.eval s = v) (hx : a.eval x = .slice (some ⟨g, 0, none⟩) 1 1)
    (hl : RmsO w base v l) (h1 : w.cell? ⟨g, 0, none⟩ = some (.int .i64 y.1)) (h2 : w.cell? ⟨g, 1, none⟩ = some (.string y.2)) (hn : l.length ≤ 1000000) (hbase : base ≤ w.heap.size)
    (h : ∀ sp cap w', RmsO w' base (.slice sp (l ++ [y]).length cap) (l ++ [y]) → Below base w w' → w.heap.size ≤ w'.heap.size → wpList Tryz.prog ops Qx rest (a.put o.dst (.slice sp (l ++ [y]).length cap)) w') :
    wpList Tryz.prog ops Qx (o :: rest) a w := by
  obtain ⟨i0, hi, hz0, hz1, hz2⟩ := infoRm_parts
  have hown : ∀ r, v.ownBlock = some r → base ≤ r := fun r hr => by
    rcases hl.2 with ⟨rfl, _⟩ | ⟨g, cap, cur, rfl, hg, _⟩
    · cases hr
    · simp [Value.ownBlock] at hr; omega
  refine wpList_append_own_at w hgd s x 60 ho base 51 i0 (.agg #[.int .i64 0, .string ⟨#[]⟩]) 2 24 Tryz.underlying60 hi hz0 hz1 hz2 rfl (by decide) v l.length _ hs hl ⟨g, 0, none⟩ 1 1 [.int .i64 y.1, .string y.2] hx (by simp) (fun j u hj => ?_) (fun u hu => ?_) (by unfold maxLen; omega) (by omega) hbase ?_
  · rcases j with _ | _ | j
    · simp at hj; subst hj; exact h1
    · simp at hj; subst hj
      rw [show (⟨g, 0, none⟩ : Addr).add (0 + 1) = ⟨g, 1, none⟩ by unfold Addr.add; split <;> simp_all]
      exact h2
    · simp at hj
  · simp at hu
    rcases hu with rfl | rfl <;> rfl
  · intro v' w2 hown' hg _ _
    have hown2 : RmsO w2 base v' (l ++ [y]) := by unfold RmsO; rw [List.length_append, rmC_append]; exact hown'
    obtain ⟨sp, cap, e⟩ := hown2.form
    subst e
    exact h sp cap w2 hown2 (Below.grown (Below.refl _ _) hg hbase (fun k e => hown k e)) hg.size
end Go.Proofs.YtfjemldilnaggaaGreatDoor
