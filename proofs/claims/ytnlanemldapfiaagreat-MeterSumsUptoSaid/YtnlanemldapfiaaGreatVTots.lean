/-
  Lists of totals in memory; a map of sums.
-/
import Derived.Test.YtnlanemldapfiaaGreatVPl
import Derived.Test.YtnlanemldapfiaaGreatVRise
import Derived.Maps.AppendAt
import Derived.Laws.AppendOwnNone
import Derived.RangeFuncFrom
namespace Go.Proofs.YtnlanemldapfiaaGreat.se
open Go.RowKit Go.Maps Go.WideMaps Go.Shelf Go.Proofs.YtnlanemldapfiaaGreat.Tb
set_option linter.unusedVariables false

theorem infoTot : (Tryz.prog.info? 37).map (fun i => (i.zero, i.size, i.bytes)) = some (some (.agg #[.string ⟨#[]⟩, .int .i64 0, .int .i64 0]), 3, 32) := by kernel_rfl
theorem infoTot_parts : ∃ i, Tryz.prog.info? 37 = some i ∧ i.zero = some (.agg #[.string ⟨#[]⟩, .int .i64 0, .int .i64 0]) ∧ i.size = 3 ∧ i.bytes = 32 := by
  have h := infoTot
  cases hi : Tryz.prog.info? 37 with
  | none => rw [hi] at h; simp at h
  | some i =>
    rw [hi] at h
    simp only [Option.map_some, Option.some.injEq, Prod.mk.injEq] at h
    exact ⟨i, rfl, h.1, h.2.1, h.2.2⟩

/-- v reads as these totals -/
def TotR (w : World) (v : Value) (l : List Tot) : Prop :=
  ∃ sp cap, v = .slice sp l.length cap ∧ (0 < l.length → ∃ g, sp = some ⟨g, 0, none⟩ ∧ ∀ (i : Nat) (x : Tot), l[i]? = some x → w.cell? ⟨g, i * 3, none⟩ = some (strE x.1) ∧ w.cell? ⟨g, i * 3 + 1, none⟩ = some (.int .i64 x.2.1) ∧ w.cell? ⟨g, i * 3 + 2, none⟩ = some (.int .i64 x.2.2))

theorem TotR.later {w w' : World} {v : Value} {l : List Tot} (h : TotR w v l) (t : Turn (fun _ => False) w w') : TotR w' v l := by
  obtain ⟨sp, cap, h1, h2⟩ := h
  refine ⟨sp, cap, h1, fun h0 => ?_⟩
  obtain ⟨g, e, h3⟩ := h2 h0
  refine ⟨g, e, fun i x hx => ?_⟩
  obtain ⟨c1, c2, c3⟩ := h3 i x hx
  exact ⟨turn_cell t c1, turn_cell t c2, turn_cell t c3⟩

/-- the cells of totals -/
def totC (l : List Tot) : List Value := l.flatMap fun x => [strE x.1, .int .i64 x.2.1, .int .i64 x.2.2]
theorem totC_length (l : List Tot) : (totC l).length = l.length * 3 := by
  induction l with
  | nil => rfl
  | cons x l ih => simp [totC] at ih ⊢; omega
theorem totC_at {l : List Tot} {i : Nat} {x : Tot} (h : l[i]? = some x) : (totC l)[i * 3]? = some (strE x.1) ∧ (totC l)[i * 3 + 1]? = some (.int .i64 x.2.1) ∧ (totC l)[i * 3 + 2]? = some (.int .i64 x.2.2) := by
  induction l generalizing i with
  | nil => simp at h
  | cons y l ih =>
    cases i with
    | zero =>
      simp at h; subst h
      simp [totC]
    | succ i =>
      have h' : l[i]? = some x := by simpa using h
      obtain ⟨a, b, c⟩ := ih h'
      have e : totC (y :: l) = strE y.1 :: .int .i64 y.2.1 :: .int .i64 y.2.2 :: totC l := rfl
      rw [e, show (i + 1) * 3 = i * 3 + 1 + 1 + 1 by omega, show i * 3 + 1 + 1 + 1 + 1 = (i * 3 + 1) + 1 + 1 + 1 by omega, show i * 3 + 1 + 1 + 1 + 2 = (i * 3 + 2) + 1 + 1 + 1 by omega]
      simp only [List.getElem?_cons_succ]
      exact ⟨a, b, c⟩
theorem totC_append (l m : List Tot) : totC (l ++ m) = totC l ++ totC m := by simp [totC]

def TotO (w : World) (base : Nat) (v : Value) (l : List Tot) : Prop := w.ownsRow base 37 3 v l.length (totC l)

theorem TotO.nil (w : World) (base : Nat) : TotO w base (.slice none 0 0) [] := World.ownsRow_nil _ _ _ _

theorem TotO.toR {w : World} {base : Nat} {v : Value} {l : List Tot} (h : TotO w base v l) : TotR w v l := by
  have h' := h
  rcases h.2 with ⟨hv, hn⟩ | ⟨g, cap, cur, hv, hg, hh, h1, h2, h3, h4⟩
  · have : l = [] := List.length_eq_zero_iff.1 hn
    subst this
    exact ⟨none, 0, hv, fun h0 => by simp at h0⟩
  · refine ⟨some ⟨g, 0, none⟩, cap, hv, fun _ => ⟨g, rfl, fun i x hx => ?_⟩⟩
    have hown : w.ownsRow base 37 3 (.slice (some ⟨g, 0, none⟩) l.length cap) l.length (totC l) := by rw [← hv]; exact h
    have hlt : i < l.length := (List.getElem?_eq_some_iff.1 hx).1
    obtain ⟨a, b, c⟩ := totC_at hx
    exact ⟨(hown.cellAt (i * 3) (by omega)).trans a, (hown.cellAt (i * 3 + 1) (by omega)).trans b, (hown.cellAt (i * 3 + 2) (by omega)).trans c⟩

theorem TotO.later {w w' : World} {base : Nat} {v : Value} {l : List Tot} (h : TotO w base v l) (t : Turn (fun _ => False) w w') : TotO w' base v l := ownsRow_turned h t (fun _ _ q => q)
theorem TotO.form {w : World} {base : Nat} {v : Value} {l : List Tot} (h : TotO w base v l) : ∃ sp cap, v = .slice sp l.length cap := by
  obtain ⟨sp, cap, e, -⟩ := h.toR
  exact ⟨sp, cap, e⟩

theorem append_tot {w : World} {ops : Array Oper} {rest : List Oper} {o : Oper} {a : Act} {Qx : Exit → Act → World → Prop} (hgd : o.guard = none) (s x : Operand)
    (ho : o.op = .call { callee := .builtin .append, args := #[s, x], argTypes := #[33, 33] }) {base : Nat} {v : Value} {l : List Tot} {y : Tot} {g : Nat} (hs : a.eval s = v) (hx : a.eval x = .slice (some ⟨g, 0, none⟩) 1 1)
    (hl : TotO w base v l) (h1 : w.cell? ⟨g, 0, none⟩ = some (strE y.1)) (h2 : w.cell? ⟨g, 1, none⟩ = some (.int .i64 y.2.1)) (h3 : w.cell? ⟨g, 2, none⟩ = some (.int .i64 y.2.2)) (hn : l.length ≤ 1000000) (hbase : base ≤ w.heap.size)
    (h : ∀ sp cap w', TotO w' base (.slice sp (l ++ [y]).length cap) (l ++ [y]) → Below base w w' → w.heap.size ≤ w'.heap.size → (∀ k, k < w.heap.size → v.ownBlock ≠ some k → w'.heap[k]? = w.heap[k]?) → wpList Tryz.prog ops Qx rest (a.put o.dst (.slice sp (l ++ [y]).length cap)) w') :
    wpList Tryz.prog ops Qx (o :: rest) a w := by
  obtain ⟨i0, hi, hz0, hz1, hz2⟩ := infoTot_parts
  have hown : ∀ r, v.ownBlock = some r → base ≤ r := fun r hr => by
    rcases hl.2 with ⟨rfl, _⟩ | ⟨g, cap, cur, rfl, hg, _⟩
    · cases hr
    · simp [Value.ownBlock] at hr; omega
  refine wpList_append_own_at w hgd s x 33 ho base 37 i0 (.agg #[.string ⟨#[]⟩, .int .i64 0, .int .i64 0]) 3 32 Tryz.underlying33 hi hz0 hz1 hz2 rfl (by decide) v l.length _ hs hl ⟨g, 0, none⟩ 1 1 [strE y.1, .int .i64 y.2.1, .int .i64 y.2.2] hx (by simp) (fun j u hj => ?_) (fun u hu => ?_) (by unfold maxLen; omega) (by omega) hbase ?_
  · rcases j with _ | _ | _ | j
    · simp at hj; subst hj; exact h1
    · simp at hj; subst hj
      rw [show (⟨g, 0, none⟩ : Addr).add (0 + 1) = ⟨g, 1, none⟩ by unfold Addr.add; split <;> simp_all]
      exact h2
    · simp at hj; subst hj
      rw [show (⟨g, 0, none⟩ : Addr).add (0 + 1 + 1) = ⟨g, 2, none⟩ by unfold Addr.add; split <;> simp_all]
      exact h3
    · simp at hj
  · simp at hu
    rcases hu with rfl | rfl | rfl <;> rfl
  · intro v' w2 hown' hg _ _
    have hown2 : TotO w2 base v' (l ++ [y]) := by unfold TotO; rw [List.length_append, totC_append]; exact hown'
    obtain ⟨sp, cap, e⟩ := hown2.form
    subst e
    exact h sp cap w2 hown2 (Below.grown (Below.refl _ _) hg hbase (fun k e => hown k e)) hg.size (fun k hk hn => hg.block k hk (fun e => hn e.symm))

/-! ### a map of sums -/
structure SumsD (D : DataW Unit) (l : List Ev) : Prop where
  map : IsMap D
  has : ∀ m, Maps.has D (.string m) = true ↔ m ∈ l.map Ev.met
  at_ : ∀ m, D.atKey (.string m) (totD (0, 0)) = totD (qtyOf l m, cntOf l m)

theorem isKeyS (m : List UInt8) : WideAt.IsKeyLit (.string m) := by simp [WideAt.IsKeyLit]
theorem string_ne {a b : List UInt8} (h : a ≠ b) : (Lit.string a) ≠ Lit.string b := fun e => h (by cases e; rfl)

theorem sums_nil : SumsD (.map []) [] := ⟨⟨[], rfl⟩, fun m => by simp [Maps.has], fun m => by simp [DataW.atKey, qtyOf, cntOf]⟩

theorem SumsD.put {D : DataW Unit} {l : List Ev} (h : SumsD D l) (x : Ev) : SumsD (D.put (.string x.met) (totD (wr (qtyOf l x.met + x.qty), wr (cntOf l x.met + 1)))) (l ++ [x]) := by
  refine ⟨?_, fun m => ?_, fun m => ?_⟩
  · obtain ⟨es, rfl⟩ := h.map
    exact ⟨_, rfl⟩
  · by_cases e : m = x.met
    · subst e
      rw [has_put_same h.map (isKeyS _)]
      simp
    · rw [has_put_other (string_ne e), h.has m, List.map_append, List.mem_append]
      simp [e]
  · rw [qtyOf_snoc, cntOf_snoc]
    by_cases e : m = x.met
    · subst e
      rw [atKey_put_same h.map (isKeyS _), if_pos rfl, if_pos rfl]
    · rw [atKey_put_other (string_ne e), h.at_ m, if_neg (fun k => e k.symm), if_neg (fun k => e k.symm)]
end Go.Proofs.YtnlanemldapfiaaGreat.se
