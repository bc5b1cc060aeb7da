/-
  Digits in memory; digits behind digits.
-/
import Derived.Test.YtagilpgplcphpaaBPlain3
import Derived.Test.YtagilpgplcphpaaNBase
import Derived.Maps.AppendAt
import Derived.Laws.AppendOwnNone
import Derived.Lib.Hide
namespace Go.Proofs.Ytagilpgplcphpaa
open Go.RowKit Go.Maps Go.WideMaps

def dgV (x : Nat) : Value := .int .i64 (x : Int)
theorem infoInt : (Try.prog.info? 3).map (fun i => (i.zero, i.size, i.bytes)) = some (some (.int .i64 0), 1, 8) := by kernel_rfl

/-- v reads as these digits; nothing lies ahead of them in their block -/
def NatsR (w : World) (v : Value) (l : List Nat) : Prop :=
  (v = .slice none 0 0 ∧ l = []) ∨ ∃ g cap, v = .slice (some ⟨g, 0, none⟩) l.length cap ∧ l.length ≤ cap ∧ cap ≤ 9223372036854775807 ∧ ∀ j x, l[j]? = some x → w.cell? ⟨g, j, none⟩ = some (dgV x)

/-- the digits are ours: behind base -/
def NatsO (w : World) (base : Nat) (v : Value) (l : List Nat) : Prop := w.ownsRow base 3 1 v l.length (l.map dgV)

section
variable {w w' : World}

theorem NatsR.only {v : Value} {l : List Nat} (h : NatsR w v l) (t : Only w w') : NatsR w' v l := by
  rcases h with h | ⟨g, cap, h1, h2, h3, h4⟩
  · exact Or.inl h
  · exact Or.inr ⟨g, cap, h1, h2, h3, fun j x hj => by
      have k := h4 j x hj
      have hb := World.block_lt_of_cell? w _ k
      exact (Below.cell t (p := ⟨g, j, none⟩) hb).trans k⟩

theorem NatsO.toR {base : Nat} {v : Value} {l : List Nat} (h : NatsO w base v l) : NatsR w v l := by
  have h' := h
  rcases h.2 with ⟨hv, hn⟩ | ⟨g, cap, cur, hv, hg, hh, h1, h2, h3, h4⟩
  · exact Or.inl ⟨hv, List.length_eq_zero_iff.1 hn⟩
  · refine Or.inr ⟨g, cap, hv, h1, ?_, fun j x hj => ?_⟩
    · unfold maxLen at *; omega
    · have hown : w.ownsRow base 3 1 (.slice (some ⟨g, 0, none⟩) l.length cap) l.length (l.map dgV) := by rw [← hv]; exact h
      have hlt : j < l.length := (List.getElem?_eq_some_iff.1 hj).1
      have := hown.cellAt j (by omega)
      rw [this, List.getElem?_map, hj]; rfl

theorem append_nats {ops : Array Oper} {rest : List Oper} {o : Oper} {a : Act} {Qx : Exit → Act → World → Prop} (hgd : o.guard = none) (s x : Operand)
    (ho : o.op = .call { callee := .builtin .append, args := #[s, x], argTypes := #[35, 35] }) {base : Nat} {v u : Value} {l m : List Nat} (hs : a.eval s = v) (hx : a.eval x = u)
    (hl : NatsO w base v l) (hm : NatsR w u m) (hn : l.length + m.length ≤ 1000000000) (hbase : base ≤ w.heap.size)
    (h : ∀ sp cap w', NatsO w' base (.slice sp (l ++ m).length cap) (l ++ m) → Below base w w' → w.heap.size ≤ w'.heap.size → wpList Try.prog ops Qx rest (a.put o.dst (.slice sp (l ++ m).length cap)) w') :
    wpList Try.prog ops Qx (o :: rest) a w := by
  obtain ⟨i0, hi, hz0, hz1, hz2⟩ := info_parts infoInt
  have hown : ∀ r, v.ownBlock = some r → base ≤ r := fun r hr => by
    rcases hl.2 with ⟨rfl, _⟩ | ⟨g, cap, cur, rfl, hg, _⟩
    · cases hr
    · simp [Value.ownBlock] at hr; omega
  have shape : ∃ sp cap, v = .slice sp l.length cap := by
    rcases hl.2 with ⟨h1, h2⟩ | ⟨g, cap, cur, h1, _⟩
    · exact ⟨none, 0, by rw [h1, h2]⟩
    · exact ⟨_, _, h1⟩
  rcases hm with ⟨rfl, rfl⟩ | ⟨g, cap, rfl, hlc, hcap, hc⟩
  · obtain ⟨sp2, cap2, hv⟩ := shape
    refine wpList_append_own_none hgd s x 35 ho base 3 i0 1 Try.underlying35 hi v l.length _ hs hl hx ?_
    have h2 := h sp2 cap2 w (by rw [List.append_nil, ← hv]; exact hl) (Below.refl _ _) (Nat.le_refl _)
    rw [List.append_nil, ← hv] at h2
    exact h2
  · refine wpList_append_own_at w hgd s x 35 ho base 3 i0 (.int .i64 0) 1 8 Try.underlying35 hi hz0 hz1 hz2 rfl (by decide) v l.length _ hs hl ⟨g, 0, none⟩ m.length cap (m.map dgV) hx (by simp) (fun j y hj => ?_) (fun y hy => ?_) (by unfold maxLen; omega) (by omega) hbase ?_
    · rw [List.getElem?_map] at hj
      obtain ⟨z, hz, rfl⟩ := Option.map_eq_some_iff.1 hj
      rw [show (⟨g, 0, none⟩ : Addr).add j = ⟨g, j, none⟩ by unfold Addr.add; split <;> simp_all]
      exact hc j z hz
    · obtain ⟨z, _, rfl⟩ := List.mem_map.1 hy
      rfl
    · intro v' w2 hown' hg _ _
      have hown2 : NatsO w2 base v' (l ++ m) := by unfold NatsO; rw [List.length_append, List.map_append]; exact hown'
      have shape2 : ∃ sp cap, v' = .slice sp (l ++ m).length cap := by
        rcases hown2.2 with ⟨h1, h2⟩ | ⟨g, cap, cur, h1, _⟩
        · exact ⟨none, 0, by rw [h1, h2]⟩
        · exact ⟨_, _, h1⟩
      obtain ⟨sp4, cap4, e4⟩ := shape2
      subst e4
      exact h sp4 cap4 w2 hown2 (Below.grown (Below.refl _ _) hg hbase (fun k e => hown k e)) hg.size

theorem empty_nats (w : World) : NatsO (w.alloc (.cells #[] 3)) w.heap.size (.slice (some ⟨w.heap.size, 0, none⟩) 0 0) [] :=
  ⟨by simp, Or.inr ⟨w.heap.size, 0, _, rfl, Nat.le_refl _, heap_alloc_new _ _, Nat.le_refl _, Nat.zero_le _, by simp, by simp⟩⟩
end
end Go.Proofs.Ytagilpgplcphpaa
