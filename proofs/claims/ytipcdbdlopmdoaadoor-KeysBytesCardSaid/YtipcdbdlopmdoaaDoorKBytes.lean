/-
  Bytes of our own: what is appended to them.
-/
import Derived.Test.YtipcdbdlopmdoaaDoorKBase
import Derived.Laws.AppendOwnNone
import Derived.Lib.AppendStr
import Derived.Maps.AppendAt
import Derived.Laws.BytesString
namespace Go.Proofs.YtipcdbdlopmdoaaDoor
open Go.RowKit Go.Maps Go.WideMaps Go.Shelf
set_option linter.unusedVariables false
set_option linter.unusedSimpArgs false

theorem infoU8 : (Tryd.prog.info? 5).map (fun i => (i.zero, i.size, i.bytes)) = some (some (.int .u8 0), 1, 1) := by kernel_rfl
theorem infoU8_parts : ∃ i, Tryd.prog.info? 5 = some i ∧ i.zero = some (.int .u8 0) ∧ i.size = 1 ∧ i.bytes = 1 := by
  have h := infoU8
  cases hi : Tryd.prog.info? 5 with
  | none => rw [hi] at h; simp at h
  | some i =>
    rw [hi] at h
    simp only [Option.map_some, Option.some.injEq, Prod.mk.injEq] at h
    exact ⟨i, rfl, h.1, h.2.1, h.2.2⟩

def u8V (c : UInt8) : Value := .int .u8 (c.toNat : Int)
/-- bytes of our own -/
def BytesO (w : World) (base : Nat) (v : Value) (l : List UInt8) : Prop := w.ownsRow base 5 1 v l.length (l.map u8V)

theorem BytesO.nil (w : World) (base : Nat) : BytesO w base (.slice none 0 0) [] := World.ownsRow_nil _ _ _ _
theorem BytesO.turn {w w' : World} {base : Nat} {v : Value} {l : List UInt8} (h : BytesO w base v l) {Q : Nat → Prop} (t : Turn Q w w') (hq : ∀ i, base ≤ i → ¬ Q i) : BytesO w' base v l := by
  refine ⟨h.1, ?_⟩
  rcases h.2 with k | ⟨g, cap, cur, e1, hg, hh, r⟩
  · exact Or.inl k
  · exact Or.inr ⟨g, cap, cur, e1, hg, (t.block g (Array.getElem?_eq_some_iff.1 hh).1 (hq g hg)).trans hh, r⟩
theorem BytesO.only {w w' : World} {base : Nat} {v : Value} {l : List UInt8} (h : BytesO w base v l) (t : Only w w') : BytesO w' base v l := h.turn t.turn (fun _ _ q => q)
theorem BytesO.own {w : World} {base : Nat} {v : Value} {l : List UInt8} (h : BytesO w base v l) : ∀ r, v.ownBlock = some r → base ≤ r := fun r hr => by
  rcases h.2 with ⟨rfl, _⟩ | ⟨g, cap, cur, rfl, hg, _⟩
  · cases hr
  · simp [Value.ownBlock] at hr; omega
theorem BytesO.form {w : World} {base : Nat} {v : Value} {l : List UInt8} (h : BytesO w base v l) : (v = .slice none 0 0 ∧ l = []) ∨ (∃ g cap, v = .slice (some ⟨g, 0, none⟩) l.length cap ∧ base ≤ g ∧ ∀ j u, (l.map u8V)[j]? = some u → w.cell? ⟨g, j, none⟩ = some u) := by
  rcases h.2 with ⟨hv, hn⟩ | ⟨g, cap, cur, hv, hg, hh, h1, h2, h3, h4⟩
  · exact Or.inl ⟨hv, List.length_eq_zero_iff.1 hn⟩
  · refine Or.inr ⟨g, cap, hv, hg, fun j u hj => ?_⟩
    have hown : w.ownsRow base 5 1 (.slice (some ⟨g, 0, none⟩) l.length cap) l.length (l.map u8V) := by rw [← hv]; exact h
    have hlt : j < l.length := by have := (List.getElem?_eq_some_iff.1 hj).1; simpa using this
    exact (hown.cellAt j (by omega)).trans hj

/-- one byte is appended -/
theorem append_byte {w : World} {ops : Array Oper} {rest : List Oper} {o : Oper} {a : Act} {Qx : Exit → Act → World → Prop} (hgd : o.guard = none) (s x : Operand)
    (ho : o.op = .call { callee := .builtin .append, args := #[s, x], argTypes := #[59, 59] }) {base : Nat} {v : Value} {l : List UInt8} (y : List UInt8) {g : Nat} (hs : a.eval s = v) (hx : a.eval x = .slice (some ⟨g, 0, none⟩) y.length y.length)
    (hl : BytesO w base v l) (h1 : ∀ j u, (y.map u8V)[j]? = some u → w.cell? ⟨g, j, none⟩ = some u) (hn : l.length + y.length ≤ 100000000) (hbase : base ≤ w.heap.size)
    (h : ∀ v' w', BytesO w' base v' (l ++ y) → Below base w w' → w.heap.size ≤ w'.heap.size → wpList Tryd.prog ops Qx rest (a.put o.dst v') w') :
    wpList Tryd.prog ops Qx (o :: rest) a w := by
  obtain ⟨i0, hi, hz0, hz1, hz2⟩ := infoU8_parts
  refine wpList_append_own_at w hgd s x 59 ho base 5 i0 (.int .u8 0) 1 1 Tryd.underlying59 hi hz0 hz1 hz2 rfl (by decide) v l.length _ hs hl ⟨g, 0, none⟩ y.length y.length (y.map u8V) hx (by simp) (fun j u hj => ?_) (fun u hu => ?_) (by unfold maxLen; omega) (by omega) hbase ?_
  · have := h1 j u hj
    rwa [show (⟨g, 0, none⟩ : Addr).add j = ⟨g, j, none⟩ by unfold Addr.add; split <;> simp_all]
  · simp only [List.mem_map] at hu
    obtain ⟨c, -, rfl⟩ := hu
    rfl
  · intro v' w2 hown' hg _ _
    have hown2 : BytesO w2 base v' (l ++ y) := by unfold BytesO; rw [List.length_append, List.map_append]; exact hown'
    exact h v' w2 hown2 (Below.grown (Below.refl _ _) hg hbase (fun k e => hl.own k e)) hg.size

theorem strCells_map (s : ByteArray) : Lib.strCells s = s.data.toList.map u8V := by
  unfold Lib.strCells; rfl

/-- a text is appended -/
theorem append_text {w : World} {ops : Array Oper} {rest : List Oper} {o : Oper} {a : Act} {Qx : Exit → Act → World → Prop} (hgd : o.guard = none) (s x : Operand)
    (ho : o.op = .call { callee := .builtin .append, args := #[s, x], argTypes := #[59, 9] }) {base : Nat} {v : Value} {l : List UInt8} (y : ByteArray) (hs : a.eval s = v) (hx : a.eval x = .string y)
    (hl : BytesO w base v l) (hn : l.length + y.size ≤ 100000000) (hbase : base ≤ w.heap.size)
    (h : ∀ v' w', BytesO w' base v' (l ++ y.data.toList) → Below base w w' → w.heap.size ≤ w'.heap.size → wpList Tryd.prog ops Qx rest (a.put o.dst v') w') :
    wpList Tryd.prog ops Qx (o :: rest) a w := by
  obtain ⟨i0, hi, hz0, hz1, hz2⟩ := infoU8_parts
  refine Lib.wpList_append_own_string w hgd s x 59 9 ho base 5 i0 Tryd.underlying59 Tryd.underlying9 hi hz0 hz1 hz2 v l.length _ hs hl y hx (by unfold maxLen; omega) (by omega) hbase ?_
  intro v' w2 hown' hg _
  have hown2 : BytesO w2 base v' (l ++ y.data.toList) := by
    unfold BytesO
    rw [List.length_append, List.map_append, show y.data.toList.length = y.size by simp]
    have := hown'
    rwa [strCells_map] at this
  exact h v' w2 hown2 (Below.grown (Below.refl _ _) hg hbase (fun k e => hl.own k e)) hg.size


theorem bytes_string {w : World} {base : Nat} {v : Value} {l : List UInt8} (h : BytesO w base v l) : (convert 59 9 v).run Tryd.prog w = .ok (.string ⟨l.toArray⟩) w := by
  rcases h.form with ⟨rfl, rfl⟩ | ⟨g, cap, rfl, hg, hc⟩
  · rw [run_convert_bytes_string w 59 9 5 none 0 0 (by kernel_rfl) (by kernel_rfl) (by kernel_rfl)]
    rfl
  · rw [run_convert_bytes_string w 59 9 5 _ _ _ (by kernel_rfl) (by kernel_rfl) (by kernel_rfl)]
    have hl : (loadCells ⟨g, 0, none⟩ l.length).run Tryd.prog w = .ok ((l.map fun c => (c.toNat : Int)).map (Value.int .u8)).toArray w := by
      have := run_loadCells_list (P := Tryd.prog) (w := w) ⟨g, 0, none⟩ (l.map u8V) (fun j v hj => by have := hc j v hj; by_cases e : j = 0 <;> simp_all [Addr.add])
      simp only [List.length_map] at this
      rw [this, List.map_map]; rfl
    rw [run_bytesToString w _ _ _ _ hl]
    congr 2
    have : ∀ (l : List UInt8) (s : ByteArray), (l.map fun c => (c.toNat : Int)).foldl (fun r n => r.push (UInt8.ofNat n.toNat)) s = ⟨s.data ++ l.toArray⟩ := by
      intro l
      induction l with
      | nil => intro s; simp
      | cons c l ih => intro s; simp only [List.map_cons, List.foldl_cons, ih]; simp [ByteArray.push]
    rw [this]; simp
end Go.Proofs.YtipcdbdlopmdoaaDoor
