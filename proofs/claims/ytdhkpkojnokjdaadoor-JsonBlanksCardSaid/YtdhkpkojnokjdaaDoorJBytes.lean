/-
  Bytes of our own: what is appended to them.
-/
import Derived.Test.YtdhkpkojnokjdaaDoorJBase
import Derived.Laws.AppendOwnNone
import Derived.Lib.AppendStr
import Derived.Maps.AppendAt
import Derived.Laws.BytesString
import Derived.Shelf.Utf8.AppendRunePlain
namespace Go.Proofs
open Go.Shelf
def Tryd.lays242_ren : Go.Shelf.Ren := ⟨fun | 242 => 68 | 278 => 78 | n => n, fun | 37 => 26 | 21 => 21 | 51 => 105 | 4 => 4 | 5 => 5 | 46 => 76 | n => n, fun | n => n⟩
theorem Tryd.lays242 : Go.Proofs.Lays.n242 Tryd.prog Tryd.lays242_ren := {
  mixed := by kernel_rfl
  f242 := Tryd.func68.trans (congrArg some (by kernel_rfl))
  f278 := Tryd.func78.trans (congrArg some (by kernel_rfl))
  t4 := Tryd.underlying4
  a4 := Tryd.isAgg4
  z4 := Tryd.sizeOf4
  v4 := Tryd.zeroValue4
  t5 := Tryd.underlying5
  a5 := Tryd.isAgg5
  z5 := Tryd.sizeOf5
  v5 := Tryd.zeroValue5
  t21 := Tryd.underlying21
  a21 := Tryd.isAgg21
  z21 := Tryd.sizeOf21
  v21 := Tryd.zeroValue21
  t37 := Tryd.underlying26
  a37 := Tryd.isAgg26
  z37 := Tryd.sizeOf26
  v37 := Tryd.zeroValue26
  t46 := Tryd.underlying76
  a46 := Tryd.isAgg76
  z46 := Tryd.sizeOf76
  v46 := Tryd.zeroValue76
  t51 := Tryd.underlying105
  a51 := Tryd.isAgg105
  z51 := Tryd.sizeOf105
  v51 := Tryd.zeroValue105 }
end Go.Proofs
namespace Go.Proofs.YtdhkpkojnokjdaaDoor
open Go.RowKit Go.Maps Go.WideMaps Go.Shelf
set_option linter.unusedVariables false
set_option linter.unusedSimpArgs false

theorem infoU8 : (Tryd.prog.info? 5).map (fun i => (i.zero, i.size, i.bytes)) = some (some (.int .u8 0), 1, 1) := by kernel_rfl
theorem infoU8_parts : ∃ i, Tryd.prog.info? 5 = some i ∧ i.zero = some (.int .u8 0) ∧ i.size = 1 ∧ i.bytes = 1 := by
  have h := infoU8
  cases hi : Tryd.prog.info? 5 with
  | none => rw [hi] at h; simp at h
  | some i =>
    rw [hi] at h
    simp only [Option.map_some, Option.some.injEq, Prod.mk.injEq] at h
    exact ⟨i, rfl, h.1, h.2.1, h.2.2⟩

def u8V (c : UInt8) : Value := .int .u8 (c.toNat : Int)
/-- bytes of our own -/
def BytesO (w : World) (base : Nat) (v : Value) (l : List UInt8) : Prop := w.ownsRow base 5 1 v l.length (l.map u8V)

theorem BytesO.nil (w : World) (base : Nat) : BytesO w base (.slice none 0 0) [] := World.ownsRow_nil _ _ _ _
theorem BytesO.turn {w w' : World} {base : Nat} {v : Value} {l : List UInt8} (h : BytesO w base v l) {Q : Nat → Prop} (t : Turn Q w w') (hq : ∀ i, base ≤ i → ¬ Q i) : BytesO w' base v l := by
  refine ⟨h.1, ?_⟩
  rcases h.2 with k | ⟨g, cap, cur, e1, hg, hh, r⟩
  · exact Or.inl k
  · exact Or.inr ⟨g, cap, cur, e1, hg, (t.block g (Array.getElem?_eq_some_iff.1 hh).1 (hq g hg)).trans hh, r⟩
theorem BytesO.only {w w' : World} {base : Nat} {v : Value} {l : List UInt8} (h : BytesO w base v l) (t : Only w w') : BytesO w' base v l := h.turn t.turn (fun _ _ q => q)
theorem BytesO.but {w w' : World} {base R : Nat} {v : Value} {l : List UInt8} (h : BytesO w base v l) (t : But R w w') (hR : R < base) : BytesO w' base v l := h.turn t (fun i hi q => by omega)
theorem BytesO.own {w : World} {base : Nat} {v : Value} {l : List UInt8} (h : BytesO w base v l) : ∀ r, v.ownBlock = some r → base ≤ r := fun r hr => by
  rcases h.2 with ⟨rfl, _⟩ | ⟨g, cap, cur, rfl, hg, _⟩
  · cases hr
  · simp [Value.ownBlock] at hr; omega
theorem BytesO.form {w : World} {base : Nat} {v : Value} {l : List UInt8} (h : BytesO w base v l) : (v = .slice none 0 0 ∧ l = []) ∨ (∃ g cap, v = .slice (some ⟨g, 0, none⟩) l.length cap ∧ base ≤ g ∧ ∀ j u, (l.map u8V)[j]? = some u → w.cell? ⟨g, j, none⟩ = some u) := by
  rcases h.2 with ⟨hv, hn⟩ | ⟨g, cap, cur, hv, hg, hh, h1, h2, h3, h4⟩
  · exact Or.inl ⟨hv, List.length_eq_zero_iff.1 hn⟩
  · refine Or.inr ⟨g, cap, hv, hg, fun j u hj => ?_⟩
    have hown : w.ownsRow base 5 1 (.slice (some ⟨g, 0, none⟩) l.length cap) l.length (l.map u8V) := by rw [← hv]; exact h
    have hlt : j < l.length := by have := (List.getElem?_eq_some_iff.1 hj).1; simpa using this
    exact (hown.cellAt j (by omega)).trans hj

/-- one byte is appended -/
theorem append_byte {w : World} {ops : Array Oper} {rest : List Oper} {o : Oper} {a : Act} {Qx : Exit → Act → World → Prop} (hgd : o.guard = none) (s x : Operand)
    (ho : o.op = .call { callee := .builtin .append, args := #[s, x], argTypes := #[26, 26] }) {base : Nat} {v : Value} {l : List UInt8} (y : List UInt8) {g : Nat} (hs : a.eval s = v) (hx : a.eval x = .slice (some ⟨g, 0, none⟩) y.length y.length)
    (hl : BytesO w base v l) (h1 : ∀ j u, (y.map u8V)[j]? = some u → w.cell? ⟨g, j, none⟩ = some u) (hn : l.length + y.length ≤ 100000000) (hbase : base ≤ w.heap.size)
    (h : ∀ v' w', BytesO w' base v' (l ++ y) → Below base w w' → w.heap.size ≤ w'.heap.size → wpList Tryd.prog ops Qx rest (a.put o.dst v') w') :
    wpList Tryd.prog ops Qx (o :: rest) a w := by
  obtain ⟨i0, hi, hz0, hz1, hz2⟩ := infoU8_parts
  refine wpList_append_own_at w hgd s x 26 ho base 5 i0 (.int .u8 0) 1 1 Tryd.underlying26 hi hz0 hz1 hz2 rfl (by decide) v l.length _ hs hl ⟨g, 0, none⟩ y.length y.length (y.map u8V) hx (by simp) (fun j u hj => ?_) (fun u hu => ?_) (by unfold maxLen; omega) (by omega) hbase ?_
  · have := h1 j u hj
    rwa [show (⟨g, 0, none⟩ : Addr).add j = ⟨g, j, none⟩ by unfold Addr.add; split <;> simp_all]
  · simp only [List.mem_map] at hu
    obtain ⟨c, -, rfl⟩ := hu
    rfl
  · intro v' w2 hown' hg _ _
    have hown2 : BytesO w2 base v' (l ++ y) := by unfold BytesO; rw [List.length_append, List.map_append]; exact hown'
    exact h v' w2 hown2 (Below.grown (Below.refl _ _) hg hbase (fun k e => hl.own k e)) hg.size

theorem strCells_map (s : ByteArray) : Lib.strCells s = s.data.toList.map u8V := by
  unfold Lib.strCells; rfl

/-- a text is appended -/
theorem append_text {w : World} {ops : Array Oper} {rest : List Oper} {o : Oper} {a : Act} {Qx : Exit → Act → World → Prop} (hgd : o.guard = none) (s x : Operand)
    (ho : o.op = .call { callee := .builtin .append, args := #[s, x], argTypes := #[26, 9] }) {base : Nat} {v : Value} {l : List UInt8} (y : ByteArray) (hs : a.eval s = v) (hx : a.eval x = .string y)
    (hl : BytesO w base v l) (hn : l.length + y.size ≤ 100000000) (hbase : base ≤ w.heap.size)
    (h : ∀ v' w', BytesO w' base v' (l ++ y.data.toList) → Below base w w' → w.heap.size ≤ w'.heap.size → wpList Tryd.prog ops Qx rest (a.put o.dst v') w') :
    wpList Tryd.prog ops Qx (o :: rest) a w := by
  obtain ⟨i0, hi, hz0, hz1, hz2⟩ := infoU8_parts
  refine Lib.wpList_append_own_string w hgd s x 26 9 ho base 5 i0 Tryd.underlying26 Tryd.underlying9 hi hz0 hz1 hz2 v l.length _ hs hl y hx (by unfold maxLen; omega) (by omega) hbase ?_
  intro v' w2 hown' hg _
  have hown2 : BytesO w2 base v' (l ++ y.data.toList) := by
    unfold BytesO
    rw [List.length_append, List.map_append, show y.data.toList.length = y.size by simp]
    have := hown'
    rwa [strCells_map] at this
  exact h v' w2 hown2 (Below.grown (Below.refl _ _) hg hbase (fun k e => hl.own k e)) hg.size

theorem runeCells_map (r : Int) : Lib.runeCells r = (Lib.encodeRune r).map u8V := by
  unfold Lib.runeCells Lib.encodeRune
  rw [List.map_map]
  refine List.map_congr_left fun x hx => ?_
  obtain ⟨h0, h1⟩ := Lib.encodeRuneZ_byte r x hx
  obtain ⟨n, rfl⟩ := Int.eq_ofNat_of_zero_le h0
  unfold u8V
  simp only [Function.comp, Value.int.injEq, true_and]
  have : (n : Int).toNat.toUInt8.toNat = n := by
    simp only [Int.toNat_natCast]
    rw [show n.toUInt8 = UInt8.ofNat n from rfl, UInt8.toNat_ofNat']
    omega
  omega

/-- a rune is appended -/
theorem appendRune_any {w : World} {base : Nat} {v : Value} {l : List UInt8} {r : Int} (hl : BytesO w base v l) (h0 : 0 ≤ r) (h1 : r ≤ 2147483647) (hn : l.length ≤ 100000000) (hbase : base ≤ w.heap.size) :
    Calls Tryd.prog 68 #[v, .int .i32 r] w fun e w' => ∃ v', e = .returned v' ∧ BytesO w' base v' (l ++ Lib.encodeRune r) ∧ Below base w w' ∧ w.heap.size ≤ w'.heap.size := by
  refine (show Calls Tryd.prog 68 _ w _ from Any.utf8_AppendRune_plain Tryd.lays242 infoU8 base v l.length _ r (by omega) h1 w hl (by omega) hbase).mono ?_
  rintro e w' ⟨v', rfl, hown', o, hg⟩
  refine ⟨v', rfl, ?_, ?_, ?_⟩
  · unfold BytesO
    have hc : (Lib.encodeRune r).length = (Lib.runeCells r).length := by rw [runeCells_map]; simp
    rw [List.length_append, List.map_append, hc, ← runeCells_map]
    exact hown'
  · exact Below.trans (Below.alloc (Below.refl _ _) (by omega) o) (Below.mono (Below.grown (Below.refl _ _) hg (by simp; omega) (fun k e => hl.own k e)) (by omega))
  · have := hg.size; simp at this; omega
end Go.Proofs.YtdhkpkojnokjdaaDoor
