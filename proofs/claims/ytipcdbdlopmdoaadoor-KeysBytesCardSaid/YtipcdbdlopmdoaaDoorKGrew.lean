/-
  Bytes appended: only their own row changes, or a new one is made.
-/
import Derived.Test.YtipcdbdlopmdoaaDoorKBytes
import Derived.Test.YtipcdbdlopmdoaaDoorKMap
namespace Go.Proofs.YtipcdbdlopmdoaaDoor
open Go.RowKit Go.Maps Go.WideMaps Go.Shelf
set_option linter.unusedVariables false
set_option linter.unusedSimpArgs false

/-- of the older blocks only that of v may have changed; the block of v' is that one, or new -/
def Grew (w : World) (v : Value) (w' : World) (v' : Value) : Prop := Turn (fun i => v.ownBlock = some i) w w' ∧ ∀ g, v'.ownBlock = some g → v.ownBlock = some g ∨ w.heap.size ≤ g
theorem Grew.refl (w : World) (v : Value) : Grew w v w v := ⟨Turn.refl _ _, fun g h => Or.inl h⟩
theorem Grew.trans {a b c : World} {v v1 v2 : Value} (h : Grew a v b v1) (k : Grew b v1 c v2) : Grew a v c v2 := by
  refine ⟨h.1.trans k.1 (fun i hi e => ?_), fun g hg => ?_⟩
  · rcases h.2 i e with q | q
    · exact q
    · omega
  · rcases k.2 g hg with q | q
    · exact h.2 g q
    · exact Or.inr (Nat.le_trans h.1.size q)
theorem Grew.only {a b c : World} {v v1 : Value} (h : Grew a v b v1) (t : Only b c) : Grew a v c v1 := h.trans ⟨t.turn.mono (fun _ q => q.elim), fun g e => Or.inl e⟩
theorem Grew.alloc {a b : World} {v v1 : Value} (h : Grew a v b v1) (o : Obj) : Grew a v (b.alloc o) v1 := h.only ((Only.refl b).alloc o)
theorem Grew.drew {a b : World} {v v1 : Value} (h : Grew a v b v1) : Grew a v b.drew v1 := h.only (Only.refl b).drew
theorem Grew.size {a b : World} {v v1 : Value} (h : Grew a v b v1) : a.heap.size ≤ b.heap.size := h.1.size
theorem Grew.below {a b : World} {v v1 : Value} {base : Nat} {l : List UInt8} (h : Grew a v b v1) (hb : BytesO a base v l) (hbase : base ≤ a.heap.size) : Below base a b :=
  ⟨h.1.os, h.1.tape, h.1.output, h.1.size, fun k hk => h.1.block k (by omega) (fun e => by have := hb.own k e; omega)⟩
theorem Grew.of {w w' : World} {v v' : Value} (hg : w.grownBy w' v.ownBlock) (h : v'.ownBlock = v.ownBlock ∨ v'.ownBlock = some w.heap.size) : Grew w v w' v' := by
  refine ⟨Turn.grown (Turn.refl _ _) hg (fun k e => Or.inl e), fun g e => ?_⟩
  rcases h with h | h
  · exact Or.inl (h ▸ e)
  · rw [h] at e; cases e; exact Or.inr (Nat.le_refl _)

/-- one byte or more are appended -/
theorem append_byteG {w : World} {ops : Array Oper} {rest : List Oper} {o : Oper} {a : Act} {Qx : Exit → Act → World → Prop} (hgd : o.guard = none) (s x : Operand)
    (ho : o.op = .call { callee := .builtin .append, args := #[s, x], argTypes := #[59, 59] }) {base : Nat} {v : Value} {l : List UInt8} (y : List UInt8) {g : Nat} (hs : a.eval s = v) (hx : a.eval x = .slice (some ⟨g, 0, none⟩) y.length y.length)
    (hl : BytesO w base v l) (h1 : ∀ j u, (y.map u8V)[j]? = some u → w.cell? ⟨g, j, none⟩ = some u) (hn : l.length + y.length ≤ 100000000) (hbase : base ≤ w.heap.size)
    (h : ∀ v' w', BytesO w' base v' (l ++ y) → Grew w v w' v' → wpList Tryd.prog ops Qx rest (a.put o.dst v') w') :
    wpList Tryd.prog ops Qx (o :: rest) a w := by
  obtain ⟨i0, hi, hz0, hz1, hz2⟩ := infoU8_parts
  refine wpList_append_own_at w hgd s x 59 ho base 5 i0 (.int .u8 0) 1 1 Tryd.underlying59 hi hz0 hz1 hz2 rfl (by decide) v l.length _ hs hl ⟨g, 0, none⟩ y.length y.length (y.map u8V) hx (by simp) (fun j u hj => ?_) (fun u hu => ?_) (by unfold maxLen; omega) (by omega) hbase ?_
  · have := h1 j u hj
    rwa [show (⟨g, 0, none⟩ : Addr).add j = ⟨g, j, none⟩ by unfold Addr.add; split <;> simp_all]
  · simp only [List.mem_map] at hu
    obtain ⟨c, -, rfl⟩ := hu
    rfl
  · intro v' w2 hown' hg _ h5
    have hown2 : BytesO w2 base v' (l ++ y) := by unfold BytesO; rw [List.length_append, List.map_append]; exact hown'
    exact h v' w2 hown2 (Grew.of hg h5)

/-- where a text that is appended comes to stand -/
theorem own_text {w : World} {base : Nat} {v : Value} {l : List UInt8} (hl : BytesO w base v l) (y : ByteArray) (hn : l.length + y.size ≤ 100000000) {ty : TypeId} {v' : Value} {w' : World}
    (hr : (Builtin.append_ #[59, 9] ty #[v, .string y]).run Tryd.prog w = .ok v' w') : v'.ownBlock = v.ownBlock ∨ v'.ownBlock = some w.heap.size := by
  obtain ⟨i0, hi, hz0, hz1, hz2⟩ := infoU8_parts
  rcases hl.2 with ⟨rfl, h0⟩ | ⟨g, cap, cur, rfl, hbg, hg, hnc, hcm, hcs, htake⟩
  · by_cases hm : y.size = 0
    · have hf := Lib.run_firstCells_string (P := Tryd.prog) w 1 y
      rw [hm] at hf
      simp [Builtin.append_, run_underlying Tryd.underlying59, run_underlying Tryd.underlying9, sizeOf, typeInfo, hi, hz1, Builtin.lenOf, hm, hf] at hr
      exact Or.inl (by rw [← hr.1])
    · have hr2 := run_append_nil_string (P := Tryd.prog) w 59 9 ty 5 i0 (.int .u8 0) Tryd.underlying59 Tryd.underlying9 hi hz0 y (by omega) (by omega) (by rw [hz2]; omega)
      rw [hr] at hr2
      simp only [Result.ok.injEq] at hr2
      exact Or.inr (by rw [hr2.1]; rfl)
  · by_cases hroom : l.length + y.size ≤ cap
    · have hcs' : cur.size = cap := by simpa using hcs
      have hr2 := Lib.run_append_room_string (P := Tryd.prog) w 59 9 ty 5 i0 Tryd.underlying59 Tryd.underlying9 hi hz1 g l.length cap cur hg y hroom (by omega)
      rw [hr] at hr2
      simp only [Result.ok.injEq] at hr2
      exact Or.inl (by rw [hr2.1]; rfl)
    · have holds : ∀ j u, (l.map u8V)[j]? = some u → w.cell? ((⟨g, 0, none⟩ : Addr).add j) = some u := World.ownsRow.cells (g := g) hl rfl
      have hr2 := Lib.run_append_grow_string (P := Tryd.prog) w 59 9 ty 5 i0 (.int .u8 0) Tryd.underlying59 Tryd.underlying9 hi hz0 ⟨g, 0, none⟩ l.length cap (l.map u8V) (by rw [hz1]; simp) holds y (by omega) (by omega) (by rw [hz2]; exact growslice_fits (by omega) (by omega))
      rw [hr] at hr2
      simp only [Result.ok.injEq] at hr2
      exact Or.inr (by rw [hr2.1]; rfl)

/-- a text is appended -/
theorem append_textG {w : World} {ops : Array Oper} {rest : List Oper} {o : Oper} {a : Act} {Qx : Exit → Act → World → Prop} (hgd : o.guard = none) (s x : Operand)
    (ho : o.op = .call { callee := .builtin .append, args := #[s, x], argTypes := #[59, 9] }) {base : Nat} {v : Value} {l : List UInt8} (y : ByteArray) (hs : a.eval s = v) (hx : a.eval x = .string y)
    (hl : BytesO w base v l) (hn : l.length + y.size ≤ 100000000) (hbase : base ≤ w.heap.size)
    (h : ∀ v' w', BytesO w' base v' (l ++ y.data.toList) → Grew w v w' v' → wpList Tryd.prog ops Qx rest (a.put o.dst v') w') :
    wpList Tryd.prog ops Qx (o :: rest) a w := by
  obtain ⟨i0, hi, hz0, hz1, hz2⟩ := infoU8_parts
  refine wpList_plain hgd fun K hK => ?_
  obtain ⟨v', w2, hr, hown', hg, -⟩ := Lib.run_append_own_string (P := Tryd.prog) w base 59 9 o.type 5 i0 Tryd.underlying59 Tryd.underlying9 hi hz0 hz1 hz2 v l.length _ hl y (by unfold maxLen; omega) (by omega) hbase
  have h5 := own_text hl y hn hr
  unfold Oper.wp execOp
  simp only [ho, resolve, invoke, builtin, Sem.run_bind, Sem.run_pure, Result.andThen_ok, List.map_toArray, List.map_cons, List.map_nil, hs, hx, hr]
  have hown2 : BytesO w2 base v' (l ++ y.data.toList) := by
    unfold BytesO
    rw [List.length_append, List.map_append, show y.data.toList.length = y.size by simp]
    have := hown'
    rwa [strCells_map] at this
  exact hK _ _ (h v' w2 hown2 (Grew.of hg h5))

/-- bytes appended as a step of a region that draws its order -/
theorem step_bytesG {w : World} {ops : Array Oper} {o : Oper} {a : Act} {K : Act → World → Prop} {Qx : Exit → Act → World → Prop} {E : Prop} (hgd : o.guard = none) (s x : Operand)
    (ho : o.op = .call { callee := .builtin .append, args := #[s, x], argTypes := #[59, 59] }) {base : Nat} {v : Value} {l : List UInt8} (y : List UInt8) {g n : Nat} (hs : a.eval s = v) (hx : a.eval x = .slice (some ⟨g, 0, none⟩) n n) (hny : n = y.length)
    (hl : BytesO w base v l) (h1 : ∀ j u, (y.map u8V)[j]? = some u → w.cell? ⟨g, j, none⟩ = some u) (hn : l.length + y.length ≤ 100000000) (hbase : base ≤ w.heap.size)
    (h : ∀ v' w', BytesO w' base v' (l ++ y) → Grew w v w' v' → K (a.put o.dst v') w') :
    if Region.wanted o (yielded ops a.tmps) = true then Oper.wp Tryd.prog o a w K Qx else E := by
  have hw : Region.wanted o (yielded ops a.tmps) = true := by simp [Region.wanted, hgd]
  rw [if_pos hw]
  subst hny
  obtain ⟨i0, hi, hz0, hz1, hz2⟩ := infoU8_parts
  obtain ⟨v', w2, hrun, hown', hg, -, h5⟩ := run_append_own_at (P := Tryd.prog) (w := w) base 59 o.type 5 i0 (.int .u8 0) 1 1 Tryd.underlying59 hi hz0 hz1 hz2 rfl (by decide) v l.length _ hl ⟨g, 0, none⟩ y.length y.length (y.map u8V) (by simp) (fun j u hj => by
      have := h1 j u hj
      rwa [show (⟨g, 0, none⟩ : Addr).add j = ⟨g, j, none⟩ by unfold Addr.add; split <;> simp_all]) (fun u hu => by
      simp only [List.mem_map] at hu
      obtain ⟨c, -, rfl⟩ := hu
      rfl) (by unfold maxLen; omega) (by omega) hbase
  unfold Oper.wp
  simp [execOp, ho, resolve, invoke, builtin, hs, hx, hrun, Result.andThen]
  have hown2 : BytesO w2 base v' (l ++ y) := by unfold BytesO; rw [List.length_append, List.map_append]; exact hown'
  exact h v' w2 hown2 (Grew.of hg h5)


theorem BytesO.lt {w : World} {base : Nat} {v : Value} {l : List UInt8} (h : BytesO w base v l) {g : Nat} (hg : v.ownBlock = some g) : g < w.heap.size := (World.ownsRow.lt h g hg).2
theorem Own3.grew {w w' : World} {v v' : Value} {b : Nat} {x y z : Value} (h : Own3 w b x y z) (g : Grew w v w' v') (hn : v.ownBlock ≠ some b) : Own3 w' b x y z := by
  have := h.lt
  obtain ⟨ty, h⟩ := h
  exact ⟨ty, (g.1.block b this hn).trans h⟩
theorem KindsAt.grew {w w' : World} {v v' : Value} {b : Nat} (h : KindsAt w b) (g : Grew w v w' v') (hn : v.ownBlock ≠ some b) : KindsAt w' b := by
  have hlt := World.ownsMap.lt h
  obtain ⟨es, clock, hb, F, hs, hD⟩ := h
  exact ⟨es, clock, (g.1.block b hlt hn).trans hb, F, hs, hD⟩
theorem Grew.apart {w w' : World} {v v' : Value} {b : Nat} (g : Grew w v w' v') (hn : v.ownBlock ≠ some b) (hb : b < w.heap.size) : v'.ownBlock ≠ some b := fun e => by
  rcases g.2 b e with h | h
  · exact hn h
  · omega
end Go.Proofs.YtipcdbdlopmdoaaDoor
