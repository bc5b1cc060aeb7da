/-
  exref's Bytes: a copy in new memory.
-/
import Derived.Test.YtpaekggmphahoaaNRich
namespace Go.Proofs.Ytpaekggmphahoaa
open Go.RowKit Go.Maps Go.WideMaps
set_option linter.unusedVariables false
set_option linter.unusedSimpArgs false

/-- bytes that are handed in: nil, or with an address -/
def SliceI (w : World) (v : Value) (data : List UInt8) : Prop :=
  (v = .slice none 0 0 ∧ data = []) ∨ ∃ ad cap, v = .slice (some ad) data.length cap ∧ ∀ j x, data[j]? = some x → w.cell? (ad.add j) = some (byteV x)
theorem SliceN.toI {w : World} {v : Value} {data : List UInt8} (h : SliceN w v data) : SliceI w v data := by
  rcases h with h | ⟨ad, cap, e, h1, -, h2⟩
  · exact Or.inl h
  · exact Or.inr ⟨ad, cap, e, h2⟩
theorem SliceI.only {w w' : World} {v : Value} {data : List UInt8} (h : SliceI w v data) (t : Only w w') : SliceI w' v data := by
  rcases h with h | ⟨ad, cap, e, h2⟩
  · exact Or.inl h
  · refine Or.inr ⟨ad, cap, e, fun j x hj => ?_⟩
    have hc := h2 j x hj
    exact (World.cell?_of_block (t.block _ (World.block_lt_of_cell? w _ hc))).trans hc
theorem SliceN.only {w w' : World} {v : Value} {data : List UInt8} (h : SliceN w v data) (t : Only w w') : SliceN w' v data := h.turned (Below.turn t (fun _ => False)) (fun _ _ _ e => e)

/-- bytes in a row of our own -/
def BytR (w : World) (base : Nat) (v : Value) (d : List UInt8) : Prop := w.ownsRow base 5 1 v d.length (d.map byteV)
theorem BytR.form {w : World} {base : Nat} {v : Value} {d : List UInt8} (h : BytR w base v d) : ∃ sp cap, v = .slice sp d.length cap := by
  rcases h.2 with ⟨h1, h2⟩ | ⟨g, cap, cur, h1, _⟩
  · exact ⟨none, 0, by rw [h1, h2]⟩
  · exact ⟨_, _, h1⟩
theorem BytR.only {w w' : World} {base : Nat} {v : Value} {d : List UInt8} (h : BytR w base v d) (t : Only w w') : BytR w' base v d := ownsRow_turned h (Below.turn t (fun _ => False)) (fun _ _ e => e)
theorem BytR.new {w : World} {base : Nat} {v : Value} {d : List UInt8} (h : BytR w base v d) : ∀ r, v.ownBlock = some r → base ≤ r ∧ r < w.heap.size := fun r hr => by
  rcases h.2 with ⟨rfl, _⟩ | ⟨g, cap, cur, rfl, hg, hh, _⟩
  · cases hr
  · simp [Value.ownBlock] at hr; subst hr; exact ⟨hg, (Array.getElem?_eq_some_iff.1 hh).1⟩

set_option maxRecDepth 100000 in
theorem append_bytI {w : World} {ops : Array Oper} {rest : List Oper} {o : Oper} {a : Act} {Qx : Exit → Act → World → Prop} (hgd : o.guard = none) (s x : Operand)
    (ho : o.op = .call { callee := .builtin .append, args := #[s, x], argTypes := #[29, 29] }) {base : Nat} {v u : Value} {l d : List UInt8} (hs : a.eval s = v) (hx : a.eval x = u)
    (hl : BytR w base v l) (hu : SliceI w u d) (hn : l.length + d.length ≤ 1000000000) (hbase : base ≤ w.heap.size)
    (h : ∀ sp cap w', BytR w' base (.slice sp (l ++ d).length cap) (l ++ d) → Below base w w' → w.heap.size ≤ w'.heap.size → wpList Try.prog ops Qx rest (a.put o.dst (.slice sp (l ++ d).length cap)) w') :
    wpList Try.prog ops Qx (o :: rest) a w := by
  obtain ⟨i0, hi, hz0, hz1, hz2⟩ := info_parts Try.infoU8
  rcases hu with ⟨rfl, rfl⟩ | ⟨ad, cap, rfl, hc⟩
  · refine wpList_append_own_none hgd s x 29 ho base 5 i0 1 Try.underlying29 hi v l.length _ hs hl hx ?_
    obtain ⟨sp2, cap2, e⟩ := hl.form
    subst e
    have h2 := h sp2 cap2 w (by simpa using hl) (Below.refl _ _) (Nat.le_refl _)
    simpa using h2
  · refine wpList_append_own_at w hgd s x 29 ho base 5 i0 (.int .u8 0) 1 1 Try.underlying29 hi hz0 hz1 hz2 rfl (by decide) v l.length _ hs hl ad d.length cap (d.map byteV) hx (by simp) (fun j y hj => ?_) (fun y hy => ?_) (by unfold maxLen; omega) (by omega) hbase ?_
    · rw [List.getElem?_map] at hj
      obtain ⟨z, hz, rfl⟩ := Option.map_eq_some_iff.1 hj
      exact hc j z hz
    · obtain ⟨z, _, rfl⟩ := List.mem_map.1 hy
      rfl
    · intro v' w2 hown' hg _ _
      have hown2 : BytR w2 base v' (l ++ d) := by unfold BytR; rw [List.length_append, List.map_append]; exact hown'
      obtain ⟨sp, cap, e⟩ := hown2.form
      subst e
      exact h sp cap w2 hown2 (Below.grown (Below.refl _ _) hg hbase fun k e => (hl.new k e).1) hg.size
theorem empty_byt (w : World) : BytR (w.alloc (.cells #[] 5)) w.heap.size (.slice (some ⟨w.heap.size, 0, none⟩) 0 0) [] :=
  ⟨by simp, Or.inr ⟨w.heap.size, 0, _, rfl, Nat.le_refl _, heap_alloc_new _ _, Nat.le_refl _, Nat.zero_le _, by simp, by simp⟩⟩

set_option maxRecDepth 100000 in
theorem bytes_any {w : World} {v : Value} {d : List UInt8} (h : SliceI w v d) (hd : d.length ≤ 1000000000) :
    Calls Try.prog 57 #[v] w fun e w' => ∃ sp cap, e = .returned (.slice sp d.length cap) ∧ BytR w' w.heap.size (.slice sp d.length cap) d ∧ Only w w' := by
  have t1 := (Only.refl w).alloc (.cells #[] 5)
  have HI := Lib.hid (h.only t1)
  have HE := Lib.hid (empty_byt w)
  have HB := Lib.hid t1.size
  have HD := Lib.hid hd
  clear h hd
  go_enter Try.func57, Try.ntmps57
  go_wp2_with (at_builtin; refine append_bytI rfl (.tmp 3) (.tmp 4) rfl (base := w.heap.size) (l := []) rfl rfl HE.out HI.out (by have := HD.out; simpa using this) HB.out ?_; intro sp2 cap2 w2 hO hB hS)
  simp only [List.nil_append] at hO
  have HO := Lib.hid hO
  have HT : Only w w2 := Below.trans t1 hB
  clear hO hB hS
  go_ret
  exact ⟨_, _, rfl, HO.out, HT⟩
end Go.Proofs.Ytpaekggmphahoaa
