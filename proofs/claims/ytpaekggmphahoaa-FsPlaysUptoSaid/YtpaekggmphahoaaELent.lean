/-
  exref: Lent, Kept.
-/
import Derived.Test.YtpaekggmphahoaaEApp
import Derived.Test.YtpaekggmphahoaaECrash
import Derived.Test.YtpaekggmphahoaaFpF
namespace Go.Proofs.Ytpaekggmphahoaa
open Go.RowKit Go.Maps Go.WideMaps
set_option linter.unusedVariables false
set_option linter.unusedSimpArgs false

/-- bytes of our own, and one more behind them -/
def LentE (w : World) (base : Nat) (v : Value) (b : List UInt8) : Prop := ∃ g cap, v = .slice (some ⟨g, 0, none⟩) b.length cap ∧ b.length + 1 ≤ cap ∧ cap ≤ 9223372036854775807 ∧ BytR w base (.slice (some ⟨g, 0, none⟩) (b.length + 1) cap) (b ++ [201])
theorem add_new (g j : Nat) : (⟨g, 0, none⟩ : Addr).add j = ⟨g, j, none⟩ := by unfold Addr.add; split <;> simp_all
section
variable {w w' : World} {base : Nat} {v u : Value} {b : List UInt8}
theorem BytR.cells {g n cap : Nat} {d : List UInt8} (h : BytR w base (.slice (some ⟨g, 0, none⟩) n cap) d) : ∀ (j : Nat) (x : UInt8), d[j]? = some x → w.cell? ⟨g, j, none⟩ = some (byteV x) := fun j x hj => by
  rcases h.2 with ⟨k, _⟩ | ⟨g', cap', cur, e, h1, h2, h3, h4, h5, h6⟩
  · cases k
  · simp only [Value.slice.injEq, Option.some.injEq, Addr.mk.injEq] at e
    obtain ⟨⟨rfl, -, -⟩, -, -⟩ := e
    have hjl := (List.getElem?_eq_some_iff.1 hj).1
    have k1 : (d.map byteV)[j]? = some (byteV x) := by rw [List.getElem?_map, hj]; rfl
    rw [← h6, List.getElem?_take_of_lt (by omega)] at k1
    unfold World.cell?
    rw [h2]; simpa using k1
theorem LentE.I (h : LentE w base v b) : SliceI w v b := by
  obtain ⟨g, cap, rfl, h1, -, h2⟩ := h
  refine Or.inr ⟨⟨g, 0, none⟩, cap, rfl, fun j x hj => ?_⟩
  have hjl := (List.getElem?_eq_some_iff.1 hj).1
  have := h2.cells j x (by rw [List.getElem?_append_left hjl]; exact hj)
  rw [add_new]; exact this
theorem LentE.last (h : LentE w base v b) : ∃ g cap, v = .slice (some ⟨g, 0, none⟩) b.length cap ∧ b.length + 1 ≤ cap ∧ cap ≤ 9223372036854775807 ∧ w.cell? ⟨g, b.length, none⟩ = some (.int .u8 201) := by
  obtain ⟨g, cap, rfl, h1, h3, h2⟩ := h
  exact ⟨g, cap, rfl, h1, h3, h2.cells b.length 201 (by rw [List.getElem?_append_right (Nat.le_refl _)]; simp)⟩
theorem LentE.turned {Q : Nat → Prop} (h : LentE w base v b) (t : Turn Q w w') (hq : ∀ r, v.ownBlock = some r → ¬ Q r) : LentE w' base v b := by
  obtain ⟨g, cap, rfl, h1, h3, h2⟩ := h
  exact ⟨g, cap, rfl, h1, h3, ownsRow_turned h2 t (fun r hr => hq r (by simpa [Value.ownBlock] using hr))⟩

theorem lent_form {sp : Option Addr} {cap : Nat} (h : BytR w base (.slice sp (b ++ [201]).length cap) (b ++ [201])) : ∃ g, sp = some ⟨g, 0, none⟩ ∧ b.length + 1 ≤ cap ∧ cap ≤ 9223372036854775807 := by
  rcases h.2 with ⟨_, k⟩ | ⟨g, cap', cur, e, h1, h2, h3, h4, h5, h6⟩
  · simp at k
  · simp only [Value.slice.injEq] at e
    obtain ⟨rfl, -, rfl⟩ := e
    unfold maxLen at h4
    exact ⟨g, rfl, by simpa using h3, by omega⟩

set_option maxRecDepth 100000 in
set_option maxHeartbeats 1000000 in
theorem lent_any (h : SliceI w u b) (hl : b.length ≤ 1048576) :
    Calls Try.prog 29 #[u] w fun r w' => (∃ v, r = .returned v ∧ LentE w' w.heap.size v b) ∧ Only w w' := by
  have hu : ∃ sp cap, u = .slice sp b.length cap := by
    rcases h with ⟨rfl, rfl⟩ | ⟨ad, cap, rfl, -⟩
    · exact ⟨none, 0, rfl⟩
    · exact ⟨_, _, rfl⟩
  obtain ⟨sp, cap, rfl⟩ := hu
  have HB := Lib.hid h
  have hli : (b.length : Int) ≤ 1048576 := by omega
  clear h
  go_enter Try.func29, Try.ntmps29
  go_wp2_with fail
  go_at_call 57
  refine (bytes_any HB.out (by omega)).mono ?_
  rintro r w2 ⟨sp2, cap2, rfl, hown2, t2⟩
  have O2 := Lib.hid hown2
  have T2 := Lib.hid t2
  clear hown2 t2
  have HBOX : Hid (SliceI (w2.alloc (.cells #[.int .u8 201] 5)) (.slice (some ⟨w2.heap.size, 0, none⟩) 1 1) [201]) := Lib.hid (Or.inr ⟨⟨w2.heap.size, 0, none⟩, 1, rfl, fun j x hj => by
    obtain ⟨hj1, hj2⟩ := List.getElem?_eq_some_iff.1 hj
    simp at hj1; subst hj1
    simp at hj2; subst hj2
    rw [add_new]
    unfold World.cell?
    simp only [heap_alloc_new]
    rfl⟩)
  go_wp2_with (at_builtin; refine append_bytI rfl _ _ rfl (base := w.heap.size) rfl rfl (O2.out.only ((Only.refl w2).alloc _)) HBOX.out (by simp; omega) (by have := T2.out.size; simp; omega) ?_; intro sp3 cap3 w3 hO3 hB3 hS3; obtain ⟨g3, hv3, hc3, hm3⟩ := lent_form hO3; subst hv3; have HO3 := Lib.hid hO3; have HB3 := Lib.hid hB3; clear hO3 hB3 hS3; go_frame)
  go_ret
  exact ⟨⟨_, rfl, g3, cap3, rfl, hc3, hm3, by have := HO3.out; simpa using this⟩, Below.trans (T2.out.alloc _) HB3.out⟩
theorem SliceI.toR (h : SliceI w v b) : SliceR w v b := by
  rcases h with ⟨rfl, rfl⟩ | ⟨ad, cap, rfl, h2⟩
  · exact ⟨none, 0, rfl, fun h0 => by simp at h0⟩
  · exact ⟨some ad, cap, rfl, fun _ => ⟨ad, rfl, h2⟩⟩

set_option maxRecDepth 100000 in
set_option maxHeartbeats 1000000 in
theorem kept_any (h : LentE w base v b) (hu : SliceI w u b) (hl : b.length ≤ 1048576) :
    Calls Try.prog 31 #[v, u] w fun r w' => r = .returned (.bool true) ∧ Like w w' := by
  have hR := h.I.toR
  have hU := hu.toR
  obtain ⟨g, cap, rfl, h1, h3, h5⟩ := h.last
  obtain ⟨sp, cap2, rfl, _⟩ := hu.toR
  have HU := Lib.hid hU
  have HR := Lib.hid hR
  have H5 := Lib.hid h5
  have k1 : (b.length : Int) + 1 ≤ (cap : Int) := by omega
  have k2 : (b.length : Int) ≤ 1048576 := by omega
  clear hU hR h5 h hu
  go_enter Try.func31, Try.ntmps31
  go_wp2_with fail
  go_at_call 43
  refine (same_any HR.out HU.out (by unfold maxLen; omega) (by unfold maxLen; omega)).mono ?_
  rintro r w2 ⟨rfl, hlk⟩
  rw [decide_eq_true rfl]
  have c5 := hlk.cell H5.out
  have HLK := Lib.hid hlk
  clear hlk
  go_wp2_with fail
  go_ret
  exact ⟨rfl, HLK.out⟩
end
end Go.Proofs.Ytpaekggmphahoaa
