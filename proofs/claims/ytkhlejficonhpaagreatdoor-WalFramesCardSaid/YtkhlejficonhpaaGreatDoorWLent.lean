/-
  What is lent (exref's Lent, Kept); the records of a scan written over.
-/
import Derived.Test.YtkhlejficonhpaaGreatDoorWRefS
import Derived.Test.YtkhlejficonhpaaGreatDoorWK
import Derived.Test.YtkhlejficonhpaaGreatDoorWRefN
namespace Go.Proofs.YtkhlejficonhpaaGreatDoor
open Go.RowKit Go.Maps Go.WideMaps

/-- bytes of our own, and one more behind them -/
def LentAt (w : World) (base : Nat) (v : Value) (b : List UInt8) : Prop :=
  ∃ g cap, v = .slice (some ⟨g, 0, none⟩) b.length cap ∧ base ≤ g ∧ b.length + 1 ≤ cap ∧ cap ≤ 9223372036854775807 ∧ ∃ cur, w.heap[g]? = some (.cells cur 5 (0, 0)) ∧ (∀ (j : Nat) (x : UInt8), b[j]? = some x → cur[j]? = some (byteV x)) ∧ cur[b.length]? = some (.int .u8 201)

section
variable {w w' : World}

theorem LentAt.cell {base : Nat} {v : Value} {b : List UInt8} (h : LentAt w base v b) : ∃ g cap, v = .slice (some ⟨g, 0, none⟩) b.length cap ∧ base ≤ g ∧ b.length + 1 ≤ cap ∧ cap ≤ 9223372036854775807 ∧ (∀ (j : Nat) (x : UInt8), b[j]? = some x → w.cell? ⟨g, j, none⟩ = some (byteV x)) ∧ w.cell? ⟨g, b.length, none⟩ = some (.int .u8 201) := by
  obtain ⟨g, cap, hv, h1, h2, h3, cur, hh, h4, h5⟩ := h
  refine ⟨g, cap, hv, h1, h2, h3, fun j x hj => ?_, ?_⟩
  · have := h4 j x hj
    unfold World.cell?
    rw [hh]; simpa using this
  · unfold World.cell?
    rw [hh]; simpa using h5

theorem LentAt.c {base : Nat} {v : Value} {b : List UInt8} (h : LentAt w base v b) (hl : b.length ≤ 20000) : SliceC w v b := by
  obtain ⟨g, cap, rfl, h1, h2, h3, h4, _⟩ := h.cell
  exact ⟨some ⟨g, 0, none⟩, cap, rfl, by omega, ⟨by omega, h3⟩, fun _ => ⟨g, 0, rfl, fun j x hj => by rw [Nat.zero_add]; exact h4 j x hj⟩⟩

theorem LentAt.turned {Q : Nat → Prop} {base : Nat} {v : Value} {b : List UInt8} (h : LentAt w base v b) (ht : Turn Q w w') (hq : ∀ g, v.ownBlock = some g → ¬ Q g) : LentAt w' base v b := by
  obtain ⟨g, cap, rfl, h1, h2, h3, cur, hh, h4, h5⟩ := h
  exact ⟨g, cap, rfl, h1, h2, h3, cur, (ht.block g (Array.getElem?_eq_some_iff.1 hh).1 (hq g rfl)).trans hh, h4, h5⟩

set_option maxRecDepth 100000 in
set_option maxHeartbeats 1000000 in
theorem lent_any {u : Value} {b : List UInt8} (h : SliceB w u b) (hr : SliceR w u b) (hl : b.length ≤ 20000) :
    Calls Tryz.prog 21 #[u] w fun r w' => (∃ v, r = .returned v ∧ LentAt w' w.heap.size v b) ∧ Turn (fun _ => False) w w' := by
  obtain ⟨i0, hi, hz0, hz1, hz2⟩ := info_parts Tryz.infoU8
  obtain ⟨sp, cap, rfl, _⟩ := hr
  have HB := Lib.hid h
  clear h
  go_enter Tryz.func21, Tryz.ntmps21
  go_wp2_with fail
  go_at_call 55
  refine (bytes_any HB.out (by omega)).mono ?_
  rintro r w2 ⟨sp2, cap2, rfl, hown2, t2⟩
  have O2 := Lib.hid hown2
  have T2 := Lib.hid t2
  have hsz := t2.size
  have HSZ := Lib.hid hsz
  clear hown2 t2 hsz
  go_wp2_with (at_builtin; refine wpList_append_own _ rfl _ _ 37 rfl w.heap.size 5 i0 (.int .u8 0) 1 1 Tryz.underlying37 hi hz0 hz1 hz2 rfl (by decide) (.slice sp2 b.length cap2) _ _ rfl (O2.out.alloc _) ⟨w2.heap.size, 0, none⟩ 1 1 [.int .u8 201] rfl rfl (cell_one_new _ _ _) (by simp [Value.oneCell']) (by unfold maxLen; omega) (by omega) (by have := HSZ.out; simp; omega) ?_; intro v' w3 hown' hg3 hnil3; obtain ⟨g3, cap3, cur3, hv3, hb3, hh3, hc3, hm3, hs3, hx3⟩ := hown'.2.resolve_left (fun e => by have := e.2; omega); subst hv3; go_frame)
  have kc : (b.length : Int) ≤ (cap3 : Int) := by omega
  have ht3 : Turn (fun i => (Value.slice sp2 b.length cap2).ownBlock = some i) w2 w3 := ((Turn.refl _ w2).alloc _).grown hg3 (fun j e => Or.inl e)
  have hfin : LentAt w3 w.heap.size (.slice (some ⟨g3, 0, none⟩) b.length cap3) b := by
    refine ⟨g3, cap3, rfl, hb3, hc3, by unfold maxLen at hm3; omega, cur3, hh3, fun j x hj => ?_, ?_⟩
    · have hjl := (List.getElem?_eq_some_iff.1 hj).1
      have h1 : ((b.map byteV) ++ [Value.int .u8 201])[j]? = some (byteV x) := by
        rw [List.getElem?_append_left (by simpa using hjl), List.getElem?_map, hj]; rfl
      rw [← hx3, List.getElem?_take_of_lt (by omega)] at h1
      simpa using h1
    · have h1 : ((b.map byteV) ++ [Value.int .u8 201])[b.length]? = some (.int .u8 201) := by
        rw [List.getElem?_append_right (by simp)]; simp
      rw [← hx3, List.getElem?_take_of_lt (by omega)] at h1
      simpa using h1
  have htt : Turn (fun _ => False) w w3 := T2.out.trans ht3 (fun i hi e => by have := (O2.out.lt i e).1; omega)
  have HFIN := Lib.hid hfin
  have HTT := Lib.hid htt
  clear hfin htt ht3 hown' hg3 hnil3 hb3 hh3 hc3 hm3 hs3 hx3
  go_wp2_with fail
  go_ret
  exact ⟨⟨_, rfl, HFIN.out⟩, HTT.out⟩

set_option maxRecDepth 100000 in
set_option maxHeartbeats 1000000 in
theorem kept_any {base : Nat} {v u : Value} {b : List UInt8} (h : LentAt w base v b) (hu : SliceR w u b) (hl : b.length ≤ 20000) :
    Calls Tryz.prog 31 #[v, u] w fun r w' => r = .returned (.bool true) ∧ Like w w' := by
  have hR := (h.c hl).toR
  obtain ⟨g, cap, rfl, h1, h2, h3, h4, h5⟩ := h.cell
  have hU := hu
  obtain ⟨sp, cap2, rfl, _⟩ := hu
  have HU := Lib.hid hU
  have HR := Lib.hid hR
  have H5 := Lib.hid h5
  have k1 : (b.length : Int) + 1 ≤ (cap : Int) := by omega
  have k2 : (b.length : Int) ≤ 20000 := by omega
  clear hU hR h4 h5 h
  go_enter Tryz.func31, Tryz.ntmps31
  go_wp2_with fail
  go_at_call 24
  refine (same_any HR.out HU.out (by unfold maxLen; omega) (by unfold maxLen; omega)).mono ?_
  rintro r w2 ⟨rfl, hlk⟩
  rw [decide_eq_true rfl]
  have c5 := hlk.cell H5.out
  have HLK := Lib.hid hlk
  clear hlk
  go_wp2_with fail
  go_ret
  exact ⟨rfl, HLK.out⟩
end
end Go.Proofs.YtkhlejficonhpaaGreatDoor
