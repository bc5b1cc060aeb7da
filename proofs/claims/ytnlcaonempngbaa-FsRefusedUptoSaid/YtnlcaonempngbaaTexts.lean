/-
  Lists of texts: read, compared; fronts.
-/
import Derived.Test.YtnlcaonempngbaaLaw4
namespace Go.Proofs.Ytnlcaonempngbaa
open Go.RowKit Go.Maps Go.WideMaps Go.Sort

section
variable {w w' : World}

/-- a slice whose texts are these -/
def TextsR (w : World) (v : Value) (l : List (List UInt8)) : Prop :=
  ∃ sp cap, v = .slice sp l.length cap ∧ (0 < l.length → ∃ ad, sp = some ad ∧ ∀ j x, l[j]? = some x → w.cell? (ad.add j) = some (encStr x))

theorem TextsR.of_own {base : Nat} {v : Value} {l : List (List UInt8)} (h : w.ownsRow base 9 1 v l.length (l.map encStr)) : TextsR w v l := by
  rcases h.2 with ⟨hv, hn⟩ | ⟨g, cap, cur, hv, hg, hh, h1, h2, h3, h4⟩
  · exact ⟨none, 0, by rw [hv, hn], fun h0 => by omega⟩
  · refine ⟨some ⟨g, 0, none⟩, cap, hv, fun _ => ⟨_, rfl, fun j x hj => ?_⟩⟩
    have hown : w.ownsRow base 9 1 (.slice (some ⟨g, 0, none⟩) l.length cap) l.length (l.map encStr) := by rw [← hv]; exact h
    have hlt : j < l.length := (List.getElem?_eq_some_iff.1 hj).1
    have := hown.cellAt j (by omega)
    rw [add_head, this, List.getElem?_map, hj]; rfl

theorem TextsR.turned {v : Value} {l : List (List UInt8)} (h : TextsR w v l) (ht : Turn (fun _ => False) w w') : TextsR w' v l := by
  obtain ⟨sp, cap, hv, hc⟩ := h
  refine ⟨sp, cap, hv, fun h0 => ?_⟩
  obtain ⟨ad, e, hx⟩ := hc h0
  exact ⟨ad, e, fun j x hj => turn_cell ht (hx j x hj)⟩

set_option maxHeartbeats 1000000 in
/-- two lists of the same texts -/
theorem sameTexts_self {va vb : Value} {l : List (List UInt8)} (ha : TextsR w va l) (hb : TextsR w vb l) (hl : l.length ≤ maxLen) :
    Calls Try.prog 32 #[va, vb] w fun r w' => r = .returned (.bool true) ∧ Like w w' := by
  obtain ⟨sa, ca, rfl, hca⟩ := ha
  obtain ⟨sb, cb, rfl, hcb⟩ := hb
  unfold maxLen at hl
  have HA := Lib.hid hca
  have HB := Lib.hid hcb
  have b1 : ((l.length : Int) != (l.length : Int)) = false := by simp
  clear hca hcb
  go_enter Try.func32, Try.ntmps32
  go_wp2_with fail
  go_loopw [5] (fun i wr => ∃ k : Nat, k ≤ l.length ∧ i = .int .i64 k ∧ Like w wr) (fun i _ => l.length - (intOf i).toNat)
  case atStart => exact ⟨0, Nat.zero_le _, rfl, ⟨rfl, rfl, rfl, rfl⟩⟩
  case round =>
    obtain ⟨k, hk, rfl, hlk⟩ := hrel
    have HW := Lib.hid hlk
    clear hlk
    by_cases hlt : k < l.length
    · obtain ⟨aa, e1, x1⟩ := HA.out (by omega)
      obtain ⟨ab, e2, x2⟩ := HB.out (by omega)
      subst e1; subst e2
      have ca' := HW.out.cell (x1 k l[k] (List.getElem?_eq_getElem hlt))
      have cb' := HW.out.cell (x2 k l[k] (List.getElem?_eq_getElem hlt))
      have i0 : (0 : Int) ≤ (k : Int) := by omega
      have i1 : (k : Int) < (l.length : Int) := by omega
      clear x1 x2
      unfold encStr at ca' cb'
      go_wp2_with fail
      go_quiet (fail)
      go_wp2
      go_roundw
      case rel => exact ⟨k + 1, by omega, by go_num, HW.out.trans (like_drewN _ _)⟩
      case measure => simp [intOf]; omega
    · have hk0 : k = l.length := by omega
      subst hk0
      go_wp2
      go_ret
      exact ⟨rfl, HW.out⟩

theorem front_is (s t : ByteArray) : ((s.extract 0 t.size).toList == t.toList) = t.data.toList.isPrefixOf s.data.toList := by
  rw [Lib.toList_data, Lib.toList_data, Lib.extract_data, Bool.eq_iff_iff, beq_iff_eq, List.isPrefixOf_iff_prefix, List.prefix_iff_eq_take, ← Lib.size_eq]
  simp only [List.drop_zero, Nat.sub_zero]
  exact eq_comm

set_option maxHeartbeats 1000000 in
theorem begins_any (s t : ByteArray) (w : World) : Calls Try.prog 31 #[.string s, .string t] w fun r w' => r = .returned (.bool (t.data.toList.isPrefixOf s.data.toList)) ∧ w = w' := by
  obtain ⟨b, hb⟩ : ∃ b, b = t.data.toList.isPrefixOf s.data.toList := ⟨_, rfl⟩
  rw [← hb]
  by_cases h : t.size ≤ s.size
  · have i0 : (t.size : Int) ≤ (s.size : Int) := by omega
    rw [← front_is] at hb
    have HB := Lib.hid hb
    clear hb
    go_enter Try.func31, Try.ntmps31
    go_wp2
    go_ret
    exact ⟨ret_bool HB.out.symm, rfl⟩
  · have i0 : ¬ (t.size : Int) ≤ (s.size : Int) := by omega
    have hb2 : b = false := by
      rw [hb, ← Bool.not_eq_true, List.isPrefixOf_iff_prefix]
      intro hp
      have := hp.length_le
      rw [← Lib.size_eq, ← Lib.size_eq] at this
      omega
    have HB := Lib.hid hb2
    clear hb hb2
    go_enter Try.func31, Try.ntmps31
    go_wp2
    go_ret
    exact ⟨ret_bool HB.out.symm, rfl⟩

end
end Go.Proofs.Ytnlcaonempngbaa
