/-
  Bytes behind bytes; exref's Bytes, Lent, Kept; exref2's Low.
-/
import Derived.Test.YtjjajnfkngfpjaaGreatDoorWLists
import Derived.Test.YtjjajnfkngfpjaaGreatDoorWFrame
namespace Go.Proofs.YtjjajnfkngfpjaaGreatDoor
open Go.RowKit Go.Maps Go.WideMaps

section
variable {w w' : World} {Q : Nat → Prop}

theorem append_bytes {ops : Array Oper} {rest : List Oper} {o : Oper} {a : Act} {Qx : Exit → Act → World → Prop} (hgd : o.guard = none) (s x : Operand)
    (ho : o.op = .call { callee := .builtin .append, args := #[s, x], argTypes := #[37, 37] }) {base : Nat} {v u : Value} {l m : List UInt8} (hs : a.eval s = v) (hx : a.eval x = u)
    (hl : w.ownsRow base 5 1 v l.length (l.map byteV)) (hm : SliceB w u m) (hn : l.length + m.length ≤ 1000000000000) (hbase : base ≤ w.heap.size)
    (h : ∀ sp cap w', w'.ownsRow base 5 1 (.slice sp (l ++ m).length cap) (l ++ m).length ((l ++ m).map byteV) → Turn (fun b => v.ownBlock = some b) w w' → wpList Tryz.prog ops Qx rest (a.put o.dst (.slice sp (l ++ m).length cap)) w') :
    wpList Tryz.prog ops Qx (o :: rest) a w := by
  obtain ⟨i0, hi, hz0, hz1, hz2⟩ := info_parts Tryz.infoU8
  rcases hm with ⟨rfl, rfl⟩ | ⟨ad, cap, rfl, hc⟩
  · obtain ⟨sp2, cap2, hv, _⟩ := own_slice hl
    refine wpList_append_own_none hgd s x 37 ho base 5 i0 1 Tryz.underlying37 hi v l.length _ hs hl hx ?_
    have h2 := h sp2 cap2 w (by rw [List.append_nil, ← hv]; exact hl) (Turn.refl _ _)
    rw [List.append_nil, ← hv] at h2
    exact h2
  · refine wpList_append_own_at w hgd s x 37 ho base 5 i0 (.int .u8 0) 1 1 Tryz.underlying37 hi hz0 hz1 hz2 rfl (by decide) v l.length _ hs hl ad m.length cap (m.map byteV) hx (by simp) (fun j y hj => ?_) (fun y hy => ?_) (by unfold maxLen; omega) (by omega) hbase ?_
    · rw [List.getElem?_map] at hj
      obtain ⟨z, hz, rfl⟩ := Option.map_eq_some_iff.1 hj
      exact hc j z hz
    · obtain ⟨z, _, rfl⟩ := List.mem_map.1 hy
      rfl
    · intro v' w2 hown hg _ _
      have hown2 : w2.ownsRow base 5 1 v' (l ++ m).length ((l ++ m).map byteV) := by rw [List.length_append, List.map_append]; exact hown
      obtain ⟨sp4, cap4, e4, _⟩ := own_slice hown2
      subst e4
      exact h sp4 cap4 w2 hown2 ((Turn.refl _ w).grown hg (fun k e => Or.inl e))

theorem empty_row (w : World) : (w.alloc (.cells #[] 5)).ownsRow w.heap.size 5 1 (.slice (some ⟨w.heap.size, 0, none⟩) 0 0) ([] : List UInt8).length (([] : List UInt8).map byteV) :=
  ⟨by simp, Or.inr ⟨w.heap.size, 0, _, rfl, Nat.le_refl _, heap_alloc_new _ _, Nat.le_refl _, Nat.zero_le _, by simp, by simp⟩⟩

theorem SliceB.later {v : Value} {b : List UInt8} (h : SliceB w v b) (ht : Turn (fun _ => False) w w') : SliceB w' v b := h.turned ht (fun _ _ _ _ _ q => q)

set_option maxHeartbeats 400000 in
theorem bytes_any {u : Value} {m : List UInt8} (h : SliceB w u m) (hl : m.length ≤ 100000000000) :
    Calls Tryz.prog 55 #[u] w fun r w' => ∃ sp cap, r = .returned (.slice sp m.length cap) ∧ w'.ownsRow w.heap.size 5 1 (.slice sp m.length cap) m.length (m.map byteV) ∧ Turn (fun _ => False) w w' := by
  have t1 := turnBox w (.cells #[] 5)
  have hm := h.later t1
  have hr := empty_row w
  have HM := Lib.hid hm
  have HR := Lib.hid hr
  have HT := Lib.hid t1
  clear hm hr t1
  go_enter Tryz.func55, Tryz.ntmps55
  go_wp2_with (at_builtin; refine append_bytes rfl (.tmp 3) (.tmp 4) rfl (base := w.heap.size) rfl rfl HR.out HM.out (by simp; omega) (by simp) ?_)
  intro sp cap w2 hown ht
  have HO := Lib.hid hown
  have H2 := Lib.hid (HT.out.trans ht (fun i hi e => by simp [Value.ownBlock] at e; omega))
  clear hown ht
  go_wp2
  go_ret
  exact ⟨sp, cap, rfl, HO.out, H2.out⟩

end
end Go.Proofs.YtjjajnfkngfpjaaGreatDoor
