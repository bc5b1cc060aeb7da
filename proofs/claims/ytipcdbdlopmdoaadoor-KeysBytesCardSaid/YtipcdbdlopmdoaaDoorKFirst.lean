/-
  Of the laws: the chapter's example.
-/
import Derived.Test.YtipcdbdlopmdoaaDoorKFew
import Derived.Test.YtipcdbdlopmdoaaDoorKDec
import Derived.Test.YtipcdbdlopmdoaaDoorKCmpF
namespace Go.Proofs.YtipcdbdlopmdoaaDoor
open Go.RowKit Go.Maps Go.WideMaps Go.Shelf
set_option linter.unusedVariables false
set_option linter.unusedSimpArgs false

/-- a list of one part, as it is built -/
theorem parts_one {w : World} {g : Nat} (p : KP) (h : Own3 w g (.int .i64 p.kind) (.int .i64 p.n) (.string (ktxt p.s))) : PartsR w (.slice (some ⟨g, 0, none⟩) 1 1) [p] :=
  ⟨some ⟨g, 0, none⟩, 1, rfl, fun _ => ⟨g, 0, rfl, fun i hi => by
    have : i = 0 := by simpa using hi
    subst this
    exact ⟨h.c0, h.c1, h.c2⟩⟩⟩

theorem KOk.one (k n : Int) (s : List UInt8) (hk : k = 1 ∨ k = 2) (hn : -9223372036854775808 ≤ n ∧ n ≤ 9223372036854775807) (hs : s.length ≤ 1000) : KOk ⟨k, n, s⟩ :=
  ⟨by rcases hk with rfl | rfl <;> simp, by rcases hk with rfl | rfl <;> simp, hn, hs⟩

theorem key1 : keyE [⟨1, 1, []⟩] = [1, 128, 0, 0, 0, 0, 0, 0, 1] := by decide
theorem err1 : errE [⟨1, 1, []⟩] = 0 := by decide
theorem key2 : keyE [⟨2, 0, [97]⟩, ⟨2, 0, []⟩] = [2, 97, 0, 1, 2, 0, 1] := by decide
theorem err2 : errE [⟨2, 0, [97]⟩, ⟨2, 0, []⟩] = 0 := by decide
theorem dec1 : decE [1] = none := by decide
theorem cmp1 : cmpL [⟨1, -1, []⟩] [⟨1, 1, []⟩] = -1 := by decide

theorem enc1_any {W : World} {g : Nat} (h : Own3 W g (.int .i64 1) (.int .i64 1) (.string ⟨#[]⟩)) (hm : MaxAt W) : Calls Tryd.prog 9 #[.slice (some ⟨g, 0, none⟩) 1 1] W fun e w' => e = .returned (.tuple #[.string ⟨#[1, 128, 0, 0, 0, 0, 0, 0, 1]⟩, .int .i64 0]) ∧ Only W w' := by
  have := encode_any (parts_one ⟨1, 1, []⟩ h) (by simp) (fun x hx => by simp at hx; subst hx; exact KOk.one _ _ _ (Or.inl rfl) (by decide) (by simp)) hm
  rw [key1, err1] at this
  exact this

theorem enc2_any {W : World} {g : Nat} {ty : TypeId} (h : W.heap[g]? = some (.cells #[.int .i64 2, .int .i64 0, .string ⟨#[97]⟩, .int .i64 2, .int .i64 0, .string ⟨#[]⟩] ty)) (hm : MaxAt W) : Calls Tryd.prog 9 #[.slice (some ⟨g, 0, none⟩) 2 2] W fun e w' => e = .returned (.tuple #[.string ⟨#[2, 97, 0, 1, 2, 0, 1]⟩, .int .i64 0]) ∧ Only W w' := by
  have hp : PartsR W (.slice (some ⟨g, 0, none⟩) 2 2) [⟨2, 0, [97]⟩, ⟨2, 0, []⟩] := ⟨some ⟨g, 0, none⟩, 2, rfl, fun _ => ⟨g, 0, rfl, fun i hi => by
    have hi2 : i = 0 ∨ i = 1 := by simp at hi; omega
    rcases hi2 with rfl | rfl
    · exact ⟨by simp [World.cell?, h], by simp [World.cell?, h], by simp [World.cell?, h]⟩
    · exact ⟨by simp [World.cell?, h], by simp [World.cell?, h], by simp [World.cell?, h]⟩⟩⟩
  have := encode_any hp (by simp) (fun x hx => by
    simp at hx
    rcases hx with rfl | rfl
    · exact KOk.one _ _ _ (Or.inr rfl) (by decide) (by simp)
    · exact KOk.one _ _ _ (Or.inr rfl) (by decide) (by simp)) hm
  rw [key2, err2] at this
  exact this

theorem dec1_any {W : World} (hm : MaxAt W) : Calls Tryd.prog 12 #[.string ⟨#[1]⟩] W fun e w' => e = .returned (.tuple #[.slice none 0 0, .int .i64 10]) ∧ Only W w' := by
  have := decode_any (D := ⟨#[1]⟩) (by decide) hm
  rw [show (⟨#[1]⟩ : ByteArray).data.toList = [1] from rfl, dec1] at this
  exact this.mono fun e w' h => ⟨h.2, h.1⟩

theorem cmpx_any {W : World} {g k : Nat} (h : Own3 W g (.int .i64 1) (.int .i64 (-1)) (.string ⟨#[]⟩)) (h2 : Own3 W k (.int .i64 1) (.int .i64 1) (.string ⟨#[]⟩)) : Calls Tryd.prog 11 #[.slice (some ⟨g, 0, none⟩) 1 1, .slice (some ⟨k, 0, none⟩) 1 1] W fun e w' => e = .returned (.int .i64 (-1)) ∧ Only W w' := by
  have := compareK_any (parts_one ⟨1, -1, []⟩ h) (parts_one ⟨1, 1, []⟩ h2) (by simp) (by simp) (fun x hx => by simp at hx; subst hx; exact KOk.one _ _ _ (Or.inl rfl) (by decide) (by simp))
  rw [cmp1] at this
  exact this

set_option maxRecDepth 100000 in
set_option maxHeartbeats 3200000 in
theorem first8_any {w : World} (hm : MaxAt w) : Calls Tryd.prog 7 #[] w fun e w' => e = .returned (.bool true) ∧ Only w w' := by
  have I1 := fun W => int_any 1 W
  have IM := fun W => int_any (-1) W
  have T1 := fun W => text_any ⟨#[97]⟩ (by decide) W
  have T2 := fun W => text_any ⟨#[]⟩ (by decide) W
  unfold pv at I1 IM T1 T2
  have HM := Lib.hid hm
  clear hm
  go_enter Tryd.func7, Tryd.ntmps7
  go_wp2_with fail
  refine (I1 _).mono ?_
  rintro r w1 ⟨rfl, t1⟩
  have o1 : Own3 (w1.alloc (.cells #[.int .i64 1, .int .i64 1, .string ⟨#[]⟩] 40)) w1.heap.size (.int .i64 1) (.int .i64 1) (.string ⟨#[]⟩) := Own3.new _ _ _ _ _
  have t1 := t1.alloc (.cells #[.int .i64 1, .int .i64 1, .string ⟨#[]⟩] 40)
  go_wp2_with fail
  refine (enc1_any o1 (HM.out.only t1)).mono ?_
  rintro r w2 ⟨rfl, t2⟩
  have t2 := t1.trans t2
  clear t1 o1
  go_wp2_with fail
  refine (T1 _).mono ?_
  rintro r w3 ⟨rfl, t3⟩
  have t3 := t2.trans t3
  clear t2
  go_wp2_with fail
  refine (T2 _).mono ?_
  rintro r w4 ⟨rfl, t4⟩
  have t4 := t3.trans t4
  clear t3
  go_wp2_with fail
  have h4 : (w4.alloc (.cells #[.int .i64 2, .int .i64 0, .string (ktxt [97]), .int .i64 2, .int .i64 0, .string (ktxt [])] 40)).heap[w4.heap.size]? = some (.cells #[.int .i64 2, .int .i64 0, .string ⟨#[97]⟩, .int .i64 2, .int .i64 0, .string ⟨#[]⟩] 40) := heap_alloc_new ..
  have t4 := t4.alloc (.cells #[.int .i64 2, .int .i64 0, .string (ktxt [97]), .int .i64 2, .int .i64 0, .string (ktxt [])] 40)
  refine (enc2_any h4 (HM.out.only t4)).mono ?_
  rintro r w5 ⟨rfl, t5⟩
  have t5 := t4.trans t5
  clear t4 h4
  go_wp2_with fail
  refine (dec1_any (HM.out.only t5)).mono ?_
  rintro r w6 ⟨rfl, t6⟩
  have t6 := t5.trans t6
  clear t5
  go_wp2_with (go_at_call 10; refine (num8_any _ _).mono ?_; rintro r w7 ⟨rfl, rfl⟩)
  refine (IM _).mono ?_
  rintro r w8 ⟨rfl, t8⟩
  have t8 := t6.trans t8
  have o8 : Own3 (w8.alloc (.cells #[.int .i64 1, .int .i64 (-1), .string (ktxt [])] 40)) w8.heap.size (.int .i64 1) (.int .i64 (-1)) (.string ⟨#[]⟩) := Own3.new _ _ _ _ _
  have t8 := t8.alloc (.cells #[.int .i64 1, .int .i64 (-1), .string (ktxt [])] 40)
  clear t6
  go_wp2_with fail
  refine (I1 _).mono ?_
  rintro r w9 ⟨rfl, t9⟩
  have o9 : Own3 (w9.alloc (.cells #[.int .i64 1, .int .i64 1, .string (ktxt [])] 40)) w9.heap.size (.int .i64 1) (.int .i64 1) (.string ⟨#[]⟩) := Own3.new _ _ _ _ _
  have t9 := t9.alloc (.cells #[.int .i64 1, .int .i64 1, .string (ktxt [])] 40)
  have o8 := o8.only t9
  have t9 := t8.trans t9
  clear t8
  go_wp2_with fail
  refine (cmpx_any o8 o9).mono ?_
  rintro r w10 ⟨rfl, t10⟩
  have t10 := t9.trans t10
  clear t9 o8 o9
  go_wp2_with fail
  go_ret
  exact ⟨rfl, t10⟩
end Go.Proofs.YtipcdbdlopmdoaaDoor
