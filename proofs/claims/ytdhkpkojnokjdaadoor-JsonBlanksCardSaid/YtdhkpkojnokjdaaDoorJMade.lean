/-
  Quote and OfText.
-/
import Derived.Test.YtdhkpkojnokjdaaDoorJTwice
namespace Go.Proofs.YtdhkpkojnokjdaaDoor
open Go.RowKit Go.Shelf
set_option linter.unusedVariables false
set_option linter.unusedSimpArgs false

theorem quote_any {s : ByteArray} (hs : s.size ≤ 1000000) (w : World) : Calls Tryd.prog 18 #[.string s] w fun e w' => e = .returned (txt (quoteB s.data.toList)) ∧ Only w w' := by
  have Q := appendQuoted_grew (s := s) (w := w) (BytesO.nil w w.heap.size) (Nat.le_refl _) hs (by simp)
  rw [List.nil_append] at Q
  go_enter Tryd.func18, Tryd.ntmps18
  go_wp2_with (go_at_call 29; refine Q.mono ?_; rintro r w2 ⟨v2, rfl, hb2, hg2⟩; have cv := bytes_string hb2)
  go_ret
  exact ⟨rfl, hg2.below (BytesO.nil w w.heap.size) (Nat.le_refl _)⟩

set_option maxHeartbeats 1600000 in
theorem ofText_any {s : ByteArray} (hs : s.size ≤ 1000000) (w : World) : Calls Tryd.prog 19 #[.string s] w fun e w' => e = .returned (.agg #[.int .i64 4, .string s, .slice none 0 0, .slice none 0 0]) ∧ Only w w' := by
  have ha := (Only.refl w).alloc (.cells #[.int .i64 0, .string ⟨#[]⟩, .slice none 0 0, .slice none 0 0] 25)
  have C := cloneJ s (by omega)
  have O := Own4.new w (.int .i64 0) (.string ⟨#[]⟩) (.slice none 0 0) (.slice none 0 0) 25
  have HA := Lib.hid ha
  have HO := Lib.hid O
  clear ha O
  go_enter Tryd.func19, Tryd.ntmps19
  go_wp2_with (go_at_call 30; refine (C _).mono ?_; rintro r w2 ⟨rfl, t2⟩; have o2 := HO.out.only t2; obtain ⟨⟨c1, c2, c3, c4⟩, f1, f2, f3, f4⟩ := o2.all)
  simp [bodyPost, results, Tryd.results19, go_sem, World.cell?_setCell_other, c1, c2, c3, c4]
  exact (((((HA.out.trans t2).set (Nat.le_refl _) 0 _).set (Nat.le_refl _) 1 _).set (Nat.le_refl _) 2 _).set (Nat.le_refl _) 3 _)
end Go.Proofs.YtdhkpkojnokjdaaDoor
