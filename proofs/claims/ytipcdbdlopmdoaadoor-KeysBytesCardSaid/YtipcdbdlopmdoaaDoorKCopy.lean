/-
  Of the laws: parts, which copies.
-/
import Derived.Test.YtipcdbdlopmdoaaDoorKRParts
import Derived.Test.YtipcdbdlopmdoaaDoorKCmp
import Derived.Deep.RegionHeld3
namespace Go.Proofs.YtipcdbdlopmdoaaDoor
open Go.RowKit Go.Maps Go.WideMaps Go.Shelf
set_option linter.unusedVariables false
set_option linter.unusedSimpArgs false

theorem below_cellK {w w' : World} {B b j : Nat} {v : Value} (h : Below B w w') (hb : b < B) (hc : w.cell? ⟨b, j, none⟩ = some v) : w'.cell? ⟨b, j, none⟩ = some v :=
  (Below.cell h hb).trans hc

set_option maxRecDepth 100000 in
set_option maxHeartbeats 6400000 in
theorem rparts_any {w : World} {v : Value} {l : List KP} (h : PartsR w v l) (hl : l.length ≤ 1000000) :
    Calls Tryd.prog 14 #[v] w fun e w' => ∃ v', e = .returned v' ∧ RPartsO w' w.heap.size v' l ∧ Only w w' := by
  obtain ⟨sp, cap, rfl, hc⟩ := h
  have HC := Lib.hid hc
  have il : (l.length : Int) ≤ 1000000 := by omega
  clear hc
  go_enter Tryd.func14, Tryd.ntmps14
  go_wp2_with fail
  go_loopw [3, 4] (fun ov i x => ∃ k : Nat, k ≤ l.length ∧ i = .int .i64 k ∧ RPartsO x w.heap.size ov (l.take k) ∧ Only w x) (fun _ i _ => l.length - (intOf i).toNat)
  case atStart => exact ⟨0, Nat.zero_le _, rfl, by simpa using RPartsO.nil w w.heap.size, Only.refl _⟩
  case round =>
    obtain ⟨k, hk, rfl, hp, ht⟩ := hrel
    by_cases hlt : k < l.length
    · have j1 : (k : Int) < (l.length : Int) := by omega
      have j2 : (0 : Int) ≤ (k : Int) := by omega
      obtain ⟨b, o, e1, x1⟩ := HC.out (by omega)
      subst e1
      obtain ⟨c0, c1, c2⟩ := (x1 k hlt).only ht
      have BL := Lib.hid (show b < w.heap.size from World.block_lt_of_cell? w _ (x1 k hlt).1)
      have hsn : l.take (k + 1) = l.take k ++ [l[k]] := by rw [List.take_add_one, List.getElem?_eq_getElem hlt]; rfl
      obtain ⟨p, hpp⟩ : ∃ p, p = l[k] := ⟨_, rfl⟩
      rw [← hpp] at c0 c1 c2 hsn
      have HSN := Lib.hid hsn
      have HX := Lib.hid x1
      have hk1 : k + 1 ≤ l.length := hlt
      have hlk : (l.take k).length ≤ 1000000 := by simp; omega
      have HLK := Lib.hid hlk
      have SZ := Lib.hid ht.size
      have TT := Lib.hid (Only.drew (ht.alloc (.cells #[.int .i64 p.kind, .int .i64 p.n, .string (ktxt p.s)] 41)))
      have t0 := (Only.refl wr).drew
      have d0 := cell_onlyK c0 t0
      have d1 := cell_onlyK c1 t0
      have d2 := cell_onlyK c2 t0
      have t2 := Only.drew ((Only.refl wr).alloc (.cells #[.int .i64 p.kind, .int .i64 p.n, .string (ktxt p.s)] 41))
      have f0 := cell_onlyK c0 t2
      have f1 := cell_onlyK c1 t2
      have f2 := cell_onlyK c2 t2
      have HP := Lib.hid (hp.only t2)
      have N3 := (Own3.new wr (.int .i64 p.kind) (.int .i64 p.n) (.string (ktxt p.s)) 41).drew
      have N0 := Lib.hid N3.c0
      have N1 := Lib.hid N3.c1
      have N2 := Lib.hid N3.c2
      clear x1 hp ht hsn hpp hk hlk t0 t2 N3
      go_wp2_with fail
      go_region_held3 (fun W => W.cell? ⟨b, o + k * 3, none⟩ = some (.int .i64 p.kind) ∧ W.cell? ⟨b, o + k * 3 + 1, none⟩ = some (.int .i64 p.n) ∧ W.cell? ⟨b, o + k * 3 + 2, none⟩ = some (.string (ktxt p.s))) (first | with_reducible exact ⟨d0, d1, d2⟩ | with_reducible exact ⟨f0, f1, f2⟩ | with_reducible exact ⟨g0, g1, g2⟩ | fail) (first | (refine step_rpart (base := w.heap.size) (y := p) rfl (.tmp 11) (.tmp 28) rfl ?_ ?_ HP.out N0.out N1.out N2.out HLK.out ?_ ?_; rfl; rfl; (have := SZ.out; simp; omega); intro v4 w4 hp4 hb4 hs4; have g0 := below_cellK hb4 BL.out f0; have g1 := below_cellK hb4 BL.out f1; have g2 := below_cellK hb4 BL.out f2))
      have HP4 := Lib.hid hp4
      have HO4 := Lib.hid (show Only w w4 from Below.trans TT.out hb4)
      clear hp4 hb4 hs4 g0 g1 g2 f0 f1 f2 d0 d1 d2
      go_wp2_with fail
      go_roundw
      case rel => exact ⟨k + 1, hk1, by push_cast; rfl, by rw [HSN.out]; exact HP4.out, HO4.out⟩
      case measure => simp [intOf]; omega
    · have hk0 : k = l.length := by omega
      subst hk0
      rw [List.take_length] at hp
      have HP := Lib.hid hp
      have HT := Lib.hid ht
      clear hp ht hk hlt
      go_wp2_with fail
      go_ret
      exact ⟨_, rfl, HP.out, HT.out⟩
end Go.Proofs.YtipcdbdlopmdoaaDoor
