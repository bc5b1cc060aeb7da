/-
  Package wide: what digits say.
-/
import Derived.Test.YtagilpgplcphpaaTForm
import Derived.Test.YtagilpgplcphpaaBAtoi
import Derived.Test.YtagilpgplcphpaaNSize2
import Derived.Test.YtagilpgplcphpaaNRichI
set_option linter.unusedSimpArgs false
set_option linter.unusedVariables false
namespace Go.Proofs.Ytagilpgplcphpaa
open Go.RowKit Go.Maps Go.WideMaps

set_option maxRecDepth 100000 in
set_option maxHeartbeats 3200000 in
theorem sizeOfDigits_walk {D : ByteArray} {X : Value} (hl : D.size ≤ 1000000) (hd : digsB D.data.toList = true)
    (hX : X = if Un (numOf D.data.toList : Int) then .tuple #[enc (numOf D.data.toList : Int), .bool true] else .tuple #[.agg #[.int .u64 0, .int .u64 0], .bool false]) (w : World) :
    Calls Try.prog 58 #[.string D] w fun e w' => e = .returned X ∧ Only w w' := by
  have HX := Lib.hid hX
  have HD := Lib.hid hd
  clear hX hd
  have il : (D.size : Int) ≤ 1000000 := by omega
  go_enter Try.func58, Try.ntmps58
  go_wp2_with fail
  go_loopw [10] (fun i wr => ∃ (k : Nat) (hi lo : Int), k ≤ D.size ∧ i = .int .i64 k ∧ Only w wr ∧ Own2 wr w.heap.size (.int .u64 0) (.int .u64 0) ∧ Own2 wr (w.heap.size + 1) (.int .u64 hi) (.int .u64 lo) ∧ enc (numOf (D.data.toList.take k) : Int) = .agg #[.int .u64 hi, .int .u64 lo] ∧ Un (numOf (D.data.toList.take k) : Int)) (fun i _ => D.size - (intOf i).toNat)
  case atStart => exact ⟨0, 0, 0, Nat.zero_le _, rfl, ((Only.refl w).alloc _).alloc _, (Own2.new w _ _ _).alloc _, Own2.new1 w _ _ _ _, by simp [numOf]; rfl, by simp [numOf, Un]⟩
  case round =>
    obtain ⟨k, hi, lo, hk, rfl, ht, o1, o2, ek, hu⟩ := hrel
    obtain ⟨c1, c2, f1, f2, z1⟩ := o1.all
    obtain ⟨c3, c4, f3, f4, z2⟩ := o2.all
    by_cases hlt : k < D.size
    · have il2 : (k : Int) < (D.size : Int) := by omega
      have hcd := digsB_at HD.out (List.getElem_mem (l := D.data.toList) (n := k) (by simpa using hlt))
      have hnx := numOf_next (D := D) (k := k) hlt
      have hle := numOf_upto (D := D) (k := k + 1) HD.out
      obtain ⟨c, hc⟩ : ∃ c, c = (D[k]'hlt).toNat := ⟨_, rfl⟩
      have hc2 : (D[k]'hlt).toNat = c := hc.symm
      have hcd2 : 48 ≤ c ∧ c ≤ 57 := by rw [hc]; exact hcd
      rw [hc2] at hnx
      obtain ⟨x, hx⟩ : ∃ x, x = c - 48 := ⟨_, rfl⟩
      have hxb : x ≤ 9 := by omega
      have hx256 : ((c : Int) - 48) % 256 = (x : Int) := by omega
      rw [← hx] at hnx
      obtain ⟨v, hv⟩ : ∃ v, v = numOf (D.data.toList.take k) := ⟨_, rfl⟩
      rw [← hv] at hnx hu ek
      have T := fun W => times_any hu (n := 10) ⟨by decide, by decide⟩ W
      rw [ek] at T
      obtain ⟨th, tl, -, -, -, -, -, et⟩ := enc_words ((v : Int) * 10)
      rw [et] at T
      have HT := Lib.hid ht
      have O1 := Lib.hid o1
      have O2 := Lib.hid o2
      have HNX := Lib.hid hnx
      have HLE := Lib.hid hle
      have HU := Lib.hid hu
      by_cases u1 : Un ((v : Int) * 10)
      · rw [decide_eq_true u1] at T
        have P := fun W => plus_any u1 (n := (x : Int)) ⟨by omega, by omega⟩ W
        rw [et] at P
        obtain ⟨ph, pl, -, -, -, -, -, ep⟩ := enc_words ((v : Int) * 10 + (x : Int))
        rw [ep] at P
        have U1 := Lib.hid u1
        have EP := Lib.hid ep
        obtain ⟨d, hd⟩ : ∃ d, d = decide (Un ((v : Int) * 10 + (x : Int))) := ⟨_, rfl⟩
        rw [← hd] at P
        have HDD := Lib.hid hd
        clear hd ht o1 o2 hnx hle hu u1 ep et ek hc hcd hcd2 hx hv
        go_wp2_with fail
        go_at_call 41
        refine (T _).mono ?_
        rintro r w2 ⟨rfl, t2⟩
        clear c1 c2 f1 f2 z1 c3 c4 f3 f4 T
        have o1 := (O1.out.only t2).alloc (.cells #[.int .u64 th, .int .u64 tl] 67)
        have o2 := (O2.out.only t2).alloc (.cells #[.int .u64 th, .int .u64 tl] 67)
        have o3 := Own2.new w2 (.int .u64 th) (.int .u64 tl) 67
        have ht := (HT.out.trans t2).alloc (.cells #[.int .u64 th, .int .u64 tl] 67)
        have HSZ : w.heap.size + 1 < w2.heap.size := Nat.lt_of_lt_of_le z2 t2.size
        clear t2 O1 O2 HT
        go_wp2_with fail
        refine wp_name (fun W => Only w W ∧ Own2 W w.heap.size (.int .u64 0) (.int .u64 0) ∧ Own2 W (w.heap.size + 1) (.int .u64 hi) (.int .u64 lo) ∧ Own2 W w2.heap.size (.int .u64 th) (.int .u64 tl)) ⟨ht, o1, o2, o3⟩ ?_
        clear ht o1 o2 o3
        rintro W ⟨ht, o1, o2, o3⟩
        have ne1 : w.heap.size ≠ w.heap.size + 1 := by omega
        have hsz2 := o3.lt
        have hw2 : w.heap.size + 1 < w2.heap.size := HSZ
        refine wp_richI (fun W => Only w W ∧ Own2 W w.heap.size (.int .u64 0) (.int .u64 0) ∧ (∃ x y, Own2 W (w.heap.size + 1) x y) ∧ Own2 W w2.heap.size (.int .u64 th) (.int .u64 tl)) (fun W W' => W' = (W.setCell ⟨w.heap.size + 1, 0, none⟩ (.int .u64 ph)).setCell ⟨w.heap.size + 1, 1, none⟩ (.int .u64 pl)) 10
          [pVal (.agg #[.int .u64 th, .int .u64 tl]), pVal (.string D), pVal (.int .i64 k), pVal (.int .u8 c), pVal (.int .u8 x), pVal (.int .u64 x), pVal (.tuple #[.agg #[.int .u64 ph, .int .u64 pl], .bool d]), pVal (.tuple #[.agg #[.int .u64 ph, .int .u64 pl], .bool d]), pVal (.agg #[.int .u64 ph, .int .u64 pl]), pVal (.bool d), fun _ _ W => Own2 W (w.heap.size + 1) (.int .u64 ph) (.int .u64 pl), pVal (.bool d)]
          (F := ?F8) (by kernel_rfl) (by kernel_rfl) ?hF8 ?h08 ?hI8 ?hC8 ?hst8 ?hO8 ?hS8 ?hend8
        case hF8 =>
          intro vs
          simp only [fills]
          go_simp
          exact rfl
        case h08 => exact ⟨ht, o1, ⟨_, _, o2⟩, o3⟩
        case hI8 => exact fun W W' ⟨a, b, ⟨x, y, c⟩, d⟩ t => ⟨a.trans t, b.only t, ⟨x, y, c.only t⟩, d.only t⟩
        case hC8 =>
          rintro W W' ⟨a, b, ⟨x, y, c⟩, d⟩ rfl
          have n2 : w2.heap.size ≠ w.heap.size + 1 := by omega
          exact ⟨(a.set (by omega) 0 _).set (by omega) 1 _, (b.far ne1 0 _).far ne1 1 _, ⟨_, _, c.set _ _⟩, (d.far n2 0 _).far n2 1 _⟩
        case hO8 =>
          intro p hp
          simp only [List.mem_cons, List.not_mem_nil, or_false] at hp
          rcases hp with rfl | rfl | rfl | rfl | rfl | rfl | rfl | rfl | rfl | rfl | rfl | rfl
          all_goals first | exact stab_val _ | exact fun v ds W W' t o => o.only t
        case hS8 =>
          intro q hq v ds W W' hw hs k
          simp only [List.eraseIdx_cons_succ, List.eraseIdx_cons_zero, List.mem_cons, List.not_mem_nil, or_false] at hq
          rcases hq with rfl | rfl | rfl | rfl | rfl | rfl | rfl | rfl | rfl | rfl | rfl
          all_goals exact k
        case hst8 =>
          simp only [StepsWI, StepsPI]
          refine ⟨?_, ?_, ?_, ?_, ?_, ?_, ?_, ?_, ?_, ?_, ?_, ?_, trivial⟩
          case refine_7 =>
            intro vs W hW hd K hK
            simp [depsOf, Region.binds, List.filter_cons, GotAll, saidV, pVal] at hd
            unfold RichAt
            go_simp
            refine (P _).mono ?_
            rintro e w' ⟨rfl, t⟩
            exact ⟨_, rfl, hK _ _ t rfl⟩
          case refine_11 =>
            intro vs W hW hd K hK
            obtain ⟨a, b, ⟨x, y, c⟩, d⟩ := hW
            obtain ⟨y1, y2, y3, y4, y5⟩ := c.all
            simp [depsOf, Region.binds, List.filter_cons, GotAll, saidV, pVal] at hd
            unfold RichAt
            go_simp
            exact hK _ _ rfl (c.set _ _)
          all_goals
            intro vs W hW hd K hK
            have y1 := hW.2.2.2.c0
            have y2 := hW.2.2.2.c1
            simp [depsOf, Region.binds, List.filter_cons, GotAll, saidV, pVal] at hd
            unfold RichAt
            go_simp
            refine hK _ _ (Only.refl _) ?_
            first
              | exact rfl
              | (simp only [pVal]; congr 1; rw [IntKind.wrap_u8]; omega)
              | (simp only [pVal]; congr 1; done)
              | (simp only [pVal]; congr 1; exact (IntKind.wrap_u64 _).trans (by omega))
        case hend8 =>
          intro vs W hW hg
          simp [List.range_succ, depsOf, Region.binds, List.filter_cons, GotAll, saidV, pVal] at hg
          obtain ⟨ht, o1, -, -⟩ := hW
          obtain ⟨-, -, -, -, -, -, -, -, -, -, o2, g11⟩ := hg
          rw [g11]
          have HT := Lib.hid ht
          have O1 := Lib.hid o1
          have O2 := Lib.hid o2
          obtain ⟨c3, c4, f3, f4, z2⟩ := o2.all
          have h1 := o1.all
          obtain ⟨c1, c2, f1, f2, z1⟩ := h1
          clear ht o1 o2 g11
          cases d
          · go_wp2_with fail
            simp [bodyPost, results, Try.results58, go_sem, World.cell?_setCell_other, c1, c2]
            refine ⟨?_, (HT.out.set (Nat.le_refl _) 0 _).set (Nat.le_refl _) 1 _⟩
            have hn : ¬ Un (numOf D.data.toList : Int) := fun h => by
              have hd := HDD.out
              exact (of_decide_eq_false hd.symm) ⟨by omega, by have := HLE.out; have := HNX.out; have := h.2; omega⟩
            rw [HX.out, if_neg hn]
          · go_wp2_with fail
            go_roundw
            case rel =>
              refine ⟨k + 1, ph, pl, by omega, by go_num, HT.out, O1.out, O2.out, ?_, ?_⟩
              · rw [HNX.out, ← EP.out]; congr 1; omega
              · have hd := of_decide_eq_true HDD.out.symm
                rw [HNX.out]
                exact ⟨by omega, by have := hd.2; omega⟩
            case measure => simp [intOf]; omega
      · rw [decide_eq_false u1] at T
        have U1 := Lib.hid u1
        clear ht o1 o2 hnx hle hu u1 et ek hc hcd hcd2 hx hv
        go_wp2_with fail
        go_at_call 41
        refine (T _).mono ?_
        rintro r w2 ⟨rfl, t2⟩
        have o1 := (O1.out.only t2).alloc (.cells #[.int .u64 th, .int .u64 tl] 67)
        have ht := (HT.out.trans t2).alloc (.cells #[.int .u64 th, .int .u64 tl] 67)
        clear t2 T c1 c2 f1 f2 z1 c3 c4 f3 f4 z2
        obtain ⟨c1, c2, f1, f2, z1⟩ := o1.all
        go_wp2_with fail
        simp [bodyPost, results, Try.results58, go_sem, World.cell?_setCell_other, c1, c2]
        refine ⟨?_, (ht.set (Nat.le_refl _) 0 _).set (Nat.le_refl _) 1 _⟩
        have hn : ¬ Un (numOf D.data.toList : Int) := fun h => U1.out ⟨by omega, by have := HLE.out; have := HNX.out; have := h.2; omega⟩
        rw [HX.out, if_neg hn]
    · have hkl : k = D.size := by omega
      have e := List.take_of_length_le (l := D.data.toList) (i := k) (by simp; omega)
      rw [e] at ek hu
      have hx : X = .tuple #[.agg #[.int .u64 hi, .int .u64 lo], .bool true] := by rw [HX.out, if_pos hu, ek]
      have HXX := Lib.hid hx
      have HO := Lib.hid o1
      have HT := Lib.hid ht
      clear e hx ek hu ht o1 o2
      have il2 : ¬ (k : Int) < (D.size : Int) := by omega
      go_wp2_with fail
      simp [bodyPost, results, Try.results58, go_sem, World.cell?_setCell_other, c1, c2]
      refine ⟨?_, (HT.out.set (Nat.le_refl _) 0 _).set (Nat.le_refl _) 1 _⟩
      rw [HXX.out]
end Go.Proofs.Ytagilpgplcphpaa
