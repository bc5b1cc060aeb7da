/-
  WideTexts: the walk.
-/
import Derived.Test.YtagilpgplcphpaaTParse
import Derived.Test.YtagilpgplcphpaaTBigP
import Derived.Test.YtagilpgplcphpaaBFits
import Derived.Test.YtagilpgplcphpaaBText
namespace Go.Proofs.Ytagilpgplcphpaa
open Go.RowKit Go.Maps Go.WideMaps
set_option linter.unusedVariables false
set_option linter.unusedSimpArgs false

def pBig (n : Int) : Said := fun v _ w => ∃ b s k c, v = .agg #[.bool b, .slice s k c] ∧ BigR w b s k c n
theorem cmpI_same (n : Int) : cmpI n n = 0 := by unfold cmpI; rw [if_neg (by omega), if_neg (by omega)]
theorem stab_big (n : Int) : StabO (pBig n) := fun _ _ _ _ t ⟨b, s, k, c, e, h⟩ => ⟨b, s, k, c, e, h.only t⟩

/-- String hands back its digits -/
theorem stringW_any {v : Int} (hv : In v) (w : World) : Calls Try.prog 34 #[enc v] w fun e w' => e = .returned (.string ⟨(intText v).toArray⟩) ∧ Only w w' := by
  refine (string_any hv w).mono ?_
  rintro e w' ⟨⟨k, h1, h2, h3, rfl⟩, t⟩
  refine ⟨?_, t⟩
  have hk := dlen_is h1 h2 h3
  have hf : (far v).toNat = v.natAbs := by unfold far; split <;> omega
  unfold intText natText
  rw [hk, hf]
  simp

abbrev StrIsW (h l : Int) (x : ByteArray) : Prop := ∀ W, Calls Try.prog 34 #[.agg #[.int .u64 h, .int .u64 l]] W fun e w' => e = .returned (.string x) ∧ Only W w'
abbrev ParseIsW (x : ByteArray) (h l e : Int) : Prop := ∀ W, Calls Try.prog 33 #[.string x] W fun r w' => r = .returned (.tuple #[.agg #[.int .u64 h, .int .u64 l], .int .i64 e]) ∧ Only W w'
abbrev ValIsW (h l n : Int) : Prop := ∀ W, Calls Try.prog 17 #[.agg #[.int .u64 h, .int .u64 l]] W (BigSays W n)

set_option maxRecDepth 100000 in
theorem texts_out {h l : Int} {q : ByteArray} (hq : (200 : Int) < (q.size : Int)) (w : World) : Calls Try.prog 6 #[.agg #[.int .u64 h, .int .u64 l], .string q] w fun e w' => e = .returned (.bool true) ∧ Only w w' := by
  have ht := (Only.refl w).alloc (.cells #[.int .u64 h, .int .u64 l] 24)
  go_enter Try.func6, Try.ntmps6
  go_wp2_with fail
  go_at_call 9
  refine (first_wide _).mono ?_
  rintro r w1 ⟨rfl, t1⟩
  replace ht := ht.trans t1
  clear t1
  go_wp2
  go_ret
  exact ⟨rfl, ht⟩

set_option maxRecDepth 100000 in
set_option maxHeartbeats 6400000 in
theorem texts_form {h l i j a : Int} {q x : ByteArray} {w : World} (hq : (q.size : Int) ≤ 200) (ST : StrIsW h l x) (P1 : ParseIsW x h l 0) (P2 : ParseIsW q i j 10) (VA : ValIsW h l a) (TX : ∀ W b s k c, BigR W b s k c a → Calls Try.prog 37 #[.agg #[.bool b, .slice s k c]] W fun e w' => e = .returned (.string x) ∧ Only W w')
    (BP : ∀ W, Calls Try.prog 35 #[.string q] W fun e w' => e = .returned (.tuple #[.agg #[.bool false, .slice none 0 0], .bool false]) ∧ Only W w') (hi : i = 0 ∧ j = 0) : Calls Try.prog 6 #[.agg #[.int .u64 h, .int .u64 l], .string q] w fun e w' => e = .returned (.bool true) ∧ Only w w' := by
  obtain ⟨rfl, rfl⟩ := hi
  have oa := Own2.new w (.int .u64 h) (.int .u64 l) 24
  have ht := (Only.refl w).alloc (.cells #[.int .u64 h, .int .u64 l] 24)
  have ST := Lib.hid ST
  have P1 := Lib.hid P1
  have P2 := Lib.hid P2
  have VA := Lib.hid VA
  have TX := Lib.hid TX
  have BP := Lib.hid BP
  go_enter Try.func6, Try.ntmps6
  go_wp2_with fail
  go_at_call 9
  refine (first_wide _).mono ?_
  rintro r w1 ⟨rfl, t1⟩
  replace oa := oa.only t1
  replace ht := ht.trans t1
  clear t1
  obtain ⟨a1, a2, -, -, az⟩ := oa.all
  go_wp2_with fail
  go_at_call 34
  refine (ST.out _).mono ?_
  rintro r w2 ⟨rfl, t2⟩
  replace oa := oa.only t2
  replace ht := ht.trans t2
  clear a1 a2 az t2
  go_wp2_with fail
  go_at_call 33
  refine (P1.out _).mono ?_
  rintro r w3 ⟨rfl, t3⟩
  have ob := Own2.new w3 (.int .u64 h) (.int .u64 l) 24
  replace oa := (oa.only t3).alloc (.cells #[.int .u64 h, .int .u64 l] 24)
  replace ht := (ht.trans t3).alloc (.cells #[.int .u64 h, .int .u64 l] 24)
  clear t3
  go_wp2_with fail
  go_at_call 33
  refine (P2.out _).mono ?_
  rintro r w4 ⟨rfl, t4⟩
  have oc := Own2.new w4 (.int .u64 0) (.int .u64 0) 24
  replace oa := (oa.only t4).alloc (.cells #[.int .u64 0, .int .u64 0] 24)
  replace ob := (ob.only t4).alloc (.cells #[.int .u64 0, .int .u64 0] 24)
  replace ht := (ht.trans t4).alloc (.cells #[.int .u64 0, .int .u64 0] 24)
  clear t4
  go_wp2_with fail
  go_at_call 35
  refine (BP.out _).mono ?_
  rintro r w5 ⟨rfl, t5⟩
  replace oa := (oa.only t5).alloc (.cells #[.bool false, .slice none 0 0] 37)
  replace ob := (ob.only t5).alloc (.cells #[.bool false, .slice none 0 0] 37)
  replace oc := (oc.only t5).alloc (.cells #[.bool false, .slice none 0 0] 37)
  replace ht := (ht.trans t5).alloc (.cells #[.bool false, .slice none 0 0] 37)
  clear t5
  go_upto_region 12 with (fail)
  refine wp_name (fun wx => Own2 wx w.heap.size (.int .u64 h) (.int .u64 l) ∧ Own2 wx w3.heap.size (.int .u64 h) (.int .u64 l) ∧ Own2 wx w4.heap.size (.int .u64 0) (.int .u64 0) ∧ Only w wx) ⟨oa, ob, oc, ht⟩ ?_
  clear oa ob oc ht
  rintro wx ⟨oa, ob, oc, ht⟩
  refine wp_rich [pVal (.int .i64 10), pVal (.bool true), pVal (.bool true), pVal (.agg #[.int .u64 0, .int .u64 0]), pVal (.agg #[.int .u64 0, .int .u64 0]), pVal (.bool true), pVal (.bool true), pVal (.bool true), pVal (undef), pVal (undef), pVal (undef), pVal (undef), pVal (undef), pVal (undef), pVal (undef), pVal (undef), pVal (undef), pVal (.bool true), pVal (.bool true)] (F := ?F12) (by kernel_rfl) (by kernel_rfl) ?hF12 ?hst12 ?hO12 ?hend12
  case hF12 =>
    intro vs
    simp only [fills]
    go_simp
    exact rfl
  case hO12 =>
    intro p hp
    simp only [List.mem_cons, List.not_mem_nil, or_false] at hp
    rcases hp with rfl | rfl | rfl | rfl | rfl | rfl | rfl | rfl | rfl | rfl | rfl | rfl | rfl | rfl | rfl | rfl | rfl | rfl | rfl
    all_goals first | exact stab_val _ | exact stab_big _
  case hst12 =>
    simp only [StepsP]
    refine ⟨?_, ?_, ?_, ?_, ?_, ?_, ?_, ?_, ?_, ?_, ?_, ?_, ?_, ?_, ?_, ?_, ?_, ?_, ?_, trivial⟩
    all_goals
      intro vs W hW hd K hK
      have y1 := (oc.only hW).c0
      have y2 := (oc.only hW).c1
      simp [depsOf, Region.binds, List.filter_cons, GotAll, saidV, pVal, pBig] at hd
      unfold RichAt
      go_simp
      first
        | (refine hK _ _ (Only.refl _) ?_; exact rfl)
        | (refine hK _ _ (Only.refl _) ?_; simp [pVal]; done)
  case hend12 =>
    intro vs W hW hg
    simp [List.range_succ, depsOf, Region.binds, List.filter_cons, GotAll, saidV, pVal, pBig] at hg
    obtain ⟨-, -, -, -, -, -, -, -, -, -, -, -, -, -, -, -, -, -, g18⟩ := hg
    rw [g18]
    replace oa := oa.only hW
    replace ob := ob.only hW
    replace ht := ht.trans hW
    clear oc hW g18
    go_upto_region 13 with (fail)
    refine wp_name (fun wx => Own2 wx w.heap.size (.int .u64 h) (.int .u64 l) ∧ Own2 wx w3.heap.size (.int .u64 h) (.int .u64 l) ∧ Only w wx) ⟨oa, ob, ht⟩ ?_
    clear oa ob ht
    rintro wy ⟨oa, ob, ht⟩
    refine wp_rich [pVal (.agg #[.int .u64 h, .int .u64 l]), pVal (.string x), pVal (.agg #[.int .u64 h, .int .u64 l]), pBig a, pVal (.string x), pVal (.bool true), pVal (.bool true), pVal (.agg #[.int .u64 h, .int .u64 l]), pVal (.agg #[.int .u64 h, .int .u64 l]), pVal (.bool true), pVal (.bool true), pVal (.bool true), pVal (.int .i64 0), pVal (.int .i64 0), pVal (.bool true), pVal (.bool true), pVal (.bool true), pVal (.int .i64 10), pVal (.int .i64 10), pVal (.int .i64 10), pVal (.bool true), pVal (.bool true), pVal (.bool true), pVal (.bool true), pVal (.bool true), pVal (.bool true)] (F := ?F13) (by kernel_rfl) (by kernel_rfl) ?hF13 ?hst13 ?hO13 ?hend13
    case hF13 =>
      intro vs
      simp only [fills]
      go_simp
      exact rfl
    case hO13 =>
      intro p hp
      simp only [List.mem_cons, List.not_mem_nil, or_false] at hp
      rcases hp with rfl | rfl | rfl | rfl | rfl | rfl | rfl | rfl | rfl | rfl | rfl | rfl | rfl | rfl | rfl | rfl | rfl | rfl | rfl | rfl | rfl | rfl | rfl | rfl | rfl | rfl
      all_goals first | exact stab_val _ | exact stab_big _
    case hst13 =>
      simp only [StepsP]
      refine ⟨?_, ?_, ?_, ?_, ?_, ?_, ?_, ?_, ?_, ?_, ?_, ?_, ?_, ?_, ?_, ?_, ?_, ?_, ?_, ?_, ?_, ?_, ?_, ?_, ?_, ?_, trivial⟩
      case refine_2 =>
        intro vs W hW hd K hK
        simp [depsOf, Region.binds, List.filter_cons, GotAll, saidV, pVal, pBig] at hd
        unfold RichAt
        go_simp
        refine (ST.out _).mono ?_
        rintro e w' ⟨rfl, t⟩
        exact ⟨_, rfl, hK _ _ t rfl⟩
      case refine_4 =>
        intro vs W hW hd K hK
        simp [depsOf, Region.binds, List.filter_cons, GotAll, saidV, pVal, pBig] at hd
        unfold RichAt
        go_simp
        refine (VA.out _).mono ?_
        rintro e w' ⟨b6, s6, k6, c6, rfl, r6, t⟩
        exact ⟨_, rfl, hK _ _ t ⟨b6, s6, k6, c6, rfl, r6⟩⟩
      case refine_5 =>
        intro vs W hW hd K hK
        simp [depsOf, Region.binds, List.filter_cons, GotAll, saidV, pVal] at hd
        obtain ⟨b6, s6, k6, c6, e6, r6⟩ := hd
        unfold RichAt
        go_simp
        refine (TX.out _ _ _ _ _ r6).mono ?_
        rintro e w' ⟨rfl, t⟩
        exact ⟨_, rfl, hK _ _ t rfl⟩
      case refine_14 =>
        intro vs W hW hd K hK
        simp [depsOf, Region.binds, List.filter_cons, GotAll, saidV, pVal, pBig] at hd
        unfold RichAt
        go_simp
        refine (num_any _ _).mono ?_
        rintro e w' ⟨rfl, rfl⟩
        exact ⟨_, rfl, hK _ _ (Only.refl _) rfl⟩
      case refine_19 =>
        intro vs W hW hd K hK
        simp [depsOf, Region.binds, List.filter_cons, GotAll, saidV, pVal, pBig] at hd
        unfold RichAt
        go_simp
        refine (num_any _ _).mono ?_
        rintro e w' ⟨rfl, rfl⟩
        exact ⟨_, rfl, hK _ _ (Only.refl _) rfl⟩
      all_goals
        intro vs W hW hd K hK
        have y1 := (oa.only hW).c0
        have y2 := (oa.only hW).c1
        have y3 := (ob.only hW).c0
        have y4 := (ob.only hW).c1
        simp [depsOf, Region.binds, List.filter_cons, GotAll, saidV, pVal, pBig] at hd
        unfold RichAt
        go_simp
        first
          | (refine hK _ _ (Only.refl _) ?_; exact rfl)
          | (refine hK _ _ (Only.refl _) ?_; simp [pVal]; done)
    case hend13 =>
      intro vs W hW hg
      simp [List.range_succ, depsOf, Region.binds, List.filter_cons, GotAll, saidV, pVal, pBig] at hg
      obtain ⟨-, -, -, -, -, -, -, -, -, -, -, -, -, -, -, -, -, -, -, -, -, -, -, -, -, g25⟩ := hg
      rw [g25]
      have hfin := ht.trans hW
      go_wp2_with fail
      go_ret
      exact ⟨rfl, hfin⟩

set_option maxRecDepth 100000 in
set_option maxHeartbeats 6400000 in
theorem texts_range {h l i j a n : Int} {q x : ByteArray} {w : World} (hq : (q.size : Int) ≤ 200) (ST : StrIsW h l x) (P1 : ParseIsW x h l 0) (P2 : ParseIsW q i j 6) (VA : ValIsW h l a) (TX : ∀ W b s k c, BigR W b s k c a → Calls Try.prog 37 #[.agg #[.bool b, .slice s k c]] W fun e w' => e = .returned (.string x) ∧ Only W w')
    (BP : ∀ W, Calls Try.prog 35 #[.string q] W (ParseSays n W)) (hn : Lim n 5000) (hi : i = 0 ∧ j = 0) (hin : ¬ In n) : Calls Try.prog 6 #[.agg #[.int .u64 h, .int .u64 l], .string q] w fun e w' => e = .returned (.bool true) ∧ Only w w' := by
  obtain ⟨rfl, rfl⟩ := hi
  have HIN := Lib.hid hin
  have HN := Lib.hid hn
  clear hin hn
  have oa := Own2.new w (.int .u64 h) (.int .u64 l) 24
  have ht := (Only.refl w).alloc (.cells #[.int .u64 h, .int .u64 l] 24)
  have ST := Lib.hid ST
  have P1 := Lib.hid P1
  have P2 := Lib.hid P2
  have VA := Lib.hid VA
  have TX := Lib.hid TX
  have BP := Lib.hid BP
  go_enter Try.func6, Try.ntmps6
  go_wp2_with fail
  go_at_call 9
  refine (first_wide _).mono ?_
  rintro r w1 ⟨rfl, t1⟩
  replace oa := oa.only t1
  replace ht := ht.trans t1
  clear t1
  obtain ⟨a1, a2, -, -, az⟩ := oa.all
  go_wp2_with fail
  go_at_call 34
  refine (ST.out _).mono ?_
  rintro r w2 ⟨rfl, t2⟩
  replace oa := oa.only t2
  replace ht := ht.trans t2
  clear a1 a2 az t2
  go_wp2_with fail
  go_at_call 33
  refine (P1.out _).mono ?_
  rintro r w3 ⟨rfl, t3⟩
  have ob := Own2.new w3 (.int .u64 h) (.int .u64 l) 24
  replace oa := (oa.only t3).alloc (.cells #[.int .u64 h, .int .u64 l] 24)
  replace ht := (ht.trans t3).alloc (.cells #[.int .u64 h, .int .u64 l] 24)
  clear t3
  go_wp2_with fail
  go_at_call 33
  refine (P2.out _).mono ?_
  rintro r w4 ⟨rfl, t4⟩
  have oc := Own2.new w4 (.int .u64 0) (.int .u64 0) 24
  replace oa := (oa.only t4).alloc (.cells #[.int .u64 0, .int .u64 0] 24)
  replace ob := (ob.only t4).alloc (.cells #[.int .u64 0, .int .u64 0] 24)
  replace ht := (ht.trans t4).alloc (.cells #[.int .u64 0, .int .u64 0] 24)
  clear t4
  go_wp2_with fail
  go_at_call 35
  refine (BP.out _).mono ?_
  rintro r w5 ⟨b5, s5, k5, c5, rfl, r5, t5⟩
  replace oa := (oa.only t5).alloc (.cells #[.bool b5, .slice s5 k5 c5] 37)
  replace ob := (ob.only t5).alloc (.cells #[.bool b5, .slice s5 k5 c5] 37)
  replace oc := (oc.only t5).alloc (.cells #[.bool b5, .slice s5 k5 c5] 37)
  have od : BigAt (w5.alloc (boxOf b5 s5 k5 c5)) w5.heap.size b5 s5 k5 c5 := Own2.new _ _ _ _
  replace r5 := r5.only ((Only.refl w5).alloc (boxOf b5 s5 k5 c5))
  replace ht := (ht.trans t5).alloc (.cells #[.bool b5, .slice s5 k5 c5] 37)
  clear t5
  obtain ⟨d1, d2, -, -, dz⟩ := od.all
  go_wp2_with fail
  go_at_call 36
  refine (fits_walk r5 (HN.out.mono (by omega))).mono ?_
  rintro r w6 ⟨rfl, t6⟩
  rw [decide_eq_false HIN.out]
  replace oa := oa.only t6
  replace ob := ob.only t6
  replace oc := oc.only t6
  replace od := od.only t6
  replace r5 := r5.only t6
  replace ht := ht.trans t6
  clear d1 d2 dz t6
  go_upto_region 12 with (fail)
  refine wp_name (fun wx => Own2 wx w.heap.size (.int .u64 h) (.int .u64 l) ∧ Own2 wx w3.heap.size (.int .u64 h) (.int .u64 l) ∧ Own2 wx w4.heap.size (.int .u64 0) (.int .u64 0) ∧ Only w wx) ⟨oa, ob, oc, ht⟩ ?_
  clear oa ob oc ht
  rintro wx ⟨oa, ob, oc, ht⟩
  refine wp_rich [pVal (.int .i64 6), pVal (.bool true), pVal (.bool true), pVal (.agg #[.int .u64 0, .int .u64 0]), pVal (.agg #[.int .u64 0, .int .u64 0]), pVal (.bool true), pVal (.bool true), pVal (.bool true), pVal (undef), pVal (undef), pVal (undef), pVal (undef), pVal (undef), pVal (undef), pVal (undef), pVal (undef), pVal (undef), pVal (.bool true), pVal (.bool true)] (F := ?F12) (by kernel_rfl) (by kernel_rfl) ?hF12 ?hst12 ?hO12 ?hend12
  case hF12 =>
    intro vs
    simp only [fills]
    go_simp
    exact rfl
  case hO12 =>
    intro p hp
    simp only [List.mem_cons, List.not_mem_nil, or_false] at hp
    rcases hp with rfl | rfl | rfl | rfl | rfl | rfl | rfl | rfl | rfl | rfl | rfl | rfl | rfl | rfl | rfl | rfl | rfl | rfl | rfl
    all_goals first | exact stab_val _ | exact stab_big _
  case hst12 =>
    simp only [StepsP]
    refine ⟨?_, ?_, ?_, ?_, ?_, ?_, ?_, ?_, ?_, ?_, ?_, ?_, ?_, ?_, ?_, ?_, ?_, ?_, ?_, trivial⟩
    all_goals
      intro vs W hW hd K hK
      have y1 := (oc.only hW).c0
      have y2 := (oc.only hW).c1
      simp [depsOf, Region.binds, List.filter_cons, GotAll, saidV, pVal, pBig] at hd
      unfold RichAt
      go_simp
      first
        | (refine hK _ _ (Only.refl _) ?_; exact rfl)
        | (refine hK _ _ (Only.refl _) ?_; simp [pVal]; done)
  case hend12 =>
    intro vs W hW hg
    simp [List.range_succ, depsOf, Region.binds, List.filter_cons, GotAll, saidV, pVal, pBig] at hg
    obtain ⟨-, -, -, -, -, -, -, -, -, -, -, -, -, -, -, -, -, -, g18⟩ := hg
    rw [g18]
    replace oa := oa.only hW
    replace ob := ob.only hW
    replace ht := ht.trans hW
    clear oc hW g18
    go_upto_region 13 with (fail)
    refine wp_name (fun wx => Own2 wx w.heap.size (.int .u64 h) (.int .u64 l) ∧ Own2 wx w3.heap.size (.int .u64 h) (.int .u64 l) ∧ Only w wx) ⟨oa, ob, ht⟩ ?_
    clear oa ob ht
    rintro wy ⟨oa, ob, ht⟩
    refine wp_rich [pVal (.agg #[.int .u64 h, .int .u64 l]), pVal (.string x), pVal (.agg #[.int .u64 h, .int .u64 l]), pBig a, pVal (.string x), pVal (.bool true), pVal (.bool true), pVal (.agg #[.int .u64 h, .int .u64 l]), pVal (.agg #[.int .u64 h, .int .u64 l]), pVal (.bool true), pVal (.bool true), pVal (.bool true), pVal (.int .i64 0), pVal (.int .i64 0), pVal (.bool true), pVal (.bool true), pVal (.bool true), pVal (.int .i64 6), pVal (.int .i64 6), pVal (.int .i64 6), pVal (.bool true), pVal (.bool true), pVal (.bool true), pVal (.bool true), pVal (.bool true), pVal (.bool true)] (F := ?F13) (by kernel_rfl) (by kernel_rfl) ?hF13 ?hst13 ?hO13 ?hend13
    case hF13 =>
      intro vs
      simp only [fills]
      go_simp
      exact rfl
    case hO13 =>
      intro p hp
      simp only [List.mem_cons, List.not_mem_nil, or_false] at hp
      rcases hp with rfl | rfl | rfl | rfl | rfl | rfl | rfl | rfl | rfl | rfl | rfl | rfl | rfl | rfl | rfl | rfl | rfl | rfl | rfl | rfl | rfl | rfl | rfl | rfl | rfl | rfl
      all_goals first | exact stab_val _ | exact stab_big _
    case hst13 =>
      simp only [StepsP]
      refine ⟨?_, ?_, ?_, ?_, ?_, ?_, ?_, ?_, ?_, ?_, ?_, ?_, ?_, ?_, ?_, ?_, ?_, ?_, ?_, ?_, ?_, ?_, ?_, ?_, ?_, ?_, trivial⟩
      case refine_2 =>
        intro vs W hW hd K hK
        simp [depsOf, Region.binds, List.filter_cons, GotAll, saidV, pVal, pBig] at hd
        unfold RichAt
        go_simp
        refine (ST.out _).mono ?_
        rintro e w' ⟨rfl, t⟩
        exact ⟨_, rfl, hK _ _ t rfl⟩
      case refine_4 =>
        intro vs W hW hd K hK
        simp [depsOf, Region.binds, List.filter_cons, GotAll, saidV, pVal, pBig] at hd
        unfold RichAt
        go_simp
        refine (VA.out _).mono ?_
        rintro e w' ⟨b6, s6, k6, c6, rfl, r6, t⟩
        exact ⟨_, rfl, hK _ _ t ⟨b6, s6, k6, c6, rfl, r6⟩⟩
      case refine_5 =>
        intro vs W hW hd K hK
        simp [depsOf, Region.binds, List.filter_cons, GotAll, saidV, pVal] at hd
        obtain ⟨b6, s6, k6, c6, e6, r6⟩ := hd
        unfold RichAt
        go_simp
        refine (TX.out _ _ _ _ _ r6).mono ?_
        rintro e w' ⟨rfl, t⟩
        exact ⟨_, rfl, hK _ _ t rfl⟩
      case refine_14 =>
        intro vs W hW hd K hK
        simp [depsOf, Region.binds, List.filter_cons, GotAll, saidV, pVal, pBig] at hd
        unfold RichAt
        go_simp
        refine (num_any _ _).mono ?_
        rintro e w' ⟨rfl, rfl⟩
        exact ⟨_, rfl, hK _ _ (Only.refl _) rfl⟩
      case refine_19 =>
        intro vs W hW hd K hK
        simp [depsOf, Region.binds, List.filter_cons, GotAll, saidV, pVal, pBig] at hd
        unfold RichAt
        go_simp
        refine (num_any _ _).mono ?_
        rintro e w' ⟨rfl, rfl⟩
        exact ⟨_, rfl, hK _ _ (Only.refl _) rfl⟩
      all_goals
        intro vs W hW hd K hK
        have y1 := (oa.only hW).c0
        have y2 := (oa.only hW).c1
        have y3 := (ob.only hW).c0
        have y4 := (ob.only hW).c1
        simp [depsOf, Region.binds, List.filter_cons, GotAll, saidV, pVal, pBig] at hd
        unfold RichAt
        go_simp
        first
          | (refine hK _ _ (Only.refl _) ?_; exact rfl)
          | (refine hK _ _ (Only.refl _) ?_; simp [pVal]; done)
    case hend13 =>
      intro vs W hW hg
      simp [List.range_succ, depsOf, Region.binds, List.filter_cons, GotAll, saidV, pVal, pBig] at hg
      obtain ⟨-, -, -, -, -, -, -, -, -, -, -, -, -, -, -, -, -, -, -, -, -, -, -, -, -, g25⟩ := hg
      rw [g25]
      have hfin := ht.trans hW
      go_wp2_with fail
      go_ret
      exact ⟨rfl, hfin⟩

set_option maxRecDepth 100000 in
set_option maxHeartbeats 6400000 in
theorem texts_num {h l i j a n : Int} {q x : ByteArray} {w : World} (hq : (q.size : Int) ≤ 200) (ST : StrIsW h l x) (P1 : ParseIsW x h l 0) (P2 : ParseIsW q i j 0) (VA : ValIsW h l a) (TX : ∀ W b s k c, BigR W b s k c a → Calls Try.prog 37 #[.agg #[.bool b, .slice s k c]] W fun e w' => e = .returned (.string x) ∧ Only W w')
    (BP : ∀ W, Calls Try.prog 35 #[.string q] W (ParseSays n W)) (hn : Lim n 5000) (hin : In n) (VT : ValIsW i j n) : Calls Try.prog 6 #[.agg #[.int .u64 h, .int .u64 l], .string q] w fun e w' => e = .returned (.bool true) ∧ Only w w' := by
  have VT := Lib.hid VT
  have HIN := Lib.hid hin
  have HN := Lib.hid hn
  clear hin hn
  have oa := Own2.new w (.int .u64 h) (.int .u64 l) 24
  have ht := (Only.refl w).alloc (.cells #[.int .u64 h, .int .u64 l] 24)
  have ST := Lib.hid ST
  have P1 := Lib.hid P1
  have P2 := Lib.hid P2
  have VA := Lib.hid VA
  have TX := Lib.hid TX
  have BP := Lib.hid BP
  go_enter Try.func6, Try.ntmps6
  go_wp2_with fail
  go_at_call 9
  refine (first_wide _).mono ?_
  rintro r w1 ⟨rfl, t1⟩
  replace oa := oa.only t1
  replace ht := ht.trans t1
  clear t1
  obtain ⟨a1, a2, -, -, az⟩ := oa.all
  go_wp2_with fail
  go_at_call 34
  refine (ST.out _).mono ?_
  rintro r w2 ⟨rfl, t2⟩
  replace oa := oa.only t2
  replace ht := ht.trans t2
  clear a1 a2 az t2
  go_wp2_with fail
  go_at_call 33
  refine (P1.out _).mono ?_
  rintro r w3 ⟨rfl, t3⟩
  have ob := Own2.new w3 (.int .u64 h) (.int .u64 l) 24
  replace oa := (oa.only t3).alloc (.cells #[.int .u64 h, .int .u64 l] 24)
  replace ht := (ht.trans t3).alloc (.cells #[.int .u64 h, .int .u64 l] 24)
  clear t3
  go_wp2_with fail
  go_at_call 33
  refine (P2.out _).mono ?_
  rintro r w4 ⟨rfl, t4⟩
  have oc := Own2.new w4 (.int .u64 i) (.int .u64 j) 24
  replace oa := (oa.only t4).alloc (.cells #[.int .u64 i, .int .u64 j] 24)
  replace ob := (ob.only t4).alloc (.cells #[.int .u64 i, .int .u64 j] 24)
  replace ht := (ht.trans t4).alloc (.cells #[.int .u64 i, .int .u64 j] 24)
  clear t4
  go_wp2_with fail
  go_at_call 35
  refine (BP.out _).mono ?_
  rintro r w5 ⟨b5, s5, k5, c5, rfl, r5, t5⟩
  replace oa := (oa.only t5).alloc (.cells #[.bool b5, .slice s5 k5 c5] 37)
  replace ob := (ob.only t5).alloc (.cells #[.bool b5, .slice s5 k5 c5] 37)
  replace oc := (oc.only t5).alloc (.cells #[.bool b5, .slice s5 k5 c5] 37)
  have od : BigAt (w5.alloc (boxOf b5 s5 k5 c5)) w5.heap.size b5 s5 k5 c5 := Own2.new _ _ _ _
  replace r5 := r5.only ((Only.refl w5).alloc (boxOf b5 s5 k5 c5))
  replace ht := (ht.trans t5).alloc (.cells #[.bool b5, .slice s5 k5 c5] 37)
  clear t5
  obtain ⟨d1, d2, -, -, dz⟩ := od.all
  go_wp2_with fail
  go_at_call 36
  refine (fits_walk r5 (HN.out.mono (by omega))).mono ?_
  rintro r w6 ⟨rfl, t6⟩
  rw [decide_eq_true HIN.out]
  replace oa := oa.only t6
  replace ob := ob.only t6
  replace oc := oc.only t6
  replace od := od.only t6
  replace r5 := r5.only t6
  replace ht := ht.trans t6
  clear d1 d2 dz t6
  go_upto_region 12 with (fail)
  refine wp_name (fun wx => Own2 wx w.heap.size (.int .u64 h) (.int .u64 l) ∧ Own2 wx w3.heap.size (.int .u64 h) (.int .u64 l) ∧ Own2 wx w4.heap.size (.int .u64 i) (.int .u64 j) ∧ BigAt wx w5.heap.size b5 s5 k5 c5 ∧ BigR wx b5 s5 k5 c5 n ∧ Only w wx) ⟨oa, ob, oc, od, r5, ht⟩ ?_
  clear oa ob oc od r5 ht
  rintro wx ⟨oa, ob, oc, od, r5, ht⟩
  refine wp_rich [pVal (.int .i64 0), pVal (.bool false), pVal (.bool false), pVal (undef), pVal (undef), pVal (undef), pVal (.bool false), pVal (.bool false), pVal (.int .i64 0), pVal (.bool true), pVal (.bool true), pVal (.agg #[.int .u64 i, .int .u64 j]), pBig n, pVal (.agg #[.bool b5, .slice s5 k5 c5]), pVal (.int .i64 0), pVal (.bool true), pVal (.bool true), pVal (.bool true), pVal (.bool true)] (F := ?F12) (by kernel_rfl) (by kernel_rfl) ?hF12 ?hst12 ?hO12 ?hend12
  case hF12 =>
    intro vs
    simp only [fills]
    go_simp
    exact rfl
  case hO12 =>
    intro p hp
    simp only [List.mem_cons, List.not_mem_nil, or_false] at hp
    rcases hp with rfl | rfl | rfl | rfl | rfl | rfl | rfl | rfl | rfl | rfl | rfl | rfl | rfl | rfl | rfl | rfl | rfl | rfl | rfl
    all_goals first | exact stab_val _ | exact stab_big _
  case hst12 =>
    simp only [StepsP]
    refine ⟨?_, ?_, ?_, ?_, ?_, ?_, ?_, ?_, ?_, ?_, ?_, ?_, ?_, ?_, ?_, ?_, ?_, ?_, ?_, trivial⟩
    case refine_13 =>
      intro vs W hW hd K hK
      simp [depsOf, Region.binds, List.filter_cons, GotAll, saidV, pVal, pBig] at hd
      unfold RichAt
      go_simp
      refine (VT.out _).mono ?_
      rintro e w' ⟨b6, s6, k6, c6, rfl, r6, t⟩
      exact ⟨_, rfl, hK _ _ t ⟨b6, s6, k6, c6, rfl, r6⟩⟩
    case refine_15 =>
      intro vs W hW hd K hK
      simp [depsOf, Region.binds, List.filter_cons, GotAll, saidV, pVal] at hd
      obtain ⟨⟨b6, s6, k6, c6, e6, r6⟩, h9⟩ := hd
      unfold RichAt
      go_simp
      refine (bigCmp_any r6 (r5.only hW) (HN.out.mono (by omega)) (HN.out.mono (by omega))).mono ?_
      rintro e w' ⟨rfl, t⟩
      rw [cmpI_same]
      exact ⟨_, rfl, hK _ _ t rfl⟩
    all_goals
      intro vs W hW hd K hK
      have y1 := (oc.only hW).c0
      have y2 := (oc.only hW).c1
      have y3 := (od.only hW).c0
      have y4 := (od.only hW).c1
      simp [depsOf, Region.binds, List.filter_cons, GotAll, saidV, pVal, pBig] at hd
      unfold RichAt
      go_simp
      first
        | (refine hK _ _ (Only.refl _) ?_; exact rfl)
        | (refine hK _ _ (Only.refl _) ?_; simp [pVal]; done)
  case hend12 =>
    intro vs W hW hg
    simp [List.range_succ, depsOf, Region.binds, List.filter_cons, GotAll, saidV, pVal, pBig] at hg
    obtain ⟨-, -, -, -, -, -, -, -, -, -, -, -, -, -, -, -, -, -, g18⟩ := hg
    rw [g18]
    replace oa := oa.only hW
    replace ob := ob.only hW
    replace ht := ht.trans hW
    clear oc hW g18 od r5
    go_upto_region 13 with (fail)
    refine wp_name (fun wx => Own2 wx w.heap.size (.int .u64 h) (.int .u64 l) ∧ Own2 wx w3.heap.size (.int .u64 h) (.int .u64 l) ∧ Only w wx) ⟨oa, ob, ht⟩ ?_
    clear oa ob ht
    rintro wy ⟨oa, ob, ht⟩
    refine wp_rich [pVal (.agg #[.int .u64 h, .int .u64 l]), pVal (.string x), pVal (.agg #[.int .u64 h, .int .u64 l]), pBig a, pVal (.string x), pVal (.bool true), pVal (.bool true), pVal (.agg #[.int .u64 h, .int .u64 l]), pVal (.agg #[.int .u64 h, .int .u64 l]), pVal (.bool true), pVal (.bool true), pVal (.bool true), pVal (.int .i64 0), pVal (.int .i64 0), pVal (.bool true), pVal (.bool true), pVal (.bool true), pVal (.int .i64 0), pVal (.int .i64 0), pVal (.int .i64 0), pVal (.bool true), pVal (.bool true), pVal (.bool true), pVal (.bool true), pVal (.bool true), pVal (.bool true)] (F := ?F13) (by kernel_rfl) (by kernel_rfl) ?hF13 ?hst13 ?hO13 ?hend13
    case hF13 =>
      intro vs
      simp only [fills]
      go_simp
      exact rfl
    case hO13 =>
      intro p hp
      simp only [List.mem_cons, List.not_mem_nil, or_false] at hp
      rcases hp with rfl | rfl | rfl | rfl | rfl | rfl | rfl | rfl | rfl | rfl | rfl | rfl | rfl | rfl | rfl | rfl | rfl | rfl | rfl | rfl | rfl | rfl | rfl | rfl | rfl | rfl
      all_goals first | exact stab_val _ | exact stab_big _
    case hst13 =>
      simp only [StepsP]
      refine ⟨?_, ?_, ?_, ?_, ?_, ?_, ?_, ?_, ?_, ?_, ?_, ?_, ?_, ?_, ?_, ?_, ?_, ?_, ?_, ?_, ?_, ?_, ?_, ?_, ?_, ?_, trivial⟩
      case refine_2 =>
        intro vs W hW hd K hK
        simp [depsOf, Region.binds, List.filter_cons, GotAll, saidV, pVal, pBig] at hd
        unfold RichAt
        go_simp
        refine (ST.out _).mono ?_
        rintro e w' ⟨rfl, t⟩
        exact ⟨_, rfl, hK _ _ t rfl⟩
      case refine_4 =>
        intro vs W hW hd K hK
        simp [depsOf, Region.binds, List.filter_cons, GotAll, saidV, pVal, pBig] at hd
        unfold RichAt
        go_simp
        refine (VA.out _).mono ?_
        rintro e w' ⟨b6, s6, k6, c6, rfl, r6, t⟩
        exact ⟨_, rfl, hK _ _ t ⟨b6, s6, k6, c6, rfl, r6⟩⟩
      case refine_5 =>
        intro vs W hW hd K hK
        simp [depsOf, Region.binds, List.filter_cons, GotAll, saidV, pVal] at hd
        obtain ⟨b6, s6, k6, c6, e6, r6⟩ := hd
        unfold RichAt
        go_simp
        refine (TX.out _ _ _ _ _ r6).mono ?_
        rintro e w' ⟨rfl, t⟩
        exact ⟨_, rfl, hK _ _ t rfl⟩
      case refine_14 =>
        intro vs W hW hd K hK
        simp [depsOf, Region.binds, List.filter_cons, GotAll, saidV, pVal, pBig] at hd
        unfold RichAt
        go_simp
        refine (num_any _ _).mono ?_
        rintro e w' ⟨rfl, rfl⟩
        exact ⟨_, rfl, hK _ _ (Only.refl _) rfl⟩
      case refine_19 =>
        intro vs W hW hd K hK
        simp [depsOf, Region.binds, List.filter_cons, GotAll, saidV, pVal, pBig] at hd
        unfold RichAt
        go_simp
        refine (num_any _ _).mono ?_
        rintro e w' ⟨rfl, rfl⟩
        exact ⟨_, rfl, hK _ _ (Only.refl _) rfl⟩
      all_goals
        intro vs W hW hd K hK
        have y1 := (oa.only hW).c0
        have y2 := (oa.only hW).c1
        have y3 := (ob.only hW).c0
        have y4 := (ob.only hW).c1
        simp [depsOf, Region.binds, List.filter_cons, GotAll, saidV, pVal, pBig] at hd
        unfold RichAt
        go_simp
        first
          | (refine hK _ _ (Only.refl _) ?_; exact rfl)
          | (refine hK _ _ (Only.refl _) ?_; simp [pVal]; done)
    case hend13 =>
      intro vs W hW hg
      simp [List.range_succ, depsOf, Region.binds, List.filter_cons, GotAll, saidV, pVal, pBig] at hg
      obtain ⟨-, -, -, -, -, -, -, -, -, -, -, -, -, -, -, -, -, -, -, -, -, -, -, -, -, g25⟩ := hg
      rw [g25]
      have hfin := ht.trans hW
      go_wp2_with fail
      go_ret
      exact ⟨rfl, hfin⟩
end Go.Proofs.Ytagilpgplcphpaa
