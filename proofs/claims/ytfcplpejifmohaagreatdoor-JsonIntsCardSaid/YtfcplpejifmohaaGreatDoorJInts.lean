/-
  JsonInts: the walk.
-/
import Derived.Test.YtfcplpejifmohaaGreatDoorJNum
import Derived.Test.YtfcplpejifmohaaGreatDoorGBm
import Derived.Test.YtfcplpejifmohaaGreatDoorBText
import Derived.Test.YtfcplpejifmohaaGreatDoorGNt
namespace Go.Proofs.YtfcplpejifmohaaGreatDoor
open Go.RowKit Go.Maps Go.WideMaps Go.Shelf
set_option linter.unusedVariables false
set_option linter.unusedSimpArgs false

def pBigJ (n : Int) : Said := fun v _ w => ∃ b s k c, v = .agg #[.bool b, .slice s k c] ∧ BigR w b s k c n
theorem stab_bigJ (n : Int) : StabO (pBigJ n) := fun _ _ _ _ t ⟨b, s, k, c, e, h⟩ => ⟨b, s, k, c, e, h.only t⟩

set_option maxRecDepth 100000 in
set_option maxHeartbeats 3200000 in
theorem jsonInts_any {n : Int} (hn : -9223372036854775808 ≤ n ∧ n ≤ 9223372036854775807) {w : World} (hT : Tb w) (hP : PowJ w) : Calls Tryz.prog 4 #[.int .i64 n] w fun e w' => e = .returned (.bool true) ∧ Only w w' := by
  have HT := Lib.hid hT
  have HP := Lib.hid hP
  have NM := Lib.hid numJ_any
  have hl := (int_short hn).1
  obtain ⟨hpt, hpe⟩ := print_int hn
  obtain ⟨qe, hqe⟩ := parse_int hn
  have hlim : Lim n 5000 := (show Lim n 10 by unfold Lim; omega).mono (by omega)
  have FI := Lib.hid (fun W (h : Tb W) => first7_any h)
  have OI := Lib.hid (fun W (h : PowJ W) => ofInt_any n hn h)
  have PR := Lib.hid (fun (W : World) (v : Value) (hx : GIn W (.mk 3 (intText n) [] []) v) (h : Tb W) => printN_any hx (by simp [Fine, FineL]; omega) h (by rw [hpt]; omega))
  rw [hpt, hpe] at PR
  have PA := Lib.hid (fun (W : World) (v : Value) (hb : BytesIn W v (intText n)) (h : Tb W) => parseN_any hb (by omega) h)
  rw [hqe] at PA
  have IN := Lib.hid (fun sa na ca sb nb cb W => int_own hn sa na ca sb nb cb W)
  have BO := Lib.hid (fun W => bigOf_any (N := n) hn.1 (by omega) W)
  have BT := Lib.hid (fun W b s k c (h : BigR W b s k c n) => bigText_any h hlim)
  rw [itoaJ_text] at OI
  obtain ⟨x, hx⟩ : ∃ x, x = intText n := ⟨_, rfl⟩
  rw [← hx] at OI PR PA IN BT
  clear hT hP hl hpt hpe hqe hlim hx hn
  go_enter Tryz.func4, Tryz.ntmps4
  go_wp2_with fail
  refine (FI.out _ HT.out).mono ?_
  rintro r w1 ⟨rfl, t1⟩
  have H1 := Lib.hid t1
  clear t1
  go_wp2_with fail
  refine (OI.out _ (HP.out.only H1.out)).mono ?_
  rintro r w2 ⟨rfl, t2⟩
  have H2 := Lib.hid ((H1.out.trans t2).alloc (.cells #[.int .i64 3, txt x, .slice none 0 0, .slice none 0 0] 25))
  clear t2
  go_wp2_with fail
  refine (PR.out _ _ (by unfold GIn; exact ⟨_, _, rfl, ⟨_, _, rfl, Or.inl rfl⟩, ⟨_, _, rfl, Or.inl rfl⟩⟩) (HT.out.only H2.out)).mono ?_
  rintro r w3 ⟨⟨bv, rfl, hb, -⟩, t3⟩
  have hb := hb trivial
  have H3 := Lib.hid (H2.out.trans t3)
  have HB := Lib.hid hb
  have hsh : ∃ sp cap, bv = .slice sp x.length cap := by
    rcases hb.form with ⟨rfl, h⟩ | ⟨g, cap, rfl, -, -⟩
    · exact ⟨none, 0, by rw [h]; rfl⟩
    · exact ⟨_, _, rfl⟩
  obtain ⟨sp, cap, rfl⟩ := hsh
  clear t3 hb
  go_wp2_with fail
  refine (PA.out _ _ (BytesIn.own HB.out) (HT.out.only H3.out)).mono ?_
  rintro r w4 ⟨t4, v4, rfl, hv⟩
  unfold VRep at hv
  subst hv
  have H4 := Lib.hid ((H3.out.trans t4).alloc (.cells #[.int .i64 3, txt x, .slice none 0 0, .slice none 0 0] 25))
  have HB4 := Lib.hid (HB.out.only (t4.alloc (.cells #[.int .i64 3, txt x, .slice none 0 0, .slice none 0 0] 25)))
  clear t4
  go_wp2_with fail
  refine (IN.out _ _ _ _ _ _ _).mono ?_
  rintro r w5 ⟨rfl, t5⟩
  have H5 := Lib.hid (H4.out.trans t5)
  have HB5 := Lib.hid (HB4.out.only t5)
  clear t5
  go_upto_region 6 with (fail)
  refine wp_rich [pVal (.bool true), pVal (.bool true), pVal (.int .i64 0), pVal (.int .i64 0), pVal (.bool true), pVal (.bool true), pVal (.bool true), pVal (.slice sp x.length cap), pVal (txt x), pVal (.int .i64 n), pBigJ n, pVal (txt x), pVal (.bool true), pVal (.bool true), pVal (.bool true), pVal (.int .i64 0), pVal (.int .i64 0), pVal (.bool true), pVal (.bool true), pVal (.bool true), pVal (.int .i64 n), pVal (.int .i64 n), pVal (.bool true), pVal (.bool true), pVal (.bool true), pVal (.int .i64 0), pVal (.int .i64 0), pVal (.bool true), pVal (.bool true), pVal (.bool true)] (F := ?F6) (by kernel_rfl) (by kernel_rfl) ?hF6 ?hst6 ?hO6 ?hend6
  case hF6 =>
    intro vs
    simp only [fills]
    go_simp
    exact rfl
  case hO6 =>
    intro p hp
    simp only [List.mem_cons, List.not_mem_nil, or_false] at hp
    rcases hp with rfl | rfl | rfl | rfl | rfl | rfl | rfl | rfl | rfl | rfl | rfl | rfl | rfl | rfl | rfl | rfl | rfl | rfl | rfl | rfl | rfl | rfl | rfl | rfl | rfl | rfl | rfl | rfl | rfl | rfl
    all_goals first | exact stab_val _ | exact stab_bigJ _
  case hst6 =>
    simp only [StepsP]
    refine ⟨?_, ?_, ?_, ?_, ?_, ?_, ?_, ?_, ?_, ?_, ?_, ?_, ?_, ?_, ?_, ?_, ?_, ?_, ?_, ?_, ?_, ?_, ?_, ?_, ?_, ?_, ?_, ?_, ?_, ?_, trivial⟩
    case refine_4 | refine_17 | refine_27 =>
      intro vs W hW hd K hK
      simp [depsOf, Region.binds, List.filter_cons, GotAll, saidV, pVal, pBigJ] at hd
      unfold RichAt
      go_simp
      refine (NM.out _ _).mono ?_
      rintro e w' ⟨rfl, rfl⟩
      exact ⟨_, rfl, hK _ _ (Only.refl _) rfl⟩
    case refine_9 =>
      intro vs W hW hd K hK
      have cv := bytes_string (HB5.out.only hW)
      simp [depsOf, Region.binds, List.filter_cons, GotAll, saidV, pVal, pBigJ] at hd
      unfold RichAt
      go_simp
      refine hK _ _ (Only.refl _) ?_
      exact rfl
    case refine_11 =>
      intro vs W hW hd K hK
      simp [depsOf, Region.binds, List.filter_cons, GotAll, saidV, pVal, pBigJ] at hd
      unfold RichAt
      go_simp
      refine (BO.out _).mono ?_
      rintro e w' ⟨b6, s6, k6, c6, rfl, r6, t⟩
      exact ⟨_, rfl, hK _ _ t ⟨b6, s6, k6, c6, rfl, r6⟩⟩
    case refine_12 =>
      intro vs W hW hd K hK
      simp [depsOf, Region.binds, List.filter_cons, GotAll, saidV, pVal] at hd
      obtain ⟨⟨b6, s6, k6, c6, e6, r6⟩, h6⟩ := hd
      unfold RichAt
      go_simp
      refine (BT.out _ _ _ _ _ r6).mono ?_
      rintro e w' ⟨rfl, t⟩
      exact ⟨_, rfl, hK _ _ t rfl⟩
    all_goals
      intro vs W hW hd K hK
      simp [depsOf, Region.binds, List.filter_cons, GotAll, saidV, pVal, pBigJ] at hd
      unfold RichAt
      go_simp
      first
        | (refine hK _ _ (Only.refl _) ?_; exact rfl)
        | (refine hK _ _ (Only.refl _) ?_; simp [pVal]; done)
  case hend6 =>
    intro vs W hW hg
    simp [List.range_succ, depsOf, Region.binds, List.filter_cons, GotAll, saidV, pVal, pBigJ] at hg
    obtain ⟨-, -, -, -, -, -, -, -, -, -, -, -, -, -, -, -, -, -, -, -, -, -, -, -, -, -, -, -, -, g29⟩ := hg
    rw [g29]
    have HF := Lib.hid (H5.out.trans hW)
    clear hW g29
    go_wp2_with fail
    go_ret
    exact ⟨rfl, HF.out⟩
end Go.Proofs.YtfcplpejifmohaaGreatDoor
