/-
  JsonBlanks: the walk.
-/
import Derived.Test.YtdhkpkojnokjdaaDoorJBack
import Derived.Test.YtdhkpkojnokjdaaDoorGTu
import Derived.Test.YtdhkpkojnokjdaaDoorJSprW
namespace Go.Proofs.YtdhkpkojnokjdaaDoor
open Go.RowKit Go.Maps Go.WideMaps Go.Shelf
set_option linter.unusedVariables false
set_option linter.unusedSimpArgs false

set_option maxRecDepth 100000 in
set_option maxHeartbeats 3200000 in
/-- where nothing is asked -/
theorem blanks_none {b : List UInt8} {bv : Value} {w : World} (hb : BytesIn w bv b) (hT : Tb w) (h : 4000 < b.length ∨ (b.length ≤ 4000 ∧ ∃ a e, parseE b = .bad a e)) :
    Calls Tryd.prog 4 #[bv] w fun e w' => e = .returned (.bool true) ∧ Only w w' := by
  have HBI := Lib.hid hb
  obtain ⟨⟨sp, cap, rfl⟩, -⟩ := hb
  have HT := Lib.hid hT
  have NM := Lib.hid numJ_any
  have FI := Lib.hid (fun W (h : Tb W) => first7_any h)
  clear hT
  rcases h with h | ⟨h, a9, e9, hpb⟩
  · have i1 : (4000 : Int) < (b.length : Int) := by omega
    go_enter Tryd.func4, Tryd.ntmps4
    go_wp2_with fail
    refine (FI.out _ HT.out).mono ?_
    rintro r w1 ⟨rfl, t1⟩
    have H1 := Lib.hid t1
    clear t1
    go_wp2_with fail
    go_ret
    exact ⟨rfl, H1.out⟩
  · have i1 : ¬ (4000 : Int) < (b.length : Int) := by omega
    have he9 : ((e9 : Int) != 0) = true := by have := parseE_err hpb; rw [bne_iff_ne]; omega
    have PB := Lib.hid (fun (W : World) (hb : BytesIn W (.slice sp b.length cap) b) (h : Tb W) => parse_bad hb (by omega) h hpb)
    clear hpb
    go_enter Tryd.func4, Tryd.ntmps4
    go_wp2_with fail
    refine (FI.out _ HT.out).mono ?_
    rintro r w1 ⟨rfl, t1⟩
    have H1 := Lib.hid t1
    clear t1
    go_wp2_with fail
    refine (PB.out _ (HBI.out.onlyB H1.out) (HT.out.only H1.out)).mono ?_
    rintro r w2 ⟨⟨a8, rfl⟩, t2⟩
    have H2 := Lib.hid ((H1.out.trans t2).alloc (.cells #[.int .i64 0, .string ⟨#[]⟩, .slice none 0 0, .slice none 0 0] 25))
    clear t2
    go_wp2_with (go_at_call 11; refine (NM.out _ _).mono ?_; rintro r w'' ⟨rfl, rfl⟩)
    go_ret
    exact ⟨rfl, H2.out⟩

theorem parse_okV {v : Value} {l : List UInt8} {w : World} (hb : BytesIn w v l) (hlen : l.length ≤ 65536) (hT : Tb w) {y : JV} {q : Nat} (hp : parseE l = .ok y q) :
    Calls Tryd.prog 12 #[v] w fun e w' => (∃ (k : Int) (t : List UInt8) (sp : Option Addr) (n c : Nat) (sq : Option Addr) (m d : Nat), e = .returned (.tuple #[.agg #[.int .i64 k, txt t, .slice sp n c, .slice sq m d], .int .i64 0, .int .i64 0]) ∧ GIn w' (toG y) (.agg #[.int .i64 k, txt t, .slice sp n c, .slice sq m d]) ∧ Pl y) ∧ Only w w' := by
  refine (parseN_any hb hlen hT).mono ?_
  rintro e w' ⟨t, h⟩
  rw [hp] at h
  obtain ⟨v, rfl, hv⟩ := h
  have hpl := hv.pl
  obtain ⟨kk, tt, La, Na, rfl, ⟨la1, la2, la3, rfl⟩, ⟨na1, na2, na3, rfl⟩⟩ := hv.form
  exact ⟨⟨_, _, _, _, _, _, _, _, rfl, hv.gin, hpl⟩, t⟩

set_option maxRecDepth 100000 in
set_option maxHeartbeats 12800000 in
theorem blanks_good {b : List UInt8} {bv : Value} {w : World} (hb : BytesIn w bv b) (hx : BytesX w bv b) (hT : Tb w) (hl : b.length ≤ 4000) {yb : JV} {qb : Nat} (hpb : parseE b = .ok yb qb) :
    Calls Tryd.prog 4 #[bv] w fun e w' => e = .returned (.bool true) ∧ Only w w' := by
  have HBI := Lib.hid hb
  have HBX := Lib.hid hx
  obtain ⟨⟨sp, cap, rfl⟩, -⟩ := hb
  have hyb := parseE_fine hpb
  have hyl : (tx yb).length ≤ 65536 := by omega
  have hwell := parseE_well (by omega) hpb
  obtain ⟨t1, t2, t3, t4⟩ := turn_ok _ yb 0 (Nat.le_refl _) hwell hyb.1
  obtain ⟨q2, hp2⟩ := parse_spread hpb
  have hsl := (spr_len false b).2
  have NM := Lib.hid numJ_any
  have FI := Lib.hid (fun W (h : Tb W) => first7_any h)
  have PB := Lib.hid (fun (W : World) (hb : BytesIn W (.slice sp b.length cap) b) (h : Tb W) => parse_okV hb (by omega) h hpb)
  have P1 := Lib.hid (fun (W : World) (v : Value) (hv : GIn W (toG yb) v) (h : Tb W) => print_ok hv (Well.fine _ hwell) h hyb.1 hyl)
  have SP := Lib.hid (fun (W : World) (h : BytesX W (.slice sp b.length cap) b) => spread_any h hl)
  have P2 := Lib.hid (fun (W : World) (v : Value) (hb : BytesIn W v (spr false b)) (h : Tb W) => parse_ok hb (by omega) h hp2)
  have TU := Lib.hid (fun (W : World) (v : Value) (hp : Pl yb) (hv : GIn W (toG yb) v) => turned_any _ yb v W (Nat.le_refl _) hwell hp hv)
  have P3 := Lib.hid (fun (W : World) (v : Value) (hv : GIn W (toG (turnedJ yb)) v) (h : Tb W) => print_ok hv (Well.fine _ t1) h t2 (by rw [show textG ordN (toG (turnedJ yb)) = tx yb from t3]; exact hyl))
  rw [show textG ordN (toG (turnedJ yb)) = tx yb from t3] at P3
  have S9 := Lib.hid (fun (W : World) (a c : Value) (ha : GIn W (toG yb) a) (hc : GIn W (toG (turnedJ yb)) c) => by
    have h := same_any (SizeOf.sizeOf (toG yb) + 1) (toG yb) (toG (turnedJ yb)) W a c (Nat.lt_succ_self _) ha hc (Well.slim _ hwell) (Well.slim _ t1)
    rw [t4] at h
    exact h)
  have B9 := Lib.hid (fun (W : World) (a c : Value) (ha : BytesC W a (tx yb)) (hc : BytesC W c (tx yb)) => sameBytes_self ha hc (by omega))
  obtain ⟨T, hTx⟩ : ∃ T, T = tx yb := ⟨_, rfl⟩
  have hTx' : textG ordN (toG yb) = T := hTx.symm
  simp only [← hTx, hTx'] at P1 P3 B9
  obtain ⟨S, hS⟩ : ∃ S, S = spr false b := ⟨_, rfl⟩
  rw [← hS] at P2 SP
  unfold TurnRes at TU
  have HT := Lib.hid hT
  have i1 : ¬ (4000 : Int) < (b.length : Int) := by omega
  clear hT hyb hyl hwell t1 t2 t3 t4 hp2 hsl hTx hTx' hS hpb hx
  go_enter Tryd.func4, Tryd.ntmps4
  go_wp2_with fail
  refine (FI.out _ HT.out).mono ?_
  rintro r w1 ⟨rfl, t1⟩
  have H1 := Lib.hid t1
  clear t1
  go_wp2_with fail
  refine (PB.out _ (HBI.out.onlyB H1.out) (HT.out.only H1.out)).mono ?_
  rintro r w2 ⟨⟨k4, t4, sp4, n4, c4, sq4, m4, d4, rfl, hg4, hpl⟩, t2⟩
  have HPL := Lib.hid hpl
  have H2 := Lib.hid ((H1.out.trans t2).alloc (.cells #[.int .i64 k4, txt t4, .slice sp4 n4 c4, .slice sq4 m4 d4] 25))
  have O2 := Lib.hid (Own4.new w2 (.int .i64 k4) (txt t4) (.slice sp4 n4 c4) (.slice sq4 m4 d4) 25)
  have G2 := Lib.hid (GIn.only ((Only.refl w2).alloc (.cells #[.int .i64 k4, txt t4, .slice sp4 n4 c4, .slice sq4 m4 d4] 25)) _ hg4)
  clear t2 hg4 hpl
  obtain ⟨⟨x0, x1, x2, x3⟩, -⟩ := O2.out.all
  go_wp2_with (go_at_call 11; refine (NM.out _ _).mono ?_; rintro r w'' ⟨rfl, rfl⟩)
  refine (P1.out _ _ G2.out (HT.out.only H2.out)).mono ?_
  rintro r w3 ⟨⟨sp3, cp3, rfl, hb3⟩, t3⟩
  have H3 := Lib.hid (H2.out.trans t3)
  have O3 := Lib.hid (O2.out.only t3)
  have G3 := Lib.hid (GIn.only t3 _ G2.out)
  have C3 := Lib.hid hb3
  clear x0 x1 x2 x3 t3 hb3
  go_wp2_with fail
  refine (SP.out _ (by
    obtain ⟨a, c, e, h⟩ := HBX.out
    refine ⟨a, c, e, ?_⟩
    rcases h with h | ⟨g, off, e2, h⟩
    · exact Or.inl h
    · exact Or.inr ⟨g, off, e2, fun i hi => cell_only (h i hi) H3.out⟩)).mono ?_
  rintro r w4 ⟨⟨sp5, cp5, rfl, hb5⟩, t5⟩
  have H4 := Lib.hid (H3.out.trans t5)
  have O4 := Lib.hid (O3.out.only t5)
  have G4 := Lib.hid (GIn.only t5 _ G3.out)
  have C4 := Lib.hid (C3.out.only t5)
  have E4 := Lib.hid hb5
  clear t5 hb5
  go_wp2_with fail
  refine (P2.out _ _ (BytesIn.own E4.out) (HT.out.only H4.out)).mono ?_
  rintro r w5 ⟨⟨k6, t6, sp6, n6, c6, sq6, m6, d6, rfl, hg6⟩, t6'⟩
  have T6 := Lib.hid (t6'.alloc (.cells #[.int .i64 k6, txt t6, .slice sp6 n6 c6, .slice sq6 m6 d6] 25))
  have H6 := Lib.hid (H4.out.trans T6.out)
  have O6 := Lib.hid (O4.out.only T6.out)
  have G6 := Lib.hid (GIn.only T6.out _ G4.out)
  have C6 := Lib.hid (C4.out.only T6.out)
  have R6 := Lib.hid (Own4.new w5 (.int .i64 k6) (txt t6) (.slice sp6 n6 c6) (.slice sq6 m6 d6) 25)
  have L6 := Lib.hid (GIn.only ((Only.refl w5).alloc (.cells #[.int .i64 k6, txt t6, .slice sp6 n6 c6, .slice sq6 m6 d6] 25)) _ hg6)
  clear t6' hg6
  obtain ⟨⟨x0, x1, x2, x3⟩, -⟩ := R6.out.all
  go_wp2_with fail
  refine (P1.out _ _ L6.out (HT.out.only H6.out)).mono ?_
  rintro r w7 ⟨⟨sp7, cp7, rfl, hb7⟩, t7⟩
  have H7 := Lib.hid (H6.out.trans t7)
  have O7 := Lib.hid (O6.out.only t7)
  have G7 := Lib.hid (GIn.only t7 _ G6.out)
  have C7 := Lib.hid (C6.out.only t7)
  have D7 := Lib.hid hb7
  clear x0 x1 x2 x3 t7 hb7
  obtain ⟨⟨x0, x1, x2, x3⟩, -⟩ := O7.out.all
  go_wp2_with fail
  refine (TU.out _ _ HPL.out G7.out).mono ?_
  rintro r w8 ⟨⟨v8, rfl, hv8⟩, t8⟩
  have H8 := Lib.hid (H7.out.trans t8)
  have O8 := Lib.hid (O7.out.only t8)
  have G8 := Lib.hid (GIn.only t8 _ G7.out)
  have C8 := Lib.hid (C7.out.only t8)
  have D8 := Lib.hid (D7.out.only t8)
  have V8 := Lib.hid hv8.gin
  clear x0 x1 x2 x3 t8 hv8
  go_wp2_with fail
  refine (P3.out _ _ V8.out (HT.out.only H8.out)).mono ?_
  rintro r w9 ⟨⟨sp9, cp9, rfl, hb9⟩, t9⟩
  have H9 := Lib.hid (H8.out.trans t9)
  have O9 := Lib.hid (O8.out.only t9)
  have G9 := Lib.hid (GIn.only t9 _ G8.out)
  have C9 := Lib.hid (C8.out.only t9).c
  have D9 := Lib.hid (D8.out.only t9).c
  have E9 := Lib.hid hb9.c
  clear t9 hb9
  go_upto_region 11 with (fail)
  refine wp_rich_tail 32 [pVal (.int .i64 0), pVal (.int .i64 0), pVal (.bool true), pVal (.bool true), pVal (.int .i64 0), pVal (.int .i64 0), pVal (.bool true), pVal (.bool true), pVal (.bool true), pVal (.int .i64 0), pVal (.int .i64 0), pVal (.bool true), pVal (.bool true), pVal (.bool true), pVal (.int .i64 0), pVal (.int .i64 0), pVal (.bool true), pVal (.bool true), pVal (.bool true), pVal (.slice sp3 T.length cp3), pVal (.slice sp7 T.length cp7), pVal (.bool true), pVal (.bool true), pVal (.bool true), pVal (.slice sp3 T.length cp3), pVal (.slice sp9 T.length cp9), pVal (.bool true), pVal (.bool true), pVal (.bool true), pVal (.agg #[.int .i64 k4, txt t4, .slice sp4 n4 c4, .slice sq4 m4 d4]), pVal (.agg #[.int .i64 k4, txt t4, .slice sp4 n4 c4, .slice sq4 m4 d4]), pTur 0 (turnedJ yb)] (F := ?F11) (by kernel_rfl) (by kernel_rfl) (by kernel_rfl) (by kernel_rfl) (by kernel_rfl) (by kernel_rfl) (by kernel_rfl) ?hF11 ?hst11 ?hO11 ?hend11
  case hF11 =>
    intro vs
    simp only [List.take_succ_cons, List.take_zero, fills]
    go_simp
    exact rfl
  case hst11 =>
    simp only [List.take_succ_cons, List.take_zero, StepsP]
    refine ⟨?_, ?_, ?_, ?_, ?_, ?_, ?_, ?_, ?_, ?_, ?_, ?_, ?_, ?_, ?_, ?_, ?_, ?_, ?_, ?_, ?_, ?_, ?_, ?_, ?_, ?_, ?_, ?_, ?_, ?_, ?_, ?_, trivial⟩
    case refine_2 | refine_6 | refine_11 | refine_16 =>
      intro vs W hW hd K hK
      simp [depsOf, Region.binds, List.filter_cons, GotAll, saidV, pVal] at hd
      unfold RichAt
      go_simp
      refine (NM.out _ _).mono ?_
      rintro e w' ⟨rfl, rfl⟩
      exact ⟨_, rfl, hK _ _ (Only.refl _) rfl⟩
    case refine_22 =>
      intro vs W hW hd K hK
      simp [depsOf, Region.binds, List.filter_cons, GotAll, saidV, pVal] at hd
      unfold RichAt
      go_simp
      refine (B9.out W _ _ (C9.out.only hW) (D9.out.only hW)).mono ?_
      rintro e w' ⟨rfl, t'⟩
      exact ⟨_, rfl, hK _ _ t' rfl⟩
    case refine_27 =>
      intro vs W hW hd K hK
      simp [depsOf, Region.binds, List.filter_cons, GotAll, saidV, pVal] at hd
      unfold RichAt
      go_simp
      refine (B9.out W _ _ (C9.out.only hW) (E9.out.only hW)).mono ?_
      rintro e w' ⟨rfl, t'⟩
      exact ⟨_, rfl, hK _ _ t' rfl⟩
    case refine_32 =>
      intro vs W hW hd K hK
      simp [depsOf, Region.binds, List.filter_cons, GotAll, saidV, pVal] at hd
      unfold RichAt
      go_simp
      refine (TU.out W _ HPL.out (GIn.only hW _ G9.out)).mono ?_
      rintro e w' ⟨⟨v11, rfl, hv11⟩, t'⟩
      exact ⟨_, rfl, hK _ _ t' ⟨hv11.form2, VRep.mono _ (fun i _ _ => Nat.zero_le _) hv11⟩⟩
    all_goals
      intro vs W hW hd K hK
      obtain ⟨⟨x0, x1, x2, x3⟩, -⟩ := (O9.out.only hW).all
      simp [depsOf, Region.binds, List.filter_cons, GotAll, saidV, pVal] at hd
      unfold RichAt
      go_simp
      refine hK _ _ (Only.refl _) ?_
      exact rfl
  case hO11 =>
    simp only [List.forall_mem_cons]
    exact ⟨stab_val _, stab_val _, stab_val _, stab_val _, stab_val _, stab_val _, stab_val _, stab_val _, stab_val _, stab_val _, stab_val _, stab_val _, stab_val _, stab_val _, stab_val _, stab_val _, stab_val _, stab_val _, stab_val _, stab_val _, stab_val _, stab_val _, stab_val _, stab_val _, stab_val _, stab_val _, stab_val _, stab_val _, stab_val _, stab_val _, stab_val _, stab_tur _ _, fun _ h => by cases h⟩
  case hend11 =>
  intro vs W hW hg
  simp [List.range_succ, depsOf, Region.binds, List.filter_cons, GotAll, saidV, pVal] at hg
  obtain ⟨q0, q1, q2, q3, q4, q5, q6, q7, q8, q9, q10, q11, q12, q13, q14, q15, q16, q17, q18, q19, q20, q21, q22, q23, q24, q25, q26, q27, q28, q29, q30, ⟨kk, tt, ss, nn, mm, su, uu, zz, q31⟩, hv11⟩ := hg
  have H11 := Lib.hid (H9.out.trans hW)
  have G11 := Lib.hid (GIn.only hW _ G9.out)
  rw [q31] at hv11
  have V11 := Lib.hid hv11.gin
  rw [q28, q29, q31]
  clear hv11 q0 q1 q2 q3 q4 q5 q6 q7 q8 q9 q10 q11 q12 q13 q14 q15 q16 q17 q18 q19 q20 q21 q22 q23 q24 q25 q26 q27 q28 q29 q30 q31
  simp only [List.drop_succ_cons, List.drop_zero]
  go_wp2_with fail
  refine (S9.out _ _ _ G11.out V11.out).mono ?_
  rintro r w12 ⟨rfl, t12⟩
  have H12 := Lib.hid (H11.out.trans t12)
  clear t12
  go_wp2_with fail
  go_ret
  exact ⟨rfl, H12.out⟩

theorem jsonBlanks_any {b : List UInt8} {bv : Value} {w : World} (hb : BytesIn w bv b ∧ BytesX w bv b) (hT : Tb w) : Calls Tryd.prog 4 #[bv] w fun e w' => e = .returned (.bool true) ∧ Only w w' := by
  by_cases h : b.length ≤ 4000
  · cases hp : parseE b with
    | ok y q => exact blanks_good hb.1 hb.2 hT h hp
    | bad a e => exact blanks_none hb.1 hT (Or.inr ⟨h, a, e, hp⟩)
  · exact blanks_none hb.1 hT (Or.inl (by omega))
end Go.Proofs.YtdhkpkojnokjdaaDoor
