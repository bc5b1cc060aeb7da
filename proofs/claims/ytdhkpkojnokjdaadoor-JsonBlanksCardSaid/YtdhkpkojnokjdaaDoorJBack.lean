/-
  JsonBack: the walk.
-/
import Derived.Test.YtdhkpkojnokjdaaDoorGSm
namespace Go.Proofs.YtdhkpkojnokjdaaDoor
open Go.RowKit Go.Maps Go.WideMaps Go.Shelf
set_option linter.unusedVariables false
set_option linter.unusedSimpArgs false

theorem BytesIn.onlyB {w w' : World} {v : Value} {l : List UInt8} (h : BytesIn w v l) (t : Only w w') : BytesIn w' v l := ⟨h.1, fun W t' => h.2 W (t.trans t')⟩
theorem slim_read {x : GV} (he : errG (twG ordN) x 0 = 0) (hl : (textG ordN x).length ≤ 65536) : Fine (toG (readG x)) ∧ Slim (toG (readG x)) ∧ errG (twG ordN) (toG (readG x)) 0 = 0 ∧ textG ordN (toG (readG x)) = textG ordN x := by
  have hp := parse_text he
  have hw := parseE_well hl hp
  exact ⟨Well.fine _ hw, Well.slim _ hw, (parseE_fine hp).1, tx_read _ x 0 (Nat.le_refl _) he⟩

set_option maxRecDepth 100000 in
set_option maxHeartbeats 3200000 in
/-- where nothing is asked -/
theorem back_large {x : GV} {b : List UInt8} {v bv : Value} {w : World} (hx : GIn w x v) (hB : Broad x) (hb : BytesIn w bv b) (hT : Tb w) (h : 200 < weightG x ∨ 4000 < b.length) :
    Calls Tryd.prog 3 #[v, bv] w fun e w' => e = .returned (.bool true) ∧ Only w w' := by
  have hx2 := hx
  obtain ⟨k, t, l, ns⟩ := x
  unfold GIn at hx2
  obtain ⟨L, N, rfl, -, -⟩ := hx2
  obtain ⟨x, hxe⟩ : ∃ x, x = GV.mk k t l ns := ⟨_, rfl⟩
  rw [← hxe] at hx hB h
  obtain ⟨⟨sp, cap, rfl⟩, -⟩ := hb
  have ha := (Only.refl w).alloc (.cells #[.int .i64 k, txt t, L, N] 25)
  have O := Lib.hid (Own4.new w (.int .i64 k) (txt t) L N 25)
  obtain ⟨⟨x0, x1, x2, x3⟩, -⟩ := O.out.all
  have HA := Lib.hid ha
  have HX := Lib.hid hx
  have HT := Lib.hid hT
  have FI := Lib.hid (fun W (h : Tb W) => first7_any h)
  have SM := Lib.hid (fun (W : World) (v : Value) (hv : GIn W x v) => small_any _ x v W 200 (Nat.le_refl _) hv hB (by decide) (by decide))
  have HH := Lib.hid h
  clear hx hB hT h ha hxe
  go_enter Tryd.func3, Tryd.ntmps3
  go_wp2_with fail
  refine (FI.out _ (HT.out.only HA.out)).mono ?_
  rintro r w1 ⟨rfl, t1⟩
  have o1 := O.out.only t1
  have H1 := Lib.hid (HA.out.trans t1)
  clear x0 x1 x2 x3 t1
  obtain ⟨⟨x0, x1, x2, x3⟩, -⟩ := o1.all
  clear o1
  go_wp2_with fail
  refine (SM.out _ _ (GIn.only H1.out _ HX.out)).mono ?_
  rintro r w2 ⟨⟨n, rfl, hn0, hn1, hn2, hn3⟩, t2⟩
  have H2 := Lib.hid (H1.out.trans t2)
  have HN := Lib.hid hn2
  clear hn2 hn3 t2 hn1
  by_cases h1 : 200 < n
  · go_wp2_with fail
    go_ret
    exact ⟨rfl, H2.out⟩
  · have h2 : ¬ (200 < n) := h1
    have i1 : (4000 : Int) < (b.length : Int) := by
      have e := HN.out (by omega)
      rcases HH.out with q | q
      · omega
      · omega
    go_wp2_with fail
    go_ret
    exact ⟨rfl, H2.out⟩

set_option maxRecDepth 100000 in
set_option maxHeartbeats 12800000 in
theorem back_small {x : GV} {b : List UInt8} {v bv : Value} {w : World} (hx : GIn w x v) (hB : Broad x) (hb : BytesIn w bv b) (hT : Tb w) (hw : weightG x ≤ 200) (hbl : b.length ≤ 4000) :
    Calls Tryd.prog 3 #[v, bv] w fun e w' => e = .returned (.bool true) ∧ Only w w' := by
  have hx2 := hx
  obtain ⟨k, t, l, ns⟩ := x
  unfold GIn at hx2
  obtain ⟨L, N, rfl, -, -⟩ := hx2
  obtain ⟨x, hxe⟩ : ∃ x, x = GV.mk k t l ns := ⟨_, rfl⟩
  rw [← hxe] at hx hB hw
  have hbin := hb
  obtain ⟨⟨sp, cap, rfl⟩, -⟩ := hb
  have ha := (Only.refl w).alloc (.cells #[.int .i64 k, txt t, L, N] 25)
  have O := Lib.hid (Own4.new w (.int .i64 k) (txt t) L N 25)
  obtain ⟨⟨x0, x1, x2, x3⟩, -⟩ := O.out.all
  obtain ⟨hF, hS⟩ := fine_light x hw
  have hl := text_light x
  have hl2 : (textG ordN x).length ≤ 65536 := by omega
  have HA := Lib.hid ha
  have HX := Lib.hid hx
  have HT := Lib.hid hT
  have HBI := Lib.hid hbin
  have NM := Lib.hid numJ_any
  have FI := Lib.hid (fun W (h : Tb W) => first7_any h)
  have SM := Lib.hid (fun (W : World) (v : Value) (hv : GIn W x v) => small_any _ x v W 200 (Nat.le_refl _) hv hB (by decide) (by decide))
  have HW := Lib.hid hw
  have i1 : ¬ (4000 : Int) < (b.length : Int) := by omega
  obtain ⟨z, hz⟩ : ∃ z, z = printE ordN (twG ordN) x := ⟨_, rfl⟩
  have key : (Hid (errG (twG ordN) x 0 = 0) ∧ z = 0) ∨ z ≠ 0 := by
    by_cases h0 : z = 0
    · refine Or.inl ⟨Lib.hid ?_, h0⟩
      rw [hz] at h0
      unfold printE at h0
      split at h0
      · rename_i h1; exact absurd h0 h1
      · rename_i h1; omega
    · exact Or.inr h0
  have HZ := Lib.hid hz
  have HL2 := Lib.hid hl2
  have HFS := Lib.hid (And.intro hF hS)
  clear hx hB hT ha hxe hbin hF hS hl hl2 hw hz
  go_enter Tryd.func3, Tryd.ntmps3
  go_wp2_with fail
  refine (FI.out _ (HT.out.only HA.out)).mono ?_
  rintro r w1 ⟨rfl, t1⟩
  have o1 := O.out.only t1
  have H1 := Lib.hid (HA.out.trans t1)
  have O1 := Lib.hid o1
  clear x0 x1 x2 x3 t1
  obtain ⟨⟨x0, x1, x2, x3⟩, -⟩ := o1.all
  clear o1
  go_wp2_with fail
  refine (SM.out _ _ (GIn.only H1.out _ HX.out)).mono ?_
  rintro r w2 ⟨⟨n, rfl, hn0, hn1, hn2, hn3⟩, t2⟩
  have i2 : ¬ (200 < n) := by
    have := hn3 (by have := HW.out; omega)
    omega
  have H2 := Lib.hid (H1.out.trans t2)
  have o2 := O1.out.only t2
  have O2 := Lib.hid o2
  clear hn0 hn1 hn2 hn3 t2 x0 x1 x2 x3
  obtain ⟨⟨x0, x1, x2, x3⟩, -⟩ := o2.all
  clear o2
  rcases key with ⟨HE, hz⟩ | hz
  · -- it is printed, and read back
    obtain ⟨f1, f2, f3, f4⟩ := slim_read HE.out HL2.out
    have PR := Lib.hid (fun (W : World) (v : Value) (hv : GIn W x v) (h : Tb W) => print_ok hv HFS.out.1 h HE.out HL2.out)
    have PA := Lib.hid (fun (W : World) (v : Value) (hb : BytesIn W v (textG ordN x)) (h : Tb W) => parse_ok hb HL2.out h (parse_text HE.out))
    have PR2 := Lib.hid (fun (W : World) (v : Value) (hv : GIn W (toG (readG x)) v) (h : Tb W) => print_ok hv f1 h f3 (by rw [f4]; exact HL2.out))
    rw [f4] at PR2
    have SM2 := Lib.hid (fun (W : World) (a b : Value) (ha : GIn W (toG (readG x)) a) (hb : GIn W x b) => same_back HE.out ha hb f2 HFS.out.2)
    have SB := Lib.hid (fun (W : World) (a b : Value) (ha : BytesC W a (textG ordN x)) (hb : BytesC W b (textG ordN x)) => sameBytes_self ha hb (by have := HL2.out; omega))
    obtain ⟨T, hT⟩ : ∃ T, T = textG ordN x := ⟨_, rfl⟩
    rw [← hT] at PR PA PR2 SB
    obtain ⟨y, hy⟩ : ∃ y, y = toG (readG x) := ⟨_, rfl⟩
    rw [← hy] at PA PR2 SM2
    clear f1 f2 f3 f4 hT hy hz
    go_wp2_with fail
    refine (PR.out _ _ (GIn.only H2.out _ HX.out) (HT.out.only H2.out)).mono ?_
    rintro r w3 ⟨⟨sc, cc, rfl, hbc⟩, t3⟩
    have H3 := Lib.hid (H2.out.trans t3)
    have o3 := O2.out.only t3
    have O3 := Lib.hid o3
    have HBC := Lib.hid hbc
    clear x0 x1 x2 x3 t3 hbc
    obtain ⟨⟨x0, x1, x2, x3⟩, -⟩ := o3.all
    clear o3
    go_wp2_with (go_at_call 11; refine (NM.out _ _).mono ?_; rintro r w'' ⟨rfl, rfl⟩)
    refine (PA.out _ _ (BytesIn.own HBC.out) (HT.out.only H3.out)).mono ?_
    rintro r w4 ⟨⟨k4, t4, sp4, n4, c4, sq4, m4, d4, rfl, hg4⟩, t4'⟩
    have H4 := Lib.hid ((H3.out.trans t4').alloc (.cells #[.int .i64 k4, txt t4, .slice sp4 n4 c4, .slice sq4 m4 d4] 25))
    have O4 := Lib.hid (O3.out.only (t4'.alloc (.cells #[.int .i64 k4, txt t4, .slice sp4 n4 c4, .slice sq4 m4 d4] 25)))
    have HBC4 := Lib.hid (HBC.out.only (t4'.alloc (.cells #[.int .i64 k4, txt t4, .slice sp4 n4 c4, .slice sq4 m4 d4] 25)))
    have OU := Lib.hid (Own4.new w4 (.int .i64 k4) (txt t4) (.slice sp4 n4 c4) (.slice sq4 m4 d4) 25)
    have HU := Lib.hid (GIn.only ((Only.refl w4).alloc (.cells #[.int .i64 k4, txt t4, .slice sp4 n4 c4, .slice sq4 m4 d4] 25)) _ hg4)
    clear x0 x1 x2 x3 t4' hg4
    obtain ⟨⟨y0, y1, y2, y3⟩, -⟩ := OU.out.all
    go_wp2_with fail
    refine (PR2.out _ _ HU.out (HT.out.only H4.out)).mono ?_
    rintro r w5 ⟨⟨sd, cd, rfl, hbd⟩, t5⟩
    have H5 := Lib.hid (H4.out.trans t5)
    have HBD := Lib.hid hbd
    have HBC5 := Lib.hid (HBC4.out.only t5)
    have OU5 := Lib.hid (OU.out.only t5)
    have O5 := Lib.hid (O4.out.only t5)
    have HU5 := Lib.hid (GIn.only t5 _ HU.out)
    clear y0 y1 y2 y3 t5 hbd
    obtain ⟨⟨y0, y1, y2, y3⟩, -⟩ := OU5.out.all
    obtain ⟨⟨x0, x1, x2, x3⟩, -⟩ := O5.out.all
    go_wp2_with (first | (go_at_call 11; refine (NM.out _ _).mono ?_; rintro r w'' ⟨rfl, rfl⟩) | (go_at_call 13; refine (SM2.out _ _ _ HU5.out (GIn.only H5.out _ HX.out)).mono ?_; rintro r w6 ⟨rfl, t6⟩; have HBC6 := Lib.hid (HBC5.out.only t6); have HBD6 := Lib.hid (HBD.out.only t6); have H6 := Lib.hid (H5.out.trans t6)) | (go_at_call 14; refine (SB.out _ _ _ HBC6.out.c HBD6.out.c).mono ?_; rintro r w7 ⟨rfl, t7⟩; have H7 := Lib.hid (H6.out.trans t7); clear t6 t7))
    clear y0 y1 y2 y3 x0 x1 x2 x3 PR PA PR2 SM2 SB H2 H3 H4 H5 H6 O1 O2 O3 O4 O5 OU OU5 HU HU5 HBC HBC4 HBC5 HBC6 HBD HBD6
    have x0 := True.intro
    have x1 := True.intro
    have x2 := True.intro
    have x3 := True.intro
    rcases hpb : parseE b with ⟨yb, qb⟩ | ⟨a9, e9⟩
    · -- it is read: printed and read again, it stays
      have hyb := parseE_fine hpb
      have hyl : (tx yb).length ≤ 65536 := by omega
      have hwell := parseE_well (by omega) hpb
      obtain ⟨g1, g2, g3, g4⟩ := slim_read hyb.1 hyl
      have PB := Lib.hid (fun (W : World) (hb : BytesIn W (.slice sp b.length cap) b) (h : Tb W) => parse_ok hb (by omega) h hpb)
      have P1 := Lib.hid (fun (W : World) (v : Value) (hv : GIn W (toG yb) v) (h : Tb W) => print_ok hv (Well.fine _ hwell) h hyb.1 hyl)
      have P2 := Lib.hid (fun (W : World) (v : Value) (hb : BytesIn W v (tx yb)) (h : Tb W) => parse_ok hb hyl h (parse_text hyb.1))
      have P3 := Lib.hid (fun (W : World) (v : Value) (hv : GIn W (toG (readG (toG yb))) v) (h : Tb W) => print_ok hv g1 h g3 (by rw [g4]; exact hyl))
      rw [g4] at P3
      have S9 := Lib.hid (fun (W : World) (a c : Value) (ha : GIn W (toG yb) a) (hc : GIn W (toG (readG (toG yb))) c) => same_forth hyb.1 ha hc (Well.slim _ hwell) g2)
      have B9 := Lib.hid (fun (W : World) (a c : Value) (ha : BytesC W a (tx yb)) (hc : BytesC W c (tx yb)) => sameBytes_self ha hc (by omega))
      obtain ⟨T9, hT9⟩ : ∃ T9, T9 = tx yb := ⟨_, rfl⟩
      have hT9' : textG ordN (toG yb) = T9 := hT9.symm
      simp only [← hT9, hT9'] at P1 P2 P3 B9
      obtain ⟨x9, hx9⟩ : ∃ x9, x9 = toG (readG (toG yb)) := ⟨_, rfl⟩
      obtain ⟨xb, hxb⟩ : ∃ xb, xb = toG yb := ⟨_, rfl⟩
      rw [← hx9] at P2 P3 S9
      rw [← hxb] at PB P1 S9
      clear hyb hyl hwell g1 g2 g3 g4 hT9 hT9' hx9 hxb hpb
      refine (PB.out _ (HBI.out.onlyB H7.out) (HT.out.only H7.out)).mono ?_
      rintro r v4 ⟨⟨k14, t14, sp14, n14, c14, sq14, m14, d14, rfl, hg14⟩, t14'⟩
      have J4 := Lib.hid ((H7.out.trans t14').alloc (.cells #[.int .i64 k14, txt t14, .slice sp14 n14 c14, .slice sq14 m14 d14] 25))
      have Q4 := Lib.hid (Own4.new v4 (.int .i64 k14) (txt t14) (.slice sp14 n14 c14) (.slice sq14 m14 d14) 25)
      have G4 := Lib.hid (GIn.only ((Only.refl v4).alloc (.cells #[.int .i64 k14, txt t14, .slice sp14 n14 c14, .slice sq14 m14 d14] 25)) _ hg14)
      clear x0 x1 x2 x3 t14' hg14
      obtain ⟨⟨x0, x1, x2, x3⟩, -⟩ := Q4.out.all
      go_wp2_with (go_at_call 11; refine (NM.out _ _).mono ?_; rintro r w'' ⟨rfl, rfl⟩)
      refine (P1.out _ _ G4.out (HT.out.only J4.out)).mono ?_
      rintro r v5 ⟨⟨sd5, cd5, rfl, hbd5⟩, t15⟩
      have J5 := Lib.hid (J4.out.trans t15)
      have Q5 := Lib.hid (Q4.out.only t15)
      have G5 := Lib.hid (GIn.only t15 _ G4.out)
      have B5 := Lib.hid hbd5
      clear x0 x1 x2 x3 t15 hbd5
      go_wp2_with fail
      refine (P2.out _ _ (BytesIn.own B5.out) (HT.out.only J5.out)).mono ?_
      rintro r v6 ⟨⟨k16, t16, sp16, n16, c16, sq16, m16, d16, rfl, hg16⟩, t16'⟩
      have J6 := Lib.hid ((J5.out.trans t16').alloc (.cells #[.int .i64 k16, txt t16, .slice sp16 n16 c16, .slice sq16 m16 d16] 25))
      have Q6 := Lib.hid (Q5.out.only (t16'.alloc (.cells #[.int .i64 k16, txt t16, .slice sp16 n16 c16, .slice sq16 m16 d16] 25)))
      have G6 := Lib.hid (GIn.only (t16'.alloc (.cells #[.int .i64 k16, txt t16, .slice sp16 n16 c16, .slice sq16 m16 d16] 25)) _ G5.out)
      have B6 := Lib.hid (B5.out.only (t16'.alloc (.cells #[.int .i64 k16, txt t16, .slice sp16 n16 c16, .slice sq16 m16 d16] 25)))
      have R6 := Lib.hid (Own4.new v6 (.int .i64 k16) (txt t16) (.slice sp16 n16 c16) (.slice sq16 m16 d16) 25)
      have L6 := Lib.hid (GIn.only ((Only.refl v6).alloc (.cells #[.int .i64 k16, txt t16, .slice sp16 n16 c16, .slice sq16 m16 d16] 25)) _ hg16)
      clear t16' hg16
      obtain ⟨⟨x0, x1, x2, x3⟩, -⟩ := R6.out.all
      go_wp2_with fail
      refine (P3.out _ _ L6.out (HT.out.only J6.out)).mono ?_
      rintro r v7 ⟨⟨sd7, cd7, rfl, hbd7⟩, t17⟩
      have J7 := Lib.hid (J6.out.trans t17)
      have Q7 := Lib.hid (Q6.out.only t17)
      have R7 := Lib.hid (R6.out.only t17)
      have G7 := Lib.hid (GIn.only t17 _ G6.out)
      have L7 := Lib.hid (GIn.only t17 _ L6.out)
      have B7 := Lib.hid (B6.out.only t17)
      have D7 := Lib.hid hbd7
      clear x0 x1 x2 x3 t17 hbd7
      obtain ⟨⟨x0, x1, x2, x3⟩, -⟩ := Q7.out.all
      obtain ⟨⟨z0, z1, z2, z3⟩, -⟩ := R7.out.all
      go_wp2_with (first | (go_at_call 11; refine (NM.out _ _).mono ?_; rintro r w'' ⟨rfl, rfl⟩) | (go_at_call 13; refine (S9.out _ _ _ G7.out L7.out).mono ?_; rintro r v8 ⟨rfl, t8⟩; have B8 := Lib.hid (B7.out.only t8); have D8 := Lib.hid (D7.out.only t8); have J8 := Lib.hid (J7.out.trans t8)) | (go_at_call 14; refine (B9.out _ _ _ B8.out.c D8.out.c).mono ?_; rintro r v9 ⟨rfl, t9⟩; have J9 := Lib.hid (J8.out.trans t9); clear t8 t9))
      go_ret
      exact ⟨rfl, J9.out⟩
    · -- it is refused
      have he9 : ((e9 : Int) != 0) = true := by have := parseE_err hpb; rw [bne_iff_ne]; omega
      have PB := Lib.hid (fun (W : World) (hb : BytesIn W (.slice sp b.length cap) b) (h : Tb W) => parse_bad hb (by omega) h hpb)
      have SZ := Lib.hid same_zero
      clear hpb
      refine (PB.out _ (HBI.out.onlyB H7.out) (HT.out.only H7.out)).mono ?_
      rintro r v4 ⟨⟨a8, rfl⟩, t14'⟩
      have J4 := Lib.hid ((H7.out.trans t14').alloc (.cells #[.int .i64 0, .string ⟨#[]⟩, .slice none 0 0, .slice none 0 0] 25))
      have Q4 := Lib.hid (Own4.new v4 (.int .i64 0) (.string ⟨#[]⟩) (.slice none 0 0) (.slice none 0 0) 25)
      clear x0 x1 x2 x3 t14'
      obtain ⟨⟨x0, x1, x2, x3⟩, -⟩ := Q4.out.all
      go_wp2_with (go_at_call 11; refine (NM.out _ _).mono ?_; rintro r w'' ⟨rfl, rfl⟩)
      refine (SZ.out _).mono ?_
      rintro r v5 ⟨rfl, t15⟩
      have J5 := Lib.hid (J4.out.trans t15)
      clear t15
      go_wp2_with fail
      go_ret
      exact ⟨rfl, J5.out⟩
  · -- it is refused
    have hzt : (z == 0) = false := by rw [beq_eq_false_iff_ne]; exact hz
    have PR := Lib.hid (fun (W : World) (v : Value) (hv : GIn W x v) (h : Tb W) => print_bad hv HFS.out.1 h (by rw [← HZ.out]; exact hz) HL2.out)
    rw [← HZ.out] at PR
    clear hz
    go_wp2_with fail
    refine (PR.out _ _ (GIn.only H2.out _ HX.out) (HT.out.only H2.out)).mono ?_
    rintro r w3 ⟨rfl, t3⟩
    have H3 := Lib.hid (H2.out.trans t3)
    clear t3
    go_wp2_with (go_at_call 11; refine (NM.out _ _).mono ?_; rintro r w'' ⟨rfl, rfl⟩)
    rcases hpb : parseE b with ⟨yb, qb⟩ | ⟨a9, e9⟩
    · -- it is read: printed and read again, it stays
      have hyb := parseE_fine hpb
      have hyl : (tx yb).length ≤ 65536 := by omega
      have hwell := parseE_well (by omega) hpb
      obtain ⟨g1, g2, g3, g4⟩ := slim_read hyb.1 hyl
      have PB := Lib.hid (fun (W : World) (hb : BytesIn W (.slice sp b.length cap) b) (h : Tb W) => parse_ok hb (by omega) h hpb)
      have P1 := Lib.hid (fun (W : World) (v : Value) (hv : GIn W (toG yb) v) (h : Tb W) => print_ok hv (Well.fine _ hwell) h hyb.1 hyl)
      have P2 := Lib.hid (fun (W : World) (v : Value) (hb : BytesIn W v (tx yb)) (h : Tb W) => parse_ok hb hyl h (parse_text hyb.1))
      have P3 := Lib.hid (fun (W : World) (v : Value) (hv : GIn W (toG (readG (toG yb))) v) (h : Tb W) => print_ok hv g1 h g3 (by rw [g4]; exact hyl))
      rw [g4] at P3
      have S9 := Lib.hid (fun (W : World) (a c : Value) (ha : GIn W (toG yb) a) (hc : GIn W (toG (readG (toG yb))) c) => same_forth hyb.1 ha hc (Well.slim _ hwell) g2)
      have B9 := Lib.hid (fun (W : World) (a c : Value) (ha : BytesC W a (tx yb)) (hc : BytesC W c (tx yb)) => sameBytes_self ha hc (by omega))
      obtain ⟨T9, hT9⟩ : ∃ T9, T9 = tx yb := ⟨_, rfl⟩
      have hT9' : textG ordN (toG yb) = T9 := hT9.symm
      simp only [← hT9, hT9'] at P1 P2 P3 B9
      obtain ⟨x9, hx9⟩ : ∃ x9, x9 = toG (readG (toG yb)) := ⟨_, rfl⟩
      obtain ⟨xb, hxb⟩ : ∃ xb, xb = toG yb := ⟨_, rfl⟩
      rw [← hx9] at P2 P3 S9
      rw [← hxb] at PB P1 S9
      clear hyb hyl hwell g1 g2 g3 g4 hT9 hT9' hx9 hxb hpb
      refine (PB.out _ (HBI.out.onlyB H3.out) (HT.out.only H3.out)).mono ?_
      rintro r v4 ⟨⟨k14, t14, sp14, n14, c14, sq14, m14, d14, rfl, hg14⟩, t14'⟩
      have J4 := Lib.hid ((H3.out.trans t14').alloc (.cells #[.int .i64 k14, txt t14, .slice sp14 n14 c14, .slice sq14 m14 d14] 25))
      have Q4 := Lib.hid (Own4.new v4 (.int .i64 k14) (txt t14) (.slice sp14 n14 c14) (.slice sq14 m14 d14) 25)
      have G4 := Lib.hid (GIn.only ((Only.refl v4).alloc (.cells #[.int .i64 k14, txt t14, .slice sp14 n14 c14, .slice sq14 m14 d14] 25)) _ hg14)
      clear x0 x1 x2 x3 t14' hg14
      obtain ⟨⟨x0, x1, x2, x3⟩, -⟩ := Q4.out.all
      go_wp2_with (go_at_call 11; refine (NM.out _ _).mono ?_; rintro r w'' ⟨rfl, rfl⟩)
      refine (P1.out _ _ G4.out (HT.out.only J4.out)).mono ?_
      rintro r v5 ⟨⟨sd5, cd5, rfl, hbd5⟩, t15⟩
      have J5 := Lib.hid (J4.out.trans t15)
      have Q5 := Lib.hid (Q4.out.only t15)
      have G5 := Lib.hid (GIn.only t15 _ G4.out)
      have B5 := Lib.hid hbd5
      clear x0 x1 x2 x3 t15 hbd5
      go_wp2_with fail
      refine (P2.out _ _ (BytesIn.own B5.out) (HT.out.only J5.out)).mono ?_
      rintro r v6 ⟨⟨k16, t16, sp16, n16, c16, sq16, m16, d16, rfl, hg16⟩, t16'⟩
      have J6 := Lib.hid ((J5.out.trans t16').alloc (.cells #[.int .i64 k16, txt t16, .slice sp16 n16 c16, .slice sq16 m16 d16] 25))
      have Q6 := Lib.hid (Q5.out.only (t16'.alloc (.cells #[.int .i64 k16, txt t16, .slice sp16 n16 c16, .slice sq16 m16 d16] 25)))
      have G6 := Lib.hid (GIn.only (t16'.alloc (.cells #[.int .i64 k16, txt t16, .slice sp16 n16 c16, .slice sq16 m16 d16] 25)) _ G5.out)
      have B6 := Lib.hid (B5.out.only (t16'.alloc (.cells #[.int .i64 k16, txt t16, .slice sp16 n16 c16, .slice sq16 m16 d16] 25)))
      have R6 := Lib.hid (Own4.new v6 (.int .i64 k16) (txt t16) (.slice sp16 n16 c16) (.slice sq16 m16 d16) 25)
      have L6 := Lib.hid (GIn.only ((Only.refl v6).alloc (.cells #[.int .i64 k16, txt t16, .slice sp16 n16 c16, .slice sq16 m16 d16] 25)) _ hg16)
      clear t16' hg16
      obtain ⟨⟨x0, x1, x2, x3⟩, -⟩ := R6.out.all
      go_wp2_with fail
      refine (P3.out _ _ L6.out (HT.out.only J6.out)).mono ?_
      rintro r v7 ⟨⟨sd7, cd7, rfl, hbd7⟩, t17⟩
      have J7 := Lib.hid (J6.out.trans t17)
      have Q7 := Lib.hid (Q6.out.only t17)
      have R7 := Lib.hid (R6.out.only t17)
      have G7 := Lib.hid (GIn.only t17 _ G6.out)
      have L7 := Lib.hid (GIn.only t17 _ L6.out)
      have B7 := Lib.hid (B6.out.only t17)
      have D7 := Lib.hid hbd7
      clear x0 x1 x2 x3 t17 hbd7
      obtain ⟨⟨x0, x1, x2, x3⟩, -⟩ := Q7.out.all
      obtain ⟨⟨z0, z1, z2, z3⟩, -⟩ := R7.out.all
      go_wp2_with (first | (go_at_call 11; refine (NM.out _ _).mono ?_; rintro r w'' ⟨rfl, rfl⟩) | (go_at_call 13; refine (S9.out _ _ _ G7.out L7.out).mono ?_; rintro r v8 ⟨rfl, t8⟩; have B8 := Lib.hid (B7.out.only t8); have D8 := Lib.hid (D7.out.only t8); have J8 := Lib.hid (J7.out.trans t8)) | (go_at_call 14; refine (B9.out _ _ _ B8.out.c D8.out.c).mono ?_; rintro r v9 ⟨rfl, t9⟩; have J9 := Lib.hid (J8.out.trans t9); clear t8 t9))
      go_ret
      exact ⟨rfl, J9.out⟩
    · -- it is refused
      have he9 : ((e9 : Int) != 0) = true := by have := parseE_err hpb; rw [bne_iff_ne]; omega
      have PB := Lib.hid (fun (W : World) (hb : BytesIn W (.slice sp b.length cap) b) (h : Tb W) => parse_bad hb (by omega) h hpb)
      have SZ := Lib.hid same_zero
      clear hpb
      refine (PB.out _ (HBI.out.onlyB H3.out) (HT.out.only H3.out)).mono ?_
      rintro r v4 ⟨⟨a8, rfl⟩, t14'⟩
      have J4 := Lib.hid ((H3.out.trans t14').alloc (.cells #[.int .i64 0, .string ⟨#[]⟩, .slice none 0 0, .slice none 0 0] 25))
      have Q4 := Lib.hid (Own4.new v4 (.int .i64 0) (.string ⟨#[]⟩) (.slice none 0 0) (.slice none 0 0) 25)
      clear x0 x1 x2 x3 t14'
      obtain ⟨⟨x0, x1, x2, x3⟩, -⟩ := Q4.out.all
      go_wp2_with (go_at_call 11; refine (NM.out _ _).mono ?_; rintro r w'' ⟨rfl, rfl⟩)
      refine (SZ.out _).mono ?_
      rintro r v5 ⟨rfl, t15⟩
      have J5 := Lib.hid (J4.out.trans t15)
      clear t15
      go_wp2_with fail
      go_ret
      exact ⟨rfl, J5.out⟩

theorem jsonBack_any {x : GV} {b : List UInt8} {v bv : Value} {w : World} (hx : GIn w x v) (hB : Broad x) (hb : BytesIn w bv b) (hT : Tb w) : Calls Tryd.prog 3 #[v, bv] w fun e w' => e = .returned (.bool true) ∧ Only w w' := by
  by_cases h1 : weightG x ≤ 200
  · by_cases h2 : b.length ≤ 4000
    · exact back_small hx hB hb hT h1 h2
    · exact back_large hx hB hb hT (Or.inr (by omega))
  · exact back_large hx hB hb hT (Or.inl (by omega))
end Go.Proofs.YtdhkpkojnokjdaaDoor
