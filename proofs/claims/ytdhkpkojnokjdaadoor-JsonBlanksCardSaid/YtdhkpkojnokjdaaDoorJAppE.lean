/-
  An array's text appended.
-/
import Derived.Test.YtdhkpkojnokjdaaDoorJText
namespace Go.Proofs.YtdhkpkojnokjdaaDoor
open Go.RowKit Go.Shelf
set_option linter.unusedVariables false
set_option linter.unusedSimpArgs false

def arrG (ord : List (List UInt8) → List Nat) (l : List GV) : List UInt8 := 91 :: (joinB (textL ord l) ++ [93])

set_option maxRecDepth 100000 in
set_option maxHeartbeats 6400000 in
theorem appendElements_step {ord : List (List UInt8) → List Nat} {k : Int} {t : List UInt8} {l : List GV} {sp : Option Addr} {cap : Nat} {N bv : Value} {b : List UInt8} {w0 w : World} (hl : l.length ≤ 1000000) (hE : ElemsIn w0 (.slice sp l.length cap) l) (h0 : Only w0 w)
    (hb : BytesO w w0.heap.size bv b) (hn : b.length + (arrG ord l).length ≤ 90000000) (ih : ∀ i (h : i < l.length), ValApp ord l[i]) :
    Calls Tryd.prog 35 #[bv, .agg #[.int .i64 k, txt t, .slice sp l.length cap, N]] w (AppF w w0.heap.size bv b (arrG ord l)) := by
  obtain ⟨sp', cap', e, hcells⟩ := hE
  simp only [Value.slice.injEq] at e
  obtain ⟨rfl, -, rfl⟩ := e
  have HC := Lib.hid hcells
  have IH := Lib.hid ih
  have H0 := Lib.hid h0
  have hsz : w0.heap.size ≤ w.heap.size := h0.size
  have hob := Own4.new w (.int .i64 k) (txt t) (.slice sp l.length cap) N 25
  have HB0 := Lib.hid hb
  have hgb : Grew w bv (w.alloc (.cells #[.int .i64 k, txt t, .slice sp l.length cap, N] 25)) bv := (Grew.refl w bv).alloc _
  have hbB : bv.ownBlock ≠ some w.heap.size := fun e => by have := hb.lt e; omega
  have HBB := Lib.hid hbB
  have HO := Lib.hid (hob.only ((Only.refl _).alloc (.cells #[.int .u8 91] 5)))
  have HB := Lib.hid ((hb.only ((Only.refl w).alloc (.cells #[.int .i64 k, txt t, .slice sp l.length cap, N] 25))).only ((Only.refl _).alloc (.cells #[.int .u8 91] 5)))
  have hsw : (w.alloc (.cells #[.int .i64 k, txt t, .slice sp l.length cap, N] 25)).heap.size = w.heap.size + 1 := by simp
  have hc1 := one_byte (w.alloc (.cells #[.int .i64 k, txt t, .slice sp l.length cap, N] 25)) (e := 91) (c := 91) rfl
  rw [hsw] at hc1
  have HC1 := Lib.hid hc1
  have HG := Lib.hid (hgb.alloc (.cells #[.int .u8 91] 5))
  obtain ⟨ts, hts⟩ : ∃ ts, ts = textL ord l := ⟨_, rfl⟩
  have htl : ts.length = l.length := by rw [hts, textL_map, List.length_map]
  have hx : arrG ord l = 91 :: (joinB ts ++ [93]) := by rw [hts]; rfl
  have HX := Lib.hid hx
  have HT := Lib.hid hts
  have hjl := joinB_len ts
  have HJ := Lib.hid hjl
  rw [hx] at hn
  simp only [List.length_cons, List.length_append, List.length_nil] at hn
  have il : (l.length : Int) ≤ 1000000 := by omega
  rw [hx]
  clear hcells ih h0 hob hgb hb hts hx hjl hc1 hsw hbB
  go_enter Tryd.func35, Tryd.ntmps35
  go_wp2_with (at_builtin; refine append_byteG rfl (.tmp 7) (.tmp 8) rfl (base := w0.heap.size) [91] rfl rfl HB.out HC1.out (by simp; omega) (by simp; omega) ?_)
  intro v1 w1 hb1 hg1
  have ho1 := HO.out.grew hg1 HBB.out
  obtain ⟨⟨a0, a1, a2, a3⟩, -⟩ := ho1.all
  have HB1 := Lib.hid hb1
  have HG1 := Lib.hid (HG.out.trans hg1)
  have hs1 := HG1.out.size
  clear hb1 hg1 HB HC1 HG HO ho1
  go_wp2_with fail
  go_loopg [0, 13] l.length (fun g bq v wr => ∃ j R, v = .int .i64 (j : Nat) ∧ j ≤ l.length ∧ l.length - j ≤ g ∧ BytesO wr w0.heap.size bq R ∧ Fit b (91 :: joinB (ts.take j)) R ∧ Grew w bv wr bq)
  case atStart => exact ⟨0, b ++ [91], rfl, Nat.zero_le _, Nat.le_refl _, HB1.out, by simpa [joinB] using Fit.exact b [91], HG1.out⟩
  case round =>
    obtain ⟨j, R, rfl, hj, hg, hbr, hfr, hgr⟩ := hrel
    have o9 : Only w0 wr := Below.trans H0.out (hgr.below HB0.out hsz)
    have HBR := Lib.hid hbr
    have HFR := Lib.hid hfr
    have HGR := Lib.hid hgr
    have hRl := hfr.2.2
    have hsr := hgr.size
    by_cases hlt : j < l.length
    · have ij : (j : Int) < (l.length : Int) := by omega
      rcases HC.out with h0 | ⟨g, off, hsp, hcell⟩
      · rw [h0] at hlt; simp at hlt
      · subst hsp
        obtain ⟨c0, c1, c2, c3, ⟨q0, q1, q2, q3⟩, hgx⟩ := GCells.at_ (GCells.only o9 l hcell) j hlt
        obtain ⟨d0, d1, d2, d3, ⟨p0, p1, p2, p3⟩, hgx0⟩ := GCells.at_ hcell j hlt
        have ec0 := Option.some.inj ((cell_only p0 o9).symm.trans q0)
        have ec1 := Option.some.inj ((cell_only p1 o9).symm.trans q1)
        have ec2 := Option.some.inj ((cell_only p2 o9).symm.trans q2)
        have ec3 := Option.some.inj ((cell_only p3 o9).symm.trans q3)
        subst ec0 ec1 ec2 ec3
        obtain ⟨k9, t9, sp9, n9, m9, sq9, u9, v9, rfl, rfl, rfl, rfl⟩ := GIn.shape hgx
        have e1 : (⟨g, off, none⟩ : Addr).add (j * 4) = ⟨g, off + j * 4, none⟩ := by unfold Addr.add; split <;> simp_all
        have hjt : j < ts.length := by omega
        have htj : ts[j]'hjt = textG ord (l[j]'hlt) := by
          have := HT.out
          simp only [textL_map] at this
          subst this
          simp
        have hnx := joinB_take hjt
        have hjn := HJ.out (j + 1)
        rw [htj] at hnx
        have tS := Lib.hid ((Only.refl wr).alloc (.cells #[.int .i64 k9, txt t9, .slice sp9 n9 m9, .slice sq9 u9 v9] 25))
        have V := IH.out j hlt
        obtain ⟨y, hy⟩ : ∃ y, y = textG ord (l[j]'hlt) := ⟨_, rfl⟩
        have V2 : ∀ (w' : World) (bq' : Value) (R' : List UInt8), Only w0 w' → BytesO w' w0.heap.size bq' R' → R'.length + y.length ≤ 90000000 → Calls Tryd.prog 22 #[bq', .agg #[.int .i64 k9, txt t9, .slice sp9 n9 m9, .slice sq9 u9 v9]] w' (AppF w' w0.heap.size bq' R' y) :=
          fun w' bq' R' a1 a2 a3 => by rw [hy] at a3 ⊢; exact V w0 w' _ bq' R' hgx0 a1 a2 a3
        rw [← hy] at hnx
        have HV := Lib.hid V2
        have HNX := Lib.hid hnx
        have O9 := Lib.hid o9
        by_cases hj0 : j = 0
        · subst hj0
          simp only [Nat.zero_mul, Nat.add_zero] at q0 q1 q2 q3 e1
          rw [if_pos rfl] at hnx
          rw [hnx] at hjn
          have hRy : R.length + y.length ≤ 90000000 := by simp [joinB] at hRl; omega
          have HB3 := Lib.hid (HBR.out.only tS.out)
          clear hcell hgx hgx0 htj hnx hjn V V2 hy hbr hfr hgr p0 p1 p2 p3 o9
          go_wp2_with (go_at_call 22; refine (HV.out _ _ _ (O9.out.trans tS.out) HB3.out hRy).mono ?_; rintro r w3 ⟨v3, R3, rfl, hb3, hf3, hg3⟩)
          have HB4 := Lib.hid hb3
          have HF4 := Lib.hid (HFR.out.trans hf3)
          have HG4 := Lib.hid ((HGR.out.only tS.out).trans hg3)
          clear hb3 hf3 hg3
          go_roundg (l.length - (0 + 1))
          case measure => omega
          case rel => exact ⟨0 + 1, R3, by go_num, by omega, Nat.le_refl _, HB4.out, by rw [HNX.out, if_pos trivial]; simpa [joinB] using HF4.out, HG4.out⟩
        · have ij0 : (0 : Int) < (j : Int) := by omega
          rw [if_neg hj0] at hnx
          rw [hnx] at hjn
          simp only [List.length_append, List.length_cons] at hjn hRl
          have hsw : (wr.alloc (.cells #[.int .i64 k9, txt t9, .slice sp9 n9 m9, .slice sq9 u9 v9] 25)).heap.size = wr.heap.size + 1 := by simp
          have hc1 := one_byte (wr.alloc (.cells #[.int .i64 k9, txt t9, .slice sp9 n9 m9, .slice sq9 u9 v9] 25)) (e := 44) (c := 44) rfl
          rw [hsw] at hc1
          have HC2 := Lib.hid hc1
          have t2 := tS.out.alloc (.cells #[.int .u8 44] 5)
          have HB3 := Lib.hid (hbr.only t2)
          have HT2 := Lib.hid t2
          have HO3 := Lib.hid ((Own4.new wr (.int .i64 k9) (txt t9) (.slice sp9 n9 m9) (.slice sq9 u9 v9) 25).only ((Only.refl _).alloc (.cells #[.int .u8 44] 5)))
          have HNB := Lib.hid (show u0.ownBlock ≠ some wr.heap.size from fun hh => by have := hbr.lt hh; omega)
          clear hcell hgx hgx0 htj hnx V V2 hy hbr hfr hgr p0 p1 p2 p3 o9 hc1 t2 hsw
          go_wp2_with (at_builtin; refine append_byteG rfl (.tmp 20) (.tmp 21) rfl (base := w0.heap.size) [44] rfl rfl HB3.out HC2.out (by simp; omega) (by simp; omega) ?_)
          intro v2 w2 hb2 hg2
          have ho2 := HO3.out.grew hg2 HNB.out
          obtain ⟨⟨b0, b1, b2, b3⟩, -⟩ := ho2.all
          have hO2 : Only w0 w2 := Below.trans (O9.out.trans HT2.out) (hg2.below HB3.out (by have := O9.out.size; simp; omega))
          have HB4 := Lib.hid hb2
          have HG4 := Lib.hid ((HGR.out.only HT2.out).trans hg2)
          have HO2 := Lib.hid hO2
          have hRy : (R ++ [44]).length + y.length ≤ 90000000 := by simp; omega
          clear hb2 hg2 ho2 hO2 HB3 HC2 HO3
          go_wp2_with (go_at_call 22; refine (HV.out _ _ _ HO2.out HB4.out hRy).mono ?_; rintro r w3 ⟨v3, R3, rfl, hb3, hf3, hg3⟩)
          have HB5 := Lib.hid hb3
          have HF5 := Lib.hid ((HFR.out.trans (Fit.exact R [44])).trans hf3)
          have HG5 := Lib.hid (HG4.out.trans hg3)
          clear hb3 hf3 hg3
          go_roundg (l.length - (j + 1))
          case measure => omega
          case rel => exact ⟨j + 1, R3, by go_num, by omega, Nat.le_refl _, HB5.out, by rw [HNX.out, if_neg hj0]; simpa using HF5.out, HG5.out⟩
    · obtain rfl : j = l.length := by omega
      have ij : ¬ (l.length : Int) < (l.length : Int) := by omega
      rw [List.take_of_length_le (by omega)] at hfr hRl
      simp only [List.length_cons] at hRl
      have HB3 := Lib.hid (hbr.only ((Only.refl wr).alloc (.cells #[.int .u8 93] 5)))
      have HC2 := Lib.hid (one_byte wr (e := 93) (c := 93) rfl)
      have HF3 := Lib.hid hfr
      have hs3 := o9.size
      clear hbr hfr hgr o9
      go_wp2_with (at_builtin; refine append_byteG rfl (.tmp 27) (.tmp 28) rfl (base := w0.heap.size) [93] rfl rfl HB3.out HC2.out (by simp; omega) (by simp; omega) ?_)
      intro v2 w2 hb2 hg2
      have HB4 := Lib.hid hb2
      have HG4 := Lib.hid ((HGR.out.alloc (.cells #[.int .u8 93] 5)).trans hg2)
      clear hb2 hg2 HB3 HC2
      go_wp2_with fail
      go_ret
      exact ⟨_, _, rfl, HB4.out, by simpa using HF3.out.trans (Fit.exact R [93]), HG4.out⟩
end Go.Proofs.YtdhkpkojnokjdaaDoor
