/-
  An object's text appended.
-/
import Derived.Test.YtdhkpkojnokjdaaDoorJAppE
namespace Go.Proofs.YtdhkpkojnokjdaaDoor
open Go.RowKit Go.Shelf
set_option linter.unusedVariables false
set_option linter.unusedSimpArgs false

/-- places that stand in memory -/
def IntsIn (w : World) (base : Nat) (V : Value) (os : List Nat) : Prop := ∃ sp cap, V = .slice sp os.length cap ∧ (os = [] ∨ ∃ g, sp = some ⟨g, 0, none⟩ ∧ base ≤ g ∧ ∀ i (h : i < os.length), w.cell? ⟨g, i, none⟩ = some (.int .i64 (os[i] : Int)))
/-- what is asked of rising -/
def RisingIs (ord : List (List UInt8) → List Nat) : Prop := ∀ (ns : List (List UInt8)) (N : Value) (w : World), NamesIn w N ns → ns.length ≤ 1000 → (∀ s ∈ ns, s.length ≤ 1000000) →
  Calls Tryd.prog 45 #[N] w fun e w' => (∃ V, e = .returned V ∧ IntsIn w' w.heap.size V (ord ns)) ∧ Only w w'
/-- what is asked of the order: as many places as names, each of a name -/
def OrdIs (ord : List (List UInt8) → List Nat) : Prop := ∀ ns, (ord ns).length = ns.length ∧ ∀ i ∈ ord ns, i < ns.length

def memG (ord : List (List UInt8) → List Nat) (l : List GV) (ns : List (List UInt8)) (i : Nat) : List UInt8 := quoteB (ns.getD i []) ++ 58 :: (textL ord l).getD i []
def objG (ord : List (List UInt8) → List Nat) (l : List GV) (ns : List (List UInt8)) : List UInt8 := 123 :: (joinB ((ord ns).map (memG ord l ns)) ++ [125])

set_option maxRecDepth 100000 in
set_option maxHeartbeats 12800000 in
theorem appendMembers_step {ord : List (List UInt8) → List Nat} (hR : RisingIs ord) (hO : OrdIs ord) {k : Int} {t : List UInt8} {l : List GV} {ns : List (List UInt8)} {sp : Option Addr} {cap : Nat} {N bv : Value} {b : List UInt8} {w0 w : World} (hl : l.length ≤ 1000) (hln : ns.length = l.length) (hs : ∀ s ∈ ns, s.length ≤ 1000000)
    (hE : ElemsIn w0 (.slice sp l.length cap) l) (hN : NamesIn w0 N ns) (h0 : Only w0 w)
    (hb : BytesO w w0.heap.size bv b) (hn : b.length + (objG ord l ns).length ≤ 90000000) (ih : ∀ i (h : i < l.length), ValApp ord l[i]) (is : ∀ nm, nm.length ≤ 1000000 → ValApp ord (.mk 4 nm [] [])) :
    Calls Tryd.prog 36 #[bv, .agg #[.int .i64 k, txt t, .slice sp l.length cap, N]] w (AppF w w0.heap.size bv b (objG ord l ns)) := by
  obtain ⟨sp', cap', e, hcells⟩ := hE
  simp only [Value.slice.injEq] at e
  obtain ⟨rfl, -, rfl⟩ := e
  have HNA := Lib.hid hN
  obtain ⟨sn, cn, rfl, -, hnames⟩ := hN
  have HC := Lib.hid hcells
  have HN := Lib.hid hnames
  have IH := Lib.hid ih
  have IS := Lib.hid is
  have H0 := Lib.hid h0
  have HS := Lib.hid hs
  have hsz : w0.heap.size ≤ w.heap.size := h0.size
  have hob := Own4.new w (.int .i64 k) (txt t) (.slice sp l.length cap) (.slice sn ns.length cn) 25
  have HB0 := Lib.hid hb
  have hgb : Grew w bv (w.alloc (.cells #[.int .i64 k, txt t, .slice sp l.length cap, .slice sn ns.length cn] 25)) bv := (Grew.refl w bv).alloc _
  have hbB : bv.ownBlock ≠ some w.heap.size := fun e => by have := hb.lt e; omega
  have HBB := Lib.hid hbB
  have HO := Lib.hid (hob.only ((Only.refl _).alloc (.cells #[.int .u8 123] 5)))
  have HB := Lib.hid ((hb.only ((Only.refl w).alloc (.cells #[.int .i64 k, txt t, .slice sp l.length cap, .slice sn ns.length cn] 25))).only ((Only.refl _).alloc (.cells #[.int .u8 123] 5)))
  have hsw : (w.alloc (.cells #[.int .i64 k, txt t, .slice sp l.length cap, .slice sn ns.length cn] 25)).heap.size = w.heap.size + 1 := by simp
  have hc1 := one_byte (w.alloc (.cells #[.int .i64 k, txt t, .slice sp l.length cap, .slice sn ns.length cn] 25)) (e := 123) (c := 123) rfl
  rw [hsw] at hc1
  have HC1 := Lib.hid hc1
  have HG := Lib.hid (hgb.alloc (.cells #[.int .u8 123] 5))
  obtain ⟨os, hos⟩ : ∃ os, os = ord ns := ⟨_, rfl⟩
  have HLO2 := Lib.hid (show os.length = ns.length by rw [hos]; exact (hO ns).1)
  have HLN := Lib.hid hln
  have HOI := Lib.hid (show ∀ i ∈ os, i < ns.length by rw [hos]; exact (hO ns).2)
  have HR := Lib.hid (fun w' N' => hR ns N' w')
  rw [← hos] at HR
  obtain ⟨ts, hts⟩ : ∃ ts, ts = os.map (memG ord l ns) := ⟨_, rfl⟩
  have htl : ts.length = os.length := by rw [hts, List.length_map]
  have hx : objG ord l ns = 123 :: (joinB ts ++ [125]) := by rw [hts, hos]; rfl
  have HT := Lib.hid hts
  have HJ := Lib.hid (joinB_len ts)
  rw [hx] at hn
  simp only [List.length_cons, List.length_append, List.length_nil] at hn
  have il : (l.length : Int) ≤ 1000 := by omega
  rw [hx]
  clear hcells ih is h0 hob hgb hb hts hx hc1 hsw hbB hnames hR hO hs hos hln
  go_enter Tryd.func36, Tryd.ntmps36
  go_wp2_with (at_builtin; refine append_byteG rfl (.tmp 7) (.tmp 8) rfl (base := w0.heap.size) [123] rfl rfl HB.out HC1.out (by simp; omega) (by simp; omega) ?_)
  intro v1 w1 hb1 hg1
  have ho1 := HO.out.grew hg1 HBB.out
  obtain ⟨⟨a0, a1, a2, a3⟩, -⟩ := ho1.all
  have HO1 := Lib.hid ho1
  have HB1 := Lib.hid hb1
  have hG1 := HG.out.trans hg1
  have HG1 := Lib.hid hG1
  have HON := Lib.hid (show Only w0 w1 from Below.trans H0.out (hG1.below HB0.out hsz))
  have hB1 : w.heap.size < w1.heap.size := by have := ho1.lt; exact this
  have HNB := Lib.hid (show v1.ownBlock ≠ some w.heap.size from fun hh => by
    rcases hg1.2 _ hh with q | q
    · exact HBB.out q
    · simp at q; omega)
  clear hb1 hg1 HB HC1 HG HO ho1 hG1
  go_wp2_with (go_at_call 45; refine (HR.out w1 _ (HNA.out.only HON.out) (by have := HLN.out; omega) HS.out).mono ?_; rintro r wL ⟨⟨V, rfl, so, co, rfl, hints⟩, tL⟩)
  have HBL := Lib.hid (HB1.out.only tL)
  have HOL := Lib.hid (HO1.out.only tL)
  have HGL := Lib.hid (HG1.out.only tL)
  have HNL := Lib.hid (show Only w0 wL from HON.out.trans tL)
  have hsL := tL.size
  have HIN := Lib.hid (show os = [] ∨ ∃ g, so = some ⟨g, 0, none⟩ ∧ v1.ownBlock ≠ some g ∧ g < wL.heap.size ∧ ∀ i (h : i < os.length), wL.cell? ⟨g, i, none⟩ = some (.int .i64 (os[i] : Int)) by
    rcases hints with h | ⟨g, e, hg, hc⟩
    · exact Or.inl h
    · by_cases h0 : os = []
      · exact Or.inl h0
      · have hpos : 0 < os.length := List.length_pos_iff.2 h0
        exact Or.inr ⟨g, e, fun hh => by have := HB1.out.lt hh; omega, World.block_lt_of_cell? wL _ (hc 0 hpos), hc⟩)
  clear tL hints a0 a1 a2 a3 HO1 HG1 HON HR HNA
  go_loopg [0, 14] os.length (fun g bq v wr => ∃ j R, v = .int .i64 (j : Nat) ∧ j ≤ os.length ∧ os.length - j ≤ g ∧ BytesO wr w0.heap.size bq R ∧ Fit b (123 :: joinB (ts.take j)) R ∧ Grew wL v1 wr bq)
  case atStart => exact ⟨0, b ++ [123], rfl, Nat.zero_le _, Nat.le_refl _, HBL.out, by simpa [joinB] using Fit.exact b [123], Grew.refl _ _⟩
  case round =>
    obtain ⟨j, R, rfl, hj, hg, hbr, hfr, hgr⟩ := hrel
    have o9 : Only w0 wr := Below.trans HNL.out (hgr.below HBL.out (HNL.out.size))
    have HBR := Lib.hid hbr
    have HFR := Lib.hid hfr
    have HGR := Lib.hid hgr
    have hRl := hfr.2.2
    have hsr := hgr.size
    by_cases hlt : j < os.length
    · have ij : (j : Int) < (os.length : Int) := by omega
      have jb : j ≤ 1000 := by have := HLO2.out; have := HLN.out; omega
      obtain ⟨i, hi⟩ : ∃ i, i = os[j]'hlt := ⟨_, rfl⟩
      have hin : i < ns.length := by rw [hi]; exact HOI.out _ (List.getElem_mem _)
      have hil : i < l.length := by have := HLN.out; omega
      have ii : (i : Int) < (ns.length : Int) := by omega
      have iil : (i : Int) < (l.length : Int) := by omega
      rcases HIN.out with h0 | ⟨go, hso, hno, hgo, hoc⟩
      · rw [h0] at hlt; simp at hlt
      rcases HC.out with h0 | ⟨g, off, hsp, hcell⟩
      · rw [h0] at hil; simp at hil
      rcases HN.out with h0 | ⟨gn, offn, hsn, hncell⟩
      · rw [h0] at hin; simp at hin
      subst hsp hsn hso
      have oc0 := hoc j hlt
      rw [← hi] at oc0
      have oc := (World.cell?_of_block (hgr.1.block go hgo hno)).trans oc0
      have eo : (⟨go, 0, none⟩ : Addr).add j = ⟨go, j, none⟩ := by unfold Addr.add; split <;> simp_all
      have en : (⟨gn, offn, none⟩ : Addr).add i = ⟨gn, offn + i, none⟩ := by unfold Addr.add; split <;> simp_all
      have e1 : (⟨g, off, none⟩ : Addr).add (i * 4) = ⟨g, off + i * 4, none⟩ := by unfold Addr.add; split <;> simp_all
      obtain ⟨d0, d1, d2, d3, hp, hgx0⟩ := GCells.at_ hcell i hil
      obtain ⟨k9, t9, sp9, n9, m9, sq9, u9, v9, rfl, rfl, rfl, rfl⟩ := GIn.shape hgx0
      have HP := Lib.hid hp
      obtain ⟨nm, hnm⟩ : ∃ nm, nm = ns[i]'hin := ⟨_, rfl⟩
      have hnmc := hncell i hin
      rw [← hnm] at hnmc
      have HNM := Lib.hid hnmc
      have hnml : nm.length ≤ 1000000 := HS.out _ (by rw [hnm]; exact List.getElem_mem _)
      have hjt : j < ts.length := by omega
      obtain ⟨y, hy⟩ : ∃ y, y = textG ord (l[i]'hil) := ⟨_, rfl⟩
      obtain ⟨q, hq⟩ : ∃ q, q = quoteB nm := ⟨_, rfl⟩
      have htj : ts[j]'hjt = q ++ 58 :: y := by
        have := HT.out
        subst this
        rw [List.getElem_map, ← hi]
        unfold memG
        rw [hq, hy, hnm, textL_map]
        simp [List.getD_eq_getElem?_getD, hin, hil]
      have hnx := joinB_take hjt
      have hjn := HJ.out (j + 1)
      rw [htj] at hnx
      have V := IH.out i hil
      have V2 : ∀ (w' : World) (bq' : Value) (R' : List UInt8), Only w0 w' → BytesO w' w0.heap.size bq' R' → R'.length + y.length ≤ 90000000 → Calls Tryd.prog 22 #[bq', .agg #[.int .i64 k9, txt t9, .slice sp9 n9 m9, .slice sq9 u9 v9]] w' (AppF w' w0.heap.size bq' R' y) :=
        fun w' bq' R' a1 a2 a3 => by rw [hy] at a3 ⊢; exact V w0 w' _ bq' R' hgx0 a1 a2 a3
      have eq4 : textG ord (.mk 4 nm [] []) = q := by rw [hq]; simp [textG]
      have VS : ∀ (w' : World) (bq' : Value) (R' : List UInt8), Only w0 w' → BytesO w' w0.heap.size bq' R' → R'.length + q.length ≤ 90000000 → Calls Tryd.prog 22 #[bq', .agg #[.int .i64 4, txt nm, .slice none 0 0, .slice none 0 0]] w' (AppF w' w0.heap.size bq' R' q) :=
        fun w' bq' R' a1 a2 a3 => by rw [← eq4] at a3 ⊢; exact IS.out nm hnml w0 w' _ bq' R' (by unfold GIn; exact ⟨_, _, rfl, ⟨none, 0, rfl, Or.inl rfl⟩, NamesIn.nil _⟩) a1 a2 a3
      have HV := Lib.hid V2
      have HVS := Lib.hid VS
      have HNX := Lib.hid hnx
      have O9 := Lib.hid o9
      have HLO := Lib.hid hlt
      clear hoc oc0 hcell hncell hp hgx0 hnm hnmc hy hq htj V V2 VS eq4 hi hno HC HN HIN
      by_cases hj0 : j = 0
      · subst hj0
        rw [if_pos rfl] at hnx
        rw [hnx] at hjn
        simp only [List.length_append, List.length_cons] at hjn
        have hRq : R.length + q.length ≤ 90000000 := by simp [joinB] at hRl; omega
        obtain ⟨⟨x0, x1, x2, x3⟩, -⟩ := (HOL.out.grew hgr HNB.out).all
        have nc := cell_only HNM.out o9
        clear hnx hbr hfr hgr o9
        go_wp2_with (first | (go_at_call 22; refine (HVS.out _ _ _ O9.out HBR.out hRq).mono ?_; rintro r w4 ⟨v4, R4, rfl, hb4, hf4, hg4⟩; have HB4 := Lib.hid (hb4.only ((Only.refl w4).alloc (.cells #[.int .u8 58] 5))); have HC4 := Lib.hid (one_byte w4 (e := 58) (c := 58) rfl); have hR4 := hf4.2.2; have hs4 := hg4.size; (try simp only [List.length_append, List.length_cons, List.length_nil] at hR4)) | (at_builtin; refine append_byteG rfl (.tmp 32) (.tmp 33) rfl (base := w0.heap.size) [58] rfl rfl HB4.out HC4.out (by simp; omega) (by have := O9.out.size; simp; omega) ?_))
        intro v5 w5 hb5 hg5
        have hg5' := ((HGR.out.trans hg4).alloc (.cells #[.int .u8 58] 5)).trans hg5
        have o5 : Only w0 w5 := Below.trans HNL.out (hg5'.below HBL.out (HNL.out.size))
        obtain ⟨⟨z0, z1, z2, z3⟩, -⟩ := (HOL.out.grew hg5' HNB.out).all
        obtain ⟨p0, p1, p2, p3⟩ := HP.out
        have p0 := cell_only p0 o5
        have p1 := cell_only p1 o5
        have p2 := cell_only p2 o5
        have p3 := cell_only p3 o5
        have HB5 := Lib.hid hb5
        have HG5 := Lib.hid hg5'
        have HF5 := Lib.hid ((HFR.out.trans hf4).trans (Fit.exact R4 [58]))
        have O5 := Lib.hid o5
        have hRy : (R4 ++ [58]).length + y.length ≤ 90000000 := by simp [joinB] at *; omega
        clear hb4 hf4 hg4 hb5 hg5 hg5' o5 x0 x1 x2 x3 nc HB4 HC4
        go_wp2_with (go_at_call 22; refine (HV.out _ _ _ O5.out HB5.out hRy).mono ?_; rintro r w6 ⟨v6, R6, rfl, hb6, hf6, hg6⟩)
        have HB6 := Lib.hid hb6
        have HF6 := Lib.hid (HF5.out.trans hf6)
        have HG6 := Lib.hid (HG5.out.trans hg6)
        clear hb6 hf6 hg6
        go_roundg (os.length - (0 + 1))
        case measure => omega
        case rel => exact ⟨0 + 1, R6, by go_num, by omega, Nat.le_refl _, HB6.out, by rw [HNX.out, if_pos trivial]; simpa [joinB] using HF6.out, HG6.out⟩
      · have ij0 : (0 : Int) < (j : Int) := by omega
        rw [if_neg hj0] at hnx
        rw [hnx] at hjn
        simp only [List.length_append, List.length_cons] at hjn hRl
        have HB3 := Lib.hid (hbr.only ((Only.refl wr).alloc (.cells #[.int .u8 44] 5)))
        have HC3 := Lib.hid (one_byte wr (e := 44) (c := 44) rfl)
        clear hnx hbr hfr hgr o9
        go_wp2_with (at_builtin; refine append_byteG rfl (.tmp 21) (.tmp 22) rfl (base := w0.heap.size) [44] rfl rfl HB3.out HC3.out (by simp; omega) (by simp; omega) ?_)
        intro v3 w3 hb3 hg3
        have hg3' := (HGR.out.alloc (.cells #[.int .u8 44] 5)).trans hg3
        have o3 : Only w0 w3 := Below.trans HNL.out (hg3'.below HBL.out (HNL.out.size))
        obtain ⟨⟨x0, x1, x2, x3⟩, -⟩ := (HOL.out.grew hg3' HNB.out).all
        have nc := cell_only HNM.out o3
        have HB3 := Lib.hid hb3
        have HG3 := Lib.hid hg3'
        have HF3 := Lib.hid (HFR.out.trans (Fit.exact R [44]))
        have O3 := Lib.hid o3
        have hRq : (R ++ [44]).length + q.length ≤ 90000000 := by simp; omega
        clear hb3 hg3 hg3' o3
        go_wp2_with (first | (go_at_call 22; refine (HVS.out _ _ _ O3.out HB3.out hRq).mono ?_; rintro r w4 ⟨v4, R4, rfl, hb4, hf4, hg4⟩; have HB4 := Lib.hid (hb4.only ((Only.refl w4).alloc (.cells #[.int .u8 58] 5))); have HC4 := Lib.hid (one_byte w4 (e := 58) (c := 58) rfl); have hR4 := hf4.2.2; have hs4 := hg4.size; (try simp only [List.length_append, List.length_cons, List.length_nil] at hR4)) | (at_builtin; refine append_byteG rfl (.tmp 32) (.tmp 33) rfl (base := w0.heap.size) [58] rfl rfl HB4.out HC4.out (by simp; omega) (by have := O3.out.size; simp; omega) ?_))
        intro v5 w5 hb5 hg5
        have hg5' := ((HG3.out.trans hg4).alloc (.cells #[.int .u8 58] 5)).trans hg5
        have o5 : Only w0 w5 := Below.trans HNL.out (hg5'.below HBL.out (HNL.out.size))
        obtain ⟨⟨z0, z1, z2, z3⟩, -⟩ := (HOL.out.grew hg5' HNB.out).all
        obtain ⟨p0, p1, p2, p3⟩ := HP.out
        have p0 := cell_only p0 o5
        have p1 := cell_only p1 o5
        have p2 := cell_only p2 o5
        have p3 := cell_only p3 o5
        have HB5 := Lib.hid hb5
        have HG5 := Lib.hid hg5'
        have HF5 := Lib.hid ((HF3.out.trans hf4).trans (Fit.exact R4 [58]))
        have O5 := Lib.hid o5
        have hRy : (R4 ++ [58]).length + y.length ≤ 90000000 := by simp only [List.length_cons, List.length_nil, List.length_append] at hR4 hRl hjn ⊢; omega
        clear hb4 hf4 hg4 hb5 hg5 hg5' o5 x0 x1 x2 x3 nc HB4 HC4
        go_wp2_with (go_at_call 22; refine (HV.out _ _ _ O5.out HB5.out hRy).mono ?_; rintro r w6 ⟨v6, R6, rfl, hb6, hf6, hg6⟩)
        have HB6 := Lib.hid hb6
        have HF6 := Lib.hid (HF5.out.trans hf6)
        have HG6 := Lib.hid (HG5.out.trans hg6)
        clear hb6 hf6 hg6
        go_roundg (os.length - (j + 1))
        case measure => omega
        case rel => exact ⟨j + 1, R6, by go_num, (show j + 1 ≤ os.length from HLO.out), Nat.le_refl _, HB6.out, by rw [HNX.out, if_neg hj0]; simpa using HF6.out, HG6.out⟩
    · obtain rfl : j = os.length := by omega
      have ij : ¬ (os.length : Int) < (os.length : Int) := by omega
      rw [List.take_of_length_le (by omega)] at hfr hRl
      simp only [List.length_cons] at hRl
      have HB3 := Lib.hid (hbr.only ((Only.refl wr).alloc (.cells #[.int .u8 125] 5)))
      have HC2 := Lib.hid (one_byte wr (e := 125) (c := 125) rfl)
      have HF3 := Lib.hid hfr
      have hs3 := o9.size
      clear hbr hfr hgr o9
      go_wp2_with (at_builtin; refine append_byteG rfl (.tmp 43) (.tmp 44) rfl (base := w0.heap.size) [125] rfl rfl HB3.out HC2.out (by simp; omega) (by simp; omega) ?_)
      intro v2 w2 hb2 hg2
      have HB4 := Lib.hid hb2
      have HG4 := Lib.hid (HGL.out.trans ((HGR.out.alloc (.cells #[.int .u8 125] 5)).trans hg2))
      clear hb2 hg2 HB3 HC2
      go_wp2_with fail
      go_ret
      exact ⟨_, _, rfl, HB4.out, by simpa using HF3.out.trans (Fit.exact R [125]), HG4.out⟩
end Go.Proofs.YtdhkpkojnokjdaaDoor
