/-
  OF THE LAWS: TableRanges, walked.
-/
import Derived.Test.YtblaicejpijfbaaTRangesP
import Derived.StillTailTactics
import Derived.Deep.DeepCutAuto
import Derived.Test.YtblaicejpijfbaaTRound
namespace Go.Proofs.Ytblaicejpijfbaa
open Go.RowKit Go.Maps Go.WideMaps Go.Shelf Go.Proofs.Ytblaicejpijfbaa.Tb
attribute [local go_sem] Oper.semAt_some

section
variable {w w' : World}

theorem r0_new {w w1 : World} {fr tu : List UInt8} (ht : Turn (fun _ => False) (((w.alloc (.cells #[strV fr] 9)).alloc (.cells #[strV tu] 9)).alloc (.cells #[.bool false] 4)) w1) : R0 w w1 w.heap.size fr tu := by
  have hbm := boxed_same (((Boxed.new w 9 (strV fr)).alloc (.cells #[strV tu] 9)).alloc (.cells #[.bool false] 4)) ht
  have hbs := Boxed.new (w.alloc (.cells #[strV fr] 9)) 9 (strV tu)
  have hbr := Boxed.new ((w.alloc (.cells #[strV fr] 9)).alloc (.cells #[strV tu] 9)) 4 (.bool false)
  rw [World.size_alloc] at hbs hbr
  rw [World.size_alloc] at hbr
  exact ⟨hbm, boxed_same (hbs.alloc (.cells #[.bool false] 4)) ht, ⟨_, boxed_same hbr ht⟩, (((turnBox w _).trans (turnBox _ _) (fun _ _ q => q)).trans (turnBox _ _) (fun _ _ q => q)).trans ht (fun _ _ q => q), Nat.le_refl _⟩

set_option maxRecDepth 100000 in
set_option maxHeartbeats 4000000 in
theorem ranges_walk {va : Value} {l : List Op3} (ha : OpsR w va l) (hl : l.length ≤ 9223372036854775807) (fr mid tu : List UInt8) (k1 : fr.length ≤ 9223372036854775807) (k2 : mid.length ≤ 9223372036854775807) (k3 : tu.length ≤ 9223372036854775807) :
    Calls Try.prog 4 #[va, strV fr, strV mid, strV tu] w fun r w' => r = .returned (.bool true) ∧ Turn (fun _ => False) w w' := by
  have HA := Lib.hid ha
  obtain ⟨sa, capa, rfl, hca⟩ := ha
  have HCA := Lib.hid hca
  clear hca
  refine (callsIn_wide (n := 10)).1 ?_
  refine callsIn_of_wp_marks Try.func4 rfl trivial ?_ rfl
  simp only [Try.ntmps4, List.size_toArray, List.length_cons, List.length_nil, Nat.reduceAdd, Nat.reduceSub, Array.replicate_succ, Array.replicate_zero, List.push_toArray, List.append_toArray, List.nil_append, List.cons_append]
  refine wpIn_wide.2 ?_
  go_wp2_with fail
  go_at_call 5
  refine (first_any _).mono ?_
  rintro r w1 ⟨rfl, ht1⟩
  have H0 := Lib.hid (r0_new ht1)
  clear ht1
  obtain ⟨M, hM⟩ : ∃ M, w.heap.size = M := ⟨_, rfl⟩
  rw [hM] at H0 ⊢
  go_wp2_with fail
  go_at_call 6
  refine (few_any (HA.out.later H0.out.turn) hl).mono ?_
  rintro r w2 ⟨b1, rfl, hb1, hk2⟩
  have H1 := Lib.hid (H0.out.same (hk2.turn _))
  clear hk2 H0
  go_wp2_with fail
  go_at_call 7
  refine (tab_new _).mono ?_
  rintro r w3 ⟨tp, rfl, htab⟩
  have H2 := Lib.hid (H1.out.same htab.turn)
  have HTP := Lib.hid (show M + 2 < tp by obtain ⟨_, hb⟩ := H1.out.br; have := hb.lt; have := htab.new; omega)
  have cf := H2.out.bf.cell
  have cto := H2.out.bt.cell
  have HTAB := Lib.hid (show Tab w w3 tp .nil 0 from ⟨htab.at_, by have := htab.new; have := H1.out.turn.size; omega, H2.out.turn⟩)
  have HEND := Lib.hid (H2.out.set true)
  obtain ⟨rb, hrb⟩ := H2.out.br
  have fr2 : w3.frozen? ⟨M + 1 + 1, 0, none⟩ = false := hrb.frozen
  have cr2 : w3.cell? ⟨M + 1 + 1, 0, none⟩ = some (.bool rb) := hrb.cell
  clear htab H1 hrb
  by_cases hbig : b1 = true ∧ fr.length ≤ 1000 ∧ mid.length ≤ 1000 ∧ tu.length ≤ 1000
  · obtain ⟨rfl, h1, h2, h3⟩ := hbig
    have hlen := hb1 rfl
    have i1 : (fr.length : Int) ≤ 1000 := by omega
    have i2 : (mid.length : Int) ≤ 1000 := by omega
    have i3 : (tu.length : Int) ≤ 1000 := by omega
    clear hb1 h1 h2 h3 HEND fr2 cr2
    go_wp2_with fail
    clear i1 i2 i3 cf cto
    go_loopw [12] (fun i wr => ∃ (k : Nat) (t : Tr (List UInt8) Int), k ≤ l.length ∧ i = .int .i64 k ∧ Tab w wr tp t k ∧ t.Sized ∧ Rises t.list ∧ t.count ≤ k ∧ Turn (fun b => b = tp) w3 wr) (fun i _ => l.length - (intOf i).toNat)
    case atStart => exact ⟨0, .nil, Nat.zero_le _, rfl, HTAB.out, trivial, List.Pairwise.nil, Nat.le_refl _, Turn.refl _ _⟩
    case round =>
      obtain ⟨k, t, hk, rfl, htab, hz, hr, hc, ht3⟩ := hrel
      clear HTAB
      by_cases hlt : k < l.length
      · obtain ⟨b, o, e1, x1⟩ := HCA.out (by omega)
        subst e1
        have hat := (x1 k l[k] (List.getElem?_eq_getElem hlt)).later htab.turn
        obtain ⟨x, hx⟩ : ∃ x, l[k] = x := ⟨_, rfl⟩
        rw [hx] at hat
        obtain ⟨c0, c1, c2, c3⟩ := Op3.cells hat
        have i2 : (0 : Int) ≤ (k : Int) := by omega
        have i3 : (k : Int) < (l.length : Int) := by omega
        have HDEL := Lib.hid (fun (b : Bool) (hb : (Tb.get t x.key).isSome = b) => htab.delete hz (by omega) (by omega) x.key _ rfl hb)
        have HPUT := Lib.hid (htab.like (like_drew wr) |>.put hz (by omega) (by omega) x.key _ rfl x.v)
        have HT3 := Lib.hid ht3
        have HZ := Lib.hid hz
        have HR := Lib.hid hr
        have HC := Lib.hid hc
        clear x1 hat htab ht3 hz hr c3 hc
        by_cases hk1 : x.kind = 1
        · have e5 : (x.kind == 1) = true := by simp [hk1]
          clear hk1
          go_wp2_with (go_at_call 11; refine (HDEL.out _ rfl).mono ?_; rintro r wc ⟨rfl, hsc, htc⟩)
          refine ⟨⟨k + 1, si.dropT t x.key, by omega, by go_num, hsc, (sized_dropT HZ.out _).1, rises_dropT HR.out _, by have := (sized_dropT HZ.out x.key).2; have := HC.out; omega, HT3.out.trans htc (fun _ _ q => q)⟩, ?_⟩
          simp [intOf]; omega
        · have e5 : (x.kind == 1) = false := by simp [hk1]
          clear hk1
          go_wp2_with fail
          go_still_tail 11, (by kernel_rfl)
          change wpList _ _ _ _ _ wr.drew
          go_wp2_with (go_at_call 8; refine HPUT.out.mono ?_; rintro r wc ⟨rfl, hsc, htc⟩)
          refine ⟨⟨k + 1, put t x.key x.v, by omega, by go_num, hsc, sized_put HZ.out _ _, by rw [put_list HR.out]; exact rises_putL HR.out _ _, by have := count_put HZ.out x.key x.v; have := HC.out; omega, HT3.out.drew.trans htc (fun _ _ q => q)⟩, ?_⟩
          simp [intOf]; omega
      · obtain rfl : k = l.length := by omega
        have HSN := Lib.hid htab.snapshot
        have HR0 := Lib.hid (H2.out.above HTP.out ht3)
        have HZ := Lib.hid hz
        have HR := Lib.hid hr
        have HC := Lib.hid (show t.count ≤ 200 by omega)
        clear htab hz hr hc ht3 hlt hk H2
        go_wp2_with fail
        go_at_call 13
        refine HSN.out.mono ?_
        rintro r w4 ⟨sp, rfl, hsp, hsn, htab, ht4⟩
        have HR1 := Lib.hid (HR0.out.same ht4)
        have cf := HR1.out.bf.cell
        have HSP := Lib.hid (show M + 2 < sp by obtain ⟨_, hb⟩ := HR0.out.br; have := hb.lt; omega)
        have HNE := Lib.hid (show ¬ sp = tp by
          obtain ⟨root, a1, _⟩ := htab.at_
          obtain ⟨root2, a2, _⟩ := hsn.at_
          intro e
          subst e
          unfold si.TabC at a1
          unfold si.SnapC at a2
          rw [a1] at a2
          cases a2)
        have HPUT := Lib.hid (htab.put HZ.out (by have := HC.out; omega) (by omega) fr _ rfl (-5))
        have HSN4 := Lib.hid hsn
        have HN4 := Lib.hid htab.noNode
        clear htab hsn ht4 hsp HSN HR0
        go_wp2_with (go_at_call 8; refine HPUT.out.mono ?_; rintro r w5 ⟨rfl, htab5, ht5⟩)
        go_at_call 11
        refine (htab5.delete (sized_put HZ.out fr (-5)) (by have := count_put HZ.out fr (-5); have := HC.out; omega) (by omega) mid _ rfl rfl).mono ?_
        rintro r w6 ⟨rfl, _, ht6⟩
        have HW6 := Lib.hid (show RW w w6 M sp fr tu t l.length [] from ⟨(HR1.out.above HTP.out ht5).above HTP.out ht6, (HSN4.out.turned ht5 HN4.out HNE.out).turned ht6 htab5.noNode HNE.out, by simp⟩)
        clear htab5 ht5 ht6 HPUT HSN4 HN4 HR1 cf HTP HNE
        go_wp2_with fail
        go_at_call 19
        refine (sall_at _ _).mono ?_
        rintro r w7 ⟨B1, B2, rfl, c2, c1, ht7⟩
        have hbw := boxed_same (Boxed.new w6 27 (.slice none 0 0)) ht7
        have hrw := (HW6.out.same (turnBox w6 (.cells #[.slice none 0 0] 27))).same ht7
        have hbn : w.heap.size ≤ w6.heap.size := HW6.out.r0.turn.size
        clear ht7
        generalize w6.heap.size = Bw at hbw hbn ⊢
        have HC1 := Lib.hid c1
        have HC2 := Lib.hid c2
        have HBW := Lib.hid hbw
        have HRW := Lib.hid hrw
        have HBN := Lib.hid hbn
        obtain ⟨root, s1, s2⟩ := hrw.sn.at_
        have HS1 := Lib.hid s1
        have HS2 := Lib.hid s2
        clear c1 c2 hbw hrw hbn s1 s2 HW6
        go_wp2_with fail
        refine (wpIn_wide (n := 10)).1 ?_
        refine wpIn_rangeFunc_ownF rfl (by decide) (gf := 65) (lb := #[.pointer (some ⟨B2, 0, none⟩)]) rfl trivial (enters_of Try.func65 (by kernel_rfl) rfl) (si.sall_stops (n := 10 - 1) HC2.out HC1.out HS1.out HS2.out) si.KeepsN.trans si.keepsN_b (Below.refl _ _) (fun _ => rfl)
          (fun pre W => CollP w7 Bw (pre.filter (inR fr tu)) W) (fun _ _ _ => False) ?aI ?aIx ?a0 ?a1 ?aassign ?abody ?adone ?astop
        case aI => exact CollP.own HBW.out.lt _
        case aIx => exact fun _ _ _ _ _ h _ _ => h
        case a0 => exact ⟨⟨_, HBW.out, World.ownsRow_nil _ _ _ _⟩, Turn.refl _ _⟩
        case aassign =>
          intro l x W K hK
          gi_wp2
          exact hK
        case astop => exact fun _ _ _ _ _ _ h _ => h.elim
        case abody =>
          intro lp pre x W hcoll hlt
          obtain ⟨⟨v, hv, hrow⟩, ht⟩ := hcoll
          obtain ⟨hrw, _⟩ := HRW.out.box ht HBW.out HBN.out (by decide) (by decide) (by decide)
          have cf := hrw.r0.bf.cell
          have cto := hrw.r0.bt.cell
          have cv := hv.cell
          have fv := hv.frozen
          obtain ⟨xs, hxs⟩ : ∃ xs, pre.filter (inR fr tu) = xs := ⟨_, rfl⟩
          rw [hxs] at hrow
          have hfl : xs.length ≤ 200 := by
            have h1 := List.length_filter_le (inR fr tu) pre
            have h2 := HZ.out.count
            have h3 := HC.out
            rw [hxs] at h1
            omega
          have e1 := less_eq x.1 fr
          have e2 := less_eq x.1 tu
          have hkeep : ∀ {d : Bool}, inR fr tu x = d → (pre ++ [x]).filter (inR fr tu) = xs ++ (if d then [x] else []) := by
            intro d hd
            rw [List.filter_append, hxs, List.filter_cons, hd, List.filter_nil]
          by_cases d1 : x.1 < fr
          · rw [decide_eq_true d1] at e1
            have hk := hkeep (d := false) (by unfold inR; simp [d1])
            clear hkeep d1 e2
            gi_wp2
            refine ⟨KeepsOthers.refl _, si.KeepsN.refl _, ?_⟩
            show CollP w7 Bw ((pre ++ [x]).filter (inR fr tu)) W
            rw [hk]
            simp only [Bool.false_eq_true, if_false, List.append_nil]
            exact ⟨⟨v, hv, hrow⟩, ht⟩
          · rw [decide_eq_false d1] at e1
            by_cases d2 : x.1 < tu
            · rw [decide_eq_true d2] at e2
              have hk := hkeep (d := true) (by unfold inR; simp [d1, d2])
              obtain ⟨i0, hi, hz0, hz1, hz2⟩ := info_parts infoPair
              obtain ⟨sp2, cap2, rfl⟩ := own_shape hrow
              clear hkeep d1 d2
              gi_wp2_with (gi_at_builtin; refine wpListIn_append_own _ rfl _ _ 27 rfl w7.heap.size 49 i0 (.agg #[.string ⟨#[]⟩, .int .i64 0]) 2 24 undPairs hi hz0 hz1 hz2 rfl (by decide) _ _ _ rfl (hrow.alloc _) ⟨W.heap.size, 0, none⟩ 1 1 [.string ⟨x.1.toArray⟩, .int .i64 x.2] rfl rfl (pair_new _ _ _ _) (by simp [Value.oneCell']) (by unfold maxLen; omega) (by omega) (by have := ht.size; simp; omega) ?_; intro v' w8 hown' hgrow _; obtain ⟨hv1, hk1, hk2, hk3⟩ := CollP.step HBW.out.lt hv hrow ht hown' hgrow; have hc1 := hv1.cell; have hf1 := hv1.frozen; obtain ⟨g', cap', rfl⟩ := own_shape hown')
              refine ⟨hk1, hk2, ?_⟩
              show CollP w7 Bw ((pre ++ [x]).filter (inR fr tu)) _
              rw [hk]
              exact hk3
            · rw [decide_eq_false d2] at e2
              have hk := hkeep (d := false) (by unfold inR; simp [d2])
              clear hkeep d1 d2
              gi_wp2
              refine ⟨KeepsOthers.refl _, si.KeepsN.refl _, ?_⟩
              show CollP w7 Bw ((pre ++ [x]).filter (inR fr tu)) W
              rw [hk]
              simp only [Bool.false_eq_true, if_false, List.append_nil]
              exact ⟨⟨v, hv, hrow⟩, ht⟩
        case adone =>
          intro D xs W1 hD hS hcoll hK
          rw [hS, ← betw_list HR.out fr tu] at hcoll
          obtain ⟨rw1, _⟩ := HRW.out.box hcoll.2 HBW.out HBN.out (by decide) (by decide) (by decide)
          have hrw2 : RW w W1 M sp fr tu t l.length [D] := ⟨rw1.r0, rw1.sn, by simpa using hK⟩
          have hp := hcoll.has
          have HD := Lib.hid (show w.heap.size ≤ D from Nat.le_trans HRW.out.r0.turn.size hD)
          have hrw3 := hrw2.same (turnBox W1 (.cells #[.int .i64 0] 3))
          have hp3 := hp.same (turnBox W1 (.cells #[.int .i64 0] 3))
          have cf := hrw3.r0.bf.cell
          have cto := hrw3.r0.bt.cell
          have HWL := Lib.hid (show (betw fr tu t).length ≤ 200 by
            have h1 := List.length_filter_le (inR fr tu) t.list
            rw [← betw_list HR.out fr tu] at h1
            have h2 := HZ.out.count
            have h3 := HC.out
            omega)
          have hbi := Boxed.new W1 3 (.int .i64 0)
          have hbn := hrw2.r0.turn.size
          have HRW3 := Lib.hid hrw3
          have HP3 := Lib.hid hp3
          have HBI := Lib.hid hbi
          clear rw1 hrw2 hp hK hD hS hcoll HRW HBW HBN HS1 HS2 HC1 HC2 hrw3 hp3 hbi
          go_wp2_with fail
          go_at_call 20
          refine (si.srng_any _ _ _ _).mono ?_
          rintro r w8 ⟨R1, R2, R3, R4, rfl, hat8, ht8⟩
          have HBI8 := Lib.hid (boxed_same HBI.out ht8)
          have hrw8 := HRW3.out.same ht8
          have HRW8 := Lib.hid hrw8
          have HP8 := Lib.hid (HP3.out.same ht8)
          obtain ⟨root8, s1, s2⟩ := hrw8.sn.at_
          have HS1 := Lib.hid s1
          have HS2 := Lib.hid s2
          have HAT := Lib.hid hat8
          generalize W1.heap.size = ib at HBI8 hbn ⊢
          have HBN := Lib.hid hbn
          clear ht8 hrw8 s1 s2 hat8 HRW3 HP3 HBI cf cto hbn
          go_wp2_with fail
          refine (wpIn_wide (n := 10)).1 ?_
          refine wpIn_rangeFunc_ownF rfl (by decide) (gf := 65) (lb := #[.pointer (some ⟨R4, 0, none⟩)]) rfl trivial (enters_of Try.func65 (by kernel_rfl) rfl) (si.srng_stops (n := 10 - 1) HAT.out.b4 HAT.out.b1 HAT.out.b2 HAT.out.b3 HS1.out HS2.out) si.KeepsN.trans si.keepsN_b (Below.refl _ _) (fun _ => rfl)
            (fun pre W => CountI w8 ib pre.length W ∧ pre = (betw fr tu t).take pre.length) (fun _ pre _ => ¬ pre <+: betw fr tu t) ?bI ?bIx ?b0 ?b1 ?bassign ?bbody ?bdone ?bstop
          case bI => exact fun pre W W' row h hg hr => ⟨CountI.own HBI8.out.lt (fun pre => pre.length) pre W W' row h.1 hg hr, h.2⟩
          case bIx => exact fun _ _ _ _ _ h _ _ => h
          case b0 => exact ⟨⟨HBI8.out, Turn.refl _ _⟩, rfl⟩
          case bassign =>
            intro l x W K hK
            gi_wp2
            exact hK
          case bstop => exact fun _ _ _ _ _ hp h _ => absurd hp h
          case bbody =>
            intro lp pre x W hJ hlt
            obtain ⟨hcount, hfront⟩ := hJ
            obtain ⟨hx, _⟩ := HRW8.out.box hcount.2 HBI8.out HBN.out (by decide) (by decide) (by decide)
            obtain ⟨vn, cn, spn, capn, rfl, hcells0⟩ := (HP8.out.box hcount.2 HBI8.out).pairs
            obtain ⟨b2, o2, e2, hcells⟩ := hcells0 (by omega)
            subst e2
            obtain ⟨y, hy⟩ : ∃ y, (betw fr tu t)[pre.length]? = some y := ⟨_, List.getElem?_eq_getElem hlt⟩
            obtain ⟨cy0, cy1⟩ := hcells _ _ hy
            have ci := hcount.1.cell
            have fi := hcount.1.frozen
            obtain ⟨rb, hrb⟩ := hx.r0.br
            have cr : W.cell? ⟨M + 1 + 1, 0, none⟩ = some (.bool rb) := hrb.cell
            have fr2 : W.frozen? ⟨M + 1 + 1, 0, none⟩ = false := hrb.frozen
            have i0 : (0 : Int) ≤ (pre.length : Int) := by omega
            have i1 : (pre.length : Int) < ((betw fr tu t).length : Int) := by omega
            have h4 := HWL.out
            have i9 : (pre.length : Int) + 1 ≤ 1000 := by omega
            have hset := hcount.set (pre.length + 1)
            rw [show ((pre.length + 1 : Nat) : Int) = (pre.length : Int) + 1 by omega] at hset
            have HSET := Lib.hid hset
            have HF := Lib.hid hfront
            have HY := Lib.hid hy
            clear hcount hx hcells hcells0 hrb hset hfront h4 hy
            by_cases heq : y = x
            · subst heq
              have e1 : (y.1 != y.1) = false := by simp
              have e3 : (y.2 != y.2) = false := by simp
              gi_wp2
              refine ⟨HSET.out.2.1, HSET.out.2.2, ?_⟩
              have hl : (pre ++ [y]).length = pre.length + 1 := by simp
              refine ⟨by rw [hl]; exact HSET.out.1, ?_⟩
              have e := (List.getElem?_eq_some_iff.1 HY.out).2
              rw [hl, List.take_succ_eq_append_getElem hlt, e, ← HF.out]
            · have HNP := Lib.hid (show ¬ (pre ++ [x] <+: betw fr tu t) from by
                rintro ⟨r, hr⟩
                apply heq
                have h := HY.out
                rw [← hr] at h
                simp at h
                exact h.symm)
              by_cases hk0 : y.1 = x.1
              · have hk2 : ¬ y.2 = x.2 := fun q => heq (Prod.ext hk0 q)
                have e1 : (y.1 != x.1) = false := by simp [hk0]
                have e3 : (y.2 != x.2) = true := by simp only [bne_iff_ne, ne_eq]; exact hk2
                clear heq
                gi_wp2
                exact ⟨KeepsOthers.setCell _ _ _, HNP.out⟩
              · have e1 : (y.1 != x.1) = true := by simp only [bne_iff_ne, ne_eq]; exact hk0
                clear heq
                gi_wp2
                exact ⟨KeepsOthers.setCell _ _ _, HNP.out⟩
          case bdone =>
            intro D2 xs W2 hD2 hS hJ hK2
            obtain ⟨hcount, _⟩ := hJ
            rw [hS] at hcount
            obtain ⟨hx, _⟩ := HRW8.out.box hcount.2 HBI8.out HBN.out (by decide) (by decide) (by decide)
            have hx2 := hx.cons hK2
            have hp2 := HP8.out.box hcount.2 HBI8.out
            have HX2 := Lib.hid hx2
            have HP2 := Lib.hid hp2
            have HDD := Lib.hid (show D < D2 from Nat.lt_of_lt_of_le (HRW8.out.below (by simp)) hD2)
            obtain ⟨vn, cn, spn, capn, rfl, _⟩ := hp2.pairs
            have ci := hcount.1.cell
            have cf := hx2.r0.bf.cell
            have cto := hx2.r0.bt.cell
            obtain ⟨rb, hrb⟩ := hx2.r0.br
            have cr : W2.cell? ⟨M + 1 + 1, 0, none⟩ = some (.bool rb) := hrb.cell
            have fr2 : W2.frozen? ⟨M + 1 + 1, 0, none⟩ = false := hrb.frozen
            have e0 : (((betw fr tu t).length : Int) != ((betw fr tu t).length : Int)) = false := by simp
            have e00 : (((betw fr tu t).length : Int) == ((betw fr tu t).length : Int)) = true := by simp
            have e1 := less_eq fr mid
            have e2 := less_eq mid tu
            have q1 := eq_str3 fr mid
            have q2 := eq_str3 mid tu
            have E0 := hx2.set true
            have E1 := mark_taken E0.1 (Nat.le_trans HRW8.out.r0.turn.size hD2) (E0.2.2 D2 (by simp)) E0.2.1
            have E2 := mark_taken E1.1 HD.out (E1.2.2 D (by have := HDD.out; omega) (E0.2.2 D (by simp))) E1.2.1
            have M2 := Lib.hid (E0.2.2 D2 (by simp))
            have M1 := Lib.hid (E1.2.2 D (by have := HDD.out; omega) (E0.2.2 D (by simp)))
            have ME := Lib.hid E2
            clear hx hx2 hp2 hK2 hcount hrb hD2 hS E0 E1 E2 HRW8 HP8 HS1 HS2 HAT HBI8 HBN
            obtain ⟨c, hc⟩ : ∃ c : Bool, (decide (mid < fr) || decide (tu < mid)) = c := ⟨_, rfl⟩
            go_upto_region 30 with fail
            go_cut [157] from 144 to 157 (fun v wx => v = .bool c ∧ wx = W2)
            case first =>
              clear M1 M2 ME
              rcases tri3 fr mid with ⟨a1, a2, a3⟩ | ⟨a1, a2, a3⟩ | ⟨a1, a2, a3⟩
              · simp only [a1, decide_true] at e1
                rcases tri3 mid tu with ⟨b1, b2, b3⟩ | ⟨b1, b2, b3⟩ | ⟨b1, b2, b3⟩
                · simp only [b1, decide_true] at e2
                  simp only [a3, b3, decide_false, Bool.or_self] at hc
                  clear a1 a2 a3 b1 b2 b3
                  subst hc
                  go_wp2_with fail
                  go_meet
                  exact ⟨rfl, rfl⟩
                · simp only [b1, decide_false] at e2
                  rw [decide_eq_true b2] at q2
                  simp only [a3, b3, decide_false, Bool.or_self] at hc
                  clear a1 a2 a3 b1 b2 b3
                  subst hc
                  go_wp2_with fail
                  go_meet
                  exact ⟨rfl, rfl⟩
                · simp only [b1, decide_false] at e2
                  rw [decide_eq_false b2] at q2
                  simp only [a3, b3, decide_false, decide_true, Bool.or_true] at hc
                  clear a1 a2 a3 b1 b2 b3
                  subst hc
                  go_wp2_with fail
                  go_meet
                  exact ⟨rfl, rfl⟩
              · simp only [a1, decide_false] at e1
                rw [decide_eq_true a2] at q1
                rcases tri3 mid tu with ⟨b1, b2, b3⟩ | ⟨b1, b2, b3⟩ | ⟨b1, b2, b3⟩
                · simp only [b1, decide_true] at e2
                  simp only [a3, b3, decide_false, Bool.or_self] at hc
                  clear a1 a2 a3 b1 b2 b3
                  subst hc
                  go_wp2_with fail
                  go_meet
                  exact ⟨rfl, rfl⟩
                · simp only [b1, decide_false] at e2
                  rw [decide_eq_true b2] at q2
                  simp only [a3, b3, decide_false, Bool.or_self] at hc
                  clear a1 a2 a3 b1 b2 b3
                  subst hc
                  go_wp2_with fail
                  go_meet
                  exact ⟨rfl, rfl⟩
                · simp only [b1, decide_false] at e2
                  rw [decide_eq_false b2] at q2
                  simp only [a3, b3, decide_false, decide_true, Bool.or_true] at hc
                  clear a1 a2 a3 b1 b2 b3
                  subst hc
                  go_wp2_with fail
                  go_meet
                  exact ⟨rfl, rfl⟩
              · simp only [a1, decide_false] at e1
                rw [decide_eq_false a2] at q1
                simp only [a3, decide_true, Bool.true_or] at hc
                clear a1 a2 a3
                subst hc
                go_wp2_with fail
                go_meet
                exact ⟨rfl, rfl⟩
            case rest =>
              obtain ⟨rfl, rfl⟩ := hcut
              clear e1 e2 q1 q2
              cases c with
              | true =>
                go_wp2_with fail
                refine ⟨by simp, .inl ⟨_, _, rfl, run_takeDeferred M2.out, ?_⟩⟩
                refine ⟨by simp, .inl ⟨_, _, rfl, run_takeDeferred M1.out, ?_⟩⟩
                exact ⟨_, results_ranges (g := M + 1 + 1) rfl ME.out.2.1, rfl, ME.out.1⟩
              | false =>
                have hd : ¬ mid < fr ∧ ¬ tu < mid := by simpa using hc
                have HSPL := Lib.hid (split_betw HR.out hd.1 hd.2)
                clear hd hc M1 M2 ME
                have HL1 := Lib.hid (show (betw fr mid t).length ≤ 200 by have := HSPL.out; have := HWL.out; omega)
                have HL2 := Lib.hid (show (betw fr mid t).length + (betw mid tu t).length ≤ 200 by have := HSPL.out; have := HWL.out; omega)
                have hrw3 := HX2.out.same (turnBox wc (.cells #[.int .i64 0] 3))
                have cf := hrw3.r0.bf.cell
                have HRW3 := Lib.hid hrw3
                have HP3 := Lib.hid (HP2.out.same (turnBox wc (.cells #[.int .i64 0] 3)))
                have HBI := Lib.hid (Boxed.new wc 3 (.int .i64 0))
                have hbn := HX2.out.r0.turn.size
                have HD2 := Lib.hid (show w.heap.size ≤ D2 by have := HDD.out; have := HD.out; omega)
                clear HX2 HP2 hrw3 cto cr fr2 ci
                go_wp2_with fail
                go_at_call 20
                refine (si.srng_any _ _ _ _).mono ?_
                rintro r w9 ⟨R1, R2, R3, R4, rfl, hat9, ht9⟩
                have HBI9 := Lib.hid (boxed_same HBI.out ht9)
                have hrw9 := HRW3.out.same ht9
                have HRW9 := Lib.hid hrw9
                have HP9 := Lib.hid (HP3.out.same ht9)
                obtain ⟨root9, s1, s2⟩ := hrw9.sn.at_
                have HS1 := Lib.hid s1
                have HS2 := Lib.hid s2
                have HAT := Lib.hid hat9
                generalize wc.heap.size = nb at HBI9 hbn ⊢
                have HBN := Lib.hid hbn
                clear ht9 hrw9 s1 s2 hat9 HRW3 HP3 HBI cf hbn
                go_wp2_with fail
                refine (wpIn_wide (n := 10)).1 ?_
                refine wpIn_rangeFunc_ownF rfl (by decide) (gf := 65) (lb := #[.pointer (some ⟨R4, 0, none⟩)]) rfl trivial (enters_of Try.func65 (by kernel_rfl) rfl) (si.srng_stops (n := 10 - 1) HAT.out.b4 HAT.out.b1 HAT.out.b2 HAT.out.b3 HS1.out HS2.out) si.KeepsN.trans si.keepsN_b (Below.refl _ _) (fun _ => rfl)
                  (fun pre W => CountI w9 nb pre.length W) (fun _ _ _ => False) ?cI ?cIx ?c0 ?c1 ?cassign ?cbody ?cdone ?cstop
                case cI => exact CountI.own HBI9.out.lt (fun pre => pre.length)
                case cIx => exact fun _ _ _ _ _ h _ _ => h
                case c0 => exact ⟨HBI9.out, Turn.refl _ _⟩
                case cassign =>
                  intro l x W K hK
                  gi_wp2
                  exact hK
                case cstop => exact fun _ _ _ _ _ _ h _ => h.elim
                case cbody =>
                  intro lp pre x W hcount hlt
                  have ci := hcount.1.cell
                  have fi := hcount.1.frozen
                  have h4 := HL1.out
                  have i0 : (0 : Int) ≤ (pre.length : Int) := by omega
                  have i9 : (pre.length : Int) + 1 ≤ 1000 := by omega
                  have hset := hcount.set (pre.length + 1)
                  rw [show ((pre.length + 1 : Nat) : Int) = (pre.length : Int) + 1 by omega] at hset
                  have HSET := Lib.hid hset
                  clear hset hcount h4
                  gi_wp2
                  refine ⟨HSET.out.2.1, HSET.out.2.2, ?_⟩
                  have hl : (pre ++ [x]).length = pre.length + 1 := by simp
                  show CountI w9 nb (pre ++ [x]).length _
                  rw [hl]
                  exact HSET.out.1
                case cdone =>
                  intro D3 xs W3 hD3 hS hcount hK3
                  rw [hS] at hcount
                  obtain ⟨hx, _⟩ := HRW9.out.box hcount.2 HBI9.out HBN.out (by decide) (by decide) (by decide)
                  have hx3 := hx.cons hK3
                  have HX3 := Lib.hid hx3
                  have HP3 := Lib.hid (HP9.out.box hcount.2 HBI9.out)
                  have HDD3 := Lib.hid (show D2 < D3 from Nat.lt_of_lt_of_le (HRW9.out.below (by simp)) hD3)
                  have HB3 := Lib.hid hcount.1
                  have cto := hx3.r0.bt.cell
                  have HD3 := Lib.hid (Nat.le_trans HRW9.out.r0.turn.size hD3)
                  clear hx hx3 hK3 hcount hD3 hS HRW9 HP9 HS1 HS2 HAT HBI9
                  go_wp2_with fail
                  go_at_call 20
                  refine (si.srng_any _ _ _ _).mono ?_
                  rintro r w10 ⟨R1, R2, R3, R4, rfl, hat10, ht10⟩
                  have HBI10 := Lib.hid (boxed_same HB3.out ht10)
                  have hrw10 := HX3.out.same ht10
                  have HRW10 := Lib.hid hrw10
                  have HP10 := Lib.hid (HP3.out.same ht10)
                  obtain ⟨root10, s1, s2⟩ := hrw10.sn.at_
                  have HS1 := Lib.hid s1
                  have HS2 := Lib.hid s2
                  have HAT := Lib.hid hat10
                  clear ht10 hrw10 s1 s2 hat10 HX3 HP3 HB3 cto
                  go_wp2_with fail
                  refine (wpIn_wide (n := 10)).1 ?_
                  refine wpIn_rangeFunc_ownF rfl (by decide) (gf := 65) (lb := #[.pointer (some ⟨R4, 0, none⟩)]) rfl trivial (enters_of Try.func65 (by kernel_rfl) rfl) (si.srng_stops (n := 10 - 1) HAT.out.b4 HAT.out.b1 HAT.out.b2 HAT.out.b3 HS1.out HS2.out) si.KeepsN.trans si.keepsN_b (Below.refl _ _) (fun _ => rfl)
                    (fun pre W => CountI w10 nb ((betw fr mid t).length + pre.length) W) (fun _ _ _ => False) ?dI ?dIx ?d0 ?d1 ?dassign ?dbody ?ddone ?dstop
                  case dI => exact CountI.own HBI10.out.lt (fun pre => (betw fr mid t).length + pre.length)
                  case dIx => exact fun _ _ _ _ _ h _ _ => h
                  case d0 => exact ⟨HBI10.out, Turn.refl _ _⟩
                  case dassign =>
                    intro l x W K hK
                    gi_wp2
                    exact hK
                  case dstop => exact fun _ _ _ _ _ _ h _ => h.elim
                  case dbody =>
                    intro lp pre x W hcount hlt
                    obtain ⟨n0, hn0⟩ : ∃ n0, (betw fr mid t).length + pre.length = n0 := ⟨_, rfl⟩
                    have h4 := HL2.out
                    have i0 : (0 : Int) ≤ (n0 : Int) := by omega
                    have i9 : (n0 : Int) + 1 ≤ 1000 := by omega
                    rw [hn0] at hcount
                    have ci := hcount.1.cell
                    have fi := hcount.1.frozen
                    have hset := hcount.set (n0 + 1)
                    rw [show ((n0 + 1 : Nat) : Int) = (n0 : Int) + 1 by omega] at hset
                    have HSET := Lib.hid hset
                    have HN0 := Lib.hid hn0
                    clear hset hcount h4 hn0
                    gi_wp2
                    refine ⟨HSET.out.2.1, HSET.out.2.2, ?_⟩
                    have hl : (betw fr mid t).length + (pre ++ [x]).length = n0 + 1 := by have := HN0.out; simp; omega
                    show CountI w10 nb ((betw fr mid t).length + (pre ++ [x]).length) _
                    rw [hl]
                    exact HSET.out.1
                  case ddone =>
                    intro D4 xs W4 hD4 hS hcount hK4
                    rw [hS, HSPL.out] at hcount
                    obtain ⟨hx, _⟩ := HRW10.out.box hcount.2 HBI10.out HBN.out (by decide) (by decide) (by decide)
                    have hx4 := hx.cons hK4
                    have h34 : D3 < D4 := Nat.lt_of_lt_of_le (HRW10.out.below (by simp)) hD4
                    have h23 := HDD3.out
                    have h12 := HDD.out
                    obtain ⟨vn, cn, spn, capn, rfl, _⟩ := (HP10.out.box hcount.2 HBI10.out).pairs
                    have ci := hcount.1.cell
                    obtain ⟨rb, hrb⟩ := hx4.r0.br
                    have cr : W4.cell? ⟨M + 1 + 1, 0, none⟩ = some (.bool rb) := hrb.cell
                    have fr2 : W4.frozen? ⟨M + 1 + 1, 0, none⟩ = false := hrb.frozen
                    have E0 := hx4.set true
                    have E1 := mark_taken E0.1 (Nat.le_trans HRW10.out.r0.turn.size hD4) (E0.2.2 D4 (by simp)) E0.2.1
                    have E2 := mark_taken E1.1 HD3.out (E1.2.2 D3 (by omega) (E0.2.2 D3 (by simp))) E1.2.1
                    have E3 := mark_taken E2.1 HD2.out (E2.2.2 D2 (by omega) (E1.2.2 D2 (by omega) (E0.2.2 D2 (by simp)))) E2.2.1
                    have E4 := mark_taken E3.1 HD.out (E3.2.2 D (by omega) (E2.2.2 D (by omega) (E1.2.2 D (by omega) (E0.2.2 D (by simp))))) E3.2.1
                    have M4 := Lib.hid (E0.2.2 D4 (by simp))
                    have M3 := Lib.hid (E1.2.2 D3 (by omega) (E0.2.2 D3 (by simp)))
                    have M2 := Lib.hid (E2.2.2 D2 (by omega) (E1.2.2 D2 (by omega) (E0.2.2 D2 (by simp))))
                    have M1 := Lib.hid (E3.2.2 D (by omega) (E2.2.2 D (by omega) (E1.2.2 D (by omega) (E0.2.2 D (by simp)))))
                    have ME := Lib.hid E4
                    clear hx hx4 hK4 hcount hrb hD4 hS E0 E1 E2 E3 E4 HRW10 HP10 HS1 HS2 HAT HBI10 HBN h34 h23 h12
                    go_wp2_with fail
                    refine ⟨by simp, .inl ⟨_, _, rfl, run_takeDeferred M4.out, ?_⟩⟩
                    refine ⟨by simp, .inl ⟨_, _, rfl, run_takeDeferred M3.out, ?_⟩⟩
                    refine ⟨by simp, .inl ⟨_, _, rfl, run_takeDeferred M2.out, ?_⟩⟩
                    refine ⟨by simp, .inl ⟨_, _, rfl, run_takeDeferred M1.out, ?_⟩⟩
                    exact ⟨_, results_ranges (g := M + 1 + 1) rfl ME.out.2.1, rfl, ME.out.1⟩
  · cases b1 with
    | false =>
      clear hbig hb1
      go_wp2_with fail
      exact ⟨_, results_ranges (g := M + 1 + 1) rfl HEND.out.2, rfl, HEND.out.1.turn⟩
    | true =>
      by_cases h1 : fr.length ≤ 1000
      · have i1 : (fr.length : Int) ≤ 1000 := by omega
        by_cases h2 : mid.length ≤ 1000
        · have i2 : (mid.length : Int) ≤ 1000 := by omega
          have i3 : (1000 : Int) < (tu.length : Int) := by
            by_cases h3 : tu.length ≤ 1000
            · exact absurd ⟨rfl, h1, h2, h3⟩ hbig
            · omega
          clear hbig hb1 h1 h2
          go_wp2_with fail
          exact ⟨_, results_ranges (g := M + 1 + 1) rfl HEND.out.2, rfl, HEND.out.1.turn⟩
        · have i2 : (1000 : Int) < (mid.length : Int) := by omega
          clear hbig hb1 h1 h2
          go_wp2_with fail
          exact ⟨_, results_ranges (g := M + 1 + 1) rfl HEND.out.2, rfl, HEND.out.1.turn⟩
      · have i1 : (1000 : Int) < (fr.length : Int) := by omega
        clear hbig hb1 h1
        go_wp2_with fail
        exact ⟨_, results_ranges (g := M + 1 + 1) rfl HEND.out.2, rfl, HEND.out.1.turn⟩

theorem strV_of (s : ByteArray) : strV s.data.toList = .string s := by simp [strV]

theorem ranges_bytes {va : Value} {l : List Op3} (ha : OpsR w va l) (hl : l.length ≤ maxLen) (s t u : ByteArray) (k1 : s.size ≤ maxLen) (k2 : t.size ≤ maxLen) (k3 : u.size ≤ maxLen) :
    Calls Try.prog 4 #[va, .string s, .string t, .string u] w fun r w' => r = .returned (.bool true) ∧ Turn (fun _ => False) w w' := by
  unfold maxLen at hl k1 k2 k3
  have e : ∀ b : ByteArray, b.data.toList.length = b.size := fun b => by simp
  have h := ranges_walk (w := w) ha (by omega) s.data.toList t.data.toList u.data.toList (by rw [e]; omega) (by rw [e]; omega) (by rw [e]; omega)
  rw [strV_of, strV_of, strV_of] at h
  exact h
end
end Go.Proofs.Ytblaicejpijfbaa
