/-
  WalOpens: the walk.
-/
import Derived.Test.YtkhlejficonhpaaGreatDoorWOpenB
import Derived.Test.YtkhlejficonhpaaGreatDoorWH
import Derived.Test.YtkhlejficonhpaaGreatDoorWB
import Derived.Test.YtkhlejficonhpaaGreatDoorWFirst
namespace Go.Proofs.YtkhlejficonhpaaGreatDoor
open Go.RowKit Go.Maps Go.WideMaps

section
variable {w w' : World} {l : List (List UInt8)}

set_option maxRecDepth 100000 in
set_option maxHeartbeats 16000000 in
theorem opens_walk (hT : SumTab w) {v : Value} (hL : ListsIn w v l) (hbl : ∀ q ∈ l, q.length ≤ 1048576) (hcl : l.length ≤ 60 → cost l ≤ 2000000) (from_ gap : Int) (dn : Bool) :
    Calls Tryz.prog 6 #[v, .int .i64 from_, .int .i64 gap, .bool dn] w fun r w' => r = .returned (.bool true) ∧ Turn (fun _ => False) w w' := by
  obtain ⟨sp, cap, rfl, hml, hcc⟩ := hL
  have HL : Hid (ListsIn w (.slice sp l.length cap) l) := Lib.hid ⟨sp, cap, rfl, hml, hcc⟩
  obtain ⟨a, ha1, ha2, hA3, hA4, hA5, hA6, hA7⟩ := rem50 from_
  have HA := Lib.hid (show 1 ≤ a ∧ a ≤ 50 from ⟨ha1, ha2⟩)
  have HT := Lib.hid hT
  have HBL := Lib.hid hbl
  have HCL := Lib.hid hcl
  clear hcc hT hbl hcl ha1 ha2
  unfold maxLen at hml
  go_enter Tryz.func6, Tryz.ntmps6
  go_wp2_with fail
  go_at_call 10
  refine (first_any HT.out).mono ?_
  rintro r w1 ⟨rfl, t1⟩
  have T1 := Lib.hid t1
  clear t1
  go_wp2_with fail
  go_at_call 11
  refine (wFew_any (HL.out.turned T1.out)).mono ?_
  rintro r w2 ⟨small, rfl, hsm, hlk⟩
  have T2 := Lib.hid (Turn.like T1.out hlk)
  clear hlk T1
  cases small with
  | false =>
    clear hsm
    go_wp2
    go_ret
    exact ⟨rfl, T2.out⟩
  | true =>
    have H60 := Lib.hid (hsm rfl)
    clear hsm
    by_cases h20 : l.length ≤ 20
    · have i20 : (l.length : Int) ≤ 20 := by omega
      have d20 : decide ((20 : Int) < (l.length : Int)) = false := by simp; omega
      have HC := Lib.hid (HCL.out H60.out)
      clear HCL
      go_wp2_with fail
      go_at_call 12
      refine (new_any 67108864 _).mono ?_
      rintro r w3 ⟨rfl, hr3, ht3⟩
      have q3 : BuiltAt w w3 w2.heap.size a gap l 0 0 := by
        obtain ⟨mo, pl, hr⟩ := hr3
        have hsz := T2.out.size
        exact ⟨_, ⟨⟨mo, pl, hr.mono (fun b hb => ⟨by omega, hb.2⟩) (fun b hb => hb.2)⟩, T2.out.trans ht3 (fun _ _ q => q)⟩, built_new a gap l⟩
      have Q3 := Lib.hid q3
      clear hr3 ht3 q3
      obtain ⟨p, hp⟩ : ∃ p, p = w2.heap.size := ⟨_, rfl⟩
      rw [← hp] at Q3 ⊢
      clear hp
      go_wp2_with fail
      go_loopw [12, 13] (fun n i wr => ∃ k : Nat, k ≤ l.length ∧ i = .int .i64 k ∧ n = .int .i64 ((nxt a gap k : Nat) : Int) ∧ BuiltAt w wr p a gap l k 0 ∧ Turn (fun _ => False) w wr) (fun _ i _ => l.length - (intOf i).toNat)
      case atStart =>
        have e : nxt a gap 0 = a := by unfold nxt; rw [if_neg (by omega)]; omega
        obtain ⟨S, hS, hB⟩ := Q3.out
        exact ⟨0, Nat.zero_le _, rfl, by rw [e], ⟨S, hS, hB⟩, hS.2⟩
      case round =>
        obtain ⟨k, hk, rfl, rfl, hb, htw⟩ := hrel
        have HB := Lib.hid hb
        have HTW := Lib.hid htw
        clear hb htw
        by_cases hlt : k < l.length
        · obtain ⟨sp', cap', hv, _, hcc⟩ := HL.out
          simp only [Value.slice.injEq] at hv
          obtain ⟨rfl, _, rfl⟩ := hv
          obtain ⟨ad, u, hsp, hat, hok⟩ := hcc k _ (List.getElem?_eq_getElem hlt)
          subst hsp
          obtain ⟨Mid, hM1, hM2⟩ := HB.out.round hlt H60.out HA.out.1 HA.out.2 HC.out hok
          obtain ⟨spq, capq, hu, hsrest⟩ := hok.c
          subst hu
          clear hsrest
          have i0 : (0 : Int) ≤ (k : Int) := by omega
          have i1 : (k : Int) < (l.length : Int) := by omega
          have hb1 := num_bounds a gap k
          have hb2 := nxt_bounds a gap k
          have hns := nxt_succ a gap k
          have hnm : ∀ (W : World), Calls Tryz.prog 30 #[.string ⟨#[119]⟩, .int .i64 ((num a gap k : Nat) : Int)] W fun r w' => r = .returned (.string (segName ⟨#[119]⟩ (num a gap k))) ∧ Turn (fun _ => False) W w' :=
            fun W => refName_any ⟨#[119]⟩ (by decide) (num a gap k) (by have := HA.out; omega) W
          have hskip := fun (h : (k : Int) = gap) (h0 : 0 < k) => num_skip (a := a) h h0
          have hsame := fun (h : ¬ ((k : Int) = gap ∧ 0 < k)) => num_same (a := a) h
          generalize l[k].length = lenq at *
          generalize num a gap k = M at *
          generalize nxt a gap k = N at *
          generalize segName ⟨#[119]⟩ M = nm at *
          have hMb : M ≤ 200 := by have := HA.out; omega
          have hNb : N ≤ 200 := by have := HA.out; omega
          have jN : (N : Int) ≤ 200 := by omega
          have HNS := Lib.hid hns
          have HM1 := Lib.hid hM1
          have HM2 := Lib.hid hM2
          have HNM := Lib.hid hnm
          have HAT := Lib.hid hat
          have HLT := Lib.hid hlt
          clear hns hM1 hM2 hnm hat hok hcc hb1 hb2
          have hcase : ((k : Int) == gap) = true ∧ decide (0 < k) = true ∧ M = N + 1 ∨ ((k : Int) == gap) = true ∧ decide (0 < k) = false ∧ M = N ∨ ((k : Int) == gap) = false ∧ M = N := by
            by_cases hg : (k : Int) = gap
            · by_cases hk0 : 0 < k
              · exact Or.inl ⟨beq_iff_eq.2 hg, by simpa using hk0, hskip hg hk0⟩
              · exact Or.inr (Or.inl ⟨beq_iff_eq.2 hg, by simpa using hk0, hsame (fun q => hk0 q.2)⟩)
            · exact Or.inr (Or.inr ⟨by simpa using hg, hsame (fun q => hg q.1)⟩)
          clear hskip hsame hlt
          rcases hcase with ⟨b1, b2, rfl⟩ | ⟨b1, b2, rfl⟩ | ⟨b1, rfl⟩
          all_goals
            go_wp2_with fail
            go_at_call 30
            refine (HNM.out _).mono ?_
            rintro r wa ⟨rfl, ta⟩
            have TA := Lib.hid ta
            clear ta
            go_wp2_with fail
            go_at_call 38
            refine (HM1.out _ TA.out).mono ?_
            rintro r wb ⟨rfl, hb, tb⟩
            have HBx := Lib.hid hb
            have TB := Lib.hid tb
            clear hb tb
            go_wp2_with fail
            have c2 := turn_cell TB.out HAT.out
            go_region_held3 (fun w' => w'.cell? (ad.add k) = some (.slice spq lenq capq)) (first | (exact q0) | (exact c2) | go_keep) (first | (go_at_call 30; refine (HNM.out _).mono ?_; rintro r wc ⟨rfl, tc⟩; have tc2 := drewTurn tc; have q0 := turn_cell (TB.out.trans tc2 (fun _ _ q => q)) HAT.out) | (go_at_call 39; refine (HM2.out _ _ HBx.out tc2).mono ?_; rintro r wd ⟨rfl, hd, td⟩; have q0 := turn_cell td HAT.out))
            have HD := Lib.hid hd
            have TD := Lib.hid td
            clear hd td c2 tc tc2
            go_wp2_with fail
            go_roundw
            case rel => exact ⟨k + 1, by have := HLT.out; omega, by go_num, by rw [HNS.out]; go_num, HD.out, TD.out⟩
            case measure => have := HLT.out; simp [intOf]; omega
        · have hk0 : k = l.length := by omega
          subst hk0
          have i1 : ¬ (l.length : Int) < (l.length : Int) := by omega
          have hot := HB.out.other (by have := H60.out; omega)
          have HOT := Lib.hid hot
          clear hot hlt hk
          go_wp2_with fail
          go_at_call 38
          refine HOT.out.mono ?_
          rintro r w4 ⟨rfl, hb4⟩
          have B4 := Lib.hid hb4
          clear hb4 HOT HB
          cases dn with
          | true =>
            obtain ⟨Mid, hm1, hm2⟩ := B4.out.fall (by omega)
            have HM1 := Lib.hid hm1
            have HM2 := Lib.hid hm2
            clear hm1 hm2
            go_wp2_with fail
            go_at_call 15
            refine HM1.out.mono ?_
            rintro r w5 ⟨rfl, hb5⟩
            have B5 := Lib.hid hb5
            clear hb5
            go_wp2_with fail
            go_at_call 38
            refine (HM2.out _ B5.out).mono ?_
            rintro r w6 ⟨rfl, hb6⟩
            have B6 := Lib.hid hb6
            clear hb6
            go_wp2_with fail
            go_at_call 13
            refine B6.out.opens.mono ?_
            rintro r w7 ⟨rfl, t7⟩
            have T7 := Lib.hid t7
            clear t7
            go_wp2_with (go_at_call 14; refine (num_any _ _).mono ?_; rintro r w' ⟨rfl, rfl⟩)
            go_ret
            exact ⟨rfl, T7.out⟩
          | false =>
            by_cases h0 : l.length = 0
            · obtain rfl : l = [] := List.length_eq_zero_iff.1 h0
              go_wp2_with fail
              go_at_call 13
              refine (B4.out.opensNew HT.out).mono ?_
              rintro r w7 ⟨lp, sp7, cap7, S7, Q7, rfl, hx7⟩
              have X7 := Lib.hid hx7
              clear hx7
              go_wp2_with (first | (go_at_call 14; refine (num_any _ _).mono ?_; rintro r w' ⟨rfl, rfl⟩) | (go_at_call 34; refine (segment_is X7.out).mono ?_; rintro r w' ⟨rfl, rfl⟩))
              go_ret
              exact ⟨rfl, X7.out.turn⟩
            · have hpos : 0 < l.length := by omega
              obtain ⟨L1, eL1, eL1n⟩ : ∃ L1 : Nat, (l.length : Int) - 1 = (L1 : Int) ∧ l.length - 1 = L1 := ⟨l.length - 1, by omega, rfl⟩
              have HOP := Lib.hid (B4.out.opens HT.out h20 hpos HA.out.1 HA.out.2)
              have HPOS := Lib.hid hpos
              have HL1 := Lib.hid eL1n
              have bz : ((l.length : Int) == 0) = false := by rw [beq_eq_false_iff_ne]; omega
              clear hpos h0 eL1n
              go_wp2_with fail
              go_at_call 13
              refine HOP.out.mono ?_
              rintro r w8 ⟨lg, u8, e8, rfl, htold, t8⟩
              have HTO := Lib.hid htold
              have T8 := Lib.hid t8
              clear htold t8 HOP B4
              have hgc : (∃ bb : Bool, (bb = true ↔ Gapped gap l) ∧ bb = true ∧ 0 < gap ∧ gap < (l.length : Int)) ∨ (∃ bb : Bool, (bb = true ↔ Gapped gap l) ∧ bb = false ∧ decide (0 < gap) = false) ∨ (∃ bb : Bool, (bb = true ↔ Gapped gap l) ∧ bb = false ∧ 0 < gap ∧ decide (gap < (l.length : Int)) = false) := by
                by_cases g1 : 0 < gap
                · by_cases g2 : gap < (l.length : Int)
                  · exact Or.inl ⟨true, ⟨fun _ => ⟨g1, g2⟩, fun _ => rfl⟩, rfl, g1, g2⟩
                  · exact Or.inr (Or.inr ⟨false, ⟨fun q => (by cases q), fun q => absurd q.2 g2⟩, rfl, g1, by simpa using g2⟩)
                · exact Or.inr (Or.inl ⟨false, ⟨fun q => (by cases q), fun q => absurd q.1 g1⟩, rfl, by simpa using g1⟩)
              rcases hgc with ⟨bb0, hb0, hbv, g1, g2⟩ | ⟨bb0, hb0, hbv, g1⟩ | ⟨bb0, hb0, hbv, g1, g2⟩
              all_goals
                rw [hbv] at hb0
                have HB0 := Lib.hid hb0
                clear hb0 hbv bb0
                go_wp2_with fail
                go_loopw [17, 18, 19, 20] (fun bv wv cv iv wr => ∃ (k : Nat) (bb : Bool) (cu : Nat), k ≤ l.length ∧ iv = .int .i64 k ∧ bv = .bool bb ∧ cv = .int .i64 (cu : Nat) ∧ (bb = true ↔ BadTo gap l k) ∧ (∀ q, 0 < k → l[k - 1]? = some q → cu = q.length - (Walp.frames (Walp.scan q)).length) ∧ (∃ sp2 cap2, wv = .slice sp2 (wantOf l k).length cap2 ∧ ListsO wr w8.heap.size (.slice sp2 (wantOf l k).length cap2) (wantOf l k)) ∧ Turn (fun _ => False) w8 wr) (fun _ _ _ iv _ => l.length - (intOf iv).toNat)
                case atStart => exact ⟨0, _, 0, Nat.zero_le _, rfl, rfl, rfl, by rw [badTo_0]; first | exact HB0.out | simpa using HB0.out, fun q h => by omega, ⟨none, 0, rfl, ListsO.nil _ _⟩, Turn.refl _ _⟩
                case round =>
                  obtain ⟨k, bb, cu, hk, rfl, rfl, rfl, hbb, hcu, ⟨sp2, cap2, rfl, hls⟩, ht⟩ := hrel
                  have HBB := Lib.hid hbb
                  have HCU := Lib.hid hcu
                  have HLS := Lib.hid hls
                  have HTT := Lib.hid ht
                  have HT9 := Lib.hid (T8.out.trans ht (fun _ _ q => q))
                  clear hbb hcu hls ht
                  by_cases hlt : k < l.length
                  · obtain ⟨sp', cap', hv, _, hcc⟩ := HL.out
                    simp only [Value.slice.injEq] at hv
                    obtain ⟨rfl, _, rfl⟩ := hv
                    obtain ⟨ad, u, hsp, hat, hok⟩ := hcc k _ (List.getElem?_eq_getElem hlt)
                    subst hsp
                    have hq : l[k]? = some l[k] := List.getElem?_eq_getElem hlt
                    have hql : l[k].length ≤ 1048576 := HBL.out _ (List.getElem_mem hlt)
                    have hwt := want_take hlt
                    have hwl := want_le l k
                    generalize l[k] = q at *
                    obtain ⟨spq, capq, hu, hsrest⟩ := hok.c
                    subst hu
                    clear hsrest hcc
                    have c2 := turn_cell HT9.out hat
                    have hsc := refScan_any (w := wr) (hok.turned HT9.out).c (by omega)
                    have hE := frames_le q
                    have hslen := scan_le q
                    obtain ⟨E, eE⟩ : ∃ E, E = (Walp.frames (Walp.scan q)).length := ⟨_, rfl⟩
                    obtain ⟨D, eD⟩ : ∃ D, D = decide ((Walp.frames (Walp.scan q)).length = q.length) := ⟨_, rfl⟩
                    have hDw : D = wholeF q := eD
                    rw [← eD, ← eE] at hsc
                    rw [← eE] at hE
                    obtain ⟨lq, elq⟩ : ∃ lq, lq = q.length := ⟨_, rfl⟩
                    rw [← elq] at hsc c2 hE hql hslen hat
                    obtain ⟨cu', ecu⟩ : ∃ cu' : Nat, cu' = lq - E := ⟨_, rfl⟩
                    have hsub : (lq : Int) - (E : Int) = (cu' : Int) := by omega
                    have i0 : (0 : Int) ≤ (k : Int) := by omega
                    have i1 : (k : Int) < (l.length : Int) := by omega
                    have hcase : ∃ bb' : Bool, (bb' = true ↔ BadTo gap l (k + 1)) ∧ (D = true ∧ bb' = bb ∨ D = false ∧ (k : Int) < (L1 : Int) ∧ bb' = true ∨ D = false ∧ ¬ (k : Int) < (L1 : Int) ∧ bb' = bb) := by
                      have hL1 := HL1.out
                      cases hD : D with
                      | true => exact ⟨bb, HBB.out.trans (badTo_same hq (Or.inl (by rw [← hDw]; exact hD))).symm, Or.inl ⟨rfl, rfl⟩⟩
                      | false =>
                        by_cases hk1 : k + 1 < l.length
                        · exact ⟨true, ⟨fun _ => badTo_bad hq (by rw [← hDw]; exact hD) hk1, fun _ => rfl⟩, Or.inr (Or.inl ⟨rfl, by omega, rfl⟩)⟩
                        · exact ⟨bb, HBB.out.trans (badTo_same hq (Or.inr hk1)).symm, Or.inr (Or.inr ⟨rfl, by omega, rfl⟩)⟩
                    have HSC := Lib.hid hsc
                    have HWT := Lib.hid hwt
                    have HWL := Lib.hid (show (wantOf l k).length + (Walp.scan q).length ≤ 4000000 by have := HC.out; omega)
                    have HQ := Lib.hid (show ∀ q', 0 < k + 1 → l[k + 1 - 1]? = some q' → cu' = q'.length - (Walp.frames (Walp.scan q')).length by
                      intro q' _ h
                      rw [Nat.add_sub_cancel, hq] at h
                      cases h
                      rw [ecu, elq, eE])
                    have HLT := Lib.hid hlt
                    have HAT := Lib.hid hat
                    clear hsc hwt hwl hq hok hat hlt hDw eD eE elq hslen ecu
                    obtain ⟨bb', hbb', hcs⟩ := hcase
                    have HBB' := Lib.hid hbb'
                    clear hbb'
                    rcases hcs with ⟨rfl, rfl⟩ | ⟨rfl, i5, rfl⟩ | ⟨rfl, i5, rfl⟩
                    all_goals
                      go_wp2_with fail
                      go_at_call 23
                      refine HSC.out.mono ?_
                      rintro r w10 ⟨⟨v10, rfl, hls10⟩, t10⟩
                      have HLS10 := Lib.hid hls10
                      have T10 := Lib.hid t10
                      have c10 := turn_cell (HT9.out.trans t10 (fun _ _ q => q)) HAT.out
                      clear hls10 t10
                      go_wp2_with (at_builtin; refine append_lists rfl (.tmp 163) (.tmp 164) rfl (base := w8.heap.size) rfl rfl (HLS.out.new T10.out) (HLS10.out.mono (by have := HTT.out.size; omega)) (by have := HWL.out; omega) (by have := HTT.out.size; have := T10.out.size; omega) ?_)
                      intro sp5 cap5 w5 hls5 t5
                      have htw : Turn (fun _ => False) w8 w5 := by
                        refine (HTT.out.trans T10.out (fun _ _ q => q)).trans t5 (fun i hi q => ?_)
                        obtain ⟨xs, o1, _, _⟩ := HLS.out
                        have := (own_block o1 q).1
                        omega
                      have HTW := Lib.hid htw
                      have HL5 := Lib.hid hls5
                      clear htw hls5 t5 c10
                      go_wp2
                      go_roundw
                      case rel => exact ⟨k + 1, _, cu', by have := HLT.out; omega, by go_num, rfl, rfl, by first | exact HBB'.out | simpa using HBB'.out, HQ.out, ⟨sp5, cap5, by rw [HWT.out, List.length_append], by rw [HWT.out, List.length_append]; exact HL5.out⟩, HTW.out⟩
                      case measure => have := HLT.out; simp [intOf]; omega
                  · have hk0 : k = l.length := by omega
                    subst hk0
                    have i1 : ¬ (l.length : Int) < (l.length : Int) := by omega
                    cases bb with
                    | true =>
                      rcases HTO.out with ⟨_, rfl, rfl, rfl⟩ | ⟨hnb, _⟩
                      · clear hlt hk
                        go_wp2_with (go_at_call 14; refine (num_any _ _).mono ?_; rintro r w' ⟨rfl, rfl⟩)
                        go_ret
                        exact ⟨rfl, HT9.out⟩
                      · exact absurd (HBB.out.1 rfl) hnb
                    | false =>
                      rcases HTO.out with ⟨hbad, _⟩ | ⟨hnb, rfl, lp, S2, Q, sp9, cap9, g, q, rfl, rfl, hls9, hq, hx9, hf9, hg9⟩
                      · exact absurd (HBB.out.2 hbad) (by simp)
                      · have hng : ¬ Gapped gap l := fun h => hnb (Or.inl h)
                        have ecu := HCU.out q HPOS.out hq
                        rw [← ecu] at hx9
                        obtain ⟨LST, eLST⟩ : ∃ LST, LST = a + l.length - 1 := ⟨_, rfl⟩
                        rw [← eLST] at hx9 hf9
                        have hnx : ((nxt a gap l.length : Nat) : Int) - 1 = (LST : Int) := by
                          unfold Gapped at hng
                          unfold nxt
                          rw [if_neg hng]
                          have := HPOS.out
                          omega
                        have hLST : LST < 100000000 := by have := HA.out; omega
                        have hnxb := nxt_bounds a gap l.length
                        have hnxb2 : ((nxt a gap l.length : Nat) : Int) ≤ 200 := by have := HA.out; omega
                        generalize nxt a gap l.length = NX at *
                        obtain ⟨E, eE⟩ : ∃ E, E = (Walp.frames (Walp.scan q)).length := ⟨_, rfl⟩
                        have hE := frames_le q
                        rw [← eE] at hE ecu hg9
                        have hX := hx9.later HTT.out
                        have hA := (hls9.new HTT.out).toR
                        have hB := HLS.out.toR
                        have hwl : (wantOf l l.length).length ≤ maxLen := by have := want_le l l.length; have := HC.out; unfold maxLen; omega
                        have hwe : ∀ q', q' ∈ wantOf l l.length → q'.length ≤ maxLen := fun q' h => want_each h
                        obtain ⟨sp', cap', hv, _, hcc⟩ := HL.out
                        simp only [Value.slice.injEq] at hv
                        obtain ⟨rfl, _, rfl⟩ := hv
                        rw [HL1.out] at hq
                        obtain ⟨ad, u, hsp, hat, hok⟩ := hcc L1 q hq
                        subst hsp
                        have hqm : q.length ≤ 1048576 := HBL.out q (List.mem_of_getElem? hq)
                        obtain ⟨spq, capq, hu, hcap, hcap2, hcellq⟩ := hok.c
                        subst hu
                        have hgl : g.data.length = E := by rw [hg9, List.length_take]; omega
                        have hgm : g.data.length ≤ maxLen := by unfold maxLen; omega
                        have hrd : ∀ W, Turn (fun _ => False) wr W → Calls Tryz.prog 37 #[.pointer (some ⟨p, 0, none⟩), .string (segName ⟨#[119]⟩ LST)] W fun r w' => (∃ g0, r = .returned (.tuple #[.slice (some ⟨g0, 0, none⟩) g.data.length g.data.length, .int .i64 0]) ∧ SliceC w' (.slice (some ⟨g0, 0, none⟩) g.data.length g.data.length) g.data) ∧ g.data.length ≤ 67108864 ∧ Turn (fun _ => False) W w' :=
                          fun W hW => read_file (hX.later hW) LST (by show wD.length ≤ 1000; decide) hf9
                        have hnm : ∀ (W : World), Calls Tryz.prog 30 #[.string ⟨#[119]⟩, .int .i64 (LST : Int)] W fun r w' => r = .returned (.string (segName ⟨#[119]⟩ LST)) ∧ Turn (fun _ => False) W w' :=
                          fun W => refName_any ⟨#[119]⟩ (by decide) LST hLST W
                        generalize segName ⟨#[119]⟩ LST = nm at hrd hnm
                        have hst : ∃ st : Nat, ∀ W, Turn (fun _ => False) wr W → Calls Tryz.prog 41 #[.pointer (some ⟨p, 0, none⟩)] W fun r w' => r = .returned (.int .i64 (st : Nat)) ∧ W = w' :=
                          ⟨S2.steps, fun W hW => by
                            obtain ⟨mo, pl, hr⟩ := (hX.later hW).rep
                            exact steps_is hr⟩
                        obtain ⟨st, hst⟩ := hst
                        have hbt : ∀ W, Turn (fun _ => False) wr W → SliceR W (.slice spq E capq) g.data := fun W hW => by
                          have := ((hok.turned (HT9.out.trans hW (fun _ _ q => q))).c.take hE).toR
                          rw [hg9]; exact this
                        have hcut : ∀ W, Turn (fun _ => False) wr W → Calls Tryz.prog 40 #[.pointer (some ⟨lp, 0, none⟩)] W fun r w' => r = .returned (.int .i64 (cu : Nat)) ∧ W = w' := fun W hW => cut_is (hX.later hW)
                        have hfst : ∀ W, Turn (fun _ => False) wr W → Calls Tryz.prog 35 #[.pointer (some ⟨lp, 0, none⟩)] W fun r w' => r = .returned (.int .i64 (a : Nat)) ∧ W = w' := fun W hW => first_is (hX.later hW)
                        have hseg : ∀ W, Turn (fun _ => False) wr W → Calls Tryz.prog 34 #[.pointer (some ⟨lp, 0, none⟩)] W fun r w' => r = .returned (.int .i64 (LST : Nat)) ∧ W = w' := fun W hW => segment_is (hX.later hW)
                        have HCUT := Lib.hid hcut
                        have HFST := Lib.hid hfst
                        have HSEG := Lib.hid hseg
                        clear hcut hfst hseg
                        have HAB := Lib.hid (show ListsR wr (.slice sp9 (wantOf l l.length).length cap9) (wantOf l l.length) ∧ ListsR wr (.slice sp2 (wantOf l l.length).length cap2) (wantOf l l.length) from ⟨hA, hB⟩)
                        have HWL := Lib.hid hwl
                        have HWE := Lib.hid hwe
                        have HX := Lib.hid hX
                        have HRD := Lib.hid hrd
                        have HNM := Lib.hid hnm
                        have HST := Lib.hid hst
                        have HBT := Lib.hid hbt
                        have HAT := Lib.hid hat
                        have HGM := Lib.hid hgm
                        obtain ⟨lq, elq⟩ : ∃ lq, lq = q.length := ⟨_, rfl⟩
                        rw [← elq] at hcap hE ecu hqm
                        have hsub : (lq : Int) - (cu : Int) = (E : Int) := by omega
                        have j1 : (E : Int) ≤ (capq : Int) := by omega
                        have j2 : (0 : Int) ≤ (E : Int) := by omega
                        have j3 : (L1 : Int) < (l.length : Int) := by omega
                        have j4 : (0 : Int) ≤ (L1 : Int) := by omega
                        have j5 : (0 : Int) ≤ (st : Int) := by omega
                        have j6 : (E : Int) ≤ 1048576 := by omega
                        have j7 : (lq : Int) ≤ 1048576 := by omega
                        have j8 : (LST : Int) ≤ 200 := by omega
                        have j9 : (cu : Int) ≤ 1048576 := by omega
                        have c9 : wr.cell? (ad.add L1) = some (.slice spq lq capq) := by rw [elq]; exact turn_cell HT9.out hat
                        have HAT2 := Lib.hid (show w.cell? (ad.add L1) = some (.slice spq lq capq) by rw [elq]; exact hat)
                        clear hcc hok hat hX hA hB hwl hwe hrd hnm hst hbt hx9 hf9 hg9 hls9 hq hcellq hgm hgl hnb hng eLST hlt hk ecu HAT hqm eE elq hcap hcap2 hnxb hE hLST
                        generalize (wantOf l l.length) = WL at HAB HWL HWE HLS ⊢
                        generalize g.data = gd at HRD HBT HGM
                        generalize hw : WL.length = wlen at *
                        have HW := Lib.hid hw
                        clear hw
                        go_wp2_with (go_at_call 14; refine (num_any _ _).mono ?_; rintro r w' ⟨rfl, rfl⟩)
                        go_at_call 20
                        refine (sameLists_any HAB.out.1 HAB.out.2 (by rw [HW.out]; exact HWL.out) (by rw [HW.out]; exact HWL.out) HWE.out HWE.out).mono ?_
                        rintro r w10 ⟨rfl, hlk⟩
                        rw [decide_eq_true rfl]
                        have T10 := Lib.hid hlk.turn
                        clear hlk
                        go_wp2_with (first | (go_at_call 40; refine (HCUT.out _ T10.out).mono ?_; rintro r w' ⟨rfl, rfl⟩) | (go_at_call 35; refine (HFST.out _ T10.out).mono ?_; rintro r w' ⟨rfl, rfl⟩) | (go_at_call 34; refine (HSEG.out _ T10.out).mono ?_; rintro r w' ⟨rfl, rfl⟩))
                        go_at_call 30
                        refine (HNM.out _).mono ?_
                        rintro r w11 ⟨rfl, t11⟩
                        have T11 := Lib.hid (T10.out.trans t11 (fun _ _ q => q))
                        clear t11
                        go_wp2_with fail
                        go_at_call 37
                        refine (HRD.out _ T11.out).mono ?_
                        rintro r w12 ⟨⟨g0, rfl, hsl⟩, _, t12⟩
                        have T12 := Lib.hid (T11.out.trans t12 (fun _ _ q => q))
                        have HSL := Lib.hid hsl.toR
                        have c12 := turn_cell (HT9.out.trans T12.out (fun _ _ q => q)) HAT2.out
                        clear hsl t12
                        go_wp2_with fail
                        go_at_call 24
                        refine (same_any HSL.out (HBT.out _ T12.out) HGM.out HGM.out).mono ?_
                        rintro r w13 ⟨rfl, hlk13⟩
                        rw [decide_eq_true rfl]
                        have T13 := Lib.hid (Turn.like T12.out hlk13)
                        clear hlk13
                        go_wp2_with (go_at_call 41; refine (HST.out _ T13.out).mono ?_; rintro r w' ⟨rfl, rfl⟩)
                        go_ret
                        exact ⟨rfl, HT9.out.trans T13.out (fun _ _ q => q)⟩
    · have i20 : (20 : Int) < (l.length : Int) := by omega
      go_wp2_with fail
      go_ret
      exact ⟨rfl, T2.out⟩

end
end Go.Proofs.YtkhlejficonhpaaGreatDoor
