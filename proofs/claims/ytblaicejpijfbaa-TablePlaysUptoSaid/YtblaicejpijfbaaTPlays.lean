/-
  OF THE LAWS: TablePlays, walked.
-/
import Derived.Test.YtblaicejpijfbaaTPlaysP
import Derived.StillTailTactics
import Derived.Deep.DeepCutAuto
import Derived.Deep.CutBlock
namespace Go.Proofs.Ytblaicejpijfbaa
open Go.RowKit Go.Maps Go.WideMaps Go.Shelf Go.Proofs.Ytblaicejpijfbaa.Tb
attribute [local go_sem] Oper.semAt_some

section
variable {w w' : World}

set_option maxRecDepth 100000 in
set_option maxHeartbeats 4000000 in
theorem plays_walk {va : Value} {l : List Op3} (ha : OpsR w va l) (hl : l.length ≤ 9223372036854775807) :
    Calls Try.prog 3 #[va] w fun r w' => r = .returned (.bool true) ∧ Turn (fun _ => False) w w' := by
  have HA := Lib.hid ha
  obtain ⟨sa, capa, rfl, hca⟩ := ha
  have HCA := Lib.hid hca
  clear hca
  go_enter Try.func3, Try.ntmps3
  go_wp2_with fail
  go_at_call 5
  refine (first_any _).mono ?_
  rintro r w1 ⟨rfl, ht1⟩
  have H1 := Lib.hid ht1
  clear ht1
  go_wp2_with fail
  go_at_call 6
  refine (few_any (HA.out.later H1.out) hl).mono ?_
  rintro r w2 ⟨b1, rfl, hb1, hk2⟩
  have H2 := Lib.hid (H1.out.like hk2)
  clear hk2 H1
  go_wp2_with fail
  go_at_call 7
  refine (tab_new _).mono ?_
  rintro r w3 ⟨tp, rfl, htab⟩
  have HTAB := Lib.hid (show Tab w w3 tp .nil 0 from ⟨htab.at_, by have := htab.new; have := H2.out.size; omega, H2.out.trans htab.turn (fun _ _ q => q)⟩)
  clear htab H2
  cases b1 with
  | false =>
    go_wp2_with fail
    go_ret
    exact ⟨rfl, HTAB.out.turn⟩
  | true =>
    have hlen := hb1 rfl
    clear hb1
    have HPL := Lib.hid (show PLr w w3 tp 0 (.slice none 0 0) (.slice none 0 0) (.slice none 0 0) (.slice none 0 0) (.int .i64 0) from
      ⟨.nil, 0, [], rfl, by simp, HTAB.out, trivial, List.Pairwise.nil, Nat.le_refl _, Nat.le_refl _, ⟨0, World.ownsRow_nil _ _ _ _⟩, World.ownsRow_nil _ _ _ _, World.ownsRow_nil _ _ _ _, World.ownsRow_nil _ _ _ _, by simp⟩)
    clear HTAB
    go_wp2_with fail
    go_loopw [6, 7, 8, 9, 10, 11] (fun v6 v7 v8 v9 v10 v11 wr => ∃ k : Nat, k ≤ l.length ∧ v11 = .int .i64 k ∧ PLr w wr tp k v6 v7 v8 v9 v10) (fun _ _ _ _ _ i _ => l.length - (intOf i).toNat)
    case atStart => exact ⟨0, Nat.zero_le _, rfl, HPL.out⟩
    case round =>
      obtain ⟨k, hk, rfl, hpl⟩ := hrel
      clear HPL
      by_cases hlt : k < l.length
      · obtain ⟨t, vk, recs, rfl, hrl, hp⟩ := hpl
        obtain ⟨b, o, e1, x1⟩ := HCA.out (by omega)
        subst e1
        obtain ⟨x, hx⟩ : ∃ x, l[k]? = some x := ⟨_, List.getElem?_eq_getElem hlt⟩
        obtain ⟨c0, c1, c2, c3⟩ := Op3.cells ((x1 k x hx).later hp.tab.turn)
        have i2 : (0 : Int) ≤ (k : Int) := by omega
        have i3 : (k : Int) < (l.length : Int) := by omega
        have hp0 := hp
        have HRL := Lib.hid hrl
        clear hp hrl x1
        go_upto_block 2 with fail
        have hpa := hp0.same (turnBox wr (.cells #[.int .i64 x.kind, .int .i64 x.v, strV x.key, strV x.top] 32))
        have hob : OpBox (wr.alloc (.cells #[.int .i64 x.kind, .int .i64 x.v, strV x.key, strV x.top] 32)) wr.heap.size x := heap_alloc_new wr _
        have htp : tp < wr.heap.size := by obtain ⟨_, a1, _⟩ := hp0.tab.at_; exact (Array.getElem?_eq_some_iff.1 a1).1
        generalize hW0 : wr.alloc (.cells #[.int .i64 x.kind, .int .i64 x.v, strV x.key, strV x.top] 32) = W0 at hpa hob ⊢
        generalize wr.heap.size = ob at hob htp ⊢
        have HPA := Lib.hid hpa
        have HOB := Lib.hid hob
        have HTP := Lib.hid htp
        clear hpa hob htp hp0 hW0 c0 c1 c2 c3
        go_cut [6, 7, 8, 9, 10, 13, 14] from 41 to 145 (fun v6 v7 v8 v9 v10 _ _ wx => ∃ (t : Tr (List UInt8) Int) (vk : Nat) (recs : List SRec), v10 = .int .i64 (vk : Nat) ∧ recs.length ≤ 20 ∧ PL w wx tp (k + 1) t vk t.list v6 v7 v8 v9 (ptrs recs) (rowsOf recs) (versOf recs) recs ∧ OpBox wx ob x)
        case first =>
          have hlk : k < 200 := by omega
          have HK := Lib.hid hlk
          obtain ⟨ce0, ce1, ce2, ce3⟩ := HOB.out.cells
          by_cases k0 : x.kind = 0
          · have e5 : (x.kind == 0) = true := by simp [k0]
            have HPUT := Lib.hid (HPA.out.tab.put HPA.out.sized (by have := HPA.out.count; omega) (by have := HPA.out.vle; omega) x.key _ rfl x.v)
            have i5 : (vk : Int) + 1 ≤ 1000 := by have := HPA.out.vle; omega
            have i4 : (0 : Int) ≤ (vk : Int) := by omega
            clear k0 hlk
            go_wp2_with (go_at_call 8; refine HPUT.out.mono ?_; rintro r wa ⟨rfl, hta, htt⟩; obtain ⟨_, ce1', ce2', _⟩ := (HOB.out.turned htt (by have := HTP.out; omega)).cells; have HTT := Lib.hid htt; have HTA := Lib.hid hta; clear hta htt)
            have hp1 := HPA.out.table (k' := k + 1) HTT.out HTA.out (sized_put HPA.out.sized _ _) (by rw [put_list HPA.out.rises]; exact rises_putL HPA.out.rises _ _) (by have := count_put HPA.out.sized x.key x.v; have := HPA.out.count; omega) (by have := HPA.out.vle; omega)
            have HP1 := Lib.hid hp1
            have HLP := Lib.hid (lput_any hp1.now.pairs HPA.out.rises (by have := HPA.out.sized.count; have := HPA.out.count; omega) x.key x.v)
            clear hp1
            go_at_call 9
            refine HLP.out.mono ?_
            rintro r wb ⟨v', rfl, hown, htb⟩
            have HP2 := Lib.hid (HP1.out.pairs htb ⟨_, hown⟩)
            have HOB2 := Lib.hid ((HOB.out.turned HTT.out (by have := HTP.out; omega)).same htb)
            clear hown htb HLP HP1
            go_wp2_with fail
            go_meet
            exact ⟨_, vk + 1, recs, by go_num, HRL.out, by rw [put_list HPA.out.rises]; exact HP2.out, HOB2.out⟩
          · have e5 : (x.kind == 0) = false := by simp [k0]
            by_cases k1 : x.kind = 1
            · have e6 : (x.kind == 1) = true := by simp [k1]
              clear k0 k1 hlk
              have HLF := Lib.hid (lfind_any HPA.out.now.pairs (by have := HPA.out.sized.count; have := HPA.out.count; omega) x.key)
              obtain ⟨s0, hs0⟩ : ∃ s0, (findL t.list x.key).isSome = s0 := ⟨_, rfl⟩
              have hg0 : (Tb.get t x.key).isSome = s0 := by rw [get_list HPA.out.rises]; exact hs0
              have e7 : (s0 != s0) = false := by simp
              rw [hs0] at HLF
              have i5 : (vk : Int) + 1 ≤ 1000 := by have := HPA.out.vle; omega
              have i4 : (0 : Int) ≤ (vk : Int) := by omega
              have HG0 := Lib.hid hg0
              clear hs0 hg0
              go_wp2_with (go_at_call 10; refine HLF.out.mono ?_; rintro r wf ⟨rfl, hkf⟩; have hpf := HPA.out.same (hkf.turn _); have hobf := HOB.out.same (hkf.turn _); obtain ⟨_, _, ce2', _⟩ := hobf.cells; have HPF := Lib.hid hpf; have HOBF := Lib.hid hobf; clear hpf hobf hkf)
              go_at_call 11
              refine (HPF.out.tab.delete HPF.out.sized (by have := HPA.out.count; omega) (by have := HPA.out.vle; omega) x.key _ rfl HG0.out).mono ?_
              rintro r wa ⟨rfl, hta, htt⟩
              have hp1 := HPF.out.table (k' := k + 1) htt hta (sized_dropT HPA.out.sized _).1 (rises_dropT HPA.out.rises _) (by have := (sized_dropT HPA.out.sized x.key).2; have := HPA.out.count; omega) (by have := HPA.out.vle; omega)
              have hob1 := HOBF.out.turned htt (by have := HTP.out; omega)
              obtain ⟨_, _, cd2, _⟩ := hob1.cells
              have HP1 := Lib.hid hp1
              have HOB1 := Lib.hid hob1
              have HLD := Lib.hid (ldrop_any hp1.now.pairs (by have := HPA.out.sized.count; have := HPA.out.count; omega) x.key)
              clear hp1 hob1 hta htt
              go_wp2_with fail
              go_at_call 12
              refine HLD.out.mono ?_
              rintro r wb ⟨v', rfl, hown, htb⟩
              have HP2 := Lib.hid (HP1.out.pairs htb ⟨_, hown⟩)
              have HOB2 := Lib.hid (HOB1.out.same htb)
              clear hown htb HLD HP1
              go_wp2_with fail
              go_meet
              exact ⟨_, vk + 1, recs, by go_num, HRL.out, by rw [dropT_list HPA.out.rises]; exact HP2.out, HOB2.out⟩
            · have e6 : (x.kind == 1) = false := by simp [k1]
              by_cases k2 : x.kind = 2
              · have e7 : (x.kind == 2) = true := by simp [k2]
                clear k0 k1 k2 hlk
                obtain ⟨p7, c7, ev7⟩ := own_shape HPA.out.r7
                obtain ⟨p8, c8, ev8⟩ := own_shape HPA.out.r8
                obtain ⟨p9, c9, ev9⟩ := own_shape HPA.out.r9
                obtain ⟨_, hnow⟩ := HPA.out.now
                obtain ⟨p6, c6, ev6⟩ := own_shape hnow
                rw [List.length_map] at ev7 ev8 ev9
                subst ev6 ev7 ev8 ev9
                clear hnow
                by_cases hn : recs.length < 20
                · have in1 : (recs.length : Int) < 20 := by omega
                  obtain ⟨i7, hi7, hz07, hz17, hz27⟩ := info_parts infoPSnap
                  obtain ⟨i8, hi8, hz08, hz18, hz28⟩ := info_parts infoPairs
                  obtain ⟨i9, hi9, hz09, hz19, hz29⟩ := info_parts infoInt
                  have HSNP := Lib.hid HPA.out.tab.snapshot
                  have HN := Lib.hid hn
                  clear hn
                  go_wp2_with fail
                  go_at_call 13
                  refine HSNP.out.mono ?_
                  rintro r ws ⟨sp, rfl, _, hsn, _, hts⟩
                  have HPS := Lib.hid (HPA.out.same hts)
                  have HOBS := Lib.hid (HOB.out.same hts)
                  have HSN := Lib.hid hsn
                  clear hsn hts HSNP
                  go_wp2_with (first | (at_builtin; refine wpList_append_own _ rfl _ _ 28 rfl w.heap.size 39 i7 (.pointer none) 1 8 undSnaps hi7 hz07 hz17 hz27 rfl (by decide) _ _ _ rfl (HPS.out.r7.alloc _) ⟨ws.heap.size, 0, none⟩ 1 1 [.pointer (some ⟨sp, 0, none⟩)] rfl rfl (cell_one_new _ _ _) (by simp [Value.oneCell']) (by have h := HN.out; simp only [List.length_map]; unfold maxLen; omega) (by have h := HN.out; simp only [List.length_map]; omega) (by have := HPS.out.tab.turn.size; simp; omega) ?_; intro v7 wA hown7 hg7 _; have hgr := HPS.out.app7 hg7 hown7; have HOBT := Lib.hid (HOBS.out.grew HPS.out.r7 (by decide) hg7); have HPT := Lib.hid hgr.1; have HSN2 := Lib.hid (hgr.2 HSN.out); clear hgr; obtain ⟨g7, d7, rfl⟩ := own_shape hown7; clear hown7 hg7; go_frame) | (at_builtin; refine wpList_append_own _ rfl _ _ 29 rfl w.heap.size 27 i8 (.slice none 0 0) 1 24 undPairss hi8 hz08 hz18 hz28 rfl (by decide) _ _ _ rfl (HPT.out.r8.alloc _) ⟨wA.heap.size, 0, none⟩ 1 1 [.slice p6 t.list.length c6] rfl rfl (cell_one_new _ _ _) (by simp [Value.oneCell']) (by have h := HN.out; simp only [List.length_map]; unfold maxLen; omega) (by have h := HN.out; simp only [List.length_map]; omega) (by have := HPT.out.tab.turn.size; simp; omega) ?_; intro v8 wB hown8 hg8 _; have hgr := HPT.out.app8 hg8 hown8; have HOBU := Lib.hid (HOBT.out.grew HPT.out.r8 (by decide) hg8); have HPU := Lib.hid hgr.1; have HSN3 := Lib.hid (hgr.2 HSN2.out); clear hgr; obtain ⟨g8, d8, rfl⟩ := own_shape hown8; clear hown8 hg8; go_frame) | (at_builtin; refine wpList_append_own _ rfl _ _ 30 rfl w.heap.size 3 i9 (.int .i64 0) 1 8 undInts hi9 hz09 hz19 hz29 rfl (by decide) _ _ _ rfl (HPU.out.r9.alloc _) ⟨wB.heap.size, 0, none⟩ 1 1 [.int .i64 (vk : Nat)] rfl rfl (cell_one_new _ _ _) (by simp [Value.oneCell']) (by have h := HN.out; simp only [List.length_map]; unfold maxLen; omega) (by have h := HN.out; simp only [List.length_map]; omega) (by have := HPU.out.tab.turn.size; simp; omega) ?_; intro v9 wC hown9 hg9 _; have hgr := HPU.out.app9 hg9 hown9; have HOBV := Lib.hid (HOBU.out.grew HPU.out.r9 (by decide) hg9); have HPV := Lib.hid hgr.1; have HSN4 := Lib.hid (hgr.2 HSN3.out); clear hgr; obtain ⟨g9, d9, rfl⟩ := own_shape hown9; clear hown9 hg9; go_frame))
                  go_meet
                  have hfin := (HPV.out.snoc rfl (by have := HK.out; omega) HSN4.out).later (Nat.le_succ k)
                  refine ⟨t, vk, recs ++ [⟨sp, t, vk, .slice p6 t.list.length c6⟩], rfl, by have := HN.out; simp; omega, ?_, HOBV.out⟩
                  simp only [ptrs, rowsOf, versOf, List.map_append, List.map_cons, List.map_nil]
                  exact hfin
                · have in1 : ¬ (recs.length : Int) < 20 := by omega
                  clear hn
                  go_wp2_with fail
                  go_meet
                  exact ⟨t, vk, recs, rfl, HRL.out, HPA.out.later (by omega), HOB.out⟩
              · have e7 : (x.kind == 2) = false := by simp [k2]
                clear k0 k1 k2 hlk
                go_wp2_with fail
                go_meet
                exact ⟨t, vk, recs, rfl, HRL.out, HPA.out.later (by omega), HOB.out⟩
        case rest =>
          obtain ⟨t, vk, recs, rfl, hrl, hp, hob⟩ := hcut
          obtain ⟨ce0, ce1, ce2, ce3⟩ := hob.cells
          have hcn : t.list.length ≤ 201 := by have := hp.sized.count; have := hp.count; omega
          obtain ⟨q0, hq0⟩ : ∃ q0, (findL t.list x.key).getD 0 = q0 := ⟨_, rfl⟩
          obtain ⟨s0, hs0⟩ : ∃ s0, (findL t.list x.key).isSome = s0 := ⟨_, rfl⟩
          have HGET := Lib.hid (tab_get_any hp.tab hp.rises x.key)
          rw [hq0, hs0] at HGET
          have HPR := Lib.hid hp
          have HOR := Lib.hid hob
          have HCN := Lib.hid hcn
          have HQ0 := Lib.hid hq0
          have HS0 := Lib.hid hs0
          have HRR := Lib.hid hrl
          have e1 : (q0 != q0) = false := by simp
          have e2 : (s0 != s0) = false := by simp
          have e3 : ((vk : Int) != (vk : Int)) = false := by simp
          obtain ⟨_, hnow⟩ := hp.now
          obtain ⟨p6, c6, ev6⟩ := own_shape hnow
          subst ev6
          clear hp hob hcn hq0 hs0 hrl hnow HPA HOB
          go_wp2_with (first | (go_at_call 14; refine HGET.out.mono ?_; rintro r wg ⟨rfl, hkg⟩; have hpg := HPR.out.same (hkg.turn _); have hog := HOR.out.same (hkg.turn _); obtain ⟨_, _, cg2, _⟩ := hog.cells; have HPG := Lib.hid hpg; have HOG := Lib.hid hog; clear hpg hog hkg) | (go_at_call 10; refine (lfind_any HPG.out.now.pairs (by have := HCN.out; omega) x.key).mono ?_; rw [HQ0.out, HS0.out]; rintro r wf ⟨rfl, hkf⟩; have hpf := HPG.out.same (hkf.turn _); have hof := HOG.out.same (hkf.turn _); obtain ⟨_, _, cf2, cf3⟩ := hof.cells; have HPF := Lib.hid hpf; clear hpf hof hkf) | (go_at_call 15; refine HPF.out.tab.version.mono ?_; rintro r wv ⟨rfl, rfl⟩))
          obtain ⟨root, a1, a2⟩ := HPF.out.tab.at_
          have HWH := Lib.hid (whole_walk a1 a2 HPF.out.now.pairs HPF.out.rises HPF.out.sized (by have := HCN.out; omega) x.key x.top)
          clear a1 a2
          go_at_call 16
          refine HWH.out.mono ?_
          rintro r wz ⟨rfl, htz⟩
          have HPZ := Lib.hid (HPF.out.same htz)
          clear htz HWH
          go_wp2_with fail
          go_roundw
          case rel => exact ⟨k + 1, by omega, by go_num, t, vk, recs, rfl, HRR.out, HPZ.out⟩
          case measure => simp [intOf]; omega
      · obtain rfl : k = l.length := by omega
        obtain ⟨t, vk, recs, rfl, hrl, hp⟩ := hpl
        obtain ⟨p7, c7, ev7⟩ := own_shape hp.r7
        rw [List.length_map] at ev7
        subst ev7
        have HP := Lib.hid hp
        clear hp hlt hk
        go_wp2_with fail
        have HRL := Lib.hid hrl
        clear hrl
        go_loopw [19] (fun v19 wr2 => ∃ j : Nat, j ≤ recs.length ∧ v19 = .int .i64 (j : Nat) ∧ Turn (fun _ => False) wr wr2) (fun i _ => recs.length - (intOf i).toNat)
        case atStart => exact ⟨0, Nat.zero_le _, rfl, Turn.refl _ _⟩
        case round =>
          obtain ⟨j, hj, rfl, ht⟩ := hrel
          have HPW := Lib.hid (HP.out.same ht)
          have HT := Lib.hid ht
          clear ht
          by_cases hlt : j < recs.length
          · obtain ⟨rec, hrec⟩ : ∃ rec, recs[j]? = some rec := ⟨_, List.getElem?_eq_getElem hlt⟩
            obtain ⟨g7, d7, ev7, cc7⟩ := row_cell (y := .pointer (some ⟨rec.sp, 0, none⟩)) HPW.out.r7 rfl (j := j) (by simp [ptrs, hrec])
            obtain ⟨g8, d8, ev8, cc8⟩ := row_cell (y := rec.v) HPW.out.r8 rfl (j := j) (by simp [rowsOf, hrec])
            obtain ⟨g9, d9, ev9, cc9⟩ := row_cell (y := .int .i64 (rec.ver : Nat)) HPW.out.r9 rfl (j := j) (by simp [versOf, hrec])
            rw [List.length_map] at ev7 ev8 ev9
            cases ev7
            subst ev8 ev9
            have hs := HPW.out.each rec (List.mem_of_getElem? hrec)
            have HSV := Lib.hid (fun k => sver_q (hs.sn.calm ((like_drewN wr k).turn (fun _ => False)) (calm_none _)))
            have HSAT := Lib.hid hs
            have i0 : (0 : Int) ≤ (j : Int) := by omega
            have i1 : (j : Int) < (recs.length : Int) := by omega
            have i9 : (j : Int) + 1 ≤ 1000 := by have := HRL.out; omega
            have e1 : ((rec.ver : Int) != (rec.ver : Int)) = false := by simp
            clear hs hrec
            go_wp2_with fail
            go_quiet ((go_at_call 17; with_reducible exact Calls.quiet_of_same (HSV.out _)))
            have hs5 := HSAT.out.calm ((like_drewN wr nq).turn (fun _ => False)) (calm_none _)
            have ht5 := HT.out.like (like_drewN wr nq)
            have cc7 := turn_cell ((like_drewN wr nq).turn (fun _ => False)) cc7
            have cc8 := turn_cell ((like_drewN wr nq).turn (fun _ => False)) cc8
            have hw5 := HPW.out.tab.turn.like (like_drewN wr nq)
            generalize wr.drewN nq = W5 at hs5 ht5 cc7 cc8 hw5 ⊢
            clear HPW HSAT HSV HT cc9 e1
            by_cases hl0 : 0 < l.length
            · obtain ⟨b, o, e0, x1⟩ := HCA.out hl0
              subst e0
              obtain ⟨x, hx⟩ : ∃ x, l[0]? = some x := ⟨_, List.getElem?_eq_getElem hl0⟩
              obtain ⟨_, _, cx2, cx3⟩ := Op3.cells ((x1 0 x hx).later hw5)
              rw [Nat.zero_mul, Nat.add_zero] at cx2 cx3
              have i5 : (0 : Int) < (l.length : Int) := by omega
              clear x1 hx hw5
              have HFZ := Lib.hid (sat_frozen (hs5.calm ((like_drew W5).turn (fun _ => False)) (calm_none _)) x.key x.top)
              have HT5 := Lib.hid ht5
              clear hs5 ht5
              go_wp2_with fail
              go_still_tail 10, (by kernel_rfl)
              change wpList _ _ _ _ _ W5.drew
              go_wp2_with (go_at_call 18; refine HFZ.out.mono ?_; rintro r wz ⟨rfl, htz⟩)
              go_roundw
              case rel => exact ⟨j + 1, by omega, by go_num, HT5.out.drew.trans htz (fun _ _ q => q)⟩
              case measure => simp [intOf]; omega
            · obtain rfl : l = [] := List.eq_nil_of_length_eq_zero (by omega)
              clear hw5
              have HFZ := Lib.hid (sat_frozen (hs5.calm ((like_drew W5).turn (fun _ => False)) (calm_none _)) [] [109])
              have HT5 := Lib.hid ht5
              clear hs5 ht5
              go_wp2_with fail
              go_still_tail 10, (by kernel_rfl)
              change wpList _ _ _ _ _ W5.drew
              go_wp2_with (go_at_call 18; refine HFZ.out.mono ?_; rintro r wz ⟨rfl, htz⟩)
              go_roundw
              case rel =>
                (repeat apply Exists.intro)
                exact ⟨⟨j + 1, by omega, by go_num, HT5.out.drew.trans htz (fun _ _ q => q)⟩, rfl⟩
              case measure => simp [intOf]; omega
          · have i1 : ¬ (j : Int) < (recs.length : Int) := by omega
            have HTE := Lib.hid HPW.out.tab.turn
            go_wp2_with fail
            go_ret
            exact ⟨rfl, HTE.out⟩
end
end Go.Proofs.Ytblaicejpijfbaa
