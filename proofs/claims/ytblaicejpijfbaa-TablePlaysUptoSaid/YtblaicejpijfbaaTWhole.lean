/-
  OF THE LAWS: whole: a table is just these pairs.
-/
import Derived.Test.YtblaicejpijfbaaTBoxes
import Derived.StillTailTactics
import Derived.LoopIn
namespace Go.Proofs.Ytblaicejpijfbaa
open Go.RowKit Go.Maps Go.WideMaps Go.Shelf Go.Proofs.Ytblaicejpijfbaa.Tb
attribute [local go_sem] Oper.semAt_some

section
variable {w w' : World}

theorem len_q {tp : Nat} {ver : Int} {root : Option Addr} (h : si.TabC w tp 0 0 root ver) {t : Tr (List UInt8) Int} (ht : si.TrAt w (.pointer root) t) {n : Nat} (hn : t.count = n) : Calls Try.prog 22 #[.pointer (some ⟨tp, 0, none⟩)] w fun r w' => r = .returned (.int .i64 (n : Nat)) ∧ w' = w := by
  subst hn
  have HN := Lib.hid (si.now_q h)
  have HT := Lib.hid ht
  clear h ht
  go_enter Try.func22, Try.ntmps22
  go_wp2_with (first | (go_at_call 33; refine HN.out.mono ?_; rintro e w1 ⟨rfl, rfl⟩) | (go_at_call 42; refine (si.count_any HT.out).mono ?_; rintro e w' ⟨rfl, rfl⟩))
  go_ret
  exact ⟨rfl, rfl⟩

theorem results_whole {tmps : Array Value} {g : Nat} {b : Bool} (hp : tmps.getD 8 undef = .pointer (some ⟨g, 0, none⟩)) (hc : w.cell? ⟨g, 0, none⟩ = some (.bool b)) : (results Try.f16 tmps).run Try.prog w = .ok (.bool b) w := by
  have hp' : tmps[8]?.getD undef = .pointer (some ⟨g, 0, none⟩) := by simpa using hp
  have hr : Try.f16.results = #[.cell 8 4] := by kernel_rfl
  simp only [results, hr]
  simp [hp', asAddr]
  go_simp

/-- what goes over a table -/
theorem tall_at (tp : Nat) (w : World) : Calls Try.prog 34 #[.pointer (some ⟨tp, 0, none⟩)] w fun r w' => ∃ B1 B2, r = .returned (.func (.func 65) #[] #[.pointer (some ⟨B2, 0, none⟩)]) ∧
    w'.cell? ⟨B2, 0, none⟩ = some (.func (.func 63) #[] #[.pointer (some ⟨B1, 0, none⟩)]) ∧ w'.cell? ⟨B1, 0, none⟩ = some (.pointer (some ⟨tp, 0, none⟩)) ∧ Turn (fun _ => False) w w' := by
  refine (si.tall_any (some ⟨tp, 0, none⟩) w).mono ?_
  rintro r w' ⟨rfl, rfl⟩
  refine ⟨w.heap.size, w.heap.size + 1, rfl, ?_, ?_, (turnBox w _).trans (turnBox _ _) (fun _ _ q => q)⟩
  · have h := cell_new (w.alloc (.cells #[.pointer (some ⟨tp, 0, none⟩)] 25)) #[.func (.func 63) #[] #[.pointer (some ⟨w.heap.size, 0, none⟩)]] 45 0
    rw [World.size_alloc] at h
    exact h
  · exact turn_cell (turnBox _ _) (cell_new w #[.pointer (some ⟨tp, 0, none⟩)] 25 0)

/-- the boxes of whole -/
abbrev wBoxes (v : Value) (fr tu : List UInt8) : List (TypeId × Value) := [(27, v), (9, strV fr), (9, strV tu), (4, .bool false)]

theorem wBoxes_int (v : Value) (fr tu : List UInt8) : ∀ p ∈ wBoxes v fr tu, p.1 ≠ 3 := by
  intro p hp
  simp [wBoxes] at hp
  rcases hp with rfl | rfl | rfl | rfl <;> simp

theorem wBoxes_new (w : World) (v : Value) (fr tu : List UInt8) : Bx w ((((w.alloc (.cells #[v] 27)).alloc (.cells #[strV fr] 9)).alloc (.cells #[strV tu] 9)).alloc (.cells #[.bool false] 4)) w.heap.size (wBoxes v fr tu) [] :=
  ((((bx_nil w).snoc rfl 27 v).snoc (by simp) 9 (strV fr)).snoc (by simp) 9 (strV tu)).snoc (by simp) 4 (.bool false)

/-- where the second going over's count stands -/
def ival (k0 m : Nat) : Nat := if m = 0 then 0 else k0 + m

set_option maxRecDepth 100000 in
set_option maxHeartbeats 4000000 in
theorem whole_walk {tp : Nat} {ver : Int} {root : Option Addr} {v : Value} {t : Tr (List UInt8) Int} (htab : si.TabC w tp 0 0 root ver) (htr : si.TrAt w (.pointer root) t) (hv : PairsR w v t.list) (hr : Rises t.list) (hz : t.Sized) (hl : t.list.length ≤ 400) (fr tu : List UInt8) :
    Calls Try.prog 16 #[.pointer (some ⟨tp, 0, none⟩), v, strV fr, strV tu] w fun r w' => r = .returned (.bool true) ∧ Turn (fun _ => False) w w' := by
  have HTAB := Lib.hid htab
  have HTR := Lib.hid htr
  have HV := Lib.hid hv
  have HR := Lib.hid hr
  have HZ := Lib.hid (hz.count)
  have HL := Lib.hid hl
  obtain ⟨spv, capv, rfl, _⟩ := hv
  have HB0 := Lib.hid (wBoxes_new w (.slice spv t.list.length capv) fr tu)
  clear htab htr hr hz hl
  refine (callsIn_wide (n := 10)).1 ?_
  refine callsIn_of_wp_marks Try.func16 rfl trivial ?_ rfl
  simp only [Try.ntmps16, List.size_toArray, List.length_cons, List.length_nil, Nat.reduceAdd, Nat.reduceSub, Array.replicate_succ, Array.replicate_zero, List.push_toArray, List.append_toArray, List.nil_append, List.cons_append]
  refine wpIn_wide.2 ?_
  go_wp2_with fail
  go_at_call 34
  refine (tall_at _ _).mono ?_
  rintro r w6 ⟨B1, B2, rfl, c2, c1, ht6⟩
  have hib : Boxed w6 (w.heap.size + 1 + 1 + 1 + 1) 3 (.int .i64 0) := boxed_same (boxed_at (by simp) _ _) ht6
  have hbx := (HB0.out.same (turnBox _ (.cells #[.int .i64 0] 3))).same ht6
  have hle : w.heap.size ≤ w.heap.size + 1 + 1 + 1 + 1 := by omega
  obtain ⟨M, hM⟩ : ∃ M, w.heap.size = M := ⟨_, rfl⟩
  obtain ⟨ib, hb⟩ : ∃ ib, M + 1 + 1 + 1 + 1 = ib := ⟨_, rfl⟩
  rw [hM] at hib hbx ⊢
  rw [hM, hb, ← hM] at hle
  rw [hb] at hib ⊢
  have HIB := Lib.hid hib
  have HBX := Lib.hid hbx
  have HLE := Lib.hid hle
  have HC1 := Lib.hid c1
  have HC2 := Lib.hid c2
  have HS1 := Lib.hid (HTAB.out.later hbx.turn (fun q => q))
  have HS2 := Lib.hid (HTR.out.later hbx.turn)
  clear c1 c2 hib hbx hle ht6 HB0 hb
  go_wp2_with fail
  refine (wpIn_wide (n := 10)).1 ?_
  refine wpIn_rangeFunc_ownF rfl (by decide) (gf := 65) (lb := #[.pointer (some ⟨B2, 0, none⟩)]) rfl trivial (enters_of Try.func65 (by kernel_rfl) rfl) (si.tall_stops (n := 10 - 1) HC2.out HC1.out HS1.out HS2.out) si.KeepsN.trans si.keepsN_b (Below.refl _ _) (fun _ => rfl)
    (fun pre W => CountI w6 ib pre.length W ∧ pre = t.list.take pre.length) (fun _ pre _ => ¬ pre <+: t.list) ?aI ?aIx ?a0 ?a1 ?aassign ?abody ?adone ?astop
  case aI => exact fun pre W W' row h hg hr => ⟨CountI.own HIB.out.lt (fun pre => pre.length) pre W W' row h.1 hg hr, h.2⟩
  case aIx => exact fun _ _ _ _ _ h _ _ => h
  case a0 => exact ⟨⟨HIB.out, Turn.refl _ _⟩, rfl⟩
  case aassign =>
    intro l x W K hK
    gi_wp2
    exact hK
  case astop => exact fun _ _ _ _ _ hp h _ => absurd hp h
  case abody =>
    intro lp pre x W hJ hlt
    obtain ⟨hcount, hfront⟩ := hJ
    have hx := HBX.out.box hcount.2 HIB.out HLE.out (wBoxes_int _ _ _)
    obtain ⟨_, _, e0, hcells0⟩ := HV.out.later hx.turn
    cases e0
    obtain ⟨b2, o2, e2, hcells⟩ := hcells0 (by omega)
    subst e2
    obtain ⟨y, hy⟩ : ∃ y, t.list[pre.length]? = some y := ⟨_, List.getElem?_eq_getElem hlt⟩
    obtain ⟨cy0, cy1⟩ := hcells _ _ hy
    have cl : W.cell? ⟨M, 0, none⟩ = some (.slice (some ⟨b2, o2, none⟩) t.list.length capv) := (hx.at_ 0 _ rfl).cell
    have ci := hcount.1.cell
    have fi := hcount.1.frozen
    have cr : W.cell? ⟨M + 1 + 1 + 1, 0, none⟩ = some (.bool false) := (hx.at_ 3 _ rfl).cell
    have fr2 : W.frozen? ⟨M + 1 + 1 + 1, 0, none⟩ = false := (hx.at_ 3 _ rfl).frozen
    have i0 : (0 : Int) ≤ (pre.length : Int) := by omega
    have i1 : (pre.length : Int) < (t.list.length : Int) := by omega
    have h4 := HL.out
    have i9 : (pre.length : Int) + 1 ≤ 1000 := by omega
    have hset := hcount.set (pre.length + 1)
    rw [show ((pre.length + 1 : Nat) : Int) = (pre.length : Int) + 1 by omega] at hset
    have HSET := Lib.hid hset
    have HF := Lib.hid hfront
    have HY := Lib.hid hy
    clear hcount hx hcells hcells0 hset hfront h4 hy
    by_cases heq : y = x
    · subst heq
      have e1 : (y.1 != y.1) = false := by simp
      have e3 : (y.2 != y.2) = false := by simp
      gi_wp2
      refine ⟨HSET.out.2.1, HSET.out.2.2, ?_⟩
      have hl : (pre ++ [y]).length = pre.length + 1 := by simp
      refine ⟨by rw [hl]; exact HSET.out.1, ?_⟩
      have e := (List.getElem?_eq_some_iff.1 HY.out).2
      rw [hl, List.take_succ_eq_append_getElem hlt, e, ← HF.out]
    · have HNP := Lib.hid (show ¬ (pre ++ [x] <+: t.list) from by
        rintro ⟨r, hr⟩
        apply heq
        have h := HY.out
        rw [← hr] at h
        simp at h
        exact h.symm)
      by_cases hk0 : y.1 = x.1
      · have hk2 : ¬ y.2 = x.2 := fun q => heq (Prod.ext hk0 q)
        have e1 : (y.1 != x.1) = false := by simp [hk0]
        have e3 : (y.2 != x.2) = true := by simp only [bne_iff_ne, ne_eq]; exact hk2
        clear heq
        gi_wp2
        exact ⟨KeepsOthers.setCell _ _ _, HNP.out⟩
      · have e1 : (y.1 != x.1) = true := by simp only [bne_iff_ne, ne_eq]; exact hk0
        clear heq
        gi_wp2
        exact ⟨KeepsOthers.setCell _ _ _, HNP.out⟩
  case adone =>
    intro D xs W1 hD hS hJ hK
    obtain ⟨hcount, _⟩ := hJ
    rw [hS] at hcount
    have hx := (HBX.out.box hcount.2 HIB.out HLE.out (wBoxes_int _ _ _)).cons hK
    have cl : W1.cell? ⟨M, 0, none⟩ = some (.slice spv t.list.length capv) := (hx.at_ 0 _ rfl).cell
    have ci := hcount.1.cell
    have fi := hcount.1.frozen
    have e1 : ((t.list.length : Int) != (t.list.length : Int)) = false := by simp
    have HLEN := Lib.hid (fun k => len_q (HTAB.out.later (hx.turn.like (like_drewN W1 k)) (fun q => q)) (HTR.out.later (hx.turn.like (like_drewN W1 k))) HZ.out)
    have HD := Lib.hid (Nat.le_trans HBX.out.turn.size hD)
    have HX1 := Lib.hid hx
    have HCT := Lib.hid hcount.1
    have cf : W1.cell? ⟨M + 1, 0, none⟩ = some (strV fr) := (hx.at_ 1 _ rfl).cell
    have cto : W1.cell? ⟨M + 1 + 1, 0, none⟩ = some (strV tu) := (hx.at_ 2 _ rfl).cell
    clear hx hcount hK hD hS HS1 HS2 HC1 HC2 HIB HBX
    go_wp2_with fail
    go_quiet ((go_at_call 22; with_reducible exact Calls.quiet_of_same (HLEN.out _)))
    obtain ⟨k0, hpart⟩ := parted HR.out fr tu
    rw [← betw_list HR.out fr tu] at hpart
    have HPA := Lib.hid hpart
    have hx2 := HX1.out.same ((like_drewN W1 nq).turn (fun _ => False))
    have hct2 := boxed_same HCT.out ((like_drewN W1 nq).turn (fun _ => False))
    clear HX1 HCT ci fi cf cto cl hpart HLEN
    obtain ⟨W2, hW2⟩ : ∃ W2, W1.drewN nq = W2 := ⟨_, rfl⟩
    rw [hW2] at hx2 hct2 ⊢
    have ci := hct2.cell
    have fi := hct2.frozen
    have hx3 := hx2.box (Turn.setCell (Turn.refl (fun b => b = ib) W2) (p := ⟨ib, 0, none⟩) (Or.inl rfl) (.int .i64 0)) hct2 HLE.out (wBoxes_int _ _ _)
    have hb3 := hct2.set (.int .i64 0)
    have cf : (W2.setCell ⟨ib, 0, none⟩ (.int .i64 0)).cell? ⟨M + 1, 0, none⟩ = some (strV fr) := (hx3.at_ 1 _ rfl).cell
    have cto : (W2.setCell ⟨ib, 0, none⟩ (.int .i64 0)).cell? ⟨M + 1 + 1, 0, none⟩ = some (strV tu) := (hx3.at_ 2 _ rfl).cell
    have HX3 := Lib.hid hx3
    have HB3 := Lib.hid hb3
    clear hx2 hct2 hx3 hb3 hW2
    go_wp2_with fail
    go_at_call 35
    refine (si.trng_any _ _ _ _).mono ?_
    rintro r w8 ⟨R1, R2, R3, R4, rfl, hat8, ht8⟩
    have hx8 := HX3.out.same ht8
    have HIB := Lib.hid (boxed_same HB3.out ht8)
    have HX8 := Lib.hid hx8
    have HS1 := Lib.hid (HTAB.out.later hx8.turn (fun q => q))
    have HS2 := Lib.hid (HTR.out.later hx8.turn)
    have HAT := Lib.hid hat8
    clear hat8 ht8 hx8 HX3 HB3 cf cto ci fi
    go_wp2_with fail
    refine (wpIn_wide (n := 10)).1 ?_
    refine wpIn_rangeFunc_ownF rfl (by decide) (gf := 65) (lb := #[.pointer (some ⟨R4, 0, none⟩)]) rfl trivial (enters_of Try.func65 (by kernel_rfl) rfl) (si.trng_stops (n := 10 - 1) HAT.out.b4 HAT.out.b1 HAT.out.b2 HAT.out.b3 HS1.out HS2.out) si.KeepsN.trans si.keepsN_b (Below.refl _ _) (fun _ => rfl)
      (fun pre W => CountI w8 ib (ival k0 pre.length) W ∧ pre = (betw fr tu t).take pre.length) (fun _ pre _ => ¬ pre <+: betw fr tu t) ?bI ?bIx ?b0 ?b1 ?bassign ?bbody ?bdone ?bstop
    case bI => exact fun pre W W' row h hg hr => ⟨CountI.own HIB.out.lt (fun pre => ival k0 pre.length) pre W W' row h.1 hg hr, h.2⟩
    case bIx => exact fun _ _ _ _ _ h _ _ => h
    case b0 => exact ⟨⟨HIB.out, Turn.refl _ _⟩, rfl⟩
    case bassign =>
      intro l x W K hK
      gi_wp2
      exact hK
    case bstop => exact fun _ _ _ _ _ hp h _ => absurd hp h
    case bbody =>
      intro lp pre x W hJ hlt
      obtain ⟨hcount, hfront⟩ := hJ
      obtain ⟨m, hm⟩ : ∃ m, pre.length = m := ⟨_, rfl⟩
      rw [hm] at hcount hlt hfront
      have hplen := HPA.out.len
      have HF := Lib.hid hfront
      have HM := Lib.hid hm
      have HCO := Lib.hid hcount
      clear hcount hfront hm
      gi_wp2
      gi_loopw [] (fun wr => ∃ j : Nat, CountI w8 ib j wr ∧ KeepsOthers W wr ∧ si.KeepsN W wr ∧ j ≤ k0 + m ∧ (j = k0 + m ∨ m = 0)) (fun wr => k0 + m - cntOf wr ib)
      case atStart => exact ⟨_, HCO.out, KeepsOthers.refl _, si.KeepsN.refl _, by unfold ival; split <;> omega, by unfold ival; split <;> omega⟩
      case round =>
        obtain ⟨j, hcj, hko, hkn, hj1, hj2⟩ := hrel
        have hx := HX8.out.box hcj.2 HIB.out HLE.out (wBoxes_int _ _ _)
        obtain ⟨_, _, e0, hcells0⟩ := HV.out.later hx.turn
        cases e0
        obtain ⟨b2, o2, e2, hcells⟩ := hcells0 (by omega)
        subst e2
        obtain ⟨z, hz⟩ : ∃ z, t.list[j]? = some z := ⟨_, List.getElem?_eq_getElem (by omega)⟩
        obtain ⟨cz0, cz1⟩ := hcells _ _ hz
        have cl : wr.cell? ⟨M, 0, none⟩ = some (.slice (some ⟨b2, o2, none⟩) t.list.length capv) := (hx.at_ 0 _ rfl).cell
        have cf : wr.cell? ⟨M + 1, 0, none⟩ = some (strV fr) := (hx.at_ 1 _ rfl).cell
        have ci := hcj.1.cell
        have fi := hcj.1.frozen
        have i0 : (0 : Int) ≤ (j : Int) := by omega
        have i1 : (j : Int) < (t.list.length : Int) := by omega
        have h4 := HL.out
        have i9 : (j : Int) + 1 ≤ 1000 := by omega
        clear h4
        have e1 := less_eq z.1 fr
        have HCJ := Lib.hid hcj
        have HKO := Lib.hid hko
        have HKN := Lib.hid hkn
        have HX := Lib.hid hx
        have HZZ := Lib.hid hz
        have HCELLS := Lib.hid hcells
        clear hcj hko hkn hx hcells0 hcells
        by_cases hjt : j < k0 + m
        · have hm0 : m = 0 := by omega
          rw [decide_eq_true (HPA.out.low _ _ hz (by omega))] at e1
          clear hz cz1
          gi_wp2
          refine Qt.quiet_tail_in (ro := some lp) 12 (by kernel_rfl) (by kernel_rfl) (by kernel_rfl) (by kernel_rfl) (by kernel_rfl) (by kernel_rfl) (by kernel_rfl) (by kernel_rfl) ?_
          simp only [List.take_succ_cons, List.take_zero, List.drop_succ_cons, List.drop_zero]
          repeat (any_goals (first | go_big_quiet_step ((fail)) | quiet_step ((fail))))
          refine wpQuiet_nil ?_
          rintro w2 ⟨nq2, rfl⟩
          have HS := Lib.hid ((HCJ.out.drewN nq2).set (j + 1))
          rw [show ((j + 1 : Nat) : Int) = (j : Int) + 1 by omega] at HS
          gi_wp2
          refine ⟨⟨j + 1, HS.out.1, (HKO.out.trans (keepsOthers_drewN _ _)).trans HS.out.2.1, (HKN.out.trans (si.keepsN_drewN _ _)).trans HS.out.2.2, by omega, .inr hm0⟩, ?_⟩
          rw [HS.out.1.cnt, HCJ.out.cnt]
          omega
        · have HJ0 := Lib.hid (show j = k0 + m by omega)
          rw [decide_eq_false (HPA.out.high _ _ hz (by omega))] at e1
          have hy : (betw fr tu t)[m]? = some z := by rw [← HPA.out.mid m hlt, ← HJ0.out]; exact hz
          have e2 := less_eq z.1 tu
          rw [decide_eq_true (HPA.out.top z (List.mem_of_getElem? hy))] at e2
          have HY := Lib.hid hy
          clear hz hy hjt hj1 hj2 hplen
          gi_wp2
          refine Qt.quiet_tail_in (ro := some lp) 12 (by kernel_rfl) (by kernel_rfl) (by kernel_rfl) (by kernel_rfl) (by kernel_rfl) (by kernel_rfl) (by kernel_rfl) (by kernel_rfl) ?_
          simp only [List.take_succ_cons, List.take_zero, List.drop_succ_cons, List.drop_zero]
          repeat (any_goals (first | go_big_quiet_step ((fail)) | quiet_step ((fail))))
          refine wpQuiet_nil ?_
          rintro w2 ⟨nq2, rfl⟩
          have HS := Lib.hid ((HCJ.out.drewN nq2).set (j + 1))
          rw [show ((j + 1 : Nat) : Int) = (j : Int) + 1 by omega] at HS
          obtain ⟨w3, hw3⟩ : ∃ w3, wr.drewN nq2 = w3 := ⟨_, rfl⟩
          have hx3 := HX.out.same ((like_drewN wr nq2).turn (fun _ => False))
          have cz0 := turn_cell ((like_drewN wr nq2).turn (fun _ => False)) cz0
          have cz1 := turn_cell ((like_drewN wr nq2).turn (fun _ => False)) cz1
          have cl := turn_cell ((like_drewN wr nq2).turn (fun _ => False)) cl
          have cto := (hx3.at_ 2 _ rfl).cell
          have ci := (HCJ.out.drewN nq2).1.cell
          have fi := (HCJ.out.drewN nq2).1.frozen
          have cr := (hx3.at_ 3 _ rfl).cell
          have fr2 := (hx3.at_ 3 _ rfl).frozen
          have HK1 := Lib.hid (HKO.out.trans (keepsOthers_drewN wr nq2))
          have HK2 := Lib.hid (HKN.out.trans (si.keepsN_drewN wr nq2))
          clear cf hx3 HKO HKN HCJ HX HCELLS HZZ
          rw [hw3] at HS cz0 cz1 cl cto ci fi cr fr2 HK1 HK2 ⊢
          clear hw3
          change w3.cell? ⟨M + 1 + 1, 0, none⟩ = some (strV tu) at cto
          change w3.cell? ⟨M + 1 + 1 + 1, 0, none⟩ = some (.bool false) at cr
          change w3.frozen? ⟨M + 1 + 1 + 1, 0, none⟩ = false at fr2
          by_cases heq : z = x
          · subst heq
            have e4 : (z.1 != z.1) = false := by simp
            have e3 : (z.2 != z.2) = false := by simp
            gi_wp2
            refine ⟨HK1.out.trans HS.out.2.1, HK2.out.trans HS.out.2.2, ?_⟩
            have hl : (pre ++ [z]).length = m + 1 := by rw [List.length_append, HM.out]; rfl
            have hi : ival k0 (m + 1) = j + 1 := by unfold ival; rw [if_neg (by omega), HJ0.out]; omega
            refine ⟨?_, ?_⟩
            · show CountI w8 ib (ival k0 (pre ++ [z]).length) _
              rw [hl, hi]; exact HS.out.1
            · have e := (List.getElem?_eq_some_iff.1 HY.out).2
              rw [hl, List.take_succ_eq_append_getElem hlt, e, ← HF.out]
          · have HNP := Lib.hid (show ¬ (pre ++ [x] <+: betw fr tu t) from by
              rintro ⟨r, hr⟩
              apply heq
              have h := HY.out
              rw [← hr, ← HM.out] at h
              simp at h
              exact h.symm)
            by_cases hk0 : z.1 = x.1
            · have hk2 : ¬ z.2 = x.2 := fun q => heq (Prod.ext hk0 q)
              have e4 : (z.1 != x.1) = false := by simp [hk0]
              have e3 : (z.2 != x.2) = true := by simp only [bne_iff_ne, ne_eq]; exact hk2
              clear heq
              gi_wp2
              exact ⟨HK1.out.trans (KeepsOthers.setCell _ _ _), HNP.out⟩
            · have e4 : (z.1 != x.1) = true := by simp only [bne_iff_ne, ne_eq]; exact hk0
              clear heq
              gi_wp2
              exact ⟨HK1.out.trans (KeepsOthers.setCell _ _ _), HNP.out⟩
    case bdone =>
      intro D2 xs W9 hD2 hS hJ hK2
      obtain ⟨hcount, _⟩ := hJ
      rw [hS] at hcount
      have HCO := Lib.hid hcount
      have HX9 := Lib.hid ((HX8.out.box hcount.2 HIB.out HLE.out (wBoxes_int _ _ _)).cons hK2)
      have HDD := Lib.hid (show D < D2 from Nat.lt_of_lt_of_le (HX8.out.below (by simp)) hD2)
      have HD2 := Lib.hid (Nat.le_trans HX8.out.turn.size hD2)
      obtain ⟨n, hn⟩ : ∃ n, (betw fr tu t).length = n := ⟨_, rfl⟩
      have HN := Lib.hid hn
      have hplen := HPA.out.len
      rw [hn] at HCO hplen
      clear hcount hK2 hD2 hS HS1 HS2 HAT HX8 hn
      go_wp2_with fail
      go_loopw [] (fun wr => ∃ j : Nat, CountI W9 ib j wr ∧ j ≤ k0 + n ∧ (j = k0 + n ∨ n = 0)) (fun wr => k0 + n - cntOf wr ib)
      case atStart => exact ⟨_, ⟨HCO.out.1, Turn.refl _ _⟩, by unfold ival; split <;> omega, by unfold ival; split <;> omega⟩
      case round =>
        obtain ⟨j, hcj, hj1, hj2⟩ := hrel
        have hx := HX9.out.box hcj.2 HCO.out.1 HLE.out (wBoxes_int _ _ _)
        obtain ⟨_, _, e0, hcells0⟩ := HV.out.later hx.turn
        cases e0
        have ci := hcj.1.cell
        have fi := hcj.1.frozen
        have i0 : (0 : Int) ≤ (j : Int) := by omega
        have h4 := HL.out
        have i9 : (j : Int) + 1 ≤ 1000 := by omega
        clear h4
        have HCJ := Lib.hid hcj
        have HX := Lib.hid hx
        have HFIN := Lib.hid (fun k => (hx.same ((like_drewN wr k).turn (fun _ => False))).fin2 (r := 3) (b0 := .bool false) rfl HDD.out HD.out true)
        have HCR := Lib.hid (fun k => show (wr.drewN k).cell? ⟨M + 1 + 1 + 1, 0, none⟩ = some (.bool false) from ((hx.same ((like_drewN wr k).turn (fun _ => False))).at_ 3 _ rfl).cell)
        have HFR := Lib.hid (fun k => show (wr.drewN k).frozen? ⟨M + 1 + 1 + 1, 0, none⟩ = false from ((hx.same ((like_drewN wr k).turn (fun _ => False))).at_ 3 _ rfl).frozen)
        by_cases hjl : j < t.list.length
        · obtain ⟨b2, o2, e2, hcells⟩ := hcells0 (by omega)
          subst e2
          obtain ⟨z, hz⟩ : ∃ z, t.list[j]? = some z := ⟨_, List.getElem?_eq_getElem hjl⟩
          obtain ⟨cz0, cz1⟩ := hcells _ _ hz
          have cl : wr.cell? ⟨M, 0, none⟩ = some (.slice (some ⟨b2, o2, none⟩) t.list.length capv) := (hx.at_ 0 _ rfl).cell
          have cf : wr.cell? ⟨M + 1, 0, none⟩ = some (strV fr) := (hx.at_ 1 _ rfl).cell
          have cto : wr.cell? ⟨M + 1 + 1, 0, none⟩ = some (strV tu) := (hx.at_ 2 _ rfl).cell
          have i1 : (j : Int) < (t.list.length : Int) := by omega
          have e1 := less_eq z.1 fr
          clear hcj hx hcells0 hcells
          by_cases hjt : j < k0 + n
          · have hm0 : n = 0 := by omega
            rw [decide_eq_true (HPA.out.low _ _ hz (by omega))] at e1
            clear hz cz1 cto
            go_wp2_with fail
            go_quiet ((fail))
            have HS := Lib.hid ((HCJ.out.drewN nq).set (j + 1))
            rw [show ((j + 1 : Nat) : Int) = (j : Int) + 1 by omega] at HS
            go_wp2_with fail
            refine ⟨⟨j + 1, HS.out.1, by omega, .inr hm0⟩, ?_⟩
            rw [HS.out.1.cnt, HCJ.out.cnt]
            omega
          · rw [decide_eq_false (HPA.out.high _ _ hz (by omega))] at e1
            have e2 := less_eq z.1 tu
            rw [decide_eq_false (HPA.out.over _ _ hz (by have := HN.out; omega))] at e2
            clear hz cz1 hjt hj1 hj2 hplen
            go_wp2_with fail
            go_quiet ((fail))
            go_wp2_with fail
            refine (wpIn_wide (n := 10)).1 ?_
            refine Qt.quiet_tail_wide 13 (by kernel_rfl) (by kernel_rfl) (by kernel_rfl) (by kernel_rfl) (by kernel_rfl) (by kernel_rfl) (by kernel_rfl) (by kernel_rfl) ?_
            simp only [List.take_succ_cons, List.take_zero, List.drop_succ_cons, List.drop_zero]
            repeat (any_goals (first | go_big_quiet_step ((fail)) | quiet_step ((fail))))
            refine wpQuiet_nil ?_
            rintro w2 ⟨nq3, rfl⟩
            obtain ⟨M2, M1, ME⟩ := HFIN.out (nq + nq3)
            have cr := HCR.out (nq + nq3)
            have fr2 := HFR.out (nq + nq3)
            rw [World.drewN_drewN]
            generalize wr.drewN (nq + nq3) = w5 at M2 M1 ME cr fr2 ⊢
            gi_wp2
            go_wp2_with fail
            refine ⟨by simp, .inl ⟨_, _, rfl, run_takeDeferred M2, ?_⟩⟩
            refine ⟨by simp, .inl ⟨_, _, rfl, run_takeDeferred M1, ?_⟩⟩
            exact ⟨_, results_whole (g := M + 1 + 1 + 1) rfl ME.1, rfl, ME.2⟩
        · obtain rfl : j = t.list.length := by omega
          have cl : wr.cell? ⟨M, 0, none⟩ = some (.slice spv t.list.length capv) := (hx.at_ 0 _ rfl).cell
          have cf : wr.cell? ⟨M + 1, 0, none⟩ = some (strV fr) := (hx.at_ 1 _ rfl).cell
          have cto : wr.cell? ⟨M + 1 + 1, 0, none⟩ = some (strV tu) := (hx.at_ 2 _ rfl).cell
          clear hcj hx hcells0 hj1 hj2 hplen hjl
          go_wp2_with fail
          go_quiet ((fail))
          go_wp2_with fail
          refine (wpIn_wide (n := 10)).1 ?_
          refine Qt.quiet_tail_wide 13 (by kernel_rfl) (by kernel_rfl) (by kernel_rfl) (by kernel_rfl) (by kernel_rfl) (by kernel_rfl) (by kernel_rfl) (by kernel_rfl) ?_
          simp only [List.take_succ_cons, List.take_zero, List.drop_succ_cons, List.drop_zero]
          repeat (any_goals (first | go_big_quiet_step ((fail)) | quiet_step ((fail))))
          refine wpQuiet_nil ?_
          rintro w2 ⟨nq3, rfl⟩
          obtain ⟨M2, M1, ME⟩ := HFIN.out (nq + nq3)
          have cr := HCR.out (nq + nq3)
          have fr2 := HFR.out (nq + nq3)
          rw [World.drewN_drewN]
          generalize wr.drewN (nq + nq3) = w5 at M2 M1 ME cr fr2 ⊢
          gi_wp2
          go_wp2_with fail
          refine ⟨by simp, .inl ⟨_, _, rfl, run_takeDeferred M2, ?_⟩⟩
          refine ⟨by simp, .inl ⟨_, _, rfl, run_takeDeferred M1, ?_⟩⟩
          exact ⟨_, results_whole (g := M + 1 + 1 + 1) rfl ME.1, rfl, ME.2⟩
end
end Go.Proofs.Ytblaicejpijfbaa
