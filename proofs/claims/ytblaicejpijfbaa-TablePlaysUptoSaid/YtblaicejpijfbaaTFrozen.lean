/-
  OF THE LAWS: frozen: a snapshot is just these pairs.
-/
import Derived.Test.YtblaicejpijfbaaTBoxes
import Derived.StillTailTactics
import Derived.LoopIn
namespace Go.Proofs.Ytblaicejpijfbaa
open Go.RowKit Go.Maps Go.WideMaps Go.Shelf Go.Proofs.Ytblaicejpijfbaa.Tb
attribute [local go_sem] Oper.semAt_some

section
variable {w w' : World}

theorem slen_q {sp : Nat} {ver : Int} {root : Option Addr} (h : si.SnapC w sp root ver) {t : Tr (List UInt8) Int} (ht : si.TrAt w (.pointer root) t) {n : Nat} (hn : t.count = n) : Calls Try.prog 23 #[.pointer (some ⟨sp, 0, none⟩)] w fun r w' => r = .returned (.int .i64 (n : Nat)) ∧ w' = w := by
  subst hn
  exact (si.slen_any h ht).mono fun _ _ ⟨a, b⟩ => ⟨a, b.symm⟩

theorem findL_at : ∀ {l : List Pr3} {j : Nat} {y : Pr3}, Rises l → l[j]? = some y → findL l y.1 = some y.2
  | [], j, y, _, h => by simp at h
  | x :: r, 0, y, hr, h => by
    simp at h
    subst h
    unfold findL
    simp
  | x :: r, j + 1, y, hr, h => by
    obtain ⟨h1, h2⟩ := rises_cons.1 hr
    rw [List.getElem?_cons_succ] at h
    have hne : x.1 ≠ y.1 := Tb.ne_of_lt (h1 y (List.mem_of_getElem? h))
    rw [findL_cons_ne hne]
    exact findL_at h2 h

theorem sget_q {sp : Nat} {ver : Int} {root : Option Addr} (h : si.SnapC w sp root ver) {t : Tr (List UInt8) Int} (ht : si.TrAt w (.pointer root) t) {k : List UInt8} {x : Int} (hx : Tb.get t k = some x) :
    Calls Try.prog 21 #[.pointer (some ⟨sp, 0, none⟩), .string ⟨k.toArray⟩] w fun r w' => r = .returned (.tuple #[.int .i64 x, .bool true]) ∧ w = w' := by
  have := si.sget_any h ht k
  rw [hx] at this
  exact this

theorem results_frozen {tmps : Array Value} {g : Nat} {b : Bool} (hp : tmps.getD 8 undef = .pointer (some ⟨g, 0, none⟩)) (hc : w.cell? ⟨g, 0, none⟩ = some (.bool b)) : (results Try.f18 tmps).run Try.prog w = .ok (.bool b) w := by
  have hp' : tmps[8]?.getD undef = .pointer (some ⟨g, 0, none⟩) := by simpa using hp
  have hr : Try.f18.results = #[.cell 8 4] := by kernel_rfl
  simp only [results, hr]
  simp [hp', asAddr]
  go_simp

/-- the boxes of frozen -/
abbrev fBoxes (sp : Nat) (v : Value) (fr tu : List UInt8) : List (TypeId × Value) := [(39, .pointer (some ⟨sp, 0, none⟩)), (27, v), (9, strV fr), (9, strV tu), (4, .bool false)]

theorem fBoxes_int (sp : Nat) (v : Value) (fr tu : List UInt8) : ∀ p ∈ fBoxes sp v fr tu, p.1 ≠ 3 := by
  intro p hp
  simp [fBoxes] at hp
  rcases hp with rfl | rfl | rfl | rfl | rfl <;> simp

theorem fBoxes_new (w : World) (sp : Nat) (v : Value) (fr tu : List UInt8) : Bx w (((((w.alloc (.cells #[.pointer (some ⟨sp, 0, none⟩)] 39)).alloc (.cells #[v] 27)).alloc (.cells #[strV fr] 9)).alloc (.cells #[strV tu] 9)).alloc (.cells #[.bool false] 4)) w.heap.size (fBoxes sp v fr tu) [] :=
  (((((bx_nil w).snoc rfl 39 (.pointer (some ⟨sp, 0, none⟩))).snoc (by simp) 27 v).snoc (by simp) 9 (strV fr)).snoc (by simp) 9 (strV tu)).snoc (by simp) 4 (.bool false)

theorem take_filter {l : List Pr3} {p : Pr3 → Bool} {j : Nat} {y : Pr3} (h : l[j]? = some y) : ((l.take (j + 1)).filter p).length = ((l.take j).filter p).length + (if p y then 1 else 0) := by
  obtain ⟨hlt, e⟩ := List.getElem?_eq_some_iff.1 h
  rw [List.take_succ_eq_append_getElem hlt, e, List.filter_append, List.length_append, List.filter_cons, List.filter_nil]
  split <;> rfl

set_option maxRecDepth 100000 in
set_option maxHeartbeats 4000000 in
theorem frozen_walk {sp : Nat} {ver : Int} {root : Option Addr} {v : Value} {t : Tr (List UInt8) Int} (hsn : si.SnapC w sp root ver) (htr : si.TrAt w (.pointer root) t) (hv : PairsR w v t.list) (hr : Rises t.list) (hz : t.Sized) (hl : t.list.length ≤ 400) (fr tu : List UInt8) :
    Calls Try.prog 18 #[.pointer (some ⟨sp, 0, none⟩), v, strV fr, strV tu] w fun r w' => r = .returned (.bool true) ∧ Turn (fun _ => False) w w' := by
  have HSNP := Lib.hid hsn
  have HTR := Lib.hid htr
  have HV := Lib.hid hv
  have HR := Lib.hid hr
  have HZ := Lib.hid (hz.count)
  have HL := Lib.hid hl
  obtain ⟨spv, capv, rfl, _⟩ := hv
  have HB0 := Lib.hid (fBoxes_new w sp (.slice spv t.list.length capv) fr tu)
  clear hsn htr hr hz hl
  refine (callsIn_wide (n := 10)).1 ?_
  refine callsIn_of_wp_marks Try.func18 rfl trivial ?_ rfl
  simp only [Try.ntmps18, List.size_toArray, List.length_cons, List.length_nil, Nat.reduceAdd, Nat.reduceSub, Array.replicate_succ, Array.replicate_zero, List.push_toArray, List.append_toArray, List.nil_append, List.cons_append]
  refine wpIn_wide.2 ?_
  have cs0 := (((HB0.out.same (turnBox _ (.cells #[.int .i64 0] 3)))).at_ 0 _ rfl).cell
  change World.cell? _ ⟨w.heap.size, 0, none⟩ = _ at cs0
  go_wp2_with fail
  go_at_call 19
  refine (sall_at _ _).mono ?_
  rintro r w6 ⟨B1, B2, rfl, c2, c1, ht6⟩
  have hib : Boxed w6 (w.heap.size + 1 + 1 + 1 + 1 + 1) 3 (.int .i64 0) := boxed_same (boxed_at (by simp) _ _) ht6
  have hbx := (HB0.out.same (turnBox _ (.cells #[.int .i64 0] 3))).same ht6
  have hle : w.heap.size ≤ w.heap.size + 1 + 1 + 1 + 1 + 1 := by omega
  obtain ⟨M, hM⟩ : ∃ M, w.heap.size = M := ⟨_, rfl⟩
  obtain ⟨ib, hb⟩ : ∃ ib, M + 1 + 1 + 1 + 1 + 1 = ib := ⟨_, rfl⟩
  rw [hM] at hib hbx ⊢
  rw [hM, hb, ← hM] at hle
  rw [hb] at hib ⊢
  have HIB := Lib.hid hib
  have HBX := Lib.hid hbx
  have HLE := Lib.hid hle
  have HC1 := Lib.hid c1
  have HC2 := Lib.hid c2
  have HS1 := Lib.hid (HSNP.out.later hbx.turn (fun q => q))
  have HS2 := Lib.hid (HTR.out.later hbx.turn)
  clear c1 c2 hib hbx hle ht6 HB0 hb cs0
  go_wp2_with fail
  refine (wpIn_wide (n := 10)).1 ?_
  refine wpIn_rangeFunc_ownF rfl (by decide) (gf := 65) (lb := #[.pointer (some ⟨B2, 0, none⟩)]) rfl trivial (enters_of Try.func65 (by kernel_rfl) rfl) (si.sall_stops (n := 10 - 1) HC2.out HC1.out HS1.out HS2.out) si.KeepsN.trans si.keepsN_b (Below.refl _ _) (fun _ => rfl)
    (fun pre W => CountI w6 ib pre.length W ∧ pre = t.list.take pre.length) (fun _ pre _ => ¬ pre <+: t.list) ?aI ?aIx ?a0 ?a1 ?aassign ?abody ?adone ?astop
  case aI => exact fun pre W W' row h hg hr => ⟨CountI.own HIB.out.lt (fun pre => pre.length) pre W W' row h.1 hg hr, h.2⟩
  case aIx => exact fun _ _ _ _ _ h _ _ => h
  case a0 => exact ⟨⟨HIB.out, Turn.refl _ _⟩, rfl⟩
  case aassign =>
    intro l x W K hK
    gi_wp2
    exact hK
  case astop => exact fun _ _ _ _ _ hp h _ => absurd hp h
  case abody =>
    intro lp pre x W hJ hlt
    obtain ⟨hcount, hfront⟩ := hJ
    have hx := HBX.out.box hcount.2 HIB.out HLE.out (fBoxes_int _ _ _ _)
    obtain ⟨_, _, e0, hcells0⟩ := HV.out.later hx.turn
    cases e0
    obtain ⟨b2, o2, e2, hcells⟩ := hcells0 (by omega)
    subst e2
    obtain ⟨y, hy⟩ : ∃ y, t.list[pre.length]? = some y := ⟨_, List.getElem?_eq_getElem hlt⟩
    obtain ⟨cy0, cy1⟩ := hcells _ _ hy
    have cs : W.cell? ⟨M, 0, none⟩ = some (.pointer (some ⟨sp, 0, none⟩)) := (hx.at_ 0 _ rfl).cell
    have cl : W.cell? ⟨M + 1, 0, none⟩ = some (.slice (some ⟨b2, o2, none⟩) t.list.length capv) := (hx.at_ 1 _ rfl).cell
    have ci := hcount.1.cell
    have fi := hcount.1.frozen
    have cr : W.cell? ⟨M + 1 + 1 + 1 + 1, 0, none⟩ = some (.bool false) := (hx.at_ 4 _ rfl).cell
    have fr2 : W.frozen? ⟨M + 1 + 1 + 1 + 1, 0, none⟩ = false := (hx.at_ 4 _ rfl).frozen
    have i0 : (0 : Int) ≤ (pre.length : Int) := by omega
    have i1 : (pre.length : Int) < (t.list.length : Int) := by omega
    have h4 := HL.out
    have i9 : (pre.length : Int) + 1 ≤ 1000 := by omega
    have hset := hcount.set (pre.length + 1)
    rw [show ((pre.length + 1 : Nat) : Int) = (pre.length : Int) + 1 by omega] at hset
    have hget : Tb.get t y.1 = some y.2 := by rw [get_list HR.out]; exact findL_at HR.out hy
    have HGET := Lib.hid (sget_q (HSNP.out.later hx.turn (fun q => q)) (HTR.out.later hx.turn) hget)
    have HSET := Lib.hid hset
    have HF := Lib.hid hfront
    have HY := Lib.hid hy
    clear hcount hx hcells hcells0 hset hfront h4 hy hget
    by_cases heq : y = x
    · subst heq
      have e1 : (y.1 != y.1) = false := by simp
      have e3 : (y.2 != y.2) = false := by simp
      gi_wp2_with ((first | (refine ⟨trivial, fun h => (by cases h), ?_⟩) | (refine ⟨trivial, ?_⟩) | (refine ⟨fun h => (by cases h), ?_⟩) | skip); gi_at_call 21; refine (calls_round HGET.out).mono ?_; rintro r w9 ⟨rfl, rfl⟩)
      refine ⟨HSET.out.2.1, HSET.out.2.2, ?_⟩
      have hl : (pre ++ [y]).length = pre.length + 1 := by simp
      refine ⟨by rw [hl]; exact HSET.out.1, ?_⟩
      have e := (List.getElem?_eq_some_iff.1 HY.out).2
      rw [hl, List.take_succ_eq_append_getElem hlt, e, ← HF.out]
    · have HNP := Lib.hid (show ¬ (pre ++ [x] <+: t.list) from by
        rintro ⟨r, hr⟩
        apply heq
        have h := HY.out
        rw [← hr] at h
        simp at h
        exact h.symm)
      by_cases hk0 : y.1 = x.1
      · have hk2 : ¬ y.2 = x.2 := fun q => heq (Prod.ext hk0 q)
        have e1 : (y.1 != x.1) = false := by simp [hk0]
        have e3 : (y.2 != x.2) = true := by simp only [bne_iff_ne, ne_eq]; exact hk2
        clear heq
        gi_wp2
        exact ⟨KeepsOthers.setCell _ _ _, HNP.out⟩
      · have e1 : (y.1 != x.1) = true := by simp only [bne_iff_ne, ne_eq]; exact hk0
        clear heq
        gi_wp2
        exact ⟨KeepsOthers.setCell _ _ _, HNP.out⟩
  case adone =>
    intro D xs W1 hD hS hJ hK
    obtain ⟨hcount, _⟩ := hJ
    rw [hS] at hcount
    have hx := (HBX.out.box hcount.2 HIB.out HLE.out (fBoxes_int _ _ _ _)).cons hK
    have hx3 := hx.same (turnBox W1 (.cells #[.int .i64 0] 3))
    have cs : (W1.alloc (.cells #[.int .i64 0] 3)).cell? ⟨M, 0, none⟩ = some (.pointer (some ⟨sp, 0, none⟩)) := (hx3.at_ 0 _ rfl).cell
    have cf : (W1.alloc (.cells #[.int .i64 0] 3)).cell? ⟨M + 1 + 1, 0, none⟩ = some (strV fr) := (hx3.at_ 2 _ rfl).cell
    have cto : (W1.alloc (.cells #[.int .i64 0] 3)).cell? ⟨M + 1 + 1 + 1, 0, none⟩ = some (strV tu) := (hx3.at_ 3 _ rfl).cell
    have HNE := Lib.hid (show ib ≠ W1.heap.size from by have := hcount.1.lt; omega)
    have HNB := Lib.hid (boxed_at (W := W1) rfl 3 (.int .i64 0))
    have HIB3 := Lib.hid (hcount.1.alloc (.cells #[.int .i64 0] 3))
    have HNL := Lib.hid hx.turn.size
    have HD := Lib.hid (Nat.le_trans HBX.out.turn.size hD)
    have HX3 := Lib.hid hx3
    clear hx hx3 hcount hK hD hS HS1 HS2 HC1 HC2 HIB HBX
    go_wp2_with fail
    go_at_call 20
    refine (si.srng_any _ _ _ _).mono ?_
    rintro r w8 ⟨R1, R2, R3, R4, rfl, hat8, ht8⟩
    generalize W1.heap.size = nb at HNE HNB HNL ⊢
    have hx8 := HX3.out.same ht8
    have HNB8 := Lib.hid (boxed_same HNB.out ht8)
    have HIB8 := Lib.hid (boxed_same HIB3.out ht8)
    have HX8 := Lib.hid hx8
    have HS1 := Lib.hid (HSNP.out.later hx8.turn (fun q => q))
    have HS2 := Lib.hid (HTR.out.later hx8.turn)
    have HAT := Lib.hid hat8
    clear hat8 ht8 hx8 HX3 HNB HIB3 cf cto cs
    go_wp2_with fail
    refine (wpIn_wide (n := 10)).1 ?_
    refine wpIn_rangeFunc_ownF rfl (by decide) (gf := 65) (lb := #[.pointer (some ⟨R4, 0, none⟩)]) rfl trivial (enters_of Try.func65 (by kernel_rfl) rfl) (si.srng_stops (n := 10 - 1) HAT.out.b4 HAT.out.b1 HAT.out.b2 HAT.out.b3 HS1.out HS2.out) si.KeepsN.trans si.keepsN_b (Below.refl _ _) (fun _ => rfl)
      (fun pre W => CountI w8 nb pre.length W) (fun _ pre _ => ¬ pre <+: betw fr tu t) ?bI ?bIx ?b0 ?b1 ?bassign ?bbody ?bdone ?bstop
    case bI => exact CountI.own HNB8.out.lt (fun pre => pre.length)
    case bIx => exact fun _ _ _ _ _ h _ _ => h
    case b0 => exact ⟨HNB8.out, Turn.refl _ _⟩
    case bassign =>
      intro l x W K hK
      gi_wp2
      exact hK
    case bstop => exact fun _ _ _ _ _ hp h _ => absurd hp h
    case bbody =>
      intro lp pre x W hcount hlt
      have hx := HX8.out.box hcount.2 HNB8.out HNL.out (fBoxes_int _ _ _ _)
      have cf : W.cell? ⟨M + 1 + 1, 0, none⟩ = some (strV fr) := (hx.at_ 2 _ rfl).cell
      have cto : W.cell? ⟨M + 1 + 1 + 1, 0, none⟩ = some (strV tu) := (hx.at_ 3 _ rfl).cell
      have ci := hcount.1.cell
      have fi := hcount.1.frozen
      have cr : W.cell? ⟨M + 1 + 1 + 1 + 1, 0, none⟩ = some (.bool false) := (hx.at_ 4 _ rfl).cell
      have fr2 : W.frozen? ⟨M + 1 + 1 + 1 + 1, 0, none⟩ = false := (hx.at_ 4 _ rfl).frozen
      have i0 : (0 : Int) ≤ (pre.length : Int) := by omega
      have hbl : (betw fr tu t).length ≤ t.list.length := by rw [betw_list HR.out]; exact List.length_filter_le _ _
      have h4 := HL.out
      have i9 : (pre.length : Int) + 1 ≤ 1000 := by omega
      have hset := hcount.set (pre.length + 1)
      rw [show ((pre.length + 1 : Nat) : Int) = (pre.length : Int) + 1 by omega] at hset
      have HSET := Lib.hid hset
      have e1 := less_eq x.1 fr
      have e2 := less_eq x.1 tu
      have HIN := Lib.hid (show pre ++ [x] <+: betw fr tu t → ¬ x.1 < fr ∧ x.1 < tu from by
        rintro ⟨r, hr⟩
        have hm : x ∈ betw fr tu t := by rw [← hr]; simp
        rw [betw_list HR.out] at hm
        have := (List.mem_filter.1 hm).2
        simpa [inR] using this)
      clear hcount hx hset h4 hbl
      by_cases d1 : x.1 < fr
      · rw [decide_eq_true d1] at e1
        have HNP := Lib.hid (show ¬ (pre ++ [x] <+: betw fr tu t) from fun h => (HIN.out h).1 d1)
        clear d1 e2
        gi_wp2
        exact ⟨KeepsOthers.setCell _ _ _, HNP.out⟩
      · rw [decide_eq_false d1] at e1
        by_cases d2 : x.1 < tu
        · rw [decide_eq_true d2] at e2
          clear d1 d2
          gi_wp2
          refine ⟨HSET.out.2.1, HSET.out.2.2, ?_⟩
          have hl : (pre ++ [x]).length = pre.length + 1 := by simp
          show CountI w8 nb (pre ++ [x]).length _
          rw [hl]
          exact HSET.out.1
        · rw [decide_eq_false d2] at e2
          have HNP := Lib.hid (show ¬ (pre ++ [x] <+: betw fr tu t) from fun h => d2 (HIN.out h).2)
          clear d1 d2
          gi_wp2
          exact ⟨KeepsOthers.setCell _ _ _, HNP.out⟩
    case bdone =>
      intro D2 xs W9 hD2 hS hcount hK2
      rw [hS] at hcount
      have hx := (HX8.out.box hcount.2 HNB8.out HNL.out (fBoxes_int _ _ _ _)).cons hK2
      have HX9 := Lib.hid hx
      have HNB9 := Lib.hid hcount.1
      have HIB9 := Lib.hid (boxed_turn HIB8.out hcount.2 HNE.out)
      have HDD := Lib.hid (show D < D2 from Nat.lt_of_lt_of_le (HX8.out.below (by simp)) hD2)
      have cl : W9.cell? ⟨M + 1, 0, none⟩ = some (.slice spv t.list.length capv) := (hx.at_ 1 _ rfl).cell
      have cf : W9.cell? ⟨M + 1 + 1, 0, none⟩ = some (strV fr) := (hx.at_ 2 _ rfl).cell
      have cto : W9.cell? ⟨M + 1 + 1 + 1, 0, none⟩ = some (strV tu) := (hx.at_ 3 _ rfl).cell
      have HCELLS := Lib.hid (HV.out.later hx.turn)
      clear hcount hK2 hD2 hS HS1 HS2 HAT HX8 hx HNB8 HIB8
      go_wp2_with fail
      go_loopw [16, 17] (fun vw vk wr => ∃ j : Nat, j ≤ t.list.length ∧ vk = .int .i64 (j : Nat) ∧ vw = .int .i64 ((((t.list.take j).filter (inR fr tu)).length : Nat) : Int) ∧ ∃ k, wr = W9.drewN k) (fun _ vk _ => t.list.length - (intOf vk).toNat)
      case atStart => exact ⟨0, Nat.zero_le _, rfl, by simp, 0, rfl⟩
      case round =>
        obtain ⟨j, hj, rfl, rfl, k9, rfl⟩ := hrel
        by_cases hlt : j < t.list.length
        · obtain ⟨_, _, e0, hcells0⟩ := HCELLS.out
          cases e0
          obtain ⟨b2, o2, e2, hcells⟩ := hcells0 (by omega)
          subst e2
          obtain ⟨z, hz⟩ : ∃ z, t.list[j]? = some z := ⟨_, List.getElem?_eq_getElem hlt⟩
          obtain ⟨cz0, _⟩ := hcells _ _ hz
          have htf := take_filter (p := inR fr tu) hz
          obtain ⟨c, hc⟩ : ∃ c, ((t.list.take j).filter (inR fr tu)).length = c := ⟨_, rfl⟩
          have hcl : c ≤ t.list.length := by
            have h1 := List.length_filter_le (inR fr tu) (t.list.take j)
            rw [List.length_take] at h1
            omega
          rw [hc] at htf ⊢
          have h4 := HL.out
          have i0 : (0 : Int) ≤ (j : Int) := by omega
          have i1 : (j : Int) < (t.list.length : Int) := by omega
          have i2 : (0 : Int) ≤ (c : Int) := by omega
          have i3 : (c : Int) + 1 ≤ 1000 := by omega
          have i9 : (j : Int) + 1 ≤ 1000 := by omega
          have e1 := less_eq z.1 fr
          have e2 := less_eq z.1 tu
          have HTF := Lib.hid htf
          clear hcells hcells0 hz h4 htf hcl hc
          by_cases d1 : z.1 < fr
          · rw [decide_eq_true d1] at e1
            have hin : inR fr tu z = false := by unfold inR; simp [d1]
            have HIN := Lib.hid hin
            clear d1 e2 hin
            go_wp2_with fail
            go_quiet ((fail))
            go_wp2_with fail
            go_roundw
            case rel => exact ⟨j + 1, by omega, by go_num, by rw [HTF.out, HIN.out]; simp, _, rfl⟩
            case measure => simp [intOf]; omega
          · rw [decide_eq_false d1] at e1
            by_cases d2 : z.1 < tu
            · rw [decide_eq_true d2] at e2
              have HIN := Lib.hid (show inR fr tu z = true by unfold inR; simp [d1, d2])
              clear d1 d2
              go_wp2_with fail
              go_quiet ((fail))
              go_wp2_with fail
              go_roundw
              case rel => exact ⟨j + 1, by omega, by go_num, by rw [HTF.out, HIN.out]; simp, _, rfl⟩
              case measure => simp [intOf]; omega
            · rw [decide_eq_false d2] at e2
              have HIN := Lib.hid (show inR fr tu z = false by unfold inR; simp [d2])
              clear d1 d2
              go_wp2_with fail
              go_quiet ((fail))
              go_wp2_with fail
              go_roundw
              case rel => exact ⟨j + 1, by omega, by go_num, by rw [HTF.out, HIN.out]; simp, _, rfl⟩
              case measure => simp [intOf]; omega
        · obtain rfl : j = t.list.length := by omega
          rw [List.take_length, ← betw_list HR.out]
          have hx10 := HX9.out.same ((like_drewN W9 k9).turn (fun _ => False))
          have hib10 := boxed_same HIB9.out ((like_drewN W9 k9).turn (fun _ => False))
          have hnb10 := boxed_same HNB9.out ((like_drewN W9 k9).turn (fun _ => False))
          clear cl cf cto
          generalize W9.drewN k9 = W10 at hx10 hib10 hnb10 ⊢
          have cs : W10.cell? ⟨M, 0, none⟩ = some (.pointer (some ⟨sp, 0, none⟩)) := (hx10.at_ 0 _ rfl).cell
          have cl : W10.cell? ⟨M + 1, 0, none⟩ = some (.slice spv t.list.length capv) := (hx10.at_ 1 _ rfl).cell
          have cib := hib10.cell
          have cnb := hnb10.cell
          have e5 : ((t.list.length : Int) == (t.list.length : Int)) = true := by simp
          have e6 : (((betw fr tu t).length : Int) == ((betw fr tu t).length : Int)) = true := by simp
          have HLEN := Lib.hid (fun k => slen_q (HSNP.out.later (hx10.turn.like (like_drewN W10 k)) (fun q => q)) (HTR.out.later (hx10.turn.like (like_drewN W10 k))) HZ.out)
          have HFIN := Lib.hid (fun k => (hx10.same ((like_drewN W10 k).turn (fun _ => False))).fin2 (r := 4) (b0 := .bool false) rfl HDD.out HD.out true)
          have HCR := Lib.hid (fun k => show (W10.drewN k).cell? ⟨M + 1 + 1 + 1 + 1, 0, none⟩ = some (.bool false) from ((hx10.same ((like_drewN W10 k).turn (fun _ => False))).at_ 4 _ rfl).cell)
          have HFR := Lib.hid (fun k => show (W10.drewN k).frozen? ⟨M + 1 + 1 + 1 + 1, 0, none⟩ = false from ((hx10.same ((like_drewN W10 k).turn (fun _ => False))).at_ 4 _ rfl).frozen)
          clear hx10 hib10 hnb10
          clear hlt hj
          go_wp2_with fail
          refine (wpIn_wide (n := 10)).1 ?_
          refine Qt.quiet_tail_wide 16 (by kernel_rfl) (by kernel_rfl) (by kernel_rfl) (by kernel_rfl) (by kernel_rfl) (by kernel_rfl) (by kernel_rfl) (by kernel_rfl) ?_
          simp only [List.take_succ_cons, List.take_zero, List.drop_succ_cons, List.drop_zero]
          repeat (any_goals (first | go_big_quiet_step ((go_at_call 23; with_reducible exact Calls.quiet_of_same (HLEN.out _))) | quiet_step ((go_at_call 23; with_reducible exact Calls.quiet_of_same (HLEN.out _)))))
          refine wpQuiet_nil ?_
          rintro w2 ⟨nq3, rfl⟩
          obtain ⟨M2, M1, ME⟩ := HFIN.out nq3
          have cr := HCR.out nq3
          have fr2 := HFR.out nq3
          generalize W10.drewN nq3 = w5 at M2 M1 ME cr fr2 ⊢
          gi_wp2
          go_wp2_with fail
          refine ⟨by simp, .inl ⟨_, _, rfl, run_takeDeferred M2, ?_⟩⟩
          refine ⟨by simp, .inl ⟨_, _, rfl, run_takeDeferred M1, ?_⟩⟩
          exact ⟨_, results_frozen (g := M + 1 + 1 + 1 + 1) rfl ME.1, rfl, ME.2⟩
end
end Go.Proofs.Ytblaicejpijfbaa
