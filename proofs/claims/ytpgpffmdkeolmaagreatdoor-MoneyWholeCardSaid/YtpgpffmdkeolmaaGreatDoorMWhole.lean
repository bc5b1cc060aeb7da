/-
  MoneyWhole: the walk.
-/
import Derived.Test.YtpgpffmdkeolmaaGreatDoorGMa
import Derived.Test.YtpgpffmdkeolmaaGreatDoorMSmall
import Derived.Test.YtpgpffmdkeolmaaGreatDoorMSumR
import Derived.Test.YtpgpffmdkeolmaaGreatDoorBMul
import Derived.Test.YtpgpffmdkeolmaaGreatDoorBLow
import Derived.Deep.DeepCutAuto
namespace Go.Proofs.YtpgpffmdkeolmaaGreatDoor
open Go.RowKit Go.Shelf Go.Maps Go.WideMaps
set_option linter.unusedVariables false
set_option linter.unusedSimpArgs false

/-- an empty box of a number, made since base -/
def pBox (base : Nat) : Said := fun v _ w => ∃ g, v = .pointer (some ⟨g, 0, none⟩) ∧ base ≤ g ∧ Own2 w g (.bool false) (.slice none 0 0)
theorem stab_box (base : Nat) : StabO (pBox base) := fun _ _ _ _ t ⟨g, e, h, o⟩ => ⟨g, e, h, o.only t⟩

set_option maxRecDepth 100000 in
theorem whole_out0 {x : Int} {c : ByteArray} {sp : Option Addr} {n cap : Nat} {w : World} (FM : FirstM w) (h0 : (110 : Int) < (n : Int)) :
    Calls Tryz.prog 3 #[.agg #[.int .i64 x, .string c], .slice sp n cap] w fun e w' => e = .returned (.bool true) ∧ Only w w' := by
  have FM := Lib.hid FM
  have oa := Own2.new w (.int .i64 x) (.string c) 23
  have ht := (Only.refl w).alloc (.cells #[.int .i64 x, .string c] 23)
  go_enter Tryz.func3, Tryz.ntmps3
  go_wp2_with fail
  go_at_call 7
  refine (FM.out _ ht).mono ?_
  rintro r w1 ⟨rfl, t1⟩
  replace oa := oa.only t1
  replace ht := ht.trans t1
  obtain ⟨ca1, ca2, -, -, za⟩ := oa.all
  clear t1
  go_wp2
  go_ret
  exact ⟨rfl, ht⟩

set_option maxRecDepth 100000 in
theorem whole_out1 {x : Int} {c : ByteArray} {sp : Option Addr} {n cap : Nat} {w : World} (FM : FirstM w) (h0 : (n : Int) ≤ 110) (h1 : (200 : Int) < (c.size : Int)) :
    Calls Tryz.prog 3 #[.agg #[.int .i64 x, .string c], .slice sp n cap] w fun e w' => e = .returned (.bool true) ∧ Only w w' := by
  have FM := Lib.hid FM
  have oa := Own2.new w (.int .i64 x) (.string c) 23
  have ht := (Only.refl w).alloc (.cells #[.int .i64 x, .string c] 23)
  go_enter Tryz.func3, Tryz.ntmps3
  go_wp2_with fail
  go_at_call 7
  refine (FM.out _ ht).mono ?_
  rintro r w1 ⟨rfl, t1⟩
  replace oa := oa.only t1
  replace ht := ht.trans t1
  obtain ⟨ca1, ca2, -, -, za⟩ := oa.all
  clear t1
  go_wp2
  go_ret
  exact ⟨rfl, ht⟩

set_option maxRecDepth 100000 in
theorem whole_bad {x e : Int} {c : ByteArray} {sp : Option Addr} {n cap : Nat} {w : World} (FM : FirstM w) (h0 : (n : Int) ≤ 110) (h1 : (c.size : Int) ≤ 200) (he : (e == 0) = false) (he2 : (e != 0) = true)
    (AL : ∀ W, Only w W → AlloIs W x c (.slice sp n cap) fun r m _ => m = e ∧ r = .slice none 0 0) :
    Calls Tryz.prog 3 #[.agg #[.int .i64 x, .string c], .slice sp n cap] w fun e w' => e = .returned (.bool true) ∧ Only w w' := by
  have FM := Lib.hid FM
  have AL := Lib.hid AL
  have oa := Own2.new w (.int .i64 x) (.string c) 23
  have ht := (Only.refl w).alloc (.cells #[.int .i64 x, .string c] 23)
  go_enter Tryz.func3, Tryz.ntmps3
  go_wp2_with fail
  go_at_call 7
  refine (FM.out _ ht).mono ?_
  rintro r w1 ⟨rfl, t1⟩
  replace oa := oa.only t1
  replace ht := ht.trans t1
  obtain ⟨ca1, ca2, -, -, za⟩ := oa.all
  clear t1
  go_wp2_with fail
  go_at_call 8
  refine (AL.out _ ht).mono ?_
  rintro r w2 ⟨rv, _, rfl, ⟨rfl, rfl⟩, t2⟩
  replace ht := ht.trans t2
  clear t2 ca1 ca2 za
  go_wp2_with (go_at_call 9; refine (numM_any _ _).mono ?_; rintro r w' ⟨rfl, rfl⟩)
  go_ret
  exact ⟨by simp, ht⟩

theorem IntsIn.len {w : World} {sp : Option Addr} {n cap : Nat} {l : List Int} (h : IntsIn w (.slice sp n cap) l) : n = l.length := by
  obtain ⟨sp', cap', e, -⟩ := h
  simp at e
  exact e.2.1
theorem IntsIn.slot {sp sp' : Option Addr} {n m cap cap' : Nat} (e : Value.slice sp n cap = .slice sp' m cap') : sp = sp' ∧ cap = cap' := by
  simp at e
  exact ⟨e.1, e.2.2⟩

theorem sumTake_succ {ws : List Nat} {k : Nat} (h : k < ws.length) : (ws.take (k + 1)).sum = (ws.take k).sum + ws.getD k 0 := by
  rw [List.take_add_one, List.getElem?_eq_getElem h, List.sum_append]
  simp [List.getD, h]
theorem sumTake_le (ws : List Nat) (k : Nat) : (ws.take k).sum ≤ ws.sum := by
  have : ws.sum = (ws.take k).sum + (ws.drop k).sum := by rw [← List.sum_append, List.take_append_drop]
  omega

set_option maxRecDepth 100000 in
set_option maxHeartbeats 6400000 in
theorem whole_walk {x : Int} {c : ByteArray} {ws : List Nat} {v : Value} {w : World} (FM : FirstM w) (hv : IntsIn w v (wI ws)) (hn : ws.length ≤ 100) (hcs : (c.size : Int) ≤ 200) (hcE : curE x c = 0) (h0 : 0 < ws.sum) (ht : ws.sum ≤ 1099511627776)
    (AL : ∀ W, Only w W → AlloIs W x c v fun r m w' => m = 0 ∧ AmsR w' r (partsA x c ws)) :
    Calls Tryz.prog 3 #[.agg #[.int .i64 x, .string c], v] w fun e w' => e = .returned (.bool true) ∧ Only w w' := by
  obtain ⟨n, hn0⟩ : ∃ n, n = ws.length := ⟨_, rfl⟩
  obtain ⟨t, ht0⟩ : ∃ t, t = ws.sum := ⟨_, rfl⟩
  obtain ⟨q, hq⟩ : ∃ q : Nat → Nat, q = fun i => ws.getD i 0 := ⟨_, rfl⟩
  obtain ⟨f, hf⟩ : ∃ f : Nat → Int, f = fun i => sgnA x (partP x.natAbs ws.sum ws i) := ⟨_, rfl⟩
  have hbd := curE_bd hcE
  have HPL := Lib.hid (partsA_len x c ws)
  have HPA : Hid (∀ i, i < n → (partsA x c ws)[i]? = some (f i, c)) := Lib.hid (fun i hi => by rw [hf]; exact partsA_at (by rw [← hn0]; exact hi))
  have HWA : Hid (∀ i, i < n → (wI ws)[i]? = some ((q i : Nat) : Int)) := Lib.hid (fun i hi => by rw [hq]; exact wI_at (by rw [← hn0]; exact hi))
  have HBD : Hid (∀ i, i < n → Bd (f i)) := Lib.hid (fun i hi => by rw [hf]; exact sgn_bd hcE (part_le h0 rfl (by rw [← hn0]; exact hi)))
  have HQT : Hid (∀ i, i < n → q i ≤ t) := Lib.hid (fun i hi => by rw [hq, ht0]; exact le_sum (by rw [← hn0]; exact hi))
  have HNR : Hid (∀ i, -(t : Int) < f i * (t : Int) - x * (q i : Int) ∧ f i * (t : Int) - x * (q i : Int) < (t : Int)) := Lib.hid (fun i => by rw [hf, hq, ht0]; exact parts_near h0 i)
  have HZ : Hid (∀ i, q i = 0 → f i = 0) := Lib.hid (fun i hi => by rw [hf]; rw [hq] at hi; exact parts_zero h0 hi)
  have HUP : Hid (∀ i k, i < n → k < n → q i < q k → (0 ≤ x → f i ≤ f k) ∧ (x < 0 → f k ≤ f i)) := Lib.hid (fun i k hi hk hlt => by rw [hf]; rw [hq] at hlt; exact parts_up h0 (by rw [← hn0]; exact hi) (by rw [← hn0]; exact hk) hlt)
  have HST : Hid (∀ k, k < n → (ws.take (k + 1)).sum = (ws.take k).sum + q k) := Lib.hid (fun k hk => by rw [hq]; exact sumTake_succ (by rw [← hn0]; exact hk))
  have HSL : Hid (∀ k, (ws.take k).sum ≤ t) := Lib.hid (fun k => by rw [ht0]; exact sumTake_le ws k)
  have HSE : Hid ((ws.take n).sum = t) := Lib.hid (by rw [hn0, ht0, List.take_length])
  have SM : Hid (∀ (W : World) (r : Value), AmsR W r (partsA x c ws) → SumIs W c r x c 0) := Lib.hid (fun W r hr => by
    have h := sum_any (c := c) hr (by rw [partsA_len]; omega) (fun y hy => by
      have hb := (parts_curE hcE h0 y hy).2
      exact ⟨by have := hb.1; omega, by have := hb.2; omega⟩)
    rw [parts_sumE hcE h0, okI_0, okS_0, parts_listN h0] at h
    exact h)
  have hv2 := hv
  obtain ⟨sp, cap, hve, -⟩ := hv2
  rw [wI_len, ← hn0] at hve
  subst hve
  rw [← hn0] at hn HPL
  rw [← ht0] at h0 ht
  obtain ⟨P, hP⟩ : ∃ P, P = partsA x c ws := ⟨_, rfl⟩
  rw [← hP] at HPL HPA SM
  have il : (n : Int) ≤ 100 := by omega
  have it0 : (0 : Int) < (t : Int) := by omega
  have it : (t : Int) ≤ 1099511627776 := by omega
  have ix0 : -4611686018427387904 ≤ x := hbd.1
  have ix : x ≤ 4611686018427387904 := hbd.2
  have FM := Lib.hid FM
  have AL := Lib.hid AL
  rw [← hP] at AL
  have HV := Lib.hid hv
  have oa := Own2.new w (.int .i64 x) (.string c) 23
  have hT := (Only.refl w).alloc (.cells #[.int .i64 x, .string c] 23)
  clear hv hn h0 ht hcE hbd hq hf hn0 ht0 hP
  go_enter Tryz.func3, Tryz.ntmps3
  go_wp2_with fail
  go_at_call 7
  refine (FM.out _ hT).mono ?_
  rintro r w1 ⟨rfl, t1⟩
  replace oa := oa.only t1
  replace hT := hT.trans t1
  obtain ⟨ca1, ca2, -, -, za⟩ := oa.all
  clear t1
  go_wp2_with fail
  go_at_call 8
  refine (AL.out _ hT).mono ?_
  rintro r w2 ⟨rv, _, rfl, ⟨rfl, hA⟩, t2⟩
  have hA2 := hA
  obtain ⟨sr, cr, hre, -⟩ := hA2
  rw [HPL.out] at hre
  subst hre
  replace oa := oa.only t2
  replace hT := hT.trans t2
  clear t2 ca1 ca2 za
  obtain ⟨ca1, ca2, -, -, za⟩ := oa.all
  go_wp2_with (go_at_call 9; refine (numM_any _ _).mono ?_; rintro r w' ⟨rfl, rfl⟩)
  go_at_call 10
  refine (SM.out _ _ hA).mono ?_
  rintro r w3 ⟨rfl, t3⟩
  replace oa := (oa.only t3).alloc (.cells #[.int .i64 x, .string c] 23)
  replace hT := (hT.trans t3).alloc (.cells #[.int .i64 x, .string c] 23)
  replace hA := hA.only (t3.alloc (.cells #[.int .i64 x, .string c] 23))
  have os := Own2.new w3 (.int .i64 x) (.string c) 23
  clear t3 ca1 ca2 za
  obtain ⟨ca1, ca2, -, -, za⟩ := oa.all
  obtain ⟨cs1, cs2, -, -, zs⟩ := os.all
  go_wp2_with (go_at_call 9; refine (numM_any _ _).mono ?_; rintro r w' ⟨rfl, rfl⟩)
  -- LOOPS
  go_loop [10, 11] (fun sv iv => ∃ k : Nat, k ≤ n ∧ iv = .int .i64 (k : Int) ∧ sv = .int .i64 (((ws.take k).sum : Nat) : Int)) (fun _ iv => n - (intOf iv).toNat)
  case atStart => exact ⟨0, Nat.zero_le _, rfl, rfl⟩
  case round =>
    obtain ⟨k, hk, rfl, rfl⟩ := hrel
    by_cases hlt : k < n
    · have k1 : (k : Int) < (n : Int) := by omega
      obtain ⟨sp', cap', hve, hr⟩ := HV.out.only hT
      obtain ⟨gw, ow, rfl, hcw⟩ := hr (by rw [(IntsIn.len (HV.out.only hT)).symm]; omega)
      obtain ⟨rfl, rfl⟩ := IntsIn.slot hve
      have cw := hcw k _ (HWA.out k hlt)
      have h1 := HSL.out (k + 1)
      have h2 := HST.out k hlt
      obtain ⟨s, hs⟩ : ∃ s, s = (ws.take k).sum := ⟨_, rfl⟩
      obtain ⟨y, hy⟩ : ∃ y, y = q k := ⟨_, rfl⟩
      rw [← hs, ← hy] at h2
      rw [← hs]
      rw [← hy] at cw
      rw [h2] at h1
      have H2 := Lib.hid h2
      have b1 : (0 : Int) ≤ (s : Int) := by omega
      have b2 : (0 : Int) ≤ (y : Int) := by omega
      have b3 : (s : Int) + (y : Int) ≤ 1099511627776 := by omega
      clear hve hcw hr hs hy h1 h2
      go_wp2_with fail
      go_round
      case rel => exact ⟨k + 1, by omega, by push_cast; rfl, by rw [H2.out]; push_cast; rfl⟩
      case measure => simp [intOf]; omega
    · have hkn : k = n := by omega
      subst hkn
      rw [HSE.out]
      have OA := Lib.hid oa
      have HT := Lib.hid hT
      have HA := Lib.hid hA
      clear oa os hT hA ca1 ca2 za cs1 cs2 zs hlt
      obtain ⟨w4, hw4⟩ : ∃ w4, w4 = w3.alloc (.cells #[.int .i64 x, .string c] 23) := ⟨_, rfl⟩
      rw [← hw4] at OA HT HA ⊢
      clear hw4
      go_wp2_with fail
      go_loopw [12, 13, 14] (fun iv _ _ wx => ∃ i : Nat, i ≤ k ∧ iv = .int .i64 (i : Int) ∧ Only w4 wx) (fun iv _ _ _ => k - (intOf iv).toNat)
      case atStart => exact ⟨0, Nat.zero_le _, rfl, Only.refl _⟩
      case round =>
        obtain ⟨i, hi, rfl, hO⟩ := hrel
        by_cases hlt : i < k
        · have i1 : (i : Int) < (k : Int) := by omega
          have oa := OA.out.only hO
          have hA := HA.out.only hO
          have hV := HV.out.only (HT.out.trans hO)
          obtain ⟨sp', cap', hve, hr⟩ := hV
          obtain ⟨gw, ow, rfl, hcw⟩ := hr (by rw [(IntsIn.len (HV.out.only HT.out)).symm]; omega)
          obtain ⟨rfl, rfl⟩ := IntsIn.slot hve
          have CW := Lib.hid (fun j hj => hcw j _ (HWA.out j hj))
          obtain ⟨sr', cr', hre, hr2⟩ := hA
          obtain ⟨ga, oa2, rfl, hca⟩ := hr2 (by rw [HPL.out]; omega)
          rw [HPL.out] at hre
          obtain ⟨rfl, rfl⟩ : sr = some ⟨ga, oa2, none⟩ ∧ cr = cr' := by simpa using hre
          have CA := Lib.hid (fun j hj => (hca j _ (HPA.out j hj)).1)
          have cw := CW.out i hlt
          have ca := CA.out i hlt
          obtain ⟨ca1, ca2, -, -, za⟩ := oa.all
          have HWR := Lib.hid hO
          have HOA := Lib.hid oa
          have bf := HBD.out i hlt
          have bq := HQT.out i hlt
          have nr := HNR.out i
          have NR := Lib.hid nr
          have L1 : Hid (Lim (f i) 5) := Lib.hid (Lim.of_i64 ⟨by have := bf.1; omega, by have := bf.2; omega⟩)
          have L2 : Hid (Lim (t : Int) 5) := Lib.hid (Lim.of_i64 ⟨by omega, by omega⟩)
          have L3 : Hid (Lim x 5) := Lib.hid (Lim.of_i64 ⟨by omega, by omega⟩)
          have L4 : Hid (Lim (q i : Int) 5) := Lib.hid (Lim.of_i64 ⟨by omega, by omega⟩)
          have L5 : Hid (Lim (f i * (t : Int) - x * (q i : Int)) 10) := Lib.hid (by obtain ⟨a, b⟩ := nr; unfold Lim; omega)
          have B1 := Lib.hid (fun W => bigOf_any (N := f i) (by have := bf.1; omega) (by have := bf.2; omega) W)
          have B2 := Lib.hid (fun W => bigOf_any (N := (t : Int)) (by omega) (by omega) W)
          have B3 := Lib.hid (fun W => bigOf_any (N := x) (by omega) (by omega) W)
          have B4 := Lib.hid (fun W => bigOf_any (N := (q i : Int)) (by omega) (by omega) W)
          clear hve hcw hr hre hca hr2 hO oa bf bq nr
          go_upto_region 18 with (fail)
          refine wp_rich_tail 20 [pVal ?z0, pVal ?z1, pVal ?z2, pVal ?z3, pVal ?z4, pBig (f i), pVal ?z6, pBig (t : Int), pBig (f i * (t : Int)), pVal ?z9, pVal ?z10, pBig x, pVal ?z12, pVal ?z13, pVal ?z14, pVal ?z15, pBig (q i : Int), pBig (x * (q i : Int)), pBig (f i * (t : Int) - x * (q i : Int)), pBox wr.heap.size] (F := ?F18) (by kernel_rfl) (by kernel_rfl) (by kernel_rfl) (by kernel_rfl) (by kernel_rfl) (by kernel_rfl) (by kernel_rfl) ?hF18 ?hst18 ?hO18 ?hend18
          case hF18 =>
            intro vs
            simp only [List.take_succ_cons, List.take_zero, fills]
            go_simp
            exact rfl
          case hst18 =>
            simp only [List.take_succ_cons, List.take_zero, StepsP]
            refine ⟨?_, ?_, ?_, ?_, ?_, ?_, ?_, ?_, ?_, ?_, ?_, ?_, ?_, ?_, ?_, ?_, ?_, ?_, ?_, ?_, trivial⟩
            case refine_1 | refine_2 | refine_3 | refine_4 | refine_5 | refine_7 | refine_10 | refine_11 | refine_13 | refine_14 | refine_15 | refine_16 =>
              intro vs W hW hd K hK
              have k1 := hW.cellM ca
              have k2 := hW.cellM cw
              have k3 := hW.cellM ca1
              have k4 := hW.cellM ca2
              simp [depsOf, Region.binds, List.filter_cons, GotAll, saidV, pVal] at hd
              unfold RichAt
              go_simp
              refine hK _ _ (Only.refl _) ?_
              exact rfl
            case refine_6 =>
              intro vs W hW hd K hK
              simp [depsOf, Region.binds, List.filter_cons, GotAll, saidV, pVal] at hd
              unfold RichAt
              go_simp
              refine (B1.out W).mono ?_
              rintro e w' ⟨b', s', k', c', rfl, hb, tt⟩
              exact ⟨_, rfl, hK _ _ tt ⟨b', s', k', c', rfl, hb⟩⟩
            case refine_8 =>
              intro vs W hW hd K hK
              simp [depsOf, Region.binds, List.filter_cons, GotAll, saidV, pVal] at hd
              unfold RichAt
              go_simp
              refine (B2.out W).mono ?_
              rintro e w' ⟨b', s', k', c', rfl, hb, tt⟩
              exact ⟨_, rfl, hK _ _ tt ⟨b', s', k', c', rfl, hb⟩⟩
            case refine_12 =>
              intro vs W hW hd K hK
              simp [depsOf, Region.binds, List.filter_cons, GotAll, saidV, pVal] at hd
              unfold RichAt
              go_simp
              refine (B3.out W).mono ?_
              rintro e w' ⟨b', s', k', c', rfl, hb, tt⟩
              exact ⟨_, rfl, hK _ _ tt ⟨b', s', k', c', rfl, hb⟩⟩
            case refine_17 =>
              intro vs W hW hd K hK
              simp [depsOf, Region.binds, List.filter_cons, GotAll, saidV, pVal] at hd
              unfold RichAt
              go_simp
              refine (B4.out W).mono ?_
              rintro e w' ⟨b', s', k', c', rfl, hb, tt⟩
              exact ⟨_, rfl, hK _ _ tt ⟨b', s', k', c', rfl, hb⟩⟩
            case refine_9 =>
              intro vs W hW hd K hK
              simp [depsOf, Region.binds, List.filter_cons, GotAll, saidV, pVal] at hd
              obtain ⟨⟨b1, s1, k1, c1, e1, r1⟩, ⟨b2, s2, k2, c2, e2, r2⟩⟩ := hd
              unfold RichAt
              go_simp
              refine (bigMul_any r1 r2 (L1.out.mono (by omega)) (L2.out.mono (by omega))).mono ?_
              rintro e w' ⟨b', s', k', c', rfl, hb, tt⟩
              exact ⟨_, rfl, hK _ _ tt ⟨b', s', k', c', rfl, hb⟩⟩
            case refine_18 =>
              intro vs W hW hd K hK
              simp [depsOf, Region.binds, List.filter_cons, GotAll, saidV, pVal] at hd
              obtain ⟨⟨b1, s1, k1, c1, e1, r1⟩, ⟨b2, s2, k2, c2, e2, r2⟩⟩ := hd
              unfold RichAt
              go_simp
              refine (bigMul_any r1 r2 (L3.out.mono (by omega)) (L4.out.mono (by omega))).mono ?_
              rintro e w' ⟨b', s', k', c', rfl, hb, tt⟩
              exact ⟨_, rfl, hK _ _ tt ⟨b', s', k', c', rfl, hb⟩⟩
            case refine_19 =>
              intro vs W hW hd K hK
              simp [depsOf, Region.binds, List.filter_cons, GotAll, saidV, pVal] at hd
              obtain ⟨⟨b1, s1, k1, c1, e1, r1⟩, ⟨b2, s2, k2, c2, e2, r2⟩⟩ := hd
              unfold RichAt
              go_simp
              refine (bigSub_any r1 r2 ((L1.out.mul L2.out).mono (by omega)) ((L3.out.mul L4.out).mono (by omega))).mono ?_
              rintro e w' ⟨b', s', k', c', rfl, hb, tt⟩
              exact ⟨_, rfl, hK _ _ tt ⟨b', s', k', c', rfl, hb⟩⟩
            case refine_20 =>
              intro vs W hW hd K hK
              simp [depsOf, Region.binds, List.filter_cons, GotAll, saidV, pVal] at hd
              unfold RichAt
              go_simp
              exact hK _ _ ((Only.refl _).alloc _) ⟨_, rfl, hW.size, Own2.new _ _ _ _⟩
          case hO18 =>
            simp only [List.forall_mem_cons]
            exact ⟨stab_val _, stab_val _, stab_val _, stab_val _, stab_val _, stab_big _, stab_val _, stab_big _, stab_big _, stab_val _, stab_val _, stab_big _, stab_val _, stab_val _, stab_val _, stab_val _, stab_big _, stab_big _, stab_big _, stab_box _, fun _ h => by cases h⟩
          case hend18 =>
            intro vs W hW hg
            simp [List.range_succ, depsOf, Region.binds, List.filter_cons, GotAll, saidV, pVal] at hg
            obtain ⟨e0, e1, e2, e3, e4, e5, e6, e7, e8, e9, e10, e11, e12, e13, e14, e15, e16, e17, e18, e19⟩ := hg
            obtain ⟨g, eg, hge, og⟩ := e19
            obtain ⟨b, s, κ, cp, e18b, r18⟩ := e18
            obtain ⟨d1, d2, ff1, ff2, z1⟩ := og.all
            have OB := Lib.hid (og.set (.bool b) (.slice s κ cp))
            have RB := Lib.hid (r18.apart og b s κ cp)
            have TT := Lib.hid ((hW.set hge 0 (.bool b)).set hge 1 (.slice s κ cp))
            have HB := Lib.hid r18.1
            have HGE := Lib.hid hge
            clear og r18 hW
            simp only [List.drop_succ_cons, List.drop_zero]
            go_upto_if 102 with (fail)
            go_cut [13] (fun p wc => p = .pointer (some ⟨g, 0, none⟩) ∧ ∃ b s κ cp, ∃ m : Int, 0 ≤ m ∧ m < (t : Int) ∧ Own2 wc g (.bool b) (.slice s κ cp) ∧ BigR wc b s κ cp m ∧ Only wr wc)
            case first =>
              by_cases hD : f i * (t : Int) - x * (q i : Int) < 0
              · obtain rfl : b = true := by rw [HB.out]; exact decide_eq_true hD
                have NB := Lib.hid (bigNeg_any RB.out (L5.out.mono (by omega)))
                have HD := Lib.hid hD
                clear hD
                go_wp2_with fail
                go_at_call 14
                refine NB.out.mono ?_
                rintro r w5 ⟨b5, s5, k5, c5, rfl, r5, t5⟩
                have o5 := OB.out.only t5
                have T5 := TT.out.trans t5
                obtain ⟨x1, x2, x3, x4, x5⟩ := o5.all
                have OB5 := Lib.hid (o5.set (.bool b5) (.slice s5 k5 c5))
                have RB5 := Lib.hid (r5.apart o5 b5 s5 k5 c5)
                have TT5 := Lib.hid ((T5.set HGE.out 0 (.bool b5)).set HGE.out 1 (.slice s5 k5 c5))
                clear o5 r5 T5 t5 d1 d2 ff1 ff2 z1
                go_wp2
                go_meet
                have h1 := HD.out
                have h2 := NR.out.1
                exact ⟨rfl, b5, s5, k5, c5, _, by omega, by omega, OB5.out, RB5.out, TT5.out⟩
              · obtain rfl : b = false := by rw [HB.out]; exact decide_eq_false hD
                have HD := Lib.hid hD
                clear hD
                go_wp2_with fail
                go_meet
                have h1 := HD.out
                have h2 := NR.out.2
                exact ⟨rfl, false, s, κ, cp, _, by omega, by omega, OB.out, RB.out, TT.out⟩
            case rest =>
              obtain ⟨rfl, b2, s2, κ2, cp2, m, hm0, hmt, ob, rb, hO⟩ := hcut
              clear d1 d2 ff1 ff2 z1 OB RB TT HB e0 e1 e2 e3 e4 e5 e6 e7 e8 e9 e10 e11 e12 e13 e14 e15 e16 e17 e18b eg
              have CM := Lib.hid (fun (W : World) (b' : Bool) (s' : Option Addr) (k' c' : Nat) (hh : Only wc W) (r' : BigR W b' s' k' c' (t : Int)) => bigCmp_any (rb.only hh) r' (Lim.mono (K := 5) (Lim.of_i64 ⟨by omega, by omega⟩) (by omega)) (L2.out.mono (by omega)))
              rw [show cmpI m (t : Int) = -1 by unfold cmpI; rw [if_pos hmt]] at CM
              obtain ⟨y1, y2, y3, y4, y5⟩ := ob.all
              have OBH := Lib.hid ob
              have CW2 := Lib.hid (fun j hj => (Below.cell hO (World.block_lt_of_cell? _ _ (CW.out j hj))).trans (CW.out j hj))
              have CA2 := Lib.hid (fun j hj => (Below.cell hO (World.block_lt_of_cell? _ _ (CA.out j hj))).trans (CA.out j hj))
              have OA2 := Lib.hid (HOA.out.only hO)
              replace cw := CW2.out i hlt
              replace ca := CA2.out i hlt
              obtain ⟨ca1, ca2, -, -, za⟩ := OA2.out.all
              have HO2 := Lib.hid (HWR.out.trans hO)
              clear CW CA HOA HWR hO ob rb hm0 hmt
              by_cases hq0 : q i = 0
              · have hf0 := HZ.out i hq0
                rw [hq0] at cw
                simp only [hf0] at ca
                clear hq0 hf0
                go_upto_region 21 with (fail)
                refine wp_rich [pVal ?ya0, pVal ?ya1, pBig (t : Int), pVal (.int .i64 (-1)), pVal ?ya4, pVal ?ya5, pVal ?ya6, pVal ?ya7, pVal ?ya8, pVal ?ya9, pVal ?ya10, pVal ?ya11, pVal ?ya12, pVal ?ya13, pVal ?ya14, pVal ?ya15, pVal ?ya16, pVal ?ya17, pVal ?ya18, pVal ?ya19] (F := ?F21a) (by kernel_rfl) (by kernel_rfl) ?hF21a ?hst21a ?hO21a ?hend21a
                case hF21a =>
                  intro vs
                  simp only [fills]
                  go_simp
                  exact rfl
                case hst21a =>
                  simp only [StepsP]
                  refine ⟨?_, ?_, ?_, ?_, ?_, ?_, ?_, ?_, ?_, ?_, ?_, ?_, ?_, ?_, ?_, ?_, ?_, ?_, ?_, ?_, trivial⟩
                  case refine_1 | refine_2 | refine_5 | refine_6 | refine_7 | refine_8 | refine_9 | refine_10 | refine_11 | refine_12 | refine_13 | refine_14 | refine_15 | refine_16 | refine_17 | refine_18 | refine_19 | refine_20 =>
                    intro vs W hW hd K hK
                    have k1 := hW.cellM ca
                    have k2 := hW.cellM cw
                    have k3 := hW.cellM ca1
                    have k4 := hW.cellM ca2
                    obtain ⟨k5, k6, -, -, -⟩ := (OBH.out.only hW).all
                    simp [depsOf, Region.binds, List.filter_cons, GotAll, saidV, pVal] at hd
                    unfold RichAt
                    go_simp
                    refine hK _ _ (Only.refl _) ?_
                    exact rfl
                  case refine_3 =>
                    intro vs W hW hd K hK
                    simp [depsOf, Region.binds, List.filter_cons, GotAll, saidV, pVal] at hd
                    unfold RichAt
                    go_simp
                    refine (B2.out W).mono ?_
                    rintro e w' ⟨b', s', k', c', rfl, hb, tt⟩
                    exact ⟨_, rfl, hK _ _ tt ⟨b', s', k', c', rfl, hb⟩⟩
                  case refine_4 =>
                    intro vs W hW hd K hK
                    simp [depsOf, Region.binds, List.filter_cons, GotAll, saidV, pVal] at hd
                    obtain ⟨e0, b6, s6, k6, c6, e6, r6⟩ := hd
                    unfold RichAt
                    go_simp
                    refine (CM.out _ _ _ _ _ hW r6).mono ?_
                    rintro e w' ⟨rfl, tt⟩
                    exact ⟨_, rfl, hK _ _ tt rfl⟩
                case hO21a =>
                  simp only [List.forall_mem_cons]
                  exact ⟨stab_val _, stab_val _, stab_big _, stab_val _, stab_val _, stab_val _, stab_val _, stab_val _, stab_val _, stab_val _, stab_val _, stab_val _, stab_val _, stab_val _, stab_val _, stab_val _, stab_val _, stab_val _, stab_val _, stab_val _, fun _ h => by cases h⟩
                case hend21a =>
                  intro vs W hW hg
                  simp [List.range_succ, depsOf, Region.binds, List.filter_cons, GotAll, saidV, pVal] at hg
                  obtain ⟨e0, e1, e2, e3, e4, e5, e6, e7, e8, e9, e10, e11, e12, e13, e14, e15, e16, e17, e18, e19⟩ := hg
                  clear e2
                  have HX := Lib.hid hW
                  have CW3 := Lib.hid (fun j hj => (Below.cell hW (World.block_lt_of_cell? _ _ (CW2.out j hj))).trans (CW2.out j hj))
                  have CA3 := Lib.hid (fun j hj => (Below.cell hW (World.block_lt_of_cell? _ _ (CA2.out j hj))).trans (CA2.out j hj))
                  have OA3 := Lib.hid (OA2.out.only hW)
                  clear hW cw ca ca1 ca2 za y1 y2 y3 y4 y5 CM CW2 CA2 OA2 OBH B1 B2 B3 B4 L1 L2 L3 L4 L5
                  rw [e19]
                  clear e0 e1 e3 e4 e5 e6 e7 e8 e9 e10 e11 e12 e13 e14 e15 e16 e17 e18 e19
                  go_wp2_with fail
                  go_loopw [14] (fun jv wx => ∃ j : Nat, j ≤ k ∧ jv = .int .i64 (j : Int) ∧ Only W wx) (fun jv _ => k - (intOf jv).toNat)
                  case atStart => exact ⟨0, Nat.zero_le _, rfl, Only.refl _⟩
                  case round =>
                    obtain ⟨j, hj, rfl, hJ⟩ := hrel
                    by_cases hjk : j < k
                    · have j1 : (j : Int) < (k : Int) := by omega
                      have cj := (Below.cell hJ (World.block_lt_of_cell? _ _ (CW3.out j hjk))).trans (CW3.out j hjk)
                      have aj := (Below.cell hJ (World.block_lt_of_cell? _ _ (CA3.out j hjk))).trans (CA3.out j hjk)
                      have ci := (Below.cell hJ (World.block_lt_of_cell? _ _ (CW3.out i hlt))).trans (CW3.out i hlt)
                      have ai := (Below.cell hJ (World.block_lt_of_cell? _ _ (CA3.out i hlt))).trans (CA3.out i hlt)
                      obtain ⟨cx, cx2, -, -, zx⟩ := (OA3.out.only hJ).all
                      have up := HUP.out i j hlt hjk
                      obtain ⟨wi, hwi⟩ : ∃ y, y = q i := ⟨_, rfl⟩
                      obtain ⟨wj, hwj⟩ : ∃ y, y = q j := ⟨_, rfl⟩
                      obtain ⟨fi, hfi⟩ : ∃ y, y = f i := ⟨_, rfl⟩
                      obtain ⟨fj, hfj⟩ : ∃ y, y = f j := ⟨_, rfl⟩
                      simp only [← hwi, ← hfi] at ci ai up
                      simp only [← hwj, ← hfj] at cj aj up
                      have HJ := Lib.hid hJ
                      clear hwi hwj hfi hfj hJ
                      by_cases hlw : wi < wj
                      · have up2 := up hlw
                        have g1 : decide (wi < wj) = true := by simpa using hlw
                        clear up
                        by_cases hx : 0 ≤ x
                        · have g2 : decide (0 ≤ x) = true := by simpa using hx
                          have g3 : decide (x < 0) = false := by simp; omega
                          have g4 : decide (fj < fi) = false := by have := up2.1 hx; simp; omega
                          clear up2 hx hlw
                          go_upto_region 26 with (fail)
                          go_quiet (fail)
                          go_wp2_with fail
                          go_roundw
                          case rel => exact ⟨j + 1, by omega, by push_cast; rfl, HJ.out.drewN _⟩
                          case measure => simp [intOf]; omega
                        · have g2 : decide (0 ≤ x) = false := by simp; omega
                          have g3 : decide (x < 0) = true := by simp; omega
                          have g4 : decide (fi < fj) = false := by have := up2.2 (by omega); simp; omega
                          clear up2 hx hlw
                          go_upto_region 26 with (fail)
                          go_quiet (fail)
                          go_wp2_with fail
                          go_roundw
                          case rel => exact ⟨j + 1, by omega, by push_cast; rfl, HJ.out.drewN _⟩
                          case measure => simp [intOf]; omega
                      · have g1 : decide (wi < wj) = false := by simpa using hlw
                        clear up hlw
                        go_upto_region 26 with (fail)
                        go_quiet (fail)
                        go_wp2_with fail
                        go_roundw
                        case rel => exact ⟨j + 1, by omega, by push_cast; rfl, HJ.out.drewN _⟩
                        case measure => simp [intOf]; omega
                    · have hjk2 : j = k := by omega
                      subst hjk2
                      have j1 : ¬ (j : Int) < (j : Int) := by omega
                      have HJ := Lib.hid hJ
                      clear hJ hjk
                      go_wp2_with fail
                      go_roundw
                      case rel => exact ⟨i + 1, by omega, by push_cast; rfl, (HO2.out.trans HX.out).trans HJ.out⟩
                      case measure => simp [intOf]; omega
              · have hq1 : ((q i : Int) == 0) = false := by simp; omega
                have HQ1 := Lib.hid hq0
                clear hq0
                go_upto_region 21 with (fail)
                refine wp_rich [pVal ?yb0, pVal ?yb1, pBig (t : Int), pVal (.int .i64 (-1)), pVal ?yb4, pVal ?yb5, pVal ?yb6, pVal ?yb7, pVal ?yb8, pVal ?yb9, pVal ?yb10, pVal ?yb11, pVal ?yb12, pVal ?yb13, pVal ?yb14, pVal ?yb15, pVal ?yb16, pVal ?yb17, pVal ?yb18, pVal ?yb19] (F := ?F21b) (by kernel_rfl) (by kernel_rfl) ?hF21b ?hst21b ?hO21b ?hend21b
                case hF21b =>
                  intro vs
                  simp only [fills]
                  go_simp
                  exact rfl
                case hst21b =>
                  simp only [StepsP]
                  refine ⟨?_, ?_, ?_, ?_, ?_, ?_, ?_, ?_, ?_, ?_, ?_, ?_, ?_, ?_, ?_, ?_, ?_, ?_, ?_, ?_, trivial⟩
                  case refine_1 | refine_2 | refine_5 | refine_6 | refine_7 | refine_8 | refine_9 | refine_10 | refine_11 | refine_12 | refine_13 | refine_14 | refine_15 | refine_16 | refine_17 | refine_18 | refine_19 | refine_20 =>
                    intro vs W hW hd K hK
                    have k1 := hW.cellM ca
                    have k2 := hW.cellM cw
                    have k3 := hW.cellM ca1
                    have k4 := hW.cellM ca2
                    obtain ⟨k5, k6, -, -, -⟩ := (OBH.out.only hW).all
                    simp [depsOf, Region.binds, List.filter_cons, GotAll, saidV, pVal] at hd
                    unfold RichAt
                    go_simp
                    refine hK _ _ (Only.refl _) ?_
                    exact rfl
                  case refine_3 =>
                    intro vs W hW hd K hK
                    simp [depsOf, Region.binds, List.filter_cons, GotAll, saidV, pVal] at hd
                    unfold RichAt
                    go_simp
                    refine (B2.out W).mono ?_
                    rintro e w' ⟨b', s', k', c', rfl, hb, tt⟩
                    exact ⟨_, rfl, hK _ _ tt ⟨b', s', k', c', rfl, hb⟩⟩
                  case refine_4 =>
                    intro vs W hW hd K hK
                    simp [depsOf, Region.binds, List.filter_cons, GotAll, saidV, pVal] at hd
                    obtain ⟨e0, b6, s6, k6, c6, e6, r6⟩ := hd
                    unfold RichAt
                    go_simp
                    refine (CM.out _ _ _ _ _ hW r6).mono ?_
                    rintro e w' ⟨rfl, tt⟩
                    exact ⟨_, rfl, hK _ _ tt rfl⟩
                case hO21b =>
                  simp only [List.forall_mem_cons]
                  exact ⟨stab_val _, stab_val _, stab_big _, stab_val _, stab_val _, stab_val _, stab_val _, stab_val _, stab_val _, stab_val _, stab_val _, stab_val _, stab_val _, stab_val _, stab_val _, stab_val _, stab_val _, stab_val _, stab_val _, stab_val _, fun _ h => by cases h⟩
                case hend21b =>
                  intro vs W hW hg
                  simp [List.range_succ, depsOf, Region.binds, List.filter_cons, GotAll, saidV, pVal] at hg
                  obtain ⟨e0, e1, e2, e3, e4, e5, e6, e7, e8, e9, e10, e11, e12, e13, e14, e15, e16, e17, e18, e19⟩ := hg
                  clear e2
                  have HX := Lib.hid hW
                  have CW3 := Lib.hid (fun j hj => (Below.cell hW (World.block_lt_of_cell? _ _ (CW2.out j hj))).trans (CW2.out j hj))
                  have CA3 := Lib.hid (fun j hj => (Below.cell hW (World.block_lt_of_cell? _ _ (CA2.out j hj))).trans (CA2.out j hj))
                  have OA3 := Lib.hid (OA2.out.only hW)
                  clear hW cw ca ca1 ca2 za y1 y2 y3 y4 y5 CM CW2 CA2 OA2 OBH B1 B2 B3 B4 L1 L2 L3 L4 L5
                  rw [e19]
                  clear e0 e1 e3 e4 e5 e6 e7 e8 e9 e10 e11 e12 e13 e14 e15 e16 e17 e18 e19
                  go_wp2_with fail
                  go_loopw [14] (fun jv wx => ∃ j : Nat, j ≤ k ∧ jv = .int .i64 (j : Int) ∧ Only W wx) (fun jv _ => k - (intOf jv).toNat)
                  case atStart => exact ⟨0, Nat.zero_le _, rfl, Only.refl _⟩
                  case round =>
                    obtain ⟨j, hj, rfl, hJ⟩ := hrel
                    by_cases hjk : j < k
                    · have j1 : (j : Int) < (k : Int) := by omega
                      have cj := (Below.cell hJ (World.block_lt_of_cell? _ _ (CW3.out j hjk))).trans (CW3.out j hjk)
                      have aj := (Below.cell hJ (World.block_lt_of_cell? _ _ (CA3.out j hjk))).trans (CA3.out j hjk)
                      have ci := (Below.cell hJ (World.block_lt_of_cell? _ _ (CW3.out i hlt))).trans (CW3.out i hlt)
                      have ai := (Below.cell hJ (World.block_lt_of_cell? _ _ (CA3.out i hlt))).trans (CA3.out i hlt)
                      obtain ⟨cx, cx2, -, -, zx⟩ := (OA3.out.only hJ).all
                      have up := HUP.out i j hlt hjk
                      obtain ⟨wi, hwi⟩ : ∃ y, y = q i := ⟨_, rfl⟩
                      obtain ⟨wj, hwj⟩ : ∃ y, y = q j := ⟨_, rfl⟩
                      obtain ⟨fi, hfi⟩ : ∃ y, y = f i := ⟨_, rfl⟩
                      obtain ⟨fj, hfj⟩ : ∃ y, y = f j := ⟨_, rfl⟩
                      simp only [← hwi, ← hfi] at ci ai up
                      simp only [← hwj, ← hfj] at cj aj up
                      have HJ := Lib.hid hJ
                      clear hwi hwj hfi hfj hJ
                      by_cases hlw : wi < wj
                      · have up2 := up hlw
                        have g1 : decide (wi < wj) = true := by simpa using hlw
                        clear up
                        by_cases hx : 0 ≤ x
                        · have g2 : decide (0 ≤ x) = true := by simpa using hx
                          have g3 : decide (x < 0) = false := by simp; omega
                          have g4 : decide (fj < fi) = false := by have := up2.1 hx; simp; omega
                          clear up2 hx hlw
                          go_upto_region 26 with (fail)
                          go_quiet (fail)
                          go_wp2_with fail
                          go_roundw
                          case rel => exact ⟨j + 1, by omega, by push_cast; rfl, HJ.out.drewN _⟩
                          case measure => simp [intOf]; omega
                        · have g2 : decide (0 ≤ x) = false := by simp; omega
                          have g3 : decide (x < 0) = true := by simp; omega
                          have g4 : decide (fi < fj) = false := by have := up2.2 (by omega); simp; omega
                          clear up2 hx hlw
                          go_upto_region 26 with (fail)
                          go_quiet (fail)
                          go_wp2_with fail
                          go_roundw
                          case rel => exact ⟨j + 1, by omega, by push_cast; rfl, HJ.out.drewN _⟩
                          case measure => simp [intOf]; omega
                      · have g1 : decide (wi < wj) = false := by simpa using hlw
                        clear up hlw
                        go_upto_region 26 with (fail)
                        go_quiet (fail)
                        go_wp2_with fail
                        go_roundw
                        case rel => exact ⟨j + 1, by omega, by push_cast; rfl, HJ.out.drewN _⟩
                        case measure => simp [intOf]; omega
                    · have hjk2 : j = k := by omega
                      subst hjk2
                      have j1 : ¬ (j : Int) < (j : Int) := by omega
                      have HJ := Lib.hid hJ
                      clear hJ hjk
                      go_wp2_with fail
                      go_roundw
                      case rel => exact ⟨i + 1, by omega, by push_cast; rfl, (HO2.out.trans HX.out).trans HJ.out⟩
                      case measure => simp [intOf]; omega
        · have hik : i = k := by omega
          subst hik
          have k1 : ¬ (i : Int) < (i : Int) := by omega
          clear hlt
          go_wp2_with fail
          go_ret
          exact ⟨rfl, HT.out.trans hO⟩
end Go.Proofs.YtpgpffmdkeolmaaGreatDoor
