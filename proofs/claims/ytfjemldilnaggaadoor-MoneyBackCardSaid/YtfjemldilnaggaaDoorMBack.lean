/-
  MoneyBack: the walk.
-/
import Derived.Test.YtfjemldilnaggaaDoorMOrder
import Derived.Test.YtfjemldilnaggaaDoorMAmsO
import Derived.Test.YtfjemldilnaggaaDoorMBackPl
import Derived.Deep.DeepCutAuto
namespace Go.Proofs.YtfjemldilnaggaaDoor
open Go.RowKit Go.Shelf
set_option linter.unusedVariables false

set_option maxRecDepth 100000 in
theorem back_out0 {u v : Int} {s t q : ByteArray} {sp : Option Addr} {n cap : Nat} {w : World} (FM : FirstIs w)  (h0 : (200 : Int) < (q.size : Int)) :
    Calls Tryd.prog 3 #[.agg #[.int .i64 u, .string s], .agg #[.int .i64 v, .string t], .string q, .slice sp n cap] w fun e w' => e = .returned (.bool true) ∧ Only w w' := by
  have FM := Lib.hid FM
  have oa := (Own2.new w (.int .i64 u) (.string s) 23).alloc (.cells #[.int .i64 v, .string t] 23)
  have ob := Own2.new1 w (.cells #[.int .i64 u, .string s] 23) (.int .i64 v) (.string t) 23
  have ht := ((Only.refl w).alloc (.cells #[.int .i64 u, .string s] 23)).alloc (.cells #[.int .i64 v, .string t] 23)
  go_enter Tryd.func3, Tryd.ntmps3
  go_wp2_with fail
  go_at_call 6
  refine (FM.out _ ht).mono ?_
  rintro r w1 ⟨rfl, t1⟩
  replace oa := oa.only t1
  replace ob := ob.only t1
  replace ht := ht.trans t1
  obtain ⟨ca1, ca2, -, -, za⟩ := oa.all
  obtain ⟨cb1, cb2, -, -, zb⟩ := ob.all
  clear t1
  go_wp2
  go_ret
  exact ⟨rfl, ht⟩

set_option maxRecDepth 100000 in
theorem back_out1 {u v : Int} {s t q : ByteArray} {sp : Option Addr} {n cap : Nat} {w : World} (FM : FirstIs w) (h0 : (q.size : Int) ≤ 200) (h1 : (60 : Int) < (n : Int)) :
    Calls Tryd.prog 3 #[.agg #[.int .i64 u, .string s], .agg #[.int .i64 v, .string t], .string q, .slice sp n cap] w fun e w' => e = .returned (.bool true) ∧ Only w w' := by
  have FM := Lib.hid FM
  have oa := (Own2.new w (.int .i64 u) (.string s) 23).alloc (.cells #[.int .i64 v, .string t] 23)
  have ob := Own2.new1 w (.cells #[.int .i64 u, .string s] 23) (.int .i64 v) (.string t) 23
  have ht := ((Only.refl w).alloc (.cells #[.int .i64 u, .string s] 23)).alloc (.cells #[.int .i64 v, .string t] 23)
  go_enter Tryd.func3, Tryd.ntmps3
  go_wp2_with fail
  go_at_call 6
  refine (FM.out _ ht).mono ?_
  rintro r w1 ⟨rfl, t1⟩
  replace oa := oa.only t1
  replace ob := ob.only t1
  replace ht := ht.trans t1
  obtain ⟨ca1, ca2, -, -, za⟩ := oa.all
  obtain ⟨cb1, cb2, -, -, zb⟩ := ob.all
  clear t1
  go_wp2
  go_ret
  exact ⟨rfl, ht⟩

set_option maxRecDepth 100000 in
theorem back_out2 {u v : Int} {s t q : ByteArray} {sp : Option Addr} {n cap : Nat} {w : World} (FM : FirstIs w) (h0 : (q.size : Int) ≤ 200) (h1 : (n : Int) ≤ 60) (h2 : (200 : Int) < (s.size : Int)) :
    Calls Tryd.prog 3 #[.agg #[.int .i64 u, .string s], .agg #[.int .i64 v, .string t], .string q, .slice sp n cap] w fun e w' => e = .returned (.bool true) ∧ Only w w' := by
  have FM := Lib.hid FM
  have oa := (Own2.new w (.int .i64 u) (.string s) 23).alloc (.cells #[.int .i64 v, .string t] 23)
  have ob := Own2.new1 w (.cells #[.int .i64 u, .string s] 23) (.int .i64 v) (.string t) 23
  have ht := ((Only.refl w).alloc (.cells #[.int .i64 u, .string s] 23)).alloc (.cells #[.int .i64 v, .string t] 23)
  go_enter Tryd.func3, Tryd.ntmps3
  go_wp2_with fail
  go_at_call 6
  refine (FM.out _ ht).mono ?_
  rintro r w1 ⟨rfl, t1⟩
  replace oa := oa.only t1
  replace ob := ob.only t1
  replace ht := ht.trans t1
  obtain ⟨ca1, ca2, -, -, za⟩ := oa.all
  obtain ⟨cb1, cb2, -, -, zb⟩ := ob.all
  clear t1
  go_wp2
  go_ret
  exact ⟨rfl, ht⟩

set_option maxRecDepth 100000 in
theorem back_out3 {u v : Int} {s t q : ByteArray} {sp : Option Addr} {n cap : Nat} {w : World} (FM : FirstIs w) (h0 : (q.size : Int) ≤ 200) (h1 : (n : Int) ≤ 60) (h2 : (s.size : Int) ≤ 200) (h3 : (200 : Int) < (t.size : Int)) :
    Calls Tryd.prog 3 #[.agg #[.int .i64 u, .string s], .agg #[.int .i64 v, .string t], .string q, .slice sp n cap] w fun e w' => e = .returned (.bool true) ∧ Only w w' := by
  have FM := Lib.hid FM
  have oa := (Own2.new w (.int .i64 u) (.string s) 23).alloc (.cells #[.int .i64 v, .string t] 23)
  have ob := Own2.new1 w (.cells #[.int .i64 u, .string s] 23) (.int .i64 v) (.string t) 23
  have ht := ((Only.refl w).alloc (.cells #[.int .i64 u, .string s] 23)).alloc (.cells #[.int .i64 v, .string t] 23)
  go_enter Tryd.func3, Tryd.ntmps3
  go_wp2_with fail
  go_at_call 6
  refine (FM.out _ ht).mono ?_
  rintro r w1 ⟨rfl, t1⟩
  replace oa := oa.only t1
  replace ob := ob.only t1
  replace ht := ht.trans t1
  obtain ⟨ca1, ca2, -, -, za⟩ := oa.all
  obtain ⟨cb1, cb2, -, -, zb⟩ := ob.all
  clear t1
  go_wp2
  go_ret
  exact ⟨rfl, ht⟩

theorem amsR_form {w : World} {v : Value} {l : List (Int × ByteArray)} (h : AmsR w v l) : ∃ sp cap, v = .slice sp l.length cap := by
  obtain ⟨sp, cap, e, -⟩ := h; exact ⟨sp, cap, e⟩

set_option maxRecDepth 100000 in
set_option maxHeartbeats 8000000 in
theorem back_walk {u v N D X f g e1 e2 : Int} {s t q xa xb c m xs : ByteArray} {sp : Option Addr} {cap : Nat} {l : List (Int × ByteArray)} {w : World} (FM : FirstIs w) (hl : AmsR w (.slice sp l.length cap) l)
    (h0 : (q.size : Int) ≤ 200) (h1 : (l.length : Int) ≤ 60) (h2 : (s.size : Int) ≤ 200) (h3 : (t.size : Int) ≤ 200)
    (SA : ∀ W, Only w W → StringIs W u s xa) (PA : xa ≠ ⟨#[]⟩ → ParseIs xa u s 0)
    (PB : ParseIs q N c f) (SB : f = 0 → (∀ W, Only w W → StringIs W N c xb) ∧ ParseIs xb N c 0 ∧ (q.size : Int) ≤ (xb.size : Int))
    (AD : AnsIs 10 #[.agg #[.int .i64 u, .string s], .agg #[.int .i64 v, .string t]] D m g) (SU : g = 0 → AnsIs 11 #[.agg #[.int .i64 D, .string m], .agg #[.int .i64 v, .string t]] u s 0)
    (S1 : ∀ W, AmsR W (.slice sp l.length cap) l → SumIs W ⟨#[85, 83, 68]⟩ (.slice sp l.length cap) X xs e1) (S2 : ∀ W tv, AmsR W tv l.reverse → SumIs W ⟨#[85, 83, 68]⟩ tv X xs e2) (he : (e1 == 0) = (e2 == 0)) :
    Calls Tryd.prog 3 #[.agg #[.int .i64 u, .string s], .agg #[.int .i64 v, .string t], .string q, .slice sp l.length cap] w fun e w' => e = .returned (.bool true) ∧ Only w w' := by
  have HL := Lib.hid hl
  have SA := Lib.hid SA
  have PA := Lib.hid PA
  have PB := Lib.hid PB
  have SB := Lib.hid SB
  have AD := Lib.hid AD
  have SU := Lib.hid SU
  have S1 := Lib.hid S1
  have S2 := Lib.hid S2
  have HE := Lib.hid he
  clear he hl
  have FM := Lib.hid FM
  have oa := (Own2.new w (.int .i64 u) (.string s) 23).alloc (.cells #[.int .i64 v, .string t] 23)
  have ob := Own2.new1 w (.cells #[.int .i64 u, .string s] 23) (.int .i64 v) (.string t) 23
  have ht := ((Only.refl w).alloc (.cells #[.int .i64 u, .string s] 23)).alloc (.cells #[.int .i64 v, .string t] 23)
  go_enter Tryd.func3, Tryd.ntmps3
  go_wp2_with fail
  go_at_call 6
  refine (FM.out _ ht).mono ?_
  rintro r w1 ⟨rfl, t1⟩
  replace oa := oa.only t1
  replace ob := ob.only t1
  replace ht := ht.trans t1
  obtain ⟨ca1, ca2, -, -, za⟩ := oa.all
  obtain ⟨cb1, cb2, -, -, zb⟩ := ob.all
  clear t1
  obtain ⟨B, hB⟩ : ∃ B, (!xa.toList.isEmpty) = B := ⟨_, rfl⟩
  have HBX := Lib.hid (show B = true → xa ≠ ⟨#[]⟩ from fun k e => by
    rw [← hB, e, Lib.toList_data] at k; cases k)
  go_wp2_with fail
  go_at_call 7
  refine (SA.out _ ht).mono ?_
  rintro r w2 ⟨rfl, t2⟩
  replace oa := oa.only t2
  replace ob := ob.only t2
  replace ht := ht.trans t2
  clear ca1 ca2 za cb1 cb2 zb t2
  go_upto_if 54 with (fail)
  go_cut [] (fun wc => Only w wc ∧ Own2 wc w.heap.size (.int .i64 u) (.string s) ∧ Own2 wc (w.heap.size + 1) (.int .i64 v) (.string t))
  case first =>
    as_aux_lemma =>
      clear hB
      cases B
      · go_wp2
        go_meet
        exact ⟨ht, oa, ob⟩
      · have hx := HBX.out rfl
        have P := Lib.hid (PA.out hx)
        obtain ⟨ca1, ca2, -, -, za⟩ := oa.all
        clear hx
        go_wp2_with fail
        go_at_call 7
        refine (SA.out _ ht).mono ?_
        rintro r w3 ⟨rfl, t3⟩
        replace oa := oa.only t3
        replace ob := ob.only t3
        replace ht := ht.trans t3
        clear ca1 ca2 za t3
        go_wp2_with fail
        go_at_call 8
        refine (P.out _).mono ?_
        rintro r w4 ⟨rfl, t4⟩
        replace oa := (oa.only t4).alloc (.cells #[.int .i64 u, .string s] 23)
        replace ob := (ob.only t4).alloc (.cells #[.int .i64 u, .string s] 23)
        replace ht := (ht.trans t4).alloc (.cells #[.int .i64 u, .string s] 23)
        clear t4
        obtain ⟨ca1, ca2, -, -, za⟩ := oa.all
        go_wp2_with (go_at_call 9; refine (numM_any _ _).mono ?_; rintro r wn ⟨rfl, rfl⟩)
        go_meet
        exact ⟨ht, oa, ob⟩
  case rest =>
   as_aux_lemma =>
    clear ht oa ob hB HBX
    obtain ⟨ht, oa, ob⟩ := hcut
    obtain ⟨B2, hB2⟩ : ∃ B, (f == 0) = B := ⟨_, rfl⟩
    have HB2 := Lib.hid (show B2 = true → f = 0 from fun k => by rw [k] at hB2; simpa using hB2)
    go_wp2_with fail
    go_at_call 8
    refine (PB.out _).mono ?_
    rintro r w5 ⟨rfl, t5⟩
    replace oa := (oa.only t5).alloc (.cells #[.int .i64 N, .string c] 23)
    replace ob := (ob.only t5).alloc (.cells #[.int .i64 N, .string c] 23)
    have op := Own2.new w5 (.int .i64 N) (.string c) 23
    replace ht := (ht.trans t5).alloc (.cells #[.int .i64 N, .string c] 23)
    clear t5
    go_upto_if 76 with (go_at_call 9; refine (numM_any _ _).mono ?_; rintro r wn ⟨rfl, rfl⟩)
    go_cut [] (fun wc => Only w wc ∧ Own2 wc w.heap.size (.int .i64 u) (.string s) ∧ Own2 wc (w.heap.size + 1) (.int .i64 v) (.string t))
    case first =>
      as_aux_lemma =>
        clear hB2
        cases B2
        · go_wp2_with (go_at_call 9; refine (numM_any _ _).mono ?_; rintro r wn ⟨rfl, rfl⟩)
          go_meet
          exact ⟨ht, oa, ob⟩
        · have hf := HB2.out rfl
          subst hf
          obtain ⟨S, P, hlen⟩ := SB.out rfl
          have S := Lib.hid S
          have P := Lib.hid P
          obtain ⟨cp1, cp2, -, -, zp⟩ := op.all
          go_wp2_with fail
          go_at_call 7
          refine (S.out _ ht).mono ?_
          rintro r w6 ⟨rfl, t6⟩
          replace oa := oa.only t6
          replace ob := ob.only t6
          replace op := op.only t6
          replace ht := ht.trans t6
          clear cp1 cp2 zp t6
          go_wp2_with fail
          go_at_call 8
          refine (P.out _).mono ?_
          rintro r w7 ⟨rfl, t7⟩
          replace oa := (oa.only t7).alloc (.cells #[.int .i64 N, .string c] 23)
          replace ob := (ob.only t7).alloc (.cells #[.int .i64 N, .string c] 23)
          replace op := (op.only t7).alloc (.cells #[.int .i64 N, .string c] 23)
          have oq := Own2.new w7 (.int .i64 N) (.string c) 23
          replace ht := (ht.trans t7).alloc (.cells #[.int .i64 N, .string c] 23)
          clear t7
          obtain ⟨cp1, cp2, -, -, zp⟩ := op.all
          obtain ⟨cq1, cq2, -, -, zq⟩ := oq.all
          go_wp2_with (go_at_call 9; refine (numM_any _ _).mono ?_; rintro r wn ⟨rfl, rfl⟩)
          go_at_call 7
          refine (S.out _ ht).mono ?_
          rintro r w8 ⟨rfl, t8⟩
          replace oa := oa.only t8
          replace ob := ob.only t8
          replace ht := ht.trans t8
          clear cp1 cp2 zp cq1 cq2 zq t8
          go_wp2_with (go_at_call 9; refine (numM_any _ _).mono ?_; rintro r wn ⟨rfl, rfl⟩)
          go_meet
          exact ⟨ht, oa, ob⟩
    case rest =>
     as_aux_lemma =>
      clear ht oa ob op hB2 HB2
      obtain ⟨ht, oa, ob⟩ := hcut
      obtain ⟨B3, hB3⟩ : ∃ B, (g == 0) = B := ⟨_, rfl⟩
      have HB3 := Lib.hid (show B3 = true → g = 0 from fun k => by rw [k] at hB3; simpa using hB3)
      obtain ⟨ca1, ca2, -, -, za⟩ := oa.all
      obtain ⟨cb1, cb2, -, -, zb⟩ := ob.all
      go_wp2_with fail
      go_at_call 10
      refine (AD.out _).mono ?_
      rintro r w9 ⟨rfl, t9⟩
      replace oa := (oa.only t9).alloc (.cells #[.int .i64 D, .string m] 23)
      replace ob := (ob.only t9).alloc (.cells #[.int .i64 D, .string m] 23)
      have od := Own2.new w9 (.int .i64 D) (.string m) 23
      replace ht := (ht.trans t9).alloc (.cells #[.int .i64 D, .string m] 23)
      clear ca1 ca2 za cb1 cb2 zb t9
      go_upto_if 107 with (go_at_call 9; refine (numM_any _ _).mono ?_; rintro r wn ⟨rfl, rfl⟩)
      go_cut [] (fun wc => Only w wc)
      case first =>
        as_aux_lemma =>
          clear hB3
          cases B3
          · go_wp2_with (go_at_call 9; refine (numM_any _ _).mono ?_; rintro r wn ⟨rfl, rfl⟩)
            go_meet
            exact ht
          · have hg := HB3.out rfl
            subst hg
            have U := Lib.hid (SU.out rfl)
            obtain ⟨cb1, cb2, -, -, zb⟩ := ob.all
            obtain ⟨cd1, cd2, -, -, zd⟩ := od.all
            go_wp2_with fail
            go_at_call 11
            refine (U.out _).mono ?_
            rintro r w10 ⟨rfl, t10⟩
            replace oa := (oa.only t10).alloc (.cells #[.int .i64 u, .string s] 23)
            replace ht := (ht.trans t10).alloc (.cells #[.int .i64 u, .string s] 23)
            clear cb1 cb2 zb cd1 cd2 zd t10
            obtain ⟨ca1, ca2, -, -, za⟩ := oa.all
            go_wp2_with (go_at_call 9; refine (numM_any _ _).mono ?_; rintro r wn ⟨rfl, rfl⟩)
            go_meet
            exact ht
      case rest =>
       as_aux_lemma =>
        clear ht oa ob od hB3 HB3
        have ht := hcut
        clear hcut
        go_wp2_with fail
        refine wp_name (fun W => Only w W) ht ?_
        clear ht
        rintro W0 ht0
        go_loopw [20, 21] (fun tv i wr => ∃ (k : Nat) (sp2 : Option Addr) (cap2 : Nat), k ≤ l.length ∧ i = .int .i64 ((l.length : Int) - 1 - (k : Int)) ∧ tv = .slice sp2 k cap2 ∧ AmsO wr W0.heap.size (.slice sp2 k cap2) (l.reverse.take k) ∧ Only W0 wr) (fun _ i _ => (intOf i + 1).toNat)
        case atStart => exact ⟨0, none, 0, Nat.zero_le _, by simp, rfl, AmsO.nil _ _, Only.refl _⟩
        case round =>
          obtain ⟨k, sp2, cap2, hk, rfl, rfl, hO, hT⟩ := hrel
          by_cases hlt : k < l.length
          · obtain ⟨j, hj⟩ : ∃ j : Nat, j = l.length - 1 - k := ⟨_, rfl⟩
            have hjl : j < l.length := by omega
            have hji : (l.length : Int) - 1 - (k : Int) = (j : Int) := by omega
            obtain ⟨sp', cap', hv, hr⟩ := HL.out.only (ht0.trans hT)
            obtain ⟨G, o, rfl, hcells⟩ := hr (by omega)
            obtain ⟨rfl, rfl⟩ : sp = some ⟨G, o, none⟩ ∧ cap = cap' := by simpa using hv
            obtain ⟨x, hx⟩ : ∃ x, l[j]? = some x := ⟨_, List.getElem?_eq_getElem hjl⟩
            obtain ⟨c1, c2⟩ := hcells j x hx
            have hnx : l.reverse.take (k + 1) = l.reverse.take k ++ [x] := by
              rw [List.take_add_one]
              congr 1
              rw [List.getElem?_reverse (by omega), show l.length - 1 - k = j by omega, hx]
              rfl
            obtain ⟨x1, x2⟩ := x
            simp only at c1 c2
            have hlen : (l.reverse.take k).length = k := by rw [List.length_take, List.length_reverse]; omega
            have HNX := Lib.hid hnx
            have HLN := Lib.hid hlen
            have hO2 := hO.only ((Only.refl wr).alloc (.cells #[.int .i64 x1, .string x2] 23))
            have hT2 := hT.alloc (.cells #[.int .i64 x1, .string x2] 23)
            have ij : (j : Int) < (l.length : Int) := by omega
            have il : (l.length : Int) ≤ 60 := h1
            rw [hji]
            have HJI := Lib.hid hji
            have HJ := Lib.hid hj
            have hsz := hT.size
            clear hcells hv hr hx hnx hlen hji hj hO
            go_wp2_with (at_builtin; refine append_am rfl (.tmp 129) (.tmp 134) rfl (base := W0.heap.size) (y := (x1, x2)) (g := wr.heap.size) rfl rfl hO2 (by simp) (by simp) (by rw [HLN.out]; omega) (by simp; omega) ?_; intro sp3 cap3 w3 hO3 hB3 hS3)
            have hlen3 : (l.reverse.take k ++ [(x1, x2)]).length = k + 1 := by rw [List.length_append, HLN.out]; rfl
            rw [hlen3, ← HNX.out] at hO3
            have hT3 : Only W0 w3 := Below.trans hT2 hB3
            have HO3 := Lib.hid hO3
            clear hO3 hB3 hlen3 hT2 hO2
            go_roundw
            case rel => exact ⟨k + 1, sp3, cap3, by omega, congrArg (Value.int .i64) (by have := HJI.out; omega), rfl, HO3.out, hT3⟩
            case measure => simp [intOf]
          · have hkl : k = l.length := by omega
            subst hkl
            have hR := hO.toR
            rw [List.take_of_length_le (by rw [List.length_reverse]; exact Nat.le_refl _)] at hR
            have il : (l.length : Int) ≤ 60 := h1
            have hT2 := ht0.trans hT
            have hi0 : (l.length : Int) - 1 - (l.length : Int) = -1 := by omega
            rw [hi0]
            have HR := Lib.hid hR
            clear hO hT hi0 hlt hk hR
            obtain ⟨B4, hB4⟩ : ∃ B, (e1 == 0) = B := ⟨_, rfl⟩
            have hB5 : (e2 == 0) = B4 := by rw [← hB4]; exact HE.out.symm
            go_wp2_with fail
            go_at_call 12
            refine (S1.out _ (HL.out.only hT2)).mono ?_
            rintro r w11 ⟨rfl, t11⟩
            have ox := Own2.new w11 (.int .i64 X) (.string xs) 23
            have hT3 := (hT2.trans t11).alloc (.cells #[.int .i64 X, .string xs] 23)
            have hR2 := (HR.out.only t11).only ((Only.refl w11).alloc (.cells #[.int .i64 X, .string xs] 23))
            have HR2 := Lib.hid hR2
            clear t11 hT2 hR2
            go_wp2_with fail
            go_at_call 12
            refine (S2.out _ _ HR2.out).mono ?_
            rintro r w12 ⟨rfl, t12⟩
            have ox2 := (ox.only t12).alloc (.cells #[.int .i64 X, .string xs] 23)
            have oy := Own2.new w12 (.int .i64 X) (.string xs) 23
            have hT4 := (hT3.trans t12).alloc (.cells #[.int .i64 X, .string xs] 23)
            clear t12 hT3 ox
            obtain ⟨cx1, cx2, -, -, zx⟩ := ox2.all
            obtain ⟨cy1, cy2, -, -, zy⟩ := oy.all
            go_wp2_with (go_at_call 9; refine (numM_any _ _).mono ?_; rintro r wn ⟨rfl, rfl⟩)
            go_ret
            exact ⟨by simp, hT4⟩
end Go.Proofs.YtfjemldilnaggaaDoor
