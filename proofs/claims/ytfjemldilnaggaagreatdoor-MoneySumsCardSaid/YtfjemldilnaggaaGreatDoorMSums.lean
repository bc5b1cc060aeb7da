/-
  MoneySums: the walk.
-/
import Derived.Test.YtfjemldilnaggaaGreatDoorMSmall
import Derived.Test.YtfjemldilnaggaaGreatDoorMSumR
import Derived.Test.YtfjemldilnaggaaGreatDoorMRmsO
import Derived.Deep.DeepCutAuto
namespace Go.Proofs.YtfjemldilnaggaaGreatDoor
open Go.RowKit Go.Shelf Go.Maps Go.WideMaps
set_option linter.unusedVariables false
set_option linter.unusedSimpArgs false

set_option maxRecDepth 100000 in
theorem sums_out0 {u v num den : Int} {s t cur : ByteArray} {sp : Option Addr} {n cap : Nat} {w : World} (FM : FirstM w) (h0 : (60 : Int) < (n : Int)) :
    Calls Tryz.prog 5 #[.agg #[.int .i64 u, .string s], .agg #[.int .i64 v, .string t], .int .i64 num, .int .i64 den, .string cur, .slice sp n cap] w fun e w' => e = .returned (.bool true) ∧ Only w w' := by
  have FM := Lib.hid FM
  have oa := (Own2.new w (.int .i64 u) (.string s) 23).alloc (.cells #[.int .i64 v, .string t] 23)
  have ob := Own2.new1 w (.cells #[.int .i64 u, .string s] 23) (.int .i64 v) (.string t) 23
  have ht := ((Only.refl w).alloc (.cells #[.int .i64 u, .string s] 23)).alloc (.cells #[.int .i64 v, .string t] 23)
  go_enter Tryz.func5, Tryz.ntmps5
  go_wp2_with fail
  go_at_call 7
  refine (FM.out _ ht).mono ?_
  rintro r w1 ⟨rfl, t1⟩
  replace oa := oa.only t1
  replace ob := ob.only t1
  replace ht := ht.trans t1
  obtain ⟨ca1, ca2, -, -, za⟩ := oa.all
  obtain ⟨cb1, cb2, -, -, zb⟩ := ob.all
  clear t1
  go_wp2
  go_ret
  exact ⟨rfl, ht⟩

set_option maxRecDepth 100000 in
theorem sums_out1 {u v num den : Int} {s t cur : ByteArray} {sp : Option Addr} {n cap : Nat} {w : World} (FM : FirstM w) (h0 : (n : Int) ≤ 60) (h1 : (200 : Int) < (s.size : Int)) :
    Calls Tryz.prog 5 #[.agg #[.int .i64 u, .string s], .agg #[.int .i64 v, .string t], .int .i64 num, .int .i64 den, .string cur, .slice sp n cap] w fun e w' => e = .returned (.bool true) ∧ Only w w' := by
  have FM := Lib.hid FM
  have oa := (Own2.new w (.int .i64 u) (.string s) 23).alloc (.cells #[.int .i64 v, .string t] 23)
  have ob := Own2.new1 w (.cells #[.int .i64 u, .string s] 23) (.int .i64 v) (.string t) 23
  have ht := ((Only.refl w).alloc (.cells #[.int .i64 u, .string s] 23)).alloc (.cells #[.int .i64 v, .string t] 23)
  go_enter Tryz.func5, Tryz.ntmps5
  go_wp2_with fail
  go_at_call 7
  refine (FM.out _ ht).mono ?_
  rintro r w1 ⟨rfl, t1⟩
  replace oa := oa.only t1
  replace ob := ob.only t1
  replace ht := ht.trans t1
  obtain ⟨ca1, ca2, -, -, za⟩ := oa.all
  obtain ⟨cb1, cb2, -, -, zb⟩ := ob.all
  clear t1
  go_wp2
  go_ret
  exact ⟨rfl, ht⟩

set_option maxRecDepth 100000 in
theorem sums_out2 {u v num den : Int} {s t cur : ByteArray} {sp : Option Addr} {n cap : Nat} {w : World} (FM : FirstM w) (h0 : (n : Int) ≤ 60) (h1 : (s.size : Int) ≤ 200) (h2 : (200 : Int) < (t.size : Int)) :
    Calls Tryz.prog 5 #[.agg #[.int .i64 u, .string s], .agg #[.int .i64 v, .string t], .int .i64 num, .int .i64 den, .string cur, .slice sp n cap] w fun e w' => e = .returned (.bool true) ∧ Only w w' := by
  have FM := Lib.hid FM
  have oa := (Own2.new w (.int .i64 u) (.string s) 23).alloc (.cells #[.int .i64 v, .string t] 23)
  have ob := Own2.new1 w (.cells #[.int .i64 u, .string s] 23) (.int .i64 v) (.string t) 23
  have ht := ((Only.refl w).alloc (.cells #[.int .i64 u, .string s] 23)).alloc (.cells #[.int .i64 v, .string t] 23)
  go_enter Tryz.func5, Tryz.ntmps5
  go_wp2_with fail
  go_at_call 7
  refine (FM.out _ ht).mono ?_
  rintro r w1 ⟨rfl, t1⟩
  replace oa := oa.only t1
  replace ob := ob.only t1
  replace ht := ht.trans t1
  obtain ⟨ca1, ca2, -, -, za⟩ := oa.all
  obtain ⟨cb1, cb2, -, -, zb⟩ := ob.all
  clear t1
  go_wp2
  go_ret
  exact ⟨rfl, ht⟩

set_option maxRecDepth 100000 in
theorem sums_out3 {u v num den : Int} {s t cur : ByteArray} {sp : Option Addr} {n cap : Nat} {w : World} (FM : FirstM w) (h0 : (n : Int) ≤ 60) (h1 : (s.size : Int) ≤ 200) (h2 : (t.size : Int) ≤ 200) (h3 : (200 : Int) < (cur.size : Int)) :
    Calls Tryz.prog 5 #[.agg #[.int .i64 u, .string s], .agg #[.int .i64 v, .string t], .int .i64 num, .int .i64 den, .string cur, .slice sp n cap] w fun e w' => e = .returned (.bool true) ∧ Only w w' := by
  have FM := Lib.hid FM
  have oa := (Own2.new w (.int .i64 u) (.string s) 23).alloc (.cells #[.int .i64 v, .string t] 23)
  have ob := Own2.new1 w (.cells #[.int .i64 u, .string s] 23) (.int .i64 v) (.string t) 23
  have ht := ((Only.refl w).alloc (.cells #[.int .i64 u, .string s] 23)).alloc (.cells #[.int .i64 v, .string t] 23)
  go_enter Tryz.func5, Tryz.ntmps5
  go_wp2_with fail
  go_at_call 7
  refine (FM.out _ ht).mono ?_
  rintro r w1 ⟨rfl, t1⟩
  replace oa := oa.only t1
  replace ob := ob.only t1
  replace ht := ht.trans t1
  obtain ⟨ca1, ca2, -, -, za⟩ := oa.all
  obtain ⟨cb1, cb2, -, -, zb⟩ := ob.all
  clear t1
  go_wp2
  go_ret
  exact ⟨rfl, ht⟩

set_option maxRecDepth 100000 in
set_option maxHeartbeats 16000000 in
theorem sums_walk {u v num den n1 n2 k n4 n5 n6 e1 e2 e3 e4 e5 e6 : Int} {s t cur c1 c2 c4 c5 c6 : ByteArray} {sp : Option Addr} {cap : Nat} {l : List (Int × ByteArray)} {w : World} (FM : FirstM w) (hl : AmsR w (.slice sp l.length cap) l)
    (h0 : (l.length : Int) ≤ 60) (h1 : (s.size : Int) ≤ 200) (h2 : (t.size : Int) ≤ 200) (h3 : (cur.size : Int) ≤ 200) (hu1 : -9223372036854775808 ≤ u) (hu2 : u < 9223372036854775808)
    (AD : AnsIs 28 #[.agg #[.int .i64 u, .string s], .agg #[.int .i64 v, .string t]] n1 c1 e1) (RA : AnsIs 29 #[.agg #[.int .i64 u, .string s], .agg #[.int .i64 v, .string t]] n1 c1 e1)
    (SU : AnsIs 30 #[.agg #[.int .i64 u, .string s], .agg #[.int .i64 v, .string t]] n2 c2 e2) (RS : AnsIs 31 #[.agg #[.int .i64 u, .string s], .agg #[.int .i64 v, .string t]] n2 c2 e2)
    (CM : CmpMIs u s v t k e3) (RC : ∀ w, Calls Tryz.prog 33 #[.agg #[.int .i64 u, .string s], .agg #[.int .i64 v, .string t]] w fun r w' => r = .returned (.tuple #[.int .i64 k, .int .i64 e3]) ∧ Only w w')
    (RT : AnsIs 34 #[.agg #[.int .i64 u, .string s], .int .i64 num, .int .i64 den] n4 c4 e4) (RR : AnsIs 35 #[.agg #[.int .i64 u, .string s], .int .i64 num, .int .i64 den] n4 c4 e4)
    (S1 : ∀ W, AmsR W (.slice sp l.length cap) l → SumIs W cur (.slice sp l.length cap) n5 c5 e5) (S2 : ∀ W tv, AmsR W tv l → RSumIs W cur tv n5 c5 e5)
    (NG : AnsIs 37 #[.agg #[.int .i64 u, .string s]] n6 c6 e6) (CK : ChkIs u s e6) (hn : (e6 = 0 ∧ n6 = -u ∧ c6 = s ∧ -9223372036854775808 < u) ∨ (e6 ≠ 0 ∧ n6 = 0 ∧ c6 = ⟨#[]⟩)) :
    Calls Tryz.prog 5 #[.agg #[.int .i64 u, .string s], .agg #[.int .i64 v, .string t], .int .i64 num, .int .i64 den, .string cur, .slice sp l.length cap] w fun e w' => e = .returned (.bool true) ∧ Only w w' := by
  have HL := Lib.hid hl
  have AD := Lib.hid AD
  have RA := Lib.hid RA
  have SU := Lib.hid SU
  have RS := Lib.hid RS
  have CM := Lib.hid CM
  have RC := Lib.hid RC
  have RT := Lib.hid RT
  have RR := Lib.hid RR
  have S1 := Lib.hid S1
  have S2 := Lib.hid S2
  have NG := Lib.hid NG
  have CK := Lib.hid CK
  have HN := Lib.hid hn
  clear hn hl
  have FM := Lib.hid FM
  have oa := (Own2.new w (.int .i64 u) (.string s) 23).alloc (.cells #[.int .i64 v, .string t] 23)
  have ob := Own2.new1 w (.cells #[.int .i64 u, .string s] 23) (.int .i64 v) (.string t) 23
  have ht := ((Only.refl w).alloc (.cells #[.int .i64 u, .string s] 23)).alloc (.cells #[.int .i64 v, .string t] 23)
  go_enter Tryz.func5, Tryz.ntmps5
  go_wp2_with fail
  go_at_call 7
  refine (FM.out _ ht).mono ?_
  rintro r w1 ⟨rfl, t1⟩
  replace oa := oa.only t1
  replace ob := ob.only t1
  replace ht := ht.trans t1
  obtain ⟨ca1, ca2, -, -, za⟩ := oa.all
  obtain ⟨cb1, cb2, -, -, zb⟩ := ob.all
  clear t1
  clear ca1 ca2 za cb1 cb2 zb
  have OA := Lib.hid oa
  have OB := Lib.hid ob
  have HT := Lib.hid ht
  obtain ⟨ca1, ca2, -, -, za⟩ := oa.all
  obtain ⟨cb1, cb2, -, -, zb⟩ := ob.all
  clear oa ob ht
  go_wp2_with fail
  clear ca1 ca2 za cb1 cb2 zb
  go_loopw [14, 15] (fun tv i wr => ∃ (k : Nat) (sp2 : Option Addr) (cap2 : Nat), k ≤ l.length ∧ i = .int .i64 (k : Int) ∧ tv = .slice sp2 k cap2 ∧ RmsO wr w1.heap.size (.slice sp2 k cap2) (l.take k) ∧ Only w1 wr) (fun _ i _ => l.length - (intOf i).toNat)
  case atStart => exact ⟨0, none, 0, Nat.zero_le _, rfl, rfl, RmsO.nil _ _, Only.refl _⟩
  case round =>
    obtain ⟨j, sp2, cap2, hj, rfl, rfl, hO, hT⟩ := hrel
    by_cases hlt : j < l.length
    · have il2 : (j : Int) < (l.length : Int) := by omega
      obtain ⟨sp', cap', hv, hr⟩ := HL.out.only (HT.out.trans hT)
      obtain ⟨g, o, rfl, hcells⟩ := hr (by omega)
      obtain ⟨rfl, rfl⟩ : sp = some ⟨g, o, none⟩ ∧ cap = cap' := by simpa using hv
      obtain ⟨x, hx⟩ : ∃ x, l[j]? = some x := ⟨_, List.getElem?_eq_getElem hlt⟩
      obtain ⟨c1, c2⟩ := hcells j x hx
      have hnx : l.take (j + 1) = l.take j ++ [x] := by rw [List.take_add_one, hx]; rfl
      obtain ⟨x1, x2⟩ := x
      simp only at c1 c2
      have hlen : (l.take j).length = j := by rw [List.length_take]; omega
      have HNX := Lib.hid hnx
      have HLN := Lib.hid hlen
      have HO := Lib.hid hO
      clear hcells hv hr hx hnx hlen hO
      go_wp2_with fail
      go_at_call 22
      refine (amountR_any x1 x2 _).mono ?_
      rintro r w2 ⟨rfl, t2⟩
      have hO2 := (HO.out.only t2).only ((Only.refl w2).alloc (.cells #[.int .i64 x1, .string x2] 51))
      have hT2 := (hT.trans t2).alloc (.cells #[.int .i64 x1, .string x2] 51)
      have hsz := (hT.trans t2).size
      clear t2 c1 c2
      go_wp2_with (at_builtin; refine append_rm rfl (.tmp 72) (.tmp 78) rfl (base := w1.heap.size) (y := (x1, x2)) (g := w2.heap.size) rfl rfl hO2 (by simp) (by simp) (by rw [HLN.out]; omega) (by simp; omega) ?_; intro sp3 cap3 w3 hO3 hB3 hS3)
      have hlen3 : (l.take j ++ [(x1, x2)]).length = j + 1 := by rw [List.length_append, HLN.out]; rfl
      rw [hlen3, ← HNX.out] at hO3
      have hT3 : Only w1 w3 := Below.trans hT2 hB3
      have HO3 := Lib.hid hO3
      clear hO3 hB3 hlen3 hT2 hO2
      go_roundw
      case rel => exact ⟨j + 1, sp3, cap3, by omega, by go_num, rfl, HO3.out, hT3⟩
      case measure => simp [intOf]; omega
    · obtain rfl : j = l.length := by omega
      have hR := hO.toR
      rw [List.take_of_length_le (Nat.le_refl _)] at hR
      replace hR : AmsR wr (.slice sp2 l.length cap2) l := hR
      have HR := Lib.hid hR
      have oa := OA.out.only hT
      have ob := OB.out.only hT
      have ht := HT.out.trans hT
      clear hO hT hlt hj hR OA OB HT
      have tt := Only.refl wr
      obtain ⟨oa_1, oa_2, -, -, oa_5⟩ := oa.all
      obtain ⟨ob_1, ob_2, -, -, ob_5⟩ := ob.all
      go_wp2_with (go_at_call 9; refine (numM_any _ _).mono ?_; rintro r wn ⟨rfl, rfl⟩)
      go_at_call 28
      refine (AD.out _).mono ?_
      rintro r wz1 ⟨rfl, tq⟩
      replace oa := (oa.only tq).alloc (.cells #[.int .i64 n1, .string c1] 23)
      replace ob := (ob.only tq).alloc (.cells #[.int .i64 n1, .string c1] 23)
      replace tt := (tt.trans tq).alloc (.cells #[.int .i64 n1, .string c1] 23)
      have o16 := Own2.new wz1 (.int .i64 n1) (.string c1) 23
      clear tq
      clear oa_1 oa_2 oa_5 ob_1 ob_2 ob_5
      go_upto_region 10 with (go_at_call 9; refine (numM_any _ _).mono ?_; rintro r wn ⟨rfl, rfl⟩)
      refine wp_name (fun wx => Own2 wx w.heap.size (.int .i64 u) (.string s) ∧ Own2 wx (w.heap.size + 1) (.int .i64 v) (.string t) ∧ Own2 wx wz1.heap.size (.int .i64 n1) (.string c1) ∧ Only wr wx) ⟨oa, ob, o16, tt⟩ ?_
      clear oa ob o16 tt
      rintro wx10 ⟨oa, ob, o16, tt⟩
      go_cut [18, 19] (fun p q wc => ∃ g : Nat, p = .pointer (some ⟨g, 0, none⟩) ∧ q = .int .i64 e1 ∧ Own2 wc g (.int .i64 n1) (.string c1) ∧ Only wx10 wc)
      case first =>
        as_aux_lemma =>
          refine wp_rich_box 9 [pVal ?c0_10, pVal (.agg #[.int .i64 u, .string s]), pVal ?c2_10, pVal (.agg #[.int .i64 v, .string t]), pVal (.tuple #[.agg #[.int .i64 n1, .string c1], .int .i64 e1]), pVal ?c5_10, pVal ?c6_10, pVal ?c7_10, pNew wx10.heap.size, pFill wx10.heap.size 0 (.int .i64 n1) (.string c1), pVal ?c10_10] (F := ?F_10) (by kernel_rfl) (by kernel_rfl) ?hF_10 ?hst_10 ?hO_10 ?hS_10 ?hend_10
          case hF_10 =>
            intro vs
            simp only [fills]
            go_simp
            exact rfl
          case hst_10 =>
            simp only [StepsW, StepsP]
            refine ⟨?_, ?_, ?_, ?_, ?_, ?_, ?_, ?_, ?_, ?_, ?_, trivial⟩
            case refine_1 | refine_3 | refine_6 | refine_7 | refine_8 | refine_11 =>
              intro vs W hW hd K hK
              have k1 := (oa.only hW).c0
              have k2 := (oa.only hW).c1
              have k3 := (ob.only hW).c0
              have k4 := (ob.only hW).c1
              simp [depsOf, Region.binds, List.filter_cons, GotAll, saidV, pVal] at hd
              unfold RichAt
              go_simp
              refine hK _ _ (Only.refl _) ?_
              exact rfl
            case refine_2 | refine_4 =>
              intro vs W hW hd K hK
              simp [depsOf, Region.binds, List.filter_cons, GotAll, saidV, pVal] at hd
              unfold RichAt
              go_simp
              refine (amountR_any _ _ W).mono ?_
              rintro e w' ⟨rfl, t⟩
              exact ⟨_, rfl, hK _ _ t rfl⟩
            case refine_5 =>
              intro vs W hW hd K hK
              simp [depsOf, Region.binds, List.filter_cons, GotAll, saidV, pVal] at hd
              unfold RichAt
              go_simp
              refine (RA.out W).mono ?_
              rintro e w' ⟨rfl, t⟩
              exact ⟨_, rfl, hK _ _ t rfl⟩
            case refine_9 =>
              intro vs W hW hd K hK
              unfold RichAt
              go_simp
              exact hK _ _ ((Only.refl W).alloc _) ⟨W.heap.size, _, _, rfl, hW.size, Own2.new _ _ _ _⟩
            case refine_10 =>
              intro vs W hW hd K hK
              simp [depsOf, Region.binds, List.filter_cons, GotAll, saidV, pVal] at hd
              obtain ⟨⟨g, x, y, eg, hgb, og⟩, e6, -⟩ := hd
              obtain ⟨q1, q2, q3, q4, q5⟩ := og.all
              unfold RichAt
              go_simp
              exact hK _ _ ⟨g, x, y, _, _, hgb, og, rfl⟩ ⟨g, by simp [depsOf, Region.binds, List.filter_cons, eg], hgb, og.set _ _⟩
          case hO_10 =>
            simp only [List.forall_mem_cons]
            exact ⟨stab_val _, stab_val _, stab_val _, stab_val _, stab_val _, stab_val _, stab_val _, stab_val _, (stabF_new _).1, stabO_fill _ _ _ _, stab_val _, fun _ h => by cases h⟩
          case hS_10 =>
            simp only [List.eraseIdx_cons_succ, List.eraseIdx_cons_zero, List.forall_mem_cons]
            exact ⟨stabF_val _ _, stabF_val _ _, stabF_val _ _, stabF_val _ _, stabF_val _ _, stabF_val _ _, stabF_val _ _, stabF_val _ _, stabF_new _, stabF_val _ _, fun _ h => by cases h⟩
          case hend_10 =>
            intro vs W hW hg
            simp [List.range_succ, depsOf, Region.binds, List.filter_cons, GotAll, saidV, pVal] at hg
            obtain ⟨-, -, -, -, -, -, -, -, -, ⟨g, eg, hgb, og⟩, e10⟩ := hg
            replace eg : vs 8 = .pointer (some ⟨g, 0, none⟩) := by simpa using eg
            go_wp2
            go_meet
            exact ⟨g, eg, e10, og, hW⟩
      case rest =>
       as_aux_lemma =>
        obtain ⟨go18, rfl, rfl, o18, tq⟩ := hcut
        replace oa := oa.only tq
        replace ob := ob.only tq
        replace o16 := o16.only tq
        replace tt := tt.trans tq
        clear tq
        obtain ⟨oa_1, oa_2, -, -, oa_5⟩ := oa.all
        obtain ⟨ob_1, ob_2, -, -, ob_5⟩ := ob.all
        go_wp2_with (go_at_call 9; refine (numM_any _ _).mono ?_; rintro r wn ⟨rfl, rfl⟩)
        go_at_call 30
        refine (SU.out _).mono ?_
        rintro r wz2 ⟨rfl, tq⟩
        replace oa := (oa.only tq).alloc (.cells #[.int .i64 n2, .string c2] 23)
        replace ob := (ob.only tq).alloc (.cells #[.int .i64 n2, .string c2] 23)
        replace o16 := (o16.only tq).alloc (.cells #[.int .i64 n2, .string c2] 23)
        replace o18 := (o18.only tq).alloc (.cells #[.int .i64 n2, .string c2] 23)
        replace tt := (tt.trans tq).alloc (.cells #[.int .i64 n2, .string c2] 23)
        have o20 := Own2.new wz2 (.int .i64 n2) (.string c2) 23
        clear tq
        clear oa_1 oa_2 oa_5 ob_1 ob_2 ob_5
        go_upto_region 12 with (go_at_call 9; refine (numM_any _ _).mono ?_; rintro r wn ⟨rfl, rfl⟩)
        refine wp_name (fun wx => Own2 wx w.heap.size (.int .i64 u) (.string s) ∧ Own2 wx (w.heap.size + 1) (.int .i64 v) (.string t) ∧ Own2 wx wz1.heap.size (.int .i64 n1) (.string c1) ∧ Own2 wx go18 (.int .i64 n1) (.string c1) ∧ Own2 wx wz2.heap.size (.int .i64 n2) (.string c2) ∧ Only wr wx) ⟨oa, ob, o16, o18, o20, tt⟩ ?_
        clear oa ob o16 o18 o20 tt
        rintro wx12 ⟨oa, ob, o16, o18, o20, tt⟩
        go_cut [22, 23] (fun p q wc => ∃ g : Nat, p = .pointer (some ⟨g, 0, none⟩) ∧ q = .int .i64 e2 ∧ Own2 wc g (.int .i64 n2) (.string c2) ∧ Only wx12 wc)
        case first =>
          as_aux_lemma =>
            refine wp_rich_box 9 [pVal ?c0_12, pVal (.agg #[.int .i64 u, .string s]), pVal ?c2_12, pVal (.agg #[.int .i64 v, .string t]), pVal (.tuple #[.agg #[.int .i64 n2, .string c2], .int .i64 e2]), pVal ?c5_12, pVal ?c6_12, pVal ?c7_12, pNew wx12.heap.size, pFill wx12.heap.size 0 (.int .i64 n2) (.string c2), pVal ?c10_12] (F := ?F_12) (by kernel_rfl) (by kernel_rfl) ?hF_12 ?hst_12 ?hO_12 ?hS_12 ?hend_12
            case hF_12 =>
              intro vs
              simp only [fills]
              go_simp
              exact rfl
            case hst_12 =>
              simp only [StepsW, StepsP]
              refine ⟨?_, ?_, ?_, ?_, ?_, ?_, ?_, ?_, ?_, ?_, ?_, trivial⟩
              case refine_1 | refine_3 | refine_6 | refine_7 | refine_8 | refine_11 =>
                intro vs W hW hd K hK
                have k1 := (oa.only hW).c0
                have k2 := (oa.only hW).c1
                have k3 := (ob.only hW).c0
                have k4 := (ob.only hW).c1
                simp [depsOf, Region.binds, List.filter_cons, GotAll, saidV, pVal] at hd
                unfold RichAt
                go_simp
                refine hK _ _ (Only.refl _) ?_
                exact rfl
              case refine_2 | refine_4 =>
                intro vs W hW hd K hK
                simp [depsOf, Region.binds, List.filter_cons, GotAll, saidV, pVal] at hd
                unfold RichAt
                go_simp
                refine (amountR_any _ _ W).mono ?_
                rintro e w' ⟨rfl, t⟩
                exact ⟨_, rfl, hK _ _ t rfl⟩
              case refine_5 =>
                intro vs W hW hd K hK
                simp [depsOf, Region.binds, List.filter_cons, GotAll, saidV, pVal] at hd
                unfold RichAt
                go_simp
                refine (RS.out W).mono ?_
                rintro e w' ⟨rfl, t⟩
                exact ⟨_, rfl, hK _ _ t rfl⟩
              case refine_9 =>
                intro vs W hW hd K hK
                unfold RichAt
                go_simp
                exact hK _ _ ((Only.refl W).alloc _) ⟨W.heap.size, _, _, rfl, hW.size, Own2.new _ _ _ _⟩
              case refine_10 =>
                intro vs W hW hd K hK
                simp [depsOf, Region.binds, List.filter_cons, GotAll, saidV, pVal] at hd
                obtain ⟨⟨g, x, y, eg, hgb, og⟩, e6, -⟩ := hd
                obtain ⟨q1, q2, q3, q4, q5⟩ := og.all
                unfold RichAt
                go_simp
                exact hK _ _ ⟨g, x, y, _, _, hgb, og, rfl⟩ ⟨g, by simp [depsOf, Region.binds, List.filter_cons, eg], hgb, og.set _ _⟩
            case hO_12 =>
              simp only [List.forall_mem_cons]
              exact ⟨stab_val _, stab_val _, stab_val _, stab_val _, stab_val _, stab_val _, stab_val _, stab_val _, (stabF_new _).1, stabO_fill _ _ _ _, stab_val _, fun _ h => by cases h⟩
            case hS_12 =>
              simp only [List.eraseIdx_cons_succ, List.eraseIdx_cons_zero, List.forall_mem_cons]
              exact ⟨stabF_val _ _, stabF_val _ _, stabF_val _ _, stabF_val _ _, stabF_val _ _, stabF_val _ _, stabF_val _ _, stabF_val _ _, stabF_new _, stabF_val _ _, fun _ h => by cases h⟩
            case hend_12 =>
              intro vs W hW hg
              simp [List.range_succ, depsOf, Region.binds, List.filter_cons, GotAll, saidV, pVal] at hg
              obtain ⟨-, -, -, -, -, -, -, -, -, ⟨g, eg, hgb, og⟩, e10⟩ := hg
              replace eg : vs 8 = .pointer (some ⟨g, 0, none⟩) := by simpa using eg
              go_wp2
              go_meet
              exact ⟨g, eg, e10, og, hW⟩
        case rest =>
         as_aux_lemma =>
          obtain ⟨go22, rfl, rfl, o22, tq⟩ := hcut
          replace oa := oa.only tq
          replace ob := ob.only tq
          replace o16 := o16.only tq
          replace o18 := o18.only tq
          replace o20 := o20.only tq
          replace tt := tt.trans tq
          clear tq
          obtain ⟨oa_1, oa_2, -, -, oa_5⟩ := oa.all
          obtain ⟨ob_1, ob_2, -, -, ob_5⟩ := ob.all
          go_wp2_with (go_at_call 9; refine (numM_any _ _).mono ?_; rintro r wn ⟨rfl, rfl⟩)
          go_at_call 32
          refine (CM.out _).mono ?_
          rintro r wz3 ⟨rfl, tq⟩
          replace oa := (oa.only tq)
          replace ob := (ob.only tq)
          replace o16 := (o16.only tq)
          replace o18 := (o18.only tq)
          replace o20 := (o20.only tq)
          replace o22 := (o22.only tq)
          replace tt := (tt.trans tq)
          clear tq
          clear oa_1 oa_2 oa_5 ob_1 ob_2 ob_5
          go_upto_region 14 with (go_at_call 9; refine (numM_any _ _).mono ?_; rintro r wn ⟨rfl, rfl⟩)
          refine wp_name (fun wx => Own2 wx w.heap.size (.int .i64 u) (.string s) ∧ Own2 wx (w.heap.size + 1) (.int .i64 v) (.string t) ∧ Own2 wx wz1.heap.size (.int .i64 n1) (.string c1) ∧ Own2 wx go18 (.int .i64 n1) (.string c1) ∧ Own2 wx wz2.heap.size (.int .i64 n2) (.string c2) ∧ Own2 wx go22 (.int .i64 n2) (.string c2) ∧ Only wr wx) ⟨oa, ob, o16, o18, o20, o22, tt⟩ ?_
          clear oa ob o16 o18 o20 o22 tt
          rintro wx14 ⟨oa, ob, o16, o18, o20, o22, tt⟩
          go_cut [26, 27] (fun p q wc => p = .int .i64 k ∧ q = .int .i64 e3 ∧ Only wx14 wc)
          case first =>
            as_aux_lemma =>
              refine wp_rich [pVal ?c0_14, pVal (.agg #[.int .i64 u, .string s]), pVal ?c2_14, pVal (.agg #[.int .i64 v, .string t]), pVal (.tuple #[.int .i64 k, .int .i64 e3]), pVal ?c5_14, pVal ?c6_14, pVal ?c7_14, pVal ?c8_14, pVal ?c9_14] (F := ?F_14) (by kernel_rfl) (by kernel_rfl) ?hF_14 ?hst_14 ?hO_14 ?hend_14
              case hF_14 =>
                intro vs
                simp only [fills]
                go_simp
                exact rfl
              case hst_14 =>
                simp only [StepsW, StepsP]
                refine ⟨?_, ?_, ?_, ?_, ?_, ?_, ?_, ?_, ?_, ?_, trivial⟩
                case refine_1 | refine_3 | refine_6 | refine_7 | refine_8 | refine_9 | refine_10 =>
                  intro vs W hW hd K hK
                  have k1 := (oa.only hW).c0
                  have k2 := (oa.only hW).c1
                  have k3 := (ob.only hW).c0
                  have k4 := (ob.only hW).c1
                  simp [depsOf, Region.binds, List.filter_cons, GotAll, saidV, pVal] at hd
                  unfold RichAt
                  go_simp
                  refine hK _ _ (Only.refl _) ?_
                  exact rfl
                case refine_2 | refine_4 =>
                  intro vs W hW hd K hK
                  simp [depsOf, Region.binds, List.filter_cons, GotAll, saidV, pVal] at hd
                  unfold RichAt
                  go_simp
                  refine (amountR_any _ _ W).mono ?_
                  rintro e w' ⟨rfl, t⟩
                  exact ⟨_, rfl, hK _ _ t rfl⟩
                case refine_5 =>
                  intro vs W hW hd K hK
                  simp [depsOf, Region.binds, List.filter_cons, GotAll, saidV, pVal] at hd
                  unfold RichAt
                  go_simp
                  refine (RC.out W).mono ?_
                  rintro e w' ⟨rfl, t⟩
                  exact ⟨_, rfl, hK _ _ t rfl⟩
              case hO_14 =>
                simp only [List.forall_mem_cons]
                exact ⟨stab_val _, stab_val _, stab_val _, stab_val _, stab_val _, stab_val _, stab_val _, stab_val _, stab_val _, stab_val _, fun _ h => by cases h⟩
              case hend_14 =>
                intro vs W hW hg
                simp [List.range_succ, depsOf, Region.binds, List.filter_cons, GotAll, saidV, pVal] at hg
                obtain ⟨-, -, -, -, -, -, -, -, e8, e9⟩ := hg
                go_wp2
                go_meet
                exact ⟨e8, e9, hW⟩
          case rest =>
           as_aux_lemma =>
            obtain ⟨rfl, rfl, tq⟩ := hcut
            replace oa := oa.only tq
            replace ob := ob.only tq
            replace o16 := o16.only tq
            replace o18 := o18.only tq
            replace o20 := o20.only tq
            replace o22 := o22.only tq
            replace tt := tt.trans tq
            clear tq
            obtain ⟨oa_1, oa_2, -, -, oa_5⟩ := oa.all
            go_wp2_with (go_at_call 9; refine (numM_any _ _).mono ?_; rintro r wn ⟨rfl, rfl⟩)
            go_at_call 34
            refine (RT.out _).mono ?_
            rintro r wz4 ⟨rfl, tq⟩
            replace oa := (oa.only tq).alloc (.cells #[.int .i64 n4, .string c4] 23)
            replace ob := (ob.only tq).alloc (.cells #[.int .i64 n4, .string c4] 23)
            replace o16 := (o16.only tq).alloc (.cells #[.int .i64 n4, .string c4] 23)
            replace o18 := (o18.only tq).alloc (.cells #[.int .i64 n4, .string c4] 23)
            replace o20 := (o20.only tq).alloc (.cells #[.int .i64 n4, .string c4] 23)
            replace o22 := (o22.only tq).alloc (.cells #[.int .i64 n4, .string c4] 23)
            replace tt := (tt.trans tq).alloc (.cells #[.int .i64 n4, .string c4] 23)
            have o28 := Own2.new wz4 (.int .i64 n4) (.string c4) 23
            clear tq
            clear oa_1 oa_2 oa_5
            obtain ⟨oa_1, oa_2, -, -, oa_5⟩ := oa.all
            go_wp2_with (go_at_call 9; refine (numM_any _ _).mono ?_; rintro r wn ⟨rfl, rfl⟩)
            go_at_call 22
            refine (amountR_any _ _ _).mono ?_
            rintro r wz5 ⟨rfl, tq⟩
            replace oa := (oa.only tq)
            replace ob := (ob.only tq)
            replace o16 := (o16.only tq)
            replace o18 := (o18.only tq)
            replace o20 := (o20.only tq)
            replace o22 := (o22.only tq)
            replace o28 := (o28.only tq)
            replace tt := (tt.trans tq)
            clear tq
            clear oa_1 oa_2 oa_5
            go_wp2_with (go_at_call 9; refine (numM_any _ _).mono ?_; rintro r wn ⟨rfl, rfl⟩)
            go_at_call 35
            refine (RR.out _).mono ?_
            rintro r wz6 ⟨rfl, tq⟩
            replace oa := (oa.only tq).alloc (.cells #[.int .i64 n4, .string c4] 51)
            replace ob := (ob.only tq).alloc (.cells #[.int .i64 n4, .string c4] 51)
            replace o16 := (o16.only tq).alloc (.cells #[.int .i64 n4, .string c4] 51)
            replace o18 := (o18.only tq).alloc (.cells #[.int .i64 n4, .string c4] 51)
            replace o20 := (o20.only tq).alloc (.cells #[.int .i64 n4, .string c4] 51)
            replace o22 := (o22.only tq).alloc (.cells #[.int .i64 n4, .string c4] 51)
            replace o28 := (o28.only tq).alloc (.cells #[.int .i64 n4, .string c4] 51)
            replace tt := (tt.trans tq).alloc (.cells #[.int .i64 n4, .string c4] 51)
            have o30 := Own2.new wz6 (.int .i64 n4) (.string c4) 51
            clear tq
            go_wp2_with (go_at_call 9; refine (numM_any _ _).mono ?_; rintro r wn ⟨rfl, rfl⟩)
            go_at_call 10
            refine (S1.out _ (HL.out.only (ht.trans tt))).mono ?_
            rintro r wz7 ⟨rfl, tq⟩
            replace oa := (oa.only tq).alloc (.cells #[.int .i64 n5, .string c5] 23)
            replace ob := (ob.only tq).alloc (.cells #[.int .i64 n5, .string c5] 23)
            replace o16 := (o16.only tq).alloc (.cells #[.int .i64 n5, .string c5] 23)
            replace o18 := (o18.only tq).alloc (.cells #[.int .i64 n5, .string c5] 23)
            replace o20 := (o20.only tq).alloc (.cells #[.int .i64 n5, .string c5] 23)
            replace o22 := (o22.only tq).alloc (.cells #[.int .i64 n5, .string c5] 23)
            replace o28 := (o28.only tq).alloc (.cells #[.int .i64 n5, .string c5] 23)
            replace o30 := (o30.only tq).alloc (.cells #[.int .i64 n5, .string c5] 23)
            replace tt := (tt.trans tq).alloc (.cells #[.int .i64 n5, .string c5] 23)
            have o32 := Own2.new wz7 (.int .i64 n5) (.string c5) 23
            clear tq
            go_wp2_with (go_at_call 9; refine (numM_any _ _).mono ?_; rintro r wn ⟨rfl, rfl⟩)
            go_at_call 36
            refine (S2.out _ _ (HR.out.only tt)).mono ?_
            rintro r wz8 ⟨rfl, tq⟩
            replace oa := (oa.only tq).alloc (.cells #[.int .i64 n5, .string c5] 51)
            replace ob := (ob.only tq).alloc (.cells #[.int .i64 n5, .string c5] 51)
            replace o16 := (o16.only tq).alloc (.cells #[.int .i64 n5, .string c5] 51)
            replace o18 := (o18.only tq).alloc (.cells #[.int .i64 n5, .string c5] 51)
            replace o20 := (o20.only tq).alloc (.cells #[.int .i64 n5, .string c5] 51)
            replace o22 := (o22.only tq).alloc (.cells #[.int .i64 n5, .string c5] 51)
            replace o28 := (o28.only tq).alloc (.cells #[.int .i64 n5, .string c5] 51)
            replace o30 := (o30.only tq).alloc (.cells #[.int .i64 n5, .string c5] 51)
            replace o32 := (o32.only tq).alloc (.cells #[.int .i64 n5, .string c5] 51)
            replace tt := (tt.trans tq).alloc (.cells #[.int .i64 n5, .string c5] 51)
            have o34 := Own2.new wz8 (.int .i64 n5) (.string c5) 51
            clear tq
            obtain ⟨oa_1, oa_2, -, -, oa_5⟩ := oa.all
            go_wp2_with (go_at_call 9; refine (numM_any _ _).mono ?_; rintro r wn ⟨rfl, rfl⟩)
            go_at_call 37
            refine (NG.out _).mono ?_
            rintro r wz9 ⟨rfl, tq⟩
            replace oa := (oa.only tq).alloc (.cells #[.int .i64 n6, .string c6] 23)
            replace ob := (ob.only tq).alloc (.cells #[.int .i64 n6, .string c6] 23)
            replace o16 := (o16.only tq).alloc (.cells #[.int .i64 n6, .string c6] 23)
            replace o18 := (o18.only tq).alloc (.cells #[.int .i64 n6, .string c6] 23)
            replace o20 := (o20.only tq).alloc (.cells #[.int .i64 n6, .string c6] 23)
            replace o22 := (o22.only tq).alloc (.cells #[.int .i64 n6, .string c6] 23)
            replace o28 := (o28.only tq).alloc (.cells #[.int .i64 n6, .string c6] 23)
            replace o30 := (o30.only tq).alloc (.cells #[.int .i64 n6, .string c6] 23)
            replace o32 := (o32.only tq).alloc (.cells #[.int .i64 n6, .string c6] 23)
            replace o34 := (o34.only tq).alloc (.cells #[.int .i64 n6, .string c6] 23)
            replace tt := (tt.trans tq).alloc (.cells #[.int .i64 n6, .string c6] 23)
            have o36 := Own2.new wz9 (.int .i64 n6) (.string c6) 23
            clear tq
            clear oa_1 oa_2 oa_5
            obtain ⟨oa_1, oa_2, -, -, oa_5⟩ := oa.all
            go_wp2_with (go_at_call 9; refine (numM_any _ _).mono ?_; rintro r wn ⟨rfl, rfl⟩)
            go_at_call 22
            refine (amountR_any _ _ _).mono ?_
            rintro r wz10 ⟨rfl, tq⟩
            replace oa := (oa.only tq)
            replace ob := (ob.only tq)
            replace o16 := (o16.only tq)
            replace o18 := (o18.only tq)
            replace o20 := (o20.only tq)
            replace o22 := (o22.only tq)
            replace o28 := (o28.only tq)
            replace o30 := (o30.only tq)
            replace o32 := (o32.only tq)
            replace o34 := (o34.only tq)
            replace o36 := (o36.only tq)
            replace tt := (tt.trans tq)
            clear tq
            clear oa_1 oa_2 oa_5
            go_wp2_with (go_at_call 9; refine (numM_any _ _).mono ?_; rintro r wn ⟨rfl, rfl⟩)
            go_at_call 21
            refine (CK.out _).mono ?_
            rintro r wz11 ⟨rfl, tq⟩
            replace oa := (oa.only tq)
            replace ob := (ob.only tq)
            replace o16 := (o16.only tq)
            replace o18 := (o18.only tq)
            replace o20 := (o20.only tq)
            replace o22 := (o22.only tq)
            replace o28 := (o28.only tq)
            replace o30 := (o30.only tq)
            replace o32 := (o32.only tq)
            replace o34 := (o34.only tq)
            replace o36 := (o36.only tq)
            replace tt := (tt.trans tq)
            clear tq
            obtain ⟨oa_1, oa_2, -, -, oa_5⟩ := oa.all
            obtain ⟨o36_1, o36_2, -, -, o36_5⟩ := o36.all
            go_upto_region 21 with (go_at_call 9; refine (numM_any _ _).mono ?_; rintro r wn ⟨rfl, rfl⟩)
            go_cut [39] (fun p wc => p = .bool true ∧ Only wr wc ∧ Own2 wc w.heap.size (.int .i64 u) (.string s) ∧ Own2 wc (w.heap.size + 1) (.int .i64 v) (.string t) ∧ Own2 wc wz1.heap.size (.int .i64 n1) (.string c1) ∧ Own2 wc go18 (.int .i64 n1) (.string c1) ∧ Own2 wc wz2.heap.size (.int .i64 n2) (.string c2) ∧ Own2 wc go22 (.int .i64 n2) (.string c2) ∧ Own2 wc wz4.heap.size (.int .i64 n4) (.string c4) ∧ Own2 wc wz6.heap.size (.int .i64 n4) (.string c4) ∧ Own2 wc wz7.heap.size (.int .i64 n5) (.string c5) ∧ Own2 wc wz8.heap.size (.int .i64 n5) (.string c5) ∧ Own2 wc wz9.heap.size (.int .i64 n6) (.string c6))
            case first =>
              as_aux_lemma =>
                rcases HN.out with ⟨rfl, rfl, rfl, hu3⟩ | ⟨he, rfl, rfl⟩
                · go_wp2_with fail
                  go_meet
                  exact ⟨by simp, tt, oa, ob, o16, o18, o20, o22, o28, o30, o32, o34, o36⟩
                · have q1 : (e6 == 0) = false := by simpa using he
                  have q2 : (e6 != 0) = true := by simpa using he
                  clear he
                  go_wp2_with fail
                  go_meet
                  exact ⟨by simp, tt, oa, ob, o16, o18, o20, o22, o28, o30, o32, o34, o36⟩
            case rest =>
             as_aux_lemma =>
              clear oa_1 oa_2 oa_5 o36_1 o36_2 o36_5
              clear tt oa ob o16 o18 o20 o22 o28 o30 o32 o34 o36
              obtain ⟨rfl, tt, oa, ob, o16, o18, o20, o22, o28, o30, o32, o34, o36⟩ := hcut
              obtain ⟨o16_1, o16_2, -, -, o16_5⟩ := o16.all
              obtain ⟨o18_1, o18_2, -, -, o18_5⟩ := o18.all
              go_wp2_with (go_at_call 9; refine (numM_any _ _).mono ?_; rintro r wn ⟨rfl, rfl⟩)
              go_at_call 27
              refine (same_self _ _ _).mono ?_
              rintro r wz12 ⟨rfl, tq⟩
              replace oa := (oa.only tq)
              replace ob := (ob.only tq)
              replace o16 := (o16.only tq)
              replace o18 := (o18.only tq)
              replace o20 := (o20.only tq)
              replace o22 := (o22.only tq)
              replace o28 := (o28.only tq)
              replace o30 := (o30.only tq)
              replace o32 := (o32.only tq)
              replace o34 := (o34.only tq)
              replace o36 := (o36.only tq)
              replace tt := (tt.trans tq)
              clear tq
              clear o16_1 o16_2 o16_5 o18_1 o18_2 o18_5
              obtain ⟨o20_1, o20_2, -, -, o20_5⟩ := o20.all
              obtain ⟨o22_1, o22_2, -, -, o22_5⟩ := o22.all
              go_wp2_with (go_at_call 9; refine (numM_any _ _).mono ?_; rintro r wn ⟨rfl, rfl⟩)
              go_at_call 27
              refine (same_self _ _ _).mono ?_
              rintro r wz13 ⟨rfl, tq⟩
              replace oa := (oa.only tq)
              replace ob := (ob.only tq)
              replace o16 := (o16.only tq)
              replace o18 := (o18.only tq)
              replace o20 := (o20.only tq)
              replace o22 := (o22.only tq)
              replace o28 := (o28.only tq)
              replace o30 := (o30.only tq)
              replace o32 := (o32.only tq)
              replace o34 := (o34.only tq)
              replace o36 := (o36.only tq)
              replace tt := (tt.trans tq)
              clear tq
              clear o20_1 o20_2 o20_5 o22_1 o22_2 o22_5
              obtain ⟨o28_1, o28_2, -, -, o28_5⟩ := o28.all
              obtain ⟨o30_1, o30_2, -, -, o30_5⟩ := o30.all
              go_wp2_with (go_at_call 9; refine (numM_any _ _).mono ?_; rintro r wn ⟨rfl, rfl⟩)
              go_at_call 27
              refine (same_self _ _ _).mono ?_
              rintro r wz14 ⟨rfl, tq⟩
              replace oa := (oa.only tq)
              replace ob := (ob.only tq)
              replace o16 := (o16.only tq)
              replace o18 := (o18.only tq)
              replace o20 := (o20.only tq)
              replace o22 := (o22.only tq)
              replace o28 := (o28.only tq)
              replace o30 := (o30.only tq)
              replace o32 := (o32.only tq)
              replace o34 := (o34.only tq)
              replace o36 := (o36.only tq)
              replace tt := (tt.trans tq)
              clear tq
              clear o28_1 o28_2 o28_5 o30_1 o30_2 o30_5
              obtain ⟨o32_1, o32_2, -, -, o32_5⟩ := o32.all
              obtain ⟨o34_1, o34_2, -, -, o34_5⟩ := o34.all
              go_wp2_with (go_at_call 9; refine (numM_any _ _).mono ?_; rintro r wn ⟨rfl, rfl⟩)
              go_at_call 27
              refine (same_self _ _ _).mono ?_
              rintro r wz15 ⟨rfl, tq⟩
              replace oa := (oa.only tq)
              replace ob := (ob.only tq)
              replace o16 := (o16.only tq)
              replace o18 := (o18.only tq)
              replace o20 := (o20.only tq)
              replace o22 := (o22.only tq)
              replace o28 := (o28.only tq)
              replace o30 := (o30.only tq)
              replace o32 := (o32.only tq)
              replace o34 := (o34.only tq)
              replace o36 := (o36.only tq)
              replace tt := (tt.trans tq)
              clear tq
              clear o32_1 o32_2 o32_5 o34_1 o34_2 o34_5
              have hfin := ht.trans tt
              clear tt oa ob o16 o18 o20 o22 o28 o30 o32 o34 o36
              go_wp2_with (go_at_call 9; refine (numM_any _ _).mono ?_; rintro r wn ⟨rfl, rfl⟩)
              go_ret
              exact ⟨by simp, hfin⟩
end Go.Proofs.YtfjemldilnaggaaGreatDoor
