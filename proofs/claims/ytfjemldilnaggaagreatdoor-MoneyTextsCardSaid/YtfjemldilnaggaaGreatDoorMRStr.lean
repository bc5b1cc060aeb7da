/-
  An amount's text, by the document (exref6.String).
-/
import Derived.Test.YtfjemldilnaggaaGreatDoorMRef
import Derived.Test.YtfjemldilnaggaaGreatDoorBText
import Derived.Test.YtfjemldilnaggaaGreatDoorBLow
import Derived.Test.YtfjemldilnaggaaGreatDoorMBackPl
namespace Go.Proofs.YtfjemldilnaggaaGreatDoor
open Go.RowKit Go.Maps Go.WideMaps Go.Shelf
set_option linter.unusedVariables false

theorem rstring_bad {u e : Int} {s : ByteArray} (C : ChkIs u s e) (h1 : (e == 0) = false) (h2 : (e != 0) = true) (w : World) : Calls Tryz.prog 26 #[.agg #[.int .i64 u, .string s]] w fun r w' => r = .returned (.string ⟨#[]⟩) ∧ Only w w' := by
  have C := Lib.hid C
  have HT := Lib.hid ((Only.refl w).alloc (.cells #[.int .i64 u, .string s] 51))
  have o := Own2.new w (.int .i64 u) (.string s) 51
  obtain ⟨x1, x2, -, -, x3⟩ := o.all
  go_enter Tryz.func26, Tryz.ntmps26
  go_wp2_with fail
  go_at_call 21
  refine (C.out _).mono ?_
  rintro r w1 ⟨rfl, t1⟩
  have HT1 := Lib.hid (HT.out.trans t1)
  clear o t1 x1 x2 x3
  go_wp2_with fail
  go_ret
  exact ⟨rfl, HT1.out⟩

theorem mtxt_sz (l : List UInt8) : (mtxt l).size = l.length := by rw [Lib.size_eq]

theorem natText_digit (m : Nat) : ∃ (x : UInt8) (r : List UInt8), natText m = x :: r ∧ x ≠ 45 := by
  obtain ⟨r, hr⟩ := natText_head m
  have h1 := natText_first m
  rw [hr] at h1
  exact ⟨_, r, hr, by simpa using h1⟩

set_option maxRecDepth 100000 in
set_option maxHeartbeats 6400000 in
theorem rstring_good {u : Int} {k : Nat} {s x : ByteArray} {t : List UInt8} {b z : Bool} {R : ByteArray} (C : ChkIs u s 0) (hk : k ≤ 3) (hs : s.size ≤ 2000) (BO : ∀ W, Calls Tryz.prog 13 #[.int .i64 u] W (BigSays W u))
    (BT : ∀ W b sp n c, BigR W b sp n c u → Calls Tryz.prog 63 #[.agg #[.bool b, .slice sp n c]] W fun e w' => e = .returned (.string x) ∧ Only W w')
    (SC : ∀ W, Calls Tryz.prog 18 #[.string s] W fun e w' => e = .returned (.int .i64 (k : Int)) ∧ Only W w') (hx : 0 < x.size) (hxl : x.size ≤ 1000) (ht : t.length ≤ 1000) (ht0 : 0 < t.length)
    (h45 : (((x[0]'hx).toNat : Int) == 45) = b) (hxt : (if b then x.extract 1 x.size else x) = mtxt t) (hz : decide (0 < k) = z) {y : ByteArray} {pt : Nat} (hy : y = mtxt (List.replicate (k + 1 - t.length) 48 ++ t)) (hp : pt + k = y.size)
    (hR : R = (if b then (⟨#[45]⟩ : ByteArray) else ⟨#[]⟩) ++ (if z then y.extract 0 pt ++ ⟨#[46]⟩ ++ y.extract pt y.size else y) ++ ⟨#[32]⟩ ++ s) (w : World) :
    Calls Tryz.prog 26 #[.agg #[.int .i64 u, .string s]] w fun r w' => r = .returned (.string R) ∧ Only w w' := by
  have C := Lib.hid C
  have BO := Lib.hid BO
  have BT := Lib.hid BT
  have SC := Lib.hid SC
  have HR := Lib.hid hR
  have HXT := Lib.hid hxt
  have HY := Lib.hid hy
  have HP := Lib.hid hp
  have ik : (k : Int) ≤ 3 := by omega
  have ix0 : (0 : Int) < (x.size : Int) := by omega
  have ix1 : (x.size : Int) ≤ 1000 := by omega
  have is1 : (s.size : Int) ≤ 2000 := by omega
  have T0 := Lib.hid ht0
  have T1 := Lib.hid ht
  clear hR hxt hy hp ht0 ht hs
  have ht := (Only.refl w).alloc (.cells #[.int .i64 u, .string s] 51)
  have o := Own2.new w (.int .i64 u) (.string s) 51
  obtain ⟨x1, x2, -, -, x3⟩ := o.all
  go_enter Tryz.func26, Tryz.ntmps26
  go_wp2_with fail
  go_at_call 21
  refine (C.out _).mono ?_
  rintro r w1 ⟨rfl, t1⟩
  replace ht := ht.trans t1
  replace o := o.only t1
  clear t1 x1 x2 x3
  obtain ⟨x1, x2, -, -, x3⟩ := o.all
  go_wp2_with fail
  go_at_call 13
  refine (BO.out _).mono ?_
  rintro r w2 ⟨b2, s2, k2, c2, rfl, r2, t2⟩
  replace ht := ht.trans t2
  replace o := o.only t2
  clear t2 x1 x2 x3
  go_wp2_with fail
  go_at_call 63
  refine (BT.out _ _ _ _ _ r2).mono ?_
  rintro r w3 ⟨rfl, t3⟩
  replace ht := ht.trans t3
  replace o := o.only t3
  clear t3 r2
  obtain ⟨x1, x2, -, -, x3⟩ := o.all
  cases b
  all_goals
    go_wp2_with fail
    go_at_call 18
    refine (SC.out _).mono ?_
    rintro r w4 ⟨rfl, t4⟩
    replace ht := ht.trans t4
    replace o := o.only t4
    have HT := Lib.hid ht
    clear t4 x1 x2 x3 ht
    obtain ⟨x1, x2, -, -, x3⟩ := o.all
    clear o
    go_wp2_with fail
    go_loop [3] (fun sv => ∃ (j : Nat) (D : ByteArray), sv = .string D ∧ D = mtxt (List.replicate j 48 ++ t) ∧ j ≤ k + 1 - t.length) (fun sv => match sv with | .string D => k + 1 - D.size | _ => 0)
    case atStart =>
      refine ⟨0, _, rfl, ?_, Nat.zero_le _⟩
      have := HXT.out
      simpa using this
    case round =>
      obtain ⟨j, D, rfl, hD, hj⟩ := hrel
      have hDs : D.size = j + t.length := by rw [hD, mtxt_sz, List.length_append, List.length_replicate]
      have HD := Lib.hid hD
      have HDS := Lib.hid hDs
      have t0 := T0.out
      have t1 := T1.out
      have iD : (D.size : Int) ≤ 2000 := by omega
      clear hD
      by_cases hle : D.size ≤ k
      · have q1 : decide (D.size ≤ k) = true := decide_eq_true hle
        have q2 : decide ((D.size : Int) ≤ (k : Int)) = true := decide_eq_true (by omega)
        have hn : j + 1 ≤ k + 1 - t.length := by omega
        have hD2 : (⟨#[48]⟩ : ByteArray) ++ D = mtxt (List.replicate (j + 1) 48 ++ t) := by
          rw [HD.out, show (⟨#[48]⟩ : ByteArray) = mtxt [48] from rfl, mtxt_app, List.replicate_succ]; rfl
        have HD2 := Lib.hid hD2
        have hS2 : ((⟨#[48]⟩ : ByteArray) ++ D).size = D.size + 1 := by rw [hD2, mtxt_sz, hDs, List.length_append, List.length_replicate]; omega
        have HS2 := Lib.hid hS2
        clear hD2 hS2 hDs t0 t1
        go_wp2_with fail
        go_round
        case rel => exact ⟨j + 1, _, rfl, HD2.out, hn⟩
        case measure => have := HS2.out; have := q1; simp only []; omega
      · have q1 : decide (D.size ≤ k) = false := decide_eq_false hle
        have q2 : decide ((D.size : Int) ≤ (k : Int)) = false := decide_eq_false (by omega)
        have hjj : j = k + 1 - t.length := by omega
        have hDy : D = y := by rw [HD.out, HY.out, hjj]
        have HDY := Lib.hid hDy
        have hpp := HP.out
        have hDy2 : D.size = y.size := by rw [hDy]
        have hp1 : (D.size : Int) - (k : Int) = (pt : Int) := by omega
        have j4 : (0 : Int) ≤ (pt : Int) := by omega
        have j5 : (pt : Int) ≤ (D.size : Int) := by omega
        clear hDs t0 t1 hjj hDy hpp hDy2
        cases z
        · go_wp2_with fail
          go_ret
          exact ⟨by rw [HR.out, ← HDY.out]; rfl, HT.out⟩
        · go_wp2_with fail
          go_quiet (fail)
          go_wp2
          go_ret
          exact ⟨by rw [HR.out, ← HDY.out]; rfl, HT.out.drewN nq⟩

theorem rstring_any (u : Int) (s : ByteArray) (hu : I64 u) (w : World) : Calls Tryz.prog 26 #[.agg #[.int .i64 u, .string s]] w fun r w' => r = .returned (.string (mtxt (strL u s))) ∧ Only w w' := by
  have C := check_any u s
  by_cases hc : curE u s = 0
  · rw [hc] at C
    have hkn := curE_known hc
    have hbd := curE_bd hc
    have hs3 := fK_known hkn
    have hr := fK_range s
    have hsc : scI s = fK s := by
      unfold scI fK
      cases h : curOf s with
      | none => rw [h] at hkn; cases hkn
      | some k => rfl
    obtain ⟨k, hk⟩ : ∃ k : Nat, k = (fK s).toNat := ⟨_, rfl⟩
    have hkk : fK s = (k : Int) := by omega
    have SC := fun W => scale_any s W
    rw [hsc, hkk] at SC
    have ltxt := text_len hbd
    have hne := natText_ne u.natAbs
    have hpos : 0 < (natText u.natAbs).length := List.length_pos_iff.2 hne
    have hD : strD u k = List.replicate (k + 1 - (natText u.natAbs).length) 48 ++ natText u.natAbs := rfl
    have hlD := strD_len u k
    have hl2 : (intText u).length = (if u < 0 then 1 else 0) + (natText u.natAbs).length := by unfold intText; split <;> simp <;> omega
    have hx0 : 0 < (mtxt (intText u)).size := by rw [mtxt_sz]; omega
    have G := rstring_good (R := mtxt (strL u s)) (k := k) (t := natText u.natAbs) (x := mtxt (intText u)) (b := decide (u < 0)) (z := decide (0 < k)) (y := mtxt (strD u k)) (pt := (strD u k).length - k) C (by omega) (by omega) (fun W => bigOf_any hu.1 hu.2 W)
      (fun W b sp n c r => bigText_any r ((Lim.of_i64 hu).mono (by omega))) SC hx0 (by rw [mtxt_sz, hl2]; split <;> omega) (by omega) hpos ?_ ?_ rfl (by rw [hD]) (by rw [mtxt_sz]; omega) ?_ w
    · exact G
    · have e0 : (mtxt (intText u))[0]'hx0 = (intText u)[0]'(by rw [mtxt_sz] at hx0; exact hx0) := rfl
      rw [e0]
      obtain ⟨x, r, hx, hx45⟩ := natText_digit u.natAbs
      by_cases hn : u < 0
      · have e1 : intText u = 45 :: natText u.natAbs := by unfold intText; rw [if_pos hn]; rfl
        simp only [e1, List.getElem_cons_zero, hn, decide_true]
        decide
      · have e1 : intText u = x :: r := by unfold intText; rw [if_neg hn, hx]; rfl
        simp only [e1, List.getElem_cons_zero, hn, decide_false]
        rw [beq_eq_false_iff_ne]
        intro e
        exact hx45 (UInt8.toNat_inj.1 (by have : (45 : UInt8).toNat = 45 := rfl; omega))
    · by_cases hn : u < 0
      · have e1 : intText u = 45 :: natText u.natAbs := by unfold intText; rw [if_pos hn]; rfl
        rw [if_pos (by simpa using hn), e1, extract_mtxt, mtxt_sz]
        simp
      · have e1 : intText u = natText u.natAbs := by unfold intText; rw [if_neg hn]; rfl
        rw [if_neg (by simpa using hn), e1]
    · rw [strL_is hc, ← hk]
      have eW : (mtxt (strD u k)).extract 0 ((strD u k).length - k) = mtxt (strW u k) := by rw [extract_mtxt]; unfold strW; simp
      have eF : (mtxt (strD u k)).extract ((strD u k).length - k) (mtxt (strD u k)).size = mtxt (strF u k) := by
        rw [extract_mtxt, mtxt_sz]; unfold strF
        rw [List.take_of_length_le (by rw [List.length_drop]; exact Nat.le_refl _)]
      rw [eW, eF, show (⟨#[45]⟩ : ByteArray) = mtxt [45] from rfl, show (⟨#[46]⟩ : ByteArray) = mtxt [46] from rfl, show (⟨#[32]⟩ : ByteArray) = mtxt [32] from rfl, show (⟨#[]⟩ : ByteArray) = mtxt [] from rfl]
      have hsW : k = 0 → strD u k = strW u k := fun h0 => by unfold strW; rw [h0, Nat.sub_zero, List.take_of_length_le (Nat.le_refl _)]
      unfold strA
      by_cases hn : u < 0 <;> by_cases hk0 : 0 < k
      · simp only [hn, hk0, decide_true, if_true, mtxt_app_r]
        congr 1; simp
      · have := hsW (by omega)
        simp only [hn, hk0, decide_true, decide_false, if_true, if_false, Bool.false_eq_true, mtxt_app_r]
        rw [this]
        congr 1; simp
      · simp only [hn, hk0, decide_true, decide_false, if_true, if_false, Bool.false_eq_true, mtxt_app_r]
        congr 1; simp
      · have := hsW (by omega)
        simp only [hn, hk0, decide_false, if_false, Bool.false_eq_true, mtxt_app_r]
        rw [this]
        congr 1; simp
  · have e1 : strL u s = [] := by unfold strL; rw [if_neg hc]
    rw [e1]
    exact rstring_bad C (by simpa using hc) (by simpa using hc) w
end Go.Proofs.YtfjemldilnaggaaGreatDoor
