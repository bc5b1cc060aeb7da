/-
  MoneyTexts: the walk.
-/
import Derived.Test.YtfjemldilnaggaaGreatDoorMSmall
import Derived.Test.YtfjemldilnaggaaGreatDoorMRStr
import Derived.Test.YtfjemldilnaggaaGreatDoorGTl
import Derived.Deep.DeepCutAuto
namespace Go.Proofs.YtfjemldilnaggaaGreatDoor
open Go.RowKit Go.Shelf Go.Maps Go.WideMaps
set_option linter.unusedVariables false
set_option linter.unusedSimpArgs false

theorem scaleM_any (s : ByteArray) (w : World) : Calls Tryz.prog 19 #[.string s] w fun e w' => e = .returned (.tuple #[.int .i64 (fK s), .int .i64 (fE s)]) ∧ Only w w' := by
  have F := Lib.hid (find_any s)
  obtain ⟨k, hk⟩ : ∃ k, k = fK s := ⟨_, rfl⟩
  obtain ⟨e, he⟩ : ∃ e, e = fE s := ⟨_, rfl⟩
  obtain ⟨c, hc⟩ : ∃ c, c = okS (fE s) s := ⟨_, rfl⟩
  rw [← hc, ← hk, ← he] at F
  rw [← hk, ← he]
  clear hk he hc
  go_enter Tryz.func19, Tryz.ntmps19
  go_wp2_with fail
  go_at_call 43
  refine (F.out _).mono ?_
  rintro r w1 ⟨rfl, t1⟩
  have HT := Lib.hid (t1.alloc (.cells #[.string c, .int .i64 k] 45))
  have o := Own2.new w1 (.string c) (.int .i64 k) 45
  obtain ⟨x1, x2, -, -, x3⟩ := o.all
  clear t1 o
  go_wp2_with fail
  go_ret2
  exact ⟨rfl, HT.out⟩

set_option maxRecDepth 100000 in
theorem texts_out0 {u : Int} {s q : ByteArray} {w : World} (FM : FirstM w) (h0 : (200 : Int) < (q.size : Int)) : Calls Tryz.prog 4 #[.agg #[.int .i64 u, .string s], .string q] w fun e w' => e = .returned (.bool true) ∧ Only w w' := by
  have FM := Lib.hid FM
  have oa := Own2.new w (.int .i64 u) (.string s) 23
  have ht := (Only.refl w).alloc (.cells #[.int .i64 u, .string s] 23)
  go_enter Tryz.func4, Tryz.ntmps4
  go_wp2_with fail
  go_at_call 7
  refine (FM.out _ ht).mono ?_
  rintro r w1 ⟨rfl, t1⟩
  replace oa := oa.only t1
  replace ht := ht.trans t1
  obtain ⟨ca1, ca2, -, -, za⟩ := oa.all
  clear t1
  go_wp2
  go_ret
  exact ⟨rfl, ht⟩

set_option maxRecDepth 100000 in
theorem texts_out1 {u : Int} {s q : ByteArray} {w : World} (FM : FirstM w) (h0 : (q.size : Int) ≤ 200) (h1 : (200 : Int) < (s.size : Int)) : Calls Tryz.prog 4 #[.agg #[.int .i64 u, .string s], .string q] w fun e w' => e = .returned (.bool true) ∧ Only w w' := by
  have FM := Lib.hid FM
  have oa := Own2.new w (.int .i64 u) (.string s) 23
  have ht := (Only.refl w).alloc (.cells #[.int .i64 u, .string s] 23)
  go_enter Tryz.func4, Tryz.ntmps4
  go_wp2_with fail
  go_at_call 7
  refine (FM.out _ ht).mono ?_
  rintro r w1 ⟨rfl, t1⟩
  replace oa := oa.only t1
  replace ht := ht.trans t1
  obtain ⟨ca1, ca2, -, -, za⟩ := oa.all
  clear t1
  go_wp2
  go_ret
  exact ⟨rfl, ht⟩

set_option maxRecDepth 100000 in
set_option maxHeartbeats 16000000 in
theorem texts_walk {u kk ee m n1 e1 N f : Int} {s q c1 c x : ByteArray} {w : World} (FM : FirstM w) (h0 : (q.size : Int) ≤ 200) (h1 : (s.size : Int) ≤ 200)
    (SM : ∀ W, Calls Tryz.prog 19 #[.string s] W fun e w' => e = .returned (.tuple #[.int .i64 kk, .int .i64 ee]) ∧ Only W w') (RS : ∀ W, Calls Tryz.prog 18 #[.string s] W fun e w' => e = .returned (.int .i64 m) ∧ Only W w')
    (hone : (0 ≤ m ∧ kk = m ∧ ee = 0) ∨ (m < 0 ∧ kk = 0 ∧ ee = 18))
    (NW : AnsIs 20 #[.int .i64 u, .string s] n1 c1 e1) (CK : ChkIs u s e1) (htwo : (e1 = 0 ∧ n1 = u ∧ c1 = s) ∨ (e1 ≠ 0 ∧ n1 = 0 ∧ c1 = ⟨#[]⟩))
    (P1 : AnsIs 23 #[.string q] N c f) (P2 : AnsIs 24 #[.string q] N c f)
    (ST : ∀ W, Only w W → Calls Tryz.prog 25 #[.agg #[.int .i64 u, .string s]] W fun r w' => r = .returned (.string x) ∧ Only W w') (RT : ∀ W, Calls Tryz.prog 26 #[.agg #[.int .i64 u, .string s]] W fun r w' => r = .returned (.string x) ∧ Only W w') :
    Calls Tryz.prog 4 #[.agg #[.int .i64 u, .string s], .string q] w fun e w' => e = .returned (.bool true) ∧ Only w w' := by
  have SM := Lib.hid SM
  have RS := Lib.hid RS
  have HONE := Lib.hid hone
  have NW := Lib.hid NW
  have CK := Lib.hid CK
  have HTWO := Lib.hid htwo
  have P1 := Lib.hid P1
  have P2 := Lib.hid P2
  have ST := Lib.hid ST
  have RT := Lib.hid RT
  clear hone htwo
  have FM := Lib.hid FM
  have oa := Own2.new w (.int .i64 u) (.string s) 23
  have ht := (Only.refl w).alloc (.cells #[.int .i64 u, .string s] 23)
  go_enter Tryz.func4, Tryz.ntmps4
  go_wp2_with fail
  go_at_call 7
  refine (FM.out _ ht).mono ?_
  rintro r w1 ⟨rfl, t1⟩
  replace oa := oa.only t1
  replace ht := ht.trans t1
  obtain ⟨ca1, ca2, -, -, za⟩ := oa.all
  clear t1
  go_wp2_with fail
  go_at_call 16
  refine (currencies_any _).mono ?_
  rintro r w2 ⟨rfl, L2, t2⟩
  replace oa := oa.only t2
  replace ht := ht.trans t2
  clear ca1 ca2 za t2
  go_wp2_with fail
  go_at_call 17
  refine (codes_any _).mono ?_
  rintro r w3 ⟨rfl, L3, t3⟩
  replace oa := oa.only t3
  replace ht := ht.trans t3
  replace L2 := L2.only t3
  clear t3
  have HL2 := Lib.hid L2
  have HL3 := Lib.hid L3
  have HOA := Lib.hid oa
  have HHT := Lib.hid ht
  clear L2 L3 oa ht
  go_wp2_with fail
  go_loopw [8] (fun i wr => ∃ k : Int, 0 ≤ k ∧ k ≤ 6 ∧ i = .int .i64 k ∧ Only w3 wr) (fun i _ => 6 - (intOf i).toNat)
  case atStart => exact ⟨0, by omega, by omega, rfl, Only.refl _⟩
  case round =>
    obtain ⟨k, hk0, hk, rfl, hT⟩ := hrel
    have C2 := HL2.out.only hT
    have C3 := HL3.out.only hT
    rcases (by omega : k = 0 ∨ k = 1 ∨ k = 2 ∨ k = 3 ∨ k = 4 ∨ k = 5 ∨ k = 6) with rfl | rfl | rfl | rfl | rfl | rfl | rfl
    · as_aux_lemma =>
        clear hk0 hk
        go_upto_region 11 with (fail)
        refine wp_name (fun wx => CurL wx w1.heap.size ∧ BlkIs wx w2.heap.size codeCells ∧ Only w3 wx) ⟨C2, C3, hT⟩ ?_
        clear C2 C3 hT
        rintro wx ⟨C2, C3, hT⟩
        have f1 : ∀ n : Cone wx, n.out.cell? ⟨w1.heap.size, 0, none⟩ = some (.string ⟨#[67, 72, 70]⟩) := fun n => (C2.only n.only).cell 0 _ rfl
        have f2 : ∀ n : Cone wx, n.out.cell? ⟨w1.heap.size, 1, none⟩ = some (.int .i64 2) := fun n => (C2.only n.only).cell 1 _ rfl
        have f3 : ∀ n : Cone wx, n.out.cell? ⟨w2.heap.size, 0, none⟩ = some (.string ⟨#[67, 72, 70]⟩) := fun n => (C3.only n.only).cell 0 _ rfl
        have SS : ∀ n : Cone wx, Calls Tryz.prog 18 #[.string ⟨#[67, 72, 70]⟩] n.out fun r w' => r = .returned (.int .i64 2) ∧ Only n.out w' := fun n => scale_any ⟨#[67, 72, 70]⟩ n.out
        refine wp_region_cone (by kernel_rfl) (by kernel_rfl) ?_
        repeat (any_goals (first | go_big_quiet_step ((go_at_call 18; with_reducible exact Cone.call (SS _))) | quiet_step ((go_at_call 18; with_reducible exact Cone.call (SS _)))))
        refine wpQuiet_nil ?_
        rintro w6 ⟨⟨_, t6⟩, rfl⟩
        have hT6 := Lib.hid (hT.trans t6)
        clear f1 f2 f3 SS C2 C3 t6 hT
        go_wp2_with fail
        go_roundw
        case rel => exact ⟨1, by omega, by omega, rfl, hT6.out⟩
        case measure => simp [intOf]
    · as_aux_lemma =>
        clear hk0 hk
        go_upto_region 11 with (fail)
        refine wp_name (fun wx => CurL wx w1.heap.size ∧ BlkIs wx w2.heap.size codeCells ∧ Only w3 wx) ⟨C2, C3, hT⟩ ?_
        clear C2 C3 hT
        rintro wx ⟨C2, C3, hT⟩
        have f1 : ∀ n : Cone wx, n.out.cell? ⟨w1.heap.size, 2, none⟩ = some (.string ⟨#[69, 85, 82]⟩) := fun n => (C2.only n.only).cell 2 _ rfl
        have f2 : ∀ n : Cone wx, n.out.cell? ⟨w1.heap.size, 3, none⟩ = some (.int .i64 2) := fun n => (C2.only n.only).cell 3 _ rfl
        have f3 : ∀ n : Cone wx, n.out.cell? ⟨w2.heap.size, 1, none⟩ = some (.string ⟨#[69, 85, 82]⟩) := fun n => (C3.only n.only).cell 1 _ rfl
        have SS : ∀ n : Cone wx, Calls Tryz.prog 18 #[.string ⟨#[69, 85, 82]⟩] n.out fun r w' => r = .returned (.int .i64 2) ∧ Only n.out w' := fun n => scale_any ⟨#[69, 85, 82]⟩ n.out
        refine wp_region_cone (by kernel_rfl) (by kernel_rfl) ?_
        repeat (any_goals (first | go_big_quiet_step ((go_at_call 18; with_reducible exact Cone.call (SS _))) | quiet_step ((go_at_call 18; with_reducible exact Cone.call (SS _)))))
        refine wpQuiet_nil ?_
        rintro w6 ⟨⟨_, t6⟩, rfl⟩
        have hT6 := Lib.hid (hT.trans t6)
        clear f1 f2 f3 SS C2 C3 t6 hT
        go_wp2_with fail
        go_roundw
        case rel => exact ⟨2, by omega, by omega, rfl, hT6.out⟩
        case measure => simp [intOf]
    · as_aux_lemma =>
        clear hk0 hk
        go_upto_region 11 with (fail)
        refine wp_name (fun wx => CurL wx w1.heap.size ∧ BlkIs wx w2.heap.size codeCells ∧ Only w3 wx) ⟨C2, C3, hT⟩ ?_
        clear C2 C3 hT
        rintro wx ⟨C2, C3, hT⟩
        have f1 : ∀ n : Cone wx, n.out.cell? ⟨w1.heap.size, 4, none⟩ = some (.string ⟨#[71, 66, 80]⟩) := fun n => (C2.only n.only).cell 4 _ rfl
        have f2 : ∀ n : Cone wx, n.out.cell? ⟨w1.heap.size, 5, none⟩ = some (.int .i64 2) := fun n => (C2.only n.only).cell 5 _ rfl
        have f3 : ∀ n : Cone wx, n.out.cell? ⟨w2.heap.size, 2, none⟩ = some (.string ⟨#[71, 66, 80]⟩) := fun n => (C3.only n.only).cell 2 _ rfl
        have SS : ∀ n : Cone wx, Calls Tryz.prog 18 #[.string ⟨#[71, 66, 80]⟩] n.out fun r w' => r = .returned (.int .i64 2) ∧ Only n.out w' := fun n => scale_any ⟨#[71, 66, 80]⟩ n.out
        refine wp_region_cone (by kernel_rfl) (by kernel_rfl) ?_
        repeat (any_goals (first | go_big_quiet_step ((go_at_call 18; with_reducible exact Cone.call (SS _))) | quiet_step ((go_at_call 18; with_reducible exact Cone.call (SS _)))))
        refine wpQuiet_nil ?_
        rintro w6 ⟨⟨_, t6⟩, rfl⟩
        have hT6 := Lib.hid (hT.trans t6)
        clear f1 f2 f3 SS C2 C3 t6 hT
        go_wp2_with fail
        go_roundw
        case rel => exact ⟨3, by omega, by omega, rfl, hT6.out⟩
        case measure => simp [intOf]
    · as_aux_lemma =>
        clear hk0 hk
        go_upto_region 11 with (fail)
        refine wp_name (fun wx => CurL wx w1.heap.size ∧ BlkIs wx w2.heap.size codeCells ∧ Only w3 wx) ⟨C2, C3, hT⟩ ?_
        clear C2 C3 hT
        rintro wx ⟨C2, C3, hT⟩
        have f1 : ∀ n : Cone wx, n.out.cell? ⟨w1.heap.size, 6, none⟩ = some (.string ⟨#[74, 80, 89]⟩) := fun n => (C2.only n.only).cell 6 _ rfl
        have f2 : ∀ n : Cone wx, n.out.cell? ⟨w1.heap.size, 7, none⟩ = some (.int .i64 0) := fun n => (C2.only n.only).cell 7 _ rfl
        have f3 : ∀ n : Cone wx, n.out.cell? ⟨w2.heap.size, 3, none⟩ = some (.string ⟨#[74, 80, 89]⟩) := fun n => (C3.only n.only).cell 3 _ rfl
        have SS : ∀ n : Cone wx, Calls Tryz.prog 18 #[.string ⟨#[74, 80, 89]⟩] n.out fun r w' => r = .returned (.int .i64 0) ∧ Only n.out w' := fun n => scale_any ⟨#[74, 80, 89]⟩ n.out
        refine wp_region_cone (by kernel_rfl) (by kernel_rfl) ?_
        repeat (any_goals (first | go_big_quiet_step ((go_at_call 18; with_reducible exact Cone.call (SS _))) | quiet_step ((go_at_call 18; with_reducible exact Cone.call (SS _)))))
        refine wpQuiet_nil ?_
        rintro w6 ⟨⟨_, t6⟩, rfl⟩
        have hT6 := Lib.hid (hT.trans t6)
        clear f1 f2 f3 SS C2 C3 t6 hT
        go_wp2_with fail
        go_roundw
        case rel => exact ⟨4, by omega, by omega, rfl, hT6.out⟩
        case measure => simp [intOf]
    · as_aux_lemma =>
        clear hk0 hk
        go_upto_region 11 with (fail)
        refine wp_name (fun wx => CurL wx w1.heap.size ∧ BlkIs wx w2.heap.size codeCells ∧ Only w3 wx) ⟨C2, C3, hT⟩ ?_
        clear C2 C3 hT
        rintro wx ⟨C2, C3, hT⟩
        have f1 : ∀ n : Cone wx, n.out.cell? ⟨w1.heap.size, 8, none⟩ = some (.string ⟨#[75, 87, 68]⟩) := fun n => (C2.only n.only).cell 8 _ rfl
        have f2 : ∀ n : Cone wx, n.out.cell? ⟨w1.heap.size, 9, none⟩ = some (.int .i64 3) := fun n => (C2.only n.only).cell 9 _ rfl
        have f3 : ∀ n : Cone wx, n.out.cell? ⟨w2.heap.size, 4, none⟩ = some (.string ⟨#[75, 87, 68]⟩) := fun n => (C3.only n.only).cell 4 _ rfl
        have SS : ∀ n : Cone wx, Calls Tryz.prog 18 #[.string ⟨#[75, 87, 68]⟩] n.out fun r w' => r = .returned (.int .i64 3) ∧ Only n.out w' := fun n => scale_any ⟨#[75, 87, 68]⟩ n.out
        refine wp_region_cone (by kernel_rfl) (by kernel_rfl) ?_
        repeat (any_goals (first | go_big_quiet_step ((go_at_call 18; with_reducible exact Cone.call (SS _))) | quiet_step ((go_at_call 18; with_reducible exact Cone.call (SS _)))))
        refine wpQuiet_nil ?_
        rintro w6 ⟨⟨_, t6⟩, rfl⟩
        have hT6 := Lib.hid (hT.trans t6)
        clear f1 f2 f3 SS C2 C3 t6 hT
        go_wp2_with fail
        go_roundw
        case rel => exact ⟨5, by omega, by omega, rfl, hT6.out⟩
        case measure => simp [intOf]
    · as_aux_lemma =>
        clear hk0 hk
        go_upto_region 11 with (fail)
        refine wp_name (fun wx => CurL wx w1.heap.size ∧ BlkIs wx w2.heap.size codeCells ∧ Only w3 wx) ⟨C2, C3, hT⟩ ?_
        clear C2 C3 hT
        rintro wx ⟨C2, C3, hT⟩
        have f1 : ∀ n : Cone wx, n.out.cell? ⟨w1.heap.size, 10, none⟩ = some (.string ⟨#[85, 83, 68]⟩) := fun n => (C2.only n.only).cell 10 _ rfl
        have f2 : ∀ n : Cone wx, n.out.cell? ⟨w1.heap.size, 11, none⟩ = some (.int .i64 2) := fun n => (C2.only n.only).cell 11 _ rfl
        have f3 : ∀ n : Cone wx, n.out.cell? ⟨w2.heap.size, 5, none⟩ = some (.string ⟨#[85, 83, 68]⟩) := fun n => (C3.only n.only).cell 5 _ rfl
        have SS : ∀ n : Cone wx, Calls Tryz.prog 18 #[.string ⟨#[85, 83, 68]⟩] n.out fun r w' => r = .returned (.int .i64 2) ∧ Only n.out w' := fun n => scale_any ⟨#[85, 83, 68]⟩ n.out
        refine wp_region_cone (by kernel_rfl) (by kernel_rfl) ?_
        repeat (any_goals (first | go_big_quiet_step ((go_at_call 18; with_reducible exact Cone.call (SS _))) | quiet_step ((go_at_call 18; with_reducible exact Cone.call (SS _)))))
        refine wpQuiet_nil ?_
        rintro w6 ⟨⟨_, t6⟩, rfl⟩
        have hT6 := Lib.hid (hT.trans t6)
        clear f1 f2 f3 SS C2 C3 t6 hT
        go_wp2_with fail
        go_roundw
        case rel => exact ⟨6, by omega, by omega, rfl, hT6.out⟩
        case measure => simp [intOf]
    · clear hk0 hk C2 C3
      have oa := HOA.out.only hT
      have ht := HHT.out.trans hT
      clear hT
      obtain ⟨ca1, ca2, -, -, za⟩ := oa.all
      go_wp2_with fail
      go_at_call 19
      refine (SM.out _).mono ?_
      rintro r w4 ⟨rfl, t4⟩
      replace oa := oa.only t4
      replace ht := ht.trans t4
      clear ca1 ca2 za t4
      obtain ⟨ca1, ca2, -, -, za⟩ := oa.all
      go_wp2_with fail
      go_at_call 18
      refine (RS.out _).mono ?_
      rintro r w5 ⟨rfl, t5⟩
      replace oa := oa.only t5
      replace ht := ht.trans t5
      clear ca1 ca2 za t5
      go_upto_region 15 with (fail)
      go_cut [12] (fun z wc => z = .bool true ∧ w5 = wc)
      case first =>
        as_aux_lemma =>
          rcases HONE.out with ⟨hm, rfl, rfl⟩ | ⟨hm, rfl, rfl⟩
          · go_wp2_with (go_at_call 9; refine (numM_any _ _).mono ?_; rintro r wn ⟨rfl, rfl⟩)
            go_meet
            exact ⟨by simp, rfl⟩
          · go_wp2_with (go_at_call 9; refine (numM_any _ _).mono ?_; rintro r wn ⟨rfl, rfl⟩)
            go_meet
            exact ⟨by simp, rfl⟩
      case rest =>
       as_aux_lemma =>
        obtain ⟨rfl, rfl⟩ := hcut
        obtain ⟨ca1, ca2, -, -, za⟩ := oa.all
        go_wp2_with fail
        go_at_call 20
        refine (NW.out _).mono ?_
        rintro r w6 ⟨rfl, t6⟩
        have on := Own2.new w6 (.int .i64 n1) (.string c1) 23
        replace oa := (oa.only t6).alloc (.cells #[.int .i64 n1, .string c1] 23)
        replace ht := (ht.trans t6).alloc (.cells #[.int .i64 n1, .string c1] 23)
        clear ca1 ca2 za t6
        obtain ⟨ca1, ca2, -, -, za⟩ := oa.all
        go_wp2_with fail
        go_at_call 22
        refine (amountR_any _ _ _).mono ?_
        rintro r w7 ⟨rfl, t7⟩
        replace oa := oa.only t7
        replace on := on.only t7
        replace ht := ht.trans t7
        clear ca1 ca2 za t7
        go_wp2_with fail
        go_at_call 21
        refine (CK.out _).mono ?_
        rintro r w8 ⟨rfl, t8⟩
        replace oa := oa.only t8
        replace on := on.only t8
        replace ht := ht.trans t8
        clear t8
        obtain ⟨ca1, ca2, -, -, za⟩ := oa.all
        obtain ⟨cn1, cn2, -, -, zn⟩ := on.all
        go_upto_region 18 with (fail)
        go_cut [16] (fun z wc => z = .bool true ∧ w8 = wc)
        case first =>
          as_aux_lemma =>
            rcases HTWO.out with ⟨rfl, rfl, rfl⟩ | ⟨he, rfl, rfl⟩
            · go_wp2_with (go_at_call 9; refine (numM_any _ _).mono ?_; rintro r wn ⟨rfl, rfl⟩)
              go_meet
              exact ⟨by simp, rfl⟩
            · have q1 : (e1 == 0) = false := by simpa using he
              have q2 : (e1 != 0) = true := by simpa using he
              clear he
              go_wp2_with (go_at_call 9; refine (numM_any _ _).mono ?_; rintro r wn ⟨rfl, rfl⟩)
              go_meet
              exact ⟨by simp, rfl⟩
        case rest =>
         as_aux_lemma =>
          obtain ⟨rfl, rfl⟩ := hcut
          clear ca1 ca2 za cn1 cn2 zn on
          go_wp2_with fail
          go_at_call 23
          refine (P1.out _).mono ?_
          rintro r w9 ⟨rfl, t9⟩
          have op := Own2.new w9 (.int .i64 N) (.string c) 23
          replace oa := (oa.only t9).alloc (.cells #[.int .i64 N, .string c] 23)
          replace ht := (ht.trans t9).alloc (.cells #[.int .i64 N, .string c] 23)
          clear t9
          go_wp2_with fail
          go_at_call 24
          refine (P2.out _).mono ?_
          rintro r w10 ⟨rfl, t10⟩
          have oq := Own2.new w10 (.int .i64 N) (.string c) 51
          replace op := (op.only t10).alloc (.cells #[.int .i64 N, .string c] 51)
          replace oa := (oa.only t10).alloc (.cells #[.int .i64 N, .string c] 51)
          replace ht := (ht.trans t10).alloc (.cells #[.int .i64 N, .string c] 51)
          clear t10
          go_upto_region 21 with (fail)
          refine wp_name (fun wx => Own2 wx w.heap.size (.int .i64 u) (.string s) ∧ Own2 wx w9.heap.size (.int .i64 N) (.string c) ∧ Own2 wx w10.heap.size (.int .i64 N) (.string c) ∧ Only w wx) ⟨oa, op, oq, ht⟩ ?_
          clear oa op oq ht
          rintro wx ⟨oa, op, oq, ht⟩
          obtain ⟨k1, k2⟩ := oa.cone
          obtain ⟨k3, k4⟩ := op.cone
          obtain ⟨k5, k6⟩ := oq.cone
          have A1 : ∀ n : Cone wx, Calls Tryz.prog 25 #[.agg #[.int .i64 u, .string s]] n.out fun r w' => r = .returned (.string x) ∧ Only n.out w' := fun n => ST.out _ (ht.trans n.only)
          have A2 : ∀ n : Cone wx, Calls Tryz.prog 22 #[.agg #[.int .i64 u, .string s]] n.out fun r w' => r = .returned (.agg #[.int .i64 u, .string s]) ∧ Only n.out w' := fun n => amountR_any _ _ _
          have A3 : ∀ n : Cone wx, Calls Tryz.prog 26 #[.agg #[.int .i64 u, .string s]] n.out fun r w' => r = .returned (.string x) ∧ Only n.out w' := fun n => RT.out _
          have A4 : ∀ n : Cone wx, Calls Tryz.prog 27 #[.agg #[.int .i64 N, .string c], .agg #[.int .i64 N, .string c]] n.out fun r w' => r = .returned (.bool true) ∧ Only n.out w' := fun n => same_self _ _ _
          refine wp_region_cone (by kernel_rfl) (by kernel_rfl) ?_
          repeat (any_goals (first | go_big_quiet_step ((first | (go_at_call 9; with_reducible exact Cone.same (numM_any _ _)) | (go_at_call 25; with_reducible exact Cone.call (A1 _)) | (go_at_call 22; with_reducible exact Cone.call (A2 _)) | (go_at_call 26; with_reducible exact Cone.call (A3 _)) | (go_at_call 27; with_reducible exact Cone.call (A4 _)))) | quiet_step ((first | (go_at_call 9; with_reducible exact Cone.same (numM_any _ _)) | (go_at_call 25; with_reducible exact Cone.call (A1 _)) | (go_at_call 22; with_reducible exact Cone.call (A2 _)) | (go_at_call 26; with_reducible exact Cone.call (A3 _)) | (go_at_call 27; with_reducible exact Cone.call (A4 _))))))
          refine wpQuiet_nil ?_
          rintro w11 ⟨⟨_, t11⟩, rfl⟩
          have hfin := ht.trans t11
          clear k1 k2 k3 k4 k5 k6 A1 A2 A3 A4 oa op oq t11
          go_wp2_with fail
          go_ret
          exact ⟨by simp, hfin⟩
end Go.Proofs.YtfjemldilnaggaaGreatDoor
