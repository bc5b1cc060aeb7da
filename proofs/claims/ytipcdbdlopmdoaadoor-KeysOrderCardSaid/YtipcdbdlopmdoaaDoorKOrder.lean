/-
  KeysOrder: keys' bytes stand in the order of their parts.
-/
import Derived.Test.YtipcdbdlopmdoaaDoorKBack
import Derived.Test.YtipcdbdlopmdoaaDoorKOpen
namespace Go.Proofs.YtipcdbdlopmdoaaDoor
open Go.RowKit Go.Maps Go.WideMaps Go.Shelf
set_option linter.unusedVariables false
set_option linter.unusedSimpArgs false

theorem plainP_ok {p : KP} (h : KOk p) (hk : kindOk p = true) : KOk (plainP p) := by
  unfold plainP
  split
  · exact ⟨by simp, by simp, h.n, by simp⟩
  · exact ⟨by simp, by simp, ⟨by simp, by simp⟩, h.s⟩

theorem toList_k (l : List UInt8) : (ktxt l).toList = l := by rw [Lib.toList_data]

set_option maxRecDepth 100000 in
set_option maxHeartbeats 6400000 in
theorem keysOrder_any {w : World} {vl vm : Value} {l m : List KP} (hl : PartsR w vl l) (hm : PartsR w vm m) (kl : l.length ≤ 9223372036854775807) (km : m.length ≤ 9223372036854775807) (il : ∀ x ∈ l, KIn x) (im : ∀ x ∈ m, KIn x) (hM : MaxAt w) :
    Calls Tryd.prog 3 #[vl, vm] w fun e w' => e = .returned (.bool true) ∧ Only w w' := by
  have F := first8_any hM
  have HL := Lib.hid hl
  have HM := Lib.hid hm
  have HX := Lib.hid hM
  have IL := Lib.hid il
  have IM := Lib.hid im
  clear hl hm hM il im
  go_enter Tryd.func3, Tryd.ntmps3
  go_wp2_with (go_at_call 7; refine F.mono ?_; rintro r w1 ⟨rfl, t1⟩)
  refine (few8_any (HL.out.only t1) kl (fun x hx => (IL.out x hx).s)).mono ?_
  rintro r w2 ⟨⟨b, rfl, hb⟩, rfl⟩
  cases b
  · clear hb
    go_wp2_with fail
    go_ret
    exact ⟨rfl, t1⟩
  · obtain ⟨l10, l300⟩ := hb rfl
    go_wp2_with fail
    refine (few8_any (HM.out.only t1) km (fun x hx => (IM.out x hx).s)).mono ?_
    rintro r w2 ⟨⟨b, rfl, hb⟩, rfl⟩
    cases b
    · clear hb
      go_wp2_with fail
      go_ret
      exact ⟨rfl, t1⟩
    · obtain ⟨m10, m300⟩ := hb rfl
      have okl : ∀ x ∈ l, KOk x := fun x hx => (IL.out x hx).ok (l300 x hx)
      have okm : ∀ x ∈ m, KOk x := fun x hx => (IM.out x hx).ok (m300 x hx)
      have EL := Lib.hid (fun (W : World) (t : Only w W) => encode_any (HL.out.only t) (by omega) okl (HX.out.only t))
      have EM := Lib.hid (fun (W : World) (t : Only w W) => encode_any (HM.out.only t) (by omega) okm (HX.out.only t))
      have T1 := Lib.hid t1
      have OKL := Lib.hid okl
      have OKM := Lib.hid okm
      clear t1 l300 m300 kl km okl okm hb
      go_wp2_with fail
      refine (EL.out _ T1.out).mono ?_
      rintro r w3 ⟨rfl, t3⟩
      have T3 := Lib.hid (T1.out.trans t3)
      clear t3
      go_wp2_with fail
      refine (EM.out _ T3.out).mono ?_
      rintro r w4 ⟨rfl, t4⟩
      have T4 := Lib.hid (T3.out.trans t4)
      clear t4
      by_cases e1 : errE l = 0
      · by_cases e2 : errE m = 0
        · obtain ⟨l8, lk, l200⟩ := errE_zero e1
          obtain ⟨m8, mk, m200⟩ := errE_zero e2
          have nl : ∀ x ∈ l, numOk x := fun x hx => (OKL.out x hx).n
          have nm : ∀ x ∈ m, numOk x := fun x hx => (OKM.out x hx).n
          have hcb := cmpB_encL l m lk mk nl nm
          have hkl : keyE l = encL l := by unfold keyE; rw [if_pos e1]
          have hkm : keyE m = encL m := by unfold keyE; rw [if_pos e2]
          have hneg := cmpL_neg l m
          have hself := cmpL_self l
          have hdec : decE (encL l) = some (l.map plainP) := decE_keyE e1 nl
          have hpl := cmpL_plain l lk
          have okp : ∀ x ∈ l.map plainP, KOk x := fun x hx => by
            obtain ⟨y, hy, rfl⟩ := List.mem_map.1 hx
            exact plainP_ok (OKL.out y hy) (List.all_eq_true.1 lk y hy)
          have CLM := Lib.hid (fun (W : World) (t : Only w W) => compareK_any (HL.out.only t) (HM.out.only t) (by omega) (by omega) OKL.out)
          have CML := fun (W : World) (t : Only w W) => compareK_any (HM.out.only t) (HL.out.only t) (by omega) (by omega) OKM.out
          have CLL := fun (W : World) (t : Only w W) => compareK_any (HL.out.only t) (HL.out.only t) (by omega) (by omega) OKL.out
          rw [hneg] at CML
          rw [hself] at CLL
          have CML := Lib.hid CML
          have CLL := Lib.hid CLL
          have CDL := fun (W : World) (v : Value) (hv : PartsR W v (l.map plainP)) (t : Only w W) => compareK_any hv (HL.out.only t) (by simp; omega) (by omega) okp
          rw [hpl] at CDL
          have CDL := Lib.hid CDL
          have DD := fun (W : World) (t : Only w W) => decode_any (D := ktxt (encL l)) (by rw [ktxt_size]; omega) (HX.out.only t)
          rw [show (ktxt (encL l)).data.toList = encL l from rfl, hdec] at DD
          have DD := Lib.hid DD
          rw [e1, e2, hkl, hkm]
          obtain ⟨A, hA⟩ : ∃ A, A = encL l := ⟨_, rfl⟩
          obtain ⟨B, hB⟩ : ∃ B, B = encL m := ⟨_, rfl⟩
          obtain ⟨c, hc⟩ : ∃ c, c = cmpL l m := ⟨_, rfl⟩
          rw [← hA, ← hB, ← hc] at hcb
          rw [← hc] at CLM CML
          rw [← hA] at DD
          rw [← hA, ← hB]
          have hrange := cmpB_range A B
          rw [hcb] at hrange
          have hle1 := less_cmpB A B
          have hle2 := less_cmpB B A
          rw [cmpB_neg A B] at hle2
          rw [hcb] at hle1 hle2
          obtain ⟨spl, cal, evl, -⟩ := HL.out
          subst evl
          clear hA hB hc hkl hkm hneg hself hdec hpl okp nl nm lk mk l200 m200 e1 e2 EL EM l10 m10 F T1 T3
          rcases hrange with rfl | rfl | rfl
          · have j1 : Op.bytesLess A B = true := hle1
            have j2 : Op.bytesLess B A = false := hle2
            simp only [Int.neg_neg] at CML
            clear hle1 hle2 hcb
            go_wp2_with (first | (go_at_call 10; refine (num8_any _ _).mono ?_; rintro r w9 ⟨rfl, rfl⟩) | (go_at_call 11; with_reducible refine (CLM.out _ T4.out).mono ?_; rintro r w5 ⟨rfl, t5⟩; have T5 := Lib.hid (T4.out.trans t5); clear t5))
            refine (DD.out _ T5.out).mono ?_
            rintro r w6 ⟨t6, v, rfl, hv⟩
            obtain ⟨sp, cap, rfl⟩ := hv.form
            have hln : (l.map plainP).length = l.length := List.length_map _
            have HV := Lib.hid hv.toR
            have T6 := Lib.hid (T5.out.trans t6)
            rw [hln] at HV ⊢
            clear hv t6 hln
            go_wp2_with (first | (go_at_call 10; refine (num8_any _ _).mono ?_; rintro r w9 ⟨rfl, rfl⟩))
            refine (CDL.out _ _ HV.out T6.out).mono ?_
            rintro r w7 ⟨rfl, t7⟩
            have T7 := Lib.hid (T6.out.trans t7)
            clear t7
            go_wp2_with fail
            refine (CML.out _ T7.out).mono ?_
            rintro r w8 ⟨rfl, t8⟩
            have T8 := Lib.hid (T7.out.trans t8)
            clear t8
            go_wp2_with fail
            refine (CLL.out _ T8.out).mono ?_
            rintro r w9 ⟨rfl, t9⟩
            have T9 := Lib.hid (T8.out.trans t9)
            clear t9
            go_wp2_with fail
            go_ret
            exact ⟨rfl, T9.out⟩
          · have hab := cmpB_eq hcb
            subst hab
            have j1 : Op.bytesLess A A = false := hle1
            simp only [Int.neg_zero] at CML
            clear hle1 hle2 hcb
            go_wp2_with (first | (go_at_call 10; refine (num8_any _ _).mono ?_; rintro r w9 ⟨rfl, rfl⟩) | (go_at_call 11; with_reducible refine (CLM.out _ T4.out).mono ?_; rintro r w5 ⟨rfl, t5⟩; have T5 := Lib.hid (T4.out.trans t5); clear t5))
            refine (DD.out _ T5.out).mono ?_
            rintro r w6 ⟨t6, v, rfl, hv⟩
            obtain ⟨sp, cap, rfl⟩ := hv.form
            have hln : (l.map plainP).length = l.length := List.length_map _
            have HV := Lib.hid hv.toR
            have T6 := Lib.hid (T5.out.trans t6)
            rw [hln] at HV ⊢
            clear hv t6 hln
            go_wp2_with (first | (go_at_call 10; refine (num8_any _ _).mono ?_; rintro r w9 ⟨rfl, rfl⟩))
            refine (CDL.out _ _ HV.out T6.out).mono ?_
            rintro r w7 ⟨rfl, t7⟩
            have T7 := Lib.hid (T6.out.trans t7)
            clear t7
            go_wp2_with fail
            refine (CML.out _ T7.out).mono ?_
            rintro r w8 ⟨rfl, t8⟩
            have T8 := Lib.hid (T7.out.trans t8)
            clear t8
            go_wp2_with fail
            refine (CLL.out _ T8.out).mono ?_
            rintro r w9 ⟨rfl, t9⟩
            have T9 := Lib.hid (T8.out.trans t9)
            clear t9
            go_wp2_with fail
            go_ret
            exact ⟨rfl, T9.out⟩
          · have j1 : Op.bytesLess A B = false := hle1
            have j2 : Op.bytesLess B A = true := hle2
            have j3 : ¬ A = B := fun e => by rw [e, cmpB_self] at hcb; omega
            have j4 : (A == B) = false := by rw [beq_eq_false_iff_ne]; exact j3
            clear hle1 hle2 hcb
            go_wp2_with (first | (go_at_call 10; refine (num8_any _ _).mono ?_; rintro r w9 ⟨rfl, rfl⟩) | (go_at_call 11; with_reducible refine (CLM.out _ T4.out).mono ?_; rintro r w5 ⟨rfl, t5⟩; have T5 := Lib.hid (T4.out.trans t5); clear t5))
            refine (DD.out _ T5.out).mono ?_
            rintro r w6 ⟨t6, v, rfl, hv⟩
            obtain ⟨sp, cap, rfl⟩ := hv.form
            have hln : (l.map plainP).length = l.length := List.length_map _
            have HV := Lib.hid hv.toR
            have T6 := Lib.hid (T5.out.trans t6)
            rw [hln] at HV ⊢
            clear hv t6 hln
            go_wp2_with (first | (go_at_call 10; refine (num8_any _ _).mono ?_; rintro r w9 ⟨rfl, rfl⟩))
            refine (CDL.out _ _ HV.out T6.out).mono ?_
            rintro r w7 ⟨rfl, t7⟩
            have T7 := Lib.hid (T6.out.trans t7)
            clear t7
            go_wp2_with fail
            refine (CML.out _ T7.out).mono ?_
            rintro r w8 ⟨rfl, t8⟩
            have T8 := Lib.hid (T7.out.trans t8)
            clear t8
            go_wp2_with fail
            refine (CLL.out _ T8.out).mono ?_
            rintro r w9 ⟨rfl, t9⟩
            have T9 := Lib.hid (T8.out.trans t9)
            clear t9
            go_wp2_with fail
            go_ret
            exact ⟨rfl, T9.out⟩
        · have i1 : (errE l == 0) = true := by rw [beq_iff_eq]; exact e1
          have i3 : (errE l != 0) = false := by simp [e1]
          have i2 : (errE m == 0) = false := by rw [beq_eq_false_iff_ne]; exact e2
          have i4 : (errE m != 0) = true := by rw [bne_iff_ne]; exact e2
          clear e1 e2
          go_wp2_with (first | (go_at_call 10; refine (num8_any _ _).mono ?_; rintro r w9 ⟨rfl, rfl⟩))
          go_ret
          exact ⟨rfl, T4.out⟩
      · have i1 : (errE l == 0) = false := by rw [beq_eq_false_iff_ne]; exact e1
        have i2 : (errE l != 0) = true := by rw [bne_iff_ne]; exact e1
        clear e1
        go_wp2_with (first | (go_at_call 10; refine (num8_any _ _).mono ?_; rintro r w9 ⟨rfl, rfl⟩))
        go_ret
        exact ⟨rfl, T4.out⟩
end Go.Proofs.YtipcdbdlopmdoaaDoor
