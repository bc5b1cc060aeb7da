/-
  KeysBytes: any parts are encoded, any key decoded, any two lists compared, as the document says.
-/
import Derived.Test.YtipcdbdlopmdoaaDoorKBack
import Derived.Test.YtipcdbdlopmdoaaDoorKOpen
import Derived.Test.YtipcdbdlopmdoaaDoorKRDec
import Derived.Test.YtipcdbdlopmdoaaDoorKRCmp
namespace Go.Proofs.YtipcdbdlopmdoaaDoor
open Go.RowKit Go.Maps Go.WideMaps Go.Shelf
set_option linter.unusedVariables false
set_option linter.unusedSimpArgs false

def decQ : Option (List KP) → List KP
  | none => []
  | some l => l
def decG : Option (List KP) → Int
  | none => 10
  | some _ => 0

theorem partsR_none (w : World) : PartsR w (.slice none 0 0) [] := ⟨.none, 0, rfl, fun h => by simp at h⟩

theorem decU_any {D : ByteArray} (hd : D.size ≤ 2000) {w : World} (hm : MaxAt w) : Calls Tryd.prog 12 #[.string D] w fun e w' => ∃ v, e = .returned (.tuple #[v, .int .i64 (decG (decE D.data.toList))]) ∧ PartsR w' v (decQ (decE D.data.toList)) ∧ Only w w' := by
  refine (decode_any (D := D) (by omega) hm).mono fun e w' h => ?_
  cases hx : decE D.data.toList with
  | none => rw [hx] at h; exact ⟨_, h.2, partsR_none _, h.1⟩
  | some l => rw [hx] at h; obtain ⟨t, v, e1, hv⟩ := h; exact ⟨v, e1, hv.toR, t⟩
theorem rdecU_any {D : ByteArray} (hd : D.size ≤ 2000) (w : World) : Calls Tryd.prog 15 #[.string D] w fun e w' => ∃ v, e = .returned (.tuple #[v, .int .i64 (decG (decE D.data.toList))]) ∧ PartsR w' v (decQ (decE D.data.toList)) ∧ Only w w' := by
  refine (rdecode_any hd w).mono fun e w' h => ?_
  obtain ⟨h, t⟩ := h
  cases hx : decE D.data.toList with
  | none => rw [hx] at h; exact ⟨_, h, partsR_none _, t⟩
  | some l => rw [hx] at h; obtain ⟨v, e1, hv⟩ := h; exact ⟨v, e1, hv.toR, t⟩
theorem decQ_le (D : ByteArray) (hd : D.size ≤ 2000) : (decQ (decE D.data.toList)).length ≤ 8 := by
  cases hx : decE D.data.toList with
  | none => simp [decQ]
  | some l => obtain ⟨-, -, -, h, -⟩ := decE_some hx; exact h

set_option maxRecDepth 100000 in
set_option maxHeartbeats 9600000 in
theorem keysBytes_any {w : World} {vl vm : Value} {D : ByteArray} {l m : List KP} (hl : PartsR w vl l) (hm : PartsR w vm m) (kl : l.length ≤ 9223372036854775807) (km : m.length ≤ 9223372036854775807) (kd : D.size ≤ 9223372036854775807) (il : ∀ x ∈ l, KIn x) (im : ∀ x ∈ m, KIn x) (hM : MaxAt w) :
    Calls Tryd.prog 4 #[vl, vm, .string D] w fun e w' => e = .returned (.bool true) ∧ Only w w' := by
  have F := first8_any hM
  have HL := Lib.hid hl
  have HM := Lib.hid hm
  have HX := Lib.hid hM
  have IL := Lib.hid il
  have IM := Lib.hid im
  have kd2 : (D.size : Int) ≤ 9223372036854775807 := by omega
  clear hl hm hM il im
  go_enter Tryd.func4, Tryd.ntmps4
  go_wp2_with (go_at_call 7; refine F.mono ?_; rintro r w1 ⟨rfl, t1⟩)
  refine (few8_any (HL.out.only t1) kl (fun x hx => (IL.out x hx).s)).mono ?_
  rintro r w2 ⟨⟨b, rfl, hb⟩, rfl⟩
  cases b
  · clear hb
    go_wp2_with fail
    go_ret
    exact ⟨rfl, t1⟩
  · obtain ⟨l10, l300⟩ := hb rfl
    go_wp2_with fail
    refine (few8_any (HM.out.only t1) km (fun x hx => (IM.out x hx).s)).mono ?_
    rintro r w2 ⟨⟨b, rfl, hb⟩, rfl⟩
    cases b
    · clear hb
      go_wp2_with fail
      go_ret
      exact ⟨rfl, t1⟩
    · obtain ⟨m10, m300⟩ := hb rfl
      by_cases hd : D.size ≤ 2000
      · have d1 : decide ((2000 : Int) < (D.size : Int)) = false := by simp; omega
        have d2 : decide (2000 < D.size) = false := by simpa using hd
        have okl : ∀ x ∈ l, KOk x := fun x hx => (IL.out x hx).ok (l300 x hx)
        have okm : ∀ x ∈ m, KOk x := fun x hx => (IM.out x hx).ok (m300 x hx)
        have EL := Lib.hid (fun (W : World) (t : Only w W) => encode_any (HL.out.only t) (by omega) okl (HX.out.only t))
        have RP := Lib.hid (fun (W : World) (t : Only w W) => rparts_any (HL.out.only t) (by omega))
        have RM := Lib.hid (fun (W : World) (t : Only w W) => rparts_any (HM.out.only t) (by omega))
        have RE := Lib.hid (fun (W : World) (v : Value) (h : PartsR W v l) => rencode_any h (by omega) (fun x hx => (okl x hx).r))
        have DD := Lib.hid (fun (W : World) (t : Only w W) => decU_any hd (HX.out.only t))
        have RD := Lib.hid (fun (W : World) => rdecU_any hd W)
        have q8 := decQ_le D hd
        have PF := fun (W : World) (t : Only w W) => prefix_any (HL.out.only t) (by omega) okl (HX.out.only t)
        have CLM := Lib.hid (fun (W : World) (t : Only w W) => compareK_any (HL.out.only t) (HM.out.only t) (by omega) (by omega) okl)
        have RCM := Lib.hid (fun (W : World) (va vb : Value) (ha : PartsR W va l) (hb : PartsR W vb m) => rcompare_any ha hb (by omega) (by omega))
        obtain ⟨q, hq⟩ : ∃ q, q = decQ (decE D.data.toList) := ⟨_, rfl⟩
        obtain ⟨G, hG⟩ : ∃ G, G = decG (decE D.data.toList) := ⟨_, rfl⟩
        rw [← hq] at DD RD q8
        rw [← hG] at DD RD
        obtain ⟨E, hE⟩ : ∃ E, E = errE l := ⟨_, rfl⟩
        obtain ⟨S, hS⟩ : ∃ S, S = ktxt (keyE l) := ⟨_, rfl⟩
        obtain ⟨TT, hTT⟩ : ∃ TT, TT = if errE l = 0 then ktxt (keyE l ++ [255]) else ⟨#[]⟩ := ⟨_, rfl⟩
        rw [← hTT] at PF
        rw [← hE, ← hS] at PF EL RE
        have PF := Lib.hid PF
        have HE := Lib.hid hE
        have HS := Lib.hid hS
        have HTT := Lib.hid hTT
        clear hE hS hTT
        have T1 := Lib.hid t1
        clear t1 l300 m300 kl km okl okm hb hq hG F
        go_wp2_with fail
        refine (EL.out _ T1.out).mono ?_
        rintro r w3 ⟨rfl, t3⟩
        have T3 := Lib.hid (T1.out.trans t3)
        clear t3
        go_wp2_with fail
        refine (RP.out _ T3.out).mono ?_
        rintro r w4 ⟨v4, rfl, hv4, t4⟩
        have HV4 := Lib.hid hv4.toR
        have T4 := Lib.hid (T3.out.trans t4)
        clear t4 hv4
        go_wp2_with fail
        refine (RE.out _ _ HV4.out).mono ?_
        rintro r w5 ⟨rfl, t5⟩
        have T5 := Lib.hid (T4.out.trans t5)
        clear t5
        go_wp2_with fail
        refine (DD.out _ T5.out).mono ?_
        rintro r w6 ⟨v6, rfl, hv6, t6⟩
        obtain ⟨sp6, cap6, rfl, hc6⟩ := hv6
        have HC6 := Lib.hid hc6
        have T6 := Lib.hid (T5.out.trans t6)
        clear t6 hc6
        go_wp2_with fail
        refine (RD.out _).mono ?_
        rintro r w7 ⟨v7, rfl, hv7, t7⟩
        obtain ⟨sp7, cap7, rfl, hc7⟩ := hv7
        have HC7 := Lib.hid hc7
        have HC6 := Lib.hid (fun h0 => (HC6.out h0))
        have T67 := Lib.hid t7
        have T7 := Lib.hid (T6.out.trans t7)
        clear t7 hc7
        go_wp2_with (first | (go_at_call 10; refine (num8_any _ _).mono ?_; rintro r w9 ⟨rfl, rfl⟩))
        go_loopw [17] (fun i x => ∃ k : Nat, k ≤ q.length ∧ i = .int .i64 k ∧ Only w9 x) (fun i _ => q.length - (intOf i).toNat)
        case atStart => exact ⟨0, Nat.zero_le _, rfl, Only.refl _⟩
        case round =>
          obtain ⟨k, hk, rfl, htx⟩ := hrel
          by_cases hlt : k < q.length
          · have j1 : (k : Int) < (q.length : Int) := by omega
            have j2 : (0 : Int) ≤ (k : Int) := by omega
            have j3 : (q.length : Int) ≤ 8 := by omega
            obtain ⟨g6, o6, e6, x6⟩ := HC6.out (by omega)
            obtain ⟨g7, o7, e7, x7⟩ := HC7.out (by omega)
            subst e6 e7
            obtain ⟨c0, c1, c2⟩ := (x6 k hlt).only (T67.out.trans htx)
            obtain ⟨d0, d1, d2⟩ := (x7 k hlt).only htx
            have HTX := Lib.hid htx
            have X6 := Lib.hid x6
            have X7 := Lib.hid x7
            obtain ⟨p, hp⟩ : ∃ p, p = q[k] := ⟨_, rfl⟩
            rw [← hp] at c0 c1 c2 d0 d1 d2
            clear x6 x7 htx hp
            go_wp2_with fail
            go_quiet (fail)
            go_wp2_with fail
            go_roundw
            case rel => exact ⟨k + 1, hlt, by push_cast; rfl, HTX.out.drewN _⟩
            case measure => simp [intOf]; omega
          · have hk0 : k = q.length := by omega
            subst hk0
            have T9 := Lib.hid (T7.out.trans htx)
            clear htx hlt hk
            by_cases e0 : E = 0
            · subst e0
              have hs8 : decide (9223372036854775807 < S.size + 1) = false := by
                have h0 : S.size ≤ 200 := by
                  rw [HS.out, ktxt_size]; unfold keyE; rw [if_pos HE.out.symm]
                  exact (errE_zero HE.out.symm).2.2
                simp; omega
              have hs7 : ¬ 9223372036854775807 < S.size + 1 := by simpa using hs8
              have b5 : (TT.toList == (S ++ (⟨#[255]⟩ : ByteArray)).toList) = true := by
                rw [HTT.out, HS.out, if_pos HE.out.symm, beq_iff_eq]
                rw [Lib.toList_data, Lib.toList_data]
                simp
              go_wp2_with (first | (go_at_call 16; refine (PF.out _ T9.out).mono ?_; rintro r w10 ⟨rfl, t10⟩; have T10 := Lib.hid (T9.out.trans t10); clear t10))
              refine (CLM.out _ T10.out).mono ?_
              rintro r w11 ⟨rfl, t11⟩
              have T11 := Lib.hid (T10.out.trans t11)
              clear t11
              go_wp2_with fail
              refine (RP.out _ T11.out).mono ?_
              rintro r w12 ⟨v12, rfl, hv12, t12⟩
              have HV12 := Lib.hid hv12.toR
              have T12 := Lib.hid (T11.out.trans t12)
              clear t12 hv12
              go_wp2_with fail
              refine (RM.out _ T12.out).mono ?_
              rintro r w13 ⟨v13, rfl, hv13, t13⟩
              have HV13 := Lib.hid hv13.toR
              have HV12b := Lib.hid (HV12.out.only t13)
              have T13 := Lib.hid (T12.out.trans t13)
              clear t13 hv13
              go_wp2_with fail
              refine (RCM.out _ _ _ HV12b.out HV13.out).mono ?_
              rintro r w14 ⟨rfl, t14⟩
              have T14 := Lib.hid (T13.out.trans t14)
              clear t14
              go_wp2_with (first | (go_at_call 10; refine (num8_any _ _).mono ?_; rintro r w15 ⟨rfl, rfl⟩))
              go_ret
              exact ⟨rfl, T14.out⟩
            · have s0 : S = ⟨#[]⟩ := by rw [HS.out]; unfold keyE; rw [← HE.out, if_neg e0]
              have s1 : TT = ⟨#[]⟩ := by rw [HTT.out, ← HE.out, if_neg e0]
              subst s0 s1
              have i1 : (E == 0) = false := by rw [beq_eq_false_iff_ne]; exact e0
              have i2 : (E != 0) = true := by rw [bne_iff_ne]; exact e0
              have hc0 : ((⟨#[]⟩ : ByteArray) ++ ⟨#[]⟩).toList = [] := by rw [Lib.toList_data]; rfl
              clear e0 HS HTT HE
              go_wp2_with (first | (go_at_call 16; refine (PF.out _ T9.out).mono ?_; rintro r w10 ⟨rfl, t10⟩; have T10 := Lib.hid (T9.out.trans t10); clear t10))
              refine (CLM.out _ T10.out).mono ?_
              rintro r w11 ⟨rfl, t11⟩
              have T11 := Lib.hid (T10.out.trans t11)
              clear t11
              go_wp2_with fail
              refine (RP.out _ T11.out).mono ?_
              rintro r w12 ⟨v12, rfl, hv12, t12⟩
              have HV12 := Lib.hid hv12.toR
              have T12 := Lib.hid (T11.out.trans t12)
              clear t12 hv12
              go_wp2_with fail
              refine (RM.out _ T12.out).mono ?_
              rintro r w13 ⟨v13, rfl, hv13, t13⟩
              have HV13 := Lib.hid hv13.toR
              have HV12b := Lib.hid (HV12.out.only t13)
              have T13 := Lib.hid (T12.out.trans t13)
              clear t13 hv13
              go_wp2_with fail
              refine (RCM.out _ _ _ HV12b.out HV13.out).mono ?_
              rintro r w14 ⟨rfl, t14⟩
              have T14 := Lib.hid (T13.out.trans t14)
              clear t14
              go_wp2_with (first | (go_at_call 10; refine (num8_any _ _).mono ?_; rintro r w15 ⟨rfl, rfl⟩))
              go_ret
              exact ⟨rfl, T14.out⟩
      · have d1 : decide ((2000 : Int) < (D.size : Int)) = true := by simp; omega
        have d2 : decide (2000 < D.size) = true := by simp; omega
        clear hb hd
        go_wp2_with fail
        go_ret
        exact ⟨rfl, t1⟩
end Go.Proofs.YtipcdbdlopmdoaaDoor
