/-
  KeysRange: a key lies in the range of some parts just if its parts begin with these.
-/
import Derived.Test.YtipcdbdlopmdoaaDoorKBack
import Derived.Test.YtipcdbdlopmdoaaDoorKOpen
namespace Go.Proofs.YtipcdbdlopmdoaaDoor
open Go.RowKit Go.Maps Go.WideMaps Go.Shelf
set_option linter.unusedVariables false
set_option linter.unusedSimpArgs false

/-- begins, as the law asks it -/
def begB (l m : List KP) : Bool := decide (l.length ≤ m.length) && decide (cmpL (m.take l.length) l = 0)

theorem cmpN_range (a b : Int) : cmpN a b = -1 ∨ cmpN a b = 0 ∨ cmpN a b = 1 := by unfold cmpN; split <;> (try split) <;> omega
theorem cmpP_range (p q : KP) : cmpP p q = -1 ∨ cmpP p q = 0 ∨ cmpP p q = 1 := by
  unfold cmpP
  split
  · exact cmpN_range _ _
  · split
    · exact cmpN_range _ _
    · split
      · exact cmpB_range _ _
      · simp
theorem cmpL_range : ∀ l m : List KP, cmpL l m = -1 ∨ cmpL l m = 0 ∨ cmpL l m = 1
  | [], [] => by simp [cmpL]
  | [], _ :: _ => by simp [cmpL]
  | _ :: _, [] => by simp [cmpL]
  | p :: l, q :: m => by
    simp only [cmpL]
    split
    · exact cmpP_range p q
    · exact cmpL_range l m

theorem range_is {l m : List KP} (hl : errE l = 0) (hm : errE m = 0) (nl : ∀ x ∈ l, numOk x) (nm : ∀ x ∈ m, numOk x) :
    begB l m = (!Op.bytesLess (encL m) (encL l) && Op.bytesLess (encL m) (encL l ++ [255])) := by
  obtain ⟨_, lk, _⟩ := errE_zero hl
  obtain ⟨_, mk, _⟩ := errE_zero hm
  rw [less_cmpB, less_cmpB]
  unfold begB
  rw [Bool.eq_iff_iff]
  simp only [Bool.and_eq_true, decide_eq_true_eq, Bool.not_eq_true', decide_eq_false_iff_not]
  constructor
  · rintro ⟨h1, h2⟩
    have hk : (m.take l.length).all kindOk = true := List.all_eq_true.2 fun x hx => List.all_eq_true.1 mk x (List.mem_of_mem_take hx)
    have hn : ∀ x ∈ m.take l.length, numOk x := fun x hx => nm x (List.mem_of_mem_take hx)
    have h3 := cmpB_encL (m.take l.length) l hk lk hn nl
    rw [h2] at h3
    have h4 := cmpB_eq h3
    rw [encL_take m l.length, h4]
    exact between2 _ _ fun b t h => encL_head h
  · rintro ⟨h1, h2⟩
    obtain ⟨r, hr⟩ := between1 _ _ h1 h2
    exact front_of l m r lk mk nl nm hr

set_option maxRecDepth 100000 in
set_option maxHeartbeats 6400000 in
theorem keysRange_any {w : World} {vl vm : Value} {l m : List KP} (hl : PartsR w vl l) (hm : PartsR w vm m) (kl : l.length ≤ 9223372036854775807) (km : m.length ≤ 9223372036854775807) (il : ∀ x ∈ l, KIn x) (im : ∀ x ∈ m, KIn x) (hM : MaxAt w) (hcap : ∀ sp n cap, vm = .slice sp n cap → n ≤ cap) :
    Calls Tryd.prog 5 #[vl, vm] w fun e w' => e = .returned (.bool true) ∧ Only w w' := by
  have F := first8_any hM
  have HL := Lib.hid hl
  have HM := Lib.hid hm
  have HX := Lib.hid hM
  have IL := Lib.hid il
  have IM := Lib.hid im
  have HCAP := Lib.hid hcap
  clear hl hm hM il im hcap
  go_enter Tryd.func5, Tryd.ntmps5
  go_wp2_with (go_at_call 7; refine F.mono ?_; rintro r w1 ⟨rfl, t1⟩)
  refine (few8_any (HL.out.only t1) kl (fun x hx => (IL.out x hx).s)).mono ?_
  rintro r w2 ⟨⟨b, rfl, hb⟩, rfl⟩
  cases b
  · clear hb
    go_wp2_with fail
    go_ret
    exact ⟨rfl, t1⟩
  · obtain ⟨l10, l300⟩ := hb rfl
    go_wp2_with fail
    refine (few8_any (HM.out.only t1) km (fun x hx => (IM.out x hx).s)).mono ?_
    rintro r w2 ⟨⟨b, rfl, hb⟩, rfl⟩
    cases b
    · clear hb
      go_wp2_with fail
      go_ret
      exact ⟨rfl, t1⟩
    · obtain ⟨m10, m300⟩ := hb rfl
      have okl : ∀ x ∈ l, KOk x := fun x hx => (IL.out x hx).ok (l300 x hx)
      have okm : ∀ x ∈ m, KOk x := fun x hx => (IM.out x hx).ok (m300 x hx)
      have EL := fun (W : World) (t : Only w W) => prefix_any (HL.out.only t) (by omega) okl (HX.out.only t)
      obtain ⟨TT, hTT⟩ : ∃ TT, TT = if errE l = 0 then ktxt (keyE l ++ [255]) else ⟨#[]⟩ := ⟨_, rfl⟩
      rw [← hTT] at EL
      have HTT := Lib.hid hTT
      have EL := Lib.hid EL
      clear hTT
      have EM := Lib.hid (fun (W : World) (t : Only w W) => encode_any (HM.out.only t) (by omega) okm (HX.out.only t))
      have T1 := Lib.hid t1
      have OKL := Lib.hid okl
      have OKM := Lib.hid okm
      clear t1 l300 m300 kl km okl okm hb
      go_wp2_with fail
      refine (EL.out _ T1.out).mono ?_
      rintro r w3 ⟨rfl, t3⟩
      have T3 := Lib.hid (T1.out.trans t3)
      clear t3
      go_wp2_with fail
      refine (EM.out _ T3.out).mono ?_
      rintro r w4 ⟨rfl, t4⟩
      have T4 := Lib.hid (T3.out.trans t4)
      clear t4
      by_cases e1 : errE l = 0
      · by_cases e2 : errE m = 0
        · have nl : ∀ x ∈ l, numOk x := fun x hx => (OKL.out x hx).n
          have nm : ∀ x ∈ m, numOk x := fun x hx => (OKM.out x hx).n
          have hR := range_is e1 e2 nl nm
          have hkl : keyE l = encL l := by unfold keyE; rw [if_pos e1]
          have hkm : keyE m = encL m := by unfold keyE; rw [if_pos e2]
          have hT2 : TT = ktxt (encL l ++ [255]) := by rw [HTT.out, if_pos e1, hkl]
          rw [hT2, e1, e2, hkl, hkm]
          have CML := fun (W : World) (v : Value) (hv : PartsR W v (m.take l.length)) (t : Only w W) => compareK_any hv (HL.out.only t) (by simp; omega) (by omega) (fun x hx => OKM.out x (List.mem_of_mem_take hx))
          have hcr : cmpL (m.take l.length) l = -1 ∨ cmpL (m.take l.length) l = 0 ∨ cmpL (m.take l.length) l = 1 := cmpL_range _ _
          obtain ⟨A, hA⟩ : ∃ A, A = encL l := ⟨_, rfl⟩
          obtain ⟨B, hB⟩ : ∃ B, B = encL m := ⟨_, rfl⟩
          obtain ⟨c, hc⟩ : ∃ c, c = cmpL (m.take l.length) l := ⟨_, rfl⟩
          unfold begB at hR
          rw [← hA, ← hB, ← hc] at hR
          rw [← hc] at CML hcr
          rw [← hA, ← hB]
          have CML := Lib.hid CML
          obtain ⟨spl, cal, evl, -⟩ := HL.out
          subst evl
          obtain ⟨spm, cam, evm, -⟩ := HM.out
          subst evm
          clear hA hB hc hkl hkm nl nm e1 e2 EL EM F T1 T3
          by_cases hlm : l.length ≤ m.length
          · have hcm := HCAP.out _ _ _ rfl
            have k1 : decide (l.length ≤ m.length) = true := by simpa using hlm
            have k2 : decide ((l.length : Int) ≤ (m.length : Int)) = true := by simp; omega
            have k3 : (l.length : Int) ≤ (cam : Int) := by omega
            have k4 : l.length ≤ cam := by omega
            rw [k1, Bool.true_and] at hR
            have HF := Lib.hid (HM.out.front hlm)
            have HRR := Lib.hid hR
            clear hR
            go_wp2_with (first | (go_at_call 10; refine (num8_any _ _).mono ?_; rintro r w9 ⟨rfl, rfl⟩))
            have hmin : (min (l.length : Int) (m.length : Int)).toNat = l.length := by omega
            have HF2 : PartsR w9 (.slice spm (min (l.length : Int) (m.length : Int)).toNat cam) (m.take l.length) := by rw [hmin]; exact HF.out.only T4.out
            refine (CML.out _ _ HF2 T4.out).mono ?_
            rintro r w10 ⟨rfl, t10⟩
            have T10 := Lib.hid (T4.out.trans t10)
            have hR := HRR.out
            clear t10 HF2 hmin HRR
            rcases hcr with rfl | rfl | rfl
            all_goals
              cases b1 : Op.bytesLess B A
              all_goals
                cases b2 : Op.bytesLess B (A ++ [255])
                all_goals
                  rw [b1, b2] at hR
                  first
                  | (exfalso; revert hR; decide)
                  | skip
            all_goals
              clear hR
              go_wp2_with fail
              go_ret
              exact ⟨rfl, T10.out⟩
          · have k1 : decide (l.length ≤ m.length) = false := by simpa using hlm
            have k2 : decide ((l.length : Int) ≤ (m.length : Int)) = false := by simp; omega
            rw [k1, Bool.false_and] at hR
            clear hlm
            cases b1 : Op.bytesLess B A
            all_goals
              cases b2 : Op.bytesLess B (A ++ [255])
              all_goals
                rw [b1, b2] at hR
                first
                | (exfalso; revert hR; decide)
                | skip
            all_goals
              clear hR
              go_wp2_with (first | (go_at_call 10; refine (num8_any _ _).mono ?_; rintro r w9 ⟨rfl, rfl⟩))
              go_ret
              exact ⟨rfl, T4.out⟩
        · have i1 : (errE l == 0) = true := by rw [beq_iff_eq]; exact e1
          have i3 : (errE l != 0) = false := by simp [e1]
          have i2 : (errE m == 0) = false := by rw [beq_eq_false_iff_ne]; exact e2
          have i4 : (errE m != 0) = true := by rw [bne_iff_ne]; exact e2
          clear e1 e2
          go_wp2_with (first | (go_at_call 10; refine (num8_any _ _).mono ?_; rintro r w9 ⟨rfl, rfl⟩))
          go_ret
          exact ⟨rfl, T4.out⟩
      · have i1 : (errE l == 0) = false := by rw [beq_eq_false_iff_ne]; exact e1
        have i2 : (errE l != 0) = true := by rw [bne_iff_ne]; exact e1
        clear e1
        go_wp2_with (first | (go_at_call 10; refine (num8_any _ _).mono ?_; rintro r w9 ⟨rfl, rfl⟩))
        go_ret
        exact ⟨rfl, T4.out⟩
end Go.Proofs.YtipcdbdlopmdoaaDoor
