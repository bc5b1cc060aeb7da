/-
  slices.CompareFunc at parts; Compare, of any lists of parts.
-/
import Derived.Test.YtipcdbdlopmdoaaDoorKCmp
namespace Go.Proofs.YtipcdbdlopmdoaaDoor
open Go.RowKit Go.Maps Go.WideMaps Go.Shelf
set_option linter.unusedVariables false
set_option linter.unusedSimpArgs false

theorem cmpL_at {a b : List KP} {k : Nat} (ha : k < a.length) (hb : k < b.length) : cmpL (a.drop k) (b.drop k) = if cmpP a[k] b[k] ≠ 0 then cmpP a[k] b[k] else cmpL (a.drop (k + 1)) (b.drop (k + 1)) := by
  rw [List.drop_eq_getElem_cons ha, List.drop_eq_getElem_cons hb]; rfl
theorem cmpL_more {a b : List KP} {k : Nat} (ha : k < a.length) (hb : b.length ≤ k) : cmpL (a.drop k) (b.drop k) = 1 := by
  rw [List.drop_eq_getElem_cons ha, List.drop_eq_nil_of_le hb]; rfl
theorem cmpL_end {a b : List KP} {k : Nat} (ha : a.length ≤ k) (hb : k ≤ b.length) : cmpL (a.drop k) (b.drop k) = if k < b.length then -1 else 0 := by
  rw [List.drop_eq_nil_of_le ha]
  by_cases h : k < b.length
  · rw [if_pos h, List.drop_eq_getElem_cons h]; rfl
  · rw [if_neg h, List.drop_eq_nil_of_le (by omega)]; rfl

set_option maxRecDepth 100000 in
set_option maxHeartbeats 6400000 in
theorem cmpF_any {w : World} {va vb : Value} {a b : List KP} (ha : PartsR w va a) (hb : PartsR w vb b) (hla : a.length ≤ 1000000) (hlb : b.length ≤ 1000000) (ka : ∀ x ∈ a, KOk x)
    {cb mb : Nat} (hc : w.cell? ⟨cb, 0, none⟩ = some (.map (some mb))) (kd : KindsAt w mb) :
    Calls Tryd.prog 22 #[va, vb, .func (.func 23) #[] #[.pointer (some ⟨cb, 0, none⟩)]] w fun e w' => e = .returned (.int .i64 (cmpL a b)) ∧ Only w w' := by
  obtain ⟨spa, ca, rfl, hca⟩ := ha
  obtain ⟨spb, cb', rfl, hcb⟩ := hb
  obtain ⟨R, hR⟩ : ∃ R, R = cmpL a b := ⟨_, rfl⟩
  rw [← hR]
  have HCA := Lib.hid hca
  have HCB := Lib.hid hcb
  have KA := Lib.hid ka
  have HC := Lib.hid hc
  have KD := Lib.hid kd
  have HR : Hid (R = cmpL (a.drop 0) (b.drop 0)) := Lib.hid (by rw [hR]; rfl)
  clear hca hcb ka hc kd hR
  go_enter Tryd.func22, Tryd.ntmps22
  go_wp2_with fail
  go_loopw [7, 8, 9, 10, 13] (fun _ _ _ _ i x => ∃ k : Nat, k ≤ a.length ∧ k ≤ b.length ∧ i = .int .i64 k ∧ Hid (R = cmpL (a.drop k) (b.drop k)) ∧ Only w x) (fun _ _ _ _ i _ => a.length - (intOf i).toNat)
  case atStart => exact ⟨0, Nat.zero_le _, Nat.zero_le _, rfl, HR, Only.refl _⟩
  case round =>
    obtain ⟨k, hk, hkb, rfl, hr, ht⟩ := hrel
    have HT := Lib.hid ht
    by_cases hlt : k < a.length
    · have j1 : (k : Int) < (a.length : Int) := by omega
      obtain ⟨ga, oa, hsp, hat⟩ := HCA.out (by omega)
      subst hsp
      obtain ⟨c0, c1, c2⟩ := (hat k hlt).only ht
      have okp := KA.out _ (List.getElem_mem hlt)
      by_cases hltb : k < b.length
      · have j2 : (k : Int) < (b.length : Int) := by omega
        obtain ⟨gb, ob, hspb, hbt⟩ := HCB.out (by omega)
        subst hspb
        obtain ⟨d0, d1, d2⟩ := (hbt k hltb).only ht
        have hs := cmpL_at hlt hltb
        rw [← hr.out] at hs
        obtain ⟨p, hp⟩ : ∃ p, p = a[k] := ⟨_, rfl⟩
        obtain ⟨q, hq⟩ : ∃ q, q = b[k] := ⟨_, rfl⟩
        rw [← hp] at c0 c1 c2 okp hs
        rw [← hq] at d0 d1 d2 hs
        have C1 := fun (W : World) (t : Only w W) => cmp1_any (p := p) (q := q) ⟨okp.k1, okp.k2⟩ (cell_onlyK HC.out t) (KD.out.only t)
        unfold pv at C1
        obtain ⟨c, hcc⟩ : ∃ c, c = cmpP p q := ⟨_, rfl⟩
        rw [← hcc] at hs C1
        have C1 := Lib.hid C1
        have HS := Lib.hid hs
        have hk1 : k + 1 ≤ a.length := hlt
        have hk2 : k + 1 ≤ b.length := hltb
        have TX := Lib.hid ((ht.alloc (.cells #[.int .i64 p.kind, .int .i64 p.n, .string (ktxt p.s)] 40)).alloc (.cells #[.int .i64 q.kind, .int .i64 q.n, .string (ktxt q.s)] 40))
        have HAT := Lib.hid hat
        have HBT := Lib.hid hbt
        have tb := (Only.refl wr).alloc (.cells #[.int .i64 p.kind, .int .i64 p.n, .string (ktxt p.s)] 40)
        have e0 := cell_onlyK d0 tb
        have e1 := cell_onlyK d1 tb
        have e2 := cell_onlyK d2 tb
        have i5 : decide (b.length ≤ k) = false := by simp; omega
        have i6 : decide ((b.length : Int) ≤ (k : Int)) = false := by simp; omega
        clear tb hat hbt hs hp hq hcc okp ht hr hk hkb
        by_cases hc0 : c = 0
        · subst hc0
          go_wp2_with (first | (go_at_call 23; refine (C1.out _ TX.out).mono ?_; rintro r w3 ⟨rfl, t3⟩))
          go_roundw
          case rel => exact ⟨k + 1, hk1, hk2, by push_cast; rfl, Lib.hid (by have := HS.out; simpa using this), TX.out.trans t3⟩
          case measure => simp [intOf]; omega
        · have i3 : (c == 0) = false := by rw [beq_eq_false_iff_ne]; exact hc0
          have i4 : (c != 0) = true := by rw [bne_iff_ne]; exact hc0
          have hRc : R = c := by rw [HS.out, if_pos hc0]
          have HRC := Lib.hid hRc
          clear hRc hc0
          go_wp2_with (first | (go_at_call 23; refine (C1.out _ TX.out).mono ?_; rintro r w3 ⟨rfl, t3⟩))
          go_ret
          exact ⟨by rw [HRC.out]; rfl, TX.out.trans t3⟩
      · have hkb2 : k = b.length := by omega
        have hr1 : R = 1 := by rw [hr.out, cmpL_more hlt (by omega)]
        have HR1 := Lib.hid hr1
        have i2 : decide ((b.length : Int) ≤ (k : Int)) = true := by simp; omega
        have i5 : decide (b.length ≤ k) = true := by simp; omega
        have HAT := Lib.hid hat
        clear hr1 hr hat okp hltb hkb hkb2 ht
        go_wp2_with fail
        go_ret
        exact ⟨by rw [HR1.out]; rfl, HT.out.alloc _⟩
    · have hk0 : k = a.length := by omega
      subst hk0
      have hr1 : R = if a.length < b.length then -1 else 0 := by rw [hr.out, cmpL_end (Nat.le_refl _) hkb]
      have HR1 := Lib.hid hr1
      have hd : decide ((a.length : Int) < (b.length : Int)) = decide (a.length < b.length) := by rw [decide_eq_decide]; omega
      cases hdb : decide (a.length < b.length)
      all_goals
        rw [hdb] at hd
        have hr2 := HR1.out
        have hdn := hdb
        simp only [decide_eq_true_eq, decide_eq_false_iff_not] at hdb
        simp only [hdb, if_true, if_false] at hr2
        have HR2 := Lib.hid hr2
        clear hr1 hr hdb hr2 ht hk hlt
        go_wp2_with fail
        go_ret
        exact ⟨by rw [HR2.out]; rfl, HT.out⟩

set_option maxRecDepth 100000 in
set_option maxHeartbeats 3200000 in
theorem compareK_any {w : World} {va vb : Value} {a b : List KP} (ha : PartsR w va a) (hb : PartsR w vb b) (hla : a.length ≤ 1000000) (hlb : b.length ≤ 1000000) (ka : ∀ x ∈ a, KOk x) :
    Calls Tryd.prog 11 #[va, vb] w fun e w' => e = .returned (.int .i64 (cmpL a b)) ∧ Only w w' := by
  have KK := kinds_any w
  have CF := fun (W : World) (cb mb : Nat) (t : Only w W) (hc : W.cell? ⟨cb, 0, none⟩ = some (.map (some mb))) (kd : KindsAt W mb) => cmpF_any (ha.only t) (hb.only t) hla hlb ka hc kd
  have CF := Lib.hid CF
  clear ha hb hla hlb ka
  go_enter Tryd.func11, Tryd.ntmps11
  go_wp2_with (first | (go_at_call 21; refine KK.mono ?_; rintro r w1 ⟨rfl, t1, kd⟩; have o1 := Only.alloc t1 (.cells #[.map (some w.heap.size)] 50); have k1 := kd.only ((Only.refl w1).alloc (.cells #[.map (some w.heap.size)] 50)); have h1 := cell_new w1 #[.map (some w.heap.size)] 50 0) | (go_at_call 22; refine (CF.out _ _ _ o1 h1 k1).mono ?_; rintro r w3 ⟨rfl, t3⟩))
  go_ret
  exact ⟨rfl, o1.trans t3⟩
end Go.Proofs.YtipcdbdlopmdoaaDoor
