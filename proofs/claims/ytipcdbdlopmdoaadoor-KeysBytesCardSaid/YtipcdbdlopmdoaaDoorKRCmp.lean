/-
  The document's Compare, of any lists of parts.
-/
import Derived.Test.YtipcdbdlopmdoaaDoorKCmpF
import Derived.WalkLawsBesides
namespace Go.Proofs.YtipcdbdlopmdoaaDoor
open Go.RowKit Go.Maps Go.WideMaps Go.Shelf
set_option linter.unusedVariables false
set_option linter.unusedSimpArgs false

theorem cmpN_eq {a b : Int} : cmpN a b = 0 ↔ a = b := by unfold cmpN; split <;> (try split) <;> simp <;> omega

set_option maxRecDepth 100000 in
set_option maxHeartbeats 9600000 in
theorem rcompare_any {w : World} {va vb : Value} {a b : List KP} (ha : PartsR w va a) (hb : PartsR w vb b) (hla : a.length ≤ 1000000) (hlb : b.length ≤ 1000000) :
    Calls Tryd.prog 17 #[va, vb] w fun e w' => e = .returned (.int .i64 (cmpL a b)) ∧ Only w w' := by
  obtain ⟨spa, ca, rfl, hca⟩ := ha
  obtain ⟨spb, cb', rfl, hcb⟩ := hb
  obtain ⟨R, hR⟩ : ∃ R, R = cmpL a b := ⟨_, rfl⟩
  rw [← hR]
  have HCA := Lib.hid hca
  have HCB := Lib.hid hcb
  have HR : Hid (R = cmpL (a.drop 0) (b.drop 0)) := Lib.hid (by rw [hR]; rfl)
  clear hca hcb hR
  go_enter Tryd.func17, Tryd.ntmps17
  go_wp2_with fail
  go_loopw [5, 6, 7] (fun i _ _ x => ∃ k : Nat, k ≤ a.length ∧ k ≤ b.length ∧ i = .int .i64 k ∧ Hid (R = cmpL (a.drop k) (b.drop k)) ∧ Only w x) (fun i _ _ _ => a.length - (intOf i).toNat)
  case atStart => exact ⟨0, Nat.zero_le _, Nat.zero_le _, rfl, HR, Only.refl _⟩
  case round =>
    obtain ⟨k, hk, hkb, rfl, hr, ht⟩ := hrel
    have HT := Lib.hid ht
    by_cases hlt : k < a.length
    · have j1 : (k : Int) < (a.length : Int) := by omega
      by_cases hltb : k < b.length
      · have j2 : (k : Int) < (b.length : Int) := by omega
        obtain ⟨ga, oa, hsp, hat⟩ := HCA.out (by omega)
        subst hsp
        obtain ⟨c0, c1, c2⟩ := (hat k hlt).only ht
        obtain ⟨gb, ob, hspb, hbt⟩ := HCB.out (by omega)
        subst hspb
        obtain ⟨d0, d1, d2⟩ := (hbt k hltb).only ht
        have hs := cmpL_at hlt hltb
        rw [← hr.out] at hs
        obtain ⟨p, hp⟩ : ∃ p, p = a[k] := ⟨_, rfl⟩
        obtain ⟨q, hq⟩ : ∃ q, q = b[k] := ⟨_, rfl⟩
        rw [← hp] at c0 c1 c2 hs
        rw [← hq] at d0 d1 d2 hs
        have HS := Lib.hid hs
        have hk1 : k + 1 ≤ a.length := hlt
        have hk2 : k + 1 ≤ b.length := hltb
        have tb := (Only.refl wr).alloc (.cells #[.int .i64 p.kind, .int .i64 p.n, .string (ktxt p.s)] 41)
        have e0 := cell_onlyK d0 tb
        have e1 := cell_onlyK d1 tb
        have e2 := cell_onlyK d2 tb
        have TX := Lib.hid ((ht.alloc (.cells #[.int .i64 p.kind, .int .i64 p.n, .string (ktxt p.s)] 41)).alloc (.cells #[.int .i64 q.kind, .int .i64 q.n, .string (ktxt q.s)] 41))
        have HAT := Lib.hid hat
        have HBT := Lib.hid hbt
        clear hat hbt hs hp hq ht hr hk hkb tb
        by_cases hkk : p.kind = q.kind
        · have n1 : (p.kind == q.kind) = true := by rw [beq_iff_eq]; exact hkk
          have n2 : (p.kind != q.kind) = false := by simp [hkk]
          by_cases h1 : p.kind = 1
          · have h1q : q.kind = 1 := by rw [← hkk]; exact h1
            have m1 : (p.kind == 1) = true := by rw [beq_iff_eq]; exact h1
            have m2 : (p.kind == 2) = false := by rw [h1]; rfl
            have hcp := cmpP_ints h1 h1q
            by_cases hn : p.n = q.n
            · have n4 : (p.n == q.n) = true := by rw [beq_iff_eq]; exact hn
              have n5 : (p.n != q.n) = false := by simp [hn]
              have hc0 : cmpP p q = 0 := by rw [hcp]; exact cmpN_eq.2 hn
              have hR0 : R = cmpL (a.drop (k + 1)) (b.drop (k + 1)) := by rw [HS.out, if_neg (by simp [hc0])]
              have HR0 := Lib.hid hR0
              clear hn h1 h1q hcp hkk hc0 hR0
              go_wp2_with fail
              go_roundw
              case rel => exact ⟨k + 1, hk1, hk2, by push_cast; rfl, HR0, TX.out⟩
              case measure => simp [intOf]; omega
            · have n4 : (p.n == q.n) = false := by rw [beq_eq_false_iff_ne]; exact hn
              have n5 : (p.n != q.n) = true := by rw [bne_iff_ne]; exact hn
              by_cases hl : p.n < q.n
              · have n6 : decide (p.n < q.n) = true := by simpa using hl
                have hc : cmpP p q = -1 := by rw [hcp]; unfold cmpN; rw [if_pos hl]
                have hR1 : R = -1 := by rw [HS.out, if_pos (by rw [hc]; decide), hc]
                have HR1 := Lib.hid hR1
                clear hl hn h1 h1q hcp hkk hc hR1
                go_wp2_with fail
                go_ret
                exact ⟨by rw [HR1.out]; rfl, TX.out⟩
              · have n6 : decide (p.n < q.n) = false := by simpa using hl
                have hc : cmpP p q = 1 := by rw [hcp]; unfold cmpN; rw [if_neg hl, if_pos (by omega)]
                have hR1 : R = 1 := by rw [HS.out, if_pos (by rw [hc]; decide), hc]
                have HR1 := Lib.hid hR1
                clear hl hn h1 h1q hcp hkk hc hR1
                go_wp2_with fail
                go_ret
                exact ⟨by rw [HR1.out]; rfl, TX.out⟩
          · have m1 : (p.kind == 1) = false := by rw [beq_eq_false_iff_ne]; exact h1
            by_cases h2 : p.kind = 2
            · have h2q : q.kind = 2 := by rw [← hkk]; exact h2
              have m2 : (p.kind == 2) = true := by rw [beq_iff_eq]; exact h2
              have hcp := cmpP_texts h2 h2q
              have hle := less_cmpB p.s q.s
              rcases cmpB_range p.s q.s with hz | hz | hz
              · have n4 : ¬ p.s = q.s := fun e => by rw [e, cmpB_self] at hz; omega
                have n5 : (p.s == q.s) = false := by rw [beq_eq_false_iff_ne]; exact n4
                have n7 : (p.s != q.s) = true := by rw [bne_iff_ne]; exact n4
                have n6 : Op.bytesLess p.s q.s = true := by rw [hle, hz]; rfl
                have hc : cmpP p q = -1 := by rw [hcp, hz]
                have hR1 : R = -1 := by rw [HS.out, if_pos (by rw [hc]; decide), hc]
                have HR1 := Lib.hid hR1
                clear hz hle h1 h2 h2q hcp hkk hc hR1
                go_wp2_with fail
                go_ret
                exact ⟨by rw [HR1.out]; rfl, TX.out⟩
              · have n4 : p.s = q.s := cmpB_eq hz
                have n5 : (p.s == q.s) = true := by rw [beq_iff_eq]; exact n4
                have n7 : (p.s != q.s) = false := by simp [n4]
                have hc0 : cmpP p q = 0 := by rw [hcp, hz]
                have hR0 : R = cmpL (a.drop (k + 1)) (b.drop (k + 1)) := by rw [HS.out, if_neg (by simp [hc0])]
                have HR0 := Lib.hid hR0
                clear hz hle h1 h2 h2q hcp hkk n4 hc0 hR0
                go_wp2_with fail
                go_roundw
                case rel => exact ⟨k + 1, hk1, hk2, by push_cast; rfl, HR0, TX.out⟩
                case measure => simp [intOf]; omega
              · have n4 : ¬ p.s = q.s := fun e => by rw [e, cmpB_self] at hz; omega
                have n5 : (p.s == q.s) = false := by rw [beq_eq_false_iff_ne]; exact n4
                have n7 : (p.s != q.s) = true := by rw [bne_iff_ne]; exact n4
                have n6 : Op.bytesLess p.s q.s = false := by rw [hle, hz]; rfl
                have hc : cmpP p q = 1 := by rw [hcp, hz]
                have hR1 : R = 1 := by rw [HS.out, if_pos (by rw [hc]; decide), hc]
                have HR1 := Lib.hid hR1
                clear hz hle h1 h2 h2q hcp hkk hc hR1
                go_wp2_with fail
                go_ret
                exact ⟨by rw [HR1.out]; rfl, TX.out⟩
            · have m2 : (p.kind == 2) = false := by rw [beq_eq_false_iff_ne]; exact h2
              have hc0 : cmpP p q = 0 := by rw [cmpP_other h1 h2]; exact cmpN_eq.2 hkk
              have hR0 : R = cmpL (a.drop (k + 1)) (b.drop (k + 1)) := by rw [HS.out, if_neg (by simp [hc0])]
              have HR0 := Lib.hid hR0
              clear h1 h2 hkk hc0 hR0
              go_wp2_with fail
              go_roundw
              case rel => exact ⟨k + 1, hk1, hk2, by push_cast; rfl, HR0, TX.out⟩
              case measure => simp [intOf]; omega
        · have n1 : (p.kind == q.kind) = false := by rw [beq_eq_false_iff_ne]; exact hkk
          have n2 : (p.kind != q.kind) = true := by rw [bne_iff_ne]; exact hkk
          have hc : cmpP p q = cmpN p.kind q.kind := cmpP_kinds hkk
          have hRc : R = cmpN p.kind q.kind := by rw [HS.out, if_pos (by rw [hc]; exact fun e => hkk (cmpN_eq.1 e)), hc]
          by_cases hlt2 : p.kind < q.kind
          · have hR1 : R = -1 := by rw [hRc]; unfold cmpN; rw [if_pos hlt2]
            have n3 : decide (p.kind < q.kind) = true := by simpa using hlt2
            have HR1 := Lib.hid hR1
            clear hc hRc hR1 hkk hlt2
            go_wp2_with fail
            go_ret
            exact ⟨by rw [HR1.out]; rfl, TX.out⟩
          · have hR1 : R = 1 := by rw [hRc]; unfold cmpN; rw [if_neg hlt2, if_pos (by omega)]
            have n3 : decide (p.kind < q.kind) = false := by simpa using hlt2
            have HR1 := Lib.hid hR1
            clear hc hRc hR1 hkk hlt2
            go_wp2_with fail
            go_ret
            exact ⟨by rw [HR1.out]; rfl, TX.out⟩
      · have hr1 : R = 1 := by rw [hr.out, cmpL_more hlt (by omega)]
        have HR1 := Lib.hid hr1
        have hkb2 : k = b.length := by omega
        have j2 : decide ((k : Int) < (b.length : Int)) = false := by simp; omega
        have j3 : decide (k < b.length) = false := by simp; omega
        have j4 : decide ((a.length : Int) < (b.length : Int)) = false := by simp; omega
        have j5 : decide ((b.length : Int) < (a.length : Int)) = true := by simp; omega
        have j6 : decide (a.length < b.length) = false := by simp; omega
        have j7 : decide (b.length < a.length) = true := by simp; omega
        clear hr1 hr hltb hkb hkb2 ht hk
        go_wp2_with fail
        go_ret
        exact ⟨by rw [HR1.out]; rfl, HT.out⟩
    · have hk0 : k = a.length := by omega
      subst hk0
      have hr1 : R = if a.length < b.length then -1 else 0 := by rw [hr.out, cmpL_end (Nat.le_refl _) hkb]
      by_cases hab : a.length < b.length
      · rw [if_pos hab] at hr1
        have HR1 := Lib.hid hr1
        have j4 : decide ((a.length : Int) < (b.length : Int)) = true := by simp; omega
        have j6 : decide (a.length < b.length) = true := by simpa using hab
        clear hr1 hr ht hk hlt hab hkb
        go_wp2_with fail
        go_ret
        exact ⟨by rw [HR1.out]; rfl, HT.out⟩
      · rw [if_neg hab] at hr1
        have HR1 := Lib.hid hr1
        have j4 : decide ((a.length : Int) < (b.length : Int)) = false := by simp; omega
        have j6 : decide (a.length < b.length) = false := by simpa using hab
        have j5 : decide ((b.length : Int) < (a.length : Int)) = false := by simp; omega
        have j7 : decide (b.length < a.length) = false := by simp; omega
        clear hr1 hr ht hk hlt hab hkb
        go_wp2_with fail
        go_ret
        exact ⟨by rw [HR1.out]; rfl, HT.out⟩
end Go.Proofs.YtipcdbdlopmdoaaDoor
