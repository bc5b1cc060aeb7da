/-
  Compare, of any parts.
-/
import Derived.Test.YtipcdbdlopmdoaaDoorKParts
import Derived.Laws.EntriesVeiled
namespace Go.Proofs.YtipcdbdlopmdoaaDoor
open Go.RowKit Go.Maps Go.WideMaps Go.Shelf
set_option linter.unusedVariables false
set_option linter.unusedSimpArgs false

theorem cmpP_kinds {p q : KP} (h : p.kind ≠ q.kind) : cmpP p q = cmpN p.kind q.kind := by unfold cmpP; rw [if_pos h]
theorem cmpP_other {p q : KP} (h1 : p.kind ≠ 1) (h2 : p.kind ≠ 2) : cmpP p q = cmpN p.kind q.kind := by
  unfold cmpP
  by_cases h : p.kind = q.kind
  · rw [if_neg (by simp [h]), if_neg h1, if_neg h2, h]; simp [cmpN]
  · rw [if_pos h]
theorem cmpP_ints {p q : KP} (h1 : p.kind = 1) (h2 : q.kind = 1) : cmpP p q = cmpN p.n q.n := by unfold cmpP; simp [h1, h2]
theorem cmpP_texts {p q : KP} (h1 : p.kind = 2) (h2 : q.kind = 2) : cmpP p q = Lib.compareBytes p.s q.s := by unfold cmpP; simp [h1, h2]

theorem cell_onlyK {w w' : World} {a : Addr} {v : Value} (h : w.cell? a = some v) (t : Only w w') : w'.cell? a = some v := (Below.cell t (World.block_lt_of_cell? w _ h)).trans h
theorem only_boxes {w w' : World} (o1 o2 o3 : Obj) (t : Only (((w.alloc o1).alloc o2).alloc o3) w') : Only w w' := ((((Only.refl w).alloc o1).alloc o2).alloc o3).trans t

set_option maxRecDepth 100000 in
set_option maxHeartbeats 3200000 in
theorem cmp1_any {p q : KP} (hp : -9223372036854775808 ≤ p.kind ∧ p.kind ≤ 9223372036854775807) {W : World} {cb mb : Nat} (hc : W.cell? ⟨cb, 0, none⟩ = some (.map (some mb))) (kd : KindsAt W mb) :
    Calls Tryd.prog 23 #[pv p, pv q, .pointer (some ⟨cb, 0, none⟩)] W fun e w' => e = .returned (.int .i64 (cmpP p q)) ∧ Only W w' := by
  have CK : ∀ W, Calls Tryd.prog 24 #[.int .i64 p.kind, .int .i64 q.kind] W fun e w' => e = .returned (.int .i64 (cmpN p.kind q.kind)) ∧ w' = W := fun W => cmpI_any _ _ W
  have CI := cmpInts_any p q
  have CT := cmpTexts_any p q
  unfold pv at CI CT
  unfold pv
  have t0 : Only W ((W.alloc (.cells #[.int .i64 p.kind, .int .i64 p.n, .string (ktxt p.s)] 40)).alloc (.cells #[.int .i64 q.kind, .int .i64 q.n, .string (ktxt q.s)] 40)) := ((Only.refl W).alloc _).alloc _
  have LK := look_kind (k := p.kind) (kd.only t0) (kind_wf hp.1 hp.2)
  have hc1 := cell_onlyK hc t0
  obtain ⟨R, hR⟩ : ∃ R, R = cmpP p q := ⟨_, rfl⟩
  rw [← hR]
  clear t0 kd hp
  by_cases h1 : p.kind = 1
  · have CI := Lib.hid CI
    have CK := Lib.hid CK
    rw [show (p.kind == 1 || p.kind == 2) = true by rw [h1]; rfl, show kindOf p.kind = kindI by rw [h1]; rfl] at LK
    unfold kindI at LK
    by_cases h3 : q.kind = 1
    · have hr := cmpP_ints h1 h3
      rw [← hR] at hr
      have HR := Lib.hid hr
      have i1 : (p.kind == q.kind) = true := by rw [h1, h3]; rfl
      have i2 : (p.kind != q.kind) = false := by rw [h1, h3]; rfl
      clear h1 h3 hr hR hc
      go_enter Tryd.func23, Tryd.ntmps23
      go_wp2_with (first | (go_at_call 26; refine (CI.out _).mono ?_; rintro r w3 ⟨rfl, t3⟩))
      go_ret
      exact ⟨by rw [HR.out]; rfl, only_boxes _ _ _ t3⟩
    · have hne : p.kind ≠ q.kind := by rw [h1]; exact fun e => h3 e.symm
      have hr := cmpP_kinds hne
      rw [← hR] at hr
      have HR := Lib.hid hr
      have i1 : (p.kind == q.kind) = false := by rw [beq_eq_false_iff_ne]; exact hne
      have i2 : (p.kind != q.kind) = true := by rw [bne_iff_ne]; exact hne
      clear h1 h3 hr hR hc hne
      go_enter Tryd.func23, Tryd.ntmps23
      go_wp2_with (first | (go_at_call 24; refine (CK.out _).mono ?_; rintro r w3 ⟨rfl, rfl⟩))
      go_ret
      exact ⟨by rw [HR.out]; rfl, only_boxes _ _ _ (Only.refl _)⟩
  · by_cases h2 : p.kind = 2
    · have CT := Lib.hid CT
      have CK := Lib.hid CK
      rw [show (p.kind == 1 || p.kind == 2) = true by rw [h2]; rfl, show kindOf p.kind = kindT by rw [h2]; rfl] at LK
      unfold kindT at LK
      by_cases h3 : q.kind = 2
      · have hr := cmpP_texts h2 h3
        rw [← hR] at hr
        have HR := Lib.hid hr
        have i1 : (p.kind == q.kind) = true := by rw [h2, h3]; rfl
        have i2 : (p.kind != q.kind) = false := by rw [h2, h3]; rfl
        clear h1 h2 h3 hr hR hc
        go_enter Tryd.func23, Tryd.ntmps23
        go_wp2_with (first | (go_at_call 30; refine (CT.out _).mono ?_; rintro r w3 ⟨rfl, t3⟩))
        go_ret
        exact ⟨by rw [HR.out]; rfl, only_boxes _ _ _ t3⟩
      · have hne : p.kind ≠ q.kind := by rw [h2]; exact fun e => h3 e.symm
        have hr := cmpP_kinds hne
        rw [← hR] at hr
        have HR := Lib.hid hr
        have i1 : (p.kind == q.kind) = false := by rw [beq_eq_false_iff_ne]; exact hne
        have i2 : (p.kind != q.kind) = true := by rw [bne_iff_ne]; exact hne
        clear h1 h2 h3 hr hR hc hne
        go_enter Tryd.func23, Tryd.ntmps23
        go_wp2_with (first | (go_at_call 24; refine (CK.out _).mono ?_; rintro r w3 ⟨rfl, rfl⟩))
        go_ret
        exact ⟨by rw [HR.out]; rfl, only_boxes _ _ _ (Only.refl _)⟩
    · have CK := Lib.hid CK
      have hz : (p.kind == 1 || p.kind == 2) = false := by simp [h1, h2]
      rw [hz, kindOf_n hz] at LK
      unfold kindZ at LK
      have hr := cmpP_other (q := q) h1 h2
      rw [← hR] at hr
      have HR := Lib.hid hr
      clear hr hR hc h1 h2 hz
      cases i2 : (p.kind != q.kind)
      all_goals
        go_enter Tryd.func23, Tryd.ntmps23
        go_wp2_with (first | (go_at_call 24; refine (CK.out _).mono ?_; rintro r w3 ⟨rfl, rfl⟩))
        go_ret
        exact ⟨by rw [HR.out]; rfl, only_boxes _ _ _ (Only.refl _)⟩
end Go.Proofs.YtipcdbdlopmdoaaDoor
