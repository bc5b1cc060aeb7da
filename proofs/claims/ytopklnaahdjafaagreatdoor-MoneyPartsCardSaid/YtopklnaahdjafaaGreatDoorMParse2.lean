/-
  Parse.
-/
import Derived.Test.YtopklnaahdjafaaGreatDoorMDec
import Derived.Test.YtopklnaahdjafaaGreatDoorGTl
import Derived.Test.YtopklnaahdjafaaGreatDoorMOps
namespace Go.Proofs.YtopklnaahdjafaaGreatDoor
open Go.RowKit Go.Shelf
set_option linter.unusedVariables false

abbrev CountIs (s : ByteArray) (n : Int) : Prop := ∀ w, Calls Tryz.prog 54 #[.string s, .string ⟨#[32]⟩] w fun e w' => e = .returned (.int .i64 n) ∧ w' = w
abbrev ParseIs (s : ByteArray) (n : Int) (c : ByteArray) (e : Int) : Prop := AnsIs 23 #[.string s] n c e

theorem parse_form {s a c u f : ByteArray} {b k p : Bool} {n : Int} {g : Bool} (C : CutIs s 32 a c p) (D : DecIs a b u f k) (N : CountIs s n) (hg : (n != 1) = g) (hk : g = true ∨ k = false) : ParseIs s 0 ⟨#[]⟩ 10 := by
  intro w
  have C := Lib.hid C
  have D := Lib.hid D
  have N := Lib.hid N
  have ht := (Only.refl w).alloc (.cells #[.int .i64 0, .string ⟨#[]⟩] 23)
  have o1 := Own2.new w (.int .i64 0) (.string ⟨#[]⟩) 23
  go_enter Tryz.func23, Tryz.ntmps23
  go_wp2_with fail
  go_at_call 52
  refine (C.out _).mono ?_
  rintro r w1 ⟨rfl, t1⟩
  have o1 := o1.only t1
  have ht := ht.trans t1
  clear t1
  go_wp2_with fail
  go_at_call 53
  refine (D.out _).mono ?_
  rintro r w2 ⟨rfl, t2⟩
  have o1 := (o1.only t2).alloc (.cells #[.bool b, .string u, .string f] 96)
  have ht := (ht.trans t2).alloc (.cells #[.bool b, .string u, .string f] 96)
  obtain ⟨d1, d2, f1, f2, z1⟩ := o1.all
  clear t2 o1
  cases g
  · obtain rfl : k = false := by rcases hk with h | h; cases h; exact h
    clear hk
    go_wp2_with (go_at_call 54; refine (N.out _).mono ?_; rintro r w1 ⟨rfl, rfl⟩)
    simp [bodyPost, results, Tryz.results23, go_sem, World.cell?_setCell_other, d1, d2]
    exact (ht.set (by omega) 0 _).set (by omega) 1 _
  · clear hk
    go_wp2_with (go_at_call 54; refine (N.out _).mono ?_; rintro r w1 ⟨rfl, rfl⟩)
    simp [bodyPost, results, Tryz.results23, go_sem, World.cell?_setCell_other, d1, d2]
    exact (ht.set (by omega) 0 _).set (by omega) 1 _

theorem parse_cur {s a c u f : ByteArray} {b p : Bool} (C : CutIs s 32 a c p) (D : DecIs a b u f true) (N : CountIs s 1) (F : FindIs c ⟨#[]⟩ 0 18) : ParseIs s 0 ⟨#[]⟩ 18 := by
  intro w
  have C := Lib.hid C
  have D := Lib.hid D
  have N := Lib.hid N
  have F := Lib.hid F
  have ht := (Only.refl w).alloc (.cells #[.int .i64 0, .string ⟨#[]⟩] 23)
  have o1 := Own2.new w (.int .i64 0) (.string ⟨#[]⟩) 23
  go_enter Tryz.func23, Tryz.ntmps23
  go_wp2_with fail
  go_at_call 52
  refine (C.out _).mono ?_
  rintro r w1 ⟨rfl, t1⟩
  have o1 := o1.only t1
  have ht := ht.trans t1
  clear t1
  go_wp2_with fail
  go_at_call 53
  refine (D.out _).mono ?_
  rintro r w2 ⟨rfl, t2⟩
  have o1 := (o1.only t2).alloc (.cells #[.bool b, .string u, .string f] 96)
  have ht := (ht.trans t2).alloc (.cells #[.bool b, .string u, .string f] 96)
  clear t2
  go_wp2_with (go_at_call 54; refine (N.out _).mono ?_; rintro r w1 ⟨rfl, rfl⟩)
  go_at_call 43
  refine (F.out _).mono ?_
  rintro r w3 ⟨rfl, t3⟩
  have o1 := (o1.only t3).alloc (.cells #[.string ⟨#[]⟩, .int .i64 0] 45)
  have ht := (ht.trans t3).alloc (.cells #[.string ⟨#[]⟩, .int .i64 0] 45)
  obtain ⟨d1, d2, f1, f2, z1⟩ := o1.all
  clear t3 o1
  go_wp2
  simp [bodyPost, results, Tryz.results23, go_sem, World.cell?_setCell_other, d1, d2]
  exact (ht.set (by omega) 0 _).set (by omega) 1 _

theorem parse_scale {s a c u f : ByteArray} {b p : Bool} {k : Int} (C : CutIs s 32 a c p) (D : DecIs a b u f true) (N : CountIs s 1) (F : FindIs c c k 0) (hk : decide (k < (f.size : Int)) = true) : ParseIs s 0 ⟨#[]⟩ 19 := by
  intro w
  have C := Lib.hid C
  have D := Lib.hid D
  have N := Lib.hid N
  have F := Lib.hid F
  have ht := (Only.refl w).alloc (.cells #[.int .i64 0, .string ⟨#[]⟩] 23)
  have o1 := Own2.new w (.int .i64 0) (.string ⟨#[]⟩) 23
  go_enter Tryz.func23, Tryz.ntmps23
  go_wp2_with fail
  go_at_call 52
  refine (C.out _).mono ?_
  rintro r w1 ⟨rfl, t1⟩
  have o1 := o1.only t1
  have ht := ht.trans t1
  clear t1
  go_wp2_with fail
  go_at_call 53
  refine (D.out _).mono ?_
  rintro r w2 ⟨rfl, t2⟩
  have o1 := (o1.only t2).alloc (.cells #[.bool b, .string u, .string f] 96)
  have ht := (ht.trans t2).alloc (.cells #[.bool b, .string u, .string f] 96)
  have o2 := Own3.new w2 (.bool b) (.string u) (.string f) 96
  clear t2
  go_wp2_with (go_at_call 54; refine (N.out _).mono ?_; rintro r w1 ⟨rfl, rfl⟩)
  go_at_call 43
  refine (F.out _).mono ?_
  rintro r w3 ⟨rfl, t3⟩
  have o1 := (o1.only t3).alloc (.cells #[.string c, .int .i64 k] 45)
  have o2 := (o2.only t3).alloc (.cells #[.string c, .int .i64 k] 45)
  have ht := (ht.trans t3).alloc (.cells #[.string c, .int .i64 k] 45)
  obtain ⟨d1, d2, f1, f2, z1⟩ := o1.all
  obtain ⟨c1, c2, c3, -, -, -, z2⟩ := o2.all
  clear t3 o1 o2
  go_wp2
  simp [bodyPost, results, Tryz.results23, go_sem, World.cell?_setCell_other, d1, d2]
  exact (ht.set (by omega) 0 _).set (by omega) 1 _

theorem Own3.cone {w : World} {b : Nat} {x y z : Value} (h : Own3 w b x y z) : (∀ n : Cone w, n.out.cell? ⟨b, 0, none⟩ = some x) ∧ (∀ n : Cone w, n.out.cell? ⟨b, 1, none⟩ = some y) ∧ (∀ n : Cone w, n.out.cell? ⟨b, 2, none⟩ = some z) :=
  ⟨fun n => (h.only n.only).all.1, fun n => (h.only n.only).all.2.1, fun n => (h.only n.only).all.2.2.1⟩

set_option maxHeartbeats 1600000 in
theorem parse_end {s a c u f r : ByteArray} {b p g z : Bool} {k v m : Int} {d : ByteArray} {e : Int} (C : CutIs s 32 a c p) (D : DecIs a b u f true) (N : CountIs s 1) (F : FindIs c c k 0) (hk : decide (k < (f.size : Int)) = false)
    (R : ∀ w, Calls Tryz.prog 56 #[.string ⟨#[48]⟩, .int .i64 (k - f.size)] w fun r' w' => r' = .returned (.string r) ∧ Only w w')
    (U : ∀ w, Calls Tryz.prog 55 #[.string (u ++ f ++ r)] w fun r' w' => r' = .returned (.tuple #[.int .i64 v, .bool g]) ∧ w' = w)
    (hv : 0 ≤ v ∧ v ≤ 4611686018427387904) (hk0 : 0 ≤ k ∧ k ≤ 3) (hsz : u.size ≤ 1000000 ∧ f.size ≤ 1000000 ∧ r.size ≤ 1000000) (hz : (v == 0) = z)
    (he : (g = false ∧ m = 0 ∧ d = ⟨#[]⟩ ∧ e = 6) ∨ (g = true ∧ b = true ∧ z = true ∧ m = 0 ∧ d = ⟨#[]⟩ ∧ e = 10) ∨ (g = true ∧ b = true ∧ z = false ∧ m = -v ∧ d = c ∧ e = 0) ∨ (g = true ∧ b = false ∧ m = v ∧ d = c ∧ e = 0)) : ParseIs s m d e := by
  intro w
  have C := Lib.hid C
  have D := Lib.hid D
  have N := Lib.hid N
  have F := Lib.hid F
  have HE := Lib.hid he
  clear he
  have ht := (Only.refl w).alloc (.cells #[.int .i64 0, .string ⟨#[]⟩] 23)
  have o1 := Own2.new w (.int .i64 0) (.string ⟨#[]⟩) 23
  go_enter Tryz.func23, Tryz.ntmps23
  go_wp2_with fail
  go_at_call 52
  refine (C.out _).mono ?_
  rintro r w1 ⟨rfl, t1⟩
  have o1 := o1.only t1
  have ht := ht.trans t1
  clear t1
  go_wp2_with fail
  go_at_call 53
  refine (D.out _).mono ?_
  rintro r w2 ⟨rfl, t2⟩
  have o1 := (o1.only t2).alloc (.cells #[.bool b, .string u, .string f] 96)
  have ht := (ht.trans t2).alloc (.cells #[.bool b, .string u, .string f] 96)
  have o2 := Own3.new w2 (.bool b) (.string u) (.string f) 96
  clear t2
  go_wp2_with (go_at_call 54; refine (N.out _).mono ?_; rintro r w1 ⟨rfl, rfl⟩)
  go_at_call 43
  refine (F.out _).mono ?_
  rintro r' w3 ⟨rfl, t3⟩
  have o1 := (o1.only t3).alloc (.cells #[.string c, .int .i64 k] 45)
  have o2 := (o2.only t3).alloc (.cells #[.string c, .int .i64 k] 45)
  have o3 := Own2.new w3 (.string c) (.int .i64 k) 45
  have ht := (ht.trans t3).alloc (.cells #[.string c, .int .i64 k] 45)
  obtain ⟨c1, c2, c3, -, -, -, z2⟩ := o2.all
  clear t3
  obtain ⟨i1, i2⟩ := hk0
  obtain ⟨s1, s2, s3⟩ := hsz
  have j1 : (u.size : Int) ≤ 1000000 := by omega
  have j2 : (f.size : Int) ≤ 1000000 := by omega
  have j3 : (r.size : Int) ≤ 1000000 := by omega
  go_wp2_with fail
  refine wp_name (fun W => Only w W ∧ Own2 W w.heap.size (.int .i64 0) (.string ⟨#[]⟩) ∧ Own3 W w2.heap.size (.bool b) (.string u) (.string f) ∧ Own2 W w3.heap.size (.string c) (.int .i64 k)) ⟨ht, o1, o2, o3⟩ ?_
  clear ht o1 o2 o3 c1 c2 c3 z2
  rintro W ⟨ht, o1, o2, o3⟩
  obtain ⟨k1, k2, k3⟩ := o2.cone
  obtain ⟨k4, k5⟩ := o3.cone
  refine wp_region_cone (by kernel_rfl) (by kernel_rfl) ?_
  repeat (any_goals (first | go_big_quiet_step ((first | (go_at_call 56; with_reducible exact Cone.call (R _)) | (go_at_call 55; with_reducible exact Cone.same (U _)))) | quiet_step ((first | (go_at_call 56; with_reducible exact Cone.call (R _)) | (go_at_call 55; with_reducible exact Cone.same (U _))))))
  refine wpQuiet_nil ?_
  rintro w6 ⟨⟨_, t6⟩, rfl⟩
  have hT6 := ht.trans t6
  obtain ⟨d1, d2, f1, f2, z1⟩ := (o1.only t6).all
  obtain ⟨c0, c1, c2, -, -, -, z2⟩ := (o2.only t6).all
  obtain ⟨e1, e2, -, -, z3⟩ := (o3.only t6).all
  clear k1 k2 k3 k4 k5 o1 o2 o3 t6
  obtain ⟨v0, v1⟩ := hv
  rcases HE.out with ⟨rfl, rfl, rfl, rfl⟩ | ⟨rfl, rfl, rfl, rfl, rfl, rfl⟩ | ⟨rfl, rfl, rfl, rfl, rfl, rfl⟩ | ⟨rfl, rfl, rfl, rfl, rfl⟩
  all_goals
    go_wp2
    simp [bodyPost, results, Tryz.results23, go_sem, World.cell?_setCell_other, d1, d2]
    exact (hT6.set (p := w.heap.size) (by omega) 0 _).set (p := w.heap.size) (by omega) 1 _

/-! ### Parse of any text -/
def pA (l : List UInt8) : List UInt8 := (cutL 32 l).1
def pC (l : List UInt8) : ByteArray := mtxt (cutL 32 l).2.1
/-- the digits of all units, at a scale -/
def pAll (l : List UInt8) (k : Int) : List UInt8 := dWhole (pA l) ++ dFrac (pA l) ++ List.replicate (k.toNat - (dFrac (pA l)).length) 48
def parseE (l : List UInt8) : Int :=
  if l.count 32 ≠ 1 ∨ dOk (pA l) = false then 10
  else if (curOf (pC l)).isSome = false then 18
  else if fK (pC l) < ((dFrac (pA l)).length : Int) then 19
  else if 4611686018427387904 < numOf (pAll l (fK (pC l))) then 6
  else if dBelow (pA l) = true ∧ numOf (pAll l (fK (pC l))) = 0 then 10 else 0
def parseN (l : List UInt8) : Int := if dBelow (pA l) = true then -(numOf (pAll l (fK (pC l))) : Int) else numOf (pAll l (fK (pC l)))

theorem fK_range (s : ByteArray) : 0 ≤ fK s ∧ fK s ≤ 3 := by
  unfold fK curOf
  split
  · simp
  split
  · simp
  split
  · simp
  split
  · simp
  split
  · simp
  split <;> simp

theorem dOk_digs {l : List UInt8} (h : dOk l = true) : digsB (dWhole l) = true ∧ digsB (dFrac l) = true := by
  unfold dOk at h
  rw [Bool.and_eq_true] at h
  obtain ⟨h1, h2⟩ := h
  constructor
  · unfold bodyB at h1
    simp only [Bool.and_eq_true] at h1
    exact h1.1.1
  · rw [Bool.or_eq_true] at h2
    rcases h2 with h2 | h2
    · unfold dFrac
      unfold dCut at h2 ⊢
      rcases cutL_index 46 (Lib.trimPrefix l [45]) with ⟨-, h⟩ | ⟨i, -, hi, h⟩
      · rw [h]; rfl
      · rw [h] at h2; simp at h2
    · rw [Bool.and_eq_true] at h2; exact h2.1

theorem digsB_append {l r : List UInt8} (h1 : digsB l = true) (h2 : digsB r = true) : digsB (l ++ r) = true := by
  unfold digsB at *; rw [List.all_append, h1, h2]; rfl
theorem digsB_noughts (k : Nat) : digsB (List.replicate k 48) = true := by
  unfold digsB; rw [List.all_eq_true]; intro c hc; obtain rfl := List.eq_of_mem_replicate hc; rfl
theorem mtxt_append (l r : List UInt8) : mtxt l ++ mtxt r = mtxt (l ++ r) := by
  apply ByteArray.ext; simp [mtxt]

theorem parse_any (s : ByteArray) (hl : s.size ≤ 100000) : ParseIs s (okI (parseE s.data.toList) (parseN s.data.toList)) (okS (parseE s.data.toList) (pC s.data.toList)) (parseE s.data.toList) := by
  obtain ⟨l, el⟩ : ∃ l, l = s.data.toList := ⟨_, rfl⟩
  have hlen : l.length ≤ 100000 := by rw [el, ← Lib.size_eq]; exact hl
  have c1 := cutL_len 32 l
  have C : CutIs s 32 (mtxt (pA l)) (pC l) (cutL 32 l).2.2 := fun w => by have := cut_any s 32 w (by omega); rw [← el] at this; exact this
  have D := decimal_any (mtxt (pA l)) (by rw [mtxt_size]; unfold pA; omega)
  rw [mtxt_list] at D
  have N : CountIs s ((l.count 32 : Nat) : Int) := fun w => by rw [el]; exact count_any s 32 w
  rw [← el]
  unfold parseE
  by_cases h1 : l.count 32 ≠ 1 ∨ dOk (pA l) = false
  · rw [if_pos h1, okI_ne (by decide), okS_ne (by decide)]
    refine parse_form C D N rfl ?_
    rcases h1 with h | h
    · left; simp; omega
    · right; exact h
  rw [if_neg h1]
  have h2 : l.count 32 = 1 := Decidable.byContradiction fun h => h1 (Or.inl h)
  have h3 : dOk (pA l) = true := by cases h : dOk (pA l) with | true => rfl | false => exact absurd (Or.inr h) h1
  rw [h2] at N
  simp only [h3, Bool.true_and, if_true] at D
  have F := find_any (pC l)
  unfold fE at F
  by_cases h4 : (curOf (pC l)).isSome = false
  · rw [if_pos h4, okI_ne (by decide), okS_ne (by decide)]
    simp only [h4, Bool.false_eq_true, if_false] at F
    rw [okS_ne (by decide), show fK (pC l) = 0 by unfold fK; rw [Option.isSome_eq_false_iff, Option.isNone_iff_eq_none] at h4; rw [h4]; rfl] at F
    exact parse_cur C D N F
  rw [if_neg h4]
  have h4 : (curOf (pC l)).isSome = true := by
    cases h : (curOf (pC l)).isSome with
    | true => rfl
    | false => exact absurd h h4
  simp only [h4, if_true, okS_0] at F
  have hfs : (mtxt (dFrac (pA l))).size = (dFrac (pA l)).length := mtxt_size _
  by_cases h5 : fK (pC l) < ((dFrac (pA l)).length : Int)
  · rw [if_pos h5, okI_ne (by decide), okS_ne (by decide)]
    exact parse_scale C D N F (by rw [hfs]; exact decide_eq_true h5)
  rw [if_neg h5]
  have hk := fK_range (pC l)
  have hd := dOk_digs h3
  have ca := cutL_len 46 (Lib.trimPrefix (pA l) [45])
  have cb := trim_len (pA l) [45]
  have cw : (dWhole (pA l)).length ≤ 100000 := by have := ca.1; have := c1.1; unfold dWhole dCut; unfold pA at *; omega
  obtain ⟨z, hz⟩ : ∃ z, z = fK (pC l) - ((dFrac (pA l)).length : Int) := ⟨_, rfl⟩
  have R : ∀ w, Calls Tryz.prog 56 #[.string ⟨#[48]⟩, .int .i64 (fK (pC l) - (mtxt (dFrac (pA l))).size)] w fun r' w' => r' = .returned (.string (mtxt (List.replicate ((fK (pC l)).toNat - (dFrac (pA l)).length) 48))) ∧ Only w w' := fun w => by
    have := repeat0_any ((fK (pC l)).toNat - (dFrac (pA l)).length) (by omega) w
    rw [hfs, show fK (pC l) - ((dFrac (pA l)).length : Int) = (((fK (pC l)).toNat - (dFrac (pA l)).length : Nat) : Int) by omega]
    exact this
  have eall : mtxt (dWhole (pA l)) ++ mtxt (dFrac (pA l)) ++ mtxt (List.replicate ((fK (pC l)).toNat - (dFrac (pA l)).length) 48) = mtxt (pAll l (fK (pC l))) := by
    rw [mtxt_append, mtxt_append]; rfl
  have hda : digsB (pAll l (fK (pC l))) = true := digsB_append (digsB_append hd.1 hd.2) (digsB_noughts _)
  have U := unitsOf_any (mtxt (pAll l (fK (pC l)))) (by rw [mtxt_size]; unfold pAll; simp only [List.length_append, List.length_replicate]; omega) (by rw [mtxt_list]; exact hda)
  rw [mtxt_list] at U
  obtain ⟨n, hn⟩ : ∃ n, n = numOf (pAll l (fK (pC l))) := ⟨_, rfl⟩
  unfold parseN
  rw [← hn] at U ⊢
  by_cases h6 : 4611686018427387904 < n
  · rw [if_pos h6, okI_ne (by decide), okS_ne (by decide)]
    simp only [show ¬ n ≤ 4611686018427387904 by omega, if_false] at U
    exact parse_end (r := mtxt (List.replicate ((fK (pC l)).toNat - (dFrac (pA l)).length) 48)) (v := 0) (g := false) (z := true) C D N F (by rw [hfs]; exact decide_eq_false h5) R (fun w => by rw [eall]; exact U w) (by decide) hk (by simp only [mtxt_size, List.length_replicate]; omega) rfl (Or.inl ⟨rfl, rfl, rfl, rfl⟩)
  rw [if_neg h6]
  simp only [show n ≤ 4611686018427387904 by omega, if_true] at U
  have E := fun m d e he => parse_end (r := mtxt (List.replicate ((fK (pC l)).toNat - (dFrac (pA l)).length) 48)) (v := n) (g := true) (z := decide ((n : Int) = 0)) (m := m) (d := d) (e := e) C D N F (by rw [hfs]; exact decide_eq_false h5) R (fun w => by rw [eall]; exact U w) ⟨by omega, by omega⟩ hk (by simp only [mtxt_size, List.length_replicate]; omega) (by rw [Bool.eq_iff_iff]; simp) he
  by_cases h7 : dBelow (pA l) = true
  · by_cases h8 : n = 0
    · rw [if_pos ⟨h7, h8⟩, okI_ne (by decide), okS_ne (by decide)]
      exact E _ _ _ (Or.inr (Or.inl ⟨rfl, h7, by simp [h8], rfl, rfl, rfl⟩))
    · rw [if_neg (fun h => h8 h.2), okI_0, okS_0, if_pos h7]
      exact E _ _ _ (Or.inr (Or.inr (Or.inl ⟨rfl, h7, by simpa using h8, rfl, rfl, rfl⟩)))
  · rw [if_neg (fun h => h7 h.1), okI_0, okS_0, if_neg h7]
    exact E _ _ _ (Or.inr (Or.inr (Or.inr ⟨rfl, by simpa using h7, rfl, rfl, rfl⟩)))
end Go.Proofs.YtopklnaahdjafaaGreatDoor
