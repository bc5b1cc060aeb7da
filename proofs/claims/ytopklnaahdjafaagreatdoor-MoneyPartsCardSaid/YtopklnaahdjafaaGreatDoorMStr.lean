/-
  String.
-/
import Derived.Test.YtopklnaahdjafaaGreatDoorMDec
import Derived.Test.YtopklnaahdjafaaGreatDoorMBeside
import Derived.Lib.SmallJoins
import Derived.Lib.LaidTab
namespace Go.Proofs.YtopklnaahdjafaaGreatDoor
open Go.RowKit Go.Shelf Go.Joins
set_option linter.unusedVariables false

/-- the library's table of powers lies where it lay -/
def Pow (w : World) : Prop := Lib.TabIs Tryz.prog w "internal/strconv.uint64pow10" .u64 Lib.pow10Tab
theorem gPowM : Tryz.prog.globalNamed "internal/strconv.uint64pow10" = some 3 := by kernel_rfl
theorem Pow.only {w w' : World} (h : Pow w) (t : Only w w') : Pow w' := tab_stays gPowM h t (Nat.le_refl _)

theorem grow_only (w : World) (k : Nat) (os : Array Obj) : Only w (Go.Sort.grow (w.drewN k) os) :=
  Turn.only ⟨rfl, rfl, rfl, by simp [Go.Sort.grow, World.drewN], fun i hi _ => by simp [Go.Sort.grow, World.drewN, Array.getElem?_append, hi]⟩

theorem itoaM_any (n : Int) (hn : -9223372036854775808 ≤ n ∧ n < 9223372036854775808) {w : World} (hP : Pow w) : Calls Tryz.prog 62 #[.int .i64 n] w fun r w' => r = .returned (.string (mtxt (Lib.itoa n))) ∧ Only w w' :=
  (Any.strconv_Itoa Tryz.laysM171 n hn.1 (by omega) w hP).mono fun r w' h => ⟨h.1, by obtain ⟨k, os, e⟩ := h.2; rw [e]; exact grow_only w k os⟩

abbrev ItoaIs (w : World) (n : Int) (x : ByteArray) : Prop := ∀ W, Only w W → Calls Tryz.prog 62 #[.int .i64 n] W fun r w' => r = .returned (.string x) ∧ Only W w'
abbrev StringIs (w : World) (u : Int) (s x : ByteArray) : Prop := Calls Tryz.prog 25 #[.agg #[.int .i64 u, .string s]] w fun r w' => r = .returned (.string x) ∧ Only w w'

theorem string_bad {u k e : Int} {s c : ByteArray} (C : CurIs u s c k e) (h1 : (e == 0) = false) (h2 : (e != 0) = true) (w : World) : StringIs w u s ⟨#[]⟩ := by
  have C := Lib.hid C
  have ht := (Only.refl w).alloc (.cells #[.int .i64 u, .string s] 23)
  go_enter Tryz.func25, Tryz.ntmps25
  go_wp2_with fail
  go_at_call 40
  refine (C.out _).mono ?_
  rintro r w1 ⟨rfl, t1⟩
  have ht := (ht.trans t1).alloc (.cells #[.string c, .int .i64 k] 45)
  clear t1
  go_wp2
  go_ret
  exact ⟨rfl, ht⟩

theorem string_good {u : Int} {k pt : Nat} {s c x d r y : ByteArray} {b z : Bool} {w : World} (C : CurIs u s c k 0) (I : ItoaIs w u x) (P : CutPIs x d b)
    (R : ∀ w, Calls Tryz.prog 56 #[.string ⟨#[48]⟩, .int .i64 (max 0 ((k : Int) + 1 - (d.size : Int)))] w fun r' w' => r' = .returned (.string r) ∧ Only w w')
    (hy : r ++ d = y) (hp : (y.size : Int) - (k : Int) = (pt : Int)) (hz : decide (0 < k) = z) (hb : k ≤ 3 ∧ d.size ≤ 1000 ∧ r.size ≤ 1000 ∧ y.size ≤ 2000 ∧ c.size ≤ 2000) :
    StringIs w u s ((if b then ⟨#[45]⟩ ++ (if z then y.extract 0 pt ++ (⟨#[46]⟩ ++ y.extract pt y.size) else y.extract 0 pt) else (if z then y.extract 0 pt ++ (⟨#[46]⟩ ++ y.extract pt y.size) else y.extract 0 pt)) ++ ⟨#[32]⟩ ++ c) := by
  have C := Lib.hid C
  have I := Lib.hid I
  have HY := Lib.hid hy
  have HP := Lib.hid hp
  clear hy hp
  have ht := (Only.refl w).alloc (.cells #[.int .i64 u, .string s] 23)
  have o1 := Own2.new w (.int .i64 u) (.string s) 23
  go_enter Tryz.func25, Tryz.ntmps25
  go_wp2_with fail
  go_at_call 40
  refine (C.out _).mono ?_
  rintro r' w1 ⟨rfl, t1⟩
  have hT := (ht.trans t1).alloc (.cells #[.string c, .int .i64 k] 45)
  have o2 := Own2.new w1 (.string c) (.int .i64 k) 45
  obtain ⟨d1, d2, f1, f2, z1⟩ := ((o1.only t1).alloc (.cells #[.string c, .int .i64 k] 45)).all
  clear t1 ht o1
  go_wp2_with fail
  go_at_call 62
  refine (I.out _ hT).mono ?_
  rintro r' w2 ⟨rfl, t2⟩
  have hT2 := hT.trans t2
  have o2 := o2.only t2
  obtain ⟨c1, c2, -, -, z2⟩ := o2.all
  clear d1 d2 f1 f2 z1 hT t2
  have i1 : (k : Int) ≤ 3 := by omega
  have i2 : (d.size : Int) ≤ 1000 := by omega
  go_wp2_with (go_at_call 61; refine (P _).mono ?_; rintro r' w' ⟨rfl, rfl⟩)
  refine (R _).mono ?_
  rintro r' w3 ⟨rfl, t3⟩
  have hT3 := hT2.trans t3
  obtain ⟨c1, c2, -, -, z2⟩ := (o2.only t3).all
  clear hT2 t3 o2
  have hy := HY.out
  have hp := HP.out
  have j1 : (r.size : Int) ≤ 1000 := by omega
  have j2 : (y.size : Int) ≤ 2000 := by omega
  have j3 : (c.size : Int) ≤ 2000 := by omega
  have j4 : (0 : Int) ≤ (pt : Int) := by omega
  have j5 : (pt : Int) ≤ (y.size : Int) := by omega
  cases b <;> cases z
  all_goals
    go_wp2
    go_ret
    exact ⟨rfl, hT3⟩

/-! ### the text of any amount -/
theorem lowDigits_snoc (m k : Nat) : lowDigits m (k + 1) = lowDigits (m / 10) k ++ [dig1 m] := by
  induction k with
  | zero => simp [lowDigits]
  | succ k ih =>
    rw [lowDigits, ih]
    have e : m / 10 ^ (k + 1) = m / 10 / 10 ^ k := by rw [Nat.pow_succ, Nat.mul_comm, Nat.div_div_eq_div_mul]
    rw [e]; rfl
theorem dec_text (n : Nat) : Lib.decDigits n = natText n := by
  induction n using Nat.strongRecOn with
  | _ n ih =>
    rw [Lib.decDigits]
    unfold natText
    rw [dlen]
    split
    · rename_i h
      simp [lowDigits, dig1, Nat.mod_eq_of_lt h]
    · rename_i h
      rw [ih (n / 10) (by omega), lowDigits_snoc]
      rfl
theorem itoa_text (n : Int) : Lib.itoa n = intText n := by
  unfold Lib.itoa intText
  split
  · rw [dec_text]; rfl
  · rw [dec_text, List.nil_append]; congr 1; omega

/-- all digits of an amount's units -/
def strD (u : Int) (k : Nat) : List UInt8 := List.replicate (k + 1 - (natText u.natAbs).length) 48 ++ natText u.natAbs
def strL (u : Int) (s : ByteArray) : List UInt8 :=
  if curE u s = 0 then
    (if u < 0 then [45] else []) ++ ((strD u (fK s).toNat).take ((strD u (fK s).toNat).length - (fK s).toNat) ++ (if 0 < (fK s).toNat then [46] ++ (strD u (fK s).toNat).drop ((strD u (fK s).toNat).length - (fK s).toNat) else [])) ++ [32] ++ s.data.toList
  else []

theorem strD_len (u : Int) (k : Nat) : k < (strD u k).length := by
  have := natText_ne u.natAbs
  have h2 : 0 < (natText u.natAbs).length := List.length_pos_iff.2 this
  unfold strD; rw [List.length_append, List.length_replicate]; omega

theorem trim_text (u : Int) : Lib.trimPrefix (intText u) [45] = natText u.natAbs ∧ Lib.hasPrefix (intText u) [45] = decide (u < 0) := by
  unfold Lib.trimPrefix Lib.hasPrefix intText
  by_cases h : u < 0
  · rw [if_pos h]; simp [h]
  · rw [if_neg h, List.nil_append]
    obtain ⟨r, hr⟩ := natText_head u.natAbs
    have h1 := natText_first u.natAbs
    rw [hr] at h1 ⊢
    have e : ([45] : List UInt8).isPrefixOf (dig1 (u.natAbs / 10 ^ (dlen u.natAbs - 1)) :: r) = false := by
      simp only [List.headD_cons] at h1
      simp [List.isPrefixOf, Ne.symm h1]
    rw [e]; simp [h]

theorem text_len {u : Int} (h : Bd u) : (natText u.natAbs).length ≤ 19 := by
  obtain ⟨a, b⟩ := h
  rw [natText_length]
  exact dlen_lim (by omega) (by decide)

theorem extract_mtxt (l : List UInt8) (a b : Nat) : (mtxt l).extract a b = mtxt ((l.drop a).take (b - a)) := by rw [Lib.extract_eq]

theorem curE_bd' {u : Int} {s : ByteArray} (h : curE u s = 0) : Bd u := by
  unfold curE at h
  split at h
  · split at h
    · assumption
    · omega
  · omega
theorem fK_known {s : ByteArray} (h : (curOf s).isSome = true) : s.size = 3 := by
  unfold curOf at h
  split at h
  · rename_i e; rw [e]; rfl
  split at h
  · rename_i e; rw [e]; rfl
  split at h
  · rename_i e; rw [e]; rfl
  split at h
  · rename_i e; rw [e]; rfl
  split at h
  · rename_i e; rw [e]; rfl
  split at h
  · rename_i e; rw [e]; rfl
  · cases h
theorem curE_known {u : Int} {s : ByteArray} (h : curE u s = 0) : (curOf s).isSome = true := by
  unfold curE at h
  split at h
  · assumption
  · omega
theorem fK_rng (s : ByteArray) : 0 ≤ fK s ∧ fK s ≤ 3 := by
  unfold fK curOf
  split
  · simp
  split
  · simp
  split
  · simp
  split
  · simp
  split
  · simp
  split <;> simp

theorem mtxt_app (l r : List UInt8) : mtxt l ++ mtxt r = mtxt (l ++ r) := by
  apply ByteArray.ext; simp [mtxt]

theorem mtxt_app_r (l : List UInt8) (s : ByteArray) : mtxt l ++ s = mtxt (l ++ s.data.toList) := by
  apply ByteArray.ext; simp [mtxt]

theorem string_anyM (u : Int) (s : ByteArray) {w : World} (hP : Pow w) : StringIs w u s (mtxt (strL u s)) := by
  have C := currency_any u s
  unfold strL
  by_cases h : curE u s = 0
  · rw [if_pos h]
    rw [h, okS_0, okI_0] at C
    have hb := curE_bd' h
    have hk := fK_rng s
    have hsz := fK_known (curE_known h)
    obtain ⟨k, hk2⟩ : ∃ k, k = (fK s).toNat := ⟨_, rfl⟩
    have hkk : fK s = (k : Int) := by omega
    rw [← hk2]
    rw [hkk] at C
    have I : ItoaIs w u (mtxt (intText u)) := fun W t => by
      have := itoaM_any u ⟨by have := hb.1; omega, by have := hb.2; omega⟩ (hP.only t)
      rw [itoa_text] at this; exact this
    obtain ⟨t1, t2⟩ := trim_text u
    have P : CutPIs (mtxt (intText u)) (mtxt (natText u.natAbs)) (decide (u < 0)) := fun w => by
      have := cutPrefix_any (mtxt (intText u)) ⟨#[45]⟩ w
      rw [mtxt_list, show (⟨#[45]⟩ : ByteArray).data.toList = [45] from rfl, t1, t2] at this
      exact this
    have hl := text_len hb
    have hds : (mtxt (natText u.natAbs)).size = (natText u.natAbs).length := mtxt_size _
    have R : ∀ w, Calls Tryz.prog 56 #[.string ⟨#[48]⟩, .int .i64 (max 0 ((k : Int) + 1 - ((mtxt (natText u.natAbs)).size : Int)))] w fun r' w' => r' = .returned (.string (mtxt (List.replicate (k + 1 - (natText u.natAbs).length) 48))) ∧ Only w w' := fun w => by
      rw [hds, show max 0 ((k : Int) + 1 - ((natText u.natAbs).length : Int)) = ((k + 1 - (natText u.natAbs).length : Nat) : Int) by omega]
      exact repeat0_any _ (by omega) w
    have hD := strD_len u k
    have hDl : (strD u k).length ≤ 30 := by unfold strD; rw [List.length_append, List.length_replicate]; omega
    have G := string_good (y := mtxt (strD u k)) (pt := (strD u k).length - k) (z := decide (0 < k)) C I P R (by rw [mtxt_app]; rfl) (by rw [mtxt_size]; omega) rfl ⟨by omega, by rw [hds]; omega, by rw [mtxt_size, List.length_replicate]; omega, by rw [mtxt_size]; omega, by omega⟩
    rw [mtxt_size, extract_mtxt, extract_mtxt, List.drop_zero, Nat.sub_zero, List.take_of_length_le (l := List.drop _ _) (by rw [List.length_drop]; exact Nat.le_refl _)] at G
    generalize (strD u k).take ((strD u k).length - k) = A at G ⊢
    generalize (strD u k).drop ((strD u k).length - k) = B at G ⊢
    have e32 : (⟨#[32]⟩ : ByteArray) = mtxt [32] := rfl
    have e45 : (⟨#[45]⟩ : ByteArray) = mtxt [45] := rfl
    have e46 : (⟨#[46]⟩ : ByteArray) = mtxt [46] := rfl
    rw [e32, e45, e46] at G
    by_cases q1 : u < 0 <;> by_cases q2 : 0 < k
    all_goals
      simp only [q1, q2, decide_true, decide_false, if_true, if_false, Bool.false_eq_true] at G ⊢
      simp only [mtxt_app_r] at G
      simpa only [List.append_assoc, List.nil_append, List.append_nil, List.cons_append] using G
  · rw [if_neg h]
    exact string_bad C (ne_eqs h).1 (ne_eqs h).2 w
end Go.Proofs.YtopklnaahdjafaaGreatDoor
