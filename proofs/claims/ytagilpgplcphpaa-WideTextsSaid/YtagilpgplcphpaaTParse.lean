/-
  Package wide: a text read as a number.
-/
import Derived.Test.YtagilpgplcphpaaTSize
import Derived.Test.YtagilpgplcphpaaTForm
namespace Go.Proofs.Ytagilpgplcphpaa
open Go.RowKit Go.Maps Go.WideMaps
set_option linter.unusedVariables false
set_option linter.unusedSimpArgs false

/-- what Parse answers -/
def parseW (s : List UInt8) : Value := if formB s then (if In (valOf s) then .tuple #[enc (valOf s), .int .i64 0] else .tuple #[enc 0, .int .i64 6]) else .tuple #[enc 0, .int .i64 10]

/-- its steps' answers -/
def parseOf (fb fits : Bool) (i j er : Int) : Value := if fb && fits && er == 0 then .tuple #[.agg #[.int .u64 i, .int .u64 j], .int .i64 0] else if fb then .tuple #[.agg #[.int .u64 0, .int .u64 0], .int .i64 6] else .tuple #[.agg #[.int .u64 0, .int .u64 0], .int .i64 10]

abbrev FormIs (D : ByteArray) (b fb : Bool) : Prop := ∀ w, Calls Try.prog 57 #[.string D, .bool b] w fun e w' => e = .returned (.bool fb) ∧ w = w'
abbrev DigsIs (D : ByteArray) (h l : Int) (fits : Bool) : Prop := ∀ w, Calls Try.prog 58 #[.string D] w fun e w' => e = .returned (.tuple #[.agg #[.int .u64 h, .int .u64 l], .bool fits]) ∧ Only w w'
abbrev NumIs (h l : Int) (b : Bool) (i j er : Int) : Prop := ∀ w, Calls Try.prog 43 #[.agg #[.int .u64 h, .int .u64 l], .bool b] w fun e w' => e = .returned (.tuple #[.agg #[.int .u64 i, .int .u64 j], .int .i64 er]) ∧ Only w w'


set_option maxRecDepth 100000 in
set_option maxHeartbeats 3200000 in
theorem parse_empty {s D : ByteArray} (hD : s = ⟨#[]⟩) (hs : s = D) {fb fits : Bool} {h l i j er : Int} (F : FormIs D false fb) (Z : fb = true → DigsIs D h l fits) (N : fb = true → fits = true → NumIs h l false i j er) (w : World) :
    Calls Try.prog 33 #[.string s] w fun e w' => e = .returned (parseOf fb fits i j er) ∧ Only w w' := by
  subst hs
  subst hD
  have F := Lib.hid F
  have Z := Lib.hid Z
  have N := Lib.hid N
  have key : Hid ((fb = false) ∨ (fb = true ∧ fits = false) ∨ (fb = true ∧ fits = true ∧ er ≠ 0) ∨ (fb = true ∧ fits = true ∧ er = 0)) := Lib.hid (by cases fb <;> cases fits <;> simp <;> omega)
  have o1 := Own2.new w (.int .u64 0) (.int .u64 0) 24
  have ht := (Only.refl w).alloc (.cells #[.int .u64 0, .int .u64 0] 24)
  go_enter Try.func33, Try.ntmps33
  go_wp2_with fail
  go_at_call 57
  refine (F.out _).mono ?_
  rintro r w1 ⟨rfl, rfl⟩
  obtain ⟨c1, c2, f1, f2, z1⟩ := o1.all
  rcases key.out with rfl | ⟨rfl, rfl⟩ | ⟨rfl, rfl, he⟩ | ⟨rfl, rfl, rfl⟩
  · go_wp2_with fail
    simp [bodyPost, results, Try.results33, go_sem, parseOf, World.cell?_setCell_other, c1, c2]
    first | exact ht | exact (ht.set (Nat.le_refl _) 0 _).set (Nat.le_refl _) 1 _
  · go_wp2_with fail
    go_at_call 58
    refine (Z.out (by simp) _).mono ?_
    rintro r w2 ⟨rfl, t2⟩
    clear c1 c2 f1 f2 z1
    replace o1 := (o1.only t2).alloc (.cells #[.int .u64 h, .int .u64 l] 67)
    replace ht := (ht.trans t2).alloc (.cells #[.int .u64 h, .int .u64 l] 67)
    obtain ⟨c1, c2, f1, f2, z1⟩ := o1.all
    go_wp2_with fail
    simp [bodyPost, results, Try.results33, go_sem, parseOf, World.cell?_setCell_other, c1, c2]
    first | exact ht | exact (ht.set (Nat.le_refl _) 0 _).set (Nat.le_refl _) 1 _
  all_goals
    go_wp2_with fail
    go_at_call 58
    refine (Z.out (by simp) _).mono ?_
    rintro r w2 ⟨rfl, t2⟩
    clear c1 c2 f1 f2 z1
    replace o1 := (o1.only t2).alloc (.cells #[.int .u64 h, .int .u64 l] 67)
    replace ht := (ht.trans t2).alloc (.cells #[.int .u64 h, .int .u64 l] 67)
    have o2 := Own2.new w2 (.int .u64 h) (.int .u64 l) 67
    obtain ⟨c1, c2, f1, f2, z1⟩ := o2.all
    go_wp2_with fail
    go_at_call 43
    refine (N.out (by simp) (by simp) _).mono ?_
    rintro r w3 ⟨rfl, t3⟩
    clear c1 c2 f1 f2 z1 o2
    replace o1 := (o1.only t3).alloc (.cells #[.int .u64 i, .int .u64 j] 24)
    replace ht := (ht.trans t3).alloc (.cells #[.int .u64 i, .int .u64 j] 24)
    have o3 := Own2.new w3 (.int .u64 i) (.int .u64 j) 24
    obtain ⟨c1, c2, f1, f2, z1⟩ := o1.all
    obtain ⟨d1, d2, g1, g2, y1⟩ := o3.all
    first
      | (have q1 : (er == 0) = false := by simpa using he
         have q2 : (er != 0) = true := by simpa using he
         clear he
         go_wp2_with fail
         simp [bodyPost, results, Try.results33, go_sem, parseOf, q1, World.cell?_setCell_other, c1, c2]
         first | exact ht | exact (ht.set (Nat.le_refl _) 0 _).set (Nat.le_refl _) 1 _)
      | (go_wp2_with fail
         simp [bodyPost, results, Try.results33, go_sem, parseOf, World.cell?_setCell_other, c1, c2]
         first | exact ht | exact (ht.set (Nat.le_refl _) 0 _).set (Nat.le_refl _) 1 _)

set_option maxRecDepth 100000 in
set_option maxHeartbeats 3200000 in
theorem parse_plus {s D : ByteArray} (hs0 : 0 < s.size) (h45 : ((s[0].toNat : Int) == 45) = false) (hs : s = D) (hl : s.size ≤ 1000000) {fb fits : Bool} {h l i j er : Int} (F : FormIs D false fb) (Z : fb = true → DigsIs D h l fits) (N : fb = true → fits = true → NumIs h l false i j er) (w : World) :
    Calls Try.prog 33 #[.string s] w fun e w' => e = .returned (parseOf fb fits i j er) ∧ Only w w' := by
  subst hs
  have i0 : (0 : Int) < (s.size : Int) := by omega
  have i1 : (s.size : Int) ≤ 1000000 := by omega
  have F := Lib.hid F
  have Z := Lib.hid Z
  have N := Lib.hid N
  have key : Hid ((fb = false) ∨ (fb = true ∧ fits = false) ∨ (fb = true ∧ fits = true ∧ er ≠ 0) ∨ (fb = true ∧ fits = true ∧ er = 0)) := Lib.hid (by cases fb <;> cases fits <;> simp <;> omega)
  have o1 := Own2.new w (.int .u64 0) (.int .u64 0) 24
  have ht := (Only.refl w).alloc (.cells #[.int .u64 0, .int .u64 0] 24)
  go_enter Try.func33, Try.ntmps33
  go_wp2_with fail
  go_at_call 57
  refine (F.out _).mono ?_
  rintro r w1 ⟨rfl, rfl⟩
  obtain ⟨c1, c2, f1, f2, z1⟩ := o1.all
  rcases key.out with rfl | ⟨rfl, rfl⟩ | ⟨rfl, rfl, he⟩ | ⟨rfl, rfl, rfl⟩
  · go_wp2_with fail
    simp [bodyPost, results, Try.results33, go_sem, parseOf, World.cell?_setCell_other, c1, c2]
    first | exact ht | exact (ht.set (Nat.le_refl _) 0 _).set (Nat.le_refl _) 1 _
  · go_wp2_with fail
    go_at_call 58
    refine (Z.out (by simp) _).mono ?_
    rintro r w2 ⟨rfl, t2⟩
    clear c1 c2 f1 f2 z1
    replace o1 := (o1.only t2).alloc (.cells #[.int .u64 h, .int .u64 l] 67)
    replace ht := (ht.trans t2).alloc (.cells #[.int .u64 h, .int .u64 l] 67)
    obtain ⟨c1, c2, f1, f2, z1⟩ := o1.all
    go_wp2_with fail
    simp [bodyPost, results, Try.results33, go_sem, parseOf, World.cell?_setCell_other, c1, c2]
    first | exact ht | exact (ht.set (Nat.le_refl _) 0 _).set (Nat.le_refl _) 1 _
  all_goals
    go_wp2_with fail
    go_at_call 58
    refine (Z.out (by simp) _).mono ?_
    rintro r w2 ⟨rfl, t2⟩
    clear c1 c2 f1 f2 z1
    replace o1 := (o1.only t2).alloc (.cells #[.int .u64 h, .int .u64 l] 67)
    replace ht := (ht.trans t2).alloc (.cells #[.int .u64 h, .int .u64 l] 67)
    have o2 := Own2.new w2 (.int .u64 h) (.int .u64 l) 67
    obtain ⟨c1, c2, f1, f2, z1⟩ := o2.all
    go_wp2_with fail
    go_at_call 43
    refine (N.out (by simp) (by simp) _).mono ?_
    rintro r w3 ⟨rfl, t3⟩
    clear c1 c2 f1 f2 z1 o2
    replace o1 := (o1.only t3).alloc (.cells #[.int .u64 i, .int .u64 j] 24)
    replace ht := (ht.trans t3).alloc (.cells #[.int .u64 i, .int .u64 j] 24)
    have o3 := Own2.new w3 (.int .u64 i) (.int .u64 j) 24
    obtain ⟨c1, c2, f1, f2, z1⟩ := o1.all
    obtain ⟨d1, d2, g1, g2, y1⟩ := o3.all
    first
      | (have q1 : (er == 0) = false := by simpa using he
         have q2 : (er != 0) = true := by simpa using he
         clear he
         go_wp2_with fail
         simp [bodyPost, results, Try.results33, go_sem, parseOf, q1, World.cell?_setCell_other, c1, c2]
         first | exact ht | exact (ht.set (Nat.le_refl _) 0 _).set (Nat.le_refl _) 1 _)
      | (go_wp2_with fail
         simp [bodyPost, results, Try.results33, go_sem, parseOf, World.cell?_setCell_other, c1, c2]
         first | exact ht | exact (ht.set (Nat.le_refl _) 0 _).set (Nat.le_refl _) 1 _)

set_option maxRecDepth 100000 in
set_option maxHeartbeats 3200000 in
theorem parse_minus {s D : ByteArray} (hs0 : 0 < s.size) (h45 : ((s[0].toNat : Int) == 45) = true) (hs : s.extract 1 s.size = D) (hl : s.size ≤ 1000000) {fb fits : Bool} {h l i j er : Int} (F : FormIs D true fb) (Z : fb = true → DigsIs D h l fits) (N : fb = true → fits = true → NumIs h l true i j er) (w : World) :
    Calls Try.prog 33 #[.string s] w fun e w' => e = .returned (parseOf fb fits i j er) ∧ Only w w' := by
  have i0 : (0 : Int) < (s.size : Int) := by omega
  have i1 : (s.size : Int) ≤ 1000000 := by omega
  have i2 : (1 : Int) ≤ (s.size : Int) := by omega
  have F := Lib.hid F
  have Z := Lib.hid Z
  have N := Lib.hid N
  have key : Hid ((fb = false) ∨ (fb = true ∧ fits = false) ∨ (fb = true ∧ fits = true ∧ er ≠ 0) ∨ (fb = true ∧ fits = true ∧ er = 0)) := Lib.hid (by cases fb <;> cases fits <;> simp <;> omega)
  have o1 := Own2.new w (.int .u64 0) (.int .u64 0) 24
  have ht := (Only.refl w).alloc (.cells #[.int .u64 0, .int .u64 0] 24)
  go_enter Try.func33, Try.ntmps33
  go_wp2_with fail
  go_at_call 57
  refine (F.out _).mono ?_
  rintro r w1 ⟨rfl, rfl⟩
  obtain ⟨c1, c2, f1, f2, z1⟩ := o1.all
  rcases key.out with rfl | ⟨rfl, rfl⟩ | ⟨rfl, rfl, he⟩ | ⟨rfl, rfl, rfl⟩
  · go_wp2_with fail
    simp [bodyPost, results, Try.results33, go_sem, parseOf, World.cell?_setCell_other, c1, c2]
    first | exact ht | exact (ht.set (Nat.le_refl _) 0 _).set (Nat.le_refl _) 1 _
  · go_wp2_with fail
    go_at_call 58
    refine (Z.out (by simp) _).mono ?_
    rintro r w2 ⟨rfl, t2⟩
    clear c1 c2 f1 f2 z1
    replace o1 := (o1.only t2).alloc (.cells #[.int .u64 h, .int .u64 l] 67)
    replace ht := (ht.trans t2).alloc (.cells #[.int .u64 h, .int .u64 l] 67)
    obtain ⟨c1, c2, f1, f2, z1⟩ := o1.all
    go_wp2_with fail
    simp [bodyPost, results, Try.results33, go_sem, parseOf, World.cell?_setCell_other, c1, c2]
    first | exact ht | exact (ht.set (Nat.le_refl _) 0 _).set (Nat.le_refl _) 1 _
  all_goals
    go_wp2_with fail
    go_at_call 58
    refine (Z.out (by simp) _).mono ?_
    rintro r w2 ⟨rfl, t2⟩
    clear c1 c2 f1 f2 z1
    replace o1 := (o1.only t2).alloc (.cells #[.int .u64 h, .int .u64 l] 67)
    replace ht := (ht.trans t2).alloc (.cells #[.int .u64 h, .int .u64 l] 67)
    have o2 := Own2.new w2 (.int .u64 h) (.int .u64 l) 67
    obtain ⟨c1, c2, f1, f2, z1⟩ := o2.all
    go_wp2_with fail
    go_at_call 43
    refine (N.out (by simp) (by simp) _).mono ?_
    rintro r w3 ⟨rfl, t3⟩
    clear c1 c2 f1 f2 z1 o2
    replace o1 := (o1.only t3).alloc (.cells #[.int .u64 i, .int .u64 j] 24)
    replace ht := (ht.trans t3).alloc (.cells #[.int .u64 i, .int .u64 j] 24)
    have o3 := Own2.new w3 (.int .u64 i) (.int .u64 j) 24
    obtain ⟨c1, c2, f1, f2, z1⟩ := o1.all
    obtain ⟨d1, d2, g1, g2, y1⟩ := o3.all
    first
      | (have q1 : (er == 0) = false := by simpa using he
         have q2 : (er != 0) = true := by simpa using he
         clear he
         go_wp2_with fail
         simp [bodyPost, results, Try.results33, go_sem, parseOf, q1, World.cell?_setCell_other, c1, c2]
         first | exact ht | exact (ht.set (Nat.le_refl _) 0 _).set (Nat.le_refl _) 1 _)
      | (go_wp2_with fail
         simp [bodyPost, results, Try.results33, go_sem, parseOf, World.cell?_setCell_other, c1, c2]
         first | exact ht | exact (ht.set (Nat.le_refl _) 0 _).set (Nat.le_refl _) 1 _)

theorem head_45 {s : ByteArray} (h : 0 < s.size) : ((s[0].toNat : Int) == 45) = (s.data.toList.headD 0 == 45) := head_is h 45

theorem parse_step {D : ByteArray} {b fb : Bool} (hl : D.size ≤ 1000000) (hfb : fb = (bodyB D.data.toList && !(b && D.data.toList == [48]))) {S : List UInt8} (hf : formB S = fb) (hv : fb = true → valOf S = if b then -(numOf D.data.toList : Int) else (numOf D.data.toList : Int)) :
    ∃ (h l i j er : Int) (fits : Bool), FormIs D b fb ∧ (fb = true → DigsIs D h l fits) ∧ (fb = true → fits = true → NumIs h l b i j er) ∧ parseOf fb fits i j er = parseW S := by
  have F : FormIs D b fb := fun w => by have := formed_any D hl b w; rw [hfb]; exact this
  cases fb with
  | false => exact ⟨0, 0, 0, 0, 0, false, F, by simp, by simp, by unfold parseOf parseW; rw [hf]; rfl⟩
  | true =>
    have hd : digsB D.data.toList = true := by
      have := hfb.symm
      unfold bodyB at this
      simp only [Bool.and_eq_true] at this
      exact this.1.1.1
    by_cases hu : Un (numOf D.data.toList : Int)
    · obtain ⟨h, l, -, -, -, -, -, e1⟩ := enc_words (numOf D.data.toList : Int)
      have Z : DigsIs D h l true := fun w => sizeOfDigits_walk hl hd (by rw [if_pos hu, e1]) w
      have N := fun w => number_any hu b w
      rw [e1, ← hv rfl] at N
      by_cases hin : In (valOf S)
      · obtain ⟨i, j, -, -, -, -, -, e2⟩ := enc_words (valOf S)
        rw [ans_in hin, e2] at N
        refine ⟨h, l, i, j, 0, true, F, fun _ => Z, fun _ _ => N, ?_⟩
        unfold parseOf parseW
        rw [hf, if_pos rfl, if_pos hin, e2]; rfl
      · obtain ⟨i, j, -, -, -, -, -, e2⟩ := enc_words 0
        rw [ans_out hin, e2] at N
        refine ⟨h, l, i, j, 16, true, F, fun _ => Z, fun _ _ => N, ?_⟩
        unfold parseOf parseW
        rw [hf, if_pos rfl, if_neg hin]; rfl
    · have Z : DigsIs D 0 0 false := fun w => sizeOfDigits_walk hl hd (by rw [if_neg hu]) w
      refine ⟨0, 0, 0, 0, 0, false, F, fun _ => Z, fun _ (h : false = true) => absurd h (by decide), ?_⟩
      have hin : ¬ In (valOf S) := fun hin => hu (by
        rw [hv rfl] at hin
        obtain ⟨a, c⟩ := hin
        unfold Un
        cases b <;> simp at a c <;> omega)
      unfold parseOf parseW
      rw [hf, if_pos rfl, if_neg hin]; rfl

theorem parse_any (s : ByteArray) (hl : s.size ≤ 1000000) (w : World) : Calls Try.prog 33 #[.string s] w fun e w' => e = .returned (parseW s.data.toList) ∧ Only w w' := by
  have bl := blen s
  by_cases h0 : s.size = 0
  · have e : s = ⟨#[]⟩ := by
      apply ByteArray.ext
      apply Array.eq_empty_of_size_eq_zero
      exact h0
    have el : s.data.toList = [] := by rw [e]
    obtain ⟨h, l, i, j, er, fits, F, Z, N, hp⟩ := parse_step (D := s) (b := false) (fb := false) hl (by rw [el]; rfl) (S := s.data.toList) (by rw [el]; rfl) (fun h => by cases h)
    have := parse_empty e rfl F Z N w
    rw [hp] at this
    exact this
  have hs0 : 0 < s.size := by omega
  by_cases hh : ((s[0].toNat : Int) == 45) = true
  · obtain ⟨D, hD⟩ : ∃ D, s.extract 1 s.size = D := ⟨_, rfl⟩
    have ht : D.data.toList = s.data.toList.tail := by rw [← hD]; exact extract_tail s
    have hl2 : D.size ≤ 1000000 := by rw [← blen D, ht, List.length_tail]; omega
    have h45 := hh
    rw [head_45 hs0] at h45
    have h45' : s.data.toList.headD 0 = 45 := by simpa using h45
    obtain ⟨h, l, i, j, er, fits, F, Z, N, hp⟩ := parse_step (D := D) (b := true) hl2 rfl (S := s.data.toList) (by
      rw [ht]
      unfold formB
      by_cases h1 : 1 < s.data.toList.length
      · rw [if_pos ⟨h1, h45'⟩]; simp
      · rw [if_neg (fun q => h1 q.1)]
        match hs : s.data.toList with
        | [] => rw [hs] at bl; simp at bl; omega
        | [x] =>
          rw [hs] at h45'
          simp at h45'
          subst h45'
          decide
        | x :: y :: t => rw [hs] at h1; simp at h1) (fun _ => by unfold valOf; rw [if_pos h45', ht]; rfl)
    have := parse_minus hs0 hh hD hl F Z N w
    rw [hp] at this
    exact this
  · have hh' : ((s[0].toNat : Int) == 45) = false := by simpa using hh
    have h45 := hh'
    rw [head_45 hs0] at h45
    have h45' : ¬ s.data.toList.headD 0 = 45 := by simpa using h45
    obtain ⟨h, l, i, j, er, fits, F, Z, N, hp⟩ := parse_step (D := s) (b := false) hl rfl (S := s.data.toList) (by
      unfold formB
      rw [if_neg (fun q => h45' q.2)]; simp) (fun _ => by unfold valOf; rw [if_neg h45']; rfl)
    have := parse_plus hs0 hh' rfl hl F Z N w
    rw [hp] at this
    exact this
end Go.Proofs.Ytagilpgplcphpaa
