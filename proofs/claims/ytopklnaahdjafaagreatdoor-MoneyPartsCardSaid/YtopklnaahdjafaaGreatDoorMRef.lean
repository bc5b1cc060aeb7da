/-
  The document's currencies and amounts (exref6): which may be.
-/
import Derived.Test.YtopklnaahdjafaaGreatDoorMCur
import Derived.Test.YtopklnaahdjafaaGreatDoorMBeside
import Derived.Test.YtopklnaahdjafaaGreatDoorMParse2
namespace Go.Proofs.YtopklnaahdjafaaGreatDoor
open Go.RowKit Go.Shelf
set_option linter.unusedVariables false

/-- block b holds these cells -/
def BlkIs (w : World) (b : Nat) (cs : Array Value) : Prop := ∃ ty, w.heap[b]? = some (.cells cs ty)
theorem BlkIs.lt {w : World} {b : Nat} {cs : Array Value} (h : BlkIs w b cs) : b < w.heap.size := by
  obtain ⟨ty, h⟩ := h; exact (Array.getElem?_eq_some_iff.1 h).1
theorem BlkIs.only {w w' : World} {b : Nat} {cs : Array Value} (h : BlkIs w b cs) (t : Only w w') : BlkIs w' b cs := by
  have := h.lt
  obtain ⟨ty, h⟩ := h
  exact ⟨ty, (t.block b this).trans h⟩
theorem BlkIs.cell {w : World} {b : Nat} {cs : Array Value} (h : BlkIs w b cs) (j : Nat) (v : Value) (e : cs[j]? = some v) : w.cell? ⟨b, j, none⟩ = some v := by
  obtain ⟨ty, h⟩ := h; simp [World.cell?, h, e]

def codeCells : Array Value := #[.string ⟨#[67, 72, 70]⟩, .string ⟨#[69, 85, 82]⟩, .string ⟨#[71, 66, 80]⟩, .string ⟨#[74, 80, 89]⟩, .string ⟨#[75, 87, 68]⟩, .string ⟨#[85, 83, 68]⟩]
def scaleCells : Array Value := #[.int .i64 2, .int .i64 2, .int .i64 2, .int .i64 0, .int .i64 3, .int .i64 2]

theorem codes_any (w : World) : Calls Tryz.prog 17 #[] w fun e w' => e = .returned (.slice (some ⟨w.heap.size, 0, none⟩) 6 6) ∧ BlkIs w' w.heap.size codeCells ∧ Only w w' := by
  go_enter Tryz.func17, Tryz.ntmps17
  go_wp2
  go_ret
  exact ⟨rfl, ⟨_, heap_alloc_new w _⟩, (Only.refl w).alloc _⟩

/-- the scale, by what the comparisons say; -1 if there is none -/
def scaQ (q0 q1 q2 q3 q4 q5 : Bool) : Int := if q0 then 2 else if q1 then 2 else if q2 then 2 else if q3 then 0 else if q4 then 3 else if q5 then 2 else -1

set_option maxHeartbeats 800000 in
theorem scale_walk {s : ByteArray} {q0 q1 q2 q3 q4 q5 : Bool} (w : World)
    (e0 : ((⟨#[67, 72, 70]⟩ : ByteArray).toList == s.toList) = q0) (e1 : ((⟨#[69, 85, 82]⟩ : ByteArray).toList == s.toList) = q1) (e2 : ((⟨#[71, 66, 80]⟩ : ByteArray).toList == s.toList) = q2)
    (e3 : ((⟨#[74, 80, 89]⟩ : ByteArray).toList == s.toList) = q3) (e4 : ((⟨#[75, 87, 68]⟩ : ByteArray).toList == s.toList) = q4) (e5 : ((⟨#[85, 83, 68]⟩ : ByteArray).toList == s.toList) = q5) :
    Calls Tryz.prog 18 #[.string s] w fun e w' => e = .returned (.int .i64 (scaQ q0 q1 q2 q3 q4 q5)) ∧ Only w w' := by
  have E0 := Lib.hid e0
  have E1 := Lib.hid e1
  have E2 := Lib.hid e2
  have E3 := Lib.hid e3
  have E4 := Lib.hid e4
  have E5 := Lib.hid e5
  clear e0 e1 e2 e3 e4 e5
  have b1 : BlkIs (w.alloc (.cells scaleCells 3)) w.heap.size scaleCells := ⟨_, heap_alloc_new w _⟩
  have t1 := (Only.refl w).alloc (.cells scaleCells 3)
  unfold scaleCells at t1
  go_enter Tryz.func18, Tryz.ntmps18
  go_wp2_with fail
  go_at_call 17
  refine (codes_any _).mono ?_
  rintro r w2 ⟨rfl, L2, t2⟩
  replace L2 : BlkIs w2 (w.heap.size + 1) codeCells := by simpa using L2
  have B2 : BlkIs w2 w.heap.size scaleCells := b1.only t2
  have T2 := t1.trans t2
  clear b1 t1 t2
  have HL := Lib.hid L2
  have HB := Lib.hid B2
  have HT := Lib.hid T2
  clear L2 B2 T2
  go_wp2_with fail
  go_loop [5] (fun i => ∃ k : Int, 0 ≤ k ∧ k ≤ 6 ∧ i = .int .i64 k ∧ (1 ≤ k → q0 = false) ∧ (2 ≤ k → q1 = false) ∧ (3 ≤ k → q2 = false) ∧ (4 ≤ k → q3 = false) ∧ (5 ≤ k → q4 = false) ∧ (6 ≤ k → q5 = false)) (fun i => 6 - (intOf i).toNat)
  case atStart => exact ⟨0, by omega, by omega, rfl, by omega, by omega, by omega, by omega, by omega, by omega⟩
  case round =>
    obtain ⟨k, hk0, hk, rfl, h1, h2, h3, h4, h5, h6⟩ := hrel
    rcases (by omega : k = 0 ∨ k = 1 ∨ k = 2 ∨ k = 3 ∨ k = 4 ∨ k = 5 ∨ k = 6) with rfl | rfl | rfl | rfl | rfl | rfl | rfl
    · have c0 := HL.out.cell 0 (.string ⟨#[67, 72, 70]⟩) rfl
      have c1 := HB.out.cell 0 (.int .i64 2) rfl
      have eq : ([67, 72, 70] == s.toList) = q0 := by have := E0.out; rw [Lib.toList_data ⟨#[67, 72, 70]⟩] at this; exact this
      clear h1 h2 h3 h4 h5 h6 hk0 hk
      cases q0
      · go_wp2
        go_round
        case rel => exact ⟨1, by omega, by omega, rfl, by simp, by omega, by omega, by omega, by omega, by omega⟩
        case measure => simp [intOf]
      · go_wp2
        go_ret
        exact ⟨rfl, HT.out⟩
    · have c0 := HL.out.cell 1 (.string ⟨#[69, 85, 82]⟩) rfl
      have c1 := HB.out.cell 1 (.int .i64 2) rfl
      obtain rfl : q0 = false := h1 (by omega)
      have eq : ([69, 85, 82] == s.toList) = q1 := by have := E1.out; rw [Lib.toList_data ⟨#[69, 85, 82]⟩] at this; exact this
      clear h1 h2 h3 h4 h5 h6 hk0 hk
      cases q1
      · go_wp2
        go_round
        case rel => exact ⟨2, by omega, by omega, rfl, by simp, by simp, by omega, by omega, by omega, by omega⟩
        case measure => simp [intOf]
      · go_wp2
        go_ret
        exact ⟨rfl, HT.out⟩
    · have c0 := HL.out.cell 2 (.string ⟨#[71, 66, 80]⟩) rfl
      have c1 := HB.out.cell 2 (.int .i64 2) rfl
      obtain rfl : q0 = false := h1 (by omega)
      obtain rfl : q1 = false := h2 (by omega)
      have eq : ([71, 66, 80] == s.toList) = q2 := by have := E2.out; rw [Lib.toList_data ⟨#[71, 66, 80]⟩] at this; exact this
      clear h1 h2 h3 h4 h5 h6 hk0 hk
      cases q2
      · go_wp2
        go_round
        case rel => exact ⟨3, by omega, by omega, rfl, by simp, by simp, by simp, by omega, by omega, by omega⟩
        case measure => simp [intOf]
      · go_wp2
        go_ret
        exact ⟨rfl, HT.out⟩
    · have c0 := HL.out.cell 3 (.string ⟨#[74, 80, 89]⟩) rfl
      have c1 := HB.out.cell 3 (.int .i64 0) rfl
      obtain rfl : q0 = false := h1 (by omega)
      obtain rfl : q1 = false := h2 (by omega)
      obtain rfl : q2 = false := h3 (by omega)
      have eq : ([74, 80, 89] == s.toList) = q3 := by have := E3.out; rw [Lib.toList_data ⟨#[74, 80, 89]⟩] at this; exact this
      clear h1 h2 h3 h4 h5 h6 hk0 hk
      cases q3
      · go_wp2
        go_round
        case rel => exact ⟨4, by omega, by omega, rfl, by simp, by simp, by simp, by simp, by omega, by omega⟩
        case measure => simp [intOf]
      · go_wp2
        go_ret
        exact ⟨rfl, HT.out⟩
    · have c0 := HL.out.cell 4 (.string ⟨#[75, 87, 68]⟩) rfl
      have c1 := HB.out.cell 4 (.int .i64 3) rfl
      obtain rfl : q0 = false := h1 (by omega)
      obtain rfl : q1 = false := h2 (by omega)
      obtain rfl : q2 = false := h3 (by omega)
      obtain rfl : q3 = false := h4 (by omega)
      have eq : ([75, 87, 68] == s.toList) = q4 := by have := E4.out; rw [Lib.toList_data ⟨#[75, 87, 68]⟩] at this; exact this
      clear h1 h2 h3 h4 h5 h6 hk0 hk
      cases q4
      · go_wp2
        go_round
        case rel => exact ⟨5, by omega, by omega, rfl, by simp, by simp, by simp, by simp, by simp, by omega⟩
        case measure => simp [intOf]
      · go_wp2
        go_ret
        exact ⟨rfl, HT.out⟩
    · have c0 := HL.out.cell 5 (.string ⟨#[85, 83, 68]⟩) rfl
      have c1 := HB.out.cell 5 (.int .i64 2) rfl
      obtain rfl : q0 = false := h1 (by omega)
      obtain rfl : q1 = false := h2 (by omega)
      obtain rfl : q2 = false := h3 (by omega)
      obtain rfl : q3 = false := h4 (by omega)
      obtain rfl : q4 = false := h5 (by omega)
      have eq : ([85, 83, 68] == s.toList) = q5 := by have := E5.out; rw [Lib.toList_data ⟨#[85, 83, 68]⟩] at this; exact this
      clear h1 h2 h3 h4 h5 h6 hk0 hk
      cases q5
      · go_wp2
        go_round
        case rel => exact ⟨6, by omega, by omega, rfl, by simp, by simp, by simp, by simp, by simp, by simp⟩
        case measure => simp [intOf]
      · go_wp2
        go_ret
        exact ⟨rfl, HT.out⟩
    · obtain rfl : q0 = false := h1 (by omega)
      obtain rfl : q1 = false := h2 (by omega)
      obtain rfl : q2 = false := h3 (by omega)
      obtain rfl : q3 = false := h4 (by omega)
      obtain rfl : q4 = false := h5 (by omega)
      obtain rfl : q5 = false := h6 (by omega)
      clear h1 h2 h3 h4 h5 h6 hk0 hk
      go_wp2
      go_ret
      exact ⟨rfl, HT.out⟩

/-- the scale of a currency, -1 of none -/
def scI (s : ByteArray) : Int := (curOf s).getD (-1)

theorem scale_any (s : ByteArray) (w : World) : Calls Tryz.prog 18 #[.string s] w fun e w' => e = .returned (.int .i64 (scI s)) ∧ Only w w' := by
  refine (scale_walk w rfl rfl rfl rfl rfl rfl).mono fun e w' ⟨h, t⟩ => ⟨h.trans ?_, t⟩
  congr 2
  simp only [toList_beq]
  unfold scaQ scI curOf
  by_cases h0 : s = ⟨#[67, 72, 70]⟩
  · subst h0; decide
  by_cases h1 : s = ⟨#[69, 85, 82]⟩
  · subst h1; decide
  by_cases h2 : s = ⟨#[71, 66, 80]⟩
  · subst h2; decide
  by_cases h3 : s = ⟨#[74, 80, 89]⟩
  · subst h3; decide
  by_cases h4 : s = ⟨#[75, 87, 68]⟩
  · subst h4; decide
  by_cases h5 : s = ⟨#[85, 83, 68]⟩
  · subst h5; decide
  simp [h0, h1, h2, h3, h4, h5, Ne.symm h0, Ne.symm h1, Ne.symm h2, Ne.symm h3, Ne.symm h4, Ne.symm h5]

theorem xWithin_any (u : Int) (w : World) : Calls Tryz.prog 51 #[.int .i64 u] w fun r w' => r = .returned (.bool (decide (Bd u))) ∧ w' = w := by
  by_cases h1 : u ≤ 4611686018427387904
  · by_cases h2 : -4611686018427387904 ≤ u
    · rw [decide_eq_true (show Bd u from ⟨h2, h1⟩)]
      go_enter Tryz.func51, Tryz.ntmps51
      go_wp2
      go_ret
      exact ⟨rfl, rfl⟩
    · rw [decide_eq_false (show ¬ Bd u from fun h => h2 h.1)]
      go_enter Tryz.func51, Tryz.ntmps51
      go_wp2
      go_ret
      exact ⟨rfl, rfl⟩
  · rw [decide_eq_false (show ¬ Bd u from fun h => h1 h.2)]
    go_enter Tryz.func51, Tryz.ntmps51
    go_wp2
    go_ret
    exact ⟨rfl, rfl⟩

abbrev ChkIs (u : Int) (s : ByteArray) (e : Int) : Prop := ∀ w, Calls Tryz.prog 21 #[.agg #[.int .i64 u, .string s]] w fun r w' => r = .returned (.int .i64 e) ∧ Only w w'

theorem check_walk {u k : Int} {s : ByteArray} {b z : Bool} (S : ∀ w, Calls Tryz.prog 18 #[.string s] w fun e w' => e = .returned (.int .i64 k) ∧ Only w w') (hz : decide (k < 0) = z)
    (W : ∀ w, Calls Tryz.prog 51 #[.int .i64 u] w fun r w' => r = .returned (.bool b) ∧ w' = w) : ChkIs u s (if z then 18 else if b then 0 else 6) := by
  intro w
  have S := Lib.hid S
  have W := Lib.hid W
  have HT := Lib.hid ((Only.refl w).alloc (.cells #[.int .i64 u, .string s] 51))
  have o := Own2.new w (.int .i64 u) (.string s) 51
  obtain ⟨x1, x2, -, -, x3⟩ := o.all
  go_enter Tryz.func21, Tryz.ntmps21
  go_wp2_with fail
  go_at_call 18
  refine (S.out _).mono ?_
  rintro r w1 ⟨rfl, t1⟩
  have HT1 := Lib.hid (HT.out.trans t1)
  obtain ⟨y1, y2, -, -, y3⟩ := (o.only t1).all
  clear o t1 x1 x2 x3
  cases z <;> cases b
  all_goals
    go_wp2_with (go_at_call 51; refine (W.out _).mono ?_; rintro r w2 ⟨rfl, rfl⟩)
    go_ret
    exact ⟨rfl, HT1.out⟩

theorem check_any (u : Int) (s : ByteArray) : ChkIs u s (curE u s) := by
  have C := check_walk (u := u) (fun w => scale_any s w) rfl (fun w => xWithin_any u w)
  have e : (if decide (scI s < 0) = true then (18 : Int) else if decide (Bd u) = true then 0 else 6) = curE u s := by
    unfold curE scI
    cases h : curOf s with
    | none => simp
    | some k =>
      have := fK_range s
      unfold fK at this
      rw [h] at this
      simp only [Option.getD_some] at this
      simp only [Option.getD_some, Option.isSome_some, if_true]
      rw [if_neg (by simp; omega)]
      simp only [decide_eq_true_eq]
  rw [e] at C
  exact C

abbrev TwoIs (u : Int) (s : ByteArray) (v : Int) (t : ByteArray) (e : Int) : Prop := ∀ w, Calls Tryz.prog 65 #[.agg #[.int .i64 u, .string s], .agg #[.int .i64 v, .string t]] w fun r w' => r = .returned (.int .i64 e) ∧ Only w w'

theorem boxesRR (w : World) (u v : Int) (s t : ByteArray) : Only w ((w.alloc (.cells #[.int .i64 u, .string s] 51)).alloc (.cells #[.int .i64 v, .string t] 51)) ∧
    Own2 ((w.alloc (.cells #[.int .i64 u, .string s] 51)).alloc (.cells #[.int .i64 v, .string t] 51)) w.heap.size (.int .i64 u) (.string s) ∧
    Own2 ((w.alloc (.cells #[.int .i64 u, .string s] 51)).alloc (.cells #[.int .i64 v, .string t] 51)) (w.heap.size + 1) (.int .i64 v) (.string t) :=
  ⟨((Only.refl w).alloc _).alloc _, (Own2.new w _ _ _).alloc _, Own2.new1 w _ _ _ _⟩

theorem two_bad1 {u v e : Int} {s t : ByteArray} (C : ChkIs u s e) (h1 : (e == 0) = false) : TwoIs u s v t e := by
  intro w
  have C := Lib.hid C
  obtain ⟨ht, o1, o2⟩ := boxesRR w u v s t
  obtain ⟨x1, x2, -, -, x3⟩ := o1.all
  obtain ⟨y1, y2, -, -, y3⟩ := o2.all
  go_enter Tryz.func65, Tryz.ntmps65
  go_wp2_with fail
  go_at_call 21
  refine (C.out _).mono ?_
  rintro r w1 ⟨rfl, t1⟩
  have HT1 := Lib.hid (ht.trans t1)
  obtain ⟨z1, z2, -, -, z3⟩ := (o1.only t1).all
  obtain ⟨v1, v2, -, -, v3⟩ := (o2.only t1).all
  clear o1 o2 ht t1 x1 x2 x3 y1 y2 y3
  go_wp2_with fail
  go_ret
  exact ⟨rfl, HT1.out⟩

theorem two_same {u v : Int} {s : ByteArray} (C : ChkIs u s 0) (D : ChkIs v s 0) : TwoIs u s v s 0 := by
  intro w
  have C := Lib.hid C
  have D := Lib.hid D
  obtain ⟨ht, o1, o2⟩ := boxesRR w u v s s
  obtain ⟨x1, x2, -, -, x3⟩ := o1.all
  obtain ⟨y1, y2, -, -, y3⟩ := o2.all
  go_enter Tryz.func65, Tryz.ntmps65
  go_wp2_with fail
  go_at_call 21
  refine (C.out _).mono ?_
  rintro r w1 ⟨rfl, t1⟩
  obtain ⟨z1, z2, -, -, z3⟩ := (o1.only t1).all
  obtain ⟨v1, v2, -, -, v3⟩ := (o2.only t1).all
  have ht1 := ht.trans t1
  have p1 := o1.only t1
  have p2 := o2.only t1
  clear o1 o2 ht t1 x1 x2 x3 y1 y2 y3
  go_wp2_with fail
  go_at_call 21
  refine (D.out _).mono ?_
  rintro r w2 ⟨rfl, t2⟩
  have HT2 := Lib.hid (ht1.trans t2)
  clear z1 z2 z3 v1 v2 v3
  obtain ⟨z1, z2, -, -, z3⟩ := (p1.only t2).all
  obtain ⟨v1, v2, -, -, v3⟩ := (p2.only t2).all
  clear p1 p2 ht1 t2
  go_wp2_with fail
  go_ret
  exact ⟨rfl, HT2.out⟩

theorem two_good1 {u v e : Int} {s t : ByteArray} {z : Bool} (C : ChkIs u s 0) (D : ChkIs v t e) (hz : (e == 0) = z) (hq : (s.toList == t.toList) = false) : TwoIs u s v t (if z then 18 else e) := by
  intro w
  have C := Lib.hid C
  have D := Lib.hid D
  have hq2 : (s.toList != t.toList) = true := by simp [bne, hq]
  have HQ2 := Lib.hid hq2
  have HZ := Lib.hid hz
  have HQ3 := Lib.hid hq
  clear hq hq2 hz
  obtain ⟨ht, o1, o2⟩ := boxesRR w u v s t
  obtain ⟨x1, x2, -, -, x3⟩ := o1.all
  obtain ⟨y1, y2, -, -, y3⟩ := o2.all
  go_enter Tryz.func65, Tryz.ntmps65
  go_wp2_with fail
  go_at_call 21
  refine (C.out _).mono ?_
  rintro r w1 ⟨rfl, t1⟩
  obtain ⟨z1, z2, -, -, z3⟩ := (o1.only t1).all
  obtain ⟨v1, v2, -, -, v3⟩ := (o2.only t1).all
  have ht1 := ht.trans t1
  have p1 := o1.only t1
  have p2 := o2.only t1
  clear o1 o2 ht t1 x1 x2 x3 y1 y2 y3
  go_wp2_with fail
  go_at_call 21
  refine (D.out _).mono ?_
  rintro r w2 ⟨rfl, t2⟩
  have HT2 := Lib.hid (ht1.trans t2)
  clear z1 z2 z3 v1 v2 v3
  obtain ⟨z1, z2, -, -, z3⟩ := (p1.only t2).all
  obtain ⟨v1, v2, -, -, v3⟩ := (p2.only t2).all
  clear p1 p2 ht1 t2
  have hz := HZ.out
  have hq2 := HQ2.out
  have hq3 := HQ3.out
  cases z
  · go_wp2_with fail
    go_ret
    exact ⟨rfl, HT2.out⟩
  · obtain rfl : e = 0 := by simpa using hz
    go_wp2_with fail
    go_ret
    exact ⟨rfl, HT2.out⟩

theorem two_bad2 {u v e : Int} {s t : ByteArray} (C : ChkIs u s 0) (D : ChkIs v t e) (h1 : (e == 0) = false) : TwoIs u s v t e := by
  intro w
  have C := Lib.hid C
  have D := Lib.hid D
  obtain ⟨ht, o1, o2⟩ := boxesRR w u v s t
  obtain ⟨x1, x2, -, -, x3⟩ := o1.all
  obtain ⟨y1, y2, -, -, y3⟩ := o2.all
  go_enter Tryz.func65, Tryz.ntmps65
  go_wp2_with fail
  go_at_call 21
  refine (C.out _).mono ?_
  rintro r w1 ⟨rfl, t1⟩
  obtain ⟨z1, z2, -, -, z3⟩ := (o1.only t1).all
  obtain ⟨v1, v2, -, -, v3⟩ := (o2.only t1).all
  have ht1 := ht.trans t1
  have p1 := o1.only t1
  have p2 := o2.only t1
  clear o1 o2 ht t1 x1 x2 x3 y1 y2 y3
  go_wp2_with fail
  go_at_call 21
  refine (D.out _).mono ?_
  rintro r w2 ⟨rfl, t2⟩
  have HT2 := Lib.hid (ht1.trans t2)
  clear z1 z2 z3 v1 v2 v3
  obtain ⟨z1, z2, -, -, z3⟩ := (p1.only t2).all
  obtain ⟨v1, v2, -, -, v3⟩ := (p2.only t2).all
  clear p1 p2 ht1 t2
  go_wp2_with fail
  go_ret
  exact ⟨rfl, HT2.out⟩

theorem two_any (u : Int) (s : ByteArray) (v : Int) (t : ByteArray) : TwoIs u s v t (besE u s v t) := by
  unfold besE
  have C := check_any u s
  have D := check_any v t
  by_cases h : curE u s = 0
  · rw [if_pos h]
    rw [h] at C
    by_cases h3 : s = t
    · subst h3
      by_cases h2 : curE v s = 0
      · rw [if_pos h2, if_pos rfl]
        rw [h2] at D
        exact two_same C D
      · rw [if_neg h2]
        intro w
        have e1 : (curE v s == 0) = false := by simpa using h2
        exact two_bad2 C D e1 w
    · have T := two_good1 C D rfl (by rw [toList_beq]; simpa using h3)
      by_cases h2 : curE v t = 0
      · rw [if_pos h2, if_neg h3]
        simpa [h2] using T
      · rw [if_neg h2]
        simpa [h2] using T
  · rw [if_neg h]
    exact two_bad1 C (by simpa using h)
end Go.Proofs.YtopklnaahdjafaaGreatDoor
