/-
  registry.ValidName, meter's isKey.
-/
import Derived.Test.YtnlanemldapfiaaGreatVText
namespace Go.Proofs.YtnlanemldapfiaaGreat
open Go.RowKit Go.Maps Go.WideMaps Go.Shelf
set_option linter.unusedVariables false
set_option linter.unusedSimpArgs false

/-- what may not stand in a key; a letter; what may not stand in a name -/
def keyForeign (x : Nat) : Bool := decide (x < 33) || decide (126 < x)
def letterN (x : Nat) : Bool := decide (97 ≤ x) && decide (x ≤ 122)
def nameForeign (x : Nat) : Bool := !letterN x && (decide (x < 48) || decide (57 < x)) && decide (x ≠ 45)
/-- may it be a key; may it be a name? -/
def keyB (s : List UInt8) : Bool := decide (s ≠ []) && decide (s.length ≤ 40) && !s.any (fun c => keyForeign c.toNat)
def headN : List UInt8 → Bool
  | [] => false
  | c :: _ => letterN c.toNat
def nameB (s : List UInt8) : Bool := decide (s ≠ []) && decide (s.length ≤ 30) && headN s && !s.any (fun c => nameForeign c.toNat)

theorem mForeign_any (x : Nat) (hx : x ≤ 1114111) (w : World) : Calls Tryz.prog 61 #[.int .i32 (x : Nat)] w fun r w' => r = .returned (.bool (keyForeign x)) ∧ w = w' := by
  unfold keyForeign
  by_cases h1 : x < 33
  · have i1 : (x : Int) < 33 := by omega
    rw [decide_eq_true h1]
    clear h1
    go_enter Tryz.func61, Tryz.ntmps61
    go_wp2
    go_ret
    exact ⟨rfl, rfl⟩
  · have i1 : ¬ (x : Int) < 33 := by omega
    rw [decide_eq_false h1]
    by_cases h2 : 126 < x
    · have i2 : (126 : Int) < (x : Int) := by omega
      rw [decide_eq_true h2]
      clear h1 h2
      go_enter Tryz.func61, Tryz.ntmps61
      go_wp2
      go_ret
      exact ⟨rfl, rfl⟩
    · have i2 : ¬ (126 : Int) < (x : Int) := by omega
      rw [decide_eq_false h2]
      clear h1 h2
      go_enter Tryz.func61, Tryz.ntmps61
      go_wp2
      go_ret
      exact ⟨rfl, rfl⟩

theorem rLetter_any (x : Nat) (hx : x ≤ 1114111) (w : World) : Calls Tryz.prog 62 #[.int .i32 (x : Nat)] w fun r w' => r = .returned (.bool (letterN x)) ∧ w = w' := by
  unfold letterN
  by_cases h1 : 97 ≤ x
  · have i1 : (97 : Int) ≤ (x : Int) := by omega
    rw [decide_eq_true h1]
    by_cases h2 : x ≤ 122
    · have i2 : (x : Int) ≤ 122 := by omega
      rw [decide_eq_true h2]
      clear h1 h2
      go_enter Tryz.func62, Tryz.ntmps62
      go_wp2
      go_ret
      exact ⟨rfl, rfl⟩
    · have i2 : ¬ (x : Int) ≤ 122 := by omega
      rw [decide_eq_false h2]
      clear h1 h2
      go_enter Tryz.func62, Tryz.ntmps62
      go_wp2
      go_ret
      exact ⟨rfl, rfl⟩
  · have i1 : ¬ (97 : Int) ≤ (x : Int) := by omega
    rw [decide_eq_false h1]
    clear h1
    go_enter Tryz.func62, Tryz.ntmps62
    go_wp2
    go_ret
    exact ⟨rfl, rfl⟩

theorem rForeign_any (x : Nat) (hx : x ≤ 1114111) (w : World) : Calls Tryz.prog 63 #[.int .i32 (x : Nat)] w fun r w' => r = .returned (.bool (nameForeign x)) ∧ w = w' := by
  obtain ⟨z, hz⟩ : ∃ z, letterN x = z := ⟨_, rfl⟩
  have HL := Lib.hid (rLetter_any x hx)
  rw [hz] at HL
  unfold nameForeign
  rw [hz]
  clear hz
  cases z with
  | true =>
    go_enter Tryz.func63, Tryz.ntmps63
    go_wp2_with (go_at_call 62; refine (HL.out _).mono ?_; rintro r w' ⟨rfl, rfl⟩)
    go_ret
    exact ⟨rfl, rfl⟩
  | false =>
    have k : ∀ (d1 d2 d3 : Bool), decide (x < 48) = d1 → decide (57 < x) = d2 → decide (x ≠ 45) = d3 → (!false && (decide (x < 48) || decide (57 < x)) && decide (x ≠ 45)) = ((d1 || d2) && d3) := by
      intro d1 d2 d3 e1 e2 e3; rw [e1, e2, e3]; simp
    by_cases h1 : x < 48
    · have i1 : (x : Int) < 48 := by omega
      by_cases h3 : x = 45
      · rw [k true (decide (57 < x)) false (decide_eq_true h1) rfl (decide_eq_false (by simpa using h3))]
        subst h3
        clear k h1
        go_enter Tryz.func63, Tryz.ntmps63
        go_wp2_with (go_at_call 62; refine (HL.out _).mono ?_; rintro r w' ⟨rfl, rfl⟩)
        go_ret
        exact ⟨by simp, rfl⟩
      · rw [k true (decide (57 < x)) true (decide_eq_true h1) rfl (decide_eq_true h3)]
        have i3 : ((x : Int) != 45) = true := by simp; omega
        clear k h1 h3
        go_enter Tryz.func63, Tryz.ntmps63
        go_wp2_with (go_at_call 62; refine (HL.out _).mono ?_; rintro r w' ⟨rfl, rfl⟩)
        go_ret
        exact ⟨by simp, rfl⟩
    · have i1 : ¬ (x : Int) < 48 := by omega
      by_cases h2 : 57 < x
      · have i2 : (57 : Int) < (x : Int) := by omega
        have i3 : ((x : Int) != 45) = true := by simp; omega
        rw [k false true true (decide_eq_false h1) (decide_eq_true h2) (decide_eq_true (by omega))]
        clear k h1 h2
        go_enter Tryz.func63, Tryz.ntmps63
        go_wp2_with (go_at_call 62; refine (HL.out _).mono ?_; rintro r w' ⟨rfl, rfl⟩)
        go_ret
        exact ⟨by simp, rfl⟩
      · have i2 : ¬ (57 : Int) < (x : Int) := by omega
        rw [k false false (decide (x ≠ 45)) (decide_eq_false h1) (decide_eq_false h2) rfl]
        clear k h1 h2
        go_enter Tryz.func63, Tryz.ntmps63
        go_wp2_with (go_at_call 62; refine (HL.out _).mono ?_; rintro r w' ⟨rfl, rfl⟩)
        go_ret
        exact ⟨by simp, rfl⟩

theorem keyForeign_high (x : Nat) (h : 128 ≤ x) : keyForeign x = true := by unfold keyForeign; simp; omega
theorem nameForeign_high (x : Nat) (h : 128 ≤ x) : nameForeign x = true := by
  unfold nameForeign letterN
  have h1 : ¬ x ≤ 122 := by omega
  have h2 : 57 < x := by omega
  have h3 : x ≠ 45 := by omega
  simp [h1, h2, h3]

theorem keyContains (s : List UInt8) (w : World) : Calls Tryz.prog 60 #[.string ⟨s.toArray⟩, .func (.func 61) #[] #[]] w fun r w' => r = .returned (.bool (s.any fun c => keyForeign c.toNat)) ∧ Turn (fun _ => False) w w' :=
  contains_any 61 (enters_of Tryz.func61 (by kernel_rfl) rfl) keyForeign keyForeign_high s w (fun W x hx => (mForeign_any x hx W).mono fun _ _ ⟨a, b⟩ => ⟨a, b ▸ Below.refl _ _⟩)
theorem nameContains (s : List UInt8) (w : World) : Calls Tryz.prog 60 #[.string ⟨s.toArray⟩, .func (.func 63) #[] #[]] w fun r w' => r = .returned (.bool (s.any fun c => nameForeign c.toNat)) ∧ Turn (fun _ => False) w w' :=
  contains_any 63 (enters_of Tryz.func63 (by kernel_rfl) rfl) nameForeign nameForeign_high s w (fun W x hx => (rForeign_any x hx W).mono fun _ _ ⟨a, b⟩ => ⟨a, b ▸ Below.refl _ _⟩)

set_option maxRecDepth 100000 in
set_option maxHeartbeats 1000000 in
theorem isKey_any (s : List UInt8) (hs : s.length ≤ 281474976710656) (w : World) : Calls Tryz.prog 32 #[.string ⟨s.toArray⟩] w fun r w' => r = .returned (.bool (keyB s)) ∧ Turn (fun _ => False) w w' := by
  unfold keyB
  cases s with
  | nil =>
    go_enter Tryz.func32, Tryz.ntmps32
    go_wp2_with fail
    go_ret
    exact ⟨rfl, Turn.refl _ _⟩
  | cons c r =>
    rw [decide_eq_true (by simp : c :: r ≠ []), Bool.true_and]
    obtain ⟨n, hn⟩ : ∃ n, (c :: r).length = n := ⟨_, rfl⟩
    have hpos : 0 < n := by rw [← hn]; simp
    obtain ⟨z, hz⟩ : ∃ z, ((c :: r).any fun c => keyForeign c.toNat) = z := ⟨_, rfl⟩
    have HC := Lib.hid (keyContains (c :: r))
    rw [hz] at HC
    rw [hn] at hs
    rw [hn, hz]
    have e0 : ((c :: r) == []) = false := by simp
    have hlen : (c :: r).length = n := hn
    by_cases h1 : n ≤ 40
    · have i1 : (n : Int) ≤ 40 := by omega
      rw [decide_eq_true h1]
      go_enter Tryz.func32, Tryz.ntmps32
      go_wp2_with (go_at_call 60; refine (HC.out _).mono ?_; rintro r w' ⟨rfl, ht⟩)
      go_ret
      exact ⟨by simp, ht⟩
    · have i1 : ¬ (n : Int) ≤ 40 := by omega
      rw [decide_eq_false h1]
      go_enter Tryz.func32, Tryz.ntmps32
      go_wp2_with fail
      go_ret
      exact ⟨rfl, Turn.refl _ _⟩

set_option maxRecDepth 100000 in
set_option maxHeartbeats 1000000 in
theorem validName_any (s : List UInt8) (hs : s.length ≤ 281474976710656) (w : World) : Calls Tryz.prog 33 #[.string ⟨s.toArray⟩] w fun r w' => r = .returned (.bool (nameB s)) ∧ Turn (fun _ => False) w w' := by
  unfold nameB
  cases s with
  | nil =>
    go_enter Tryz.func33, Tryz.ntmps33
    go_wp2_with fail
    go_ret
    exact ⟨rfl, Turn.refl _ _⟩
  | cons c r =>
    rw [decide_eq_true (by simp : c :: r ≠ []), Bool.true_and]
    obtain ⟨n, hn⟩ : ∃ n, (c :: r).length = n := ⟨_, rfl⟩
    have hpos : 0 < n := by rw [← hn]; simp
    obtain ⟨z, hz⟩ : ∃ z, ((c :: r).any fun c => nameForeign c.toNat) = z := ⟨_, rfl⟩
    have HC := Lib.hid (nameContains (c :: r))
    have HL := Lib.hid (rLetter_any c.toNat (by have := c.toNat_lt; omega))
    rw [hz] at HC
    rw [hn] at hs
    rw [hn, hz]
    rw [show headN (c :: r) = letterN c.toNat from rfl]
    have e0 : ((c :: r) == []) = false := by simp
    have hlen : (c :: r).length = n := hn
    have ic : (0 : Int) ≤ (c.toNat : Int) ∧ (c.toNat : Int) ≤ 255 := by have := c.toNat_lt; omega
    have hsz : 0 < (⟨(c :: r).toArray⟩ : ByteArray).size := by show 0 < (c :: r).toArray.size; simp
    have hw32 : wrap32 ((((⟨(c :: r).toArray⟩ : ByteArray)[0]'hsz).toNat : Nat) : Int) = (c.toNat : Int) := by
      show wrap32 (c.toNat : Int) = _
      unfold wrap32; omega
    by_cases h1 : n ≤ 30
    · have i1 : (n : Int) ≤ 30 := by omega
      rw [decide_eq_true h1]
      obtain ⟨y, hy⟩ : ∃ y, letterN c.toNat = y := ⟨_, rfl⟩
      rw [hy] at HL ⊢
      cases y
      · go_enter Tryz.func33, Tryz.ntmps33
        go_wp2_with (first | (go_at_call 62; rw [hw32]; refine (HL.out _).mono ?_; rintro r w' ⟨rfl, rfl⟩) | (go_at_call 60; refine (HC.out _).mono ?_; rintro r w' ⟨rfl, ht⟩))
        go_ret
        exact ⟨by simp, Turn.refl _ _⟩
      · go_enter Tryz.func33, Tryz.ntmps33
        go_wp2_with (first | (go_at_call 62; rw [hw32]; refine (HL.out _).mono ?_; rintro r w' ⟨rfl, rfl⟩) | (go_at_call 60; refine (HC.out _).mono ?_; rintro r w' ⟨rfl, ht⟩))
        go_ret
        exact ⟨by simp, ht⟩
    · have i1 : ¬ (n : Int) ≤ 30 := by omega
      rw [decide_eq_false h1]
      go_enter Tryz.func33, Tryz.ntmps33
      go_wp2_with fail
      go_ret
      exact ⟨rfl, Turn.refl _ _⟩
end Go.Proofs.YtnlanemldapfiaaGreat
