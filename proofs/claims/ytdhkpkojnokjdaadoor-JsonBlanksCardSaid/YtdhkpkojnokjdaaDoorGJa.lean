/-
  PARTS: JPlain, JRead1, JLit, JKind.
-/
import Derived.Test.YtdhkpkojnokjdaaDoorJBase
import Derived.Shelf.Lay
import Derived.Shelf.Small.Strs
import Derived.LoopTactic
import Derived.Deep.LoopGhost
import Derived.Deep.DeepCutAuto
import Derived.Shelf.Strconv.Clone
/-
  JSON's texts as plain data: places in a list of bytes.
-/
namespace Go.Proofs.YtdhkpkojnokjdaaDoor

/-- the place behind the bytes of a kind that stand there -/
def skipE (b s : List UInt8) (p : Nat) : Nat := p + ((s.drop p).takeWhile b.contains).length
theorem skipE_ge (b s : List UInt8) (p : Nat) : p ≤ skipE b s p := Nat.le_add_right _ _
theorem skipE_le (b s : List UInt8) {p : Nat} (h : p ≤ s.length) : skipE b s p ≤ s.length := by
  have h1 : ((s.drop p).takeWhile b.contains).length ≤ (s.drop p).length := by
    have := congrArg List.length (List.takeWhile_append_dropWhile (p := b.contains) (l := s.drop p))
    rw [List.length_append] at this
    omega
  rw [List.length_drop] at h1
  unfold skipE; omega
theorem skipE_in {b s : List UInt8} {p : Nat} (h : p < s.length) (hb : b.contains s[p] = true) : skipE b s p = skipE b s (p + 1) := by
  unfold skipE
  rw [List.drop_eq_getElem_cons h, List.takeWhile_cons_of_pos hb, List.length_cons]
  omega
theorem skipE_stop {b s : List UInt8} {p : Nat} (h : p < s.length) (hb : b.contains s[p] = false) : skipE b s p = p := by
  unfold skipE
  rw [List.drop_eq_getElem_cons h, List.takeWhile_cons_of_neg (by rw [hb]; decide)]
  rfl
theorem skipE_end {b s : List UInt8} {p : Nat} (h : s.length ≤ p) : skipE b s p = p := by
  unfold skipE
  rw [List.drop_eq_nil_of_le h]; rfl

abbrev blankL : List UInt8 := [32, 9, 10, 13]
abbrev digitL : List UInt8 := [48, 49, 50, 51, 52, 53, 54, 55, 56, 57]

/-- what the reading of a part gives -/
inductive Rs (α : Type)
  | ok (a : α) (p : Nat)
  | bad (place err : Nat)
def Rs.bind {α β : Type} (r : Rs α) (f : α → Nat → Rs β) : Rs β := match r with | .ok a p => f a p | .bad a b => .bad a b

theorem data_len (D : ByteArray) : D.data.toList.length = D.size := by simp
theorem data_at {D : ByteArray} {p : Nat} (h : p < D.size) : D.data.toList[p]'(by rw [data_len]; exact h) = D[p] := rfl
end Go.Proofs.YtdhkpkojnokjdaaDoor

/-
  The reader's small steps: a byte of some, blanks, digits, the byte here.
-/
namespace Go.Proofs
open Go.Shelf
def Tryd.lays137_ren : Go.Shelf.Ren := ⟨fun | 137 => 59 | 217 => 73 | 266 => 81 | n => n, fun | 9 => 9 | 5 => 5 | 3 => 3 | n => n, fun | n => n⟩
theorem Tryd.lays137 : Go.Proofs.Lays.n137 Tryd.prog Tryd.lays137_ren := {
  mixed := by kernel_rfl
  f137 := Tryd.func59.trans (congrArg some (by kernel_rfl))
  f217 := Tryd.func73.trans (congrArg some (by kernel_rfl))
  f266 := Tryd.func81.trans (congrArg some (by kernel_rfl))
  t3 := Tryd.underlying3
  a3 := Tryd.isAgg3
  z3 := Tryd.sizeOf3
  v3 := Tryd.zeroValue3
  t5 := Tryd.underlying5
  a5 := Tryd.isAgg5
  z5 := Tryd.sizeOf5
  v5 := Tryd.zeroValue5
  t9 := Tryd.underlying9
  a9 := Tryd.isAgg9
  z9 := Tryd.sizeOf9
  v9 := Tryd.zeroValue9 }
end Go.Proofs
namespace Go.Proofs.YtdhkpkojnokjdaaDoor
open Go.RowKit Go.Shelf
set_option linter.unusedVariables false

theorem u8_nat (c : UInt8) : UInt8.ofNat c.toNat = c := by simp

/-- does one of those bytes stand at a place of a text? -/
def hasAt (b s : List UInt8) (p : Nat) : Bool := (s[p]?).elim false fun c => b.contains c

theorem beq_swap (b c : UInt8) : (c == b) = (b == c) := by rw [Bool.eq_iff_iff, beq_iff_eq, beq_iff_eq]; exact eq_comm

theorem index_has (l : List UInt8) (c : UInt8) : decide (0 ≤ Lib.indexByte l c) = l.contains c ∧ (Lib.indexByte l c = -1 ∨ 0 ≤ Lib.indexByte l c) := by
  induction l with
  | nil => exact ⟨rfl, Or.inl rfl⟩
  | cons b l ih =>
    unfold Lib.indexByte
    rw [List.contains_cons, ← ih.1, beq_swap b c]
    by_cases h : (b == c) = true
    · rw [if_pos h, h]; exact ⟨rfl, Or.inr (Int.le_refl _)⟩
    · have h2 : (b == c) = false := by simpa using h
      rw [if_neg h, h2, Bool.false_or]
      obtain ⟨-, h3⟩ := ih
      rw [decide_eq_decide]
      by_cases h4 : (Lib.indexByte l c == -1) = true
      · rw [if_pos h4]
        have h5 : Lib.indexByte l c = -1 := by simpa using h4
        rw [h5]; simp
      · rw [if_neg h4]
        have h5 : 0 ≤ Lib.indexByte l c := h3.resolve_left (by simpa using h4)
        exact ⟨⟨fun _ => h5, fun _ => by omega⟩, Or.inr (by omega)⟩

set_option maxHeartbeats 1600000 in
theorem isOf_in {B D : ByteArray} {p : Nat} (hp : p < D.size) (w : World) : Calls Tryd.prog 44 #[.string B, .string D, .int .i64 p] w fun e w' => e = .returned (.bool (B.data.toList.contains (D[p]'hp))) ∧ w' = w := by
  obtain ⟨c, hc⟩ : ∃ c, c = D[p]'hp := ⟨_, rfl⟩
  have hx := (index_has B.data.toList c).1
  have IB : ∀ W, Calls Tryd.prog 59 #[.string B, .int .u8 (c.toNat : Int)] W fun e w' => e = .returned (.int .i64 (Lib.indexByte B.data.toList c)) ∧ w' = W := fun W => by
    refine (show Calls Tryd.prog 59 _ W _ from Any.strings_IndexByte Tryd.lays137 B (c.toNat : Int) W).mono ?_
    rintro e w' ⟨rfl, rfl⟩
    exact ⟨by simp, rfl⟩
  obtain ⟨k, hk⟩ : ∃ k, k = Lib.indexByte B.data.toList c := ⟨_, rfl⟩
  rw [← hk] at IB hx
  rw [← hc, ← hx]
  have hc2 : ((D[p]'hp).toNat : Int) = (c.toNat : Int) := by rw [hc]
  have IB := Lib.hid IB
  have ip : (p : Int) < (D.size : Int) := by omega
  clear hc hk hx
  go_enter Tryd.func44, Tryd.ntmps44
  go_wp2_with (go_at_call 59; refine (IB.out _).mono ?_; rintro r w' ⟨rfl, rfl⟩)
  go_ret
  exact ⟨rfl, rfl⟩

theorem isOf_out {B D : ByteArray} {p : Nat} (hp : D.size ≤ p) (w : World) : Calls Tryd.prog 44 #[.string B, .string D, .int .i64 p] w fun e w' => e = .returned (.bool false) ∧ w' = w := by
  have ip : ¬ (p : Int) < (D.size : Int) := by omega
  go_enter Tryd.func44, Tryd.ntmps44
  go_wp2_with fail
  go_ret
  exact ⟨rfl, rfl⟩

theorem here_in {D : ByteArray} {R p : Nat} {w : World} (h : RdAt w R D p) (hp : p < D.size) : Calls Tryd.prog 51 #[.pointer (some ⟨R, 0, none⟩)] w fun e w' => e = .returned (.int .u8 ((D[p]'hp).toNat : Int)) ∧ Only w w' := by
  obtain ⟨k1, k2⟩ := h.cone
  have ip : (p : Int) < (D.size : Int) := by omega
  have ip2 : decide ((D.size : Int) ≤ (p : Int)) = false := decide_eq_false (by omega)
  have H := Lib.hid h
  clear h
  go_enter Tryd.func51, Tryd.ntmps51
  go_wp2_with fail
  refine wp_region_cone (by kernel_rfl) (by kernel_rfl) ?_
  repeat (any_goals (first | go_big_quiet_step ((fail)) | quiet_step ((fail))))
  refine wpQuiet_nil ?_
  rintro w1 ⟨⟨_, t1⟩, rfl⟩
  have h1 := H.out.only t1
  clear k1 k2
  obtain ⟨k1, k2⟩ := h1.cone
  go_wp2_with fail
  refine wp_region_cone (by kernel_rfl) (by kernel_rfl) ?_
  repeat (any_goals (first | go_big_quiet_step ((fail)) | quiet_step ((fail))))
  refine wpQuiet_nil ?_
  rintro w2 ⟨⟨_, t2⟩, rfl⟩
  have ht := t1.trans t2
  clear k1 k2 t1 t2 h1
  go_wp2_with fail
  go_ret
  exact ⟨rfl, ht⟩

theorem here_out {D : ByteArray} {R p : Nat} {w : World} (h : RdAt w R D p) (hp : D.size ≤ p) : Calls Tryd.prog 51 #[.pointer (some ⟨R, 0, none⟩)] w fun e w' => e = faultE D.size 11 ∧ Only w w' := by
  obtain ⟨k1, k2⟩ := h.cone
  have ip2 : decide ((D.size : Int) ≤ (p : Int)) = true := decide_eq_true (by omega)
  have H := Lib.hid h
  clear h
  go_enter Tryd.func51, Tryd.ntmps51
  go_wp2_with fail
  refine wp_region_cone (by kernel_rfl) (by kernel_rfl) ?_
  repeat (any_goals (first | go_big_quiet_step ((fail)) | quiet_step ((fail))))
  refine wpQuiet_nil ?_
  rintro w1 ⟨⟨_, t1⟩, rfl⟩
  have h1 := H.out.only t1
  clear k1 k2
  obtain ⟨c1, c2, f1, f2, z⟩ := h1.all
  go_wp2_with fail
  simp [bodyPost]
  exact t1

set_option maxHeartbeats 1600000 in
theorem digitsEnd_any {D : ByteArray} {p : Nat} (hp : p ≤ D.size) (hl : D.size ≤ 1000000) (w : World) : Calls Tryd.prog 67 #[.string D, .int .i64 p] w fun e w' => e = .returned (.int .i64 (skipE digitL D.data.toList p)) ∧ w' = w := by
  have IN := fun (q : Nat) (hq : q < D.size) W => isOf_in (B := ⟨#[48, 49, 50, 51, 52, 53, 54, 55, 56, 57]⟩) hq W
  have OUT := fun W => isOf_out (B := ⟨#[48, 49, 50, 51, 52, 53, 54, 55, 56, 57]⟩) (D := D) (p := D.size) (Nat.le_refl _) W
  have IN := Lib.hid IN
  have OUT := Lib.hid OUT
  go_enter Tryd.func67, Tryd.ntmps67
  go_wp2_with fail
  go_loopg [1] (D.size - p) (fun g v wr => ∃ q : Nat, v = .int .i64 (q : Int) ∧ p ≤ q ∧ q ≤ D.size ∧ D.size - q ≤ g ∧ skipE digitL D.data.toList p = skipE digitL D.data.toList q ∧ wr = w)
  case atStart => exact ⟨p, rfl, Nat.le_refl _, hp, Nat.le_refl _, rfl, rfl⟩
  case round =>
    obtain ⟨q, rfl, hq1, hq2, hg, hs, rfl⟩ := hrel
    have HS := Lib.hid hs
    clear hs
    by_cases hq : q < D.size
    · cases hc : digitL.contains (D[q]'hq) with
      | true =>
        have hst := skipE_in (b := digitL) (s := D.data.toList) (p := q) (by rw [data_len]; exact hq) hc
        have C := IN.out q hq wr
        rw [show (⟨#[48, 49, 50, 51, 52, 53, 54, 55, 56, 57]⟩ : ByteArray).data.toList.contains (D[q]'hq) = true from hc] at C
        have HST := Lib.hid hst
        clear hst hc
        go_wp2_with (go_at_call 44; refine C.mono ?_; rintro r w' ⟨rfl, rfl⟩)
        go_roundg (D.size - (q + 1))
        case measure => omega
        case rel => exact ⟨q + 1, by go_num, by omega, by omega, Nat.le_refl _, HS.out.trans HST.out, rfl⟩
      | false =>
        have hst := skipE_stop (b := digitL) (s := D.data.toList) (p := q) (by rw [data_len]; exact hq) hc
        have C := IN.out q hq wr
        rw [show (⟨#[48, 49, 50, 51, 52, 53, 54, 55, 56, 57]⟩ : ByteArray).data.toList.contains (D[q]'hq) = false from hc] at C
        have HST := Lib.hid hst
        clear hst hc
        go_wp2_with (go_at_call 44; refine C.mono ?_; rintro r w' ⟨rfl, rfl⟩)
        go_ret
        refine ⟨?_, rfl⟩
        rw [HS.out, HST.out]
        rfl
    · obtain rfl : q = D.size := by omega
      have hst := skipE_end (b := digitL) (s := D.data.toList) (p := D.size) (by rw [data_len]; exact Nat.le_refl _)
      have HST := Lib.hid hst
      have C := OUT.out wr
      clear hst
      go_wp2_with (go_at_call 44; refine C.mono ?_; rintro r w' ⟨rfl, rfl⟩)
      go_ret
      refine ⟨?_, rfl⟩
      rw [HS.out, HST.out]
      rfl

abbrev blankIs (D : ByteArray) (q : Nat) (t : Bool) : Prop := ∀ W, Calls Tryd.prog 44 #[.string ⟨#[32, 9, 10, 13]⟩, .string D, .int .i64 (q : Int)] W fun e w' => e = .returned (.bool t) ∧ w' = W

set_option maxHeartbeats 1600000 in
theorem blanks_any {D : ByteArray} {R p : Nat} {w : World} (h : RdAt w R D p) (hp : p ≤ D.size) (hl : D.size ≤ 1000000) :
    Calls Tryd.prog 25 #[.pointer (some ⟨R, 0, none⟩)] w fun e w' => e = .returned (.tuple #[]) ∧ RdAt w' R D (skipE blankL D.data.toList p) ∧ But R w w' := by
  have H := Lib.hid h
  clear h
  go_enter Tryd.func25, Tryd.ntmps25
  go_wp2_with fail
  go_loopg [] (D.size - p) (fun g wr => ∃ q : Nat, RdAt wr R D q ∧ p ≤ q ∧ q ≤ D.size ∧ D.size - q ≤ g ∧ skipE blankL D.data.toList p = skipE blankL D.data.toList q ∧ But R w wr)
  case atStart => exact ⟨p, H.out, Nat.le_refl _, hp, Nat.le_refl _, rfl, Turn.refl _ _⟩
  case round =>
    obtain ⟨q, hr, hq1, hq2, hg, hs, ht⟩ := hrel
    have HS := Lib.hid hs
    have HR := Lib.hid hr
    have HT := Lib.hid ht
    have key : (skipE blankL D.data.toList q = q ∧ blankIs D q false) ∨ (q < D.size ∧ skipE blankL D.data.toList q = skipE blankL D.data.toList (q + 1) ∧ blankIs D q true) := by
      by_cases hq : q < D.size
      · cases hc : blankL.contains (D[q]'hq) with
        | true => exact Or.inr ⟨hq, skipE_in (by rw [data_len]; exact hq) hc, fun W => by have := isOf_in (B := ⟨#[32, 9, 10, 13]⟩) hq W; rwa [show (⟨#[32, 9, 10, 13]⟩ : ByteArray).data.toList.contains (D[q]'hq) = true from hc] at this⟩
        | false => exact Or.inl ⟨skipE_stop (by rw [data_len]; exact hq) hc, fun W => by have := isOf_in (B := ⟨#[32, 9, 10, 13]⟩) hq W; rwa [show (⟨#[32, 9, 10, 13]⟩ : ByteArray).data.toList.contains (D[q]'hq) = false from hc] at this⟩
      · exact Or.inl ⟨skipE_end (by rw [data_len]; omega), fun W => isOf_out (by omega) W⟩
    obtain ⟨k1, k2⟩ := hr.cone
    rcases key with ⟨hst, C⟩ | ⟨hq, hst, C⟩
    · have HST := Lib.hid hst
      have C := Lib.hid C
      clear hst hs ht hr
      go_wp2_with fail
      refine wp_region_cone (by kernel_rfl) (by kernel_rfl) ?_
      repeat (any_goals (first | go_big_quiet_step ((go_at_call 44; with_reducible exact Cone.same (C.out _))) | quiet_step ((go_at_call 44; with_reducible exact Cone.same (C.out _)))))
      refine wpQuiet_nil ?_
      rintro w6 ⟨⟨_, t6⟩, rfl⟩
      have hr := HR.out.only t6
      have ht := HT.out.only t6
      clear k1 k2 t6
      have HR6 := Lib.hid hr
      have HT6 := Lib.hid ht
      clear hr ht
      go_wp2_with fail
      simp [bodyPost, results, Tryd.results25, go_sem]
      exact ⟨by rw [HS.out, HST.out]; exact HR6.out, HT6.out⟩
    · have HST := Lib.hid hst
      have C := Lib.hid C
      clear hst hs ht hr
      go_wp2_with fail
      refine wp_region_cone (by kernel_rfl) (by kernel_rfl) ?_
      repeat (any_goals (first | go_big_quiet_step ((go_at_call 44; with_reducible exact Cone.same (C.out _))) | quiet_step ((go_at_call 44; with_reducible exact Cone.same (C.out _)))))
      refine wpQuiet_nil ?_
      rintro w6 ⟨⟨_, t6⟩, rfl⟩
      have hr := HR.out.only t6
      have ht := HT.out.only t6
      clear k1 k2 t6
      obtain ⟨c1, c2, f1, f2, z⟩ := hr.all
      have HR6 := Lib.hid hr
      have HT6 := Lib.hid ht
      have iq : (q : Int) < 1000000 := by omega
      clear hr ht
      go_wp2_with fail
      go_roundg (D.size - (q + 1))
      case measure => omega
      case rel => exact ⟨q + 1, HR6.out.put1 _, by omega, by omega, Nat.le_refl _, HS.out.trans HST.out, HT6.out.then_ (but_set _ _ _ _)⟩
end Go.Proofs.YtdhkpkojnokjdaaDoor

/-
  A number's literal: where it ends.
-/
namespace Go.Proofs.YtdhkpkojnokjdaaDoor
open Go.RowKit Go.Shelf
set_option linter.unusedVariables false

theorem isOf_any (B D : ByteArray) (p : Nat) (w : World) : Calls Tryd.prog 44 #[.string B, .string D, .int .i64 (p : Int)] w fun e w' => e = .returned (.bool (hasAt B.data.toList D.data.toList p)) ∧ w' = w := by
  unfold hasAt
  by_cases hp : p < D.size
  · have := isOf_in (B := B) hp w
    rw [List.getElem?_eq_getElem (by rw [data_len]; exact hp)]
    exact this
  · have := isOf_out (B := B) (D := D) (p := p) (by omega) w
    rw [List.getElem?_eq_none (by rw [data_len]; omega)]
    exact this

theorem hasAt_lt {b s : List UInt8} {p : Nat} (h : hasAt b s p = true) : p < s.length := by
  unfold hasAt at h
  rcases Nat.lt_or_ge p s.length with k | k
  · exact k
  · rw [List.getElem?_eq_none k] at h; cases h

/-- the literal's parts -/
def litInt (s : List UInt8) (a : Nat) : Nat := if a < skipE digitL s a && hasAt [48] s a then a + 1 else skipE digitL s a
def litFrac (s : List UInt8) (d : Nat) : Nat × Bool := if hasAt [46] s d then (skipE digitL s (d + 1), !(skipE digitL s (d + 1) == d + 1)) else (d, true)
def expAt (s : List UInt8) (d : Nat) : Nat := if hasAt [43, 45] s (d + 1) then d + 2 else d + 1
def litExp (s : List UInt8) (d : Nat) : Nat × Bool := if hasAt [101, 69] s d then (skipE digitL s (expAt s d), !(skipE digitL s (expAt s d) == expAt s d)) else (d, true)
def litE (s : List UInt8) (p : Nat) : Nat × Bool :=
  let a := if hasAt [45] s p then p + 1 else p
  if litInt s a = a then (a, false) else if (litFrac s (litInt s a)).2 then litExp s (litFrac s (litInt s a)).1 else litFrac s (litInt s a)

set_option maxHeartbeats 3200000 in
theorem literalEnd_any {D : ByteArray} {p : Nat} (hp : p ≤ D.size) (hl : D.size ≤ 1000000) (w : World) :
    Calls Tryd.prog 53 #[.string D, .int .i64 (p : Int)] w fun e w' => e = .returned (.tuple #[.int .i64 ((litE D.data.toList p).1 : Int), .bool (litE D.data.toList p).2]) ∧ w' = w := by
  have IS := Lib.hid (fun B q W => isOf_any B D q W)
  have DE := Lib.hid (fun (q : Nat) (hq : q ≤ D.size) W => digitsEnd_any hq hl W)
  go_enter Tryd.func53, Tryd.ntmps53
  go_upto_if 9 with (go_at_call 44; refine (IS.out ⟨#[45]⟩ _ _).mono ?_; rintro r w' ⟨rfl, rfl⟩)
  go_cut [1] (fun v wc => ∃ a : Nat, v = .int .i64 (a : Int) ∧ a = (if hasAt [45] D.data.toList p then p + 1 else p) ∧ a ≤ D.size ∧ wc = w')
  case first =>
    by_cases hb : hasAt [45] D.data.toList p = true
    · have hlt := hasAt_lt hb
      rw [data_len] at hlt
      have HB := Lib.hid hb
      rw [hb]
      clear hb
      go_wp2_with fail
      go_meet
      exact ⟨p + 1, by go_num, by rw [if_pos HB.out], by omega, rfl⟩
    · have hb' : hasAt [45] D.data.toList p = false := by simpa using hb
      have HB := Lib.hid hb'
      rw [hb']
      clear hb hb'
      go_wp2_with fail
      go_meet
      exact ⟨p, rfl, by rw [HB.out]; rfl, hp, rfl⟩
  case rest =>
    obtain ⟨a, rfl, ha, ha2, rfl⟩ := hcut
    have hge := skipE_ge digitL D.data.toList a
    have hle := skipE_le digitL D.data.toList (p := a) (by rw [data_len]; exact ha2)
    rw [data_len] at hle
    obtain ⟨d0, hd0⟩ : ∃ d0, d0 = skipE digitL D.data.toList a := ⟨_, rfl⟩
    have HD0 := Lib.hid hd0
    have HA := Lib.hid ha
    have C1 := DE.out a ha2 wc
    rw [← hd0] at hge hle C1
    clear ha hd0
    go_upto_region 5 with (go_at_call 67; refine C1.mono ?_; rintro r w2 ⟨rfl, rfl⟩)
    obtain ⟨z, hz0⟩ : ∃ z, z = (decide (a < d0) && hasAt [48] D.data.toList a) := ⟨_, rfl⟩
    have hz : litInt D.data.toList a = if z = true then a + 1 else d0 := by
      unfold litInt; rw [← HD0.out, hz0]
    have hz2 : z = true → a < d0 := fun h => by rw [hz0] at h; simp at h; exact h.1
    have hz3 : ∀ hlt2 : a < D.size, a < d0 → (((D[a]'hlt2).toNat : Int) == 48) = z := fun hlt2 hlt => by
      rw [hz0, decide_eq_true hlt, Bool.true_and]
      unfold hasAt
      rw [List.getElem?_eq_getElem (by rw [data_len]; exact hlt2)]
      have : D.data.toList[a]'(by rw [data_len]; exact hlt2) = D[a]'hlt2 := rfl
      rw [this]
      simp only [Option.elim, List.contains_cons, List.contains_nil, Bool.or_false]
      rw [Bool.eq_iff_iff, beq_iff_eq, beq_iff_eq]
      exact ⟨fun e => UInt8.toNat_inj.1 (by have : ((48 : UInt8).toNat : Int) = 48 := rfl; omega), fun e => by rw [e]; rfl⟩
    have hz4 : ¬ a < d0 → z = false := fun hlt => by rw [hz0, decide_eq_false hlt]; rfl
    have HZ := Lib.hid hz
    clear hz hz0 C1
    go_cut [24] (fun v wc => v = .bool z ∧ wc = w2)
    case first =>
      by_cases hlt : a < d0
      · have hlt2 : a < D.size := by omega
        have il : (a : Int) < (d0 : Int) := by omega
        have il2 : (a : Int) < (D.size : Int) := by omega
        have hcc := hz3 hlt2 hlt
        clear hz2 hz3 hz4
        go_wp2_with fail
        go_meet
        exact ⟨rfl, rfl⟩
      · have il : ¬ (a : Int) < (d0 : Int) := by omega
        have := hz4 hlt
        subst this
        clear hz2 hz3 hz4
        go_wp2_with fail
        go_meet
        exact ⟨rfl, rfl⟩
    case rest =>
      obtain ⟨rfl, rfl⟩ := hcut
      clear hz3 hz4
      go_upto_if 24 with (fail)
      go_cut [1] (fun v we => ∃ d : Nat, v = .int .i64 (d : Int) ∧ d = litInt D.data.toList a ∧ a ≤ d ∧ d ≤ D.size ∧ we = wc)
      case first =>
        cases z
        · go_wp2_with fail
          go_meet
          exact ⟨d0, rfl, by rw [HZ.out]; rfl, hge, hle, rfl⟩
        · have := hz2 rfl
          clear hz2
          go_wp2_with fail
          go_meet
          exact ⟨a + 1, by go_num, by rw [HZ.out]; rfl, by omega, by omega, rfl⟩
      case rest =>
        obtain ⟨d, rfl, hd, had, hdl, rfl⟩ := hcut
        have hlit : litE D.data.toList p = if d = a then (a, false) else if (litFrac D.data.toList d).2 then litExp D.data.toList (litFrac D.data.toList d).1 else litFrac D.data.toList d := by
          show (if litInt D.data.toList (if hasAt [45] D.data.toList p then p + 1 else p) = _ then _ else _) = _
          rw [← HA.out, ← hd]
        have HL := Lib.hid hlit
        clear hlit hd hz2 hge hle
        by_cases hda : d = a
        · have t1 : ((d : Int) == (a : Int)) = true := by simp [hda]
          have HR : Hid (litE D.data.toList p = (d, false)) := Lib.hid (by rw [HL.out, if_pos hda, hda])
          clear hda had
          go_wp2_with fail
          go_ret2
          exact ⟨by rw [HR.out]; rfl, rfl⟩
        · have t1 : ((d : Int) == (a : Int)) = false := by simp; omega
          have HL2 : Hid (litE D.data.toList p = if (litFrac D.data.toList d).2 then litExp D.data.toList (litFrac D.data.toList d).1 else litFrac D.data.toList d) := Lib.hid (by rw [HL.out, if_neg hda])
          clear hda had HL
          go_upto_if 33 with (go_at_call 44; refine (IS.out ⟨#[46]⟩ d _).mono ?_; rintro r w3 ⟨rfl, rfl⟩)
          obtain ⟨f, hf⟩ : ∃ f, f = hasAt [46] D.data.toList d := ⟨_, rfl⟩
          change Code.wp _ _ _ _ _
          rw [show hasAt (⟨#[46]⟩ : ByteArray).data.toList D.data.toList d = f from hf.symm]
          have HF := Lib.hid hf
          have hflt : f = true → d < D.size := fun h => by rw [hf] at h; have := hasAt_lt h; rwa [data_len] at this
          clear hf
          go_cut [1, 6] (fun v v6 we => ∃ e : Nat, v = .int .i64 (e : Int) ∧ e ≤ D.size ∧ litFrac D.data.toList d = (e, true) ∧ we = w3)
          case first =>
            cases f
            · go_wp2_with fail
              go_meet
              exact ⟨d, rfl, hdl, by unfold litFrac; rw [← HF.out]; rfl, rfl⟩
            · have hlt := hflt rfl
              have C3 := DE.out (d + 1) (by omega) w3
              have hge := skipE_ge digitL D.data.toList (d + 1)
              have hle := skipE_le digitL D.data.toList (p := d + 1) (by rw [data_len]; omega)
              rw [data_len] at hle
              obtain ⟨e1, he1⟩ : ∃ e1, e1 = skipE digitL D.data.toList (d + 1) := ⟨_, rfl⟩
              rw [← he1] at hge hle C3
              have HE := Lib.hid he1
              clear he1 hflt
              by_cases hz : e1 = d + 1
              · have t2 : ((e1 : Int) == (d : Int) + 1) = true := beq_iff_eq.2 (by omega)
                have HR : Hid (litE D.data.toList p = (e1, false)) := Lib.hid (by
                  have : litFrac D.data.toList d = (e1, false) := by unfold litFrac; rw [← HF.out, if_pos rfl, ← HE.out]; simp [hz]
                  rw [HL2.out, this]; rfl)
                clear hz hge hle
                go_wp2_with (go_at_call 67; refine C3.mono ?_; rintro r w4 ⟨rfl, rfl⟩)
                go_ret2
                exact ⟨by rw [HR.out]; rfl, rfl⟩
              · have t2 : ((e1 : Int) == (d : Int) + 1) = false := by rw [Bool.eq_false_iff]; intro h; have := beq_iff_eq.1 h; omega
                have HR : Hid (litFrac D.data.toList d = (e1, true)) := Lib.hid (by unfold litFrac; rw [← HF.out, if_pos rfl, ← HE.out]; simp [hz])
                clear hz hge
                go_wp2_with (go_at_call 67; refine C3.mono ?_; rintro r w4 ⟨rfl, rfl⟩)
                go_meet
                exact ⟨e1, rfl, hle, HR.out, rfl⟩
          case rest =>
            obtain ⟨e, rfl, hel, hfr, rfl⟩ := hcut
            have HL3 : Hid (litE D.data.toList p = litExp D.data.toList e) := Lib.hid (by rw [HL2.out, hfr]; rfl)
            clear hfr HL2 hflt
            go_upto_if 45 with (go_at_call 44; refine (IS.out ⟨#[101, 69]⟩ e _).mono ?_; rintro r w5 ⟨rfl, rfl⟩)
            obtain ⟨x, hx⟩ : ∃ x, x = hasAt [101, 69] D.data.toList e := ⟨_, rfl⟩
            change Code.wp _ _ _ _ _
            rw [show hasAt (⟨#[101, 69]⟩ : ByteArray).data.toList D.data.toList e = x from hx.symm]
            have HX := Lib.hid hx
            have hxlt : x = true → e < D.size := fun h => by rw [hx] at h; have := hasAt_lt h; rwa [data_len] at this
            clear hx
            cases x
            · have HR : Hid (litE D.data.toList p = (e, true)) := Lib.hid (by rw [HL3.out]; unfold litExp; rw [← HX.out]; rfl)
              go_wp2_with fail
              go_ret2
              exact ⟨by rw [HR.out]; rfl, rfl⟩
            · have hlt := hxlt rfl
              clear hxlt
              go_upto_if 50 with (go_at_call 44; refine (IS.out ⟨#[43, 45]⟩ (e + 1) _).mono ?_; rintro r w6 ⟨rfl, rfl⟩)
              obtain ⟨y, hy⟩ : ∃ y, y = hasAt [43, 45] D.data.toList (e + 1) := ⟨_, rfl⟩
              change Code.wp _ _ _ _ _
              rw [show hasAt (⟨#[43, 45]⟩ : ByteArray).data.toList D.data.toList (e + 1) = y from hy.symm]
              have HY := Lib.hid hy
              have hylt : y = true → e + 1 < D.size := fun h => by rw [hy] at h; have := hasAt_lt h; rwa [data_len] at this
              clear hy
              go_cut [6] (fun v wf => ∃ g : Nat, v = .int .i64 (g : Int) ∧ g ≤ D.size ∧ g = expAt D.data.toList e ∧ wf = w6)
              case first =>
                cases y
                · go_wp2_with fail
                  go_meet
                  exact ⟨e + 1, by go_num, by omega, by unfold expAt; rw [← HY.out]; rfl, rfl⟩
                · have := hylt rfl
                  clear hylt
                  go_wp2_with fail
                  go_meet
                  exact ⟨e + 2, by go_num, by omega, by unfold expAt; rw [← HY.out]; rfl, rfl⟩
              case rest =>
                obtain ⟨g, rfl, hgl, hge0, rfl⟩ := hcut
                have HG := Lib.hid hge0
                clear hge0 hylt
                have C7 := DE.out g hgl wc
                obtain ⟨e2, he2⟩ : ∃ e2, e2 = skipE digitL D.data.toList g := ⟨_, rfl⟩
                rw [← he2] at C7
                have HE := Lib.hid he2
                clear he2
                obtain ⟨q, hq⟩ : ∃ q, q = ((e2 : Int) == (g : Int)) := ⟨_, rfl⟩
                have hq' : ((e2 : Int) == (g : Int)) = q := hq.symm
                have HR : Hid (litE D.data.toList p = (e2, !q)) := Lib.hid (by
                  rw [HL3.out]; unfold litExp; rw [← HX.out, if_pos rfl, ← HG.out, ← HE.out, hq]
                  congr 2
                  rw [Bool.eq_iff_iff, beq_iff_eq, beq_iff_eq]; omega)
                clear hq
                cases q
                all_goals
                  go_wp2_with (go_at_call 67; refine C7.mono ?_; rintro r w8 ⟨rfl, rfl⟩)
                  go_ret2
                  exact ⟨by rw [HR.out]; rfl, rfl⟩
end Go.Proofs.YtdhkpkojnokjdaaDoor

/-
  Which value begins here; marks; words; limits; a number read.
-/
namespace Go.Proofs
open Go.Shelf
def Tryd.laysM316_ren : Go.Shelf.Ren := ⟨fun | 316 => 46 | n => n, fun | 9 => 9 | 3 => 3 | 4 => 4 | 37 => 26 | 0 => 0 | 127 => 90 | 5 => 5 | n => n, fun | n => n⟩
theorem Tryd.laysM316 : Go.Proofs.LaysM.n316 Tryd.prog Tryd.laysM316_ren := {
  mixed := by kernel_rfl
  f316 := Tryd.func46.trans (congrArg some (by kernel_rfl))
  t0 := Tryd.underlying0
  a0 := Tryd.isAgg0
  z0 := Tryd.sizeOf0
  v0 := Tryd.zeroValue0
  t3 := Tryd.underlying3
  a3 := Tryd.isAgg3
  z3 := Tryd.sizeOf3
  v3 := Tryd.zeroValue3
  t4 := Tryd.underlying4
  a4 := Tryd.isAgg4
  z4 := Tryd.sizeOf4
  v4 := Tryd.zeroValue4
  t9 := Tryd.underlying9
  a9 := Tryd.isAgg9
  z9 := Tryd.sizeOf9
  v9 := Tryd.zeroValue9
  t37 := Tryd.underlying26
  a37 := Tryd.isAgg26
  z37 := Tryd.sizeOf26
  v37 := Tryd.zeroValue26
  t127 := Tryd.underlying90
  a127 := Tryd.isAgg90
  z127 := Tryd.sizeOf90
  v127 := Tryd.zeroValue90
  t5 := Tryd.underlying5
  a5 := Tryd.isAgg5
  z5 := Tryd.sizeOf5
  v5 := Tryd.zeroValue5
  i0 := by kernel_rfl
  i3 := by kernel_rfl
  i4 := by kernel_rfl
  i5 := by kernel_rfl
  i9 := by kernel_rfl
  i37 := by kernel_rfl
  i127 := by kernel_rfl }
end Go.Proofs
namespace Go.Proofs.YtdhkpkojnokjdaaDoor
open Go.RowKit Go.Shelf
set_option linter.unusedVariables false

/-- what a step of the reader leaves -/
def Post {α : Type} (w : World) (R : Nat) (D : ByteArray) (val : α → Value → World → Prop) (r : Rs α) (e : Ending) (w' : World) : Prop :=
  But R w w' ∧ match r with
    | .ok a p => p ≤ D.size ∧ (∃ v, e = .returned v ∧ val a v w') ∧ RdAt w' R D p
    | .bad a b => ∃ a' : Int, e = faultE a' b ∧ (b = 11 ∨ a' = (a : Int))

theorem post_ok {α : Type} {w : World} {R : Nat} {D : ByteArray} {val : α → Value → World → Prop} {r : Rs α} {a : α} {p : Nat} {v : Value} {w' : World} (h : r = .ok a p) (t : But R w w') (hp : p ≤ D.size) (hv : val a v w') (hr : RdAt w' R D p) : Post w R D val r (.returned v) w' := by
  subst h; exact ⟨t, hp, ⟨v, rfl, hv⟩, hr⟩
theorem post_bad {α : Type} {w : World} {R : Nat} {D : ByteArray} {val : α → Value → World → Prop} {r : Rs α} {a b : Nat} {w' : World} (h : r = .bad a b) (t : But R w w') : Post w R D val r (faultE a b) w' := by
  subst h; exact ⟨t, _, rfl, Or.inr rfl⟩
theorem post_syn {α : Type} {w : World} {R : Nat} {D : ByteArray} {val : α → Value → World → Prop} {r : Rs α} {a : Nat} {a' : Int} {w' : World} (h : r = .bad a 11) (t : But R w w') : Post w R D val r (faultE a' 11) w' := by
  subst h; exact ⟨t, _, rfl, Or.inl rfl⟩
/-- a fault thrown from within is thrown on -/
theorem post_on {α : Type} {w : World} {R : Nat} {D : ByteArray} {val : α → Value → World → Prop} {r : Rs α} {a b : Nat} {a' : Int} {w' : World} (h : r = .bad a b) (t : But R w w') (k : b = 11 ∨ a' = (a : Int)) : Post w R D val r (faultE a' b) w' := by
  subst h; exact ⟨t, _, rfl, k⟩
/-- what a call left is handed on -/
theorem Post.cases {α : Type} {w : World} {R : Nat} {D : ByteArray} {val : α → Value → World → Prop} {r : Rs α} {e : Ending} {w' : World} (h : Post w R D val r e w') :
    (∃ a p v, r = .ok a p ∧ p ≤ D.size ∧ e = .returned v ∧ val a v w' ∧ RdAt w' R D p ∧ But R w w') ∨ (∃ (a b : Nat) (a' : Int), r = .bad a b ∧ e = faultE a' b ∧ (b = 11 ∨ a' = (a : Int)) ∧ But R w w') := by
  obtain ⟨t, h⟩ := h
  cases r with
  | ok a p => obtain ⟨hp, ⟨v, he, hv⟩, hr⟩ := h; exact Or.inl ⟨a, p, v, rfl, hp, he, hv, hr, t⟩
  | bad a b => obtain ⟨a', he, hk⟩ := h; exact Or.inr ⟨a, b, a', rfl, he, hk, t⟩

/-- the byte that stands at a place -/
def byteE (s : List UInt8) (p : Nat) : Rs Nat := match s[p]? with | some c => .ok c.toNat p | none => .bad s.length 11
def kindOf (c q : Nat) : Rs Nat :=
  if c = 110 then .ok 0 q else if c = 102 then .ok 1 q else if c = 116 then .ok 2 q else if c = 34 then .ok 4 q else if c = 91 then .ok 5 q else if c = 123 then .ok 6 q
  else if c = 45 ∨ (48 ≤ c ∧ c ≤ 57) then .ok 3 q else .bad q 11
def kindE (s : List UInt8) (p : Nat) : Rs Nat := (byteE s (skipE blankL s p)).bind kindOf

theorem byteE_in {D : ByteArray} {q : Nat} (h : q < D.size) : byteE D.data.toList q = .ok (D[q]'h).toNat q := by
  unfold byteE; rw [List.getElem?_eq_getElem (by rw [data_len]; exact h)]; rfl
theorem byteE_out {D : ByteArray} {q : Nat} (h : D.size ≤ q) : byteE D.data.toList q = .bad D.size 11 := by
  unfold byteE; rw [List.getElem?_eq_none (by rw [data_len]; exact h)]; simp

abbrev HereIs (w : World) (R c : Nat) : Prop := ∀ W, Only w W → Calls Tryd.prog 51 #[.pointer (some ⟨R, 0, none⟩)] W fun e w' => e = .returned (.int .u8 (c : Int)) ∧ Only W w'

set_option maxHeartbeats 3200000 in
theorem kind_any {D : ByteArray} {R p : Nat} {w : World} (h : RdAt w R D p) (hp : p ≤ D.size) (hl : D.size ≤ 1000000) :
    Calls Tryd.prog 37 #[.pointer (some ⟨R, 0, none⟩)] w (Post w R D (fun k v _ => v = .int .i64 ((k : Nat) : Int)) (kindE D.data.toList p)) := by
  obtain ⟨q, hq⟩ : ∃ q, q = skipE blankL D.data.toList p := ⟨_, rfl⟩
  have hql : q ≤ D.size := by have := skipE_le blankL D.data.toList (p := p) (by rw [data_len]; exact hp); rw [data_len] at this; omega
  have BL := blanks_any h hp hl
  rw [← hq] at BL
  have hk : kindE D.data.toList p = (byteE D.data.toList q).bind kindOf := by unfold kindE; rw [← hq]
  clear hq h
  by_cases hlt : q < D.size
  · rw [byteE_in hlt] at hk
    have HE : ∀ W, RdAt W R D q → Calls Tryd.prog 51 #[.pointer (some ⟨R, 0, none⟩)] W fun e w' => e = .returned (.int .u8 (((D[q]'hlt).toNat : Nat) : Int)) ∧ Only W w' := fun W r => here_in r hlt
    obtain ⟨c, hc⟩ : ∃ c, c = (D[q]'hlt).toNat := ⟨_, rfl⟩
    rw [← hc] at HE hk
    simp only [Rs.bind] at hk
    have HE := Lib.hid HE
    clear hc
    by_cases h1 : c = 110 ∨ c = 102 ∨ c = 116 ∨ c = 34 ∨ c = 91 ∨ c = 123 ∨ c = 45
    · rcases h1 with rfl | rfl | rfl | rfl | rfl | rfl | rfl
      all_goals
        have HK := Lib.hid hk
        clear hk
        go_enter Tryd.func37, Tryd.ntmps37
        go_wp2_with fail
        go_at_call 25
        refine BL.mono ?_
        rintro r w1 ⟨rfl, r1, t1⟩
        have HR := Lib.hid r1
        have HT := Lib.hid t1
        clear r1 t1 BL
        go_wp2_with (go_at_call 51; refine (HE.out _ HR.out).mono ?_; rintro r w2 ⟨rfl, t2⟩)
        have hr := HR.out.only t2
        have ht := HT.out.only t2
        go_ret
        exact post_ok (HK.out.trans rfl) ht hql rfl hr
    · have b1 : ((c : Int) == 110) = false := by simp; omega
      have b2 : ((c : Int) == 102) = false := by simp; omega
      have b3 : ((c : Int) == 116) = false := by simp; omega
      have b4 : ((c : Int) == 34) = false := by simp; omega
      have b5 : ((c : Int) == 91) = false := by simp; omega
      have b6 : ((c : Int) == 123) = false := by simp; omega
      have b7 : ((c : Int) != 45) = true := by simp; omega
      by_cases h2 : 48 ≤ c ∧ c ≤ 57
      · have HK : Hid (kindE D.data.toList p = .ok 3 q) := Lib.hid (by rw [hk]; unfold kindOf; repeat (first | rw [if_neg (by omega)] | rw [if_pos (by omega)]))
        have d1 : decide ((c : Int) < 48) = false := decide_eq_false (by omega)
        have d2 : decide ((57 : Int) < (c : Int)) = false := decide_eq_false (by omega)
        clear h1 h2 hk
        go_enter Tryd.func37, Tryd.ntmps37
        go_wp2_with fail
        go_at_call 25
        refine BL.mono ?_
        rintro r w1 ⟨rfl, r1, t1⟩
        have HR := Lib.hid r1
        have HT := Lib.hid t1
        clear r1 t1 BL
        go_wp2_with (go_at_call 51; refine (HE.out _ HR.out).mono ?_; rintro r w2 ⟨rfl, t2⟩)
        have hr := HR.out.only t2
        have ht := HT.out.only t2
        go_ret
        exact post_ok HK.out ht hql rfl hr
      · have HK : Hid (kindE D.data.toList p = .bad q 11) := Lib.hid (by rw [hk]; unfold kindOf; repeat (first | rw [if_neg (by omega)]))
        have key : (decide ((c : Int) < 48) = true) ∨ (decide ((c : Int) < 48) = false ∧ decide ((57 : Int) < (c : Int)) = true) := by simp; omega
        clear h1 h2 hk
        rcases key with d1 | ⟨d1, d2⟩
        all_goals
          go_enter Tryd.func37, Tryd.ntmps37
          go_wp2_with fail
          go_at_call 25
          refine BL.mono ?_
          rintro r w1 ⟨rfl, r1, t1⟩
          have HR := Lib.hid r1
          have HT := Lib.hid t1
          clear r1 t1 BL
          go_wp2_with (go_at_call 51; refine (HE.out _ HR.out).mono ?_; rintro r w2 ⟨rfl, t2⟩; have hr := HR.out.only t2; have ht := HT.out.only t2; obtain ⟨y1, y2, y3, y4, y5⟩ := hr.all; clear hr)
          simp [bodyPost]
          exact post_bad HK.out ht
  · have HK : Hid (kindE D.data.toList p = .bad D.size 11) := Lib.hid (by rw [hk, byteE_out (by omega)]; rfl)
    clear hk
    go_enter Tryd.func37, Tryd.ntmps37
    go_wp2_with fail
    go_at_call 25
    refine BL.mono ?_
    rintro r w1 ⟨rfl, r1, t1⟩
    have HR := Lib.hid r1
    have HT := Lib.hid t1
    clear r1 t1 BL
    go_wp2_with (go_at_call 51; refine (here_out HR.out (by omega)).mono ?_; rintro r w2 ⟨rfl, t2⟩)
    simp [bodyPost]
    exact post_bad HK.out (HT.out.only t2)
end Go.Proofs.YtdhkpkojnokjdaaDoor
