/-
  PARTS: JHex, JCode, JEsc.
-/
import Derived.Test.YtdhkpkojnokjdaaDoorGJm
import Derived.Test.YtdhkpkojnokjdaaDoorJBytes
/-
  Digits of base 16; the four digits of an escape; a code point.
-/
namespace Go.Proofs.YtdhkpkojnokjdaaDoor
open Go.RowKit Go.Shelf
set_option linter.unusedVariables false
set_option linter.unusedSimpArgs false

def hexV (c : Nat) : Option Nat := if 48 ≤ c ∧ c ≤ 57 then some (c - 48) else if 97 ≤ c ∧ c ≤ 102 then some (c - 87) else if 65 ≤ c ∧ c ≤ 70 then some (c - 55) else none
def hexI (c : Nat) : Int := match hexV c with | some n => n | none => -1
theorem hexV_lt {c n : Nat} (h : hexV c = some n) : n < 16 := by
  unfold hexV at h
  split at h
  · simp at h; omega
  · split at h
    · simp at h; omega
    · split at h
      · simp at h; omega
      · simp at h

set_option maxRecDepth 100000 in
set_option maxHeartbeats 3200000 in
theorem digitOf_any {c : Nat} (hc : c < 256) (w : World) : Calls Tryd.prog 85 #[.int .u8 (c : Int)] w fun e w' => e = .returned (.int .i32 (hexI c)) ∧ w' = w := by
  have key : (48 ≤ c ∧ c ≤ 57) ∨ (57 < c ∧ c < 65) ∨ c < 48 ∨ (65 ≤ c ∧ c ≤ 70) ∨ (70 < c ∧ c < 97) ∨ (97 ≤ c ∧ c ≤ 102) ∨ 102 < c := by omega
  have b1 : ∀ x : Bool, (decide (48 ≤ c) = x) → decide ((48 : Int) ≤ (c : Int)) = x := fun x h => by rw [← h, decide_eq_decide]; omega
  have b2 : ∀ x : Bool, (decide (c ≤ 57) = x) → decide ((c : Int) ≤ 57) = x := fun x h => by rw [← h, decide_eq_decide]; omega
  have b3 : ∀ x : Bool, (decide (97 ≤ c) = x) → decide ((97 : Int) ≤ (c : Int)) = x := fun x h => by rw [← h, decide_eq_decide]; omega
  have b4 : ∀ x : Bool, (decide (c ≤ 102) = x) → decide ((c : Int) ≤ 102) = x := fun x h => by rw [← h, decide_eq_decide]; omega
  have b5 : ∀ x : Bool, (decide (65 ≤ c) = x) → decide ((65 : Int) ≤ (c : Int)) = x := fun x h => by rw [← h, decide_eq_decide]; omega
  have b6 : ∀ x : Bool, (decide (c ≤ 70) = x) → decide ((c : Int) ≤ 70) = x := fun x h => by rw [← h, decide_eq_decide]; omega
  rcases key with k | k | k | k | k | k | k
  · skip
    have t1 := b1 true (decide_eq_true (by omega))
    have t2 := b2 true (decide_eq_true (by omega))
    have hv : hexI c = ((c - 48 : Nat) : Int) := by unfold hexI hexV; repeat (first | rw [if_pos (by omega)] | rw [if_neg (by omega)])
    have HV := Lib.hid hv
    clear b1 b2 b3 b4 b5 b6 hv
    go_enter Tryd.func85, Tryd.ntmps85
    go_wp2_with fail
    go_ret
    refine ⟨?_, rfl⟩
    rw [HV.out]
    first | exact rfl | (simp; omega)
  · skip
    have t1 := b1 true (decide_eq_true (by omega))
    have t2 := b2 false (decide_eq_false (by omega))
    have t3 := b3 false (decide_eq_false (by omega))
    have t5 := b5 false (decide_eq_false (by omega))
    have hv : hexI c = -1 := by unfold hexI hexV; repeat (first | rw [if_pos (by omega)] | rw [if_neg (by omega)])
    have HV := Lib.hid hv
    clear b1 b2 b3 b4 b5 b6 hv
    go_enter Tryd.func85, Tryd.ntmps85
    go_wp2_with fail
    go_ret
    refine ⟨?_, rfl⟩
    rw [HV.out]
    first | exact rfl | (simp; omega)
  · skip
    have t1 := b1 false (decide_eq_false (by omega))
    have t3 := b3 false (decide_eq_false (by omega))
    have t5 := b5 false (decide_eq_false (by omega))
    have hv : hexI c = -1 := by unfold hexI hexV; repeat (first | rw [if_pos (by omega)] | rw [if_neg (by omega)])
    have HV := Lib.hid hv
    clear b1 b2 b3 b4 b5 b6 hv
    go_enter Tryd.func85, Tryd.ntmps85
    go_wp2_with fail
    go_ret
    refine ⟨?_, rfl⟩
    rw [HV.out]
    first | exact rfl | (simp; omega)
  · skip
    have t1 := b1 true (decide_eq_true (by omega))
    have t2 := b2 false (decide_eq_false (by omega))
    have t3 := b3 false (decide_eq_false (by omega))
    have t5 := b5 true (decide_eq_true (by omega))
    have t6 := b6 true (decide_eq_true (by omega))
    have hv : hexI c = ((c - 55 : Nat) : Int) := by unfold hexI hexV; repeat (first | rw [if_pos (by omega)] | rw [if_neg (by omega)])
    have HV := Lib.hid hv
    clear b1 b2 b3 b4 b5 b6 hv
    go_enter Tryd.func85, Tryd.ntmps85
    go_wp2_with fail
    go_ret
    refine ⟨?_, rfl⟩
    rw [HV.out]
    first | exact rfl | (simp; omega)
  · skip
    have t1 := b1 true (decide_eq_true (by omega))
    have t2 := b2 false (decide_eq_false (by omega))
    have t3 := b3 false (decide_eq_false (by omega))
    have t5 := b5 true (decide_eq_true (by omega))
    have t6 := b6 false (decide_eq_false (by omega))
    have hv : hexI c = -1 := by unfold hexI hexV; repeat (first | rw [if_pos (by omega)] | rw [if_neg (by omega)])
    have HV := Lib.hid hv
    clear b1 b2 b3 b4 b5 b6 hv
    go_enter Tryd.func85, Tryd.ntmps85
    go_wp2_with fail
    go_ret
    refine ⟨?_, rfl⟩
    rw [HV.out]
    first | exact rfl | (simp; omega)
  · skip
    have t1 := b1 true (decide_eq_true (by omega))
    have t2 := b2 false (decide_eq_false (by omega))
    have t3 := b3 true (decide_eq_true (by omega))
    have t4 := b4 true (decide_eq_true (by omega))
    have hv : hexI c = ((c - 87 : Nat) : Int) := by unfold hexI hexV; repeat (first | rw [if_pos (by omega)] | rw [if_neg (by omega)])
    have HV := Lib.hid hv
    clear b1 b2 b3 b4 b5 b6 hv
    go_enter Tryd.func85, Tryd.ntmps85
    go_wp2_with fail
    go_ret
    refine ⟨?_, rfl⟩
    rw [HV.out]
    first | exact rfl | (simp; omega)
  · skip
    have t1 := b1 true (decide_eq_true (by omega))
    have t2 := b2 false (decide_eq_false (by omega))
    have t3 := b3 true (decide_eq_true (by omega))
    have t4 := b4 false (decide_eq_false (by omega))
    have t5 := b5 true (decide_eq_true (by omega))
    have t6 := b6 false (decide_eq_false (by omega))
    have hv : hexI c = -1 := by unfold hexI hexV; repeat (first | rw [if_pos (by omega)] | rw [if_neg (by omega)])
    have HV := Lib.hid hv
    clear b1 b2 b3 b4 b5 b6 hv
    go_enter Tryd.func85, Tryd.ntmps85
    go_wp2_with fail
    go_ret
    refine ⟨?_, rfl⟩
    rw [HV.out]
    first | exact rfl | (simp; omega)

/-- k digits from a place on -/
def unitE (s : List UInt8) (from_ : Nat) : Nat → Nat → Nat → Rs Nat
  | 0, p, acc => .ok acc p
  | k + 1, p, acc => (byteE s p).bind fun c q => match hexV c with | some n => unitE s from_ k (p + 1) (16 * acc + n) | none => .bad from_ 11

theorem unitE_lt {s : List UInt8} {f : Nat} : ∀ {k p acc c q : Nat}, unitE s f k p acc = .ok c q → c < (acc + 1) * 16 ^ k
  | 0, p, acc, c, q, h => by simp only [unitE, Rs.ok.injEq] at h; omega
  | k + 1, p, acc, c, q, h => by
    unfold unitE byteE at h
    cases hs : s[p]? with
    | none => rw [hs] at h; simp [Rs.bind] at h
    | some x =>
      rw [hs] at h
      simp only [Rs.bind] at h
      cases hx : hexV x.toNat with
      | none => rw [hx] at h; simp at h
      | some n =>
        rw [hx] at h
        have h1 := unitE_lt h
        have h2 := hexV_lt hx
        have h3 : 16 * acc + n + 1 ≤ (acc + 1) * 16 := by omega
        calc c < (16 * acc + n + 1) * 16 ^ k := h1
          _ ≤ ((acc + 1) * 16) * 16 ^ k := Nat.mul_le_mul_right _ h3
          _ = (acc + 1) * 16 ^ (k + 1) := by rw [Nat.pow_succ, Nat.mul_assoc, Nat.mul_comm 16]

set_option maxRecDepth 100000 in
set_option maxHeartbeats 3200000 in
theorem unit_any {D : ByteArray} {R p f : Nat} {w : World} (h : RdAt w R D p) (hp : p ≤ D.size) (hl : D.size ≤ 1000000) (hf : f ≤ 1000000) :
    Calls Tryd.prog 79 #[.pointer (some ⟨R, 0, none⟩), .int .i64 (f : Int)] w (Post w R D (fun c v _ => v = .int .i32 ((c : Nat) : Int)) (unitE D.data.toList f 4 p 0)) := by
  have H := Lib.hid h
  clear h
  go_enter Tryd.func79, Tryd.ntmps79
  go_wp2_with fail
  go_loopg [7, 5] 4 (fun g v a wr => ∃ k q acc : Nat, v = .int .i64 (k : Int) ∧ k ≤ 4 ∧ 4 - k ≤ g ∧ a = .int .i32 (acc : Int) ∧ acc < 16 ^ k ∧ q ≤ D.size ∧ RdAt wr R D q ∧ But R w wr ∧ unitE D.data.toList f 4 p 0 = unitE D.data.toList f (4 - k) q acc)
  case atStart => exact ⟨0, p, 0, rfl, by omega, Nat.le_refl _, rfl, by simp, hp, H.out, Turn.refl _ _, rfl⟩
  case round =>
    obtain ⟨k, q, acc, rfl, hk, hg, rfl, hacc, hq, hr, ht, hu⟩ := hrel
    have hacc2 : acc < 65536 := Nat.lt_of_lt_of_le hacc (by rcases (by omega : k = 0 ∨ k = 1 ∨ k = 2 ∨ k = 3 ∨ k = 4) with rfl | rfl | rfl | rfl | rfl <;> decide)
    by_cases hlt : k < 4
    · have il : (k : Int) < 4 := by omega
      have hu2 : unitE D.data.toList f 4 p 0 = (byteE D.data.toList q).bind fun c r => match hexV c with | some n => unitE D.data.toList f (4 - (k + 1)) (q + 1) (16 * acc + n) | none => .bad f 11 := by
        rw [hu, show 4 - k = (4 - (k + 1)) + 1 by omega]; rfl
      clear hu
      rcases byteE_cases D q with ⟨hqlt, hb⟩ | ⟨hge, hb⟩
      · rw [hb] at hu2
        have HE := here_in hr hqlt
        have hc256 : (D[q]'hqlt).toNat < 256 := (D[q]'hqlt).toNat_lt
        obtain ⟨c, hc⟩ : ∃ c, c = (D[q]'hqlt).toNat := ⟨_, rfl⟩
        rw [← hc] at HE hu2 hc256
        simp only [Rs.bind] at hu2
        have iq : (q : Int) < 1000000 := by omega
        have DG := fun W => digitOf_any hc256 W
        have HR := Lib.hid hr
        have HT := Lib.hid ht
        cases hx : hexV c with
        | some n =>
          have hn := hexV_lt hx
          rw [hx] at hu2
          have e1 : hexI c = (n : Int) := by unfold hexI; rw [hx]
          rw [e1] at DG
          have DG := Lib.hid DG
          have HU := Lib.hid hu2
          have t0 : decide ((n : Int) < 0) = false := decide_eq_false (by omega)
          have i2 : (n : Int) < 16 := by omega
          have HN := Lib.hid hn
          have i3 : (acc : Int) < 65536 := by omega
          have HAC := Lib.hid hacc
          clear hu2 hr ht hb hc hx e1 hc256 hacc hacc2 hn hlt
          go_wp2_with (first | (go_at_call 51; refine HE.mono ?_; rintro r w2 ⟨rfl, t2⟩; have hr := HR.out.only t2; have ht := HT.out.only t2; obtain ⟨y1, y2, y3, y4, y5⟩ := hr.all; have HR2 := Lib.hid hr; have HT2 := Lib.hid ht; clear hr ht t2) | (go_at_call 85; refine (DG.out _).mono ?_; rintro r w3 ⟨rfl, rfl⟩))
          go_roundg (4 - (k + 1))
          case measure => omega
          case rel => exact ⟨k + 1, q + 1, 16 * acc + n, by go_num, by omega, Nat.le_refl _, by go_num, by have := HAC.out; rw [Nat.pow_succ]; omega, by omega, HR2.out.put1 _, HT2.out.then_ (but_set _ _ _ _), HU.out⟩
        | none =>
          rw [hx] at hu2
          have e1 : hexI c = -1 := by unfold hexI; rw [hx]
          rw [e1] at DG
          have DG := Lib.hid DG
          have HU := Lib.hid hu2
          clear hu2 hr ht hb hc hx e1 hc256
          go_wp2_with (first | (go_at_call 51; refine HE.mono ?_; rintro r w2 ⟨rfl, t2⟩; have ht := HT.out.only t2; have HT2 := Lib.hid ht; clear ht t2) | (go_at_call 85; refine (DG.out _).mono ?_; rintro r w3 ⟨rfl, rfl⟩))
          simp [bodyPost]
          exact post_bad HU.out HT2.out
      · rw [hb] at hu2
        have HU := Lib.hid hu2
        have HE := here_out hr hge
        have HT := Lib.hid ht
        clear hu2 hr ht hb
        go_wp2_with (go_at_call 51; refine HE.mono ?_; rintro r w2 ⟨rfl, t2⟩; have ht := HT.out.only t2; have HT2 := Lib.hid ht; clear ht t2)
        simp [bodyPost]
        exact post_bad HU.out HT2.out
    · obtain rfl : k = 4 := by omega
      have HU := Lib.hid (hu.trans rfl)
      have HR := Lib.hid hr
      have HT := Lib.hid ht
      clear hu hr ht
      go_wp2_with fail
      go_ret
      exact post_ok HU.out HT.out hq rfl HR.out
end Go.Proofs.YtdhkpkojnokjdaaDoor

/-
  What follows \u: a code point.
-/
namespace Go.Proofs.YtdhkpkojnokjdaaDoor
open Go.RowKit Go.Shelf
set_option linter.unusedVariables false
set_option linter.unusedSimpArgs false

def lowE (s : List UInt8) (f c q : Nat) : Rs Nat := (unitE s f 4 q 0).bind fun l r => if 56320 ≤ l ∧ l < 57344 then .ok (65536 + (c - 55296) * 1024 + (l - 56320)) r else .bad f 11
def sndE (s : List UInt8) (f c q : Nat) : Rs Nat := (byteE s q).bind fun y _ => if y = 117 then lowE s f c (q + 1) else .bad f 11
def fstE (s : List UInt8) (f c q : Nat) : Rs Nat := (byteE s q).bind fun y _ => if y = 92 then sndE s f c (q + 1) else .bad f 11
def cpE (s : List UInt8) (f p : Nat) : Rs Nat := (unitE s f 4 p 0).bind fun c q => if c < 55296 ∨ 57344 ≤ c then .ok c q else if 56320 ≤ c then .bad f 11 else fstE s f c q

/-- where the loop over the two marks stands -/
def markRest (s : List UInt8) (f c : Nat) (k q : Nat) : Rs Nat := if k = 0 then fstE s f c q else if k = 1 then sndE s f c q else lowE s f c q

set_option maxRecDepth 100000 in
set_option maxHeartbeats 6400000 in
theorem codePoint_any {D : ByteArray} {R p f : Nat} {w : World} (h : RdAt w R D p) (hp : p ≤ D.size) (hl : D.size ≤ 1000000) (hf : f ≤ 1000000) :
    Calls Tryd.prog 69 #[.pointer (some ⟨R, 0, none⟩), .int .i64 (f : Int)] w (Post w R D (fun c v _ => v = .int .i32 ((c : Nat) : Int)) (cpE D.data.toList f p)) := by
  have UA := unit_any h hp hl hf
  have hv : cpE D.data.toList f p = (unitE D.data.toList f 4 p 0).bind fun c q => if c < 55296 ∨ 57344 ≤ c then .ok c q else if 56320 ≤ c then .bad f 11 else fstE D.data.toList f c q := rfl
  have hlt : ∀ c q, unitE D.data.toList f 4 p 0 = .ok c q → c < 65536 := fun c q h => by have := unitE_lt h; simpa using this
  obtain ⟨u, hu⟩ : ∃ u, u = unitE D.data.toList f 4 p 0 := ⟨_, rfl⟩
  rw [← hu] at UA hv hlt
  have HV := Lib.hid hv
  have HLT := Lib.hid hlt
  clear hv hlt hu h
  go_enter Tryd.func69, Tryd.ntmps69
  go_wp2_with fail
  go_at_call 79
  refine UA.mono ?_
  intro e w1 hP
  rcases hP.cases with ⟨c, q, v, rfl, hq, rfl, rfl, r1, t1⟩ | ⟨a, b, a', rfl, rfl, hk, t1⟩
  · have hc := HLT.out c q rfl
    have HK := Lib.hid (HV.out.trans rfl)
    have HR := Lib.hid r1
    have HT := Lib.hid t1
    clear HV HLT hP UA r1 t1
    have key : (c < 55296) ∨ (57344 ≤ c) ∨ (56320 ≤ c ∧ c < 57344) ∨ (55296 ≤ c ∧ c < 56320) := by omega
    rcases key with k | k | k | k
    · have HK2 : Hid (cpE D.data.toList f p = .ok c q) := Lib.hid (by rw [HK.out]; exact if_pos (Or.inl k))
      have d1 : decide ((c : Int) < 55296) = true := decide_eq_true (by omega)
      clear k HK hc
      go_wp2_with fail
      go_ret
      exact post_ok HK2.out HT.out hq rfl HR.out
    · have HK2 : Hid (cpE D.data.toList f p = .ok c q) := Lib.hid (by rw [HK.out]; exact if_pos (Or.inr k))
      have d1 : decide ((c : Int) < 55296) = false := decide_eq_false (by omega)
      have d2 : decide ((57344 : Int) ≤ (c : Int)) = true := decide_eq_true (by omega)
      clear k HK hc
      go_wp2_with fail
      go_ret
      exact post_ok HK2.out HT.out hq rfl HR.out
    · have HK2 : Hid (cpE D.data.toList f p = .bad f 11) := Lib.hid (HK.out.trans ((if_neg (by omega)).trans (if_pos (by omega))))
      have d1 : decide ((c : Int) < 55296) = false := decide_eq_false (by omega)
      have d2 : decide ((57344 : Int) ≤ (c : Int)) = false := decide_eq_false (by omega)
      have d3 : decide ((56320 : Int) ≤ (c : Int)) = true := decide_eq_true (by omega)
      clear k HK hc
      go_wp2_with fail
      simp [bodyPost]
      exact post_bad HK2.out HT.out
    · have HK2 : Hid (cpE D.data.toList f p = fstE D.data.toList f c q) := Lib.hid (HK.out.trans ((if_neg (by omega)).trans (if_neg (by omega))))
      have d1 : decide ((c : Int) < 55296) = false := decide_eq_false (by omega)
      have d2 : decide ((57344 : Int) ≤ (c : Int)) = false := decide_eq_false (by omega)
      have d3 : decide ((56320 : Int) ≤ (c : Int)) = false := decide_eq_false (by omega)
      have HC := Lib.hid k
      have hRlt := HR.out.lt
      clear k HK hc
      go_wp2_with fail
      go_loopg [26] 2 (fun g v wr => ∃ k q' : Nat, v = .int .i64 (k : Int) ∧ k ≤ 2 ∧ 2 - k ≤ g ∧ q' ≤ D.size ∧ RdAt wr R D q' ∧ But R w wr ∧ Own2 wr w1.heap.size (.int .u8 92) (.int .u8 117) ∧ cpE D.data.toList f p = markRest D.data.toList f c k q')
      case atStart => exact ⟨0, q, rfl, by omega, Nat.le_refl _, hq, HR.out.only ((Only.refl _).alloc _), HT.out.only ((Only.refl _).alloc _), Own2.new _ _ _ _, HK2.out⟩
      case round =>
        obtain ⟨k, q', rfl, hk2, hg, hq', hr, ht, ho, hm⟩ := hrel
        obtain ⟨z1, z2, z3, z4, z5⟩ := ho.all
        have HO := Lib.hid ho
        have ne : w1.heap.size ≠ R := by omega
        rcases (by omega : k = 0 ∨ k = 1 ∨ k = 2) with rfl | rfl | rfl
        · rcases byteE_cases D q' with ⟨hqlt, hb⟩ | ⟨hge, hb⟩
          · have HE := here_in hr hqlt
            obtain ⟨x, hx⟩ : ∃ x, x = (D[q']'hqlt).toNat := ⟨_, rfl⟩
            rw [← hx] at HE hb
            have hm2 : cpE D.data.toList f p = if x = 92 then sndE D.data.toList f c (q' + 1) else .bad f 11 := by
              rw [hm]; show (byteE D.data.toList q').bind _ = _; rw [hb]; rfl
            have iq : (q' : Int) < 1000000 := by omega
            have HR2 := Lib.hid hr
            have HT2 := Lib.hid ht
            clear hb hm hr ht hx ho
            by_cases hxm : x = 92
            · have t1 : ((x : Int) != 92) = false := by subst hxm; rfl
              have HM := Lib.hid (hm2.trans (if_pos hxm))
              clear hm2 hxm
              go_wp2_with (go_at_call 51; refine HE.mono ?_; rintro r w2 ⟨rfl, t2⟩; have hr := HR2.out.only t2; have ht := HT2.out.only t2; have ho := HO.out.only t2; obtain ⟨y1, y2, y3, y4, y5⟩ := hr.all; have HR3 := Lib.hid hr; have HT3 := Lib.hid ht; have HO3 := Lib.hid ho; clear hr ht ho t2)
              go_roundg 1
              case measure => omega
              case rel => exact ⟨1, q' + 1, by go_num, by omega, Nat.le_refl _, by omega, HR3.out.put1 _, HT3.out.then_ (but_set _ _ _ _), HO3.out.far ne 1 _, HM.out⟩
            · have t1 : ((x : Int) != 92) = true := by rw [bne_iff_ne]; omega
              have HM := Lib.hid (hm2.trans (if_neg hxm))
              clear hm2 hxm
              go_wp2_with (go_at_call 51; refine HE.mono ?_; rintro r w2 ⟨rfl, t2⟩; have ht := HT2.out.only t2; have HT3 := Lib.hid ht; clear ht t2)
              simp [bodyPost]
              exact post_bad HM.out HT3.out
          · have HE := here_out hr hge
            have HM : Hid (cpE D.data.toList f p = .bad D.size 11) := Lib.hid (by rw [hm]; show (byteE D.data.toList q').bind _ = _; rw [hb]; rfl)
            have HT2 := Lib.hid ht
            clear hb hm hr ht ho
            go_wp2_with (go_at_call 51; refine HE.mono ?_; rintro r w2 ⟨rfl, t2⟩; have ht := HT2.out.only t2; have HT3 := Lib.hid ht; clear ht t2)
            simp [bodyPost]
            exact post_bad HM.out HT3.out
        · rcases byteE_cases D q' with ⟨hqlt, hb⟩ | ⟨hge, hb⟩
          · have HE := here_in hr hqlt
            obtain ⟨x, hx⟩ : ∃ x, x = (D[q']'hqlt).toNat := ⟨_, rfl⟩
            rw [← hx] at HE hb
            have hm2 : cpE D.data.toList f p = if x = 117 then lowE D.data.toList f c (q' + 1) else .bad f 11 := by
              rw [hm]; show (byteE D.data.toList q').bind _ = _; rw [hb]; rfl
            have iq : (q' : Int) < 1000000 := by omega
            have HR2 := Lib.hid hr
            have HT2 := Lib.hid ht
            clear hb hm hr ht hx ho
            by_cases hxm : x = 117
            · have t1 : ((x : Int) != 117) = false := by subst hxm; rfl
              have HM := Lib.hid (hm2.trans (if_pos hxm))
              clear hm2 hxm
              go_wp2_with (go_at_call 51; refine HE.mono ?_; rintro r w2 ⟨rfl, t2⟩; have hr := HR2.out.only t2; have ht := HT2.out.only t2; have ho := HO.out.only t2; obtain ⟨y1, y2, y3, y4, y5⟩ := hr.all; have HR3 := Lib.hid hr; have HT3 := Lib.hid ht; have HO3 := Lib.hid ho; clear hr ht ho t2)
              go_roundg 0
              case measure => omega
              case rel => exact ⟨2, q' + 1, by go_num, by omega, Nat.le_refl _, by omega, HR3.out.put1 _, HT3.out.then_ (but_set _ _ _ _), HO3.out.far ne 1 _, HM.out⟩
            · have t1 : ((x : Int) != 117) = true := by rw [bne_iff_ne]; omega
              have HM := Lib.hid (hm2.trans (if_neg hxm))
              clear hm2 hxm
              go_wp2_with (go_at_call 51; refine HE.mono ?_; rintro r w2 ⟨rfl, t2⟩; have ht := HT2.out.only t2; have HT3 := Lib.hid ht; clear ht t2)
              simp [bodyPost]
              exact post_bad HM.out HT3.out
          · have HE := here_out hr hge
            have HM : Hid (cpE D.data.toList f p = .bad D.size 11) := Lib.hid (by rw [hm]; show (byteE D.data.toList q').bind _ = _; rw [hb]; rfl)
            have HT2 := Lib.hid ht
            clear hb hm hr ht ho
            go_wp2_with (go_at_call 51; refine HE.mono ?_; rintro r w2 ⟨rfl, t2⟩; have ht := HT2.out.only t2; have HT3 := Lib.hid ht; clear ht t2)
            simp [bodyPost]
            exact post_bad HM.out HT3.out
        · have hm2 : cpE D.data.toList f p = lowE D.data.toList f c q' := hm
          have UB := unit_any hr hq' hl hf
          have hlt2 : ∀ c q, unitE D.data.toList f 4 q' 0 = .ok c q → c < 65536 := fun c q h => by have := unitE_lt h; simpa using this
          have hlow : lowE D.data.toList f c q' = (unitE D.data.toList f 4 q' 0).bind fun l r => if 56320 ≤ l ∧ l < 57344 then .ok (65536 + (c - 55296) * 1024 + (l - 56320)) r else .bad f 11 := rfl
          obtain ⟨u, hu⟩ : ∃ u, u = unitE D.data.toList f 4 q' 0 := ⟨_, rfl⟩
          rw [← hu] at UB hlow hlt2
          have HL := Lib.hid (hm2.trans hlow)
          have HLT := Lib.hid hlt2
          have HT2 := Lib.hid ht
          clear hm hm2 hlow hu hr ht ho hlt2 z1 z2 z3 z4 z5
          go_wp2_with fail
          go_at_call 79
          refine UB.mono ?_
          intro e w3 hP
          rcases hP.cases with ⟨l, q3, v, rfl, hq3, rfl, rfl, r3, t3⟩ | ⟨a, b, a', rfl, rfl, hk, t3⟩
          · have hl := HLT.out l q3 rfl
            have HK := Lib.hid (HL.out.trans rfl)
            have HR3 := Lib.hid r3
            have HT3 := Lib.hid (HT2.out.then_ t3)
            clear HL HLT hP UB r3 t3
            have key : (l < 56320) ∨ (57344 ≤ l) ∨ (56320 ≤ l ∧ l < 57344) := by omega
            rcases key with k | k | k
            · have HK2 : Hid (cpE D.data.toList f p = .bad f 11) := Lib.hid (HK.out.trans (if_neg (by omega)))
              have e1 : decide ((l : Int) < 56320) = true := decide_eq_true (by omega)
              clear k HK hl
              go_wp2_with fail
              simp [bodyPost]
              exact post_bad HK2.out HT3.out
            · have HK2 : Hid (cpE D.data.toList f p = .bad f 11) := Lib.hid (HK.out.trans (if_neg (by omega)))
              have e1 : decide ((l : Int) < 56320) = false := decide_eq_false (by omega)
              have e2 : decide ((57344 : Int) ≤ (l : Int)) = true := decide_eq_true (by omega)
              clear k HK hl
              go_wp2_with fail
              simp [bodyPost]
              exact post_bad HK2.out HT3.out
            · have HK2 : Hid (cpE D.data.toList f p = .ok (65536 + (c - 55296) * 1024 + (l - 56320)) q3) := Lib.hid (HK.out.trans (if_pos k))
              have e1 : decide ((l : Int) < 56320) = false := decide_eq_false (by omega)
              have e2 : decide ((57344 : Int) ≤ (l : Int)) = false := decide_eq_false (by omega)
              have HKK := Lib.hid k
              clear k HK hl
              go_wp2_with fail
              go_ret
              refine post_ok HK2.out HT3.out hq3 ?_ HR3.out
              show Value.int .i32 (wrap32 (wrap32 (65536 + wrap32 (wrap32 ((c : Int) - 55296) * 1024)) + wrap32 ((l : Int) - 56320))) = Value.int .i32 _
              refine congrArg (Value.int .i32) ?_
              have hc := HC.out
              have hl := HKK.out
              unfold wrap32
              omega
          · have HK := Lib.hid (HL.out.trans rfl)
            have HT3 := Lib.hid (HT2.out.then_ t3)
            clear HL HLT hP UB t3
            go_wp2_with fail
            simp [bodyPost]
            exact post_on HK.out HT3.out hk
  · have HK := Lib.hid (HV.out.trans rfl)
    have HT := Lib.hid t1
    clear HV HLT hP UA t1
    go_wp2_with fail
    simp [bodyPost]
    exact post_on HK.out HT.out hk
end Go.Proofs.YtdhkpkojnokjdaaDoor

/-
  An escape read, and what it stands for appended.
-/
namespace Go.Proofs.YtdhkpkojnokjdaaDoor
open Go.RowKit Go.Shelf
set_option linter.unusedVariables false
set_option linter.unusedSimpArgs false

/-- the reader, and memory of our own -/
abbrev ButO (R base : Nat) (w w' : World) : Prop := Turn (fun i => i = R ∨ base ≤ i) w w'
theorem But.own {R : Nat} {w w' : World} (h : But R w w') (base : Nat) : ButO R base w w' := Turn.mono h (fun _ q => Or.inl q)
theorem ButO.then_ {R base : Nat} {a b c : World} (h : ButO R base a b) (k : ButO R base b c) : ButO R base a c := Turn.trans h k (fun _ _ q => q)
theorem Below.own {R base : Nat} {a b : World} (h : Below base a b) (hs : a.heap.size ≤ b.heap.size) : ButO R base a b := ⟨h.os, h.tape, h.output, hs, fun k hk hn => h.block k (by omega)⟩
theorem ButO.but {R base : Nat} {a b : World} (h : ButO R base a b) (hb : a.heap.size ≤ base) : But R a b := ⟨h.os, h.tape, h.output, h.size, fun k hk hn => h.block k hk (by omega)⟩
theorem Own2.below {w w' : World} {b base : Nat} {x y : Value} (h : Own2 w b x y) (t : Below base w w') (hb : b < base) : Own2 w' b x y := by
  obtain ⟨ty, h⟩ := h
  exact ⟨ty, (t.block b hb).trans h⟩

def PostO {α : Type} (w : World) (R base : Nat) (D : ByteArray) (val : α → Value → World → Prop) (r : Rs α) (e : Ending) (w' : World) : Prop :=
  ButO R base w w' ∧ match r with
    | .ok a p => p ≤ D.size ∧ (∃ v, e = .returned v ∧ val a v w') ∧ RdAt w' R D p
    | .bad a b => ∃ a' : Int, e = faultE a' b ∧ (b = 11 ∨ a' = (a : Int))
theorem postO_ok {α : Type} {w : World} {R base : Nat} {D : ByteArray} {val : α → Value → World → Prop} {r : Rs α} {a : α} {p : Nat} {v : Value} {w' : World} (h : r = .ok a p) (t : ButO R base w w') (hp : p ≤ D.size) (hv : val a v w') (hr : RdAt w' R D p) : PostO w R base D val r (.returned v) w' := by
  subst h; exact ⟨t, hp, ⟨v, rfl, hv⟩, hr⟩
theorem postO_bad {α : Type} {w : World} {R base : Nat} {D : ByteArray} {val : α → Value → World → Prop} {r : Rs α} {a b : Nat} {w' : World} (h : r = .bad a b) (t : ButO R base w w') : PostO w R base D val r (faultE a b) w' := by
  subst h; exact ⟨t, _, rfl, Or.inr rfl⟩
theorem postO_syn {α : Type} {w : World} {R base : Nat} {D : ByteArray} {val : α → Value → World → Prop} {r : Rs α} {a : Nat} {a' : Int} {w' : World} (h : r = .bad a 11) (t : ButO R base w w') : PostO w R base D val r (faultE a' 11) w' := by
  subst h; exact ⟨t, _, rfl, Or.inl rfl⟩
theorem postO_on {α : Type} {w : World} {R base : Nat} {D : ByteArray} {val : α → Value → World → Prop} {r : Rs α} {a b : Nat} {a' : Int} {w' : World} (h : r = .bad a b) (t : ButO R base w w') (k : b = 11 ∨ a' = (a : Int)) : PostO w R base D val r (faultE a' b) w' := by
  subst h; exact ⟨t, _, rfl, k⟩
theorem PostO.cases {α : Type} {w : World} {R base : Nat} {D : ByteArray} {val : α → Value → World → Prop} {r : Rs α} {e : Ending} {w' : World} (h : PostO w R base D val r e w') :
    (∃ a p v, r = .ok a p ∧ p ≤ D.size ∧ e = .returned v ∧ val a v w' ∧ RdAt w' R D p ∧ ButO R base w w') ∨ (∃ (a b : Nat) (a' : Int), r = .bad a b ∧ e = faultE a' b ∧ (b = 11 ∨ a' = (a : Int)) ∧ ButO R base w w') := by
  obtain ⟨t, h⟩ := h
  cases r with
  | ok a p => obtain ⟨hp, ⟨v, he, hv⟩, hr⟩ := h; exact Or.inl ⟨a, p, v, rfl, hp, he, hv, hr, t⟩
  | bad a b => obtain ⟨a', he, hk⟩ := h; exact Or.inr ⟨a, b, a', rfl, he, hk, t⟩

/-- what an escape's letter stands for -/
def escV (c : Nat) : Option UInt8 := if c = 34 then some 34 else if c = 92 then some 92 else if c = 47 then some 47 else if c = 98 then some 8 else if c = 102 then some 12 else if c = 110 then some 10 else if c = 114 then some 13 else if c = 116 then some 9 else none
def escOf (s : List UInt8) (p c : Nat) : Rs (List UInt8) := match escV c with
  | some x => .ok [x] (p + 2)
  | none => if c = 117 then (cpE s p (p + 2)).bind fun r q => .ok (Lib.encodeRune (r : Int)) q else .bad p 11
def escE (s : List UInt8) (p : Nat) : Rs (List UInt8) := (byteE s (p + 1)).bind fun c _ => escOf s p c

theorem one_byte (w : World) {e : Int} {c : UInt8} (h : e = (c.toNat : Int)) : ∀ j u, ([c].map u8V)[j]? = some u → (w.alloc (.cells #[.int .u8 e] 5)).cell? ⟨w.heap.size, j, none⟩ = some u := by
  intro j u hj
  match j, hj with
  | 0, hj =>
    simp at hj
    subst hj
    rw [cell_new]
    simp [u8V, h]
  | j + 1, hj => simp at hj

theorem cpE_lt {s : List UInt8} {f p c q : Nat} (h : cpE s f p = .ok c q) : c < 1114112 := by
  unfold cpE at h
  cases h1 : unitE s f 4 p 0 with
  | bad a b => rw [h1] at h; simp [Rs.bind] at h
  | ok x y =>
    have hx := unitE_lt h1
    rw [h1] at h
    simp only [Rs.bind] at h
    split at h
    · simp at h; omega
    · split at h
      · simp at h
      · rename_i n1 n2
        unfold fstE at h
        cases h2 : byteE s y with
        | bad a b => rw [h2] at h; simp [Rs.bind] at h
        | ok a b =>
          rw [h2] at h
          simp only [Rs.bind] at h
          split at h
          · unfold sndE at h
            cases h3 : byteE s (y + 1) with
            | bad a b => rw [h3] at h; simp [Rs.bind] at h
            | ok a b =>
              rw [h3] at h
              simp only [Rs.bind] at h
              split at h
              · unfold lowE at h
                cases h4 : unitE s f 4 (y + 1 + 1) 0 with
                | bad a b => rw [h4] at h; simp [Rs.bind] at h
                | ok a b =>
                  rw [h4] at h
                  simp only [Rs.bind] at h
                  split at h
                  · simp at h; omega
                  · simp at h
              · simp at h
          · simp at h

set_option maxRecDepth 100000 in
set_option maxHeartbeats 6400000 in
theorem escape_any {D : ByteArray} {R p base : Nat} {v : Value} {l : List UInt8} {w : World} (h : RdAt w R D p) (hp : p < D.size) (hl : D.size ≤ 1000000) (hb : BytesO w base v l) (hR : R < base) (hbase : base ≤ w.heap.size) (hn : l.length ≤ 10000000) :
    Calls Tryd.prog 54 #[.pointer (some ⟨R, 0, none⟩), v] w (PostO w R base D (fun y v' w' => BytesO w' base v' (l ++ y)) (escE D.data.toList p)) := by
  obtain ⟨y1, y2, y3, y4, y5⟩ := h.all
  have H := Lib.hid h
  have HB := Lib.hid hb
  have ip : (p : Int) < 1000000 := by omega
  have hv : escE D.data.toList p = (byteE D.data.toList (p + 1)).bind fun c _ => escOf D.data.toList p c := rfl
  clear h hb
  go_enter Tryd.func54, Tryd.ntmps54
  go_upto_region 3 with (fail)
  refine wp_name (fun W => RdAt W R D (p + 1) ∧ But R w W) ⟨H.out.put1 _, but_set _ _ _ _⟩ ?_
  rintro w1 ⟨r1, t1⟩
  clear y1 y2 y3 y4 y5
  rcases byteE_cases D (p + 1) with ⟨hlt, hbb⟩ | ⟨hge, hbb⟩
  · rw [hbb] at hv
    have HE := here_in r1 hlt
    obtain ⟨c, hc⟩ : ∃ c, c = (D[p + 1]'hlt).toNat := ⟨_, rfl⟩
    rw [← hc] at HE hv
    have hv2 : escE D.data.toList p = escOf D.data.toList p c := hv
    clear hv hbb hc
    have HR := Lib.hid r1
    have HT := Lib.hid t1
    clear r1 t1
    go_upto_region 5 with (go_at_call 51; refine HE.mono ?_; rintro r w2 ⟨rfl, t2⟩; have hr := HR.out.only t2; obtain ⟨y1, y2, y3, y4, y5⟩ := hr.all; have HR2 := Lib.hid hr; have HT2 := Lib.hid (HT.out.only t2); clear hr t2)
    refine wp_name (fun W => RdAt W R D (p + 2) ∧ But R w W) ⟨HR2.out.put1 _, HT2.out.then_ (but_set _ _ _ _)⟩ ?_
    rintro w3 ⟨r3, t3⟩
    clear y1 y2 y3 y4 y5 HR2 HT2 HE HR HT H
    have hbs := HB.out.but t3 hR
    have hsz := t3.size
    by_cases hce : c = 34 ∨ c = 92 ∨ c = 47 ∨ c = 98 ∨ c = 102 ∨ c = 110 ∨ c = 114 ∨ c = 116
    · rcases hce with rfl | rfl | rfl | rfl | rfl | rfl | rfl | rfl
      · have HK := Lib.hid (hv2.trans rfl)
        have HB3 := Lib.hid (hbs.only ((Only.refl _).alloc (.cells #[.int .u8 34] 5)))
        have HO := Lib.hid (one_byte w3 (e := 34) (c := 34) rfl)
        have HR3 := Lib.hid (r3.alloc (.cells #[.int .u8 34] 5))
        have HT3 := Lib.hid (t3.only ((Only.refl _).alloc (.cells #[.int .u8 34] 5)))
        clear hv2 hbs r3 t3
        go_wp2_with (at_builtin; refine append_byte rfl (.tmp 32) (.tmp 34) rfl (base := base) [34] rfl rfl HB3.out HO.out (by simp; omega) (by simp; omega) ?_)
        intro v4 w4 hb4 hbl hs4
        have HB4 := Lib.hid hb4
        have HR4 := Lib.hid (HR3.out.below hbl hR)
        have HT4 := Lib.hid ((HT3.out.own base).then_ (Below.own hbl (by simpa using hs4)))
        clear hb4 hbl hs4
        go_wp2
        go_ret
        exact postO_ok HK.out HT4.out (by omega) HB4.out HR4.out
      · have HK := Lib.hid (hv2.trans rfl)
        have HB3 := Lib.hid (hbs.only ((Only.refl _).alloc (.cells #[.int .u8 92] 5)))
        have HO := Lib.hid (one_byte w3 (e := 92) (c := 92) rfl)
        have HR3 := Lib.hid (r3.alloc (.cells #[.int .u8 92] 5))
        have HT3 := Lib.hid (t3.only ((Only.refl _).alloc (.cells #[.int .u8 92] 5)))
        clear hv2 hbs r3 t3
        go_wp2_with (at_builtin; refine append_byte rfl (.tmp 32) (.tmp 34) rfl (base := base) [92] rfl rfl HB3.out HO.out (by simp; omega) (by simp; omega) ?_)
        intro v4 w4 hb4 hbl hs4
        have HB4 := Lib.hid hb4
        have HR4 := Lib.hid (HR3.out.below hbl hR)
        have HT4 := Lib.hid ((HT3.out.own base).then_ (Below.own hbl (by simpa using hs4)))
        clear hb4 hbl hs4
        go_wp2
        go_ret
        exact postO_ok HK.out HT4.out (by omega) HB4.out HR4.out
      · have HK := Lib.hid (hv2.trans rfl)
        have HB3 := Lib.hid (hbs.only ((Only.refl _).alloc (.cells #[.int .u8 47] 5)))
        have HO := Lib.hid (one_byte w3 (e := 47) (c := 47) rfl)
        have HR3 := Lib.hid (r3.alloc (.cells #[.int .u8 47] 5))
        have HT3 := Lib.hid (t3.only ((Only.refl _).alloc (.cells #[.int .u8 47] 5)))
        clear hv2 hbs r3 t3
        go_wp2_with (at_builtin; refine append_byte rfl (.tmp 32) (.tmp 34) rfl (base := base) [47] rfl rfl HB3.out HO.out (by simp; omega) (by simp; omega) ?_)
        intro v4 w4 hb4 hbl hs4
        have HB4 := Lib.hid hb4
        have HR4 := Lib.hid (HR3.out.below hbl hR)
        have HT4 := Lib.hid ((HT3.out.own base).then_ (Below.own hbl (by simpa using hs4)))
        clear hb4 hbl hs4
        go_wp2
        go_ret
        exact postO_ok HK.out HT4.out (by omega) HB4.out HR4.out
      · have HK := Lib.hid (hv2.trans rfl)
        have HB3 := Lib.hid (hbs.only ((Only.refl _).alloc (.cells #[.int .u8 8] 5)))
        have HO := Lib.hid (one_byte w3 (e := 8) (c := 8) rfl)
        have HR3 := Lib.hid (r3.alloc (.cells #[.int .u8 8] 5))
        have HT3 := Lib.hid (t3.only ((Only.refl _).alloc (.cells #[.int .u8 8] 5)))
        clear hv2 hbs r3 t3
        go_wp2_with (at_builtin; refine append_byte rfl (.tmp 38) (.tmp 39) rfl (base := base) [8] rfl rfl HB3.out HO.out (by simp; omega) (by simp; omega) ?_)
        intro v4 w4 hb4 hbl hs4
        have HB4 := Lib.hid hb4
        have HR4 := Lib.hid (HR3.out.below hbl hR)
        have HT4 := Lib.hid ((HT3.out.own base).then_ (Below.own hbl (by simpa using hs4)))
        clear hb4 hbl hs4
        go_wp2
        go_ret
        exact postO_ok HK.out HT4.out (by omega) HB4.out HR4.out
      · have HK := Lib.hid (hv2.trans rfl)
        have HB3 := Lib.hid (hbs.only ((Only.refl _).alloc (.cells #[.int .u8 12] 5)))
        have HO := Lib.hid (one_byte w3 (e := 12) (c := 12) rfl)
        have HR3 := Lib.hid (r3.alloc (.cells #[.int .u8 12] 5))
        have HT3 := Lib.hid (t3.only ((Only.refl _).alloc (.cells #[.int .u8 12] 5)))
        clear hv2 hbs r3 t3
        go_wp2_with (at_builtin; refine append_byte rfl (.tmp 43) (.tmp 44) rfl (base := base) [12] rfl rfl HB3.out HO.out (by simp; omega) (by simp; omega) ?_)
        intro v4 w4 hb4 hbl hs4
        have HB4 := Lib.hid hb4
        have HR4 := Lib.hid (HR3.out.below hbl hR)
        have HT4 := Lib.hid ((HT3.out.own base).then_ (Below.own hbl (by simpa using hs4)))
        clear hb4 hbl hs4
        go_wp2
        go_ret
        exact postO_ok HK.out HT4.out (by omega) HB4.out HR4.out
      · have HK := Lib.hid (hv2.trans rfl)
        have HB3 := Lib.hid (hbs.only ((Only.refl _).alloc (.cells #[.int .u8 10] 5)))
        have HO := Lib.hid (one_byte w3 (e := 10) (c := 10) rfl)
        have HR3 := Lib.hid (r3.alloc (.cells #[.int .u8 10] 5))
        have HT3 := Lib.hid (t3.only ((Only.refl _).alloc (.cells #[.int .u8 10] 5)))
        clear hv2 hbs r3 t3
        go_wp2_with (at_builtin; refine append_byte rfl (.tmp 48) (.tmp 49) rfl (base := base) [10] rfl rfl HB3.out HO.out (by simp; omega) (by simp; omega) ?_)
        intro v4 w4 hb4 hbl hs4
        have HB4 := Lib.hid hb4
        have HR4 := Lib.hid (HR3.out.below hbl hR)
        have HT4 := Lib.hid ((HT3.out.own base).then_ (Below.own hbl (by simpa using hs4)))
        clear hb4 hbl hs4
        go_wp2
        go_ret
        exact postO_ok HK.out HT4.out (by omega) HB4.out HR4.out
      · have HK := Lib.hid (hv2.trans rfl)
        have HB3 := Lib.hid (hbs.only ((Only.refl _).alloc (.cells #[.int .u8 13] 5)))
        have HO := Lib.hid (one_byte w3 (e := 13) (c := 13) rfl)
        have HR3 := Lib.hid (r3.alloc (.cells #[.int .u8 13] 5))
        have HT3 := Lib.hid (t3.only ((Only.refl _).alloc (.cells #[.int .u8 13] 5)))
        clear hv2 hbs r3 t3
        go_wp2_with (at_builtin; refine append_byte rfl (.tmp 53) (.tmp 54) rfl (base := base) [13] rfl rfl HB3.out HO.out (by simp; omega) (by simp; omega) ?_)
        intro v4 w4 hb4 hbl hs4
        have HB4 := Lib.hid hb4
        have HR4 := Lib.hid (HR3.out.below hbl hR)
        have HT4 := Lib.hid ((HT3.out.own base).then_ (Below.own hbl (by simpa using hs4)))
        clear hb4 hbl hs4
        go_wp2
        go_ret
        exact postO_ok HK.out HT4.out (by omega) HB4.out HR4.out
      · have HK := Lib.hid (hv2.trans rfl)
        have HB3 := Lib.hid (hbs.only ((Only.refl _).alloc (.cells #[.int .u8 9] 5)))
        have HO := Lib.hid (one_byte w3 (e := 9) (c := 9) rfl)
        have HR3 := Lib.hid (r3.alloc (.cells #[.int .u8 9] 5))
        have HT3 := Lib.hid (t3.only ((Only.refl _).alloc (.cells #[.int .u8 9] 5)))
        clear hv2 hbs r3 t3
        go_wp2_with (at_builtin; refine append_byte rfl (.tmp 58) (.tmp 59) rfl (base := base) [9] rfl rfl HB3.out HO.out (by simp; omega) (by simp; omega) ?_)
        intro v4 w4 hb4 hbl hs4
        have HB4 := Lib.hid hb4
        have HR4 := Lib.hid (HR3.out.below hbl hR)
        have HT4 := Lib.hid ((HT3.out.own base).then_ (Below.own hbl (by simpa using hs4)))
        clear hb4 hbl hs4
        go_wp2
        go_ret
        exact postO_ok HK.out HT4.out (by omega) HB4.out HR4.out
    · have n1 : ((c : Int) == 34) = false := by simp; omega
      have n2 : ((c : Int) == 92) = false := by simp; omega
      have n3 : ((c : Int) == 47) = false := by simp; omega
      have n4 : ((c : Int) == 98) = false := by simp; omega
      have n5 : ((c : Int) == 102) = false := by simp; omega
      have n6 : ((c : Int) == 110) = false := by simp; omega
      have n7 : ((c : Int) == 114) = false := by simp; omega
      have n8 : ((c : Int) == 116) = false := by simp; omega
      have hno : escV c = none := by unfold escV; repeat (first | rw [if_neg (by omega)])
      have hv3 : escE D.data.toList p = if c = 117 then (cpE D.data.toList p (p + 2)).bind fun r q => .ok (Lib.encodeRune (r : Int)) q else .bad p 11 := by rw [hv2]; unfold escOf; rw [hno]
      clear hv2 hno hce
      by_cases hu : c = 117
      · subst hu
        have CP := codePoint_any r3 (by omega) hl (f := p) (by omega)
        have hv4 : escE D.data.toList p = (cpE D.data.toList p (p + 2)).bind fun r q => .ok (Lib.encodeRune (r : Int)) q := hv3
        have hlt9 : ∀ r q, cpE D.data.toList p (p + 2) = .ok r q → r < 1114112 := fun r q h => cpE_lt h
        obtain ⟨u, hu⟩ : ∃ u, u = cpE D.data.toList p (p + 2) := ⟨_, rfl⟩
        rw [← hu] at CP hv4 hlt9
        have HV := Lib.hid hv4
        have HLT := Lib.hid hlt9
        have HB3 := Lib.hid hbs
        have HT3 := Lib.hid t3
        clear hv3 hv4 hu hlt9 hbs r3 t3 n1 n2 n3 n4 n5 n6 n7 n8
        go_wp2_with fail
        go_at_call 69
        refine CP.mono ?_
        intro e w5 hP
        rcases hP.cases with ⟨r, q, v5, rfl, hq, rfl, rfl, r5, t5⟩ | ⟨a, b, a', rfl, rfl, hk, t5⟩
        · have hrl := HLT.out r q rfl
          have HK := Lib.hid (HV.out.trans rfl)
          have hs5 := t5.size
          have AR := appendRune_any (HB3.out.but t5 hR) (r := (r : Int)) (by omega) (by omega) (by omega) (by omega)
          have HR5 := Lib.hid r5
          have HT5 := Lib.hid (HT3.out.then_ t5)
          clear HV HLT hP CP r5 t5 hrl
          go_wp2_with fail
          go_at_call 68
          refine AR.mono ?_
          rintro e w6 ⟨v6, rfl, hb6, hbl, hs6⟩
          have HB6 := Lib.hid hb6
          have HR6 := Lib.hid (HR5.out.below hbl hR)
          have HT6 := Lib.hid ((HT5.out.own base).then_ (Below.own hbl hs6))
          clear hb6 hbl hs6 AR
          go_wp2_with fail
          go_ret
          exact postO_ok HK.out HT6.out hq HB6.out HR6.out
        · have HK := Lib.hid (HV.out.trans rfl)
          have HT5 := Lib.hid (HT3.out.then_ t5)
          clear HV HLT hP CP t5
          go_wp2_with fail
          simp [bodyPost]
          exact postO_on HK.out (HT5.out.own base) hk
      · have n9 : ((c : Int) == 117) = false := by simp; omega
        have HK := Lib.hid (hv3.trans (if_neg hu))
        have HT3 := Lib.hid t3
        clear hv3 hu hbs r3 t3
        go_wp2_with fail
        simp [bodyPost]
        exact postO_bad HK.out (HT3.out.own base)
  · rw [hbb] at hv
    have HK := Lib.hid (hv.trans rfl)
    have HE := here_out r1 hge
    have HT := Lib.hid t1
    clear hv hbb r1 t1
    go_wp2_with (go_at_call 51; refine HE.mono ?_; rintro r w2 ⟨rfl, t2⟩; have HT2 := Lib.hid (HT.out.only t2); clear t2)
    simp [bodyPost]
    exact postO_bad HK.out (HT2.out.own base)
end Go.Proofs.YtdhkpkojnokjdaaDoor
