/-
  exref1: Remove, Create, Rename.
-/
import Derived.Test.YtpaekggmphahoaaEPut2
namespace Go.Proofs.Ytpaekggmphahoaa
open Go.RowKit Go.Maps Go.WideMaps
set_option linter.unusedVariables false
set_option linter.unusedSimpArgs false

section
variable {w w1 w2 : World} {q : Nat} {S S' : Fsp.Fs} {Q : Nat → Prop} {v : Value} {l : List RF}
theorem Grow.sub {w w1 w2 : World} (h : w.heap.size ≤ w1.heap.size) : ∀ b, Grow Q w1 w2 b → Grow Q w w2 b := fun b hb => by
  rcases hb with k | k
  · exact Or.inl k
  · exact Or.inr ⟨by omega, k.2⟩
theorem Turn.inQ (t : Turn (fun b => b = q) w w1) (hq : Q q) : Turn Q w w1 := t.mono fun i e => by rw [e]; exact hq
theorem rpost_step (h : RefX w1 q S Q v l) (t : Turn (fun b => b = q) w w1) : RPost w q S Q w1 :=
  ⟨⟨v, l, h.mono (fun b hb => Or.inl hb) (fun b hb => by rcases hb with k | k; exact h.lt b k; exact k.2)⟩, t.inQ h.inQ⟩
theorem rpost_two (t : Turn (fun b => b = q) w w1) (h : RefX w2 q S (Grow Q w1 w2) v l) (t2 : Turn (fun b => b = q) w1 w2) (hq : Q q) (hlt : ∀ b, Q b → b < w.heap.size) : RPost w q S Q w2 :=
  ⟨⟨v, l, h.mono (Grow.sub t.size) (fun b hb => by rcases hb with k | k; exact Nat.lt_of_lt_of_le (hlt b k) (Nat.le_trans t.size t2.size); exact k.2)⟩, (t.inQ hq).trans (t2.inQ hq) (fun _ _ e => e)⟩
theorem rstepped_L (S : Fsp.Fs) : (Fsp.stepped S).L = S.L := by unfold Fsp.stepped; split <;> rfl
theorem Good.len (h : Fsp.Good S) (hx : RefX w q S Q v l) : l.length ≤ 400 := by have := h.2.2.2.1; rw [hx.n] at this; exact this
theorem atI_neg {o : Option Nat} (h : o = none) : atI o = -1 := by rw [h]; rfl

set_option maxRecDepth 100000 in
theorem rRemove_any (h : RefX w q S Q v l) (hg : Fsp.Good S) (hs : S.steps < 9223372036854775807) (s : ByteArray) :
    Calls Try.prog 38 #[.pointer (some ⟨q, 0, none⟩), .string s] w fun r w' => r = .returned (.int .i64 (((Fsp.remove S s.data.toList).2 : Nat) : Int)) ∧ RPost w q (Fsp.remove S s.data.toList).1 Q w' := by
  have c4 := h.cells.c4
  have hl := Good.len hg h
  have HX := Lib.hid h
  by_cases hd : S.down = true
  · have e : Fsp.remove S s.data.toList = (S, 5) := by unfold Fsp.remove; rw [if_pos hd]
    rw [e]
    rw [hd] at c4
    have HP := Lib.hid (h.post (Turn.refl _ w))
    clear e h hg hs hl hd
    go_enter Try.func38, Try.ntmps38
    go_wp2
    go_ret
    exact ⟨rfl, HP.out⟩
  · have hd' : S.down = false := by simpa using hd
    rw [hd'] at c4
    have AT := Lib.hid (rAt_any h s (by omega))
    cases ha : atN S.L s.data.toList with
    | none =>
      rw [ha] at AT
      have e : Fsp.remove S s.data.toList = (S, 2) := by unfold Fsp.remove; rw [if_neg hd, atN_none ha]
      rw [e]
      have HP := Lib.hid (h.post (Turn.refl _ w))
      clear e h hg hs hl hd hd' ha
      go_enter Try.func38, Try.ntmps38
      go_wp2_with fail
      go_at_call 42
      refine AT.out.mono ?_
      rintro r w1 ⟨rfl, rfl⟩
      rw [show atI none = -1 from rfl]
      go_wp2_with fail
      go_ret
      exact ⟨rfl, HP.out⟩
    | some i =>
      rw [ha] at AT
      obtain ⟨f, -, hf⟩ := atN_some ha
      have FA := Lib.hid (rFails_any h hg.2.2.2.2.1 hs)
      have hi : ¬ ((i : Int) < 0) := by omega
      by_cases h1 : S.armed = 1
      · have e : Fsp.remove S s.data.toList = (Fsp.stepped S, 5) := by unfold Fsp.remove; rw [if_neg hd, hf]; simp only; rw [if_pos h1]
        rw [e]
        have hb : failsB S = true := decide_eq_true h1
        rw [hb] at FA
        clear e h hg hs hl hd hd' ha hf h1 hb
        go_enter Try.func38, Try.ntmps38
        go_wp2_with fail
        go_at_call 42
        refine AT.out.mono ?_
        rintro r w1 ⟨rfl, rfl⟩
        rw [show atI (some i) = (i : Int) from rfl]
        go_wp2_with fail
        go_at_call 55
        refine FA.out.mono ?_
        rintro r w2 ⟨rfl, hx2, t2⟩
        have HP := Lib.hid (rpost_step hx2 t2)
        clear hx2 t2 c4
        go_wp2_with fail
        go_ret
        exact ⟨rfl, HP.out⟩
      · have e : Fsp.remove S s.data.toList = ({ Fsp.stepped S with L := Fsp.del S.L s.data.toList }, 0) := by unfold Fsp.remove; rw [if_neg hd, hf]; simp only; rw [if_neg h1]
        rw [e]
        have hb : failsB S = false := decide_eq_false h1
        rw [hb] at FA
        have HDL : Hid ((goDrop s.data.toList l).map RF.pair = Fsp.del S.L s.data.toList) := Lib.hid (by rw [h.L]; exact goDrop_del (by rw [← h.L]; exact hg.1))
        have HLN := Lib.hid hl
        have HQ := Lib.hid (And.intro h.inQ h.lt)
        clear e h hg hs hl hd hd' ha hf h1 hb
        go_enter Try.func38, Try.ntmps38
        go_wp2_with fail
        go_at_call 42
        refine AT.out.mono ?_
        rintro r w1 ⟨rfl, rfl⟩
        rw [show atI (some i) = (i : Int) from rfl]
        go_wp2_with fail
        go_at_call 55
        refine FA.out.mono ?_
        rintro r w2 ⟨rfl, hx2, t2⟩
        have DR := Lib.hid (rDrop_any hx2 s (by have := HLN.out; omega))
        have T2 := Lib.hid t2
        clear hx2 t2 c4
        go_wp2_with fail
        go_at_call 59
        refine DR.out.mono ?_
        rintro r w3 ⟨rfl, ⟨v', hx3⟩, t3⟩
        have HP := rpost_two T2.out hx3 t3 HQ.out.1 HQ.out.2
        rw [HDL.out] at HP
        have HP := Lib.hid HP
        clear hx3 t3
        go_wp2_with fail
        go_ret
        exact ⟨rfl, HP.out⟩

theorem encStr_data (s : ByteArray) : encStr s.data.toList = .string s := by cases s; simp [encStr]

set_option maxRecDepth 100000 in
theorem rCreate_any (h : RefX w q S Q v l) (hg : Fsp.Good S) (hs : S.steps < 9223372036854775807) (s : ByteArray) (RV : ∀ w, Calls Try.prog 44 #[.string s] w fun r w' => r = .returned (.bool (Fsp.valid s.data.toList)) ∧ w = w') :
    Calls Try.prog 28 #[.pointer (some ⟨q, 0, none⟩), .string s] w fun r w' => r = .returned (.int .i64 (((Fsp.create S s.data.toList).2 : Nat) : Int)) ∧ RPost w q (Fsp.create S s.data.toList).1 Q w' := by
  have c4 := h.cells.c4
  have c1 := h.cells.c1
  have hl := Good.len hg h
  have HX := Lib.hid h
  obtain ⟨sp, cap, rfl⟩ := h.form
  have RV := Lib.hid RV
  by_cases hd : S.down = true
  · have e : Fsp.create S s.data.toList = (S, 5) := by unfold Fsp.create; rw [if_pos hd]
    rw [e]
    rw [hd] at c4
    have HP := Lib.hid (h.post (Turn.refl _ w))
    clear e h hg hs hl hd RV
    go_enter Try.func28, Try.ntmps28
    go_wp2_with fail
    go_ret
    exact ⟨rfl, HP.out⟩
  have hd' : S.down = false := by simpa using hd
  rw [hd'] at c4
  cases hv : Fsp.valid s.data.toList with
  | false =>
    rw [hv] at RV
    have e : Fsp.create S s.data.toList = (S, 1) := by unfold Fsp.create; rw [if_neg hd, if_pos hv]
    rw [e]
    have HP := Lib.hid (h.post (Turn.refl _ w))
    clear e h hg hs hl hd hd' hv
    go_enter Try.func28, Try.ntmps28
    go_wp2_with fail
    go_at_call 44
    refine (RV.out _).mono ?_
    rintro r w0 ⟨rfl, rfl⟩
    go_wp2_with fail
    go_ret
    exact ⟨rfl, HP.out⟩
  | true =>
    rw [hv] at RV
    have hv0 : ¬ Fsp.valid s.data.toList = false := by rw [hv]; decide
    have AT := Lib.hid (rAt_any h s (by omega))
    cases ha : atN S.L s.data.toList with
    | some i =>
      rw [ha] at AT
      obtain ⟨f, -, hf⟩ := atN_some ha
      have e : Fsp.create S s.data.toList = (S, 3) := by unfold Fsp.create; rw [if_neg hd, if_neg hv0, hf]; rfl
      rw [e]
      have HP := Lib.hid (h.post (Turn.refl _ w))
      have hi : (0 : Int) ≤ (i : Int) := by omega
      clear e h hg hs hl hd hd' hv hv0 ha hf
      go_enter Try.func28, Try.ntmps28
      go_wp2_with fail
      go_at_call 44
      refine (RV.out _).mono ?_
      rintro r w0 ⟨rfl, rfl⟩
      go_wp2_with fail
      go_at_call 42
      refine AT.out.mono ?_
      rintro r w1 ⟨rfl, rfl⟩
      rw [show atI (some i) = (i : Int) from rfl]
      go_wp2_with fail
      go_ret
      exact ⟨rfl, HP.out⟩
    | none =>
      rw [ha] at AT
      have hf := atN_none ha
      have hn := h.n
      have hf0 : ¬ (Fsp.find S.L s.data.toList).isSome = true := by rw [hf]; simp
      by_cases h4 : 400 ≤ S.L.length
      · have e : Fsp.create S s.data.toList = (S, 4) := by unfold Fsp.create; rw [if_neg hd, if_neg hv0, if_neg hf0, if_pos h4]
        rw [e]
        have HP := Lib.hid (h.post (Turn.refl _ w))
        have hi : (400 : Int) ≤ (l.length : Int) := by omega
        clear e h hg hs hl hd hd' hv hv0 ha hf hf0 h4 hn
        go_enter Try.func28, Try.ntmps28
        go_wp2_with fail
        go_at_call 44
        refine (RV.out _).mono ?_
        rintro r w0 ⟨rfl, rfl⟩
        go_wp2_with fail
        go_at_call 42
        refine AT.out.mono ?_
        rintro r w1 ⟨rfl, rfl⟩
        rw [show atI none = -1 from rfl]
        go_wp2_with fail
        go_ret
        exact ⟨rfl, HP.out⟩
      · have hi : (l.length : Int) < 400 := by omega
        have FA := Lib.hid (rFails_any h hg.2.2.2.2.1 hs)
        by_cases h1 : S.armed = 1
        · have e : Fsp.create S s.data.toList = (Fsp.stepped S, 5) := by unfold Fsp.create; rw [if_neg hd, if_neg hv0, if_neg hf0, if_neg h4, if_pos h1]
          rw [e]
          have hb : failsB S = true := decide_eq_true h1
          rw [hb] at FA
          clear e h hg hs hl hd hd' hv hv0 ha hf hf0 h4 hn h1 hb
          go_enter Try.func28, Try.ntmps28
          go_wp2_with fail
          go_at_call 44
          refine (RV.out _).mono ?_
          rintro r w0 ⟨rfl, rfl⟩
          go_wp2_with fail
          go_at_call 42
          refine AT.out.mono ?_
          rintro r w1 ⟨rfl, rfl⟩
          rw [show atI none = -1 from rfl]
          go_wp2_with fail
          go_at_call 55
          refine FA.out.mono ?_
          rintro r w2 ⟨rfl, hx2, t2⟩
          have HP := Lib.hid (rpost_step hx2 t2)
          clear hx2 t2 c4 c1
          go_wp2_with fail
          go_ret
          exact ⟨rfl, HP.out⟩
        · have e : Fsp.create S s.data.toList = ({ Fsp.stepped S with L := Fsp.put S.L s.data.toList ⟨[], 0⟩ }, 0) := by unfold Fsp.create; rw [if_neg hd, if_neg hv0, if_neg hf0, if_neg h4, if_neg h1]
          rw [e]
          have hb : failsB S = false := decide_eq_false h1
          rw [hb] at FA
          have HDL : Hid ((goPut ⟨s.data.toList, ⟨[], 0⟩, .slice none 0 0⟩ l false).map RF.pair = Fsp.put S.L s.data.toList ⟨[], 0⟩) := Lib.hid (by rw [h.L]; exact goPut_put (by rw [← h.L]; exact hg.1))
          have HLN := Lib.hid hl
          have HQ := Lib.hid (And.intro h.inQ h.lt)
          clear e h hg hs hl hd hd' hv hv0 ha hf hf0 h4 hn h1 hb
          go_enter Try.func28, Try.ntmps28
          go_wp2_with fail
          go_at_call 44
          refine (RV.out _).mono ?_
          rintro r w0 ⟨rfl, rfl⟩
          go_wp2_with fail
          go_at_call 42
          refine AT.out.mono ?_
          rintro r w1 ⟨rfl, rfl⟩
          rw [show atI none = -1 from rfl]
          go_wp2_with fail
          go_at_call 55
          refine FA.out.mono ?_
          rintro r w2 ⟨rfl, hx2, t2⟩
          have PU := rPut_any hx2 ⟨s.data.toList, ⟨[], 0⟩, .slice none 0 0⟩ (Or.inl ⟨rfl, rfl⟩) (fun h0 => by simp at h0) (by have := HLN.out; omega)
          simp only [encStr_data] at PU
          have PU := Lib.hid PU
          have T2 := Lib.hid t2
          clear hx2 t2 c4 c1
          go_wp2_with fail
          go_at_call 56
          refine PU.out.mono ?_
          rintro r w3 ⟨rfl, ⟨v', hx3⟩, t3⟩
          have HP := rpost_two T2.out hx3 t3 HQ.out.1 HQ.out.2
          rw [HDL.out] at HP
          have HP := Lib.hid HP
          clear hx3 t3
          go_wp2_with fail
          go_ret
          exact ⟨rfl, HP.out⟩
end
end Go.Proofs.Ytpaekggmphahoaa
