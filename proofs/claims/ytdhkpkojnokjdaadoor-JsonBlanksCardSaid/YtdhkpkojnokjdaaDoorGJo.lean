/-
  PARTS: JFormed, JOwn, JErr.
-/
import Derived.Test.YtdhkpkojnokjdaaDoorJGen
import Derived.Test.YtdhkpkojnokjdaaDoorJForm
import Derived.Test.YtdhkpkojnokjdaaDoorJValue
/-
  Are a value's fields of the form that its kind asks?
-/
namespace Go.Proofs.YtdhkpkojnokjdaaDoor
open Go.RowKit Go.Shelf
set_option linter.unusedVariables false
set_option linter.unusedSimpArgs false

def badName (s : List UInt8) : Bool := !Lib.validD s

theorem badName_any (s : List UInt8) (hs : s.length ≤ 1000000) {w : World} (hT : Tb w) : Calls Tryd.prog 66 #[txt s] w fun e w' => e = .returned (.bool (badName s)) ∧ Only w w' := by
  have V := valid_any s hs hT
  unfold badName
  obtain ⟨b, hb⟩ : ∃ b, b = Lib.validD s := ⟨_, rfl⟩
  rw [← hb] at V ⊢
  clear hb
  go_enter Tryd.func66, Tryd.ntmps66
  go_wp2_with (go_at_call 64; refine V.mono ?_; rintro r w1 ⟨rfl, t1⟩)
  go_ret
  exact ⟨rfl, t1⟩

set_option maxRecDepth 100000 in
set_option maxHeartbeats 3200000 in
theorem indexFunc_any {ns : List (List UInt8)} {N : Value} {w : World} (hN : NamesIn w N ns) (hl : ns.length ≤ 1000000) (hs : ∀ s ∈ ns, s.length ≤ 1000000) (hT : Tb w) :
    Calls Tryd.prog 77 #[N, .func (.func 66) #[] #[]] w fun e w' => (∃ i : Int, e = .returned (.int .i64 i) ∧ decide (0 ≤ i) = ns.any badName) ∧ Only w w' := by
  obtain ⟨sp, cap, rfl, -, hc⟩ := hN
  have HC := Lib.hid hc
  have HS := Lib.hid hs
  have HT := Lib.hid hT
  have il : (ns.length : Int) ≤ 1000000 := by omega
  clear hc hs hT
  go_enter Tryd.func77, Tryd.ntmps77
  go_wp2_with fail
  go_loopg [8] ns.length (fun g v wr => ∃ k : Nat, v = .int .i64 (k : Int) ∧ k ≤ ns.length ∧ ns.length - k ≤ g ∧ Only w wr ∧ (ns.take k).any badName = false)
  case atStart => exact ⟨0, rfl, Nat.zero_le _, Nat.le_refl _, Only.refl _, by simp⟩
  case round =>
    obtain ⟨k, rfl, hk, hg, ht, ha⟩ := hrel
    have HTT := Lib.hid ht
    have HA := Lib.hid ha
    clear ha
    by_cases hlt : k < ns.length
    · have ik : (k : Int) < (ns.length : Int) := by omega
      rcases HC.out with h0 | ⟨g, off, hsp, hcell⟩
      · rw [h0] at hlt; simp at hlt
      · subst hsp
        have c1 := cell_only (hcell k hlt) ht
        obtain ⟨s, hse⟩ : ∃ s, s = ns[k]'hlt := ⟨_, rfl⟩
        rw [← hse] at c1
        have B := badName_any s (HS.out s (by rw [hse]; exact List.getElem_mem _)) (HT.out.only ht)
        have hnx : (ns.take (k + 1)).any badName = badName s := by
          rw [List.take_succ_eq_append_getElem hlt, List.any_append, HA.out, ← hse]; simp
        have hany : badName s = true → ns.any badName = true := fun h => List.any_eq_true.2 ⟨s, by rw [hse]; exact List.getElem_mem _, h⟩
        obtain ⟨z, hz⟩ : ∃ z, z = badName s := ⟨_, rfl⟩
        rw [← hz] at B hnx hany
        have HNX := Lib.hid hnx
        have HANY := Lib.hid hany
        have e1 : (⟨g, off, none⟩ : Addr).add k = ⟨g, off + k, none⟩ := by unfold Addr.add; split <;> simp_all
        clear hse hcell hz hnx hany ht
        cases z
        · go_wp2_with (go_at_call 66; refine B.mono ?_; rintro r w1 ⟨rfl, t1⟩)
          have HT2 := Lib.hid (HTT.out.trans t1)
          go_roundg (ns.length - (k + 1))
          case measure => omega
          case rel => exact ⟨k + 1, by go_num, by omega, Nat.le_refl _, HT2.out, HNX.out⟩
        · go_wp2_with (go_at_call 66; refine B.mono ?_; rintro r w1 ⟨rfl, t1⟩)
          go_ret
          exact ⟨⟨(k : Int), rfl, by rw [HANY.out (by simp)]; exact decide_eq_true (by omega)⟩, HTT.out.trans t1⟩
    · obtain rfl : k = ns.length := by omega
      have ik : ¬ (ns.length : Int) < (ns.length : Int) := by omega
      have hall := HA.out
      rw [List.take_length] at hall
      have HAL := Lib.hid hall
      clear hall
      go_wp2_with fail
      go_ret
      exact ⟨⟨-1, rfl, by rw [HAL.out]; rfl⟩, HTT.out⟩

theorem containsFunc_any {ns : List (List UInt8)} {N : Value} {w : World} (hN : NamesIn w N ns) (hl : ns.length ≤ 1000000) (hs : ∀ s ∈ ns, s.length ≤ 1000000) (hT : Tb w) :
    Calls Tryd.prog 65 #[N, .func (.func 66) #[] #[]] w fun e w' => e = .returned (.bool (ns.any badName)) ∧ Only w w' := by
  have I := indexFunc_any hN hl hs hT
  obtain ⟨b, hb⟩ : ∃ b, b = ns.any badName := ⟨_, rfl⟩
  rw [← hb] at I ⊢
  clear hb hN hs hT
  go_enter Tryd.func65, Tryd.ntmps65
  go_wp2_with (go_at_call 77; refine I.mono ?_; rintro r w1 ⟨⟨i, rfl, hi⟩, t1⟩)
  go_ret
  exact ⟨by rw [← hi]; rfl, t1⟩
end Go.Proofs.YtdhkpkojnokjdaaDoor

/-
  A value's own fields: are they of the form that its kind asks, and which error it has by itself?
-/
namespace Go.Proofs.YtdhkpkojnokjdaaDoor
open Go.RowKit Go.Shelf
set_option linter.unusedVariables false
set_option linter.unusedSimpArgs false

/-- elements that stand in memory -/
def ElemsIn (w : World) (L : Value) (l : List GV) : Prop := ∃ sp cap, L = .slice sp l.length cap ∧ (l = [] ∨ ∃ g off, sp = some ⟨g, off, none⟩ ∧ GCells w l g off)
theorem ElemsIn.only {w w' : World} {L : Value} {l : List GV} (h : ElemsIn w L l) (t : Only w w') : ElemsIn w' L l := by
  obtain ⟨sp, cap, e, h⟩ := h
  refine ⟨sp, cap, e, ?_⟩
  rcases h with h | ⟨g, off, e2, hc⟩
  · exact Or.inl h
  · exact Or.inr ⟨g, off, e2, GCells.only t l hc⟩

/-- are the fields of the form that the kind asks? -/
def formG (k : Int) (t : List UInt8) (n : Nat) (ns : List (List UInt8)) : Bool :=
  if k = 3 then isLitB t else if k = 4 then Lib.validD t else if k = 6 then decide (ns.length = n) && !ns.any badName else true

/-- which error a value has by itself -/
def ownE (tw : List (List UInt8) → Bool) (k : Int) (t : List UInt8) (n : Nat) (ns : List (List UInt8)) (d : Nat) : Int :=
  if k < 0 ∨ 6 < k then 7 else if formG k t n ns = false then 10 else if ¬ (k = 5 ∨ k = 6) then 0 else if 32 ≤ d then 20 else if 1000 < n then 9 else if k = 6 ∧ tw ns = true then 12 else 0

set_option maxRecDepth 100000 in
set_option maxHeartbeats 1600000 in
theorem isFormed_any {k : Int} {t : List UInt8} {n : Nat} {ns : List (List UInt8)} {sp : Option Addr} {cap : Nat} {N : Value} {w : World} (ht : t.length ≤ 1000000) (hN : NamesIn w N ns) (hl : ns.length ≤ 1000000) (hs : ∀ s ∈ ns, s.length ≤ 1000000) (hT : Tb w) :
    Calls Tryd.prog 49 #[.agg #[.int .i64 k, txt t, .slice sp n cap, N]] w fun e w' => e = .returned (.bool (formG k t n ns)) ∧ Only w w' := by
  have ha := (Only.refl w).alloc (.cells #[.int .i64 k, txt t, .slice sp n cap, N] 25)
  have C := containsFunc_any (hN.only ha) hl hs (hT.only ha)
  have V := valid_any t ht (hT.only ha)
  have I := isLiteral_any (D := ⟨t.toArray⟩) (by rw [← data_len]; exact ht) (w.alloc (.cells #[.int .i64 k, txt t, .slice sp n cap, N] 25))
  obtain ⟨sn, cn, rfl, -, hn⟩ := hN
  clear hn hs hT ht
  have HA := Lib.hid ha
  clear ha
  by_cases h3 : k = 3
  · subst h3
    go_enter Tryd.func49, Tryd.ntmps49
    go_wp2_with (go_at_call 63; refine I.mono ?_; rintro r w1 ⟨rfl, rfl⟩)
    go_ret
    exact ⟨rfl, HA.out⟩
  · by_cases h4 : k = 4
    · subst h4
      go_enter Tryd.func49, Tryd.ntmps49
      go_wp2_with (go_at_call 64; refine V.mono ?_; rintro r w1 ⟨rfl, t1⟩)
      go_ret
      exact ⟨rfl, HA.out.trans t1⟩
    · by_cases h6 : k = 6
      · subst h6
        by_cases hln : (ns.length : Int) = (n : Int)
        · have e1 : formG 6 t n ns = !ns.any badName := by unfold formG; simp; omega
          go_enter Tryd.func49, Tryd.ntmps49
          go_wp2_with (go_at_call 65; refine C.mono ?_; rintro r w1 ⟨rfl, t1⟩)
          go_ret
          exact ⟨by rw [e1]; rfl, HA.out.trans t1⟩
        · have e1 : formG 6 t n ns = false := by unfold formG; simp; intro h; omega
          go_enter Tryd.func49, Tryd.ntmps49
          go_wp2_with fail
          go_ret
          exact ⟨rfl, HA.out⟩
      · have e1 : formG k t n ns = true := by unfold formG; simp [h3, h4, h6]
        go_enter Tryd.func49, Tryd.ntmps49
        go_wp2_with fail
        go_ret
        exact ⟨rfl, HA.out⟩

theorem hasElems_any (k : Int) (t : Value) (L N : Value) (w : World) : Calls Tryd.prog 34 #[.agg #[.int .i64 k, t, L, N]] w fun e w' => e = .returned (.bool (decide (k = 5 ∨ k = 6))) ∧ Only w w' := by
  have ht := (Only.refl w).alloc (.cells #[.int .i64 k, t, L, N] 25)
  by_cases h5 : k = 5
  · subst h5
    go_enter Tryd.func34, Tryd.ntmps34
    go_wp2_with fail
    go_ret
    exact ⟨rfl, ht⟩
  · by_cases h6 : k = 6
    · subst h6
      go_enter Tryd.func34, Tryd.ntmps34
      go_wp2_with fail
      go_ret
      exact ⟨rfl, ht⟩
    · have e1 : decide (k = 5 ∨ k = 6) = false := by simp [h5, h6]
      go_enter Tryd.func34, Tryd.ntmps34
      go_wp2_with fail
      go_ret
      exact ⟨by show Ending.returned (.bool (k == 5 || k == 6)) = _; rw [e1]; simp [h5, h6], ht⟩

/-- what is asked of isTwice -/
def TwiceIs (tw : List (List UInt8) → Bool) : Prop := ∀ (ns : List (List UInt8)) (N : Value) (w : World), NamesIn w N ns → ns.length ≤ 1000 → (∀ s ∈ ns, s.length ≤ 1000000) →
  Calls Tryd.prog 50 #[N] w fun e w' => e = .returned (.bool (tw ns)) ∧ Only w w'

set_option maxRecDepth 100000 in
set_option maxHeartbeats 3200000 in
theorem ownError_any {tw : List (List UInt8) → Bool} (hW : TwiceIs tw) {k : Int} {t : List UInt8} {n d : Nat} {ns : List (List UInt8)} {sp : Option Addr} {cap : Nat} {N : Value} {w : World} (ht : t.length ≤ 1000000) (hn : n ≤ 1000000) (hd : d ≤ 1000) (hN : NamesIn w N ns) (hl : ns.length ≤ 1000000) (hs : ∀ s ∈ ns, s.length ≤ 1000000) (hT : Tb w) :
    Calls Tryd.prog 33 #[.agg #[.int .i64 k, txt t, .slice sp n cap, N], .int .i64 (d : Int)] w fun e w' => e = .returned (.int .i64 (ownE tw k t n ns d)) ∧ Only w w' := by
  have ha := (Only.refl w).alloc (.cells #[.int .i64 k, txt t, .slice sp n cap, N] 25)
  have F := isFormed_any (k := k) (n := n) (sp := sp) (cap := cap) ht (hN.only ha) hl hs (hT.only ha)
  have H := hasElems_any k (txt t) (.slice sp n cap) N
  have HN := Lib.hid hN
  have HW := Lib.hid hW
  have HS := Lib.hid hs
  have HA := Lib.hid ha
  have HL := Lib.hid hl
  have O := Lib.hid (Own4.new w (.int .i64 k) (txt t) (.slice sp n cap) N 25)
  clear hN hW hs ha hT ht hl
  by_cases hk : k < 0
  · have e1 : ownE tw k t n ns d = 7 := by unfold ownE; rw [if_pos (Or.inl hk)]
    rw [e1]
    go_enter Tryd.func33, Tryd.ntmps33
    go_wp2_with fail
    go_ret
    exact ⟨rfl, HA.out⟩
  by_cases hk6 : 6 < k
  · have e1 : ownE tw k t n ns d = 7 := by unfold ownE; rw [if_pos (Or.inr hk6)]
    rw [e1]
    go_enter Tryd.func33, Tryd.ntmps33
    go_wp2_with fail
    go_ret
    exact ⟨rfl, HA.out⟩
  obtain ⟨f, hf⟩ : ∃ f, f = formG k t n ns := ⟨_, rfl⟩
  obtain ⟨x, hx⟩ : ∃ x, x = ownE tw k t n ns d := ⟨_, rfl⟩
  have hx1 := hx
  unfold ownE at hx1
  rw [if_neg (by omega), ← hf] at hx1
  rw [← hf] at F
  rw [← hx]
  have HF := Lib.hid hf
  clear hf hx
  cases f with
  | false =>
    rw [if_pos rfl] at hx1
    subst hx1
    go_enter Tryd.func33, Tryd.ntmps33
    go_wp2_with (go_at_call 49; refine F.mono ?_; rintro r w1 ⟨rfl, t1⟩)
    go_ret
    exact ⟨rfl, HA.out.trans t1⟩
  | true =>
    rw [if_neg (by simp)] at hx1
    by_cases hc : k = 5 ∨ k = 6
    · rw [if_neg (not_not_intro hc)] at hx1
      have hct : decide (k = 5 ∨ k = 6) = true := decide_eq_true hc
      simp only [hct] at H
      clear hct
      by_cases hd2 : 32 ≤ d
      · rw [if_pos hd2] at hx1
        subst hx1
        have id : (32 : Int) ≤ (d : Int) := by omega
        clear hc
        go_enter Tryd.func33, Tryd.ntmps33
        go_wp2_with (first | (go_at_call 49; refine F.mono ?_; rintro r w1 ⟨rfl, t1⟩; have o1 := O.out.only t1; obtain ⟨⟨a0, a1, a2, a3⟩, -⟩ := o1.all) | (go_at_call 34; refine (H _).mono ?_; rintro r w2 ⟨rfl, t2⟩; have o2 := o1.only t2; obtain ⟨⟨b0, b1, b2, b3⟩, -⟩ := o2.all))
        go_ret
        exact ⟨rfl, (HA.out.trans t1).trans t2⟩
      · rw [if_neg hd2] at hx1
        have id : ¬ (32 : Int) ≤ (d : Int) := by omega
        by_cases hn2 : 1000 < n
        · rw [if_pos hn2] at hx1
          subst hx1
          have jn : (1000 : Int) < (n : Int) := by omega
          clear hc
          go_enter Tryd.func33, Tryd.ntmps33
          go_wp2_with (first | (go_at_call 49; refine F.mono ?_; rintro r w1 ⟨rfl, t1⟩; have o1 := O.out.only t1; obtain ⟨⟨a0, a1, a2, a3⟩, -⟩ := o1.all) | (go_at_call 34; refine (H _).mono ?_; rintro r w2 ⟨rfl, t2⟩; have o2 := o1.only t2; obtain ⟨⟨b0, b1, b2, b3⟩, -⟩ := o2.all))
          go_ret
          exact ⟨rfl, (HA.out.trans t1).trans t2⟩
        · rw [if_neg hn2] at hx1
          have jn : ¬ (1000 : Int) < (n : Int) := by omega
          by_cases h6 : k = 6
          · subst h6
            have hln : ns.length ≤ 1000 := by
              have := HF.out
              unfold formG at this
              simp at this
              omega
            have HLN := Lib.hid hln
            obtain ⟨tv, htv⟩ : ∃ tv, tv = tw ns := ⟨_, rfl⟩
            have HTV := Lib.hid htv
            rw [← htv] at hx1
            have hxv : x = bif tv then 12 else 0 := by rw [hx1]; cases tv <;> simp
            subst hxv
            clear hc hx1 hln htv
            cases tv
            all_goals
              go_enter Tryd.func33, Tryd.ntmps33
              go_wp2_with (first | (go_at_call 49; refine F.mono ?_; rintro r w1 ⟨rfl, t1⟩; have o1 := O.out.only t1; obtain ⟨⟨a0, a1, a2, a3⟩, -⟩ := o1.all) | (go_at_call 34; refine (H _).mono ?_; rintro r w2 ⟨rfl, t2⟩; have o2 := o1.only t2; obtain ⟨⟨b0, b1, b2, b3⟩, -⟩ := o2.all) | (go_at_call 50; refine (HW.out ns N _ (((HN.out.only HA.out).only t1).only t2) HLN.out HS.out).mono ?_; rw [← HTV.out]; rintro r w3 ⟨rfl, t3⟩))
              go_ret
              exact ⟨rfl, ((HA.out.trans t1).trans t2).trans t3⟩
          · rw [if_neg (by omega)] at hx1
            subst hx1
            obtain rfl : k = 5 := by omega
            clear hc h6
            go_enter Tryd.func33, Tryd.ntmps33
            go_wp2_with (first | (go_at_call 49; refine F.mono ?_; rintro r w1 ⟨rfl, t1⟩; have o1 := O.out.only t1; obtain ⟨⟨a0, a1, a2, a3⟩, -⟩ := o1.all) | (go_at_call 34; refine (H _).mono ?_; rintro r w2 ⟨rfl, t2⟩; have o2 := o1.only t2; obtain ⟨⟨b0, b1, b2, b3⟩, -⟩ := o2.all))
            go_ret
            exact ⟨rfl, (HA.out.trans t1).trans t2⟩
    · rw [if_pos hc] at hx1
      have hct : decide (k = 5 ∨ k = 6) = false := decide_eq_false hc
      simp only [hct] at H
      subst hx1
      clear hct hc
      go_enter Tryd.func33, Tryd.ntmps33
      go_wp2_with (first | (go_at_call 49; refine F.mono ?_; rintro r w1 ⟨rfl, t1⟩; have o1 := O.out.only t1; obtain ⟨⟨a0, a1, a2, a3⟩, -⟩ := o1.all) | (go_at_call 34; refine (H _).mono ?_; rintro r w2 ⟨rfl, t2⟩; have o2 := o1.only t2; obtain ⟨⟨b0, b1, b2, b3⟩, -⟩ := o2.all))
      go_ret
      exact ⟨rfl, (HA.out.trans t1).trans t2⟩
end Go.Proofs.YtdhkpkojnokjdaaDoor

/-
  The first error of a value, its own ahead of its elements'.
-/
namespace Go.Proofs.YtdhkpkojnokjdaaDoor
open Go.RowKit Go.Shelf
set_option linter.unusedVariables false
set_option linter.unusedSimpArgs false

mutual
/-- why a value that stands within so many others may not be printed; 0 if it may -/
def errG (tw : List (List UInt8) → Bool) : GV → Nat → Int
  | .mk k t l ns, d => if ownE tw k t l.length ns d ≠ 0 then ownE tw k t l.length ns d else if k = 5 ∨ k = 6 then errL tw l (d + 1) else 0
/-- the first of those errors -/
def errL (tw : List (List UInt8) → Bool) : List GV → Nat → Int
  | [], _ => 0
  | x :: r, d => if errG tw x d ≠ 0 then errG tw x d else errL tw r d
end

mutual
/-- of such lengths as a machine holds -/
def Fine : GV → Prop
  | .mk k t l ns => t.length ≤ 1000000 ∧ l.length ≤ 1000000 ∧ ns.length ≤ 1000000 ∧ (∀ s ∈ ns, s.length ≤ 1000000) ∧ FineL l
def FineL : List GV → Prop
  | [] => True
  | x :: r => Fine x ∧ FineL r
end
theorem FineL.at_ : ∀ {l : List GV}, FineL l → ∀ i (h : i < l.length), Fine l[i]
  | x :: r, h, 0, hi => by unfold FineL at h; exact h.1
  | x :: r, h, i + 1, hi => by unfold FineL at h; simpa using FineL.at_ h.2 i (by simpa using hi)

theorem GIn.shape {w : World} {x : GV} {a b c d : Value} (h : GIn w x (.agg #[a, b, c, d])) : ∃ k t sp n m sq u v, a = .int .i64 k ∧ b = txt t ∧ c = .slice sp n m ∧ d = .slice sq u v := by
  cases x with
  | mk k t l ns =>
    unfold GIn at h
    obtain ⟨L, N, e, ⟨sp, cap, e2, -⟩, ⟨sq, cq, e3, -⟩⟩ := h
    simp at e
    exact ⟨k, t, sp, _, cap, sq, _, cq, e.1, e.2.1, e.2.2.1.trans e2, e.2.2.2.trans e3⟩

theorem ownE_deep {tw : List (List UInt8) → Bool} {k : Int} {t : List UInt8} {n d : Nat} {ns : List (List UInt8)} (h : ownE tw k t n ns d = 0) (hk : k = 5 ∨ k = 6) : d < 32 ∧ n ≤ 1000 := by
  unfold ownE at h
  split at h
  · omega
  · split at h
    · omega
    · split at h
      · omega
      · split at h
        · omega
        · omega

theorem errL_at (tw : List (List UInt8) → Bool) (l : List GV) (k d : Nat) (h : k < l.length) : errL tw (l.drop k) d = if errG tw l[k] d ≠ 0 then errG tw l[k] d else errL tw (l.drop (k + 1)) d := by
  rw [List.drop_eq_getElem_cons h, errL]

set_option maxRecDepth 100000 in
set_option maxHeartbeats 3200000 in
theorem errorOf_step {tw : List (List UInt8) → Bool} (hW : TwiceIs tw) {k : Int} {t : List UInt8} {l : List GV} {ns : List (List UInt8)} {d : Nat} {v : Value} {w : World} (hd : d ≤ 100) (hx : GIn w (.mk k t l ns) v) (hF : Fine (.mk k t l ns)) (hT : Tb w)
    (ih : d < 32 → ∀ i (h : i < l.length) (v : Value) (w' : World), GIn w' l[i] v → Tb w' → Calls Tryd.prog 21 #[v, .int .i64 ((d : Int) + 1)] w' fun e w2 => e = .returned (.int .i64 (errG tw l[i] (d + 1))) ∧ Only w' w2) :
    Calls Tryd.prog 21 #[v, .int .i64 (d : Int)] w fun e w' => e = .returned (.int .i64 (errG tw (.mk k t l ns) d)) ∧ Only w w' := by
  unfold Fine at hF
  obtain ⟨ht, hl, hns, hss, hFL⟩ := hF
  unfold GIn at hx
  obtain ⟨L, N, rfl, hL, hN⟩ := hx
  have ha := (Only.refl w).alloc (.cells #[.int .i64 k, txt t, L, N] 25)
  have hL2 : ElemsIn w L l := hL
  obtain ⟨sp, cap, rfl, hcells⟩ := hL
  have F := ownError_any (sp := sp) (cap := cap) hW ht hl (show d ≤ 1000 by omega) (hN.only ha) hns hss (hT.only ha) (k := k)
  have H := hasElems_any k (txt t) (.slice sp l.length cap) N
  have HL := Lib.hid hL2
  have HA := Lib.hid ha
  have HT := Lib.hid (hT.only ha)
  have IH := Lib.hid ih
  have O := Lib.hid (Own4.new w (.int .i64 k) (txt t) (.slice sp l.length cap) N 25)
  obtain ⟨⟨x0, x1, x2, x3⟩, -⟩ := O.out.all
  have il : (l.length : Int) ≤ 1000000 := by omega
  have HC := Lib.hid hcells
  clear hW hN hL2 ha hT ih hcells hFL hss hns ht
  obtain ⟨o, ho⟩ : ∃ o, o = ownE tw k t l.length ns d := ⟨_, rfl⟩
  have HO := Lib.hid ho
  obtain ⟨r0, hr0⟩ : ∃ r, r = errG tw (.mk k t l ns) d := ⟨_, rfl⟩
  have hr1 := hr0
  unfold errG at hr1
  rw [← ho] at hr1 F
  rw [← hr0]
  clear ho hr0
  by_cases hoz : o = 0
  · subst hoz
    rw [if_neg (by simp)] at hr1
    by_cases hc : k = 5 ∨ k = 6
    · rw [if_pos hc] at hr1
      have hct : decide (k = 5 ∨ k = 6) = true := decide_eq_true hc
      simp only [hct] at H
      have HD := Lib.hid (ownE_deep HO.out.symm hc)
      have IH := Lib.hid (IH.out HD.out.1)
      have HR1 := Lib.hid hr1
      clear hct hc hr1
      go_enter Tryd.func21, Tryd.ntmps21
      go_wp2_with (first | (go_at_call 33; refine F.mono ?_; rintro r w1 ⟨rfl, t1⟩; have o1 := O.out.only t1; obtain ⟨⟨a0, a1, a2, a3⟩, -⟩ := o1.all) | (go_at_call 34; refine (H _).mono ?_; rintro r w2 ⟨rfl, t2⟩; have o2 := o1.only t2; obtain ⟨⟨b0, b1, b2, b3⟩, -⟩ := o2.all))
      have T2 := Lib.hid (HA.out.trans (t1.trans t2))
      have TB2 := Lib.hid (HT.out.only (t1.trans t2))
      clear t1 t2 o1 o2 x0 x1 x2 x3 a0 a1 a2 a3 F H O
      go_loopg [23] l.length (fun g v wr => ∃ j : Nat, v = .int .i64 (j : Int) ∧ j ≤ l.length ∧ l.length - j ≤ g ∧ Only w2 wr ∧ r0 = errL tw (l.drop j) (d + 1))
      case atStart => exact ⟨0, rfl, Nat.zero_le _, Nat.le_refl _, Only.refl _, by rw [List.drop_zero]; exact HR1.out⟩
      case round =>
        obtain ⟨j, rfl, hj, hg, htt, hrr⟩ := hrel
        have HTT := Lib.hid htt
        have HRR := Lib.hid hrr
        clear hrr
        by_cases hlt : j < l.length
        · have ij : (j : Int) < (l.length : Int) := by omega
          rcases HC.out with h0 | ⟨g, off, hsp, hcell⟩
          · rw [h0] at hlt; simp at hlt
          · subst hsp
            obtain ⟨c0, c1, c2, c3, ⟨q0, q1, q2, q3⟩, hgx⟩ := GCells.at_ (GCells.only (T2.out.trans htt) l hcell) j hlt
            obtain ⟨k9, t9, sp9, n9, m9, sq9, u9, v9, rfl, rfl, rfl, rfl⟩ := GIn.shape hgx
            have e1 : (⟨g, off, none⟩ : Addr).add (j * 4) = ⟨g, off + j * 4, none⟩ := by unfold Addr.add; split <;> simp_all
            have hat := errL_at tw l j (d + 1) hlt
            obtain ⟨z, hz⟩ : ∃ z, z = errG tw (l[j]'hlt) (d + 1) := ⟨_, rfl⟩
            rw [← hz] at hat
            have HAT := Lib.hid hat
            have C := fun w' t' => IH.out j hlt (.agg #[.int .i64 k9, txt t9, .slice sp9 n9 m9, .slice sq9 u9 v9]) w' (GIn.only t' _ hgx) (TB2.out.only (HTT.out.trans t'))
            rw [← hz] at C
            have HC2 := Lib.hid C
            clear C hz hcell hat hgx htt
            have tS := Lib.hid ((Only.refl wr).alloc (.cells #[.int .i64 k9, txt t9, .slice sp9 n9 m9, .slice sq9 u9 v9] 25))
            by_cases hz0 : z = 0
            · subst hz0
              have hnx := HAT.out
              rw [if_neg (by simp)] at hnx
              have HNX := Lib.hid hnx
              clear hnx
              go_wp2_with (go_at_call 21; refine (HC2.out _ tS.out).mono ?_; rintro r w3 ⟨rfl, t3⟩)
              have HT3 := Lib.hid (HTT.out.trans (tS.out.trans t3))
              clear t3
              go_roundg (l.length - (j + 1))
              case measure => omega
              case rel => exact ⟨j + 1, by go_num, by omega, Nat.le_refl _, HT3.out, by rw [HRR.out]; exact HNX.out⟩
            · have hnx := HAT.out
              rw [if_pos hz0] at hnx
              have hr9 : r0 = z := HRR.out.trans hnx
              subst hr9
              clear hnx
              go_wp2_with (go_at_call 21; refine (HC2.out _ tS.out).mono ?_; rintro r w3 ⟨rfl, t3⟩)
              go_ret
              exact ⟨rfl, T2.out.trans (HTT.out.trans (tS.out.trans t3))⟩
        · obtain rfl : j = l.length := by omega
          have ij : ¬ (l.length : Int) < (l.length : Int) := by omega
          have hfin : r0 = 0 := by rw [HRR.out, List.drop_length, errL]
          subst hfin
          go_wp2_with fail
          go_ret
          exact ⟨rfl, T2.out.trans HTT.out⟩
    · rw [if_neg hc] at hr1
      have hct : decide (k = 5 ∨ k = 6) = false := decide_eq_false hc
      simp only [hct] at H
      subst hr1
      clear hct hc
      go_enter Tryd.func21, Tryd.ntmps21
      go_wp2_with (first | (go_at_call 33; refine F.mono ?_; rintro r w1 ⟨rfl, t1⟩; have o1 := O.out.only t1; obtain ⟨⟨a0, a1, a2, a3⟩, -⟩ := o1.all) | (go_at_call 34; refine (H _).mono ?_; rintro r w2 ⟨rfl, t2⟩; have o2 := o1.only t2; obtain ⟨⟨b0, b1, b2, b3⟩, -⟩ := o2.all))
      go_ret
      exact ⟨rfl, (HA.out.trans t1).trans t2⟩
  · rw [if_pos hoz] at hr1
    subst hr1
    go_enter Tryd.func21, Tryd.ntmps21
    go_wp2_with (first | (go_at_call 33; refine F.mono ?_; rintro r w1 ⟨rfl, t1⟩; have o1 := O.out.only t1; obtain ⟨⟨a0, a1, a2, a3⟩, -⟩ := o1.all) | (go_at_call 34; refine (H _).mono ?_; rintro r w2 ⟨rfl, t2⟩; have o2 := o1.only t2; obtain ⟨⟨b0, b1, b2, b3⟩, -⟩ := o2.all))
    go_ret
    exact ⟨rfl, HA.out.trans t1⟩

theorem errorOf_any {tw : List (List UInt8) → Bool} (hW : TwiceIs tw) : ∀ (m : Nat) (x : GV) (v : Value) (d : Nat) (w : World), 32 ≤ d + m → d ≤ 100 → GIn w x v → Fine x → Tb w →
    Calls Tryd.prog 21 #[v, .int .i64 (d : Int)] w fun e w' => e = .returned (.int .i64 (errG tw x d)) ∧ Only w w' := by
  intro m
  induction m with
  | zero =>
    rintro ⟨k, t, l, ns⟩ v d w hm hd hx hF hT
    exact errorOf_step hW hd hx hF hT (fun h => absurd h (by omega))
  | succ m ih =>
    rintro ⟨k, t, l, ns⟩ v d w hm hd hx hF hT
    exact errorOf_step hW hd hx hF hT (fun h i hi v' w' hv hT' => ih _ v' (d + 1) w' (by omega) (by omega) hv (by unfold Fine at hF; exact FineL.at_ hF.2.2.2.2 i hi) hT')
end Go.Proofs.YtdhkpkojnokjdaaDoor
