/-
  What a text is as an amount, by the document: for every text.
-/
import Derived.Test.YtfjemldilnaggaaGreatDoorMRParse1
import Derived.Test.YtfjemldilnaggaaGreatDoorMRParse2
namespace Go.Proofs.YtfjemldilnaggaaGreatDoor
open Go.RowKit Go.Maps Go.WideMaps Go.Shelf
set_option linter.unusedVariables false

theorem out_ne {e n : Int} {c : ByteArray} {x : Int} (h : e = x) (hx : x ≠ 0) : Out e (okI e n) (okS e c) x 0 ⟨#[]⟩ := by
  subst h; exact ⟨rfl, okI_ne hx _, okS_ne hx _⟩

theorem mtxt_back (D : ByteArray) : mtxt D.data.toList = D := rfl
theorem trim_45 (l : List UInt8) : (if Lib.hasPrefix l [45] then (mtxt l).extract 1 (mtxt l).size else mtxt l) = mtxt (Lib.trimPrefix l [45]) := by
  unfold Lib.trimPrefix
  by_cases h : Lib.hasPrefix l [45] = true
  · rw [if_pos h, if_pos h, extract_mtxt, mtxt_size]
    congr 1
    rw [List.take_of_length_le (by rw [List.length_drop]; exact Nat.le_refl _)]
    rfl
  · rw [if_neg h, if_neg h]
theorem head_45 (l : List UInt8) : ((mtxt l).size = 0 ∧ Lib.hasPrefix l [45] = false) ∨ ∃ h : 0 < (mtxt l).size, ((((mtxt l)[0]'h).toNat : Int) == 45) = Lib.hasPrefix l [45] := by
  cases l with
  | nil => left; exact ⟨rfl, rfl⟩
  | cons x r =>
    right
    refine ⟨by rw [mtxt_size]; simp, ?_⟩
    have e : (mtxt (x :: r))[0]'(by rw [mtxt_size]; simp) = x := rfl
    rw [e, Bool.eq_iff_iff]
    simp only [beq_iff_eq, Lib.hasPrefix, List.isPrefixOf, Bool.and_true]
    constructor
    · intro h; exact (UInt8.toNat_inj.1 (by have : (45 : UInt8).toNat = 45 := rfl; omega) : (45 : UInt8) = x)
    · intro h; rw [← h]; rfl

/-- is the first of two digits at least a 0? -/
def headZ (l : List UInt8) : Bool := decide (1 < l.length) && (l.headD 0 == 48)
theorem headZ_or (l : List UInt8) : (headZ l = false ∧ (mtxt l).size ≤ 1) ∨ ∃ h : 1 < (mtxt l).size, ((((mtxt l)[0]'(by omega)).toNat : Int) == 48) = headZ l := by
  by_cases h : 1 < l.length
  · right
    refine ⟨by rw [mtxt_size]; exact h, ?_⟩
    cases l with
    | nil => simp at h
    | cons x r =>
      have e : (mtxt (x :: r))[0]'(by rw [mtxt_size]; simp) = x := rfl
      rw [e, Bool.eq_iff_iff]
      simp only [headZ, beq_iff_eq, h, decide_true, Bool.true_and, List.headD_cons]
      constructor
      · intro k; exact UInt8.toNat_inj.1 (by have : (48 : UInt8).toNat = 48 := rfl; omega)
      · intro k; rw [k]; rfl
  · left
    exact ⟨by simp [headZ, h], by rw [mtxt_size]; omega⟩
theorem bodyB_z (l : List UInt8) : bodyB l = ((digsB l && !l.isEmpty) && !headZ l) := by
  unfold bodyB headZ
  congr 1
  by_cases h : l.length ≤ 1
  · have : ¬ 1 < l.length := by omega
    simp [h, this]
  · have : 1 < l.length := by omega
    simp [h, this]
theorem dig_pos {l : List UInt8} (h : (digsB l && !l.isEmpty) = true) : digsB l = true ∧ 0 < (mtxt l).size := by
  simp only [Bool.and_eq_true, Bool.not_eq_true'] at h
  refine ⟨h.1, ?_⟩
  rw [mtxt_size]
  cases l with
  | nil => simp at h
  | cons x r => simp

theorem cutL_lens (c : UInt8) (l : List UInt8) : (cutL c l).1.length ≤ l.length ∧ (cutL c l).2.1.length ≤ l.length := cutL_len c l

theorem scI_neg {s : ByteArray} : scI s < 0 ↔ (curOf s).isSome = false := by
  have h := (fK_range s).1
  unfold scI
  unfold fK at h
  cases hc : curOf s with
  | none => simp
  | some k => rw [hc] at h; simp only [Option.getD_some] at h ⊢; simp; exact h
theorem scI_some {s : ByteArray} (h : (curOf s).isSome = true) : scI s = fK s := by
  unfold scI fK
  cases hc : curOf s with
  | none => rw [hc] at h; cases h
  | some k => rfl

theorem rparse_any (s : ByteArray) (hl : s.size ≤ 900) : AnsIs 24 #[.string s] (okI (parseE s.data.toList) (parseN s.data.toList)) (okS (parseE s.data.toList) (pC s.data.toList)) (parseE s.data.toList) := by
  obtain ⟨L, hL⟩ : ∃ L, L = s.data.toList := ⟨_, rfl⟩
  have hlen : L.length ≤ 900 := by rw [hL, ← Lib.size_eq]; exact hl
  have C1 : XCutIs s 32 ((pieces 32 L).map mtxt) := fun W => by rw [hL]; exact xcut_any s 32 rfl (by omega) W
  rw [← hL]
  by_cases hc : L.count 32 = 1
  · rw [pieces_two hc] at C1
    have hA : (pA L).length ≤ 900 := Nat.le_trans (cutL_lens 32 L).1 hlen
    obtain ⟨t, ht⟩ : ∃ t, t = Lib.trimPrefix (pA L) [45] := ⟨_, rfl⟩
    have htl : t.length ≤ 900 := by rw [ht]; exact Nat.le_trans (trim_len _ _) hA
    have C2 : XCutIs (mtxt t) 46 ((pieces 46 t).map mtxt) := fun W => xcut_any (mtxt t) 46 rfl (by rw [mtxt_size]; omega) W
    have hT := trim_45 (pA L)
    rw [← ht] at hT
    have hH := head_45 (pA L)
    have hwh : dWhole (pA L) = (cutL 46 t).1 := by unfold dWhole dCut; rw [ht]
    have hfr : dFrac (pA L) = (cutL 46 t).2.1 := by unfold dFrac dCut; rw [ht]
    have hpt : (dCut (pA L)).2.2 = (cutL 46 t).2.2 := by unfold dCut; rw [ht]
    have hbel : dBelow (pA L) = Lib.hasPrefix (pA L) [45] := rfl
    have hk3 : scI (pC L) ≤ 3 := by
      have := (fK_range (pC L)).2
      by_cases h : (curOf (pC L)).isSome = true
      · rw [scI_some h]; exact this
      · have := scI_neg.2 (by simpa using h); omega
    have e10 : dOk (pA L) = false → parseE L = 10 := fun h => by unfold parseE; rw [if_pos (Or.inr h)]
    have e18 : dOk (pA L) = true → scI (pC L) < 0 → parseE L = 18 := fun h k => by
      unfold parseE; rw [if_neg (by rw [hc, h]; simp), if_pos (scI_neg.1 k)]
    have hend : dOk (pA L) = true → 0 ≤ scI (pC L) → (dFrac (pA L)).length ≤ (scI (pC L)).toNat →
        EndOut (Lib.hasPrefix (pA L) [45]) (numOf (dWhole (pA L) ++ dFrac (pA L) ++ List.replicate ((scI (pC L)).toNat - (dFrac (pA L)).length) 48)) (pC L) (parseE L) (okI (parseE L) (parseN L)) (okS (parseE L) (pC L)) := fun h k hf => by
      have hsome : (curOf (pC L)).isSome = true := by
        cases h9 : (curOf (pC L)).isSome with
        | true => rfl
        | false => have := scI_neg.2 h9; omega
      have hsc := scI_some hsome
      rw [hsc] at hf k ⊢
      have e : parseE L = if 4611686018427387904 < numOf (pAll L (fK (pC L))) then 6 else if dBelow (pA L) = true ∧ numOf (pAll L (fK (pC L))) = 0 then 10 else 0 := by
        unfold parseE; rw [if_neg (by rw [hc, h]; simp), if_neg (by rw [hsome]; simp), if_neg (by omega)]
      have eA : pAll L (fK (pC L)) = dWhole (pA L) ++ dFrac (pA L) ++ List.replicate ((fK (pC L)).toNat - (dFrac (pA L)).length) 48 := rfl
      rw [← eA, ← hbel]
      unfold EndOut
      by_cases h1 : 4611686018427387904 < numOf (pAll L (fK (pC L)))
      · rw [if_pos h1] at e ⊢
        exact out_ne e (by decide)
      · rw [if_neg h1] at e ⊢
        by_cases h2 : dBelow (pA L) = true ∧ numOf (pAll L (fK (pC L))) = 0
        · rw [if_pos h2] at e ⊢
          exact out_ne e (by decide)
        · rw [if_neg h2] at e ⊢
          rw [e]
          exact ⟨rfl, okI_0 _, okS_0 _⟩
    have SC := fun W => scale_any (pC L) W
    rcases (by omega : t.count 46 = 0 ∨ t.count 46 = 1 ∨ 2 ≤ t.count 46) with h | h | h
    · rw [pieces_one h] at C2
      have hno : (46 : UInt8) ∉ t := List.count_eq_zero.1 h
      have hcut := cutL_miss 46 t hno
      have hok : dOk (pA L) = bodyB t := by unfold dOk; rw [hwh, hpt, hcut]; simp
      have hfr0 : dFrac (pA L) = [] := by rw [hfr, hcut]
      have hwh0 : dWhole (pA L) = t := by rw [hwh, hcut]
      have D1 : XDigIs (mtxt t) (digsB t && !t.isEmpty) := fun W => rdigits_any (mtxt t) (by rw [mtxt_size]; omega) W
      refine rparse_1 (A := mtxt (pA L)) (C := pC L) (T := mtxt t) (p := mtxt t) (X := !(dOk (pA L))) C1 (by rw [mtxt_size]; omega) hH hT C2 D1 (fun e => (dig_pos e).2) (by rw [mtxt_size]; omega) (headZ_or t) ?_ SC hk3 (fun e => out_ne (e10 (by simpa using e)) (by decide)) (fun e k => out_ne (e18 (by simpa using e) k) (by decide)) (fun e k hf => ?_) (fun e => ?_)
      · rw [hok, bodyB_z]
        cases (digsB t && !t.isEmpty) <;> cases headZ t <;> rfl
      · have := hend (by simpa using e) k (by rw [hfr0]; exact Nat.zero_le _)
        rw [hfr0, hwh0] at this
        exact this
      · have hb : bodyB t = true := by rw [← hok]; simpa using e
        rw [bodyB_z, Bool.and_eq_true] at hb
        exact dig_pos hb.1
    · rw [pieces_two h] at C2
      obtain ⟨-, hpp, -⟩ := pcs_cut 46 t [] (by omega)
      have hok : dOk (pA L) = (bodyB (cutL 46 t).1 && (digsB (cutL 46 t).2.1 && !(cutL 46 t).2.1.isEmpty)) := by unfold dOk; rw [hwh, hfr, hpt, hpp]; simp
      have l1 := cutL_lens 46 t
      have D1 : XDigIs (mtxt (cutL 46 t).1) (digsB (cutL 46 t).1 && !(cutL 46 t).1.isEmpty) := fun W => rdigits_any (mtxt (cutL 46 t).1) (by rw [mtxt_size]; omega) W
      have D2 : XDigIs (mtxt (cutL 46 t).2.1) (digsB (cutL 46 t).2.1 && !(cutL 46 t).2.1.isEmpty) := fun W => rdigits_any (mtxt (cutL 46 t).2.1) (by rw [mtxt_size]; omega) W
      refine rparse_2 (A := mtxt (pA L)) (C := pC L) (T := mtxt t) (p := mtxt (cutL 46 t).1) (q := mtxt (cutL 46 t).2.1) (X := !(dOk (pA L))) C1 (by rw [mtxt_size]; omega) hH hT C2 D1 (fun e => (dig_pos e).2) D2 (by rw [mtxt_size]; omega) (by rw [mtxt_size]; omega) (headZ_or _) ?_ SC hk3 (fun e => out_ne (e10 (by simpa using e)) (by decide)) (fun e k => out_ne (e18 (by simpa using e) k) (by decide)) (fun e k hf => ?_) (fun e k hf => ?_) (fun e => ?_)
      · rw [hok, bodyB_z]
        cases (digsB (cutL 46 t).1 && !(cutL 46 t).1.isEmpty) <;> cases headZ (cutL 46 t).1 <;> cases (digsB (cutL 46 t).2.1 && !(cutL 46 t).2.1.isEmpty) <;> rfl
      · refine out_ne ?_ (by decide)
        have hok' : dOk (pA L) = true := by simpa using e
        have hsome : (curOf (pC L)).isSome = true := by
          cases h9 : (curOf (pC L)).isSome with
          | true => rfl
          | false => have := scI_neg.2 h9; omega
        rw [scI_some hsome] at hf k
        rw [mtxt_size, ← hfr] at hf
        unfold parseE
        rw [if_neg (by rw [hc, hok']; simp), if_neg (by rw [hsome]; simp), if_pos (by omega)]
      · rw [mtxt_size, ← hfr] at hf
        have := hend (by simpa using e) k hf
        rw [hwh, hfr] at this
        rw [mtxt_size]
        exact this
      · have hb : dOk (pA L) = true := by simpa using e
        rw [hok, bodyB_z, Bool.and_eq_true, Bool.and_eq_true] at hb
        exact ⟨(dig_pos hb.1.1).1, (dig_pos hb.1.1).2, (dig_pos hb.2).1⟩
    · have hno : dOk (pA L) = false := by
        obtain ⟨-, hpp, hcc⟩ := pcs_cut 46 t [] (by omega)
        unfold dOk
        rw [hfr, hpt, hpp]
        have hm : (46 : UInt8) ∈ (cutL 46 t).2.1 := List.count_pos_iff.1 (by omega)
        have hd : digsB (cutL 46 t).2.1 = false := by
          cases hd : digsB (cutL 46 t).2.1 with
          | false => rfl
          | true => have := digsB_at hd hm; simp at this
        rw [hd]; simp
      have hpl : ((pieces 46 t).map mtxt).length = t.count 46 + 1 := by rw [List.length_map]; unfold pieces; rw [pcs_length]
      have hcl := List.count_le_length (a := (46 : UInt8)) (l := t)
      exact rparse_many (A := mtxt (pA L)) (C := pC L) (T := mtxt t) (k := 0) C1 (by rw [mtxt_size]; omega) hH hT C2 (by omega) (by omega) (out_ne (e10 hno) (by decide))
  · have e : parseE L = 10 := by unfold parseE; rw [if_pos (Or.inl hc)]
    rw [e, okI_ne (by decide), okS_ne (by decide)]
    have hpl : ((pieces 32 L).map mtxt).length = L.count 32 + 1 := by rw [List.length_map]; unfold pieces; rw [pcs_length]
    have hcl := List.count_le_length (a := (32 : UInt8)) (l := L)
    exact rparse_count C1 (by rw [hpl]; simp; omega) (by omega)
end Go.Proofs.YtfjemldilnaggaaGreatDoor
