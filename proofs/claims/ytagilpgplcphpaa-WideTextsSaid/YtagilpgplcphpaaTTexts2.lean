/-
  WideTexts: for all numbers and texts.
-/
import Derived.Test.YtagilpgplcphpaaTTexts
namespace Go.Proofs.Ytagilpgplcphpaa
open Go.RowKit Go.Maps Go.WideMaps

theorem parseW_text {a : Int} (ha : In a) : parseW (intText a) = .tuple #[enc a, .int .i64 0] := by
  unfold parseW; rw [if_pos (formB_text a), valOf_text, if_pos ha]

theorem numOf_lim {t : List UInt8} {K : Nat} (hd : digsB t = true) (ht : t.length ≤ 4 * K) : numOf t < 10000 ^ K := by
  rw [pow4]
  exact Nat.lt_of_lt_of_le (numOf_lt hd) (Nat.pow_le_pow_right (by decide) ht)

theorem lim_val {s : List UInt8} {K : Nat} (hf : formB s = true) (hl : s.length ≤ 4 * K) : Lim (valOf s) K := by
  have key : ∀ t : List UInt8, digsB t = true → t.length ≤ 4 * K → numOf t < 10000 ^ K := fun t hd ht => numOf_lim hd ht
  unfold Lim valOf
  unfold formB at hf
  have hb : ∀ t, bodyB t = true → digsB t = true := fun t h => by unfold bodyB at h; simp only [Bool.and_eq_true] at h; exact h.1.1
  split at hf
  · rename_i h
    rw [if_pos h.2]
    simp only [Bool.and_eq_true] at hf
    have := key s.tail (hb _ hf.1) (by rw [List.length_tail]; omega)
    omega
  · rename_i h
    have hd := hb _ hf
    have h2 : ¬ s.headD 0 = 45 := fun e => by
      cases s with
      | nil => simp at e
      | cons x r =>
        have := digsB_at hd (c := x) (by simp)
        simp at e
        subst e
        simp at this
    rw [if_neg h2]
    have := key s hd hl
    omega

theorem bigParseW_any (s : ByteArray) (hf : formB s.data.toList = true) (hl : s.size ≤ 200) (w : World) : Calls Try.prog 35 #[.string s] w (ParseSays (valOf s.data.toList) w) := by
  have bl := blen s
  have hf0 := hf
  unfold formB at hf
  split at hf
  · rename_i h
    obtain ⟨h1, h45⟩ := h
    rw [bl] at h1
    obtain ⟨D, hD⟩ : ∃ D, s.extract 1 s.size = D := ⟨_, rfl⟩
    have ht : D.data.toList = s.data.toList.tail := by rw [← hD]; exact extract_tail s
    have hl2 : D.size + 1 = s.size := by rw [← blen D, ht, List.length_tail]; omega
    simp only [Bool.and_eq_true] at hf
    have hh : ((s[0].toNat : Int) == 45) = true := by rw [head_45 (by omega), h45]; rfl
    have := bigParse_minus s D hD h1 hl2 hh hf0 (by rw [ht]; exact hf.1) (by omega) w
    unfold valOf
    rw [if_pos h45, ← ht]
    exact this
  · have h2 : ¬ s.data.toList.headD 0 = 45 := fun e => by
      have hd : digsB s.data.toList = true := by unfold bodyB at hf; simp only [Bool.and_eq_true] at hf; exact hf.1.1
      cases hs : s.data.toList with
      | nil => rw [hs] at e; simp at e
      | cons x r =>
        rw [hs] at hd e
        have := digsB_at hd (c := x) (by simp)
        simp at e
        subst e
        simp at this
    unfold valOf
    rw [if_neg h2]
    exact bigParse_any s hf (by omega) w

theorem wideTexts_any {a : Int} (q : ByteArray) (ha : In a) (w : World) : Calls Try.prog 6 #[enc a, .string q] w fun e w' => e = .returned (.bool true) ∧ Only w w' := by
  obtain ⟨h, l, -, -, -, -, -, ea⟩ := enc_words a
  by_cases hq : 200 < q.size
  · rw [ea]; exact texts_out (by omega) w
  have ST := fun W => stringW_any ha W
  have VA := fun W => value_any ha W
  have hlen : (⟨(intText a).toArray⟩ : ByteArray).size ≤ 1000000 := by
    have h1 := intText_length a
    have h2 : dlen a.natAbs ≤ 40 := dlen_lim (by obtain ⟨x, y⟩ := ha; omega) (by decide)
    have : (⟨(intText a).toArray⟩ : ByteArray).size = (intText a).length := by rw [← blen]
    omega
  have P1 := fun W => parse_any ⟨(intText a).toArray⟩ hlen W
  rw [show parseW (⟨(intText a).toArray⟩ : ByteArray).data.toList = parseW (intText a) from rfl, parseW_text ha, ea] at P1
  have P2 := fun W => parse_any q (by omega) W
  have TX : ∀ W b s k c, BigR W b s k c a → Calls Try.prog 37 #[.agg #[.bool b, .slice s k c]] W fun e w' => e = .returned (.string ⟨(intText a).toArray⟩) ∧ Only W w' := fun W b s k c r => bigText_any r ((Lim.of_in ha).mono (by omega))
  rw [ea] at ST VA ⊢
  have hq' : (q.size : Int) ≤ 200 := by omega
  cases hf : formB q.data.toList with
  | false =>
    have e : parseW q.data.toList = .tuple #[.agg #[.int .u64 0, .int .u64 0], .int .i64 10] := by unfold parseW; rw [hf]; rfl
    rw [e] at P2
    exact texts_form hq' ST P1 P2 VA TX (fun W => bigParse_none q hf (by omega) W) ⟨rfl, rfl⟩
  | true =>
    have LN := lim_val (K := 5000) hf (by rw [blen]; omega)
    have BP := fun W => bigParseW_any q hf (by omega) W
    by_cases hin : In (valOf q.data.toList)
    · obtain ⟨i, j, -, -, -, -, -, en⟩ := enc_words (valOf q.data.toList)
      have e : parseW q.data.toList = .tuple #[.agg #[.int .u64 i, .int .u64 j], .int .i64 0] := by unfold parseW; rw [if_pos hf, if_pos hin, en]
      rw [e] at P2
      have VT := fun W => value_any hin W
      rw [en] at VT
      exact texts_num hq' ST P1 P2 VA TX BP LN hin VT
    · have e : parseW q.data.toList = .tuple #[.agg #[.int .u64 0, .int .u64 0], .int .i64 6] := by unfold parseW; rw [if_pos hf, if_neg hin]; rfl
      rw [e] at P2
      exact texts_range hq' ST P1 P2 VA TX BP LN ⟨rfl, rfl⟩ hin
end Go.Proofs.Ytagilpgplcphpaa
