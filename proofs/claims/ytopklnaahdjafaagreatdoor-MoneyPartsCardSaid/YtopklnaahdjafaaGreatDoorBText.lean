/-
  A number's letters.
-/
import Derived.Test.YtopklnaahdjafaaGreatDoorGBm
import Derived.Test.YtopklnaahdjafaaGreatDoorGPl
import Derived.Laws.BytesString
namespace Go.Proofs.YtopklnaahdjafaaGreatDoor
open Go.RowKit Go.Maps Go.WideMaps

theorem bval_high {l : List Nat} (hl : Dg l) (hn : 0 < l.length) (k : Nat) : bval l / 10 ^ (4 * (l.length - 1) + k) = l[l.length - 1]'(by omega) / 10 ^ k := by
  have e := bval_take_drop l (l.length - 1) (by omega)
  have lt := bval_lt (hl.take (l.length - 1))
  rw [List.length_take, Nat.min_eq_left (by omega)] at lt
  have e2 : bval l / 10 ^ (4 * (l.length - 1)) = bval (l.drop (l.length - 1)) := by
    rw [← pow4, e, Nat.add_comm, Nat.mul_add_div (Nat.pow_pos (by decide)), Nat.div_eq_of_lt lt, Nat.add_zero]
  rw [Nat.pow_add, ← Nat.div_div_eq_div_mul, e2, bval_drop l (by omega), bval_drop_end l (by omega)]
  simp

theorem dig1_mod {a b : Nat} (h : a % 10 = b % 10) : dig1 a = dig1 b := by unfold dig1; rw [h]

/-- the letters so far -/
def LettersAt (l : List Nat) (i : Nat) (t : List UInt8) : Prop := (i < l.length ∧ t = lowDigits (bval l) (4 * i)) ∨ (i = l.length ∧ t = natText (bval l))
/-- within a digit -/
structure Letters (l : List Nat) (i k : Nat) (t : List UInt8) : Prop where
  at_ : i < l.length
  k4 : k ≤ 4
  t : t = lowDigits (bval l) (4 * i + k)
  go : k = 0 ∨ i + 1 < l.length ∨ l[i] / 10 ^ (k - 1) ≠ 0

theorem LettersAt.start {l : List Nat} (h : 0 < l.length) : LettersAt l 0 [] := Or.inl ⟨h, rfl⟩
theorem LettersAt.into {l : List Nat} {i : Nat} {t : List UInt8} (h : LettersAt l i t) (hi : i < l.length) : Letters l i 0 t := by
  rcases h with ⟨h1, h2⟩ | ⟨h1, -⟩
  · exact ⟨h1, by omega, h2, Or.inl rfl⟩
  · omega
theorem Letters.next {l : List Nat} {i k : Nat} {t : List UInt8} (h : Letters l i k t) (hl : Dg l) (hk : k < 4) (hgo : i + 1 < l.length ∨ 0 < l[i]'h.at_ / 10 ^ k) : Letters l i (k + 1) (dig1 (l[i]'h.at_ / 10 ^ k) :: t) := by
  have hi := h.at_
  refine ⟨hi, by omega, (congrArg (dig1 _ :: ·) h.t).trans ?_, ?_⟩
  · rw [show 4 * i + (k + 1) = (4 * i + k) + 1 by omega, lowDigits]
    congr 1
    exact dig1_mod (bval_decimal hl hi hk).symm
  · rcases hgo with g | g
    · exact Or.inr (Or.inl g)
    · right; right; simpa using Nat.ne_of_gt g
theorem Letters.done {l : List Nat} {i k : Nat} {t : List UInt8} (h : Letters l i k t) (hl : Dg l) (ht : Top l) (hend : k = 4 ∨ (i + 1 = l.length ∧ l[i]'h.at_ / 10 ^ k = 0)) : LettersAt l (i + 1) t := by
  have hi := h.at_
  by_cases c : i + 1 < l.length
  · left
    rcases hend with e | ⟨e, -⟩
    · refine ⟨c, ?_⟩; rw [h.t, e]; rfl
    · omega
  · right
    have he : i = l.length - 1 := by omega
    refine ⟨by omega, ?_⟩
    have hdl := hl.at_ hi
    have hz : l[i] / 10 ^ k = 0 := by
      rcases hend with e | ⟨-, e⟩
      · rw [e]; exact Nat.div_eq_of_lt hdl
      · exact e
    have htop : l[i] ≠ 0 := ht _ (by rw [List.getLast?_eq_getElem?, ← he]; exact List.getElem?_eq_getElem hi)
    have hk : k ≠ 0 := by
      rintro rfl
      simp at hz; exact htop hz
    have hg : l[i] / 10 ^ (k - 1) ≠ 0 := by
      rcases h.go with g | g | g
      · exact absurd g hk
      · omega
      · exact g
    have hb := bval_high hl (by omega)
    have e1 := hb k
    have e2 := hb (k - 1)
    simp only [← he] at e1 e2
    rw [h.t]
    unfold natText
    congr 1
    refine dlen_is (by omega) (by rw [e1]; exact hz) (fun _ => ?_)
    rw [show 4 * i + k - 1 = 4 * i + (k - 1) by omega, e2]
    exact hg

theorem str_cons (c : UInt8) (t : List UInt8) : Value.string ((⟨#[c]⟩ : ByteArray) ++ ⟨t.toArray⟩) = .string ⟨(c :: t).toArray⟩ := by
  congr 1

/-- a letter as a text -/
theorem one_string (w : World) {e : Int} {c : UInt8} (h : e = (c.toNat : Int)) : (convert 137 9 (.slice (some ⟨w.heap.size, 0, none⟩) 1 1)).run Tryz.prog (w.alloc (.cells #[.int .u8 e] 5)) = .ok (.string ⟨#[c]⟩) (w.alloc (.cells #[.int .u8 e] 5)) := by
  subst h
  rw [run_convert_bytes_string _ 137 9 5 _ _ _ (by kernel_rfl) (by kernel_rfl) (by kernel_rfl)]
  have hc : (loadCells ⟨w.heap.size, 0, none⟩ 1).run Tryz.prog (w.alloc (.cells #[.int .u8 (c.toNat : Int)] 5)) = .ok (([c].map fun c => (c.toNat : Int)).map (Value.int .u8)).toArray (w.alloc (.cells #[.int .u8 (c.toNat : Int)] 5)) := by
    have := run_loadCells_list (P := Tryz.prog) (w := w.alloc (.cells #[.int .u8 (c.toNat : Int)] 5)) ⟨w.heap.size, 0, none⟩ [.int .u8 (c.toNat : Int)] (fun j v hj => by
      rcases j with _ | j
      · simp at hj; subst hj; simp [Addr.add]
      · simp at hj)
    simpa using this
  rw [run_bytesToString _ _ _ _ _ hc]
  simp
  rfl

set_option maxRecDepth 100000 in
set_option maxHeartbeats 3200000 in
theorem bigText_walk {b1 : Bool} {s1 : Option Addr} {c1 : Nat} {l : List Nat} {w : World} {X : List UInt8} (hX : Hid (X = (if b1 = true ∧ l ≠ [] then [45] else []) ++ natText (bval l))) (h1 : NatsR w (.slice s1 l.length c1) l) (g1 : Dg l) (g2 : Top l) (l1 : l.length ≤ 5000) :
    Calls Tryz.prog 63 #[.agg #[.bool b1, .slice s1 l.length c1]] w fun e w' => e = .returned (.string ⟨X.toArray⟩) ∧ Only w w' := by
  obtain ⟨sp1, cap1, e1, -, -, a5⟩ := h1.form
  simp only [Value.slice.injEq] at e1
  obtain ⟨rfl, -, rfl⟩ := e1
  have HA := Lib.hid a5
  have G1 := Lib.hid g1
  have G2 := Lib.hid g2
  have il : (l.length : Int) ≤ 5000 := by omega
  have o1 : BigAt (w.alloc (boxOf b1 s1 l.length c1)) w.heap.size b1 s1 l.length c1 := Own2.new _ _ _ _
  have O1 := Lib.hid o1
  have T1 := Lib.hid ((Only.refl w).alloc (boxOf b1 s1 l.length c1))
  clear h1 a5 g1 g2 o1
  rcases Nat.eq_zero_or_pos l.length with h0 | hpos
  · have t0 : ((l.length : Int) == 0) = true := by simp; exact List.length_eq_zero_iff.1 h0
    have H0 := Lib.hid h0
    obtain ⟨x1, x2, x3, x4, x5⟩ := O1.out.all
    clear h0
    go_enter Tryz.func63, Tryz.ntmps63
    go_wp2_with fail
    go_ret
    refine ⟨?_, T1.out⟩
    have e : l = [] := List.length_eq_zero_iff.1 H0.out
    subst e
    rw [hX.out, if_neg (fun h => h.2 rfl), show natText (bval []) = [48] by rw [show bval [] = 0 from rfl]; unfold natText dlen; rfl]
    rfl
  · have t0 : ((l.length : Int) == 0) = false := by simp; intro e; simp [e] at hpos
    go_enter Tryz.func63, Tryz.ntmps63
    go_wp2_with fail
    go_loopw [3, 4] (fun s i wr => ∃ (k : Nat) (t : List UInt8), s = .string ⟨t.toArray⟩ ∧ i = .int .i64 k ∧ k ≤ l.length ∧ LettersAt l k t ∧ BigAt wr w.heap.size b1 s1 l.length c1 ∧ Only w wr) (fun _ i _ => l.length - (intOf i).toNat)
    case atStart => exact ⟨0, [], rfl, rfl, Nat.zero_le _, LettersAt.start hpos, O1.out, T1.out⟩
    case round =>
      obtain ⟨k, t, rfl, rfl, hk, hlt, ho, ht⟩ := hrel
      obtain ⟨x1, x2, x3, x4, x5⟩ := ho.all
      have HLT := Lib.hid hlt
      have HO := Lib.hid ho
      have HT := Lib.hid ht
      clear hlt ho ht
      by_cases hi : k < l.length
      · have ti : decide (k < l.length) = true := by simpa using hi
        obtain ⟨g, e1, v1⟩ := HA.out k l[k] (List.getElem?_eq_getElem hi)
        subst e1
        replace v1 := HT.out.cell v1
        unfold dgV at v1
        have i1 : (k : Int) < (l.length : Int) := by omega
        have hd := G1.out.at_ hi
        obtain ⟨x0, ex⟩ : ∃ x, x = l[k] := ⟨_, rfl⟩
        rw [← ex] at v1 hd
        have HEX := Lib.hid ex
        have L0 := Lib.hid (HLT.out.into hi)
        clear ex
        go_wp2_with fail
        obtain ⟨wo, rfl⟩ : ∃ wo : World, wo = wr := ⟨_, rfl⟩
        go_loopw [3, 5, 6] (fun s x q wr => ∃ (j y : Nat) (t : List UInt8), s = .string ⟨t.toArray⟩ ∧ x = .int .i64 y ∧ q = .int .i64 j ∧ y = x0 / 10 ^ j ∧ Letters l k j t ∧ BigAt wr w.heap.size b1 (some ⟨g, 0, none⟩) l.length c1 ∧ Only w wr) (fun _ _ q _ => 4 - (intOf q).toNat)
        case atStart => exact ⟨0, x0, t, rfl, rfl, rfl, by simp, L0.out, HO.out, HT.out⟩
        case round =>
          obtain ⟨j, y, t, rfl, rfl, rfl, hy, hls, ho, ht⟩ := hrel
          clear x1 x2 x3 x4 x5
          obtain ⟨x1, x2, x3, x4, x5⟩ := ho.all
          have yl : (y : Int) < 10000 := by have : y ≤ x0 := by rw [hy]; exact Nat.div_le_self _ _
                                            omega
          have HY := Lib.hid hy
          have HLS := Lib.hid hls
          have HO := Lib.hid ho
          have HT := Lib.hid ht
          have hj4 := hls.k4
          have htl : t.length ≤ 20004 := by rw [hls.t, lowDigits_length]; have := hls.at_; omega
          have htl2 : (t.length : Int) ≤ 20004 := by omega
          have cv := one_string wr (e := 48 + (y : Int) % 10) (c := dig1 y) (by rw [dig1_nat]; omega)
          have HT2 := Lib.hid (HT.out.alloc (.cells #[.int .u8 (48 + (y : Int) % 10)] 5))
          have HO2 := Lib.hid (HO.out.alloc (.cells #[.int .u8 (48 + (y : Int) % 10)] 5))
          clear hy hls ho ht
          by_cases hgo : j < 4 ∧ (k + 1 < l.length ∨ 0 < y)
          · obtain ⟨hj, hgo⟩ := hgo
            have tj : decide ((j : Int) < 4) = true := by simp; omega
            by_cases hkl : k + 1 < l.length
            · have tk : decide ((k : Int) < (l.length : Int) - 1) = true := by simp; omega
              have hn := HLS.out.next G1.out hj (by rw [← HEX.out, ← HY.out]; exact hgo)
              rw [← HEX.out, ← HY.out] at hn
              have HN := Lib.hid hn
              clear hn
              go_wp2_with fail
              go_roundw
              case rel => exact ⟨j + 1, y / 10, dig1 y :: t, str_cons _ _, by congr 1, by go_num, by rw [HY.out, Nat.div_div_eq_div_mul, ← Nat.pow_succ], HN.out, HO2.out, HT2.out⟩
              case measure => simp [intOf]; omega
            · have tk : decide ((k : Int) < (l.length : Int) - 1) = false := by simp; omega
              have ty : decide (0 < y) = true := by simp; omega
              have ty2 : decide ((0 : Int) < (y : Int)) = true := by simp; omega
              have hn := HLS.out.next G1.out hj (by rw [← HEX.out, ← HY.out]; exact hgo)
              rw [← HEX.out, ← HY.out] at hn
              have HN := Lib.hid hn
              clear hn
              go_wp2_with fail
              go_roundw
              case rel => exact ⟨j + 1, y / 10, dig1 y :: t, str_cons _ _, by congr 1, by go_num, by rw [HY.out, Nat.div_div_eq_div_mul, ← Nat.pow_succ], HN.out, HO2.out, HT2.out⟩
              case measure => simp [intOf]; omega
          · have hend : j = 4 ∨ (k + 1 = l.length ∧ y = 0) := by have := HLS.out.at_; omega
            have HE := Lib.hid (HLS.out.done G1.out G2.out (by rw [← HEX.out, ← HY.out]; exact hend))
            have hcase : (decide ((j : Int) < 4) = false) ∨ (decide ((j : Int) < 4) = true ∧ decide ((k : Int) < (l.length : Int) - 1) = false ∧ decide (0 < y) = false ∧ decide ((0 : Int) < (y : Int)) = false) := by
              by_cases c : j < 4
              · right; refine ⟨by simp; omega, by simp; omega, by simp; omega, by simp; omega⟩
              · left; simp; omega
            clear hgo hend
            rcases hcase with tj | ⟨tj, tk, ty, ty2⟩
            all_goals
              go_wp2_with fail
              go_roundw
              case rel => exact ⟨k + 1, t, rfl, by go_num, hi, HE.out, HO.out, HT.out⟩
              case measure => simp [intOf]; omega
      · have ti : decide (k < l.length) = false := by simp; omega
        have htt : t = natText (bval l) := by
          rcases HLT.out with ⟨c, -⟩ | ⟨-, c⟩
          · omega
          · exact c
        have htl : t.length ≤ 20004 := by
          rw [htt, natText_length]
          have hlt := bval_lt G1.out
          have h4 : 10000 ^ l.length = 10 ^ (4 * l.length) := pow4 _
          rw [h4] at hlt
          exact Nat.le_trans (dlen_lim hlt (by omega)) (by omega)
        have htl2 : (t.length : Int) ≤ 20004 := by omega
        have HTT := Lib.hid htt
        have HPOS := Lib.hid hpos
        clear hi htt hpos
        cases b1
        · go_wp2_with fail
          go_ret
          refine ⟨?_, HT.out⟩
          rw [hX.out, if_neg (by simp), List.nil_append, ← HTT.out]; rfl
        · go_wp2_with fail
          go_ret
          refine ⟨?_, HT.out⟩
          have hne : l ≠ [] := fun e => by have := HPOS.out; rw [e] at this; simp at this
          rw [hX.out, if_pos (by first | exact ⟨trivial, hne⟩ | exact ⟨rfl, hne⟩), ← HTT.out]
          exact congrArg Ending.returned (str_cons _ _)

theorem bigText_any {b1 : Bool} {s1 : Option Addr} {k1 c1 : Nat} {n : Int} {w : World} (h1 : BigR w b1 s1 k1 c1 n) (l1 : Lim n 5000) :
    Calls Tryz.prog 63 #[.agg #[.bool b1, .slice s1 k1 c1]] w fun e w' => e = .returned (.string ⟨(intText n).toArray⟩) ∧ Only w w' := by
  obtain ⟨rfl, l, r1, g1⟩ := h1
  obtain ⟨sp1, cap1, e1, -, -, -⟩ := r1.form
  simp only [Value.slice.injEq] at e1
  obtain ⟨-, rfl, -⟩ := e1
  have h := bigText_walk (b1 := decide (n < 0)) (Lib.hid rfl) r1 g1.dg g1.top (g1.len l1)
  rw [g1.eq] at h
  have e : (if decide (n < 0) = true ∧ l ≠ [] then ([45] : List UInt8) else []) = if n < 0 then [45] else [] := by
    by_cases c : n < 0
    · rw [if_pos c, if_pos ⟨by simpa using c, fun e => by have := g1.eq; rw [e] at this; simp [bval] at this; omega⟩]
    · rw [if_neg c, if_neg (fun h => c (by simpa using h.1))]
  rw [e] at h
  exact h
end Go.Proofs.YtopklnaahdjafaaGreatDoor
