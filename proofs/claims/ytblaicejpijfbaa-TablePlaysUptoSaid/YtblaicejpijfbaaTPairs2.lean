/-
  Pairs by rising keys, as the laws keep them: find, drop.
-/
import Derived.Test.YtblaicejpijfbaaTPairs
namespace Go.Proofs.Ytblaicejpijfbaa
open Go.RowKit Go.Maps Go.WideMaps Go.Proofs.Ytblaicejpijfbaa.Tb

section
variable {w w' : World}

theorem dropL_snoc (l : List Pr3) (p : Pr3) (k : List UInt8) : dropL (l ++ [p]) k = dropL l k ++ (if p.1 = k then [] else [p]) := by
  rw [dropL_append]
  by_cases h : p.1 = k
  · rw [if_pos h, dropL_cons_eq h]; rfl
  · rw [if_neg h, dropL_cons_ne h]; rfl

theorem dropL_len (l : List Pr3) (k : List UInt8) : (dropL l k).length ≤ l.length := List.length_filter_le _ _

set_option maxRecDepth 100000 in
set_option maxHeartbeats 2000000 in
/-- find, as the law has it -/
theorem lfind_any {va : Value} {l : List Pr3} (h : PairsR w va l) (hl : l.length ≤ 1000000) (k : List UInt8) :
    Calls Try.prog 10 #[va, .string ⟨k.toArray⟩] w fun r w' => r = .returned (.tuple #[.int .i64 ((findL l k).getD 0), .bool (findL l k).isSome]) ∧ Like w w' := by
  obtain ⟨sp, cap, rfl, hc⟩ := h
  have HC := Lib.hid hc
  clear hc
  go_enter Try.func10, Try.ntmps10
  go_wp2_with fail
  go_loopw [4, 5, 6] (fun v4 v5 i wr => ∃ j : Nat, j ≤ l.length ∧ v4 = .int .i64 0 ∧ v5 = .bool false ∧ i = .int .i64 j ∧ (∀ y ∈ l.take j, y.1 ≠ k) ∧ w = wr) (fun _ _ i _ => l.length - (intOf i).toNat)
  case atStart => exact ⟨0, Nat.zero_le _, rfl, rfl, rfl, fun y hy => by simp at hy, rfl⟩
  case round =>
    obtain ⟨j, hj, rfl, rfl, rfl, hall, rfl⟩ := hrel
    by_cases hlt : j < l.length
    · obtain ⟨b, o, e1, x1⟩ := HC.out (by omega)
      subst e1
      obtain ⟨p, hp⟩ : ∃ p, l[j] = p := ⟨_, rfl⟩
      have hpj : l[j]? = some p := by rw [List.getElem?_eq_getElem hlt, hp]
      obtain ⟨c0, c1⟩ := x1 j p hpj
      have i2 : (0 : Int) ≤ (j : Int) := by omega
      have i3 : (j : Int) < (l.length : Int) := by omega
      have e1 := eq_str3 p.1 k
      have hsplit : l = l.take j ++ p :: l.drop (j + 1) := by
        rw [← hp, ← List.drop_eq_getElem_cons hlt, List.take_append_drop]
      have HALL := Lib.hid hall
      have HS := Lib.hid hsplit
      have HP := Lib.hid hp
      clear x1 hall hsplit hp hpj
      by_cases hk : p.1 = k
      · rw [decide_eq_true hk] at e1
        have hf : findL l k = some p.2 := by
          rw [HS.out, findL_append, findL_none HALL.out, findL_cons_eq hk]; rfl
        have HF := Lib.hid hf
        clear hf hk
        go_wp2
        go_ret2
        rw [HF.out]
        exact ⟨rfl, Like.refl _⟩
      · rw [decide_eq_false hk] at e1
        have hnext : ∀ y ∈ l.take (j + 1), y.1 ≠ k := by
          intro y hy
          rw [List.take_succ_eq_append_getElem hlt, List.mem_append] at hy
          rcases hy with hy | hy
          · exact HALL.out y hy
          · rw [HP.out, List.mem_singleton] at hy; rw [hy]; exact hk
        have HN := Lib.hid hnext
        clear hnext hk
        go_wp2
        go_roundw
        case rel => exact ⟨j + 1, by omega, rfl, rfl, by go_num, HN.out, trivial⟩
        case measure => simp [intOf]; omega
    · have hj0 : j = l.length := by omega
      subst hj0
      rw [List.take_length] at hall
      have HF := Lib.hid (findL_none hall)
      clear hall hlt hj
      go_wp2
      go_ret2
      rw [HF.out]
      exact ⟨rfl, Like.refl _⟩

set_option maxRecDepth 100000 in
set_option maxHeartbeats 4000000 in
/-- drop, as the law has it -/
theorem ldrop_any {va : Value} {l : List Pr3} (h : PairsR w va l) (hl : l.length ≤ 1000) (k : List UInt8) :
    Calls Try.prog 12 #[va, .string ⟨k.toArray⟩] w fun r w' => ∃ v', r = .returned v' ∧ w'.ownsRow w.heap.size 49 2 v' (dropL l k).length (flat3 (dropL l k)) ∧ Turn (fun _ => False) w w' := by
  obtain ⟨sp, cap, rfl, hc⟩ := h
  have HC := Lib.hid hc
  obtain ⟨i0, hi, hz0, hz1, hz2⟩ := info_parts infoPair
  clear hc
  go_enter Try.func12, Try.ntmps12
  go_wp2_with fail
  go_loopw [5, 6] (fun vo i wr => ∃ (j : Nat) (acc : List Pr3), j ≤ l.length ∧ i = .int .i64 j ∧ dropL (l.take j) k = acc ∧ wr.ownsRow w.heap.size 49 2 vo acc.length (flat3 acc) ∧ Turn (fun _ => False) w wr) (fun _ i _ => l.length - (intOf i).toNat)
  case atStart => exact ⟨0, [], Nat.zero_le _, rfl, rfl, World.ownsRow_nil _ _ _ _, Turn.refl _ _⟩
  case round =>
    obtain ⟨j, acc, hj, rfl, hst, hown, ht⟩ := hrel
    have HT := Lib.hid ht
    have HOWN := Lib.hid hown
    by_cases hlt : j < l.length
    · obtain ⟨b, o, e1, x1⟩ := HC.out (by omega)
      subst e1
      obtain ⟨cw0, cw1⟩ := x1 j l[j] (List.getElem?_eq_getElem hlt)
      have hlen := dropL_len (l.take j) k
      have hnext := dropL_snoc (l.take j) l[j] k
      rw [← List.take_succ_eq_append_getElem hlt] at hnext
      rw [hst] at hlen hnext
      rw [List.length_take] at hlen
      have HST := Lib.hid hnext
      have hl2 : acc.length ≤ 2000 := by omega
      have i2 : (0 : Int) ≤ (j : Int) := by omega
      have i3 : (j : Int) < (l.length : Int) := by omega
      obtain ⟨⟨pk, pv⟩, hp⟩ : ∃ p, l[j] = p := ⟨_, rfl⟩
      rw [hp] at cw0 cw1
      have HP := Lib.hid hp
      have c0 := turn_cell ht cw0
      have c1 := turn_cell ht cw1
      clear x1 hst hown ht hlen hnext hp cw0 cw1
      by_cases hk : pk = k
      · have e1 : (pk == k) = true := by simp [hk]
        go_wp2_with fail
        go_roundw
        case rel =>
          refine ⟨j + 1, acc, by omega, by go_num, ?_, HOWN.out, HT.out⟩
          have h := HST.out
          rw [HP.out, if_pos hk, List.append_nil] at h
          exact h
        case measure => simp [intOf]; omega
      · have e1 : (pk == k) = false := by simp [hk]
        go_wp2_with (at_builtin; refine wpList_append_own _ rfl _ _ 27 rfl w.heap.size 49 i0 (.agg #[.string ⟨#[]⟩, .int .i64 0]) 2 24 undPairs hi hz0 hz1 hz2 rfl (by decide) _ _ _ rfl (HOWN.out.alloc _) ⟨wr.heap.size, 0, none⟩ 1 1 [.string ⟨pk.toArray⟩, .int .i64 pv] rfl rfl (pair_new _ _ _ _) (by simp [Value.oneCell']) (by unfold maxLen; omega) (by omega) (by have := HT.out.size; simp; omega) ?_; intro v' w2 hown' hg' hnil'; have t2 : Turn (fun _ => False) w w2 := (HT.out.alloc _).grown hg' (fun j hj => Or.inr (own_block HOWN.out hj).1); have HT2 := Lib.hid t2; have HOWN2 := Lib.hid hown'; clear hown' hg' hnil' t2; go_frame)
        go_roundw
        case rel =>
          refine ⟨j + 1, acc ++ [(pk, pv)], by omega, by go_num, ?_, ?_, HT2.out⟩
          · have h := HST.out
            rw [HP.out, if_neg hk] at h
            exact h
          · have h := HOWN2.out
            rw [flat3_append]
            simp only [List.length_append, List.length_cons, List.length_nil]
            exact h
        case measure => simp [intOf]; omega
    · have hj0 : j = l.length := by omega
      subst hj0
      rw [List.take_length] at hst
      have HST := Lib.hid hst
      clear hlt hj hst hown ht
      go_wp2
      go_ret
      rw [HST.out]
      exact ⟨_, rfl, HOWN.out, HT.out⟩
end
end Go.Proofs.Ytblaicejpijfbaa
