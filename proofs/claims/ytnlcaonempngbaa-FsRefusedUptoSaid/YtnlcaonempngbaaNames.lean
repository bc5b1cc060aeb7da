/-
  FsNames: the walk.
-/
import Derived.Test.YtnlcaonempngbaaTexts
import Derived.Test.YtnlcaonempngbaaTrunc
import Derived.Deep.QuietTactic
import Derived.BigQuiet
import Derived.IntWalk
namespace Go.Proofs.Ytnlcaonempngbaa
open Go.RowKit Go.Maps Go.WideMaps Go.Sort

namespace Fsp
theorem used_take {L : List (List UInt8 × File)} {k : Nat} {x : List UInt8 × File} (h : L[k]? = some x) : usedOf (L.take (k + 1)) = usedOf (L.take k) + x.2.data.length := by
  induction L generalizing k with
  | nil => simp at h
  | cons y r ih =>
    cases k with
    | zero => simp at h; subst h; simp [usedOf]
    | succ j =>
      simp only [List.getElem?_cons_succ] at h
      simp only [List.take_succ_cons, usedOf, ih h]
      omega
theorem used_take_le (L : List (List UInt8 × File)) (k : Nat) : usedOf (L.take k) ≤ usedOf L := by
  induction L generalizing k with
  | nil => simp [usedOf]
  | cons y r ih =>
    cases k with
    | zero => simp [usedOf]
    | succ j => simp only [List.take_succ_cons, usedOf]; have := ih j; omega
theorem names_take_len (L : List (List UInt8 × File)) (f : List UInt8) (k : Nat) : (((L.map (·.1)).take k).filter fun n => f.isPrefixOf n).length ≤ L.length := by
  have h1 := List.length_filter_le (fun n => f.isPrefixOf n) ((L.map (·.1)).take k)
  simp at h1 ⊢
  omega
end Fsp

theorem less_of : ∀ {x y : List UInt8}, x < y → Op.bytesLess x y = true
  | _, [], h => absurd h (List.not_lt_nil _)
  | [], _ :: _, _ => by simp [Op.bytesLess]
  | a :: x, b :: y, h => by
    rw [List.cons_lt_cons_iff] at h
    rcases h with h | ⟨rfl, h⟩
    · simp [Op.bytesLess, h]
    · simp [Op.bytesLess, less_of h]

theorem sorted_less {L : List (List UInt8 × Fsp.File)} (hs : Fsp.Sorted L) {j k : Nat} {x y : List UInt8 × Fsp.File} (hj : L[j]? = some y) (hk : L[k]? = some x) (h : j < k) : Op.bytesLess y.1 x.1 = true := by
  obtain ⟨h1, e1⟩ := List.getElem?_eq_some_iff.1 hj
  obtain ⟨h2, e2⟩ := List.getElem?_eq_some_iff.1 hk
  have := List.pairwise_iff_getElem.1 hs j k h1 h2 h
  rw [e1, e2] at this
  exact less_of this

theorem take_filter {N : List (List UInt8)} {k : Nat} {x : List UInt8} (h : N[k]? = some x) (f : List UInt8 → Bool) : (N.take (k + 1)).filter f = (N.take k).filter f ++ (if f x then [x] else []) := by
  rw [List.take_add_one, h, List.filter_append]
  congr 1
  simp [List.filter_cons]

section
variable {w w' : World} {p : Nat} {S S' : Fsp.Fs} {c c' : Bool} {Q : Nat → Prop} {mo : Option Nat} {pl : List UInt8 → Pl}

theorem begins_is (x : List UInt8) (s : ByteArray) (b : Bool) (hb : s.data.toList.isPrefixOf x = b) (w : World) : Calls Try.prog 31 #[.string ⟨x.toArray⟩, .string s] w fun r w' => r = .returned (.bool b) ∧ w = w' := by
  have h := begins_any ⟨x.toArray⟩ s w
  have e : (⟨x.toArray⟩ : ByteArray).data.toList = x := rfl
  rw [e, hb] at h
  exact h

theorem size_is (h : RepX w p S c Q mo pl) (x : List UInt8) {f : Fsp.File} (hf : Fsp.find S.L x = some f) :
    Calls Try.prog 44 #[.pointer (some ⟨p, 0, none⟩), .string ⟨x.toArray⟩] w fun r w' => r = .returned (.tuple #[.int .i64 (f.data.length : Nat), .int .i64 0]) ∧ w = w' := by
  have hv := Fsp.valid_len (h.good.2.2.2.2.2 x f hf).1
  exact size_some h ⟨x.toArray⟩ (by rw [Lib.size_eq]; show x.length ≤ maxLen; unfold maxLen; omega) hf

theorem valid_is (h : RepX w p S c Q mo pl) (x : List UInt8) {f : Fsp.File} (hf : Fsp.find S.L x = some f) (w : World) :
    Calls Try.prog 40 #[.string ⟨x.toArray⟩] w fun r w' => r = .returned (.bool true) ∧ w = w' := by
  have hv := (h.good.2.2.2.2.2 x f hf).1
  have hl := Fsp.valid_len hv
  have := valid_any ⟨x.toArray⟩ (by rw [Lib.size_eq]; show x.length ≤ maxLen; unfold maxLen; omega) w
  have e : (⟨x.toArray⟩ : ByteArray).data.toList = x := rfl
  rw [e, hv] at this
  exact this

set_option maxRecDepth 100000 in
set_option maxHeartbeats 2000000 in
theorem names_walk (size : Int) {v : Value} {ops : List OpD} (h : OpsAt w v ops) (s : ByteArray) :
    Calls Try.prog 10 #[.int .i64 size, v, .string s] w fun r w' => r = .returned (.bool true) ∧ Turn (fun _ => False) w w' := by
  obtain ⟨i0, hi, hz0, hz1, hz2⟩ := info_parts infoString
  have HO := Lib.hid h
  clear h
  go_enter Try.func10, Try.ntmps10
  go_wp2_with fail
  go_at_call 11
  refine (first_any _).mono ?_
  rintro r w2 ⟨rfl, t2⟩
  go_wp2_with fail
  go_at_call 12
  refine (few_any (HO.out.turned t2)).mono ?_
  rintro r w3 ⟨b, rfl, hfew, l3⟩
  have t3 := t2.trans l3.turn (fun _ _ q => q)
  have T3 := Lib.hid t3
  clear t2 t3 l3
  cases b with
  | false =>
    clear hfew
    go_wp2
    go_ret
    exact ⟨rfl, T3.out⟩
  | true =>
    by_cases hs : s.size ≤ 20000
    · have hlen := hfew rfl
      clear hfew
      have hs' : (s.size : Int) ≤ 20000 := by omega
      go_wp2_with fail
      go_at_call 13
      refine (made_any size (HO.out.turned T3.out) hlen).mono ?_
      rintro r w4 ⟨rfl, q4⟩
      generalize madeS (Fsp.new size) ops = S at q4
      obtain ⟨⟨mo, pl, hr⟩, t4⟩ := q4
      have T4 := Lib.hid (T3.out.trans t4 (fun _ _ q => q))
      clear t4 HO hlen
      go_wp2_with fail
      go_at_call 33
      refine (names_any hr ⟨#[]⟩).mono ?_
      rintro r w5 ⟨va, rfl, hall, t5⟩
      have hr5 := hr.turned t5 (fun _ _ q => q)
      have e0 : (⟨#[]⟩ : ByteArray).data.toList = [] := rfl
      rw [e0, Fsp.names_all] at hall
      have htx := TextsR.of_own hall
      have HX := Lib.hid htx
      have T5 := Lib.hid (T4.out.trans t5 (fun _ _ q => q))
      have hL4 := hr5.good.2.2.2.1
      have hus := hr5.good.2.1
      have hrm := hr5.good.2.2.1
      have HR := Lib.hid hr5
      clear hr5 hr hall htx t5 T4 T3 e0
      obtain ⟨sp, cap, rfl, hcell⟩ := HX.out
      have hNl : (S.L.map (·.1)).length = S.L.length := by simp
      rw [hNl] at hcell ⊢
      have HC := Lib.hid hcell
      have HNL := Lib.hid hNl
      clear hcell hNl
      go_wp2_with fail
      go_loopw [11, 12, 13] (fun v m i wr => ∃ k : Nat, k ≤ S.L.length ∧ i = .int .i64 k ∧ m = .int .i64 (Fsp.usedOf (S.L.take k) : Nat) ∧
          wr.ownsRow w5.heap.size 9 1 v (((S.L.map (·.1)).take k).filter fun n => s.data.toList.isPrefixOf n).length ((((S.L.map (·.1)).take k).filter fun n => s.data.toList.isPrefixOf n).map encStr) ∧ Turn (fun _ => False) w5 wr)
        (fun _ _ i _ => S.L.length - (intOf i).toNat)
      case atStart => exact ⟨0, Nat.zero_le _, rfl, rfl, World.ownsRow_nil _ _ _ _, Turn.refl _ _⟩
      case round =>
        obtain ⟨k, hk, rfl, rfl, hrow, ht⟩ := hrel
        have HRW := Lib.hid hrow
        have HT := Lib.hid ht
        clear hrow ht
        by_cases hlt : k < S.L.length
        · obtain ⟨x, hx⟩ : ∃ x, S.L[k]? = some x := ⟨_, List.getElem?_eq_getElem hlt⟩
          obtain ⟨nm, f⟩ := x
          obtain ⟨ad, e1, x1⟩ := HC.out (by omega)
          subst e1
          have hf : Fsp.find S.L nm = some f := Fsp.mem_find HR.out.good.1 (List.mem_of_getElem? hx)
          have cx := turn_cell HT.out (x1 k nm (by rw [List.getElem?_map, hx]; rfl))
          have hr6 := HR.out.turned HT.out (fun _ _ q => q)
          have i0' : (0 : Int) ≤ (k : Int) := by omega
          have i1 : (k : Int) < (S.L.length : Int) := by omega
          have hut := Fsp.used_take hx
          have hul := Fsp.used_take_le S.L (k + 1)
          have HUT := Lib.hid hut
          have HF := Lib.hid hf
          have HXX := Lib.hid hx
          clear hut hf hx
          unfold encStr at cx
          go_wp2_with fail
          go_at_call 44
          refine (size_is hr6 nm HF.out).mono ?_
          rintro r w6 ⟨rfl, rfl⟩
          go_wp2_with fail
          rcases Nat.eq_zero_or_pos k with hk0 | hk0
          have i3 : decide (0 < k) = false := by rw [decide_eq_false_iff_not]; omega
          have HK0 := Lib.hid hk0
          clear hk0
          go_quiet ((first | (go_at_call 19; exact Calls.quiet_of_same ((num_any _ _).mono fun _ _ h => ⟨h.1, h.2.symm⟩)) | (go_at_call 40; exact Calls.quiet_of_same ((valid_is hr6 nm HF.out _).mono fun _ _ h => ⟨h.1, h.2.symm⟩))))
          rotate_left
          obtain ⟨j, hj⟩ : ∃ j, k = j + 1 := ⟨k - 1, by omega⟩
          obtain ⟨y, hy⟩ : ∃ y, S.L[j]? = some y := ⟨_, List.getElem?_eq_getElem (by omega)⟩
          have cy := turn_cell HT.out (x1 j y.1 (by rw [List.getElem?_map, hy]; rfl))
          unfold encStr at cy
          have i3 : decide (0 < k) = true := by rw [decide_eq_true_iff]; omega
          have i4 : (0 : Int) ≤ (j : Int) := by omega
          have i5 : (j : Int) < (S.L.length : Int) := by omega
          have i6 : IntKind.i64.wrap ((k : Int) - 1) = (j : Int) := by rw [IntWalk.i64_in _ (by omega)]; omega
          have HK0 := Lib.hid hj
          have hle := sorted_less HR.out.good.1 hy HXX.out (by omega)
          simp only at hle
          clear hk0 hj hy
          go_quiet ((first | (go_at_call 19; exact Calls.quiet_of_same ((num_any _ _).mono fun _ _ h => ⟨h.1, h.2.symm⟩)) | (go_at_call 40; exact Calls.quiet_of_same ((valid_is hr6 nm HF.out _).mono fun _ _ h => ⟨h.1, h.2.symm⟩))))
          all_goals
            have hrow' := ownsRow_turned HRW.out (like_drewN wr nq).turn (fun _ _ q => q)
            have hT' := HT.out.trans (like_drewN wr nq).turn (fun _ _ q => q)
            have hNk : (S.L.map (·.1))[k]? = some nm := by rw [List.getElem?_map, HXX.out]; rfl
            have hTF := take_filter hNk (fun n => s.data.toList.isPrefixOf n)
            have hfl := Fsp.names_take_len S.L s.data.toList k
            have hsz := hT'.size
            have hsum : ((Fsp.usedOf (S.L.take k) : Nat) : Int) + ((f.data.length : Nat) : Int) ≤ 67108864 := by have := HUT.out; omega
            have HRW' := Lib.hid hrow'
            have HT' := Lib.hid hT'
            have HTF := Lib.hid hTF
            have HFL := Lib.hid hfl
            have HSZ := Lib.hid hsz
            clear hrow' hT' hNk hTF hfl hsz
            cases hpf : s.data.toList.isPrefixOf nm with
            | false =>
              have HP := Lib.hid hpf
              clear hpf
              go_wp2_with (go_at_call 31; refine (begins_is nm s _ HP.out _).mono ?_; rintro r w' ⟨rfl, rfl⟩)
              go_roundw
              case rel =>
                refine ⟨k + 1, by omega, by go_num, ?_, ?_, HT'.out⟩
                · have e := HUT.out
                  rw [e]; go_num
                · rw [HTF.out, HP.out]; simpa using HRW'.out
              case measure => simp [intOf]; omega
            | true =>
              have HP := Lib.hid hpf
              clear hpf
              go_wp2_with (first | (go_at_call 31; refine (begins_is nm s _ HP.out _).mono ?_; rintro r w' ⟨rfl, rfl⟩) | (at_builtin; refine wpList_append_own _ rfl _ _ 47 rfl w5.heap.size 9 i0 (.string ⟨#[]⟩) 1 16 Try.underlying47 hi hz0 hz1 hz2 rfl (by decide) _ _ _ rfl (HRW'.out.alloc _) ⟨wr.heap.size, 0, none⟩ 1 1 [encStr nm] rfl rfl (cell_one_new _ _ _) (by simp [Value.oneCell', encStr]) (by have := HFL.out; unfold maxLen; omega) (by have := HFL.out; omega) (by have := HSZ.out; simp at this ⊢; omega) ?_; intro v' w7 hown' hg7 hnil7; go_frame))
              go_roundw
              case rel =>
                refine ⟨k + 1, by omega, by go_num, ?_, ?_, ?_⟩
                · have e := HUT.out
                  rw [e]; go_num
                · rw [HTF.out, HP.out]; simpa using hown'
                · exact (HT'.out.alloc _).grown hg7 (fun j hj => Or.inr (HRW'.out.lt j hj).1)
              case measure => simp [intOf]; omega
        · have hk0 : k = S.L.length := by omega
          subst hk0
          have hr6 := HR.out.turned HT.out (fun _ _ q => q)
          have hwant := HRW.out
          rw [List.take_length]
          have e1 : (S.L.map (·.1)).take S.L.length = S.L.map (·.1) := by rw [List.take_of_length_le]; simp
          rw [e1] at hwant
          have hw2 : TextsR wr _ (Fsp.names S s.data.toList) := TextsR.of_own hwant
          have HW2 := Lib.hid hw2
          have hnl : (Fsp.names S s.data.toList).length ≤ maxLen := by
            unfold Fsp.names maxLen
            have h1 := List.length_filter_le (fun n => s.data.toList.isPrefixOf n) (S.L.map (·.1))
            simp at h1 ⊢
            omega
          have HNL' := Lib.hid hnl
          have h400 : (S.L.length : Int) ≤ 400 := by omega
          have TT := Lib.hid (T5.out.trans HT.out (fun _ _ q => q))
          clear hwant hw2 hnl e1 HRW HNL
          go_wp2_with fail
          go_at_call 36
          refine (used_is hr6).mono ?_
          rintro r w' ⟨rfl, rfl⟩
          go_wp2_with fail
          go_at_call 33
          refine (names_any hr6 s).mono ?_
          rintro r w8 ⟨vb, rfl, hown8, t8⟩
          have ha := TextsR.of_own hown8
          have hb := HW2.out.turned t8
          have HA := Lib.hid ha
          have HB := Lib.hid hb
          have T8 := Lib.hid (TT.out.trans t8 (fun _ _ q => q))
          clear hown8 ha hb t8
          go_wp2_with fail
          go_at_call 32
          refine (sameTexts_self HA.out HB.out HNL'.out).mono ?_
          rintro r w9 ⟨rfl, l9⟩
          have T9 := Lib.hid (T8.out.trans l9.turn (fun _ _ q => q))
          clear l9
          go_wp2_with fail
          go_ret
          exact ⟨rfl, T9.out⟩
    · have hs' : (20000 : Int) < s.size := by omega
      clear hfew
      go_wp2
      go_ret
      exact ⟨rfl, T3.out⟩

end
end Go.Proofs.Ytnlcaonempngbaa
