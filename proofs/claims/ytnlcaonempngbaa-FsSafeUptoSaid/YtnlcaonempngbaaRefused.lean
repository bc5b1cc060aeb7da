/-
  FsRefused: the walk.
-/
import Derived.Test.YtnlcaonempngbaaCopy2
namespace Go.Proofs.Ytnlcaonempngbaa
open Go.RowKit Go.Maps Go.WideMaps Go.Sort

namespace Fsp
theorem stepped_armed {S : Fs} (h : S.armed = 1) : (stepped S).L = S.L ∧ (stepped S).steps = S.steps := by simp [stepped, h]
theorem create_refused {S : Fs} {n : List UInt8} (h : (create S n).2 ≠ 0) : (create S n).1.L = S.L ∧ (create S n).1.steps = S.steps := by
  unfold create at h ⊢
  split
  · exact ⟨rfl, rfl⟩
  · split
    · exact ⟨rfl, rfl⟩
    · repeat (first | exact ⟨rfl, rfl⟩ | (apply stepped_armed; assumption) | (simp_all; done) | split)
theorem append_refused {S : Fs} {n b : List UInt8} (h : (append S n b).2 ≠ 0) : (append S n b).1.L = S.L ∧ (append S n b).1.steps = S.steps := by
  unfold append at h ⊢
  repeat (first | exact ⟨rfl, rfl⟩ | (apply stepped_armed; assumption) | (simp_all; done) | split)
theorem sync_refused {S : Fs} {n : List UInt8} (h : (sync S n).2 ≠ 0) : (sync S n).1.L = S.L ∧ (sync S n).1.steps = S.steps := by
  unfold sync at h ⊢
  repeat (first | exact ⟨rfl, rfl⟩ | (apply stepped_armed; assumption) | (simp_all; done) | split)
theorem truncate_refused {S : Fs} {n : List UInt8} {k : Int} (h : (truncate S n k).2 ≠ 0) : (truncate S n k).1.L = S.L ∧ (truncate S n k).1.steps = S.steps := by
  unfold truncate at h ⊢
  repeat (first | exact ⟨rfl, rfl⟩ | (apply stepped_armed; assumption) | (simp_all; done) | split)
theorem rename_refused {S : Fs} {a b : List UInt8} (h : (rename S a b).2 ≠ 0) : (rename S a b).1.L = S.L ∧ (rename S a b).1.steps = S.steps := by
  unfold rename at h ⊢
  split
  · exact ⟨rfl, rfl⟩
  · rename_i hd
    rw [if_neg hd] at h
    cases hf : find S.L a with
    | none => exact ⟨rfl, rfl⟩
    | some f =>
      rw [hf] at h
      simp only at h ⊢
      by_cases hv : valid b = false
      · rw [if_pos hv]; exact ⟨rfl, rfl⟩
      · rw [if_neg hv] at h ⊢
        by_cases ha : S.armed = 1
        · rw [if_pos ha]; exact stepped_armed ha
        · rw [if_neg ha] at h
          split at h <;> exact absurd rfl h
theorem remove_refused {S : Fs} {n : List UInt8} (h : (remove S n).2 ≠ 0) : (remove S n).1.L = S.L ∧ (remove S n).1.steps = S.steps := by
  unfold remove at h ⊢
  repeat (first | exact ⟨rfl, rfl⟩ | (apply stepped_armed; assumption) | (simp_all; done) | split)
end Fsp

theorem told_refused {S S' : Fsp.Fs} {o : OpD} {n : Nat} (h : toldS S o = (S', n)) (hn : n ≠ 0) : S'.L = S.L ∧ S'.steps = S.steps := by
  unfold toldS at h
  have e1 : ∀ {x : Fsp.Fs × Nat}, x = (S', n) → x.1 = S' ∧ x.2 = n := fun h => by rw [h]; exact ⟨rfl, rfl⟩
  repeat' split at h
  all_goals (obtain ⟨rfl, rfl⟩ := e1 h)
  · exact Fsp.create_refused hn
  · exact Fsp.append_refused hn
  · exact Fsp.sync_refused hn
  · exact Fsp.truncate_refused hn
  · exact Fsp.rename_refused hn
  · exact Fsp.remove_refused hn
  · exact absurd rfl hn
  · exact absurd rfl hn
  · exact absurd rfl hn

section
variable {w w' : World} {p : Nat} {S : Fsp.Fs} {c : Bool} {Q : Nat → Prop} {mo : Option Nat} {pl : List UInt8 → Pl}

set_option maxRecDepth 100000 in
set_option maxHeartbeats 4000000 in
theorem refused_walk (size : Int) {v : Value} {ops : List OpD} (h : OpsAt w v ops) :
    Calls Try.prog 5 #[.int .i64 size, v] w fun r w' => r = .returned (.bool true) ∧ Turn (fun _ => False) w w' := by
  have HO := Lib.hid h
  clear h
  go_enter Try.func5, Try.ntmps5
  go_wp2_with fail
  go_at_call 11
  refine (first_any _).mono ?_
  rintro r w2 ⟨rfl, t2⟩
  go_wp2_with fail
  go_at_call 12
  refine (few_any (HO.out.turned t2)).mono ?_
  rintro r w3 ⟨b, rfl, hfew, l3⟩
  have t3 := t2.trans l3.turn (fun _ _ q => q)
  have T3 := Lib.hid t3
  clear t2 t3 l3
  cases b with
  | false =>
    clear hfew
    go_wp2
    go_ret
    exact ⟨rfl, T3.out⟩
  | true =>
    have hlen := hfew rfl
    clear hfew
    go_wp2_with fail
    go_at_call 27
    refine (new_any size _).mono ?_
    rintro r w4 ⟨rfl, hr4, ht4⟩
    have hs4 : Since w3 w3.heap.size (madeS (Fsp.new size) []) w4 := ⟨hr4, ht4⟩
    have H4 := Lib.hid hs4
    clear hr4 hs4 ht4
    have hO3 := HO.out.turned T3.out
    obtain ⟨sp, cap, rfl, hm, hops⟩ := hO3
    have HP := Lib.hid hops
    clear hops hm HO
    go_wp2_with fail
    go_loopw [8] (fun i wr => ∃ j : Nat, j ≤ ops.length ∧ i = .int .i64 j ∧ Since w3 w3.heap.size (madeS (Fsp.new size) (ops.take j)) wr) (fun i _ => ops.length - (intOf i).toNat)
    case atStart => exact ⟨0, Nat.zero_le _, rfl, by simpa using H4.out⟩
    case round =>
      obtain ⟨j, hj, rfl, hs⟩ := hrel
      have HS := Lib.hid hs
      clear hs
      by_cases hlt : j < ops.length
      · have hst0 := steps_made (Fsp.new size) (ops.take j)
        rw [List.length_take] at hst0
        have hst : StepsOk (madeS (Fsp.new size) (ops.take j)) := by have : (Fsp.new size).steps = 0 := rfl; unfold StepsOk; omega
        have hnext : ∀ o, ops[j]? = some o → madeS (Fsp.new size) (ops.take (j + 1)) = (toldS (madeS (Fsp.new size) (ops.take j)) o).1 := fun o ho => by
          rw [List.take_add_one, ho]; simp [madeS, List.foldl_append]
        have HNX := Lib.hid hnext
        have HST := Lib.hid hst
        clear hst0 hst hnext
        generalize madeS (Fsp.new size) (ops.take j) = S0 at HS HNX HST
        obtain ⟨⟨a, hsp, hat⟩, hok⟩ := HP.out j _ (List.getElem?_eq_getElem hlt)
        subst hsp
        obtain ⟨o, ho⟩ : ∃ o, o = ops[j] := ⟨_, rfl⟩
        rw [← ho] at hat hok
        have hoj : ops[j]? = some o := by rw [ho]; exact List.getElem?_eq_getElem hlt
        have HOJ := Lib.hid hoj
        have HAT := Lib.hid hat
        have HOK := Lib.hid hok
        clear ho hoj hat hok
        obtain ⟨⟨mo, pl, hr⟩, ht⟩ := HS.out
        have i0 : (0 : Int) ≤ (j : Int) := by omega
        have i1 : (j : Int) < (ops.length : Int) := by omega
        have HT := Lib.hid ht
        clear ht
        go_wp2_with fail
        go_at_call 24
        refine (copy_any hr).mono ?_
        rintro r w5 ⟨rfl, ⟨mo2, pl2, hr2⟩, t5⟩
        have hr5 := hr.turned t5 (fun _ _ q => q)
        have T5 := Lib.hid t5
        have t35 := HT.out.trans t5 (fun _ _ q => q)
        have T35 := Lib.hid t35
        have hat5 := HAT.out.turned t35
        have hok5 := HOK.out.turned t35
        have c0 := hat5.c0
        have c1 := hat5.c1
        have c2 := hat5.c2
        have c3 := hat5.c3
        have c4 := hat5.c4
        have HK5 := Lib.hid hok5
        have HR2 := Lib.hid hr2
        clear hr t5 t35 hat5 hok5 hr2
        go_wp2_with fail
        obtain ⟨S', n, hS'⟩ : ∃ S' n, toldS S0 o = (S', n) := ⟨_, _, rfl⟩
        have hnext := HNX.out o HOJ.out
        refine (told_any hr5 HST.out o HK5.out (HOK.out.slice.out (Nat.le_refl _) (fun i hi => hi.1))).mono ?_
        rintro r w6 ⟨rfl, ⟨mo6, pl6, hr6⟩, t6⟩
        rw [hS'] at hr6 hnext ⊢
        simp only at hr6 hnext ⊢
        have hz5 := T5.out.size
        have hz6 := t6.size
        have hgood := hr6.good
        have hru : ((Fsp.usedOf S'.L : Nat) : Int) ≤ ((S'.room : Nat) : Int) := by have := hgood.2.1; omega
        have hrm : ((S'.room : Nat) : Int) ≤ 67108864 := by have := hgood.2.2.1; omega
        have hs6 : Since w3 w3.heap.size S' w6 := ⟨⟨_, _, hr6.mono (fun b hb => by rcases hb with hb | hb <;> (have := HT.out.size; omega)) (fun b hb => hb.2)⟩, T35.out.trans t6 (fun i hi q => by omega)⟩
        rw [← hnext] at hs6
        have H6 := Lib.hid hs6
        have HE := Lib.hid hS'
        have G6 := Lib.hid (HR2.out.turned t6 (fun b hb q => by omega))
        clear hgood hs6 hS' t6 hnext c0 c1 c2 c3 c4 HR2
        by_cases hn : n = 0
        · subst hn
          go_wp2_with (first | (go_at_call 36; refine (used_is hr6).mono ?_; rintro r w' ⟨rfl, rfl⟩) | (go_at_call 37; refine (room_is hr6).mono ?_; rintro r w' ⟨rfl, rfl⟩))
          go_roundw
          case rel => exact ⟨j + 1, by omega, by go_num, H6.out⟩
          case measure => simp [intOf]; omega
        · obtain ⟨hl, hsteps⟩ := told_refused HE.out hn
          have bn : ((n : Int) != 0) = true := by rw [bne_iff_ne]; omega
          have hal := alike_self hr6 G6.out hl
          have HS6 := Lib.hid hr6
          have HSE := Lib.hid hsteps
          clear hsteps hl hn hr6
          go_wp2_with fail
          go_at_call 26
          refine hal.mono ?_
          rintro r w7 ⟨rfl, t7⟩
          have hr7 := HS6.out.turned t7 (fun _ _ q => q)
          have hg7 := G6.out.turned t7 (fun _ _ q => q)
          have H7 := Lib.hid (H6.out.look t7)
          have hsf := steps_is hr7
          rw [HSE.out] at hsf
          have hsg := steps_is hg7
          have huf := used_is hr7
          have hrf := room_is hr7
          have bs : (((S0.steps : Nat) : Int) != ((S0.steps : Nat) : Int)) = false := by simp
          clear hal t7
          go_wp2_with (first | (go_at_call 35; (first | refine hsf.mono ?_ | refine hsg.mono ?_); rintro r w' ⟨rfl, rfl⟩) | (go_at_call 36; refine huf.mono ?_; rintro r w' ⟨rfl, rfl⟩) | (go_at_call 37; refine hrf.mono ?_; rintro r w' ⟨rfl, rfl⟩))
          go_roundw
          case rel => exact ⟨j + 1, by omega, by go_num, H7.out⟩
          case measure => simp [intOf]; omega
      · have hj0 : j = ops.length := by omega
        subst hj0
        go_wp2
        go_ret
        exact ⟨rfl, T3.out.trans HS.out.2 (fun _ _ q => q)⟩

end
end Go.Proofs.Ytnlcaonempngbaa
