/-
  FsArmed: the walk.
-/
import Derived.Test.YtnlcaonempngbaaApart
import Derived.Test.YtnlcaonempngbaaPlain5
namespace Go.Proofs.Ytnlcaonempngbaa
open Go.RowKit Go.Maps Go.WideMaps Go.Sort

section
variable {w w' : World} {p : Nat} {S : Fsp.Fs} {c : Bool} {Q : Nat → Prop} {mo : Option Nat} {pl : List UInt8 → Pl}

/-- both file systems, apart -/
structure Both (B : Nat) (pf pg : Nat) (N : Nat) (A : Fsp.Fs) (wr : World) : Prop where
  armed : A.armed = 0
  down : A.down = false
  less : A.steps < N
  reps : ∃ Qf Qg : Nat → Prop, (∀ b, Qf b → ¬ Qg b) ∧ (∀ b, Qf b → B ≤ b) ∧ (∀ b, Qg b → B ≤ b) ∧ Rep wr pf A Qf ∧ Rep wr pg (Fsp.withArm A (N - A.steps)) Qg

theorem Both.turned {B pf pg N : Nat} {A : Fsp.Fs} {w1 w2 : World} (h : Both B pf pg N A w1) (ht : Turn (fun _ => False) w1 w2) : Both B pf pg N A w2 := by
  obtain ⟨h1, h2, h3, Qf, Qg, h4, h5, h6, h7, h8⟩ := h
  exact ⟨h1, h2, h3, Qf, Qg, h4, h5, h6, h7.turned ht (fun _ _ q => q), h8.turned ht (fun _ _ q => q)⟩

theorem rem_bounds (n : Int) : ∃ N : Nat, 1 ≤ N ∧ N ≤ 20 ∧ Int.tmod n 20 % 20 + 1 = (N : Int) ∧ -20 < Int.tmod n 20 ∧ Int.tmod n 20 < 20 ∧ 0 ≤ Int.tmod (Int.tmod n 20 + 20) 20 ∧ Int.tmod (Int.tmod n 20 + 20) 20 < 20 := by
  have h1 := Int.lt_tmod_of_pos n (show (0 : Int) < 20 by decide)
  have h2 := Int.tmod_lt_of_pos n (show (0 : Int) < 20 by decide)
  have h3 := Int.tmod_nonneg (a := Int.tmod n 20 + 20) 20 (by omega)
  have h4 := Int.tmod_lt_of_pos (Int.tmod n 20 + 20) (show (0 : Int) < 20 by decide)
  exact ⟨(Int.tmod n 20 % 20 + 1).toNat, by omega, by omega, by omega, h1, h2, h3, h4⟩

/-- both have been told one more -/
theorem Both.told {B pf pg N : Nat} {A' G' : Fsp.Fs} {w1 w2 w3 : World} {Qf Qg : Nat → Prop} (ha : A'.armed = 0) (hd : A'.down = false) (hs : A'.steps < N) (hG : G' = Fsp.withArm A' (N - A'.steps))
    (hB : B ≤ w1.heap.size) (hdis : ∀ b, Qf b → ¬ Qg b) (hf0 : ∀ b, Qf b → B ≤ b) (hg0 : ∀ b, Qg b → B ≤ b) (hgl : ∀ b, Qg b → b < w1.heap.size) (hp1 : Post w1 pf A' Qf w2) (hp2 : Post w2 pg G' Qg w3) : Both B pf pg N A' w3 := by
  obtain ⟨⟨mo1, pl1, hr1⟩, t1⟩ := hp1
  obtain ⟨hr2, t2⟩ := hp2
  have z1 := t1.size
  have z2 := t2.size
  refine ⟨ha, hd, hs, Grow Qf w1 w2, Grow Qg w2 w3, fun b hb hq => ?_, fun b hb => ?_, fun b hb => ?_, ⟨mo1, pl1, hr1.turned t2 (fun b hb hq => ?_)⟩, by rw [← hG]; exact hr2⟩
  · have hb2 := hr1.lt b hb
    rcases hq with hq | hq
    · rcases hb with hb | hb
      · exact hdis b hb hq
      · have := hgl b hq; omega
    · omega
  · rcases hb with hb | hb
    · exact hf0 b hb
    · omega
  · rcases hb with hb | hb
    · exact hg0 b hb
    · omega
  · rcases hb with hb | hb
    · exact hdis b hb hq
    · have := hgl b hq; omega

set_option maxRecDepth 100000 in
set_option maxHeartbeats 4000000 in
theorem armed_walk (size n : Int) {v : Value} {ops : List OpD} (h : OpsAt w v ops) :
    Calls Try.prog 6 #[.int .i64 size, v, .int .i64 n] w fun r w' => r = .returned (.bool true) ∧ Turn (fun _ => False) w w' := by
  obtain ⟨N, hN1, hN2, hNe, n1, n2, n3, n4⟩ := rem_bounds n
  have HO := Lib.hid h
  clear h
  go_enter Try.func6, Try.ntmps6
  go_wp2_with fail
  go_at_call 11
  refine (first_any _).mono ?_
  rintro r w2 ⟨rfl, t2⟩
  go_wp2_with fail
  go_at_call 12
  refine (few_any (HO.out.turned t2)).mono ?_
  rintro r w3 ⟨b, rfl, hfew, l3⟩
  have t3 := t2.trans l3.turn (fun _ _ q => q)
  have T3 := Lib.hid t3
  clear t2 t3 l3
  cases b with
  | false =>
    clear hfew
    go_wp2
    go_ret
    exact ⟨rfl, T3.out⟩
  | true =>
    have hlen := hfew rfl
    clear hfew
    go_wp2_with fail
    go_at_call 27
    refine (new_any size _).mono ?_
    rintro r w4 ⟨rfl, ⟨mo4, pl4, hf4⟩, t4⟩
    have z3 := T3.out.size
    have z4 := t4.size
    have T4 := Lib.hid (T3.out.trans t4 (fun _ _ q => q))
    clear t4
    go_wp2_with fail
    go_at_call 27
    refine (new_any size _).mono ?_
    rintro r w5 ⟨rfl, ⟨mo5, pl5, hg5⟩, t5⟩
    have hf5 := hf4.turned t5 (fun _ _ q => q)
    have z5 := t5.size
    have T5 := Lib.hid (T4.out.trans t5 (fun _ _ q => q))
    clear t5 hf4 T4
    go_wp2_with fail
    go_at_call 38
    refine (arm_any hg5 _ (by omega)).mono ?_
    rintro r w6 ⟨rfl, hp6⟩
    have hB6 : Both w3.heap.size w3.heap.size w4.heap.size N (Fsp.new size) w6 := by
      obtain ⟨hr6, t6⟩ := hp6
      refine ⟨rfl, rfl, by show 0 < N; omega, (fun b => w3.heap.size ≤ b ∧ b < w4.heap.size), (Grow (fun b => w4.heap.size ≤ b ∧ b < w5.heap.size) w5 w6), fun b hb hq => ?_, fun b hb => hb.1, fun b hb => ?_, ⟨_, _, hf5.turned t6 (fun b hb hq => by omega)⟩, ?_⟩
      · rcases hq with hq | hq <;> omega
      · rcases hb with hb | hb <;> omega
      · have e : Fsp.withArm (Fsp.new size) (N - (Fsp.new size).steps) = Fsp.arm (Fsp.new size) (N : Int) := by simp [Fsp.withArm, Fsp.arm, Fsp.new]
        rw [e]; exact hr6
    have t6 := hp6.2
    have z6 := t6.size
    have T6 := Lib.hid (T5.out.trans t6 (fun i hi q => by omega))
    have B6 := Lib.hid hB6
    obtain ⟨sp, cap, rfl, hmx, hops⟩ := HO.out
    have HP := Lib.hid hops
    have HNE := Lib.hid hNe
    clear hB6 hp6 t6 hg5 hf5 hops hmx HO T5 hNe n1 n2 n3 n4
    go_wp2_with fail
    go_loopw [11] (fun i wr => ∃ j : Nat, j ≤ ops.length ∧ i = .int .i64 j ∧ ∃ A, Both w3.heap.size w3.heap.size w4.heap.size N A wr ∧ Turn (fun _ => False) w wr) (fun i _ => ops.length - (intOf i).toNat)
    case atStart => exact ⟨0, Nat.zero_le _, rfl, _, B6.out, T6.out⟩
    case round =>
      obtain ⟨j, hj, rfl, A, hb, ht⟩ := hrel
      have HB := Lib.hid hb
      have HT := Lib.hid ht
      clear hb ht
      by_cases hlt : j < ops.length
      · obtain ⟨⟨a, hsp, hat⟩, hok⟩ := HP.out j _ (List.getElem?_eq_getElem hlt)
        subst hsp
        obtain ⟨o, ho⟩ : ∃ o, o = ops[j] := ⟨_, rfl⟩
        rw [← ho] at hat hok
        have hat' := hat.turned HT.out
        have c0 := hat'.c0
        have i0 : (0 : Int) ≤ (j : Int) := by omega
        have i1 : (j : Int) < (ops.length : Int) := by omega
        have HAT := Lib.hid hat
        have HOK := Lib.hid hok
        clear ho hat hok hat'
        by_cases h5 : o.kind ≤ 5
        · have h5' : ¬ (5 : Int) < o.kind := by omega
          obtain ⟨ha, hd, hs, Qf, Qg, hdis, hf0, hg0, ⟨mof, plf, hrf⟩, ⟨mog, plg, hrg⟩⟩ := HB.out
          have HK := Lib.hid (told_armed ha hd (show 1 ≤ N - A.steps by omega) o h5)
          have HA := Lib.hid ha
          have HD := Lib.hid hd
          have HDIS := Lib.hid hdis
          have HF0 := Lib.hid hf0
          have HG0 := Lib.hid hg0
          have hgl : ∀ b, Qg b → b < wr.heap.size := hrg.lt
          have hfl : ∀ b, Qf b → b < wr.heap.size := hrf.lt
          have HGL := Lib.hid hgl
          have HFL := Lib.hid hfl
          have hst : StepsOk A := by unfold StepsOk; omega
          have hst2 : StepsOk (Fsp.withArm A (N - A.steps)) := hst
          have zB := HT.out.size
          have zwr : w3.heap.size ≤ wr.heap.size := Nat.le_of_lt (Nat.lt_of_le_of_lt (hf0 _ hrf.inP) (hfl _ hrf.inP))
          have ST := Lib.hid hst
          have ST2 := Lib.hid hst2
          clear ha hd hdis hf0 hg0 hgl hfl hst hst2
          go_wp2_with fail
          go_at_call 24
          refine (copy_any hrg).mono ?_
          rintro r w7 ⟨rfl, ⟨moh, plh, hrh⟩, t7⟩
          have z7 := t7.size
          have hrf7 := hrf.turned t7 (fun _ _ q => q)
          have hrg7 := Lib.hid (hrg.turned t7 (fun _ _ q => q))
          have T7 := Lib.hid (HT.out.trans t7 (fun _ _ q => q))
          have hat7 := HAT.out.turned T7.out
          have c0 := hat7.c0
          have c1 := hat7.c1
          have c2 := hat7.c2
          have c3 := hat7.c3
          have c4 := hat7.c4
          have HRH := Lib.hid hrh
          clear t7 hrf hrg hat7 hrh
          go_wp2_with fail
          go_at_call 34
          refine (told_any hrf7 ST.out o (HOK.out.turned T7.out) (HOK.out.slice.out z3 HF0.out)).mono ?_
          rintro r w8 ⟨rfl, hp8⟩
          obtain ⟨A', e, hA'⟩ : ∃ A' e, toldS A o = (A', e) := ⟨_, _, rfl⟩
          obtain ⟨G', x, hG'⟩ : ∃ G' x, toldS (Fsp.withArm A (N - A.steps)) o = (G', x) := ⟨_, _, rfl⟩
          have hk := HK.out
          rw [hA', hG'] at hk
          rw [hA'] at hp8 ⊢
          simp only at hp8 ⊢
          have z8 := hp8.2.size
          have hrg8 := hrg7.out.turned hp8.2 (fun b hb hq => HDIS.out b hq hb)
          have HH8 := Lib.hid (HRH.out.turned hp8.2 (fun b hb hq => by have := HFL.out b hq; omega))
          have T8 := Lib.hid (T7.out.trans hp8.2 (fun i hi q => by have := HF0.out i q; omega))
          have hat8 := HAT.out.turned T8.out
          have c0 := hat8.c0
          have c1 := hat8.c1
          have c2 := hat8.c2
          have c3 := hat8.c3
          have c4 := hat8.c4
          have HP8 := Lib.hid hp8
          have HK' := Lib.hid hk
          have HG' := Lib.hid hG'
          clear hp8 hk hG' hA' hrg7 HRH HK hrf7 hat8
          go_wp2_with fail
          go_at_call 34
          refine (told_any hrg8 ST2.out o (HOK.out.turned T8.out) (HOK.out.slice.out z3 HG0.out)).mono ?_
          rintro r w9 ⟨rfl, hp9⟩
          rw [HG'.out] at hp9 ⊢
          simp only at hp9 ⊢
          have z9 := hp9.2.size
          have hr8 := HP8.out.1
          obtain ⟨mo8, pl8, hr8⟩ := hr8
          have hf9 := hr8.turned hp9.2 (fun b hb hq => by
            rcases hb with hb | hb
            · exact HDIS.out b hb hq
            · have := HGL.out b hq; omega)
          have HH9 := Lib.hid (HH8.out.turned hp9.2 (fun b hb hq => by have := HGL.out b hq; omega))
          have T9 := Lib.hid (T8.out.trans hp9.2 (fun i hi q => by have := HG0.out i q; omega))
          have hpost := fun (h1 : A'.armed = 0) (h2 : A'.down = false) (h3 : A'.steps < N) (h4 : G' = Fsp.withArm A' (N - A'.steps)) =>
            Both.told h1 h2 h3 h4 (Nat.le_trans zwr z7) HDIS.out HF0.out HG0.out (fun b hb => Nat.lt_of_lt_of_le (HGL.out b hb) z7) HP8.out hp9
          have HPO := Lib.hid hpost
          obtain ⟨mo9, pl9, hg9⟩ := hp9.1
          have HF9 := Lib.hid hf9
          have HG9 := Lib.hid hg9
          obtain ⟨ka, kd, hcase⟩ := HK'.out
          simp only at ka kd hcase
          have HKA := Lib.hid ka
          have HKD := Lib.hid kd
          clear hpost hr8 hp9 hf9 hg9 ka kd HP8 HH8 hrg8 HG' HK' c0 c1 c2 c3 c4
          have hstf := steps_is HF9.out
          by_cases hN : A'.steps = N
          · have hx : G' = Fsp.stepped (Fsp.withArm A 1) ∧ x = 5 := by
              rcases hcase with ⟨h1, h2⟩ | ⟨h1, ⟨h2, h3⟩ | ⟨h2, h3⟩⟩
              · omega
              · simpa using h3
              · omega
            obtain ⟨hx1, rfl⟩ := hx
            have hgd : G'.down = true := by rw [hx1]; rfl
            have hgl : G'.L = (Fsp.withArm A (N - A.steps)).L := by rw [hx1, stepped_L]; rfl
            have bN : (((A'.steps : Nat) : Int) == ((N : Nat) : Int)) = true := by rw [beq_iff_eq]; omega
            have hdg := down_is HG9.out hgd
            have hal := alike_self HG9.out HH9.out hgl
            clear hcase hN hx1
            go_wp2_with (go_at_call 35; refine hstf.mono ?_; rintro r w' ⟨rfl, rfl⟩)
            go_wp2_with fail
            go_at_call 23
            refine hdg.mono ?_
            rintro r w' ⟨rfl, rfl⟩
            go_wp2_with fail
            go_at_call 26
            refine hal.mono ?_
            rintro r w10 ⟨rfl, t10⟩
            have hdf := down_is (HF9.out.turned t10 (fun _ _ q => q)) HKD.out
            have T10 := Lib.hid (T9.out.trans t10 (fun _ _ q => q))
            clear hal t10 hdg
            go_wp2_with fail
            go_at_call 23
            refine hdf.mono ?_
            rintro r w' ⟨rfl, rfl⟩
            go_wp2_with fail
            go_ret
            exact ⟨rfl, T10.out⟩
          · have hx : x = e ∧ A'.steps < N ∧ G' = Fsp.withArm A' (N - A'.steps) := by
              rcases hcase with ⟨h1, h2⟩ | ⟨h1, ⟨h2, h3⟩ | ⟨h2, h3⟩⟩
              · simp only [Prod.mk.injEq] at h2
                exact ⟨h2.2, by omega, by rw [h2.1, h1]⟩
              · omega
              · simp only [Prod.mk.injEq] at h3
                exact ⟨h3.2, by omega, by rw [h3.1]; congr 1; omega⟩
            obtain ⟨rfl, hx1, hx2⟩ := hx
            have bN : (((A'.steps : Nat) : Int) == ((N : Nat) : Int)) = false := by rw [beq_eq_false_iff_ne]; omega
            have be : (((x : Nat) : Int) != ((x : Nat) : Int)) = false := by simp
            have HBB := Lib.hid (HPO.out HKA.out HKD.out hx1 hx2)
            clear hcase hx2
            go_wp2_with (go_at_call 35; refine hstf.mono ?_; rintro r w' ⟨rfl, rfl⟩)
            go_roundw
            case rel => exact ⟨j + 1, by omega, by go_num, A', HBB.out, T9.out⟩
            case measure => simp [intOf]; omega
        · have h5' : (5 : Int) < o.kind := by omega
          go_wp2
          go_roundw
          case rel => exact ⟨j + 1, by omega, by go_num, A, HB.out, HT.out⟩
          case measure => simp [intOf]; omega
      · have hj0 : j = ops.length := by omega
        subst hj0
        obtain ⟨ha, hd, hs, Qf, Qg, hdis, hf0, hg0, ⟨mof, plf, hrf⟩, ⟨mog, plg, hrg⟩⟩ := HB.out
        have hdg := down_is hrg (show (Fsp.withArm A (N - A.steps)).down = false from hd)
        have hal := alike_self hrf hrg rfl
        clear hrf hrg hdis hf0 hg0 ha hd hs
        go_wp2_with fail
        go_at_call 23
        refine hdg.mono ?_
        rintro r w' ⟨rfl, rfl⟩
        go_wp2_with fail
        go_at_call 26
        refine hal.mono ?_
        rintro r w10 ⟨rfl, t10⟩
        have T10 := Lib.hid (HT.out.trans t10 (fun _ _ q => q))
        clear hal t10 hdg
        go_wp2_with fail
        go_ret
        exact ⟨rfl, T10.out⟩

end
end Go.Proofs.Ytnlcaonempngbaa
