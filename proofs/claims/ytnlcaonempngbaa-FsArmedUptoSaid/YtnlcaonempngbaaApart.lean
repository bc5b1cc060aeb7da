/-
  FsApart: the walk.
-/
import Derived.Test.YtnlcaonempngbaaRefused
namespace Go.Proofs.Ytnlcaonempngbaa
open Go.RowKit Go.Maps Go.WideMaps Go.Sort

section
variable {w w' : World} {p : Nat} {S : Fsp.Fs} {c : Bool} {Q : Nat → Prop} {mo : Option Nat} {pl : List UInt8 → Pl}

theorem Post.trans {wb wr w2 : World} {S1 S2 : Fsp.Fs} (h1 : Post wb p S1 Q wr) (h2 : Post wr p S2 (Grow Q wb wr) w2) : Post wb p S2 Q w2 := by
  obtain ⟨⟨mo1, pl1, hr1⟩, ht1⟩ := h1
  obtain ⟨⟨mo2, pl2, hr2⟩, ht2⟩ := h2
  have z1 := ht1.size
  have z2 := ht2.size
  refine ⟨⟨mo2, pl2, hr2.mono (fun b hb => Grow.trans z1 z2 b hb) (fun b hb => ?_)⟩, ht1.trans ht2 (fun i hi q => ?_)⟩
  · rcases hb with hb | hb
    · have := hr1.lt b (Or.inl hb); omega
    · exact hb.2
  · rcases q with q | q
    · exact q
    · omega

theorem Post.look {wb wr w2 : World} {S1 : Fsp.Fs} (h1 : Post wb p S1 Q wr) (ht : Turn (fun _ => False) wr w2) : Post wb p S1 Q w2 := by
  obtain ⟨⟨mo1, pl1, hr1⟩, ht1⟩ := h1
  have z1 := ht1.size
  have z2 := ht.size
  have hr2 := hr1.turned ht (fun _ _ q => q)
  refine ⟨⟨mo1, pl1, hr2.mono (fun b hb => ?_) (fun b hb => ?_)⟩, ht1.trans ht (fun i hi q => q.elim)⟩
  · rcases hb with hb | hb
    · exact Or.inl hb
    · exact Or.inr ⟨hb.1, by omega⟩
  · rcases hb with hb | hb
    · exact hr2.lt b (Or.inl hb)
    · exact hb.2

theorem Post.start (h : RepX w p S false Q mo pl) : Post w p S Q w := Post.same h

/-- one more told, behind others -/
theorem told_post {wb wr : World} {S1 : Fsp.Fs} {o : OpD} (h : Post wb p S1 Q wr) (hs : StepsOk S1) (ho : OpOk wr o) (hout : OutOf (Grow Q wb wr) o.bv) :
    Calls Try.prog 34 #[.pointer (some ⟨p, 0, none⟩), opVal o] wr fun r w' => r = .returned (.int .i64 ((toldS S1 o).2 : Nat)) ∧ Post wb p (toldS S1 o).1 Q w' := by
  have h0 := h
  obtain ⟨⟨mo1, pl1, hr1⟩, ht1⟩ := h
  refine (told_any hr1 hs o ho hout).mono ?_
  rintro r w' ⟨rfl, hp⟩
  exact ⟨rfl, h0.trans hp⟩

theorem made_step {S : Fsp.Fs} {ops : List OpD} {j : Nat} {o : OpD} (h : ops[j]? = some o) : madeS S (ops.take (j + 1)) = (toldS (madeS S (ops.take j)) o).1 := by
  rw [List.take_add_one, h]; simp [madeS, List.foldl_append]

theorem made_steps {S : Fsp.Fs} {ops : List OpD} {n : Nat} (h : S.steps ≤ n) (hl : ops.length ≤ 300) (hn : n ≤ 1000) (j : Nat) : StepsOk (madeS S (ops.take j)) := by
  have h1 := steps_made S (ops.take j)
  rw [List.length_take] at h1
  unfold StepsOk
  omega

set_option maxRecDepth 100000 in
set_option maxHeartbeats 4000000 in
theorem apart_walk (size : Int) {v v2 : Value} {ops m : List OpD} (h : OpsAt w v ops) (h2 : OpsAt w v2 m) :
    Calls Try.prog 7 #[.int .i64 size, v, v2] w fun r w' => r = .returned (.bool true) ∧ Turn (fun _ => False) w w' := by
  have HO := Lib.hid h
  have HM := Lib.hid h2
  clear h h2
  go_enter Try.func7, Try.ntmps7
  go_wp2_with fail
  go_at_call 11
  refine (first_any _).mono ?_
  rintro r w2 ⟨rfl, t2⟩
  go_wp2_with fail
  go_at_call 12
  refine (few_any (HO.out.turned t2)).mono ?_
  rintro r w3 ⟨b, rfl, hfew, l3⟩
  have t3 := t2.trans l3.turn (fun _ _ q => q)
  have T3 := Lib.hid t3
  clear t2 t3 l3
  cases b with
  | false =>
    clear hfew
    go_wp2
    go_ret
    exact ⟨rfl, T3.out⟩
  | true =>
    have hlen := hfew rfl
    clear hfew
    go_wp2_with fail
    go_at_call 12
    refine (few_any (HM.out.turned T3.out)).mono ?_
    rintro r w3' ⟨b, rfl, hfew, l3⟩
    have T3' := Lib.hid (T3.out.trans l3.turn (fun _ _ q => q))
    clear l3 T3
    cases b with
    | false =>
      clear hfew
      go_wp2
      go_ret
      exact ⟨rfl, T3'.out⟩
    | true =>
      have hlen2 := hfew rfl
      clear hfew
      go_wp2_with fail
      go_at_call 13
      refine (made_any size (HO.out.turned T3'.out) hlen).mono ?_
      rintro r w4 ⟨rfl, ⟨mo4, pl4, hf4⟩, t4⟩
      have T4 := Lib.hid (T3'.out.trans t4 (fun _ _ q => q))
      have z4 := t4.size
      have z3 := T3'.out.size
      clear t4
      go_wp2_with fail
      go_at_call 24
      refine (copy_any hf4).mono ?_
      rintro r w5 ⟨rfl, ⟨mo5, pl5, hg5⟩, t5⟩
      have hf5 := hf4.turned t5 (fun _ _ q => q)
      have T5 := Lib.hid (T4.out.trans t5 (fun _ _ q => q))
      have z5 := t5.size
      clear t5 hf4
      go_wp2_with fail
      go_at_call 13
      refine (made_any size (HO.out.turned T5.out) hlen).mono ?_
      rintro r w6 ⟨rfl, ⟨mo6, pl6, hh6⟩, t6⟩
      have hf6 := hf5.turned t6 (fun _ _ q => q)
      have hg6 := hg5.turned t6 (fun _ _ q => q)
      have T6 := Lib.hid (T5.out.trans t6 (fun _ _ q => q))
      have z6 := t6.size
      have hst0 : (madeS (Fsp.new size) ops).steps ≤ 300 := by have h1 := steps_made (Fsp.new size) ops; have : (Fsp.new size).steps = 0 := rfl; omega
      generalize madeS (Fsp.new size) ops = S0 at hf6 hg6 hh6 hst0
      have P6 := Lib.hid (Post.start hg6)
      have F6 := Lib.hid hf6
      have H6 := Lib.hid hh6
      obtain ⟨sp, cap, rfl, hmx, hops⟩ := HM.out
      have HP := Lib.hid hops
      clear t6 hf5 hg5 hf6 hg6 hh6 hops hmx T3' T4 T5 HM HO
      go_wp2_with fail
      go_loopw [12] (fun i wr => ∃ j : Nat, j ≤ m.length ∧ i = .int .i64 j ∧ Post w6 w4.heap.size (madeS S0 (m.take j)) (fun b => w4.heap.size ≤ b ∧ b < w5.heap.size) wr) (fun i _ => m.length - (intOf i).toNat)
      case atStart => exact ⟨0, Nat.zero_le _, rfl, by simpa [madeS] using P6.out⟩
      case round =>
        obtain ⟨j, hj, rfl, hs⟩ := hrel
        have HS := Lib.hid hs
        clear hs
        by_cases hlt : j < m.length
        · have HST := Lib.hid (made_steps hst0 hlen2 (by omega) j)
          obtain ⟨⟨a, hsp, hat⟩, hok⟩ := HP.out j _ (List.getElem?_eq_getElem hlt)
          subst hsp
          obtain ⟨o, ho⟩ : ∃ o, o = m[j] := ⟨_, rfl⟩
          rw [← ho] at hat hok
          have HNX := Lib.hid (made_step (S := S0) (show m[j]? = some o by rw [ho]; exact List.getElem?_eq_getElem hlt))
          have tt := T6.out.trans HS.out.2 (fun i hi q => by omega)
          have hat' := hat.turned tt
          have c0 := hat'.c0
          have c1 := hat'.c1
          have c2 := hat'.c2
          have c3 := hat'.c3
          have c4 := hat'.c4
          have HOK := Lib.hid (hok.turned tt)
          have HOUT := Lib.hid (hok.slice.out (Q := Grow (fun b => w4.heap.size ≤ b ∧ b < w5.heap.size) w6 wr) (B := w4.heap.size) (by omega) (fun i hi => by rcases hi with hi | hi <;> omega))
          have i0 : (0 : Int) ≤ (j : Int) := by omega
          have i1 : (j : Int) < (m.length : Int) := by omega
          clear hat hok ho tt hat'
          go_wp2_with fail
          go_at_call 34
          refine (told_post HS.out HST.out HOK.out HOUT.out).mono ?_
          rintro r w7 ⟨rfl, hp7⟩
          rw [← HNX.out] at hp7
          have H7 := Lib.hid hp7
          clear hp7
          go_wp2_with fail
          go_roundw
          case rel => exact ⟨j + 1, by omega, by go_num, H7.out⟩
          case measure => simp [intOf]; omega
        · have hj0 : j = m.length := by omega
          subst hj0
          have hs := HS.out
          rw [List.take_length] at hs
          have hS2 : (madeS S0 m).steps ≤ 600 := by have := steps_made S0 m; omega
          have hT := hs.2
          have z7 := hT.size
          have f7 := F6.out.turned hT (fun b hb q => by omega)
          have h7 := H6.out.turned hT (fun b hb q => by omega)
          have TT := Lib.hid (T6.out.trans hT (fun i hi q => by omega))
          obtain ⟨⟨mog, plg, hg⟩, -⟩ := hs
          have hal := alike_self f7 h7 rfl
          have G7 := Lib.hid hg
          have F7 := Lib.hid f7
          clear hT f7 h7 hg HS H6 F6
          go_wp2_with fail
          go_at_call 26
          refine hal.mono ?_
          rintro r w8 ⟨rfl, t8⟩
          have z8 := t8.size
          have G8 := Lib.hid (G7.out.turned t8 (fun _ _ q => q))
          have P8 := Lib.hid (Post.start (F7.out.turned t8 (fun _ _ q => q)))
          have T8 := Lib.hid (TT.out.trans t8 (fun _ _ q => q))
          clear hal t8 G7 F7 TT
          go_wp2_with fail
          go_loopw [14] (fun i wr => ∃ j : Nat, j ≤ m.length ∧ i = .int .i64 j ∧ Post w8 w3'.heap.size (madeS S0 (m.take j)) (fun b => w3'.heap.size ≤ b ∧ b < w4.heap.size) wr) (fun i _ => m.length - (intOf i).toNat)
          case atStart => exact ⟨0, Nat.zero_le _, rfl, by simpa [madeS] using P8.out⟩
          case round =>
            obtain ⟨j, hj, rfl, hs⟩ := hrel
            have HS := Lib.hid hs
            clear hs
            by_cases hlt : j < m.length
            · have HST := Lib.hid (made_steps hst0 hlen2 (by omega) j)
              obtain ⟨⟨a, hsp, hat⟩, hok⟩ := HP.out j _ (List.getElem?_eq_getElem hlt)
              subst hsp
              obtain ⟨o, ho⟩ : ∃ o, o = m[j] := ⟨_, rfl⟩
              rw [← ho] at hat hok
              have HNX := Lib.hid (made_step (S := S0) (show m[j]? = some o by rw [ho]; exact List.getElem?_eq_getElem hlt))
              have tt := T8.out.trans HS.out.2 (fun i hi q => by omega)
              have hat' := hat.turned tt
              have c0 := hat'.c0
              have c1 := hat'.c1
              have c2 := hat'.c2
              have c3 := hat'.c3
              have c4 := hat'.c4
              have HOK := Lib.hid (hok.turned tt)
              have HOUT := Lib.hid (hok.slice.out (Q := Grow (fun b => w3'.heap.size ≤ b ∧ b < w4.heap.size) w8 wr) (B := w3'.heap.size) (by omega) (fun i hi => by rcases hi with hi | hi <;> omega))
              have i0 : (0 : Int) ≤ (j : Int) := by omega
              have i1 : (j : Int) < (m.length : Int) := by omega
              clear hat hok ho tt hat'
              go_wp2_with fail
              go_at_call 34
              refine (told_post HS.out HST.out HOK.out HOUT.out).mono ?_
              rintro r w9 ⟨rfl, hp9⟩
              rw [← HNX.out] at hp9
              have H9 := Lib.hid hp9
              clear hp9
              go_wp2_with fail
              go_roundw
              case rel => exact ⟨j + 1, by omega, by go_num, H9.out⟩
              case measure => simp [intOf]; omega
            · have hj0 : j = m.length := by omega
              subst hj0
              have hs := HS.out
              rw [List.take_length] at hs
              have hT := hs.2
              have g9 := G8.out.turned hT (fun b hb q => by rcases hb with hb | hb <;> omega)
              have TT := Lib.hid (T8.out.trans hT (fun i hi q => by omega))
              obtain ⟨⟨mof, plf, hf⟩, -⟩ := hs
              have hal := alike_self hf g9 rfl
              have F9 := Lib.hid hf
              have G9 := Lib.hid g9
              have bs : (((madeS S0 m).steps : Nat) : Int) = (((madeS S0 m).steps : Nat) : Int) := rfl
              clear hT hf g9 HS
              go_wp2_with fail
              go_at_call 26
              refine hal.mono ?_
              rintro r w10 ⟨rfl, t10⟩
              have hsf := steps_is (F9.out.turned t10 (fun _ _ q => q))
              have hsg := steps_is (G9.out.turned t10 (fun _ _ q => q))
              have T10 := Lib.hid (TT.out.trans t10 (fun _ _ q => q))
              clear hal t10
              go_wp2_with (go_at_call 35; (first | refine hsf.mono ?_ | refine hsg.mono ?_); rintro r w' ⟨rfl, rfl⟩)
              go_ret
              exact ⟨rfl, T10.out⟩

end
end Go.Proofs.Ytnlcaonempngbaa
