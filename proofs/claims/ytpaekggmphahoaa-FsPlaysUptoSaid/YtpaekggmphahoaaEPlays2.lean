/-
  THE LAW FsPlays: the walk.
-/
import Derived.Test.YtpaekggmphahoaaEPlays
namespace Go.Proofs.Ytpaekggmphahoaa
open Go.RowKit Go.Maps Go.WideMaps Go.Sort
set_option linter.unusedVariables false
set_option linter.unusedSimpArgs false
section
variable {w w1 w2 w3 wr w' : World} {p q g base : Nat} {S S' : Fsp.Fs} {Q R : Nat → Prop} {v : Value} {lr : List RF}

/-- the loop's state -/
structure PlayI (w : World) (q k : Nat) (p : Nat) (S : Fsp.Fs) (wr : World) : Prop where
  both : Both wr p q S w.heap.size
  steps : S.steps ≤ k
  turn : Turn (fun _ => False) w wr
theorem PlayI.next {k : Nat} (h : PlayI w q k p S wr) (h2 : BPost wr g q S' w.heap.size w') (hs : S'.steps ≤ k + 1) : PlayI w q (k + 1) g S' w' :=
  ⟨h2.1, hs, Turn.shrink ((h.turn.mono (fun _ e => e.elim)).trans h2.2 (fun _ _ e => e))⟩

set_option maxRecDepth 100000 in
set_option maxHeartbeats 4000000 in
theorem plays_walk (size : Int) (hsz : -9223372036854775808 ≤ size ∧ size ≤ 9223372036854775807) {ops : List OpD} (h : OpsAt w v ops) (hbb : ∀ o ∈ ops, o.b.length ≤ 1048576) (front : ByteArray) (hf : front.size ≤ maxLen) :
    Calls Try.prog 3 #[.int .i64 size, v, .string front] w fun r w' => r = .returned (.bool true) ∧ Turn (fun _ => False) w w' := by
  have hO := h
  obtain ⟨sp, cap, rfl, hm, hops⟩ := h
  have HH := Lib.hid hO
  have HO := Lib.hid hops
  have HB := Lib.hid hbb
  have HSZ := Lib.hid hsz
  unfold maxLen at hm hf
  clear hO hops hbb hsz
  go_enter Try.func3, Try.ntmps3
  go_wp2_with fail
  go_at_call 4
  refine (first_any _).mono ?_
  rintro r w1 ⟨rfl, t1⟩
  have T1 := Lib.hid t1
  clear t1
  go_wp2_with fail
  go_at_call 5
  refine (few_any (HH.out.turned T1.out)).mono ?_
  rintro r w2 ⟨small, rfl, hsm, hlk⟩
  have T2 : Hid (Turn (fun _ => False) w w2) := Lib.hid (Turn.like T1.out hlk)
  have HSM := Lib.hid hsm
  clear hsm hlk
  cases small with
  | false =>
    go_wp2_with fail
    go_ret
    exact ⟨rfl, T2.out⟩
  | true =>
    by_cases hf2 : (front.size : Int) ≤ 20000
    case neg =>
      go_wp2_with fail
      go_ret
      exact ⟨rfl, T2.out⟩
    have hlen : ops.length ≤ 300 := HSM.out rfl
    clear HSM
    go_wp2_with fail
    go_at_call 6
    refine (new_any size _).mono ?_
    rintro r w3 ⟨rfl, hp3, t3⟩
    have HP3 := Lib.hid hp3
    have T3 := Lib.hid t3
    clear hp3 t3
    go_wp2_with fail
    go_at_call 7
    refine (rNew_any size HSZ.out _).mono ?_
    rintro r w4 ⟨rfl, hq4, t4⟩
    have hB : PlayI w w3.heap.size 0 w2.heap.size (Fsp.new size) w4 := by
      obtain ⟨mo, pl, r3⟩ := HP3.out
      have s2 := T2.out.size
      have s3 := T3.out.size
      refine ⟨⟨_, _, mo, pl, _, _, r3.turned t4 (fun _ _ e => e), hq4, fun b hb hq => ?_, fun b hb => ?_, fun b hb => ?_⟩, Nat.le_refl _, (T2.out.trans T3.out (fun _ _ e => e)).trans t4 (fun _ _ e => e)⟩
      · have e : b = w3.heap.size := hq; omega
      · omega
      · have e : b = w3.heap.size := hb; omega
    obtain ⟨q, hqq⟩ : ∃ q, q = w3.heap.size := ⟨_, rfl⟩
    obtain ⟨p0, hpp⟩ : ∃ p0, p0 = w2.heap.size := ⟨_, rfl⟩
    rw [← hqq, ← hpp] at hB
    rw [← hqq, ← hpp]
    have HBB := Lib.hid hB
    clear hB hqq hpp hq4 t4 HP3 T3 T2 T1
    go_wp2_with fail
    go_loopw [9, 11] (fun f i wr => ∃ (k p : Nat) (S : Fsp.Fs), k ≤ ops.length ∧ f = .pointer (some ⟨p, 0, none⟩) ∧ i = .int .i64 (k : Int) ∧ PlayI w q k p S wr) (fun _ i _ => ops.length - (intOf i).toNat)
    case atStart => exact ⟨0, p0, _, Nat.zero_le _, rfl, rfl, HBB.out⟩
    case round =>
      obtain ⟨k, p, S, hk, rfl, rfl, hI⟩ := hrel
      have HI := Lib.hid hI
      clear hI
      by_cases hlt : k < ops.length
      · obtain ⟨⟨a, hsp, hat⟩, hok⟩ := HO.out k _ (List.getElem?_eq_getElem hlt)
        subst hsp
        have hat' := hat.turned HI.out.turn
        have c0 := hat'.c0
        have c1 := hat'.c1
        have c2 := hat'.c2
        have c3 := hat'.c3
        have c4 := hat'.c4
        have i0 : (0 : Int) ≤ (k : Int) := by omega
        have i1 : (k : Int) < (ops.length : Int) := by omega
        have hol := HB.out _ (List.getElem_mem hlt)
        have HK := Lib.hid hok
        have HOL := Lib.hid hol
        clear hok hat hat' hol
        obtain ⟨o, ho⟩ : ∃ o, o = ops[k] := ⟨_, rfl⟩
        rw [← ho] at c0 c1 c2 c3 c4 HK HOL
        have hst : StepsOk S := by have := HI.out.steps; unfold StepsOk; omega
        have HST := Lib.hid hst
        clear ho hst
        by_cases h8 : o.kind = 8
        · rw [h8] at c0
          go_wp2_with fail
          go_at_call 8
          refine (copy_part HI.out.both HI.out.turn.size HST.out).mono ?_
          rintro r w5 ⟨rfl, hc5⟩
          have HC5 := Lib.hid hc5
          clear hc5 c0 c1 c2 c3 c4
          go_wp2_with fail
          go_at_call 9
          refine HC5.out.mono ?_
          rintro r w6 ⟨⟨n6, rfl⟩, hc6⟩
          have HC6 := Lib.hid hc6
          clear hc6
          go_wp2_with fail
          go_at_call 10
          refine HC6.out.mono ?_
          rintro r w7 ⟨rfl, hc7⟩
          have HC7 := Lib.hid hc7
          clear hc7
          go_wp2_with fail
          go_roundw
          case rel => exact ⟨k + 1, _, S, by omega, rfl, by go_num, HI.out.next HC7.out (by have := HI.out.steps; omega)⟩
          case measure => simp [intOf]; omega
        · have h8b : (o.kind == 8) = false := by simpa using h8
          go_wp2_with fail
          go_at_call 11
          refine (does_any HI.out.both HI.out.turn.size HST.out o (HK.out.turned HI.out.turn) HOL.out (fun W tW => HK.out.slice.turned (Turn.shrink ((HI.out.turn.mono (fun _ e => e.elim)).trans tW (fun _ _ e => e))) (fun _ _ _ _ _ e => e))).mono ?_
          rintro r w5 ⟨rfl, hp5⟩
          have HP5 := Lib.hid (HI.out.next hp5 (by have := HI.out.steps; have := steps_does S o; omega))
          clear hp5 c0 c1 c2 c3 c4
          go_wp2_with fail
          go_at_call 12
          refine (same_both HP5.out.both HP5.out.turn.size).mono ?_
          rintro r w6 ⟨rfl, t6⟩
          go_wp2_with fail
          go_roundw
          case rel => exact ⟨k + 1, p, doesS S o, by omega, rfl, by go_num, ⟨HP5.out.both.same t6, HP5.out.steps, HP5.out.turn.trans t6 (fun _ _ e => e)⟩⟩
          case measure => simp [intOf]; omega
      · have hk0 : k = ops.length := by omega
        subst hk0
        have hT := HI.out.turn
        obtain ⟨Q, R, mo, pl, v, lr, g1, g2, h3, h4, h5⟩ := HI.out.both
        have hl := Good.len g1.good g2
        have hnn := g2.n
        obtain ⟨sl, cl, rfl⟩ := g2.form
        obtain ⟨n, hn⟩ : ∃ n, n = lr.length := ⟨_, rfl⟩
        rw [← hn] at g2 hl hnn
        have n0 : (n : Int) ≤ 400 := by omega
        have c1 := g2.cells.c1
        have HN := Lib.hid hn
        have HNN := Lib.hid hnn
        have HT := Lib.hid hT
        have G1 := Lib.hid g1
        have G2 := Lib.hid g2
        obtain ⟨i0, hi, hz0, hz1, hz2⟩ := info_parts infoString
        obtain ⟨B, hBB⟩ : ∃ B, B = wr.heap.size := ⟨_, rfl⟩
        have HBZ := Lib.hid hBB
        clear hBB hT g1 g2 h3 h4 h5 hl hn hnn hlt hk HBB
        go_wp2_with fail
        go_loopw [14, 15] (fun wv i wx => ∃ (k : Nat) (sv : Option Addr) (cv : Nat), k ≤ n ∧ i = .int .i64 (k : Int) ∧ wv = .slice sv (wantOf S.L front.data.toList k).length cv ∧ wx.ownsRow B 9 1 (.slice sv (wantOf S.L front.data.toList k).length cv) (wantOf S.L front.data.toList k).length ((wantOf S.L front.data.toList k).map encStr) ∧ Turn (fun _ => False) wr wx) (fun _ i _ => n - (intOf i).toNat)
        case atStart => exact ⟨0, none, 0, Nat.zero_le _, rfl, by rw [wantOf_zero]; rfl, by rw [wantOf_zero]; exact World.ownsRow_nil _ _ _ _, Turn.refl _ _⟩
        case round =>
          obtain ⟨k, sv, cv, hk, rfl, rfl, hrow, hTx⟩ := hrel
          have HR := Lib.hid hrow
          have HX := Lib.hid hTx
          have d1 := turned_cell c1 hTx (fun e => e)
          have hwl := wantOf_len S.L front.data.toList k
          clear hrow hTx
          by_cases hlt : k < n
          · have j1 : (k : Int) < (n : Int) := by omega
            obtain ⟨x, hx⟩ : ∃ x, lr[k]? = some x := ⟨_, List.getElem?_eq_getElem (by rw [← HN.out]; exact hlt)⟩
            obtain ⟨gr, capr, ev, c2, -, -, -⟩ := (G2.out.same HX.out).at hx
            simp only [Value.slice.injEq] at ev
            obtain ⟨rfl, -, -⟩ := ev
            have hnx := wantOf_next front.data.toList (G2.out.pair hx)
            obtain ⟨nb, hnb⟩ : ∃ nb : ByteArray, nb = ⟨x.name.toArray⟩ := ⟨_, rfl⟩
            have hnd : nb.data.toList = x.name := by rw [hnb]
            rw [show encStr x.name = .string nb by rw [hnb]] at c2
            have BG := Lib.hid (begins_any nb front)
            rw [hnd] at BG
            simp only at hnx
            have HNB := Lib.hid hnb
            clear hnb hnd hx
            cases hpf : front.data.toList.isPrefixOf x.name with
            | false =>
              rw [hpf] at BG
              rw [hpf] at hnx
              simp only [Bool.false_eq_true, if_false] at hnx
              have HNX := Lib.hid hnx
              clear hnx hpf
              go_wp2_with (go_at_call 13; refine (BG.out _).mono ?_; rintro r w' ⟨rfl, rfl⟩)
              go_roundw
              case rel => exact ⟨k + 1, sv, cv, by omega, by go_num, by rw [HNX.out], by rw [HNX.out]; exact HR.out, HX.out⟩
              case measure => simp [intOf]; omega
            | true =>
              rw [hpf] at BG
              rw [hpf] at hnx
              simp only [if_true] at hnx
              have HNX := Lib.hid hnx
              clear hnx hpf
              go_wp2_with (first | (go_at_call 13; refine (BG.out _).mono ?_; rintro r w' ⟨rfl, rfl⟩) | (at_builtin; refine wpList_append_own _ rfl _ _ 38 rfl B 9 i0 (.string ⟨#[]⟩) 1 16 Try.underlying38 hi hz0 hz1 hz2 rfl (by decide) _ _ _ rfl (HR.out.alloc _) ⟨wr.heap.size, 0, none⟩ 1 1 [.string nb] rfl rfl (cell_one_new _ _ _) (by simp [Value.oneCell']) (by unfold maxLen; omega) (by omega) (by have h1 := HX.out.size; have h2 := HBZ.out; simp; omega) ?_; intro v' w3 hown' hg3 hnil3; go_frame))
              have hown2 : w3.ownsRow B 9 1 v' (wantOf S.L front.data.toList (k + 1)).length ((wantOf S.L front.data.toList (k + 1)).map encStr) := by
                rw [HNX.out, List.length_append, List.map_append]
                have e : [Value.string nb] = [x.name].map encStr := by rw [HNB.out]; rfl
                rw [← e]
                simpa using hown'
              have ht3 := (HX.out.alloc (.cells #[.string nb] 9)).grown hg3 (fun j hj => Or.inr (by have h1 := (HR.out.lt j hj).1; have h2 := HBZ.out; omega))
              obtain ⟨sv3, cv3, hv3, -⟩ := row_cells hown2
              subst hv3
              go_roundw
              case rel => exact ⟨k + 1, sv3, cv3, by omega, by go_num, rfl, hown2, ht3⟩
              case measure => simp [intOf]; omega
          · have hkn : k = n := by omega
            subst hkn
            have NM := Lib.hid (names_any (G1.out.turned HX.out (fun _ _ e => e)) front)
            rw [wantOf_end S front.data.toList (by rw [HNN.out]; exact Nat.le_refl _)] at HR
            have HL := Lib.hid (show (Fsp.names S front.data.toList).length ≤ 400 by rw [← wantOf_end S front.data.toList (k := k) (by rw [HNN.out]; exact Nat.le_refl _)]; omega)
            rw [wantOf_end S front.data.toList (by rw [HNN.out]; exact Nat.le_refl _)]
            clear hwl
            go_wp2_with fail
            go_at_call 15
            refine NM.out.mono ?_
            rintro r w8 ⟨v8, rfl, hrow8, t8⟩
            obtain ⟨s8, c8, hv8, -⟩ := row_cells hrow8
            subst hv8
            have SX := Lib.hid (sameTexts_self (TextsR.of_own hrow8) ((TextsR.of_own HR.out).turned t8) (by have := HL.out; unfold maxLen; omega))
            have T8 := Lib.hid ((HT.out.trans HX.out (fun _ _ e => e)).trans t8 (fun _ _ e => e))
            clear hrow8 t8
            go_wp2_with (go_at_call 14; refine SX.out.mono ?_; rintro r w9 ⟨rfl, hlk⟩; have T9 := Lib.hid (T8.out.like hlk); clear hlk)
            go_ret
            exact ⟨rfl, T9.out⟩
end
end Go.Proofs.Ytpaekggmphahoaa
