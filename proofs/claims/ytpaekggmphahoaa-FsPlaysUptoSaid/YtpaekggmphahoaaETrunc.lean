/-
  exref1: Truncate.
-/
import Derived.Test.YtpaekggmphahoaaEBytes
import Derived.Deep.DeepCutAuto
namespace Go.Proofs.Ytpaekggmphahoaa
open Go.RowKit Go.Maps Go.WideMaps
set_option linter.unusedVariables false
set_option linter.unusedSimpArgs false

def pByt (base : Nat) (d : List UInt8) : Said := fun v _ w => ∃ sp cap, v = .slice sp d.length cap ∧ BytR w base (.slice sp d.length cap) d
theorem stab_byt (base : Nat) (d : List UInt8) : StabO (pByt base d) := fun _ _ _ _ t ⟨sp, cap, e, h⟩ => ⟨sp, cap, e, h.only t⟩
theorem BytR.lower {w : World} {base base' : Nat} {v : Value} {d : List UInt8} (h : BytR w base v d) (hb : base' ≤ base) : BytR w base' v d := by
  refine ⟨h.1, ?_⟩
  rcases h.2 with k | ⟨g, cap, cur, e, hg, r⟩
  · exact Or.inl k
  · exact Or.inr ⟨g, cap, cur, e, by omega, r⟩
theorem BytR.toN {w : World} {base : Nat} {v : Value} {d : List UInt8} (h : BytR w base v d) : SliceN w v d := SliceN.of_own h

section
variable {w w1 w2 w' : World} {q : Nat} {S S' : Fsp.Fs} {Q Q' : Nat → Prop} {v : Value} {l : List RF}

/-- a file's bytes are a copy in new memory -/
theorem RefX.newdata {g cap i : Nat} {x : RF} {d : List UInt8} {dv : Value} (h : RefX w q S Q (.slice (some ⟨g, 0, none⟩) l.length cap) l) (hx : l[i]? = some x) (t : Only w w1) (hb : BytR w1 w.heap.size dv d) :
    RefX (w1.setCell ⟨g, i * 3 + 1, none⟩ dv) q { S with L := (l.map RF.pair).set i (x.name, ⟨d, x.f.synced⟩) } (Grow Q w (w1.setCell ⟨g, i * 3 + 1, none⟩ dv)) (.slice (some ⟨g, 0, none⟩) l.length cap) (l.set i { x with f := ⟨d, x.f.synced⟩, dv := dv }) ∧ Turn Q w (w1.setCell ⟨g, i * 3 + 1, none⟩ dv) := by
  have h1 := h.same (Below.turn t (fun _ => False))
  have tg : Turn (fun b => b = g) w1 (w1.setCell ⟨g, i * 3 + 1, none⟩ dv) := (Turn.refl (fun b => b = g) w1).set _ _ (Or.inl rfl) _
  have hgz := h.lt g (h.inR g rfl)
  have hqz := h.lt q h.inQ
  have hrow := own_cell h1.row (i * 3 + 1) dv
  rw [rfC_data hx] at hrow
  have hQg : Q g := h.inR g rfl
  refine ⟨h1.inplace (S' := { S with L := (l.map RF.pair).set i (x.name, ⟨d, x.f.synced⟩) }) (x' := { x with f := ⟨d, x.f.synced⟩, dv := dv }) hx rfl tg hrow (hb.toN.turned tg (fun h0 r hr e => by have := (hb.new r hr).1; omega)) (fun b hb => Or.inl hb)
    (fun b hb2 => by rcases hb2 with k | k; exact Nat.lt_of_lt_of_le (h1.lt b k) tg.size; exact k.2) (fun h0 r hr => by
      obtain ⟨k1, k2⟩ := hb.new r hr
      exact ⟨Or.inr ⟨k1, Nat.lt_of_lt_of_le k2 tg.size⟩, by omega, by omega⟩) rfl ⟨rfl, rfl, rfl, rfl⟩, ((Below.turn t (fun _ => False)).mono fun _ e => e.elim).trans (tg.mono fun b e => by rw [e]; exact hQg) (fun _ _ e => e)⟩

set_option maxRecDepth 100000 in
set_option maxHeartbeats 1600000 in
theorem rTruncate_any (h : RefX w q S Q v l) (hg : Fsp.Good S) (hs : S.steps < 9223372036854775807) (s : ByteArray) (k : Int) (hk0 : -9223372036854775808 ≤ k ∧ k ≤ 9223372036854775807) :
    Calls Try.prog 34 #[.pointer (some ⟨q, 0, none⟩), .string s, .int .i64 k] w fun r w' => r = .returned (.int .i64 (((Fsp.truncate S s.data.toList k).2 : Nat) : Int)) ∧ RPost w q (Fsp.truncate S s.data.toList k).1 Q w' := by
  have c4 := h.cells.c4
  have hl := Good.len hg h
  by_cases hd : S.down = true
  · have e : Fsp.truncate S s.data.toList k = (S, 5) := by unfold Fsp.truncate; rw [if_pos hd]
    rw [e]
    rw [hd] at c4
    have HP := Lib.hid (h.post (Turn.refl _ w))
    clear e h hg hs hl hd
    go_enter Try.func34, Try.ntmps34
    go_wp2_with fail
    go_ret
    exact ⟨rfl, HP.out⟩
  have hd' : S.down = false := by simpa using hd
  rw [hd'] at c4
  have AT := Lib.hid (rAt_any h s (by omega))
  cases ha : atN S.L s.data.toList with
  | none =>
    rw [ha] at AT
    have e : Fsp.truncate S s.data.toList k = (S, 2) := by unfold Fsp.truncate; rw [if_neg hd, atN_none ha]
    rw [e]
    have HP := Lib.hid (h.post (Turn.refl _ w))
    clear e h hg hs hl hd hd' ha
    go_enter Try.func34, Try.ntmps34
    go_wp2_with fail
    go_at_call 42
    refine AT.out.mono ?_
    rintro r w1 ⟨rfl, rfl⟩
    rw [show atI none = -1 from rfl]
    go_wp2_with fail
    go_ret
    exact ⟨rfl, HP.out⟩
  | some i =>
    rw [ha] at AT
    obtain ⟨f, hat, hf⟩ := atN_some ha
    have hi : ¬ ((i : Int) < 0) := by omega
    obtain ⟨x, hx⟩ : ∃ x, l[i]? = some x := by
      rw [h.L, List.getElem?_map] at hat
      cases hx : l[i]? with
      | none => rw [hx] at hat; cases hat
      | some x => exact ⟨x, rfl⟩
    have hpx : x.name = s.data.toList ∧ x.f = f := by
      rw [h.L, List.getElem?_map, hx] at hat
      simp only [Option.map_some, RF.pair, Option.some.injEq, Prod.mk.injEq] at hat
      exact hat
    have hil : (i : Int) < (l.length : Int) := by have := (List.getElem?_eq_some_iff.1 hx).1; omega
    have c1 := h.cells.c1
    obtain ⟨g, cap, ev, c2, c3, c5, fr⟩ := h.at hx
    subst ev
    obtain ⟨sd, cd, hdv, -⟩ := (h.data i x hx).toR
    rw [hdv] at c3
    by_cases hr : k < 0 ∨ (f.data.length : Int) < k
    · have e : Fsp.truncate S s.data.toList k = (S, 6) := by unfold Fsp.truncate; rw [if_neg hd, hf]; simp only; rw [if_pos hr]
      rw [e]
      have HP := Lib.hid (h.post (Turn.refl _ w))
      rw [hpx.2] at c3
      clear e h hg hs hl hd hd' ha hf hat hx hpx hdv c2 c5 fr
      by_cases hk : k < 0
      · clear hr
        go_enter Try.func34, Try.ntmps34
        go_wp2_with fail
        go_at_call 42
        refine AT.out.mono ?_
        rintro r w1 ⟨rfl, rfl⟩
        rw [show atI (some i) = (i : Int) from rfl]
        go_wp2_with fail
        go_ret
        exact ⟨rfl, HP.out⟩
      · have hk2 : (f.data.length : Int) < k := by omega
        clear hr
        go_enter Try.func34, Try.ntmps34
        go_wp2_with fail
        go_at_call 42
        refine AT.out.mono ?_
        rintro r w1 ⟨rfl, rfl⟩
        rw [show atI (some i) = (i : Int) from rfl]
        go_wp2_with fail
        go_ret
        exact ⟨rfl, HP.out⟩
    · have hk1 : 0 ≤ k := by omega
      have hk2 : k ≤ (f.data.length : Int) := by omega
      have FA := Lib.hid (rFails_any h hg.2.2.2.2.1 hs)
      rw [hpx.2] at c3
      by_cases h1 : S.armed = 1
      · have e : Fsp.truncate S s.data.toList k = (Fsp.stepped S, 5) := by unfold Fsp.truncate; rw [if_neg hd, hf]; simp only; rw [if_neg hr, if_pos h1]
        rw [e]
        have hb : failsB S = true := decide_eq_true h1
        rw [hb] at FA
        clear e h hg hs hl hd hd' ha hf h1 hb hat hx hpx hdv c2 c5 fr hr
        go_enter Try.func34, Try.ntmps34
        go_wp2_with fail
        go_at_call 42
        refine AT.out.mono ?_
        rintro r w1 ⟨rfl, rfl⟩
        rw [show atI (some i) = (i : Int) from rfl]
        go_wp2_with fail
        go_at_call 55
        refine FA.out.mono ?_
        rintro r w2 ⟨rfl, hx2, t2⟩
        have HP := Lib.hid (rpost_step hx2 t2)
        clear hx2 t2 c4 c1 c3
        go_wp2_with fail
        go_ret
        exact ⟨rfl, HP.out⟩
      · have e : Fsp.truncate S s.data.toList k = ({ Fsp.stepped S with L := Fsp.put S.L s.data.toList ⟨f.data.take k.toNat, min f.synced k.toNat⟩ }, 0) := by unfold Fsp.truncate; rw [if_neg hd, hf]; simp only; rw [if_neg hr, if_neg h1]
        rw [e]
        have hb : failsB S = false := decide_eq_false h1
        rw [hb] at FA
        have HPL : Hid ((l.map RF.pair).set i (s.data.toList, ⟨f.data.take k.toNat, min f.synced k.toNat⟩) = Fsp.put S.L s.data.toList ⟨f.data.take k.toNat, min f.synced k.toNat⟩) := Lib.hid (by rw [← h.L]; exact set_put hg.1 hat)
        have HQ := Lib.hid (And.intro h.inQ h.lt)
        have HXX := Lib.hid hx
        have HPX := Lib.hid hpx
        have HUS := Lib.hid (show f.data.length ≤ 67108864 by have := Fsp.used_find hf; have h2 := hg.2.1; have h3 := hg.2.2.1; omega)
        obtain ⟨K, rfl⟩ : ∃ K : Nat, k = (K : Int) := ⟨k.toNat, by omega⟩
        have hK : K ≤ f.data.length := by omega
        have hKt : (K : Int).toNat = K := by omega
        obtain ⟨d, hdd⟩ : ∃ d, d = f.data.take K := ⟨_, rfl⟩
        have HDD := Lib.hid hdd
        have HDL := Lib.hid (show d.length = K by rw [hdd, List.length_take]; omega)
        rw [hKt] at HPL ⊢
        rw [← hdd] at HPL ⊢
        clear hdd hKt
        clear e h hg hs hl hd hd' ha hf h1 hb hat hpx hx hr hdv c2 c5 fr
        go_enter Try.func34, Try.ntmps34
        go_wp2_with fail
        go_at_call 42
        refine AT.out.mono ?_
        rintro r w1 ⟨rfl, rfl⟩
        rw [show atI (some i) = (i : Int) from rfl]
        go_wp2_with fail
        go_at_call 55
        refine FA.out.mono ?_
        rintro r w2 ⟨rfl, hx2, t2⟩
        clear c1 c3 c4
        have c1 := hx2.cells.c1
        obtain ⟨g', cap', ev, c2, c3, c5, fr⟩ := hx2.at HXX.out
        simp only [Value.slice.injEq, Option.some.injEq, Addr.mk.injEq] at ev
        obtain ⟨⟨rfl, -, -⟩, -, rfl⟩ := ev
        have hdn := hx2.data i x HXX.out
        rw [HPX.out.2] at hdn
        have f1 := fr (i * 3 + 1)
        have f2 := fr (i * 3 + 2)
        have hgz : g < w2.heap.size := hx2.lt g (hx2.inR g rfl)
        have HX2 := Lib.hid hx2
        have T2 := Lib.hid t2
        clear hx2 t2 fr c2
        rcases hdn with ⟨hdv, hd0⟩ | ⟨ad, cp, hdv, hcp, hsp, hcell⟩
        · obtain rfl : K = 0 := by rw [hd0] at hK; simpa using hK
          rw [hdv] at c3
          have HD0 := Lib.hid (show d = [] from List.length_eq_zero_iff.1 HDL.out)
          clear hdv
          go_upto_region 10 with (fail)
          refine wp_rich_tail 18 [pVal ?zb0, pVal ?zb1, pVal ?zb2, pVal ?zb3, pVal ?zb4, pVal ?zb5, pVal ?zb6, pVal ?zb7, pVal ?zb8, pVal ?zb9, pVal ?zb10, pVal ?zb11, pVal ?zb12, pVal ?zb13, pVal ?zb14, pByt w2.heap.size d, pVal ?zb16, pVal ?zb17] (F := ?F10b) (by kernel_rfl) (by kernel_rfl) (by kernel_rfl) (by kernel_rfl) (by kernel_rfl) (by kernel_rfl) (by kernel_rfl) ?hF10b ?hst10b ?hO10b ?hend10b
          case hF10b =>
            intro vs
            simp only [List.take_succ_cons, List.take_zero, fills]
            go_simp
            exact rfl
          case hst10b =>
            simp only [List.take_succ_cons, List.take_zero, StepsP]
            refine ⟨?_, ?_, ?_, ?_, ?_, ?_, ?_, ?_, ?_, ?_, ?_, ?_, ?_, ?_, ?_, ?_, ?_, ?_, trivial⟩
            case refine_1 | refine_2 | refine_3 | refine_4 | refine_5 | refine_6 | refine_7 | refine_8 | refine_9 | refine_10 | refine_11 | refine_12 | refine_13 | refine_14 | refine_15 | refine_17 | refine_18 =>
              intro vs W hW hd K' hK
              have k1 := hW.cellM c1
              have k2 := hW.cellM c3
              simp [depsOf, Region.binds, List.filter_cons, GotAll, saidV, pVal] at hd
              unfold RichAt
              go_simp
              refine hK _ _ (Only.refl _) ?_
              exact rfl
            case refine_16 =>
              intro vs W hW hd K' hK
              simp [depsOf, Region.binds, List.filter_cons, GotAll, saidV, pVal] at hd
              unfold RichAt
              go_simp
              refine (bytes_any (d := d) (Or.inl ⟨rfl, HD0.out⟩) (by rw [HDL.out]; have := HUS.out; omega)).mono ?_
              rintro e w' ⟨sp', cap', rfl, hb, tt⟩
              exact ⟨_, rfl, hK _ _ tt ⟨sp', cap', rfl, hb.lower hW.size⟩⟩
          case hO10b =>
            simp only [List.forall_mem_cons]
            exact ⟨stab_val _, stab_val _, stab_val _, stab_val _, stab_val _, stab_val _, stab_val _, stab_val _, stab_val _, stab_val _, stab_val _, stab_val _, stab_val _, stab_val _, stab_val _, stab_byt _ _, stab_val _, stab_val _, fun _ h => by cases h⟩
          case hend10b =>
            intro vs W hW hg
            simp [List.range_succ, depsOf, Region.binds, List.filter_cons, GotAll, saidV, pVal] at hg
            obtain ⟨e0, e1, e2, e3, e4, e5, e6, e7, e8, e9, e10, e11, e12, e13, e14, e15, e16, e17⟩ := hg
            obtain ⟨sp5, cap5, e15, hb5⟩ := e15
            obtain ⟨hx5, t5⟩ := HX2.out.newdata HXX.out hW hb5
            have hxW := HX2.out.same (Below.turn hW (fun _ => False))
            obtain ⟨g6, cap6, ev6, -, k3, -, fr6⟩ := hxW.at HXX.out
            simp only [Value.slice.injEq, Option.some.injEq, Addr.mk.injEq] at ev6
            obtain ⟨⟨rfl, -, -⟩, -, rfl⟩ := ev6
            have g1 := fr6 (i * 3 + 1)
            have gz : g < W.heap.size := hxW.lt g (hxW.inR g rfl)
            obtain ⟨W5, hW5⟩ : ∃ W5, W5 = W.setCell ⟨g, i * 3 + 1, none⟩ (.slice sp5 d.length cap5) := ⟨_, rfl⟩
            rw [← hW5] at hx5 t5
            have hi5 : (l.set i { x with f := ⟨d, x.f.synced⟩, dv := .slice sp5 d.length cap5 })[i]? = some { x with f := ⟨d, x.f.synced⟩, dv := .slice sp5 d.length cap5 } := by
              rw [List.getElem?_set_self (by have := (List.getElem?_eq_some_iff.1 HXX.out).1; exact this)]
            have m1 := hx5.cells.c1
            obtain ⟨g7, cap7, ev7, -, -, m3, fr7⟩ := hx5.at hi5
            simp only [List.length_set, Value.slice.injEq, Option.some.injEq, Addr.mk.injEq] at ev7
            obtain ⟨⟨rfl, -, -⟩, -, rfl⟩ := ev7
            have m2 := fr7 (i * 3 + 2)
            have mz : g < W5.heap.size := hx5.lt g (hx5.inR g rfl)
            simp only at m3
            have HX5 := Lib.hid hx5
            have T5 := Lib.hid t5
            have HI5 := Lib.hid hi5
            clear hx5 t5 hxW fr6 fr7 hi5 hb5 hW c1 c3 c5 f1 f2 hgz
            simp only [List.drop_succ_cons, List.drop_zero, e0, e1, e2, e3, e4, e5, e6, e7, e8, e9, e10, e11, e12, e13, e14, e15, e16, e17]
            clear e0 e1 e2 e3 e4 e5 e6 e7 e8 e9 e10 e11 e12 e13 e14 e15 e16 e17
            go_wp2_with fail
            rw [← hW5]
            clear hW5 k3 g1 gz
            obtain ⟨M, hM⟩ : ∃ M : Nat, M = min x.f.synced 0 := ⟨_, rfl⟩
            have hMi : min (x.f.synced : Int) (0 : Int) = (M : Int) := by rw [hM]; omega
            have hfin : RPost w q { Fsp.stepped S with L := Fsp.put S.L s.data.toList ⟨d, min f.synced 0⟩ } Q (W5.drew.setCell ⟨g, i * 3 + 2, none⟩ (.int .i64 (M : Int))) := by
              have hx6 := HX5.out.same ((Turn.refl (fun _ => False) W5).drew)
              have tg : Turn (fun b => b = g) W5.drew (W5.drew.setCell ⟨g, i * 3 + 2, none⟩ (.int .i64 (M : Int))) := (Turn.refl (fun b => b = g) W5.drew).set _ _ (Or.inl rfl) _
              have hrow := own_cell (n := l.length) (by have := hx6.row; rw [List.length_set] at this; exact this) (i * 3 + 2) (.int .i64 (M : Int))
              rw [rfC_synced HI5.out] at hrow
              have hdN := hx6.data i _ HI5.out
              have hsep := hx6.sep i _ HI5.out
              have hinD := hx6.inD i _ HI5.out
              have hr := hx6.inplace (S' := { Fsp.stepped S with L := Fsp.put S.L s.data.toList ⟨d, min f.synced 0⟩ }) (x' := { x with f := ⟨d, M⟩, dv := .slice sp5 d.length cap5 }) HI5.out rfl tg (by rw [List.length_set]; exact hrow) (hdN.turned tg (fun h0 r hr e => (hsep h0 r hr).2 (by rw [e]; rfl))) (fun b hb => hb) (fun b hb => Nat.lt_of_lt_of_le (hx6.lt b hb) tg.size)
                (fun h0 r hr => ⟨hinD h0 r hr, (hsep h0 r hr).1, fun e => (hsep h0 r hr).2 (by rw [e]; rfl)⟩) (by
                  rw [← HPL.out, List.map_set, List.set_set]
                  simp only [RF.pair, HPX.out.1]
                  rw [hM, HPX.out.2]) ⟨rfl, rfl, rfl, rfl⟩
              have hQg : Q g := by
                rcases hx6.inR g rfl with k | k
                · exact k
                · have := HX2.out.lt g (HX2.out.inR g rfl); exact absurd k.1 (by omega)
              have s1 := T2.out.size
              have s5 := T5.out.size
              refine ⟨⟨_, _, hr.mono (fun b hb => ?_) (fun b hb => ?_)⟩, (((T2.out.inQ HQ.out.1).trans T5.out (fun _ _ e => e)).drew).trans (tg.mono fun b e => by rw [e]; exact hQg) (fun _ _ e => e)⟩
              · rcases hb with k | k
                · exact Or.inl k
                · exact Or.inr ⟨by have := k.1; omega, Nat.lt_of_lt_of_le k.2 tg.size⟩
              · rcases hb with k | k
                · have := HQ.out.2 b k
                  exact Nat.lt_of_lt_of_le (Nat.lt_of_lt_of_le this (Nat.le_trans s1 s5)) tg.size
                · exact k.2
            rw [Nat.min_zero] at hfin
            have HF := Lib.hid hfin
            clear hfin hM
            go_region
            all_goals go_wp2
            all_goals go_ret
            all_goals exact ⟨rfl, HF.out⟩
        · rw [hdv] at c3
          have hsn : SliceN w2 (.slice (some ad) f.data.length cp) f.data := Or.inr ⟨ad, cp, rfl, hcp, hsp, hcell⟩
          have hsn2 := hsn.take hK (by simp)
          rw [← HDD.out] at hsn2
          have HSN := Lib.hid hsn2
          have hcp2 : (K : Int) ≤ (cp : Int) := by omega
          have hK2 : (K : Int) ≤ (f.data.length : Int) := by omega
          clear hsn hsn2 hcell hdv
          go_upto_region 10 with (fail)
          refine wp_rich_tail 18 [pVal ?za0, pVal ?za1, pVal ?za2, pVal ?za3, pVal ?za4, pVal ?za5, pVal ?za6, pVal ?za7, pVal ?za8, pVal ?za9, pVal ?za10, pVal ?za11, pVal ?za12, pVal ?za13, pVal ?za14, pByt w2.heap.size d, pVal ?za16, pVal ?za17] (F := ?F10a) (by kernel_rfl) (by kernel_rfl) (by kernel_rfl) (by kernel_rfl) (by kernel_rfl) (by kernel_rfl) (by kernel_rfl) ?hF10a ?hst10a ?hO10a ?hend10a
          case hF10a =>
            intro vs
            simp only [List.take_succ_cons, List.take_zero, fills]
            go_simp
            exact rfl
          case hst10a =>
            simp only [List.take_succ_cons, List.take_zero, StepsP]
            refine ⟨?_, ?_, ?_, ?_, ?_, ?_, ?_, ?_, ?_, ?_, ?_, ?_, ?_, ?_, ?_, ?_, ?_, ?_, trivial⟩
            case refine_1 | refine_2 | refine_3 | refine_4 | refine_5 | refine_6 | refine_7 | refine_8 | refine_9 | refine_10 | refine_11 | refine_12 | refine_13 | refine_14 | refine_15 | refine_17 | refine_18 =>
              intro vs W hW hd K' hK
              have k1 := hW.cellM c1
              have k2 := hW.cellM c3
              simp [depsOf, Region.binds, List.filter_cons, GotAll, saidV, pVal] at hd
              unfold RichAt
              go_simp
              refine hK _ _ (Only.refl _) ?_
              exact rfl
            case refine_16 =>
              intro vs W hW hd K' hK
              simp [depsOf, Region.binds, List.filter_cons, GotAll, saidV, pVal] at hd
              unfold RichAt
              go_simp
              refine (bytes_any (d := d) ((HSN.out.only hW).toI) (by rw [HDL.out]; have := HUS.out; omega)).mono ?_
              rintro e w' ⟨sp', cap', rfl, hb, tt⟩
              exact ⟨_, rfl, hK _ _ tt ⟨sp', cap', rfl, hb.lower hW.size⟩⟩
          case hO10a =>
            simp only [List.forall_mem_cons]
            exact ⟨stab_val _, stab_val _, stab_val _, stab_val _, stab_val _, stab_val _, stab_val _, stab_val _, stab_val _, stab_val _, stab_val _, stab_val _, stab_val _, stab_val _, stab_val _, stab_byt _ _, stab_val _, stab_val _, fun _ h => by cases h⟩
          case hend10a =>
            intro vs W hW hg
            simp [List.range_succ, depsOf, Region.binds, List.filter_cons, GotAll, saidV, pVal] at hg
            obtain ⟨e0, e1, e2, e3, e4, e5, e6, e7, e8, e9, e10, e11, e12, e13, e14, e15, e16, e17⟩ := hg
            obtain ⟨sp5, cap5, e15, hb5⟩ := e15
            obtain ⟨hx5, t5⟩ := HX2.out.newdata HXX.out hW hb5
            have hxW := HX2.out.same (Below.turn hW (fun _ => False))
            obtain ⟨g6, cap6, ev6, -, k3, -, fr6⟩ := hxW.at HXX.out
            simp only [Value.slice.injEq, Option.some.injEq, Addr.mk.injEq] at ev6
            obtain ⟨⟨rfl, -, -⟩, -, rfl⟩ := ev6
            have g1 := fr6 (i * 3 + 1)
            have gz : g < W.heap.size := hxW.lt g (hxW.inR g rfl)
            obtain ⟨W5, hW5⟩ : ∃ W5, W5 = W.setCell ⟨g, i * 3 + 1, none⟩ (.slice sp5 d.length cap5) := ⟨_, rfl⟩
            rw [← hW5] at hx5 t5
            have hi5 : (l.set i { x with f := ⟨d, x.f.synced⟩, dv := .slice sp5 d.length cap5 })[i]? = some { x with f := ⟨d, x.f.synced⟩, dv := .slice sp5 d.length cap5 } := by
              rw [List.getElem?_set_self (by have := (List.getElem?_eq_some_iff.1 HXX.out).1; exact this)]
            have m1 := hx5.cells.c1
            obtain ⟨g7, cap7, ev7, -, -, m3, fr7⟩ := hx5.at hi5
            simp only [List.length_set, Value.slice.injEq, Option.some.injEq, Addr.mk.injEq] at ev7
            obtain ⟨⟨rfl, -, -⟩, -, rfl⟩ := ev7
            have m2 := fr7 (i * 3 + 2)
            have mz : g < W5.heap.size := hx5.lt g (hx5.inR g rfl)
            simp only at m3
            have HX5 := Lib.hid hx5
            have T5 := Lib.hid t5
            have HI5 := Lib.hid hi5
            clear hx5 t5 hxW fr6 fr7 hi5 hb5 hW c1 c3 c5 f1 f2 hgz
            simp only [List.drop_succ_cons, List.drop_zero, e0, e1, e2, e3, e4, e5, e6, e7, e8, e9, e10, e11, e12, e13, e14, e15, e16, e17]
            clear e0 e1 e2 e3 e4 e5 e6 e7 e8 e9 e10 e11 e12 e13 e14 e15 e16 e17
            go_wp2_with fail
            rw [← hW5]
            clear hW5 k3 g1 gz
            obtain ⟨M, hM⟩ : ∃ M : Nat, M = min x.f.synced K := ⟨_, rfl⟩
            have hMi : min (x.f.synced : Int) (K : Int) = (M : Int) := by rw [hM]; omega
            have hfin : RPost w q { Fsp.stepped S with L := Fsp.put S.L s.data.toList ⟨d, min f.synced K⟩ } Q (W5.drew.setCell ⟨g, i * 3 + 2, none⟩ (.int .i64 (M : Int))) := by
              have hx6 := HX5.out.same ((Turn.refl (fun _ => False) W5).drew)
              have tg : Turn (fun b => b = g) W5.drew (W5.drew.setCell ⟨g, i * 3 + 2, none⟩ (.int .i64 (M : Int))) := (Turn.refl (fun b => b = g) W5.drew).set _ _ (Or.inl rfl) _
              have hrow := own_cell (n := l.length) (by have := hx6.row; rw [List.length_set] at this; exact this) (i * 3 + 2) (.int .i64 (M : Int))
              rw [rfC_synced HI5.out] at hrow
              have hdN := hx6.data i _ HI5.out
              have hsep := hx6.sep i _ HI5.out
              have hinD := hx6.inD i _ HI5.out
              have hr := hx6.inplace (S' := { Fsp.stepped S with L := Fsp.put S.L s.data.toList ⟨d, min f.synced K⟩ }) (x' := { x with f := ⟨d, M⟩, dv := .slice sp5 d.length cap5 }) HI5.out rfl tg (by rw [List.length_set]; exact hrow) (hdN.turned tg (fun h0 r hr e => (hsep h0 r hr).2 (by rw [e]; rfl))) (fun b hb => hb) (fun b hb => Nat.lt_of_lt_of_le (hx6.lt b hb) tg.size)
                (fun h0 r hr => ⟨hinD h0 r hr, (hsep h0 r hr).1, fun e => (hsep h0 r hr).2 (by rw [e]; rfl)⟩) (by
                  rw [← HPL.out, List.map_set, List.set_set]
                  simp only [RF.pair, HPX.out.1]
                  rw [hM, HPX.out.2]) ⟨rfl, rfl, rfl, rfl⟩
              have hQg : Q g := by
                rcases hx6.inR g rfl with k | k
                · exact k
                · have := HX2.out.lt g (HX2.out.inR g rfl); exact absurd k.1 (by omega)
              have s1 := T2.out.size
              have s5 := T5.out.size
              refine ⟨⟨_, _, hr.mono (fun b hb => ?_) (fun b hb => ?_)⟩, (((T2.out.inQ HQ.out.1).trans T5.out (fun _ _ e => e)).drew).trans (tg.mono fun b e => by rw [e]; exact hQg) (fun _ _ e => e)⟩
              · rcases hb with k | k
                · exact Or.inl k
                · exact Or.inr ⟨by have := k.1; omega, Nat.lt_of_lt_of_le k.2 tg.size⟩
              · rcases hb with k | k
                · have := HQ.out.2 b k
                  exact Nat.lt_of_lt_of_le (Nat.lt_of_lt_of_le this (Nat.le_trans s1 s5)) tg.size
                · exact k.2
            have HF := Lib.hid hfin
            clear hfin hM
            go_region
            all_goals go_wp2
            all_goals go_ret
            all_goals exact ⟨rfl, HF.out⟩
end
end Go.Proofs.Ytpaekggmphahoaa
