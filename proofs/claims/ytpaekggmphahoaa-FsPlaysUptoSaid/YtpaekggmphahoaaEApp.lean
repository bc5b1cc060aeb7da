/-
  exref1: Append.
-/
import Derived.Test.YtpaekggmphahoaaETrunc
import Derived.Test.YtpaekggmphahoaaNRichT
import Derived.Deep.DeepCutAuto
namespace Go.Proofs.Ytpaekggmphahoaa
open Go.RowKit Go.Maps Go.WideMaps
set_option linter.unusedVariables false
set_option linter.unusedSimpArgs false

theorem rich_append {P : Program} {o : Oper} {a : Act} {w w' : World} {K : Value → World → Prop} (s x : Operand) (t : TypeId) (ho : o.op = .call { callee := .builtin .append, args := #[s, x], argTypes := #[t, t] }) {v u r : Value} (hs : a.eval s = v) (hx : a.eval x = u)
    (hr : (Builtin.append_ #[t, t] o.type #[v, u]).run P w = .ok r w') (k : K r w') : RichAt P o a w K := by
  refine rich_value (u := r) ?_ k
  unfold execOp
  simp only [ho, resolve, invoke, builtin, Sem.run_bind, Sem.run_pure, Result.andThen_ok, List.map_toArray, List.map_cons, List.map_nil, hs, hx, hr]

theorem turn_drewN (Q : Nat → Prop) (w : World) (n : Nat) : Turn Q w (w.drewN n) := ⟨(below_drewN 0 w n).os, (below_drewN 0 w n).tape, (below_drewN 0 w n).output, (below_drewN 0 w n).size, fun k hk _ => by rw [heap_drewN]⟩
set_option maxRecDepth 100000 in
/-- bytes behind bytes of our own -/
theorem append_run {w : World} {base : Nat} {v u : Value} {l d : List UInt8} (ty : TypeId) (hl : BytR w base v l) (hu : SliceI w u d) (hn : l.length + d.length ≤ 1000000000) (hbase : base ≤ w.heap.size) :
    ∃ sp cap w', (Builtin.append_ #[29, 29] ty #[v, u]).run Try.prog w = .ok (.slice sp (l ++ d).length cap) w' ∧ BytR w' base (.slice sp (l ++ d).length cap) (l ++ d) ∧ Below base w w' := by
  obtain ⟨i0, hi, hz0, hz1, hz2⟩ := info_parts Try.infoU8
  rcases hu with ⟨rfl, rfl⟩ | ⟨ad, cap, rfl, hc⟩
  · obtain ⟨sp2, cap2, e⟩ := hl.form
    subst e
    exact ⟨sp2, cap2, w, by rw [List.append_nil]; exact run_append_owned_none (P := Try.prog) (w := w) base 29 ty 5 i0 1 Try.underlying29 hi _ l.length _ hl, by simpa using hl, Below.refl _ _⟩
  · obtain ⟨v', w', hr, h2, h3, -, -⟩ := run_append_own_at (P := Try.prog) w base 29 ty 5 i0 (.int .u8 0) 1 1 Try.underlying29 hi hz0 hz1 hz2 rfl (by decide) v l.length _ hl ad d.length cap (d.map byteV) (by simp) (fun j y hj => by
        rw [List.getElem?_map] at hj
        obtain ⟨z, hz, rfl⟩ := Option.map_eq_some_iff.1 hj
        exact hc j z hz) (fun y hy => by
        obtain ⟨z, _, rfl⟩ := List.mem_map.1 hy
        rfl) (by unfold maxLen; omega) (by omega) hbase
    have hown2 : BytR w' base v' (l ++ d) := by unfold BytR; rw [List.length_append, List.map_append]; exact h2
    obtain ⟨sp, cap2, e⟩ := hown2.form
    subst e
    exact ⟨sp, cap2, w', hr, hown2, Below.grown (Below.refl _ _) h3 hbase fun k e => (hl.new k e).1⟩

theorem wanted_none {o : Oper} {ys : Nat → Option Bool} (h : o.guard = none) : Region.wanted o ys = true := by unfold Region.wanted; rw [h]
/-- what Append's region leaves, all together -/
def AX (w0 : World) (d b : List UInt8) (L : Array Bool) (vs : Nat → Value) (w : World) : Prop := Only w0 w ∧
  (L.getD 13 false = true → L.getD 15 false = false → ∃ sp cap, vs 13 = .slice sp d.length cap ∧ BytR w w0.heap.size (.slice sp d.length cap) d) ∧
  (L.getD 15 false = true → ∃ sp cap, vs 15 = .slice sp (d ++ b).length cap ∧ BytR w w0.heap.size (.slice sp (d ++ b).length cap) (d ++ b))
theorem AX.other {w0 w w' : World} {d b : List UInt8} {L : Array Bool} {vs : Nat → Value} {i : Nat} {v : Value} (h : AX w0 d b L vs w) (h1 : i ≠ 13) (h2 : i ≠ 15) (t : Only w w') : AX w0 d b (L.setIfInBounds i true) (upd vs i v) w' := by
  obtain ⟨k1, k2, k3⟩ := h
  refine ⟨k1.trans t, fun hl hl2 => ?_, fun hl => ?_⟩
  · rw [getD_set_ne false h1] at hl
    rw [getD_set_ne false h2] at hl2
    obtain ⟨sp, cap, e, r⟩ := k2 hl hl2
    exact ⟨sp, cap, by rw [upd_other vs v (Ne.symm h1)]; exact e, r.only t⟩
  · rw [getD_set_ne false h2] at hl
    obtain ⟨sp, cap, e, r⟩ := k3 hl
    exact ⟨sp, cap, by rw [upd_other vs v (Ne.symm h2)]; exact e, r.only t⟩
def pAny : Said := fun _ _ _ => True

section
variable {w w1 w2 w' : World} {q : Nat} {S S' : Fsp.Fs} {Q Q' : Nat → Prop} {v : Value} {l : List RF}

set_option maxRecDepth 100000 in
set_option maxHeartbeats 3200000 in
theorem rAppend_any (h : RefX w q S Q v l) (hg : Fsp.Good S) (hs : S.steps < 9223372036854775807) (s : ByteArray) {vb : Value} {b : List UInt8} (hb : ∀ W, Turn Q w W → SliceI W vb b) (hbl : b.length ≤ 100000000) :
    Calls Try.prog 30 #[.pointer (some ⟨q, 0, none⟩), .string s, vb] w fun r w' => r = .returned (.int .i64 (((Fsp.append S s.data.toList b).2 : Nat) : Int)) ∧ RPost w q (Fsp.append S s.data.toList b).1 Q w' := by
  have c4 := h.cells.c4
  have hl := Good.len hg h
  have hform : ∃ sb cb, vb = .slice sb b.length cb := by
    rcases hb w (Turn.refl _ _) with ⟨e, e2⟩ | ⟨ad, cap, e, -⟩
    · exact ⟨none, 0, by rw [e, e2]; rfl⟩
    · exact ⟨_, _, e⟩
  obtain ⟨sb, cb, rfl⟩ := hform
  have HB := Lib.hid hb
  clear hb
  by_cases hd : S.down = true
  · have e : Fsp.append S s.data.toList b = (S, 5) := by unfold Fsp.append; rw [if_pos hd]
    rw [e]
    rw [hd] at c4
    have HP := Lib.hid (h.post (Turn.refl _ w))
    clear e h hg hs hl hd
    go_enter Try.func30, Try.ntmps30
    go_wp2_with fail
    go_ret
    exact ⟨rfl, HP.out⟩
  have hd' : S.down = false := by simpa using hd
  rw [hd'] at c4
  have AT := Lib.hid (rAt_any h s (by omega))
  cases ha : atN S.L s.data.toList with
  | none =>
    rw [ha] at AT
    have e : Fsp.append S s.data.toList b = (S, 2) := by unfold Fsp.append; rw [if_neg hd, atN_none ha]
    rw [e]
    have HP := Lib.hid (h.post (Turn.refl _ w))
    clear e h hg hs hl hd hd' ha
    go_enter Try.func30, Try.ntmps30
    go_wp2_with fail
    go_at_call 42
    refine AT.out.mono ?_
    rintro r w1 ⟨rfl, rfl⟩
    rw [show atI none = -1 from rfl]
    go_wp2_with fail
    go_ret
    exact ⟨rfl, HP.out⟩
  | some i =>
    rw [ha] at AT
    obtain ⟨f, hat, hf⟩ := atN_some ha
    have hi : ¬ ((i : Int) < 0) := by omega
    have c0 := h.cells.c0
    have US := Lib.hid (show Hid (∀ n, Calls Try.prog 46 #[.pointer (some ⟨q, 0, none⟩)] (w.drewN n) fun r w' => r = .returned (.int .i64 (Fsp.usedOf S.L : Nat)) ∧ w.drewN n = w') from Lib.hid fun n => rUsed_any (h.same (turn_drewN _ w n)) (by omega) (by have := hg.2.1; have := hg.2.2.1; omega))
    obtain ⟨U, hU⟩ : ∃ U, U = Fsp.usedOf S.L := ⟨_, rfl⟩
    obtain ⟨R, hR⟩ : ∃ R, R = S.room := ⟨_, rfl⟩
    have hUR : U ≤ R := by rw [hU, hR]; exact hg.2.1
    have hRM : R ≤ 67108864 := by rw [hR]; exact hg.2.2.1
    rw [← hU] at US
    rw [← hR] at c0
    have u0 : (0 : Int) ≤ (U : Int) := by omega
    have u1 : (U : Int) ≤ (R : Int) := by omega
    have u2 : (R : Int) ≤ 67108864 := by omega
    by_cases hr : S.room < Fsp.usedOf S.L + b.length
    · have e : Fsp.append S s.data.toList b = (S, 4) := by unfold Fsp.append; rw [if_neg hd, hf]; simp only; rw [if_pos hr]
      rw [e]
      have HP := Lib.hid (fun n => h.post (turn_drewN _ w n))
      have hr2 : (R : Int) - (U : Int) < (b.length : Int) := by omega
      clear e h hg hs hl hd hd' ha hf hat hr hUR hRM hU hR
      go_enter Try.func30, Try.ntmps30
      go_wp2_with fail
      go_at_call 42
      refine AT.out.mono ?_
      rintro r w1 ⟨rfl, rfl⟩
      rw [show atI (some i) = (i : Int) from rfl]
      go_wp2_with fail
      go_quiet ((go_at_call 46; exact Calls.quiet_of_same ((US.out.out _).mono fun _ _ h => ⟨h.1, h.2.symm⟩)))
      go_wp2_with fail
      go_ret
      exact ⟨rfl, HP.out _⟩
    · have hr2 : ¬ ((R : Int) - (U : Int) < (b.length : Int)) := by omega
      have FA := Lib.hid (fun n => rFails_any (h.same (turn_drewN _ w n)) hg.2.2.2.2.1 hs)
      by_cases h1 : S.armed = 1
      · have e : Fsp.append S s.data.toList b = (Fsp.stepped S, 5) := by unfold Fsp.append; rw [if_neg hd, hf]; simp only; rw [if_neg hr, if_pos h1]
        rw [e]
        have hb : failsB S = true := decide_eq_true h1
        rw [hb] at FA
        clear e h hg hs hl hd hd' ha hf hat hr hUR hRM hU hR h1 hb
        go_enter Try.func30, Try.ntmps30
        go_wp2_with fail
        go_at_call 42
        refine AT.out.mono ?_
        rintro r w1 ⟨rfl, rfl⟩
        rw [show atI (some i) = (i : Int) from rfl]
        go_wp2_with fail
        go_quiet ((go_at_call 46; exact Calls.quiet_of_same ((US.out.out _).mono fun _ _ h => ⟨h.1, h.2.symm⟩)))
        go_wp2_with fail
        go_at_call 55
        refine (FA.out _).mono ?_
        rintro r w2 ⟨rfl, hx2, t2'⟩
        have t2 := (turn_drewN (fun b => b = q) w _).trans t2' (fun _ _ e => e)
        have HP := Lib.hid (rpost_step hx2 t2)
        clear hx2 t2 t2' c4 c0
        go_wp2_with fail
        go_ret
        exact ⟨rfl, HP.out⟩
      · have e : Fsp.append S s.data.toList b = ({ Fsp.stepped S with L := Fsp.put S.L s.data.toList ⟨f.data ++ b, f.synced⟩ }, 0) := by unfold Fsp.append; rw [if_neg hd, hf]; simp only; rw [if_neg hr, if_neg h1]
        rw [e]
        have hb : failsB S = false := decide_eq_false h1
        rw [hb] at FA
        obtain ⟨x, hx⟩ : ∃ x, l[i]? = some x := by
          rw [h.L, List.getElem?_map] at hat
          cases hx : l[i]? with
          | none => rw [hx] at hat; cases hat
          | some x => exact ⟨x, rfl⟩
        have hpx : x.name = s.data.toList ∧ x.f = f := by
          rw [h.L, List.getElem?_map, hx] at hat
          simp only [Option.map_some, RF.pair, Option.some.injEq, Prod.mk.injEq] at hat
          exact hat
        have hil : (i : Int) < (l.length : Int) := by have := (List.getElem?_eq_some_iff.1 hx).1; omega
        obtain ⟨g, cap, ev, -, -, -, -⟩ := h.at hx
        subst ev
        have HPL : Hid ((l.map RF.pair).set i (s.data.toList, ⟨f.data ++ b, f.synced⟩) = Fsp.put S.L s.data.toList ⟨f.data ++ b, f.synced⟩) := Lib.hid (by rw [← h.L]; exact set_put hg.1 hat)
        have HQ := Lib.hid (And.intro h.inQ h.lt)
        have HXX := Lib.hid hx
        have HPX := Lib.hid hpx
        have HUS := Lib.hid (show f.data.length ≤ 67108864 by have := Fsp.used_find hf; omega)
        obtain ⟨d, hdd⟩ : ∃ d, d = f.data := ⟨_, rfl⟩
        have HDD := Lib.hid hdd
        clear e h hg hs hl hd hd' ha hf hat hr hUR hRM hU hR h1 hb hx hpx hdd
        go_enter Try.func30, Try.ntmps30
        go_wp2_with fail
        go_at_call 42
        refine AT.out.mono ?_
        rintro r w1 ⟨rfl, rfl⟩
        rw [show atI (some i) = (i : Int) from rfl]
        go_wp2_with fail
        go_quiet ((go_at_call 46; exact Calls.quiet_of_same ((US.out.out _).mono fun _ _ h => ⟨h.1, h.2.symm⟩)))
        go_wp2_with fail
        go_at_call 55
        refine (FA.out _).mono ?_
        rintro r w2 ⟨rfl, hx2, t2'⟩
        have t2 := (turn_drewN (fun b => b = q) w _).trans t2' (fun _ _ e => e)
        have c1 := hx2.cells.c1
        obtain ⟨g', cap', ev, -, c3, -, fr⟩ := hx2.at HXX.out
        simp only [Value.slice.injEq, Option.some.injEq, Addr.mk.injEq] at ev
        obtain ⟨⟨rfl, -, -⟩, -, rfl⟩ := ev
        have hdn := hx2.data i x HXX.out
        rw [HPX.out.2, ← HDD.out] at hdn
        obtain ⟨sd, cd, hdv, -⟩ := hdn.toR
        rw [hdv] at c3 hdn
        have HDN := Lib.hid hdn
        have HSB := Lib.hid (HB.out w2 (t2.inQ HQ.out.1))
        have HX2 := Lib.hid hx2
        have T2 := Lib.hid t2
        clear hx2 t2 t2' fr hdn hdv c4 c0
        go_upto_region 10 with (fail)
        refine wp_rich_tailT 18 (fun _ _ => True) (AX w2 d b) [pVal ?z0, pVal ?z1, pVal ?z2, pVal ?z3, pVal ?z4, pVal ?z5, pVal ?z6, pVal ?z7, pVal ?z8, pVal ?z9, pVal ?z10, pVal ?z11, pVal ?z12, pAny, pVal ?z14, pAny, pVal ?z16, pVal ?z17] [false, false, false, false, false, false, false, false, false, false, false, false, false, true, false, true, false, false] (F := ?F10) (by kernel_rfl) (by kernel_rfl) (by kernel_rfl) (by kernel_rfl) (by kernel_rfl) (by kernel_rfl) (by kernel_rfl) ?hF10 (fun _ _ _ => trivial) (fun _ _ _ h => h.1) ?hX10 ?hO10 ?h010 ?hst10 ?hend10
        case hF10 =>
          intro vs
          simp only [List.take_succ_cons, List.take_zero, fills]
          go_simp
          exact rfl
        case hX10 =>
          intro i L vs W v W' hi hX tt
          refine hX.other ?_ ?_ tt <;> (rintro rfl; exact absurd hi (by decide))
        case h010 =>
          intro vs
          refine ⟨(Only.refl w2).drew, ?_, ?_⟩ <;> (intro h; rw [getD_replicate_false] at h; cases h)
        case hst10 =>
          simp only [List.take_succ_cons, List.take_zero, StepsX]
          refine ⟨?_, ?_, ?_, ?_, ?_, ?_, ?_, ?_, ?_, ?_, ?_, ?_, ?_, ?_, ?_, ?_, ?_, ?_, trivial⟩
          case refine_1 | refine_2 | refine_3 | refine_4 | refine_5 | refine_6 | refine_7 | refine_8 | refine_9 | refine_10 | refine_11 | refine_12 | refine_13 | refine_15 | refine_17 | refine_18 =>
            intro vs W hW hd K' hK
            have k1 := hW.cellM c1
            have k2 := hW.cellM c3
            simp [depsOf, Region.binds, List.filter_cons, GotAll, saidV, pVal] at hd
            unfold RichAt
            go_simp
            refine hK _ _ (Only.refl _) ?_
            exact rfl
          case refine_14 =>
            intro L vs W hL hX hu hcl hg hdl hd K' hK
            have hn : L.getD 15 false = false := by
              cases h : L.getD 15 false with
              | false => rfl
              | true => exact absurd (hcl 15 _ rfl h 13 (by decide)) (by rw [hu]; decide)
            have e12 := hg 12 (hdl 12 (by decide)) _ rfl
            simp [saidV] at e12
            clear hg hcl hdl hd
            unfold RichAt
            go_simp
            refine (bytes_any (d := d) ((HDN.out.only hX.1).toI) (by rw [HDD.out]; have := HUS.out; omega)).mono ?_
            rintro e w' ⟨sp', cap', rfl, hb, tt⟩
            refine ⟨_, rfl, hK _ _ trivial trivial ?_⟩
            refine ⟨hX.1.trans tt, fun _ _ => ⟨sp', cap', upd_same _ _ _, hb.lower hX.1.size⟩, fun hl => ?_⟩
            rw [getD_set_ne false (by decide), hn] at hl
            cases hl
          case refine_16 =>
            intro L vs W hL hX hu hcl hg hdl hd K' hK
            have l13 := hdl 13 (by decide)
            have e14 := hg 14 (hdl 14 (by decide)) _ rfl
            simp [saidV] at e14
            obtain ⟨sp0, cap0, e13, hb0⟩ := hX.2.1 l13 hu
            obtain ⟨sp1, cap1, w', hrun, hb1, hB1⟩ := append_run 29 hb0 (HSB.out.only hX.1) (by rw [HDD.out]; have := HUS.out; omega) hX.1.size
            clear hg hcl hdl hd
            rw [wanted_none]
            rotate_left
            · rfl
            rw [if_pos rfl]
            refine rich_append (.tmp 42) (.tmp 43) 29 rfl (v := .slice sp0 d.length cap0) (u := .slice sb b.length cb) e13 e14 hrun ?_
            refine hK _ _ trivial trivial ?_
            refine ⟨Below.trans hX.1 hB1, fun _ hl => ?_, fun _ => ⟨sp1, cap1, upd_same _ _ _, hb1⟩⟩
            have h18 : L.size = 18 := by rw [hL]; rfl
            have h15 : (L.setIfInBounds 15 true).getD 15 false = true := by simp [h18]
            rw [h15] at hl
            cases hl
        case hO10 =>
          simp only [List.forall_mem_cons]
          exact ⟨fun _ _ _ _ _ h => h, fun _ _ _ _ _ h => h, fun _ _ _ _ _ h => h, fun _ _ _ _ _ h => h, fun _ _ _ _ _ h => h, fun _ _ _ _ _ h => h, fun _ _ _ _ _ h => h, fun _ _ _ _ _ h => h, fun _ _ _ _ _ h => h, fun _ _ _ _ _ h => h, fun _ _ _ _ _ h => h, fun _ _ _ _ _ h => h, fun _ _ _ _ _ h => h, fun _ _ _ _ _ h => h, fun _ _ _ _ _ h => h, fun _ _ _ _ _ h => h, fun _ _ _ _ _ h => h, fun _ _ _ _ _ h => h, fun _ h => by cases h⟩
        case hend10 =>
          intro vs W hX hg
          obtain ⟨sp5, cap5, e15, hb5⟩ := hX.2.2 (by decide)
          have hW := hX.1
          simp [List.range_succ, depsOf, Region.binds, List.filter_cons, GotAll, saidV, pVal, pAny] at hg
          obtain ⟨e0, e1, e2, e3, e4, e5, e6, e7, e8, e9, e10, e11, e12, e14, e16, e17⟩ := hg
          obtain ⟨hx5, t5⟩ := HX2.out.newdata HXX.out hW hb5
          have hxW := HX2.out.same (Below.turn hW (fun _ => False))
          obtain ⟨g6, cap6, ev6, -, k3, -, fr6⟩ := hxW.at HXX.out
          simp only [Value.slice.injEq, Option.some.injEq, Addr.mk.injEq] at ev6
          obtain ⟨⟨rfl, -, -⟩, -, rfl⟩ := ev6
          have g1 := fr6 (i * 3 + 1)
          have gz : g < W.heap.size := hxW.lt g (hxW.inR g rfl)
          have hfin : RPost w q { Fsp.stepped S with L := Fsp.put S.L s.data.toList ⟨f.data ++ b, f.synced⟩ } Q (W.setCell ⟨g, i * 3 + 1, none⟩ (.slice sp5 (d ++ b).length cap5)) := by
            have s1 := T2.out.size
            have s2 := t5.size
            have eL : (l.map RF.pair).set i (x.name, ⟨d ++ b, x.f.synced⟩) = Fsp.put S.L s.data.toList ⟨f.data ++ b, f.synced⟩ := by
              rw [HPX.out.1, HPX.out.2, HDD.out]; exact HPL.out
            have hx6 := hx5
            rw [eL] at hx6
            exact ⟨⟨_, _, hx6.mono (fun b' hb' => by
              rcases hb' with k | k
              · exact Or.inl k
              · exact Or.inr ⟨by have := k.1; omega, k.2⟩) (fun b' hb' => by
              rcases hb' with k | k
              · have := HQ.out.2 b' k; omega
              · exact k.2)⟩, (T2.out.inQ HQ.out.1).trans t5 (fun _ _ e => e)⟩
          rw [List.length_append] at hfin
          have HF := Lib.hid hfin
          clear hfin hx5 t5 hxW fr6 hb5 hW hX c1 c3
          simp only [List.drop_succ_cons, List.drop_zero, e0, e1, e2, e3, e4, e5, e6, e7, e8, e9, e10, e11, e12, e14, e15, e16, e17]
          clear e0 e1 e2 e3 e4 e5 e6 e7 e8 e9 e10 e11 e12 e14 e15 e16 e17
          go_wp2_with fail
          go_ret
          exact ⟨rfl, HF.out⟩
end
end Go.Proofs.Ytpaekggmphahoaa
