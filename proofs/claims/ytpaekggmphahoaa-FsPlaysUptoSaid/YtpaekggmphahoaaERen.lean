/-
  exref1: Rename.
-/
import Derived.Test.YtpaekggmphahoaaEOps1
namespace Go.Proofs.Ytpaekggmphahoaa
open Go.RowKit Go.Maps Go.WideMaps
set_option linter.unusedVariables false
set_option linter.unusedSimpArgs false

theorem put_first {L : FL} {n : List UInt8} {f : Fsp.File} (h : ∀ x ∈ L, n < x.1) : Fsp.put L n f = (n, f) :: L := by
  cases L with
  | nil => rfl
  | cons x r =>
    have hx := h x (List.mem_cons_self ..)
    unfold Fsp.put
    rw [if_neg (fun e => Fsp.lt_irrefl' n (by rw [e] at hx; exact hx)), if_pos hx]
theorem put_del {n : List UInt8} {f : Fsp.File} : ∀ {L : FL}, Fsp.Sorted L → Fsp.put (Fsp.del L n) n f = Fsp.put L n f
  | [], _ => rfl
  | x :: r, h => by
    obtain ⟨h1, h2⟩ := List.pairwise_cons.1 h
    by_cases e : x.1 = n
    · rw [show Fsp.del (x :: r) n = r by rw [Fsp.del, if_pos e], show Fsp.put (x :: r) n f = (n, f) :: r by rw [Fsp.put, if_pos e]]
      exact put_first fun y hy => by rw [← e]; exact h1 y hy
    · have hd : Fsp.del (x :: r) n = x :: Fsp.del r n := by rw [Fsp.del, if_neg e]
      rw [hd, Fsp.put, Fsp.put, if_neg e, if_neg e]
      by_cases e2 : n < x.1
      · rw [if_pos e2, if_pos e2, Fsp.del_none (Fsp.find_none_of_lt fun y hy => Fsp.lt_trans' e2 (h1 y hy))]
      · rw [if_neg e2, if_neg e2, put_del h2]
theorem del_comm {a b : List UInt8} (hab : a ≠ b) : ∀ (L : FL), Fsp.del (Fsp.del L a) b = Fsp.del (Fsp.del L b) a
  | [] => rfl
  | x :: r => by
    by_cases ha : x.1 = a
    · have hb : ¬ x.1 = b := fun e => hab (ha.symm.trans e)
      rw [Fsp.del, if_pos ha, show Fsp.del (x :: r) b = x :: Fsp.del r b by rw [Fsp.del, if_neg hb], Fsp.del, if_pos ha]
    · by_cases hb : x.1 = b
      · rw [show Fsp.del (x :: r) a = x :: Fsp.del r a by rw [Fsp.del, if_neg ha], Fsp.del, if_pos hb, show Fsp.del (x :: r) b = r by rw [Fsp.del, if_pos hb]]
      · rw [show Fsp.del (x :: r) a = x :: Fsp.del r a by rw [Fsp.del, if_neg ha], show Fsp.del (x :: r) b = x :: Fsp.del r b by rw [Fsp.del, if_neg hb], Fsp.del, if_neg hb, Fsp.del, if_neg ha, del_comm hab r]
/-- what the document's Rename makes of the files -/
theorem rmoved {L : FL} (hs : Fsp.Sorted L) {a b : List UInt8} {f : Fsp.File} (hf : Fsp.find L a = some f) : Fsp.put (Fsp.del L a) b f = if a = b then L else Fsp.put (Fsp.del (Fsp.del L b) a) b f := by
  by_cases e : a = b
  · subst e
    rw [if_pos rfl, put_del hs, Fsp.put_same hs hf]
  · rw [if_neg e, ← del_comm e, put_del (Fsp.del_sorted hs a)]

section
variable {w w1 w2 : World} {q : Nat} {S S' : Fsp.Fs} {Q : Nat → Prop} {v : Value} {l : List RF}

set_option maxRecDepth 100000 in
set_option maxHeartbeats 1000000 in
theorem rRename_any (h : RefX w q S Q v l) (hg : Fsp.Good S) (hs : S.steps < 9223372036854775807) (s t : ByteArray) (RV : ∀ w, Calls Try.prog 44 #[.string t] w fun r w' => r = .returned (.bool (Fsp.valid t.data.toList)) ∧ w = w') :
    Calls Try.prog 36 #[.pointer (some ⟨q, 0, none⟩), .string s, .string t] w fun r w' => r = .returned (.int .i64 (((Fsp.rename S s.data.toList t.data.toList).2 : Nat) : Int)) ∧ RPost w q (Fsp.rename S s.data.toList t.data.toList).1 Q w' := by
  have c4 := h.cells.c4
  have hl := Good.len hg h
  have HX := Lib.hid h
  have RV := Lib.hid RV
  by_cases hd : S.down = true
  · have e : Fsp.rename S s.data.toList t.data.toList = (S, 5) := by unfold Fsp.rename; rw [if_pos hd]
    rw [e]
    rw [hd] at c4
    have HP := Lib.hid (h.post (Turn.refl _ w))
    clear e h hg hs hl hd RV
    go_enter Try.func36, Try.ntmps36
    go_wp2_with fail
    go_ret
    exact ⟨rfl, HP.out⟩
  have hd' : S.down = false := by simpa using hd
  rw [hd'] at c4
  have AT := Lib.hid (rAt_any h s (by omega))
  cases ha : atN S.L s.data.toList with
  | none =>
    rw [ha] at AT
    have e : Fsp.rename S s.data.toList t.data.toList = (S, 2) := by unfold Fsp.rename; rw [if_neg hd, atN_none ha]
    rw [e]
    have HP := Lib.hid (h.post (Turn.refl _ w))
    clear e h hg hs hl hd hd' ha
    go_enter Try.func36, Try.ntmps36
    go_wp2_with fail
    go_at_call 42
    refine AT.out.mono ?_
    rintro r w1 ⟨rfl, rfl⟩
    rw [show atI none = -1 from rfl]
    go_wp2_with fail
    go_ret
    exact ⟨rfl, HP.out⟩
  | some i =>
    rw [ha] at AT
    obtain ⟨f, hat, hf⟩ := atN_some ha
    have hi : ¬ ((i : Int) < 0) := by omega
    cases hv : Fsp.valid t.data.toList with
    | false =>
      rw [hv] at RV
      have e : Fsp.rename S s.data.toList t.data.toList = (S, 1) := by unfold Fsp.rename; rw [if_neg hd, hf]; simp only; rw [if_pos hv]
      rw [e]
      have HP := Lib.hid (h.post (Turn.refl _ w))
      clear e h hg hs hl hd hd' ha hf hv hat
      go_enter Try.func36, Try.ntmps36
      go_wp2_with fail
      go_at_call 42
      refine AT.out.mono ?_
      rintro r w1 ⟨rfl, rfl⟩
      rw [show atI (some i) = (i : Int) from rfl]
      go_wp2_with fail
      go_at_call 44
      refine (RV.out _).mono ?_
      rintro r w0 ⟨rfl, rfl⟩
      go_wp2_with fail
      go_ret
      exact ⟨rfl, HP.out⟩
    | true =>
      rw [hv] at RV
      have hv0 : ¬ Fsp.valid t.data.toList = false := by rw [hv]; decide
      have FA := Lib.hid (rFails_any h hg.2.2.2.2.1 hs)
      by_cases h1 : S.armed = 1
      · have e : Fsp.rename S s.data.toList t.data.toList = (Fsp.stepped S, 5) := by unfold Fsp.rename; rw [if_neg hd, hf]; simp only; rw [if_neg hv0, if_pos h1]
        rw [e]
        have hb : failsB S = true := decide_eq_true h1
        rw [hb] at FA
        clear e h hg hs hl hd hd' hv hv0 ha hf h1 hb hat
        go_enter Try.func36, Try.ntmps36
        go_wp2_with fail
        go_at_call 42
        refine AT.out.mono ?_
        rintro r w1 ⟨rfl, rfl⟩
        rw [show atI (some i) = (i : Int) from rfl]
        go_wp2_with fail
        go_at_call 44
        refine (RV.out _).mono ?_
        rintro r w0 ⟨rfl, rfl⟩
        go_wp2_with fail
        go_at_call 55
        refine FA.out.mono ?_
        rintro r w2 ⟨rfl, hx2, t2⟩
        have HP := Lib.hid (rpost_step hx2 t2)
        clear hx2 t2 c4
        go_wp2_with fail
        go_ret
        exact ⟨rfl, HP.out⟩
      · have e : Fsp.rename S s.data.toList t.data.toList = ({ Fsp.stepped S with L := Fsp.put (Fsp.del S.L s.data.toList) t.data.toList f }, 0) := by
          unfold Fsp.rename
          rw [if_neg hd, hf]
          simp only
          rw [if_neg hv0, if_neg h1, rmoved hg.1 hf]
          by_cases e : s.data.toList = t.data.toList
          · rw [if_pos e, if_pos e, ← rstepped_L S]
          · rw [if_neg e, if_neg e]
        rw [e]
        have hb : failsB S = false := decide_eq_false h1
        rw [hb] at FA
        obtain ⟨x, hx⟩ : ∃ x, l[i]? = some x := by
          rw [h.L, List.getElem?_map] at hat
          cases hx : l[i]? with
          | none => rw [hx] at hat; cases hat
          | some x => exact ⟨x, rfl⟩
        have hpx : x.name = s.data.toList ∧ x.f = f := by
          rw [h.L, List.getElem?_map, hx] at hat
          simp only [Option.map_some, RF.pair, Option.some.injEq, Prod.mk.injEq] at hat
          exact hat
        have HDL : Hid ((goPut ⟨t.data.toList, x.f, x.dv⟩ (goDrop s.data.toList l) false).map RF.pair = Fsp.put (Fsp.del S.L s.data.toList) t.data.toList f) := Lib.hid (by
          have hso : Fsp.Sorted (l.map RF.pair) := by rw [← h.L]; exact hg.1
          rw [goPut_put (by rw [goDrop_del hso]; exact Fsp.del_sorted hso _), goDrop_del hso, ← h.L]
          show Fsp.put _ t.data.toList x.f = _
          rw [hpx.2])
        have HLN := Lib.hid hl
        have HQ := Lib.hid (And.intro h.inQ h.lt)
        have HXX := Lib.hid hx
        have hil : (i : Int) < (l.length : Int) := by have := (List.getElem?_eq_some_iff.1 hx).1; omega
        clear e h hg hs hl hd hd' hv hv0 ha hf h1 hb hat hpx hx
        go_enter Try.func36, Try.ntmps36
        go_wp2_with fail
        go_at_call 42
        refine AT.out.mono ?_
        rintro r w1 ⟨rfl, rfl⟩
        rw [show atI (some i) = (i : Int) from rfl]
        go_wp2_with fail
        go_at_call 44
        refine (RV.out _).mono ?_
        rintro r w0 ⟨rfl, rfl⟩
        go_wp2_with fail
        go_at_call 55
        refine FA.out.mono ?_
        rintro r w2 ⟨rfl, hx2, t2⟩
        have c1 := hx2.cells.c1
        obtain ⟨g, cap, ev, c2, c3, c5, -⟩ := hx2.at HXX.out
        rw [ev] at c1
        obtain ⟨sd, cd, hdv, -⟩ := (hx2.data i x HXX.out).toR
        obtain ⟨nb, hnb⟩ : ∃ nb : ByteArray, nb = ⟨x.name.toArray⟩ := ⟨_, rfl⟩
        rw [show encStr x.name = .string nb by rw [hnb]] at c2
        rw [hdv] at c3
        have HDV := Lib.hid hdv
        have HX2 := Lib.hid hx2
        have T2 := Lib.hid t2
        clear hx2 t2 c4 ev hnb hdv
        have hqW : q < w2.heap.size := HX2.out.lt q HX2.out.inQ
        have HQW := Lib.hid hqW
        obtain ⟨W, hW⟩ : ∃ W, W = w2.alloc (.cells #[.string nb, .slice sd x.f.data.length cd, .int .i64 (x.f.synced : Int)] 44) := ⟨_, rfl⟩
        have hbox : W.heap[w2.heap.size]? = some (.cells #[.string nb, .slice sd x.f.data.length cd, .int .i64 (x.f.synced : Int)] 44 (0, 0)) := by
          rw [hW]; exact heap_alloc_new _ _
        have tW : Turn (fun _ => False) w2 W := by rw [hW]; exact (Turn.refl _ w2).alloc _
        have hWs : W.heap.size = w2.heap.size + 1 := by rw [hW]; simp
        have hxW := HX2.out.same tW
        have DR := rDrop_any hxW s (by have := HLN.out; omega)
        rw [hW] at DR
        have DR := Lib.hid DR
        have HBW := Lib.hid hbox
        have HTW := Lib.hid tW
        have HW := Lib.hid hW
        have HWS := Lib.hid hWs
        clear hbox tW hxW hW hWs hqW
        go_wp2_with fail
        go_at_call 59
        refine DR.out.mono ?_
        rintro r w3 ⟨rfl, ⟨v3, hx3⟩, t3⟩
        rw [← HW.out] at hx3 t3
        have hqn : ¬ w2.heap.size = q := by have := HQW.out; omega
        have hb3 : w3.heap[w2.heap.size]? = _ := (t3.block _ (Array.getElem?_eq_some_iff.1 HBW.out).1 hqn).trans HBW.out
        have b0 : w3.cell? ⟨w2.heap.size, 0, none⟩ = some (.string nb) := by simp [World.cell?, hb3]
        have b1 : w3.cell? ⟨w2.heap.size, 1, none⟩ = some (.slice sd x.f.data.length cd) := by simp [World.cell?, hb3]
        have b2 : w3.cell? ⟨w2.heap.size, 2, none⟩ = some (.int .i64 (x.f.synced : Int)) := by simp [World.cell?, hb3]
        have bf : w3.frozen? ⟨w2.heap.size, 0, none⟩ = false := by simp [World.frozen?, hb3]
        have bz : w2.heap.size < w3.heap.size := (Array.getElem?_eq_some_iff.1 hb3).1
        obtain ⟨W4, hW4⟩ : ∃ W4, W4 = w3.setCell ⟨w2.heap.size, 0, none⟩ (.string t) := ⟨_, rfl⟩
        have t4 : Turn (fun b => b = w2.heap.size) w3 W4 := by rw [hW4]; exact (Turn.refl (fun b => b = w2.heap.size) w3).set _ 0 (Or.inl rfl) _
        have hT2s := T2.out.size
        have hWs := HWS.out
        have hBQ : ∀ b, Q b → b ≠ w2.heap.size := fun b hb => by have := HQ.out.2 b hb; omega
        have hx4 := hx3.turned t4 (fun b hb => by
          rcases hb with k | k
          · exact hBQ b k
          · have := k.1; omega)
        have hsl : SliceN W4 x.dv x.f.data := (((HX2.out.data i x HXX.out).turned HTW.out (fun _ _ _ e => e)).turned t3 (fun h0 r hr => (HX2.out.sep i x HXX.out h0 r hr).1)).turned t4 (fun h0 r hr => hBQ r (HX2.out.inD i x HXX.out h0 r hr))
        have PU := rPut_any hx4 ⟨t.data.toList, x.f, x.dv⟩ hsl (fun h0 r hr => ⟨Or.inl (HX2.out.inD i x HXX.out h0 r hr), (HX2.out.sep i x HXX.out h0 r hr).1⟩) (by
          have : (goDrop s.data.toList l).length ≤ l.length := by unfold goDrop; exact List.length_filter_le _ _
          have := HLN.out; omega)
        simp only [encStr_data, HDV.out] at PU
        rw [hW4] at PU
        have PU := Lib.hid PU
        have HW4 := Lib.hid hW4
        have T3 := Lib.hid t3
        have T4 := Lib.hid t4
        clear hx3 t3 hqn hb3 hW4 t4 hT2s hWs hBQ hx4 hsl c1 c2 c3 c5
        go_wp2_with fail
        go_at_call 56
        refine PU.out.mono ?_
        rintro r w5 ⟨rfl, ⟨v5, hx5⟩, t5⟩
        rw [← HW4.out] at hx5 t5
        have s1 := T2.out.size
        have s2 := HTW.out.size
        have s3 := T3.out.size
        have s4 := T4.out.size
        have s5 := t5.size
        have hWs := HWS.out
        have hqQ := HQ.out.1
        have TT : Turn Q w w5 := ((((T2.out.inQ hqQ).trans HTW.out (fun _ _ e => e.elim)).trans (T3.out.inQ hqQ) (fun _ _ e => e)).trans (Q' := fun b => b = w2.heap.size) T4.out (fun j hj e => by omega)).trans (t5.inQ hqQ) (fun _ _ e => e)
        have HP : RPost w q { Fsp.stepped S with L := Fsp.put (Fsp.del S.L s.data.toList) t.data.toList f } Q w5 := by
          rw [← HDL.out]
          have hdv := HDV.out
          refine ⟨⟨v5, goPut ⟨t.data.toList, x.f, x.dv⟩ (goDrop s.data.toList l) false, ?_⟩, TT⟩
          rw [hdv]
          refine hx5.mono (fun b hb => ?_) (fun b hb => ?_)
          · rcases hb with (k | k) | k
            · exact Or.inl k
            · exact Or.inr ⟨by have := k.1; omega, by have := k.2; omega⟩
            · exact Or.inr ⟨by have := k.1; omega, k.2⟩
          · rcases hb with k | k
            · have := HQ.out.2 b k; omega
            · exact k.2
        have HP := Lib.hid HP
        clear hx5 t5 TT s1 s2 s3 s4 s5 hWs hqQ b0 b1 b2 bf bz
        go_wp2_with fail
        go_ret
        exact ⟨rfl, HP.out⟩
end
end Go.Proofs.Ytpaekggmphahoaa
