/-
  exref1: a file's cells turned where they lie; Sync.
-/
import Derived.Test.YtpaekggmphahoaaERen
import Derived.RegionTactic
import Derived.BigRegion
import Derived.Deep.RegionHeld3
namespace Go.Proofs.Ytpaekggmphahoaa
open Go.RowKit Go.Maps Go.WideMaps
set_option linter.unusedVariables false
set_option linter.unusedSimpArgs false

/-- a cell of a row of ours is another one -/
theorem own_cell {w : World} {base n z g cap : Nat} {e : TypeId} {xs : List Value} (h : w.ownsRow base e z (.slice (some ⟨g, 0, none⟩) n cap) n xs) (j : Nat) (u : Value) : (w.setCell ⟨g, j, none⟩ u).ownsRow base e z (.slice (some ⟨g, 0, none⟩) n cap) n (xs.set j u) := by
  refine ⟨by rw [List.length_set]; exact h.1, ?_⟩
  rcases h.2 with ⟨hv, _⟩ | ⟨g', cap', cur, hv, hg, hh, h1, h2, h3, h4⟩
  · cases hv
  · simp only [Value.slice.injEq, Option.some.injEq, Addr.mk.injEq] at hv
    obtain ⟨⟨rfl, -, -⟩, -, rfl⟩ := hv
    refine Or.inr ⟨g, cap, cur.setIfInBounds j u, rfl, hg, hset hh u, h1, h2, by simpa using h3, ?_⟩
    rw [Array.toList_setIfInBounds, List.take_set, h4]

theorem rfC_synced {l : List RF} {i : Nat} {x : RF} (hx : l[i]? = some x) (k : Nat) : (rfC l).set (i * 3 + 2) (.int .i64 (k : Int)) = rfC (l.set i { x with f := ⟨x.f.data, k⟩ }) := by
  induction l generalizing i with
  | nil => simp at hx
  | cons y l ih =>
    have e : rfC (y :: l) = encStr y.name :: y.dv :: .int .i64 (y.f.synced : Int) :: rfC l := rfl
    cases i with
    | zero =>
      simp at hx; subst hx
      rw [e]; rfl
    | succ i =>
      rw [e, show (i + 1) * 3 + 2 = (i * 3 + 2) + 1 + 1 + 1 by omega, List.set_cons_succ, List.set_cons_succ, List.set_cons_succ, ih (by simpa using hx), List.set_cons_succ]
      rfl
theorem rfC_data {l : List RF} {i : Nat} {x : RF} (hx : l[i]? = some x) (d : List UInt8) (dv : Value) : (rfC l).set (i * 3 + 1) dv = rfC (l.set i { x with f := ⟨d, x.f.synced⟩, dv := dv }) := by
  induction l generalizing i with
  | nil => simp at hx
  | cons y l ih =>
    have e : rfC (y :: l) = encStr y.name :: y.dv :: .int .i64 (y.f.synced : Int) :: rfC l := rfl
    cases i with
    | zero =>
      simp at hx; subst hx
      rw [e]; rfl
    | succ i =>
      rw [e, show (i + 1) * 3 + 1 = (i * 3 + 1) + 1 + 1 + 1 by omega, List.set_cons_succ, List.set_cons_succ, List.set_cons_succ, ih (by simpa using hx), List.set_cons_succ]
      rfl
theorem set_put {L : FL} (hs : Fsp.Sorted L) {i : Nat} {n : List UInt8} {f0 f : Fsp.File} (h : L[i]? = some (n, f0)) : L.set i (n, f) = Fsp.put L n f := by
  induction L generalizing i with
  | nil => simp at h
  | cons x r ih =>
    obtain ⟨h1, h2⟩ := List.pairwise_cons.1 hs
    cases i with
    | zero =>
      simp at h
      rw [List.set_cons_zero, Fsp.put, if_pos (by rw [h])]
    | succ i =>
      have hm : (n, f0) ∈ r := List.mem_of_getElem? (i := i) (by simpa using h)
      have hlt := h1 _ hm
      rw [List.set_cons_succ, ih h2 (by simpa using h), Fsp.put, if_neg (fun e => Fsp.lt_irrefl' n (by rw [e] at hlt; exact hlt)), if_neg (Fsp.lt_asymm' hlt)]

section
variable {w w1 w2 w' : World} {q : Nat} {S S' : Fsp.Fs} {Q Q' : Nat → Prop} {v : Value} {l : List RF}
/-- a file is another one, where it lies -/
theorem RefX.inplace {g n cap i : Nat} {x x' : RF} (h : RefX w q S Q (.slice (some ⟨g, 0, none⟩) n cap) l) (hx : l[i]? = some x) (hnm : x'.name = x.name) (ht : Turn (fun b => b = g) w w')
    (hrow : w'.ownsRow 0 44 3 (.slice (some ⟨g, 0, none⟩) n cap) l.length (rfC (l.set i x'))) (hd : SliceN w' x'.dv x'.f.data) (hQ : ∀ b, Q b → Q' b) (hlt : ∀ b, Q' b → b < w'.heap.size)
    (hdQ : 0 < x'.f.data.length → ∀ r, x'.dv.ownBlock = some r → Q' r ∧ r ≠ q ∧ r ≠ g) (hL : S'.L = (l.map RF.pair).set i x'.pair) (hhd : S'.room = S.room ∧ S'.steps = S.steps ∧ S'.armed = S.armed ∧ S'.down = S.down) : RefX w' q S' Q' (.slice (some ⟨g, 0, none⟩) n cap) (l.set i x') := by
  have hgq : g ≠ q := fun e => h.ownq (by rw [e]; rfl)
  have hmem : ∀ (j : Nat) (y : RF), (l.set i x')[j]? = some y → y = x' ∨ l[j]? = some y := fun j y hy => by
    rw [List.getElem?_set] at hy
    split at hy
    · split at hy
      · exact Or.inl (Option.some.inj hy).symm
      · cases hy
    · exact Or.inr hy
  exact {
    head := by
      obtain ⟨e1, e2, e3, e4⟩ := hhd
      rw [e1, e2, e3, e4]
      exact (ht.block q (h.lt q h.inQ) (fun e => hgq e.symm)).trans h.head
    row := by rw [List.length_set]; exact hrow
    L := by rw [hL, List.map_set]
    data := fun j y hy => by
      rcases hmem j y hy with rfl | k
      · exact hd
      · exact (h.data j y k).turned ht (fun h0 r hr e => (h.sep j y k h0 r hr).2 (by rw [e]; rfl))
    sep := fun j y hy h0 r hr => by
      rcases hmem j y hy with rfl | k
      · exact ⟨(hdQ h0 r hr).2.1, fun e => (hdQ h0 r hr).2.2 (by cases e; rfl)⟩
      · exact h.sep j y k h0 r hr
    ownq := h.ownq
    inQ := hQ _ h.inQ
    inR := fun r e => hQ _ (h.inR r e)
    inD := fun j y hy h0 r hr => by
      rcases hmem j y hy with rfl | k
      · exact (hdQ h0 r hr).1
      · exact hQ _ (h.inD j y k h0 r hr)
    lt := hlt }

set_option maxRecDepth 100000 in
theorem rSync_any (h : RefX w q S Q v l) (hg : Fsp.Good S) (hs : S.steps < 9223372036854775807) (s : ByteArray) :
    Calls Try.prog 32 #[.pointer (some ⟨q, 0, none⟩), .string s] w fun r w' => r = .returned (.int .i64 (((Fsp.sync S s.data.toList).2 : Nat) : Int)) ∧ RPost w q (Fsp.sync S s.data.toList).1 Q w' := by
  have c4 := h.cells.c4
  have hl := Good.len hg h
  by_cases hd : S.down = true
  · have e : Fsp.sync S s.data.toList = (S, 5) := by unfold Fsp.sync; rw [if_pos hd]
    rw [e]
    rw [hd] at c4
    have HP := Lib.hid (h.post (Turn.refl _ w))
    clear e h hg hs hl hd
    go_enter Try.func32, Try.ntmps32
    go_wp2
    go_ret
    exact ⟨rfl, HP.out⟩
  · have hd' : S.down = false := by simpa using hd
    rw [hd'] at c4
    have AT := Lib.hid (rAt_any h s (by omega))
    cases ha : atN S.L s.data.toList with
    | none =>
      rw [ha] at AT
      have e : Fsp.sync S s.data.toList = (S, 2) := by unfold Fsp.sync; rw [if_neg hd, atN_none ha]
      rw [e]
      have HP := Lib.hid (h.post (Turn.refl _ w))
      clear e h hg hs hl hd hd' ha
      go_enter Try.func32, Try.ntmps32
      go_wp2_with fail
      go_at_call 42
      refine AT.out.mono ?_
      rintro r w1 ⟨rfl, rfl⟩
      rw [show atI none = -1 from rfl]
      go_wp2_with fail
      go_ret
      exact ⟨rfl, HP.out⟩
    | some i =>
      rw [ha] at AT
      obtain ⟨f, hat, hf⟩ := atN_some ha
      have FA := Lib.hid (rFails_any h hg.2.2.2.2.1 hs)
      have hi : ¬ ((i : Int) < 0) := by omega
      by_cases h1 : S.armed = 1
      · have e : Fsp.sync S s.data.toList = (Fsp.stepped S, 5) := by unfold Fsp.sync; rw [if_neg hd, hf]; simp only; rw [if_pos h1]
        rw [e]
        have hb : failsB S = true := decide_eq_true h1
        rw [hb] at FA
        clear e h hg hs hl hd hd' ha hf h1 hb hat
        go_enter Try.func32, Try.ntmps32
        go_wp2_with fail
        go_at_call 42
        refine AT.out.mono ?_
        rintro r w1 ⟨rfl, rfl⟩
        rw [show atI (some i) = (i : Int) from rfl]
        go_wp2_with fail
        go_at_call 55
        refine FA.out.mono ?_
        rintro r w2 ⟨rfl, hx2, t2⟩
        have HP := Lib.hid (rpost_step hx2 t2)
        clear hx2 t2 c4
        go_wp2_with fail
        go_ret
        exact ⟨rfl, HP.out⟩
      · have e : Fsp.sync S s.data.toList = ({ Fsp.stepped S with L := Fsp.put S.L s.data.toList ⟨f.data, f.data.length⟩ }, 0) := by unfold Fsp.sync; rw [if_neg hd, hf]; simp only; rw [if_neg h1]
        rw [e]
        have hb : failsB S = false := decide_eq_false h1
        rw [hb] at FA
        obtain ⟨x, hx⟩ : ∃ x, l[i]? = some x := by
          rw [h.L, List.getElem?_map] at hat
          cases hx : l[i]? with
          | none => rw [hx] at hat; cases hat
          | some x => exact ⟨x, rfl⟩
        have hpx : x.name = s.data.toList ∧ x.f = f := by
          rw [h.L, List.getElem?_map, hx] at hat
          simp only [Option.map_some, RF.pair, Option.some.injEq, Prod.mk.injEq] at hat
          exact hat
        have HPL : Hid ((l.map RF.pair).set i (s.data.toList, ⟨f.data, f.data.length⟩) = Fsp.put S.L s.data.toList ⟨f.data, f.data.length⟩) := Lib.hid (by rw [← h.L]; exact set_put hg.1 hat)
        have HQ := Lib.hid (And.intro h.inQ h.lt)
        have HXX := Lib.hid hx
        have HPX := Lib.hid hpx
        have hil : (i : Int) < (l.length : Int) := by have := (List.getElem?_eq_some_iff.1 hx).1; omega
        clear e h hg hs hl hd hd' ha hf h1 hb hat hpx hx
        go_enter Try.func32, Try.ntmps32
        go_wp2_with fail
        go_at_call 42
        refine AT.out.mono ?_
        rintro r w1 ⟨rfl, rfl⟩
        rw [show atI (some i) = (i : Int) from rfl]
        go_wp2_with fail
        go_at_call 55
        refine FA.out.mono ?_
        rintro r w2 ⟨rfl, hx2, t2⟩
        have c1 := hx2.cells.c1
        obtain ⟨g, cap, ev, c2, c3, c5, fr⟩ := hx2.at HXX.out
        subst ev
        obtain ⟨sd, cd, hdv, -⟩ := (hx2.data i x HXX.out).toR
        rw [hdv] at c3
        have f2 := fr (i * 3 + 2)
        have hgz : g < w2.heap.size := hx2.lt g (hx2.inR g rfl)
        replace hx2 := hx2.same ((Turn.refl (fun _ => False) w2).drew)
        have t2 := t2.drew
        have hfin : RPost w q { Fsp.stepped S with L := Fsp.put S.L s.data.toList ⟨f.data, f.data.length⟩ } Q (w2.drew.setCell ⟨g, i * 3 + 2, none⟩ (.int .i64 (x.f.data.length : Int))) := by
          have tg : Turn (fun b => b = g) w2.drew (w2.drew.setCell ⟨g, i * 3 + 2, none⟩ (.int .i64 (x.f.data.length : Int))) := (Turn.refl (fun b => b = g) w2.drew).set _ _ (Or.inl rfl) _
          have hrow := own_cell hx2.row (i * 3 + 2) (.int .i64 (x.f.data.length : Int))
          rw [rfC_synced HXX.out] at hrow
          have hr := hx2.inplace (S' := { Fsp.stepped S with L := Fsp.put S.L s.data.toList ⟨f.data, f.data.length⟩ }) (x' := { x with f := ⟨x.f.data, x.f.data.length⟩ }) HXX.out rfl tg hrow ((hx2.data i x HXX.out).turned tg (fun h0 r hr e => (hx2.sep i x HXX.out h0 r hr).2 (by rw [e]; rfl))) (fun b hb => hb) (fun b hb => Nat.lt_of_lt_of_le (hx2.lt b hb) tg.size)
            (fun h0 r hr => ⟨hx2.inD i x HXX.out h0 r hr, (hx2.sep i x HXX.out h0 r hr).1, fun e => (hx2.sep i x HXX.out h0 r hr).2 (by rw [e]; rfl)⟩) (by rw [← HPL.out]; simp only [RF.pair, HPX.out.1, HPX.out.2]) ⟨rfl, rfl, rfl, rfl⟩
          have hQg : Q g := hx2.inR g rfl
          exact ⟨⟨_, _, hr.mono (fun b hb => Or.inl hb) (fun b hb => by rcases hb with k | k; exact Nat.lt_of_lt_of_le (hx2.lt b k) tg.size; exact k.2)⟩, (t2.inQ HQ.out.1).trans (tg.mono fun b e => by rw [e]; exact hQg) (fun _ _ e => e)⟩
        have HF := Lib.hid hfin
        clear hx2 t2 fr hdv hfin c2
        go_wp2_with fail
        go_region
        all_goals go_wp2
        all_goals go_ret
        all_goals exact ⟨rfl, HF.out⟩
end
end Go.Proofs.Ytpaekggmphahoaa
