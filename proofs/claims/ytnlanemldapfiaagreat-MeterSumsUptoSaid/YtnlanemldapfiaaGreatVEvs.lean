/-
  Lists of events in memory, of the call's own.
-/
import Derived.Test.YtnlanemldapfiaaGreatVAcc
import Derived.Test.YtnlanemldapfiaaGreatV5Row
namespace Go.Proofs.YtnlanemldapfiaaGreat.se
open Go.RowKit Go.Maps Go.WideMaps Go.Shelf Go.Sort Go.Proofs.YtnlanemldapfiaaGreat.Tb
set_option linter.unusedVariables false

theorem infoEv : (Tryz.prog.info? 32).map (fun i => (i.zero, i.size, i.bytes)) = some (some (.agg #[.string ⟨#[]⟩, .string ⟨#[]⟩, .string ⟨#[]⟩, .int .i64 0, .int .i64 0]), 5, 64) := by kernel_rfl
theorem infoEv_parts : ∃ i, Tryz.prog.info? 32 = some i ∧ i.zero = some (.agg #[.string ⟨#[]⟩, .string ⟨#[]⟩, .string ⟨#[]⟩, .int .i64 0, .int .i64 0]) ∧ i.size = 5 ∧ i.bytes = 64 := by
  have h := infoEv
  cases hi : Tryz.prog.info? 32 with
  | none => rw [hi] at h; simp at h
  | some i =>
    rw [hi] at h
    simp only [Option.map_some, Option.some.injEq, Prod.mk.injEq] at h
    exact ⟨i, rfl, h.1, h.2.1, h.2.2⟩

/-- the cells of events -/
def evC (l : List Ev) : List Value := l.flatMap st.cellsE
theorem evC_length (l : List Ev) : (evC l).length = l.length * 5 := by
  induction l with
  | nil => rfl
  | cons x l ih => simp [evC, st.cellsE] at ih ⊢; omega
theorem evC_append (l m : List Ev) : evC (l ++ m) = evC l ++ evC m := by simp [evC]

def EvO (w : World) (base : Nat) (v : Value) (l : List Ev) : Prop := w.ownsRow base 32 5 v l.length (evC l)
theorem EvO.nil (w : World) (base : Nat) : EvO w base (.slice none 0 0) [] := World.ownsRow_nil _ _ _ _
theorem EvO.later {w w' : World} {base : Nat} {v : Value} {l : List Ev} (h : EvO w base v l) (t : Turn (fun _ => False) w w') : EvO w' base v l := ownsRow_turned h t (fun _ _ q => q)
theorem EvO.form {w : World} {base : Nat} {v : Value} {l : List Ev} (h : EvO w base v l) : (v = .slice none 0 0 ∧ l = []) ∨ ∃ g cap, v = .slice (some ⟨g, 0, none⟩) l.length cap ∧ base ≤ g ∧ ∃ tail, w.heap[g]? = some (.cells (evC l ++ tail).toArray 32) := by
  rcases h.2 with ⟨hv, hn⟩ | ⟨g, cap, cur, hv, hg, hh, h1, h2, h3, h4⟩
  · exact .inl ⟨hv, List.length_eq_zero_iff.1 hn⟩
  · refine .inr ⟨g, cap, hv, hg, cur.toList.drop (l.length * 5), ?_⟩
    rw [hh, ← h4, List.take_append_drop]

/-- what append leaves -/
theorem append_ev {w : World} {base : Nat} {v : Value} {l : List Ev} {y : Ev} {g : Nat} (hl : EvO w base v l) (hg : w.heap[g]? = some (evBox y)) (hn : l.length ≤ 1000000) (hbase : base ≤ w.heap.size) :
    ∃ v' w', Sem.run Tryz.prog (Builtin.append_ #[22, 22] 22 #[v, .slice (some ⟨g, 0, none⟩) 1 1]) w = .ok v' w' ∧ EvO w' base v' (l ++ [y]) ∧ w.grownBy w' v.ownBlock := by
  obtain ⟨i0, hi, hz0, hz1, hz2⟩ := infoEv_parts
  obtain ⟨⟨c0, c1, c2, c3, c4⟩, _⟩ := ev_open hg
  obtain ⟨v', w', hr, h2, h3, _⟩ := @run_append_own_at Tryz.prog w base 22 22 32 i0 (.agg #[.string ⟨#[]⟩, .string ⟨#[]⟩, .string ⟨#[]⟩, .int .i64 0, .int .i64 0]) 5 64 Tryz.underlying22 hi hz0 hz1 hz2 rfl (by decide) v l.length _ hl ⟨g, 0, none⟩ 1 1 [strE y.key, strE y.acc, strE y.met, .int .i64 y.qty, .int .i64 y.at_] rfl
    (fun j u hj => by
      rw [add_atV]
      rcases j with _ | _ | _ | _ | _ | j
      · simp at hj; subst hj; exact c0
      · simp at hj; subst hj; exact c1
      · simp at hj; subst hj; exact c2
      · simp at hj; subst hj; exact c3
      · simp at hj; subst hj; exact c4
      · simp at hj)
    (fun u hu => by simp at hu; rcases hu with rfl | rfl | rfl | rfl | rfl <;> rfl) (by unfold maxLen; omega) (by omega) hbase
  refine ⟨v', w', hr, ?_, h3⟩
  unfold EvO
  rw [List.length_append, evC_append]
  exact h2

/-- where the gathering stands -/
structure EvI (w : World) (Lb B mp : Nat) (acc : List UInt8) (fr to : Int) (t : Tr Key Val) (n₀ : Nat) (pre : List (EvT t)) (W : World) : Prop where
  dur : DurAt W B mp acc fr to t
  row : ∃ v, W.heap[Lb]? = some (.cells #[v] 22) ∧ EvO W n₀ v (pre.map Subtype.val)
  turn : Turn (fun _ => False) w W
  size : n₀ ≤ W.heap.size

theorem EvO.kept {w w' : World} {base : Nat} {v : Value} {l : List Ev} {row : Option Nat} (h : EvO w base v l) (hg : w.grownBy w' row) (hr : ∀ r, row = some r → ∃ o : Obj, w.heap[r]? = some o ∧ o.isCells = false) : EvO w' base v l := by
  refine World.ownsRow.kept h hg ?_
  rcases h.form with ⟨rfl, _⟩ | ⟨g, cap, rfl, _, tail, hh⟩
  · exact .inl rfl
  · refine .inr fun e => ?_
    obtain ⟨o, ho, hc⟩ := hr g e.symm
    rw [hh] at ho; cases ho; cases hc

theorem DurAt.turned {W W' : World} {Q : Nat → Prop} {B mp : Nat} {acc : List UInt8} {fr to : Int} {t : Tr Key Val} (h : DurAt W B mp acc fr to t) (ht : Turn Q W W') (h0 : ¬ Q B) (h1 : ¬ Q (B + 1)) (h2 : ¬ Q (B + 2)) (h3 : ¬ Q (B + 3)) (hm : ¬ Q mp) (hn : NoNode W Q) : DurAt W' B mp acc fr to t := by
  obtain ⟨s, root, ver, rep, hmm, htr⟩ := h.met
  exact ⟨turned_cell h.c0 ht h0, turned_cell h.c1 ht h1, turned_cell h.c2 ht h2, turned_cell h.c3 ht h3, s, root, ver, rep, hmm.later ht hm, htr.turned ht hn⟩

theorem evI_from {w : World} {Lb B mp n₀ n : Nat} {acc : List UInt8} {fr to : Int} {t : Tr Key Val} (h1 : w.heap.size ≤ n) : OwnFrom n (EvI w Lb B mp acc fr to t n₀) := by
  rintro pre A B' row ⟨i1, ⟨v, i2, i3⟩, i5, i6⟩ hg hr
  have hr2 := fun r e => (hr r e).2
  exact ⟨i1.kept hg hr2, ⟨v, (grownBy_keeps_cells hg hr2 i2 rfl).trans i2, i3.kept hg hr2⟩, turn_later i5 hg (fun r e => Nat.le_trans h1 (hr r e).1), Nat.le_trans i6 hg.size⟩

/-- a round: one event more -/
theorem ev_post {w W W4 w' : World} {Lb B mp n₀ : Nat} {acc : List UInt8} {fr to : Int} {t : Tr Key Val} {pre : List (EvT t)} {v v' : Value} {x : EvT t} (hI : EvI w Lb B mp acc fr to t n₀ pre W) (hv : W.heap[Lb]? = some (.cells #[v] 22)) (ho : EvO W n₀ v (pre.map Subtype.val)) (t4 : Turn (fun _ => False) W W4)
    (ho' : EvO w' n₀ v' (pre.map Subtype.val ++ [x.1])) (hg : W4.grownBy w' v.ownBlock) (hB : Lb < B ∧ B + 3 < n₀) (hm : mp < w.heap.size) (hL : w.heap.size ≤ Lb) :
    Stays n₀ W (w'.setCell ⟨Lb, 0, none⟩ v') ∧ EvI w Lb B mp acc fr to t n₀ (pre ++ [x]) (w'.setCell ⟨Lb, 0, none⟩ v') := by
  have hown : ∀ r, v.ownBlock = some r → n₀ ≤ r ∧ ∃ cs, W.heap[r]? = some (.cells cs 32) := fun r e => by
    rcases ho.form with ⟨rfl, _⟩ | ⟨g, cap, rfl, hgg, tail, hh⟩
    · cases e
    · simp [Value.ownBlock] at e; subst e; exact ⟨hgg, _, hh⟩
  have T1 : Turn (fun b => some b = v.ownBlock) W w' := (t4.mono (fun _ q => q.elim)).trans (turn_row hg) (fun _ _ q => q)
  have T : Turn (fun b => some b = v.ownBlock ∨ b = Lb) W (w'.setCell ⟨Lb, 0, none⟩ v') :=
    Turn.setCell (Q := fun b => some b = v.ownBlock ∨ b = Lb) (T1.mono (fun _ q => Or.inl q)) (p := ⟨Lb, 0, none⟩) (Or.inl (Or.inr rfl)) v'
  have hLB : ∀ o, W.heap[Lb]? = some o → o = .cells #[v] 22 := fun o h => by rw [hv] at h; cases h; rfl
  have hvw : w'.heap[Lb]? = some (.cells #[v] 22) := (T1.block Lb (Array.getElem?_eq_some_iff.1 hv).1 (fun e => by have := (hown Lb e.symm).1; omega)).trans hv
  have hnn : NoNode W (fun b => some b = v.ownBlock ∨ b = Lb) := by
    rintro b cs fr2 (e | rfl) hb
    · obtain ⟨_, cs2, h2⟩ := hown b e.symm
      rw [h2] at hb; cases hb
    · cases hLB _ hb
  refine ⟨⟨T.size, fun k o hk hko hn => (T.block k (Array.getElem?_eq_some_iff.1 hko).1 ?_).trans hko, KeepsN.turn T hnn⟩, ?_⟩
  · rintro (e | rfl)
    · obtain ⟨_, cs2, h2⟩ := hown k e.symm
      rw [h2] at hko
      cases hko
      exact hn _ _ rfl
    · omega
  · refine ⟨hI.dur.turned T ?_ ?_ ?_ ?_ ?_ hnn, ⟨v', (heap_setCell_same hvw v'), ?_⟩, ?_, Nat.le_trans hI.size T.size⟩
    · rintro (e | e)
      · have := (hown _ e.symm).1; omega
      · omega
    · rintro (e | e)
      · have := (hown _ e.symm).1; omega
      · omega
    · rintro (e | e)
      · have := (hown _ e.symm).1; omega
      · omega
    · rintro (e | e)
      · have := (hown _ e.symm).1; omega
      · omega
    · rintro (e | e)
      · have := (hown _ e.symm).1; omega
      · omega
    · rw [List.map_append]
      refine ownsRow_turned ho' (turn1 w' Lb 0 v') ?_
      intro b hb e
      subst e
      rcases ho'.form with ⟨rfl, _⟩ | ⟨g, cap, rfl, hgg, _⟩
      · cases hb
      · simp [Value.ownBlock] at hb; omega
    · refine ⟨T.os.trans hI.turn.os, T.tape.trans hI.turn.tape, T.output.trans hI.turn.output, Nat.le_trans hI.turn.size T.size, fun k hk _ => (T.block k (Nat.lt_of_lt_of_le hk hI.turn.size) ?_).trans (hI.turn.block k hk (fun q => q))⟩
      rintro (e | e)
      · have := (hown _ e.symm).1; omega
      · omega
end Go.Proofs.YtnlanemldapfiaaGreat.se
