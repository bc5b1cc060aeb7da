/-
  A range over an iterator that itself ranges over one: rounds that touch nothing of what is laid since it began.
-/
import Derived.Test.YtnlanemldapfiaaGreatVSeq
import Derived.RangeFuncNested
namespace Go.Proofs.YtnlanemldapfiaaGreat.se
open Go.RowKit Go.Maps Go.WideMaps Go.Shelf Go.Proofs.YtnlanemldapfiaaGreat.Tb

/-- no row of events -/
def NotRow (o : Obj) : Prop := ∀ cs fr, o ≠ .cells cs 32 fr
theorem NotRow.of {o : Obj} (h : o.isCells = false) : NotRow o := fun cs fr e => by subst e; cases h

/-- all that lies from n₀ on lies as it lay, but for rows of events, and so do the nodes -/
structure Stays (n₀ : Nat) (A B : World) : Prop where
  size : A.heap.size ≤ B.heap.size
  same : ∀ k o, n₀ ≤ k → A.heap[k]? = some o → NotRow o → B.heap[k]? = some o
  keeps : KeepsN A B

theorem Stays.trans {n₀ : Nat} {A B C : World} (h : Stays n₀ A B) (k : Stays n₀ B C) : Stays n₀ A C :=
  ⟨Nat.le_trans h.size k.size, fun i o hi ho hn => k.same i o hi (h.same i o hi ho hn) hn, h.keeps.trans k.keeps⟩
theorem Stays.mono {n₀ n₁ : Nat} {A B : World} (h : Stays n₀ A B) (hn : n₀ ≤ n₁) : Stays n₁ A B := ⟨h.size, fun k o hk ho hr => h.same k o (Nat.le_trans hn hk) ho hr, h.keeps⟩
theorem Stays.turn {n₀ : Nat} {A B : World} (h : Turn (fun _ => False) A B) : Stays n₀ A B :=
  ⟨h.size, fun _ _ _ ho _ => turn_heap h ho, KeepsN.turn h (fun _ _ _ q => q.elim)⟩
theorem Stays.put {n₀ l : Nat} {W : World} {o : Obj} (o' : Obj) (h : W.heap[l]? = some o) (hc : o.isCells = false) (hl : l < n₀) : Stays n₀ W (W.putObj l o') :=
  ⟨(grownBy_putObj' W l o').size, fun k o2 hk ho _ => (World.putObj_heap_other (by omega)).trans ho, fun b cs fr e => by
    have hne : b ≠ l := fun q => by rw [q, h] at e; cases e; cases hc
    exact (World.putObj_heap_other hne).trans e⟩

/-- an iterator that hands on these events, whatever is done with them that stays away from it -/
def Hands {α : Type} (F : Fence) (n : Nat) (P : Program) (g : Nat) (lb : Array Value) (encs : α → Array Value) (S : List α → Prop) (N : Nat) (I : List α → World → Prop) (w : World) : Prop :=
  ∀ (l : Nat) (J : List α → World → Prop) (W : World), w.heap.size ≤ W.heap.size → l < W.heap.size → OwnFrom W.heap.size J → (∀ pre W', J pre W' → I pre W') →
    (∀ m pre x W1, J pre W1 → pre.length < N → YieldAt F m P l (encs x) W1 fun e W' => e = .returned (.bool true) ∧ J (pre ++ [x]) W' ∧ Stays W.heap.size W1 W') →
    J [] W →
    CallsIn F n P g (#[.func (.yield l) #[] #[]] ++ lb) W fun e W' => (∃ v, e = .returned v) ∧ ∃ xs, S xs ∧ J xs W'

section
variable {F : Fence} {n : Nat} {P : Program}

/-- a range over such an iterator -/
theorem wpIn_hands {α : Type} {g : Operand} {ps : Array Tmp} {assign body : Code} {Q : Exit → Act → World → Prop} {a : Act} {w : World}
    (hro : F.round = none) (h1 : 1 ≤ n) {gf : Nat} {lb : Array Value} (hg : a.eval g = .func (.func gf) #[] lb) (hFg : F.fn gf) (eg : ∀ args w, (callFunc gf args).run P w = .ok (.enter gf args) w)
    {encs : α → Array Value} (hps : ∀ x, (encs x).size = ps.size) {S : List α → Prop} {N : Nat}
    (I : List α → World → Prop) (hI : OwnFrom w.heap.size I) (h0 : I [] w) (hseq : Hands F (n - 1) P gf lb encs S N I w)
    (Ax : α → Act → World → Prop) (hAx : ∀ x a', OwnFrom w.heap.size (fun (_ : Unit) W => Ax x a' W))
    (hassign : ∀ (m l : Nat) (x : α) (W : World), w.heap.size ≤ W.heap.size →
      assign.wpIn (F.inRound l) m P (Exit.then (fun a' W' => Ax x a' W' ∧ Turn (fun _ => False) W W') (fun _ _ _ => False)) { tmps := (ps.zip (encs x)).foldl (fun t (p, v) => t.setIfInBounds p v) a.tmps, defers := [] } W)
    (hbody : ∀ (m l : Nat) (pre : List α) (x : α) (a' : Act) (W : World), I pre W → pre.length < N → Ax x a' W →
      body.wpIn (F.inRound l) m P (Exit.then (fun _ W' => Stays w.heap.size W W' ∧ I (pre ++ [x]) W') (fun _ _ _ => False)) a' W)
    (hdone : ∀ (D : Nat) (W : World) (xs : List α), w.heap.size = D → S xs → I xs W → W.heap[D]? = some (.deferred (some [])) → Q .normal { a with defers := { target := .collected D, args := #[] } :: a.defers } W) :
    (Code.rangeFunc g ps assign body).wpIn F n P Q a w := by
  refine wpIn_rangeFunc ?_
  intro fn hfn
  rw [hro]
  obtain ⟨rec, hrec⟩ : ∃ rec : LoopState → Loop, rec = fun st => { state := st, pending := none, fn, tmps := a.tmps, params := ps, assign, body, defers := w.heap.size } := ⟨_, rfl⟩
  obtain ⟨W0, hW0⟩ : ∃ W0, (w.alloc (.deferred (some []))).alloc (.loop (rec .ready)) = W0 := ⟨_, rfl⟩
  have hs0 : W0.heap.size = w.heap.size + 2 := by rw [← hW0]; simp
  have hl0 : W0.heap[w.heap.size + 1]? = some (.loop (rec .ready)) := by
    have := World.alloc_heap_new (w.alloc (.deferred (some []))) (.loop (rec .ready))
    rw [World.size_alloc, hW0] at this
    exact this
  have hd0 : W0.heap[w.heap.size]? = some (.deferred (some [])) := by
    rw [← hW0]
    exact (Below.heap_alloc _ _ _ (by simp)).trans (World.alloc_heap_new w _)
  have hI0 : I [] W0 := by rw [← hW0]; exact hI.alloc _ (hI.alloc _ h0)
  refine ⟨w.heap.size + 1, [{ target := .collected w.heap.size, args := #[] }], W0, { target := .fn (.func gf) lb, args := #[.func (.yield (w.heap.size + 1)) #[] #[]] }, W0, gf,
    #[.func (.yield (w.heap.size + 1)) #[] #[]] ++ lb, W0, by rw [← hW0, hrec]; exact run_enterLoop_outer _ _ _ _ _, ?_, ?_, ?_, fun _ => h1, ?_⟩
  · simp only [resolve, hg]
    simp [go_sem]
  · intro f' hf'
    simp [Target.leads] at hf'
    subst hf'
    exact hFg
  · simp [invoke, go_sem, eg]
  refine (hseq (w.heap.size + 1) (fun pre W => I pre W ∧ W.heap[w.heap.size + 1]? = some (.loop (rec .ready)) ∧ W.heap[w.heap.size]? = some (.deferred (some []))) W0 (by omega) (by omega) ?_ (fun _ _ h => h.1) ?_ ⟨hI0, hl0, hd0⟩).mono ?_
  · rintro s A B row ⟨i1, i2, i3⟩ hgr hr
    refine ⟨hI s A B row i1 hgr (fun r e => ⟨by have := (hr r e).1; omega, (hr r e).2⟩), ?_, ?_⟩
    · exact (hgr.block _ (Array.getElem?_eq_some_iff.1 i2).1 (fun e => by have := (hr _ e.symm).1; omega)).trans i2
    · exact (hgr.block _ (Array.getElem?_eq_some_iff.1 i3).1 (fun e => by have := (hr _ e.symm).1; omega)).trans i3
  · rintro m pre x W1 ⟨i1, i2, i3⟩ hlen
    have hlt : w.heap.size + 1 < W1.heap.size := (Array.getElem?_eq_some_iff.1 i2).1
    have hy := run_yield (P := P) (args := encs x) i2 (by rw [hrec]; exact hps x)
    rw [hrec] at hy
    refine ⟨fn, _, assign, body, hy, roundIn_of_wpIn hfn (wpIn_mono (hassign m _ x W1 (by omega)) ?_)⟩
    clear hy
    intro e a' W2 hp
    cases e with
    | normal =>
      obtain ⟨hax, ht⟩ := hp
      have j2 := turn_heap ht i2
      have j3 := turn_heap ht i3
      have j1 : I pre W2 := hI pre W1 W2 none i1 ⟨ht.os, ht.tape, ht.output, ht.size, fun k hk _ => ht.block k hk (fun q => q)⟩ (fun r e => by cases e)
      refine ⟨_, run_beginRound j2 (by rw [hrec]), ?_⟩
      have k2 : (W2.putObj (w.heap.size + 1) (.loop { rec .ready with state := .busy })).heap[w.heap.size + 1]? = some (.loop { rec .ready with state := .busy }) := World.putObj_heap_same (Array.getElem?_eq_some_iff.1 j2).1
      have k3 : (W2.putObj (w.heap.size + 1) (.loop { rec .ready with state := .busy })).heap[w.heap.size]? = some (.deferred (some [])) := (World.putObj_heap_other (by omega)).trans j3
      have k1 := hI.putObj (.loop { rec .ready with state := .busy }) j1 (by omega) j2 rfl
      have s2 : Stays (w.heap.size + 2) W2 (W2.putObj (w.heap.size + 1) (.loop { rec .ready with state := .busy })) := Stays.put _ j2 rfl (by omega)
      refine wpIn_mono (hbody m _ pre x a' _ k1 hlen ((hAx x a').putObj (s := ()) _ hax (by omega) j2 rfl)) ?_
      intro e a3 W3 hp3
      cases e with
      | normal =>
        obtain ⟨hst, hi3⟩ := hp3
        have l2 := hst.same _ _ (by omega) k2 (NotRow.of rfl)
        have l3 := hst.same _ _ (Nat.le_refl _) k3 (NotRow.of rfl)
        have hend := run_endRound (P := P) none l2
        refine ⟨_, _, hend, rfl, ⟨hI.putObj _ hi3 (by omega) l2 rfl, ?_, ?_⟩, ?_⟩
        · rw [World.putObj_heap_same (Array.getElem?_eq_some_iff.1 l2).1, hrec]; rfl
        · exact (World.putObj_heap_other (by omega)).trans l3
        · rw [hs0]
          exact (((Stays.turn ht).trans s2).trans (hst.mono (by omega))).trans (Stays.put _ l2 rfl (by omega))
      | _ => exact hp3.elim
    | _ => exact hp.elim
  · rintro e W2 ⟨⟨v, rfl⟩, xs, hS, i1, i2, i3⟩
    refine ⟨none, _, by have := run_endLoop (P := P) i2 (by rw [hrec]; simp); rw [hrec] at this; exact this, ?_⟩
    exact hdone _ _ xs rfl hS (hI.putObj _ i1 (by omega) i2 rfl) ((World.putObj_heap_other (by omega)).trans i3)
end
end Go.Proofs.YtnlanemldapfiaaGreat.se
