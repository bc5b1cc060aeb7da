/-
  OF THE LAWS: TableRanges: where it stands, what keeps it.
-/
import Derived.Test.YtblaicejpijfbaaTWrites
import Derived.Test.YtblaicejpijfbaaTSeq3Si
namespace Go.Proofs.Ytblaicejpijfbaa
open Go.RowKit Go.Maps Go.WideMaps Go.Shelf Go.Proofs.Ytblaicejpijfbaa.Tb
attribute [local go_sem] Oper.semAt_some

section
variable {w w' : World}

/-- what goes over a snapshot -/
theorem sall_at (sp : Nat) (w : World) : Calls Try.prog 19 #[.pointer (some ⟨sp, 0, none⟩)] w fun r w' => ∃ B1 B2, r = .returned (.func (.func 65) #[] #[.pointer (some ⟨B2, 0, none⟩)]) ∧
    w'.cell? ⟨B2, 0, none⟩ = some (.func (.func 37) #[] #[.pointer (some ⟨B1, 0, none⟩)]) ∧ w'.cell? ⟨B1, 0, none⟩ = some (.pointer (some ⟨sp, 0, none⟩)) ∧ Turn (fun _ => False) w w' := by
  refine (si.sall_any (some ⟨sp, 0, none⟩) w).mono ?_
  rintro r w' ⟨rfl, rfl⟩
  refine ⟨w.heap.size, w.heap.size + 1, rfl, ?_, ?_, (turnBox w _).trans (turnBox _ _) (fun _ _ q => q)⟩
  · have h := cell_new (w.alloc (.cells #[.pointer (some ⟨sp, 0, none⟩)] 39)) #[.func (.func 37) #[] #[.pointer (some ⟨w.heap.size, 0, none⟩)]] 45 0
    rw [World.size_alloc] at h
    exact h
  · exact turn_cell (turnBox _ _) (cell_new w #[.pointer (some ⟨sp, 0, none⟩)] 39 0)

theorem tri3 (a b : List UInt8) : (a < b ∧ ¬ a = b ∧ ¬ b < a) ∨ (¬ a < b ∧ a = b ∧ ¬ b < a) ∨ (¬ a < b ∧ ¬ a = b ∧ b < a) := by
  by_cases h1 : a < b
  · exact .inl ⟨h1, ne_of_lt h1, not_lt_of_lt h1⟩
  · by_cases h2 : b < a
    · exact .inr (.inr ⟨h1, fun e => ne_of_lt h2 e.symm, h2⟩)
    · exact .inr (.inl ⟨h1, eq_of_not h1 h2, h2⟩)

theorem lt_of_lt_of_not {k a b : List UInt8} (h : k < a) (h2 : ¬ b < a) : k < b := by
  by_cases h3 : a < b
  · exact Lin.trans h h3
  · have e := eq_of_not h3 h2
    rw [← e]; exact h

theorem split_in {fr mid to : List UInt8} (h1 : ¬ mid < fr) (h2 : ¬ to < mid) (l : List Pr3) : (l.filter (inR fr mid)).length + (l.filter (inR mid to)).length = (l.filter (inR fr to)).length := by
  induction l with
  | nil => rfl
  | cons x r ih =>
    simp only [List.filter_cons]
    by_cases a1 : x.1 < fr
    · have a2 := lt_of_lt_of_not a1 h1
      simp only [inR, a1, a2, not_true_eq_false, decide_false, Bool.false_and, Bool.false_eq_true, if_false]
      exact ih
    · by_cases a2 : x.1 < mid
      · have a3 := lt_of_lt_of_not a2 h2
        simp only [inR, a1, a2, a3, not_true_eq_false, not_false_eq_true, decide_false, decide_true, Bool.and_self, Bool.false_and, Bool.false_eq_true, if_false, if_true, List.length_cons]
        omega
      · by_cases a3 : x.1 < to
        · simp only [inR, a1, a2, a3, not_false_eq_true, decide_false, decide_true, Bool.and_self, Bool.and_false, Bool.false_eq_true, if_false, if_true, List.length_cons]
          omega
        · simp only [inR, a1, a2, a3, not_false_eq_true, decide_false, decide_true, Bool.and_false, Bool.false_eq_true, if_false]
          exact ih

theorem split_betw {fr mid to : List UInt8} {t : Tr (List UInt8) Int} (h : Rises t.list) (h1 : ¬ mid < fr) (h2 : ¬ to < mid) : (betw fr mid t).length + (betw mid to t).length = (betw fr to t).length := by
  rw [betw_list h, betw_list h, betw_list h]; exact split_in h1 h2 _

theorem rises_dropT {t : Tr (List UInt8) Int} (h : Rises t.list) (k : List UInt8) : Rises (si.dropT t k).list := by
  unfold si.dropT
  split
  · rw [without_list h]; exact rises_dropL h k
  · exact h

/-- the result lies in a box -/
theorem results_ranges {tmps : Array Value} {g : Nat} {b : Bool} (hp : tmps.getD 8 undef = .pointer (some ⟨g, 0, none⟩)) (hc : w.cell? ⟨g, 0, none⟩ = some (.bool b)) : (results Try.f4 tmps).run Try.prog w = .ok (.bool b) w := by
  have hp' : tmps[8]?.getD undef = .pointer (some ⟨g, 0, none⟩) := by simpa using hp
  have hr : Try.f4.results = #[.cell 8 4] := by kernel_rfl
  simp only [results, hr]
  simp [hp', asAddr]
  go_simp

/-- a string in memory -/
abbrev strV (s : List UInt8) : Value := .string ⟨s.toArray⟩

/-- ahead of the snapshot -/
structure R0 (w0 W : World) (M : Nat) (fr to : List UInt8) : Prop where
  bf : Boxed W M 9 (strV fr)
  bt : Boxed W (M + 1) 9 (strV to)
  br : ∃ b : Bool, Boxed W (M + 2) 4 (.bool b)
  turn : Turn (fun _ => False) w0 W
  o1 : w0.heap.size ≤ M

section
variable {w0 W W' : World} {M sp : Nat} {fr to : List UInt8} {t : Tr (List UInt8) Int} {ver : Nat} {Q : Nat → Prop}

theorem R0.kept (h : R0 w0 W M fr to) (ht : Turn Q W W') (q0 : ∀ i, Q i → w0.heap.size ≤ i) (q1 : ¬ Q M) (q2 : ¬ Q (M + 1)) (q3 : ¬ Q (M + 2)) : R0 w0 W' M fr to := by
  obtain ⟨b, hb⟩ := h.br
  exact ⟨boxed_turn h.bf ht q1, boxed_turn h.bt ht q2, ⟨b, boxed_turn hb ht q3⟩, h.turn.trans ht (fun i hi q => by have := q0 i q; omega), h.o1⟩
theorem R0.same (h : R0 w0 W M fr to) (ht : Turn (fun _ => False) W W') : R0 w0 W' M fr to := h.kept ht (fun _ q => q.elim) id id id
theorem R0.above (h : R0 w0 W M fr to) {p : Nat} (hp : M + 2 < p) (ht : Turn (fun b => b = p) W W') : R0 w0 W' M fr to :=
  h.kept ht (fun i q => by have := h.o1; omega) (by omega) (by omega) (by omega)

/-- the end: the answer is written, the marks are taken -/
theorem R0.set (h : R0 w0 W M fr to) (b : Bool) : R0 w0 (W.setCell ⟨M + 2, 0, none⟩ (.bool b)) M fr to ∧ (W.setCell ⟨M + 2, 0, none⟩ (.bool b)).cell? ⟨M + 2, 0, none⟩ = some (.bool b) := by
  obtain ⟨b0, hb⟩ := h.br
  have ht : Turn (fun i => i = M + 2) W (W.setCell ⟨M + 2, 0, none⟩ (.bool b)) := Turn.setCell (Turn.refl (fun b => b = M + 2) W) (p := ⟨M + 2, 0, none⟩) (Or.inl rfl) _
  have o1 := h.o1
  exact ⟨⟨boxed_turn h.bf ht (by omega), boxed_turn h.bt ht (by omega), ⟨b, hb.set _⟩, h.turn.trans ht (fun i hi q => by omega), o1⟩, (hb.set (.bool b)).cell⟩

/-- a mark that was taken -/
theorem mark_taken {D M : Nat} {b : Bool} (h : Turn (fun _ => False) w0 W) (hD0 : w0.heap.size ≤ D) (hD : W.heap[D]? = some (.deferred (some []))) (hb : W.cell? ⟨M, 0, none⟩ = some (.bool b)) :
    Turn (fun _ => False) w0 (W.putObj D (.deferred none)) ∧ (W.putObj D (.deferred none)).cell? ⟨M, 0, none⟩ = some (.bool b) ∧ ∀ D', D' ≠ D → W.heap[D']? = some (.deferred (some [])) → (W.putObj D (.deferred none)).heap[D']? = some (.deferred (some [])) := by
  have g1 := grownBy_putObj' W D (.deferred none)
  refine ⟨h.grown g1 (fun k e => by cases e; exact Or.inr hD0), ?_, fun D' hne h' => (World.putObj_heap_other hne).trans h'⟩
  refine turned_cell hb ((Turn.refl (fun b => some D = some b) _).grown g1 (fun k e => Or.inl e)) (fun e => ?_)
  cases e
  unfold World.cell? at hb
  rw [hD] at hb
  cases hb

/-- with the snapshot -/
structure RW (w0 W : World) (M sp : Nat) (fr to : List UInt8) (t : Tr (List UInt8) Int) (ver : Nat) (ms : List Nat) : Prop where
  r0 : R0 w0 W M fr to
  sn : Snap W sp t ver
  ms : ∀ D ∈ ms, W.heap[D]? = some (.deferred (some []))

theorem RW.same {ms : List Nat} (h : RW w0 W M sp fr to t ver ms) (ht : Turn (fun _ => False) W W') : RW w0 W' M sp fr to t ver ms :=
  ⟨h.r0.same ht, h.sn.turned ht (fun _ _ _ q => q.elim) id, fun D hD => turn_heap ht (h.ms D hD)⟩

theorem RW.set {ms : List Nat} (h : RW w0 W M sp fr to t ver ms) (b : Bool) : Turn (fun _ => False) w0 (W.setCell ⟨M + 2, 0, none⟩ (.bool b)) ∧ (W.setCell ⟨M + 2, 0, none⟩ (.bool b)).cell? ⟨M + 2, 0, none⟩ = some (.bool b) ∧
    ∀ D ∈ ms, (W.setCell ⟨M + 2, 0, none⟩ (.bool b)).heap[D]? = some (.deferred (some [])) := by
  obtain ⟨h1, h2⟩ := h.r0.set b
  obtain ⟨b0, hb⟩ := h.r0.br
  have hb' : W.heap[M + 2]? = some (.cells #[.bool b0] 4 (0, 0)) := hb
  refine ⟨h1.turn, h2, fun D hD => ?_⟩
  have hm := h.ms D hD
  refine (heap_setCell_other (fun e => ?_) _).trans hm
  rw [e, hb'] at hm
  cases hm

theorem RW.cons {ms : List Nat} {D : Nat} (h : RW w0 W M sp fr to t ver ms) (hD : W.heap[D]? = some (.deferred (some []))) : RW w0 W M sp fr to t ver (D :: ms) :=
  ⟨h.r0, h.sn, fun E hE => by
    rcases List.mem_cons.1 hE with rfl | hE
    · exact hD
    · exact h.ms E hE⟩

theorem RW.below {ms : List Nat} {D : Nat} (h : RW w0 W M sp fr to t ver ms) (hD : D ∈ ms) : D < W.heap.size := (Array.getElem?_eq_some_iff.1 (h.ms D hD)).1

/-- a box of ours: what it is not -/
theorem RW.box {ms : List Nat} {X : Nat} {ty : TypeId} {u : Value} (h : RW w0 W M sp fr to t ver ms) (ht : Turn (fun b => b = X) W W') (hX : Boxed W X ty u) (hn : w0.heap.size ≤ X)
    (h1 : ty ≠ 9) (h2 : ty ≠ 4) (h4 : ty ≠ 92) : RW w0 W' M sp fr to t ver ms ∧ si.KeepsN W W' := by
  have hX' : W.heap[X]? = some (.cells #[u] ty (0, 0)) := hX
  obtain ⟨b, hb⟩ := h.r0.br
  have e1 : W.heap[M]? = some (.cells #[strV fr] 9 (0, 0)) := h.r0.bf
  have e2 : W.heap[M + 1]? = some (.cells #[strV to] 9 (0, 0)) := h.r0.bt
  have e3 : W.heap[M + 2]? = some (.cells #[.bool b] 4 (0, 0)) := hb
  obtain ⟨root, s1, s2⟩ := h.sn.at_
  have e4 := s1
  unfold si.SnapC at e4
  have hnn : si.NoNode W (fun b => b = X) := fun b cs fr q e => by subst q; rw [hX'] at e; cases e; exact h4 rfl
  refine ⟨⟨h.r0.kept ht (fun i q => by omega) (fun q => ?_) (fun q => ?_) (fun q => ?_), h.sn.turned ht hnn (fun q => ?_), fun D hD => ?_⟩, si.KeepsN.turn ht hnn⟩
  · rw [q, hX'] at e1; cases e1; exact h1 rfl
  · rw [q, hX'] at e2; cases e2; exact h1 rfl
  · rw [q, hX'] at e3; cases e3; exact h2 rfl
  · rw [q, hX'] at e4; cases e4
  · have hm := h.ms D hD
    refine (ht.block D (Array.getElem?_eq_some_iff.1 hm).1 (fun q => ?_)).trans hm
    rw [q, hX'] at hm; cases hm

/-- a box of pairs -/
def HasP (W : World) (B : Nat) (xs : List Pr3) : Prop := ∃ base v, Boxed W B 27 v ∧ W.ownsRow base 49 2 v xs.length (flat3 xs)

theorem HasP.same {B : Nat} {xs : List Pr3} (h : HasP W B xs) (ht : Turn (fun _ => False) W W') : HasP W' B xs := by
  obtain ⟨base, v, h1, h2⟩ := h
  exact ⟨base, v, boxed_same h1 ht, ownsRow_turned h2 ht (fun _ _ q => q)⟩
theorem HasP.box {B X : Nat} {xs : List Pr3} {u : Value} (h : HasP W B xs) (ht : Turn (fun b => b = X) W W') (hX : Boxed W X 3 u) : HasP W' B xs := by
  obtain ⟨base, v, h1, h2⟩ := h
  have hX' : W.heap[X]? = some (.cells #[u] 3 (0, 0)) := hX
  have e1 : W.heap[B]? = some (.cells #[v] 27 (0, 0)) := h1
  refine ⟨base, v, boxed_turn h1 ht (fun q => by rw [q, hX'] at e1; cases e1), ownsRow_turned h2 ht (fun r e q => ?_)⟩
  obtain ⟨_, _, cur, hc⟩ := own_block h2 e
  rw [q, hX'] at hc
  cases hc
theorem HasP.pairs {B : Nat} {xs : List Pr3} (h : HasP W B xs) : ∃ v, W.cell? ⟨B, 0, none⟩ = some v ∧ PairsR W v xs := by
  obtain ⟨base, v, h1, h2⟩ := h
  exact ⟨v, h1.cell, PairsR.of_own h2⟩

/-- what has been collected in a box since W0 -/
def CollP (W0 : World) (B : Nat) (xs : List Pr3) (W : World) : Prop :=
  (∃ v, Boxed W B 27 v ∧ W.ownsRow W0.heap.size 49 2 v xs.length (flat3 xs)) ∧ Turn (fun b => b = B) W0 W

theorem CollP.has {W0 : World} {B : Nat} {xs : List Pr3} (h : CollP W0 B xs w) : HasP w B xs := by
  obtain ⟨⟨v, h1, h2⟩, _⟩ := h
  exact ⟨_, v, h1, h2⟩

theorem CollP.own {W0 : World} {B : Nat} (hB : B < W0.heap.size) (f : List si.Pr → List Pr3) : OwnFrom W0.heap.size (fun pre W => CollP W0 B (f pre) W) := by
  rintro pre W W' row ⟨⟨v, hv, hr⟩, ht⟩ hg hrow
  refine ⟨⟨v, hv.kept hg (fun e => by have := (hrow _ e.symm).1; omega), ?_⟩, ht.grown hg (fun k e => Or.inr (hrow k e).1)⟩
  refine ownsRow_turned hr ((Turn.refl (fun b => row = some b) W).grown hg (fun k e => Or.inl e)) (fun r e q => ?_)
  obtain ⟨_, _, cur, hc⟩ := own_block hr e
  obtain ⟨_, o, ho, hn⟩ := hrow r q
  rw [hc] at ho; cases ho; cases hn

theorem CollP.step {W0 W w1 : World} {B : Nat} {xs : List Pr3} {v v' : Value} {tmp : Obj} {x : Pr3} (hB : B < W0.heap.size) (hv : Boxed W B 27 v) (hr : W.ownsRow W0.heap.size 49 2 v xs.length (flat3 xs)) (ht : Turn (fun b => b = B) W0 W)
    (hown : w1.ownsRow W0.heap.size 49 2 v' (xs.length + 1) (flat3 xs ++ [.string ⟨x.1.toArray⟩, .int .i64 x.2])) (hg : (W.alloc tmp).grownBy w1 v.ownBlock) :
    Boxed w1 B 27 v ∧ KeepsOthers W (w1.setCell ⟨B, 0, none⟩ v') ∧ si.KeepsN W (w1.setCell ⟨B, 0, none⟩ v') ∧ CollP W0 B (xs ++ [x]) (w1.setCell ⟨B, 0, none⟩ v') := by
  have hne : some B ≠ v.ownBlock := hv.not_row (by decide) hr
  have hv1 : Boxed w1 B 27 v := (hv.alloc tmp).kept hg hne
  have t1 : Turn (fun b => v.ownBlock = some b) W w1 := ((Turn.refl _ W).alloc tmp).grown hg (fun k e => Or.inl e)
  have t2 : Turn (fun b => b = B ∨ v.ownBlock = some b) W (w1.setCell ⟨B, 0, none⟩ v') := Turn.set (Q := fun b => b = B ∨ v.ownBlock = some b) (t1.mono (fun _ e => Or.inr e)) B 0 (Or.inl (Or.inl rfl)) v'
  refine ⟨hv1, ?_, si.KeepsN.turn t2 (fun b cs fr q => ?_), ⟨⟨v', hv1.set v', ?_⟩, ?_⟩⟩
  · refine ((KeepsOthers.alloc W tmp).trans (KeepsOthers.of_grownBy hg fun j o ej hj => ?_)).trans (KeepsOthers.setCell _ _ _)
    obtain ⟨_, _, cur, hc⟩ := own_block (hr.alloc tmp) ej
    rw [hc] at hj; cases hj; rfl
  · rcases q with q | q
    · subst q
      have h0 : W.heap[b]? = some (.cells #[v] 27 (0, 0)) := hv
      rw [h0]; intro e; cases e
    · obtain ⟨_, _, cur, hc⟩ := own_block hr q
      rw [hc]; intro e; cases e
  · have h1 : w1.ownsRow W0.heap.size 49 2 v' (xs ++ [x]).length (flat3 (xs ++ [x])) := by
      rw [List.length_append, flat3_append]; exact hown
    refine ownsRow_turned h1 (Turn.setCell (Turn.refl (fun b => b = B) w1) (p := ⟨B, 0, none⟩) (Or.inl rfl) v') (fun r e q => ?_)
    obtain ⟨h2, _, _⟩ := own_block h1 e
    omega
  · refine ht.trans t2 (fun i hi q => ?_)
    rcases q with q | q
    · exact q
    · have := (own_block hr q).1; omega

/-- a box that counts -/
def CountI (W0 : World) (X : Nat) (n : Nat) (W : World) : Prop := Boxed W X 3 (.int .i64 (n : Nat)) ∧ Turn (fun b => b = X) W0 W

theorem CountI.own {W0 : World} {X : Nat} (hX : X < W0.heap.size) (f : List si.Pr → Nat) : OwnFrom W0.heap.size (fun pre W => CountI W0 X (f pre) W) := by
  rintro pre W W' row ⟨hv, ht⟩ hg hrow
  exact ⟨hv.kept hg (fun e => by have := (hrow _ e.symm).1; omega), ht.grown hg (fun k e => Or.inr (hrow k e).1)⟩

theorem CountI.set {W0 : World} {X n : Nat} (h : CountI W0 X n W) (m : Nat) : CountI W0 X m (W.setCell ⟨X, 0, none⟩ (.int .i64 (m : Nat))) ∧ KeepsOthers W (W.setCell ⟨X, 0, none⟩ (.int .i64 (m : Nat))) ∧ si.KeepsN W (W.setCell ⟨X, 0, none⟩ (.int .i64 (m : Nat))) := by
  have hX : W.heap[X]? = some (.cells #[.int .i64 (n : Nat)] 3 (0, 0)) := h.1
  have ts : Turn (fun b => b = X) W (W.setCell ⟨X, 0, none⟩ (.int .i64 (m : Nat))) := Turn.setCell (Turn.refl (fun b => b = X) W) (p := ⟨X, 0, none⟩) (Or.inl rfl) _
  exact ⟨⟨h.1.set _, h.2.trans ts (fun _ _ q => q)⟩, KeepsOthers.setCell _ _ _, si.KeepsN.turn ts (fun b cs fr q e => by subst q; rw [hX] at e; cases e)⟩
end
end
end Go.Proofs.Ytblaicejpijfbaa
