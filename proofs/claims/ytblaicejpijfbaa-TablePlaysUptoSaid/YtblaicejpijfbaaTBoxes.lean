/-
  OF THE LAWS: boxes that stay what they are, marks; a list of pairs parted by two keys.
-/
import Derived.Test.YtblaicejpijfbaaTRangesP
namespace Go.Proofs.Ytblaicejpijfbaa
open Go.RowKit Go.Maps Go.WideMaps Go.Shelf Go.Proofs.Ytblaicejpijfbaa.Tb

/-- boxes from M on, marks -/
structure Bx (w0 W : World) (M : Nat) (bs : List (TypeId × Value)) (ms : List Nat) : Prop where
  at_ : ∀ i p, bs[i]? = some p → Boxed W (M + i) p.1 p.2
  turn : Turn (fun _ => False) w0 W
  o1 : w0.heap.size ≤ M
  ms : ∀ D ∈ ms, W.heap[D]? = some (.deferred (some []))

section
variable {w0 W W' : World} {M : Nat} {bs : List (TypeId × Value)} {ms : List Nat}

theorem Bx.same (h : Bx w0 W M bs ms) (ht : Turn (fun _ => False) W W') : Bx w0 W' M bs ms :=
  ⟨fun i p hp => boxed_same (h.at_ i p hp) ht, h.turn.trans ht (fun _ _ q => q), h.o1, fun D hD => turn_heap ht (h.ms D hD)⟩

theorem boxed_at {W : World} {n : Nat} (h : W.heap.size = n) (ty : TypeId) (v : Value) : Boxed (W.alloc (.cells #[v] ty)) n ty v := by subst h; exact Boxed.new ..

theorem bx_nil (w : World) : Bx w w w.heap.size [] [] := ⟨fun i p h => by simp at h, Turn.refl _ _, Nat.le_refl _, by simp⟩

/-- one more box -/
theorem Bx.snoc (h : Bx w0 W M bs ms) (hs : W.heap.size = M + bs.length) (ty : TypeId) (v : Value) : Bx w0 (W.alloc (.cells #[v] ty)) M (bs ++ [(ty, v)]) ms := by
  have h1 := h.same (turnBox W (.cells #[v] ty))
  refine ⟨fun i p hp => ?_, h1.turn, h1.o1, h1.ms⟩
  by_cases hi : i < bs.length
  · rw [List.getElem?_append_left hi] at hp
    exact h1.at_ i p hp
  · have hlt := (List.getElem?_eq_some_iff.1 hp).1
    rw [List.length_append, List.length_cons, List.length_nil] at hlt
    obtain rfl : i = bs.length := by omega
    rw [List.getElem?_append_right (Nat.le_refl _), Nat.sub_self] at hp
    simp at hp
    subst hp
    rw [← hs]
    exact Boxed.new W ty v

/-- a box of another kind -/
theorem Bx.box {X : Nat} {ty : TypeId} {u : Value} (h : Bx w0 W M bs ms) (ht : Turn (fun b => b = X) W W') (hX : Boxed W X ty u) (hn : w0.heap.size ≤ X) (hne : ∀ p ∈ bs, p.1 ≠ ty) : Bx w0 W' M bs ms := by
  have hX' : W.heap[X]? = some (.cells #[u] ty (0, 0)) := hX
  refine ⟨fun i p hp => boxed_turn (h.at_ i p hp) ht (fun q => ?_), h.turn.trans ht (fun i hi q => by omega), h.o1, fun D hD => ?_⟩
  · have e : W.heap[M + i]? = some (.cells #[p.2] p.1 (0, 0)) := h.at_ i p hp
    rw [q, hX'] at e
    cases e
    exact hne p (List.mem_of_getElem? hp) rfl
  · have hm := h.ms D hD
    refine (ht.block D (Array.getElem?_eq_some_iff.1 hm).1 (fun q => ?_)).trans hm
    rw [q, hX'] at hm; cases hm

theorem Bx.cons {D : Nat} (h : Bx w0 W M bs ms) (hD : W.heap[D]? = some (.deferred (some []))) : Bx w0 W M bs (D :: ms) :=
  ⟨h.at_, h.turn, h.o1, fun E hE => by
    rcases List.mem_cons.1 hE with rfl | hE
    · exact hD
    · exact h.ms E hE⟩

theorem Bx.below {D : Nat} (h : Bx w0 W M bs ms) (hD : D ∈ ms) : D < W.heap.size := (Array.getElem?_eq_some_iff.1 (h.ms D hD)).1

/-- the answer is written -/
theorem Bx.set {r : Nat} {b0 : Value} (h : Bx w0 W M bs ms) (hr : bs[r]? = some (4, b0)) (b : Bool) : Turn (fun _ => False) w0 (W.setCell ⟨M + r, 0, none⟩ (.bool b)) ∧ (W.setCell ⟨M + r, 0, none⟩ (.bool b)).cell? ⟨M + r, 0, none⟩ = some (.bool b) ∧
    ∀ D ∈ ms, (W.setCell ⟨M + r, 0, none⟩ (.bool b)).heap[D]? = some (.deferred (some [])) := by
  have hb := h.at_ r _ hr
  have hb' : W.heap[M + r]? = some (.cells #[b0] 4 (0, 0)) := hb
  have o1 := h.o1
  refine ⟨h.turn.setCell (p := ⟨M + r, 0, none⟩) (Or.inr (by show w0.heap.size ≤ M + r; omega)) _, (hb.set (.bool b)).cell, fun D hD => ?_⟩
  have hm := h.ms D hD
  refine (heap_setCell_other (fun e => ?_) _).trans hm
  rw [e, hb'] at hm
  cases hm
end

section
variable {w0 W : World} {M : Nat} {bs : List (TypeId × Value)}
/-- the end behind two goings over -/
theorem Bx.fin2 {r D D2 : Nat} {b0 : Value} (h : Bx w0 W M bs [D2, D]) (hr : bs[r]? = some (4, b0)) (hlt : D < D2) (h1 : w0.heap.size ≤ D) (b : Bool) :
    (W.setCell ⟨M + r, 0, none⟩ (.bool b)).heap[D2]? = some (.deferred (some [])) ∧ ((W.setCell ⟨M + r, 0, none⟩ (.bool b)).putObj D2 (.deferred none)).heap[D]? = some (.deferred (some [])) ∧
      (((W.setCell ⟨M + r, 0, none⟩ (.bool b)).putObj D2 (.deferred none)).putObj D (.deferred none)).cell? ⟨M + r, 0, none⟩ = some (.bool b) ∧ Turn (fun _ => False) w0 (((W.setCell ⟨M + r, 0, none⟩ (.bool b)).putObj D2 (.deferred none)).putObj D (.deferred none)) := by
  have E0 := h.set hr b
  have E1 := mark_taken E0.1 (by omega) (E0.2.2 D2 (by simp)) E0.2.1
  have E2 := mark_taken E1.1 h1 (E1.2.2 D (by omega) (E0.2.2 D (by simp))) E1.2.1
  exact ⟨E0.2.2 D2 (by simp), E1.2.2 D (by omega) (E0.2.2 D (by simp)), E2.2.1, E2.1⟩
end

theorem CountI.drewN {W0 W : World} {X n : Nat} (h : CountI W0 X n W) (k : Nat) : CountI W0 X n (W.drewN k) :=
  ⟨boxed_same h.1 ((like_drewN W k).turn (fun _ => False)), h.2.trans ((like_drewN W k).turn (fun _ => False)) (fun _ _ q => q.elim)⟩

theorem keepsOthers_drewN (W : World) (k : Nat) : KeepsOthers W (W.drewN k) := ⟨Nat.le_refl _, fun _ _ h _ => h⟩

/-- the count in a box -/
def cntOf (W : World) (X : Nat) : Nat := match W.cell? ⟨X, 0, none⟩ with | some (.int _ j) => j.toNat | _ => 0
theorem CountI.cnt {W0 W : World} {X n : Nat} (h : CountI W0 X n W) : cntOf W X = n := by unfold cntOf; rw [h.1.cell]; simp

/-- a rising list parted by two keys -/
theorem split3 {fr tu : List UInt8} : ∀ {l : List Pr3}, Rises l → ∃ A B C : List Pr3, l = A ++ (B ++ C) ∧ (∀ x ∈ A, x.1 < fr) ∧ (∀ x ∈ B, ¬ x.1 < fr ∧ x.1 < tu) ∧ (∀ x ∈ C, ¬ x.1 < fr ∧ ¬ x.1 < tu) ∧ l.filter (inR fr tu) = B
  | [], _ => ⟨[], [], [], rfl, by simp, by simp, by simp, rfl⟩
  | x :: r, h => by
    obtain ⟨h1, h2⟩ := rises_cons.1 h
    obtain ⟨A, B, C, e, hA, hB, hC, hf⟩ := split3 h2
    by_cases a1 : x.1 < fr
    · refine ⟨x :: A, B, C, by rw [e]; rfl, fun y hy => ?_, hB, hC, ?_⟩
      · rcases List.mem_cons.1 hy with rfl | hy
        · exact a1
        · exact hA y hy
      · rw [List.filter_cons, hf]; simp [inR, a1]
    · have eA : A = [] := by
        cases A with
        | nil => rfl
        | cons y A' =>
          have hy : y ∈ r := by rw [e]; simp
          exact absurd (Lin.trans (h1 y hy) (hA y (by simp))) a1
      subst eA
      by_cases a2 : x.1 < tu
      · refine ⟨[], x :: B, C, by rw [e]; rfl, by simp, fun y hy => ?_, hC, ?_⟩
        · rcases List.mem_cons.1 hy with rfl | hy
          · exact ⟨a1, a2⟩
          · exact hB y hy
        · rw [List.filter_cons, hf]; simp [inR, a1, a2]
      · have eB : B = [] := by
          cases B with
          | nil => rfl
          | cons y B' =>
            have hy : y ∈ r := by rw [e]; simp
            exact absurd (Lin.trans (h1 y hy) (hB y (by simp)).2) a2
        subst eB
        refine ⟨[], [], x :: C, by rw [e]; rfl, by simp, by simp, fun y hy => ?_, ?_⟩
        · rcases List.mem_cons.1 hy with rfl | hy
          · exact ⟨a1, a2⟩
          · exact hC y hy
        · rw [List.filter_cons, hf]; simp [inR, a1, a2]

/-- .. by places -/
structure Parted (l B : List Pr3) (fr tu : List UInt8) (k0 : Nat) : Prop where
  len : k0 + B.length ≤ l.length
  low : ∀ j x, l[j]? = some x → j < k0 → x.1 < fr
  high : ∀ j x, l[j]? = some x → k0 ≤ j → ¬ x.1 < fr
  mid : ∀ j : Nat, j < B.length → l[k0 + j]? = B[j]?
  top : ∀ x ∈ B, x.1 < tu
  over : ∀ j x, l[j]? = some x → k0 + B.length ≤ j → ¬ x.1 < tu

theorem parted {l : List Pr3} (h : Rises l) (fr tu : List UInt8) : ∃ k0, Parted l (l.filter (inR fr tu)) fr tu k0 := by
  obtain ⟨A, B, C, e, hA, hB, hC, hf⟩ := split3 (fr := fr) (tu := tu) h
  rw [hf]
  refine ⟨A.length, ?_, fun j x hj hlt => ?_, fun j x hj hle => ?_, fun j hj => ?_, fun x hx => (hB x hx).2, fun j x hj hle => ?_⟩
  · rw [e]; simp
  · rw [e, List.getElem?_append_left hlt] at hj
    exact hA x (List.mem_of_getElem? hj)
  · rw [e, List.getElem?_append_right hle] at hj
    rcases List.mem_append.1 (List.mem_of_getElem? hj) with h | h
    · exact (hB x h).1
    · exact (hC x h).1
  · rw [e, List.getElem?_append_right (by omega), List.getElem?_append_left (by omega)]
    congr 1; omega
  · rw [e, List.getElem?_append_right (by omega), List.getElem?_append_right (by omega)] at hj
    exact (hC x (List.mem_of_getElem? hj)).2
end Go.Proofs.Ytblaicejpijfbaa
