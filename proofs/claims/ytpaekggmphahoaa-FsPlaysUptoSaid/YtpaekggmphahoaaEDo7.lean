/-
  THE LAW FsPlays: a crash of both.
-/
import Derived.Test.YtpaekggmphahoaaEDo9
namespace Go.Proofs.Ytpaekggmphahoaa
open Go.RowKit Go.Maps Go.WideMaps
set_option linter.unusedVariables false
set_option linter.unusedSimpArgs false

/-- is that an asking that may come, behind that of a name? -/
def askOk (L : FL) (last : List UInt8) (x : List UInt8 × Nat) : Bool :=
  match Fsp.find L x.1 with
  | none => false
  | some f => decide ((f.data.length : Int) - (f.synced : Int) = (x.2 : Int) ∧ 1 ≤ x.2 ∧ last < x.1)
/-- what is noted of askings: the last one's name, and whether all were such -/
def noted (L : FL) : List UInt8 → Bool → List (List UInt8 × Nat) → List UInt8 × Bool
  | last, g, [] => (last, g)
  | last, g, x :: r => noted L x.1 (g && askOk L last x) r
theorem noted_snoc (L : FL) (last : List UInt8) (g : Bool) (a : List (List UInt8 × Nat)) (x : List UInt8 × Nat) : noted L last g (a ++ [x]) = (x.1, (noted L last g a).2 && askOk L (noted L last g a).1 x) := by
  induction a generalizing last g with
  | nil => rfl
  | cons y r ih => exact ih _ _
theorem noted_all {L : FL} : ∀ {M : FL} {last : List UInt8}, Fsp.Sorted M → (∀ y ∈ M, Fsp.find L y.1 = some y.2) → (∀ y ∈ M, last < y.1) → (noted L last true (asksOf M)).2 = true
  | [], _, _, _, _ => rfl
  | x :: r, last, hs, hf, hl => by
    have hs' := List.pairwise_cons.1 hs
    have e : asksOf (x :: r) = askOf x ++ asksOf r := rfl
    rw [e]
    unfold askOf
    split
    · rename_i hlt
      show (noted L x.1 (true && askOk L last (x.1, x.2.data.length - x.2.synced)) (asksOf r)).2 = true
      have ha : askOk L last (x.1, x.2.data.length - x.2.synced) = true := by
        unfold askOk
        rw [show ((x.1, x.2.data.length - x.2.synced) : List UInt8 × Nat).1 = x.1 from rfl, hf x (by simp)]
        exact decide_eq_true ⟨by simp only; omega, by simp only; omega, hl x (by simp)⟩
      rw [ha]
      exact noted_all hs'.2 (fun y hy => hf y (List.mem_cons_of_mem _ hy)) (fun y hy => hs'.1 y hy)
    · exact noted_all hs'.2 (fun y hy => hf y (List.mem_cons_of_mem _ hy)) (fun y hy => hl y (List.mem_cons_of_mem _ hy))

/-- what the keeper's variables hold behind askings; the document's file system is as it was -/
structure Asking (q : Nat) (S : Fsp.Fs) (R : Nat → Prop) (v : Value) (lr : List RF) (n : Int) (bw bn bg bl : Nat) (W : World) (l : List (List UInt8 × Nat)) : Prop where
  kw : W.heap[bw]? = some (.cells #[.pointer (some ⟨q, 0, none⟩)] 27 (0, 0))
  kn : W.heap[bn]? = some (.cells #[.int .i64 n] 3 (0, 0))
  kg : W.heap[bg]? = some (.cells #[.bool (noted S.L [] true l).2] 4 (0, 0))
  kl : W.heap[bl]? = some (.cells #[.string ⟨(noted S.L [] true l).1.toArray⟩] 9 (0, 0))
  ref : RefX W q S R v lr

section
variable {w w1 w2 w3 w' : World} {p q base : Nat} {S S' : Fsp.Fs} {Q R Qc : Nat → Prop} {v : Value} {lr : List RF} {n : Int} {bw bn bg bl : Nat} {l : List (List UInt8 × Nat)}
/-- the four are apart, and none is the document's -/
def Boxes (R : Nat → Prop) (bw bn bg bl : Nat) : Prop := bg ≠ bw ∧ bg ≠ bn ∧ bl ≠ bw ∧ bl ≠ bn ∧ bl ≠ bg ∧ ¬ R bw ∧ ¬ R bn ∧ ¬ R bg ∧ ¬ R bl
def QcOf (R : Nat → Prop) (bw bn bg bl b : Nat) : Prop := b = bw ∨ b = bn ∨ b = bg ∨ b = bl ∨ R b

theorem Asking.turned (h : Asking q S R v lr n bw bn bg bl w l) (t : Turn Q w w') (hd : ∀ b, QcOf R bw bn bg bl b → ¬ Q b) : Asking q S R v lr n bw bn bg bl w' l := by
  have lt : ∀ {b : Nat} {o : Obj}, w.heap[b]? = some o → b < w.heap.size := fun h => (Array.getElem?_eq_some_iff.1 h).1
  exact ⟨(t.block bw (lt h.kw) (hd _ (Or.inl rfl))).trans h.kw, (t.block bn (lt h.kn) (hd _ (Or.inr (Or.inl rfl)))).trans h.kn, (t.block bg (lt h.kg) (hd _ (Or.inr (Or.inr (Or.inl rfl))))).trans h.kg, (t.block bl (lt h.kl) (hd _ (Or.inr (Or.inr (Or.inr (Or.inl rfl)))))).trans h.kl, h.ref.turned t (fun b r => hd b (Or.inr (Or.inr (Or.inr (Or.inr r)))))⟩
theorem Asking.lt (h : Asking q S R v lr n bw bn bg bl w l) : ∀ b, QcOf R bw bn bg bl b → b < w.heap.size := fun b hb => by
  rcases hb with rfl | rfl | rfl | rfl | hb
  · exact (Array.getElem?_eq_some_iff.1 h.kw).1
  · exact (Array.getElem?_eq_some_iff.1 h.kn).1
  · exact (Array.getElem?_eq_some_iff.1 h.kg).1
  · exact (Array.getElem?_eq_some_iff.1 h.kl).1
  · exact h.ref.lt b hb
/-- one asking more: the name is written, and what is noted of all -/
theorem Asking.next (h : Asking q S R v lr n bw bn bg bl w l) (hB : Boxes R bw bn bg bl) (s : ByteArray) (m : Nat) (hw : w'.heap = ((w.setCell ⟨bg, 0, none⟩ (.bool ((noted S.L [] true l).2 && askOk S.L (noted S.L [] true l).1 (s.data.toList, m)))).setCell ⟨bl, 0, none⟩ (.string s)).heap) (ho : w'.os = w.os ∧ w'.tape = w.tape ∧ w'.output = w.output) :
    Asking q S R v lr n bw bn bg bl w' (l ++ [(s.data.toList, m)]) ∧ Turn (QcOf R bw bn bg bl) w w' := by
  obtain ⟨b1, b2, b3, b4, b5, b6, b7, b8, b9⟩ := hB
  have tx : Turn (fun b => b = bg ∨ b = bl) w ((w.setCell ⟨bg, 0, none⟩ (.bool ((noted S.L [] true l).2 && askOk S.L (noted S.L [] true l).1 (s.data.toList, m)))).setCell ⟨bl, 0, none⟩ (.string s)) :=
    ((Turn.refl (fun b => b = bg ∨ b = bl) w).set bg 0 (Or.inl (Or.inl rfl)) _).set bl 0 (Or.inl (Or.inr rfl)) _
  have t : Turn (fun b => b = bg ∨ b = bl) w w' := ⟨ho.1, ho.2.1, ho.2.2, by rw [hw]; exact tx.size, fun k hk hq => by rw [hw]; exact tx.block k hk hq⟩
  have hlt := h.lt
  have es : (⟨s.data.toList.toArray⟩ : ByteArray) = s := by simp
  refine ⟨⟨?_, ?_, ?_, ?_, ?_⟩, t.mono fun b hb => ?_⟩
  · exact (t.block bw (hlt bw (Or.inl rfl)) (fun e => by rcases e with e | e; exact b1 e.symm; exact b3 e.symm)).trans h.kw
  · exact (t.block bn (hlt bn (Or.inr (Or.inl rfl))) (fun e => by rcases e with e | e; exact b2 e.symm; exact b4 e.symm)).trans h.kn
  · rw [noted_snoc, hw, heap_setCell_other (Ne.symm b5), heap_setCell_same h.kg]; rfl
  · rw [noted_snoc, hw]
    have e := h.kl
    rw [← heap_setCell_other (w := w) (j := 0) (v := .bool ((noted S.L [] true l).2 && askOk S.L (noted S.L [] true l).1 (s.data.toList, m))) b5] at e
    rw [heap_setCell_same e]
    simp only [es]; rfl
  · exact h.ref.turned t (fun b r e => by rcases e with rfl | rfl; exact b8 r; exact b9 r)
  · rcases hb with rfl | rfl
    · exact Or.inr (Or.inr (Or.inl rfl))
    · exact Or.inr (Or.inr (Or.inr (Or.inl rfl)))
end
end Go.Proofs.Ytpaekggmphahoaa
