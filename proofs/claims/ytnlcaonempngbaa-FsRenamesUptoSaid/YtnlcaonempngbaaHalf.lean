/-
  A copy that grows.
-/
import Derived.Test.YtnlcaonempngbaaAlike
import Derived.Test.YtnlcaonempngbaaPlain4
namespace Go.Proofs.Ytnlcaonempngbaa
open Go.RowKit Go.Maps Go.WideMaps Go.Sort

section
variable {w w' : World} {q mb : Nat} {S : Fsp.Fs} {P P' : List UInt8 → Bool} {Q Q' : Nat → Prop} {pl : List UInt8 → Pl}

/-- the head's third cell as it would be -/
def fix (w : World) (q k : Nat) : World := w.setCell ⟨q, 2, none⟩ (.int .i64 (k : Int))

theorem fix_size (w : World) (q k : Nat) : (fix w q k).heap.size = w.heap.size := by simp [fix, World.setCell]
theorem fix_other {k i : Nat} (h : i ≠ q) : (fix w q k).heap[i]? = w.heap[i]? := heap_setCell_other h _
theorem fix_turn (w : World) (q k : Nat) : Turn (fun b => b = q) w (fix w q k) := turnP w q 2 _
theorem fix_back (w : World) (q k : Nat) : Turn (fun b => b = q) (fix w q k) w :=
  ⟨(fix_turn w q k).os.symm, (fix_turn w q k).tape.symm, (fix_turn w q k).output.symm, by rw [fix_size]; exact Nat.le_refl _, fun _ _ hn => (fix_other hn).symm⟩

theorem fix_both {k k' : Nat} (h : Turn Q w w') (hq : ∀ i, i ≠ q → Q i → Q' i) (hh : Q' q ∨ (fix w' q k').heap[q]? = (fix w q k).heap[q]?) : Turn Q' (fix w q k) (fix w' q k') := by
  refine ⟨(fix_turn w' q k').os.trans (h.os.trans (fix_turn w q k).os.symm), (fix_turn w' q k').tape.trans (h.tape.trans (fix_turn w q k).tape.symm), (fix_turn w' q k').output.trans (h.output.trans (fix_turn w q k).output.symm), by rw [fix_size, fix_size]; exact h.size, fun i hi hn => ?_⟩
  rw [fix_size] at hi
  by_cases e : i = q
  · subst e
    rcases hh with hh | hh
    · exact absurd hh hn
    · exact hh
  · rw [fix_other e, fix_other e]
    exact h.block i hi (fun hqi => hn (hq i e hqi))

structure Half (w : World) (q mb : Nat) (S : Fsp.Fs) (P : List UInt8 → Bool) (Q : Nat → Prop) (pl : List UInt8 → Pl) : Prop where
  head : w.heap[q]? = some (headOf S false (some mb))
  rep : RepX (fix w q (Fsp.usedOf (Fsp.only S.L P))) q { S with L := Fsp.only S.L P } false Q (some mb) pl

theorem Half.turned (h : Half w q mb S P Q pl) (ht : Turn Q' w w') (hq : ∀ b, Q b → ¬ Q' b) : Half w' q mb S P Q pl := by
  have hqq : w'.heap[q]? = w.heap[q]? := ht.block q (by have := h.rep.lt q h.rep.inP; rw [fix_size] at this; exact this) (hq q h.rep.inP)
  refine ⟨hqq.trans h.head, h.rep.turned (fix_both ht (fun _ _ x => x) (Or.inr ?_)) hq⟩
  unfold fix
  rw [heap_setCell_same h.head, heap_setCell_same (hqq.trans h.head)]

theorem Half.mono (h : Half w q mb S P Q pl) (hq : ∀ b, Q b → Q' b) (hl : ∀ b, Q' b → b < w.heap.size) : Half w q mb S P Q' pl :=
  ⟨h.head, h.rep.mono hq (fun b hb => by rw [fix_size]; exact hl b hb)⟩

theorem Half.map (h : Half w q mb S P Q pl) : ∃ D, w.ownsMap Try.prog 9 ptrElem mb (Fsp.only S.L P).length D ∧ Agree D (Fsp.only S.L P) pl := by
  obtain ⟨D, h1, h2⟩ := h.rep.map
  exact ⟨D, ownsMap_turned h1 (fix_back w q _) (fun e => h.rep.p_ne_mb rfl e.symm), h2⟩

theorem Half.add (h : Half w q mb S P Q pl) (hs : Fsp.Good S) {n : List UInt8} {f : Fsp.File} (hf : Fsp.find S.L n = some f) (hn : P n = false) (hn' : P' n = true) (hP : ∀ m, m ≠ n → P' m = P m)
    {D : DataW Unit} {k k' fb : Nat} {sv : Value} (hown : w.ownsMap Try.prog 9 ptrElem mb k D) (hag : Agree D (Fsp.only S.L P) pl) (ht : Turn (fun b => b = mb) w w') (hown' : w'.ownsMap Try.prog 9 ptrElem mb k' (D.put (.string n) (fbLit fb)))
    (hfile : FileAt w' fb sv f) (hfb : w.heap.size ≤ fb) (hnew : ∀ r, sv.ownBlock = some r → w.heap.size ≤ r) : Half w' q mb S P' (Grow Q w w') (setPl pl n ⟨fb, sv⟩) := by
  have hql : q < w.heap.size := by have := h.rep.lt q h.rep.inP; rw [fix_size] at this; exact this
  have hqm : q ≠ mb := h.rep.p_ne_mb rfl
  have hqq : w'.heap[q]? = w.heap[q]? := ht.block q hql hqm
  have hput := Fsp.only_put hs.1 hf hn hn' hP
  refine ⟨hqq.trans h.head, ?_⟩
  have := h.rep.addFile (S' := { S with L := Fsp.only S.L P' }) (c' := false) (n := n) (f' := f) (sv' := sv) (fb := fb) (mb := mb) (k := k') (w' := fix w' q (Fsp.usedOf (Fsp.only S.L P'))) (D := D.put (.string n) (fbLit fb))
    (by show Fsp.find (Fsp.only S.L P) n = none; rw [Fsp.only_find, hn]; rfl)
    (fix_both ht (fun i _ e => Or.inr (by rw [e])) (Or.inl (Or.inl rfl)))
    (by unfold fix; rw [heap_setCell_same (hqq.trans h.head)]; rfl) hput.symm (Fsp.good_only hs P') (Or.inl rfl)
    (ownsMap_turned hown' (fix_turn w' q _) (fun e => hqm e.symm)) (hag.put (Fsp.only_sorted hs.1 P) (hown.tidy lawS) n f ⟨fb, sv⟩)
    (hfile.turned (fix_turn w' q _) (fun e => by omega) (fun r hr e => by have := hnew r hr; omega)) (by rw [fix_size]; exact hfb) (fun r hr => by rw [fix_size]; exact hnew r hr)
  refine this.mono (fun b hb => ?_) (fun b hb => ?_)
  · rcases hb with hb | hb
    · exact Or.inl hb
    · rw [fix_size, fix_size] at hb; exact Or.inr hb
  · rw [fix_size]
    rcases hb with hb | hb
    · have := h.rep.lt b hb; rw [fix_size] at this; exact Nat.lt_of_lt_of_le this ht.size
    · exact hb.2

theorem Half.done (h : Half w q mb S P Q pl) (hs : Fsp.Good S) (hall : Fsp.only S.L P = S.L) : RepX w q S false Q (some mb) pl :=
  h.rep.setHead (fix_back w q _) h.head hall.symm hs

theorem Half.start (hs : Fsp.Good S) (hh : w.heap[q]? = some (headOf S false (some mb))) (hm : w.ownsMap Try.prog 9 ptrElem mb 0 (.map [])) (hne : q ≠ mb) (pl : List UInt8 → Pl) : Half w q mb S (fun _ => false) (fun b => b = q ∨ b = mb) pl := by
  have nofile : ∀ n, ¬ (Fsp.find (Fsp.only S.L fun _ => false) n).isSome := fun n hn => by rw [Fsp.only_none] at hn; simp [Fsp.find] at hn
  have hql : q < w.heap.size := (Array.getElem?_eq_some_iff.1 hh).1
  have hml := hm.lt
  refine ⟨hh, { good := Fsp.good_only hs _, head := ?_, map := ?_, file := fun n f hf => absurd (by rw [hf]; rfl) (nofile n), apartF := fun n _ hn => absurd hn (nofile n), apartR := fun n _ hn => absurd hn (nofile n), inP := Or.inl rfl, inM := fun m e => by cases e; exact Or.inr rfl, inF := fun n hn => absurd hn (nofile n), inR := fun n hn => absurd hn (nofile n), lt := ?_ }⟩
  · unfold fix; rw [heap_setCell_same hh]; rfl
  · refine ⟨.map [], ?_, ⟨fun n => ?_, fun n f hf => absurd (by rw [hf]; rfl) (nofile n), ?_⟩⟩
    · have := ownsMap_turned hm (fix_turn w q (Fsp.usedOf (Fsp.only S.L fun _ => false))) (fun e => hne e.symm)
      rw [show ({ S with L := Fsp.only S.L fun _ => false } : Fsp.Fs).L.length = 0 from by show (Fsp.only S.L fun _ => false).length = 0; rw [Fsp.only_none]; rfl]
      exact this
    · show _ = (Fsp.find (Fsp.only S.L fun _ => false) n).isSome
      rw [Fsp.only_none]; rfl
    · show _ = (Fsp.only S.L fun _ => false).length
      rw [Fsp.only_none]; rfl
  · intro b hb
    rw [fix_size]
    rcases hb with rfl | rfl
    · exact hql
    · exact hml

end
end Go.Proofs.Ytnlcaonempngbaa
