/-
  THE LAW FsPlays: the walk.
-/
import Derived.Test.YtpaekggmphahoaaEDoAll
import Derived.Test.YtpaekggmphahoaaFpG
import Derived.Test.YtpaekggmphahoaaCopy2
import Derived.Test.YtpaekggmphahoaaFpF
namespace Go.Proofs.Ytpaekggmphahoaa
open Go.RowKit Go.Maps Go.WideMaps Go.Sort
set_option linter.unusedVariables false
set_option linter.unusedSimpArgs false
section
variable {w w1 w2 w3 wr w' : World} {p q g base : Nat} {S S' : Fsp.Fs} {Q R : Nat → Prop} {v : Value} {lr : List RF}

theorem Turn.shrink (t : Turn (fun b => w.heap.size ≤ b) w w') : Turn (fun _ => False) w w' := ⟨t.os, t.tape, t.output, t.size, fun k hk _ => t.block k hk (by omega)⟩

/-- a copy goes on; what it was made of turns further, and is left -/
theorem Both.copied (g2 : RefX wr q S R v lr) (h3 : ∀ b, Q b → ¬ R b) (h4 : ∀ b, Q b → base ≤ b) (h5 : ∀ b, R b → base ≤ b) (hb : base ≤ wr.heap.size) (hQ : ∀ b, Q b → b < wr.heap.size)
    (c1 : Since wr g S w1) (t2 : Turn Q w1 w2) (t3 : Turn (fun b => Grow Q w1 w2 b ∨ False) w2 w3) : BPost wr g q S base w3 := by
  obtain ⟨⟨mo', pl', r1⟩, t1⟩ := c1
  have s1 := t1.size
  have s2 := t2.size
  have s3 := t3.size
  have r3 := (r1.turned t2 (fun b hb hq => by have := hQ b hq; omega)).turned t3 (fun b hb hq => by
    rcases hq with (k | k) | k
    · have := hQ b k; omega
    · omega
    · exact k)
  have x3 := ((g2.same t1).turned t2 (fun b r k => h3 b k r)).turned t3 (fun b r hq => by
    have hr := g2.lt b r
    rcases hq with (k | k) | k
    · exact h3 b k r
    · omega
    · exact k)
  refine ⟨⟨_, R, mo', pl', v, lr, r3, x3, fun b hb r => by have := g2.lt b r; omega, fun b hb => by omega, h5⟩, ?_⟩
  refine ((t1.mono (Q' := fun b => base ≤ b) (fun _ e => e.elim)).trans (t2.mono h4) (fun _ _ e => e)).trans (t3.mono (Q' := fun b => base ≤ b) (fun b hq => ?_)) (fun _ _ e => e)
  rcases hq with (k | k) | k
  · exact h4 b k
  · omega
  · exact k.elim

/-- kind 8 of the walk: copied, made and crashed -/
theorem copy_part (h : Both wr p q S base) (hb : base ≤ wr.heap.size) (hs : StepsOk S) :
    Calls Try.prog 8 #[.pointer (some ⟨p, 0, none⟩)] wr fun r w1 => r = .returned (.pointer (some ⟨wr.heap.size, 0, none⟩)) ∧
      Calls Try.prog 9 #[.pointer (some ⟨p, 0, none⟩), .string ⟨#[111, 110, 108, 121, 45, 104, 101, 114, 101]⟩] w1 fun r w2 => (∃ n : Nat, r = .returned (.int .i64 (n : Int))) ∧
        Calls Try.prog 10 #[.pointer (some ⟨p, 0, none⟩), .nilFunc] w2 fun r w3 => r = .returned (.tuple #[]) ∧ BPost wr wr.heap.size q S base w3 := by
  obtain ⟨Q, R, mo, pl, v, lr, g1, g2, h3, h4, h5⟩ := h
  refine (copy_any g1).mono ?_
  rintro r w1 ⟨rfl, c1⟩
  refine ⟨rfl, ?_⟩
  refine (create_any (g1.turned c1.2 (fun _ _ e => e)) hs _ (by decide)).mono ?_
  rintro r w2 ⟨rfl, ⟨mo2, pl2, r2⟩, t2⟩
  refine ⟨⟨_, rfl⟩, ?_⟩
  refine (crash_any keeper_nil (l := []) trivial (fun _ e => e.elim) r2).mono ?_
  rintro r w3 ⟨rfl, -, -, t3⟩
  exact ⟨rfl, Both.copied g2 h3 h4 h5 hb g1.lt c1 t2 t3⟩

/-- what is wanted of a list's front -/
def wantOf (L : FL) (front : List UInt8) (k : Nat) : List (List UInt8) := ((L.take k).map (·.1)).filter fun n => front.isPrefixOf n
theorem wantOf_zero (L : FL) (front : List UInt8) : wantOf L front 0 = [] := by simp [wantOf]
theorem wantOf_next {L : FL} (front : List UInt8) {k : Nat} {x : List UInt8 × Fsp.File} (hx : L[k]? = some x) : wantOf L front (k + 1) = if front.isPrefixOf x.1 then wantOf L front k ++ [x.1] else wantOf L front k := by
  unfold wantOf
  obtain ⟨hk, e⟩ := List.getElem?_eq_some_iff.1 hx
  rw [List.take_succ_eq_append_getElem hk, List.map_append, List.filter_append, e]
  by_cases hf : front.isPrefixOf x.1
  · simp [hf]
  · simp [hf]
theorem wantOf_end (S : Fsp.Fs) (front : List UInt8) {k : Nat} (hk : S.L.length ≤ k) : wantOf S.L front k = Fsp.names S front := by
  unfold wantOf Fsp.names
  rw [List.take_of_length_le hk]
theorem wantOf_len (L : FL) (front : List UInt8) (k : Nat) : (wantOf L front k).length ≤ k := by
  unfold wantOf
  refine Nat.le_trans (List.length_filter_le _ _) ?_
  rw [List.length_map, List.length_take]; omega
end
end Go.Proofs.Ytpaekggmphahoaa
