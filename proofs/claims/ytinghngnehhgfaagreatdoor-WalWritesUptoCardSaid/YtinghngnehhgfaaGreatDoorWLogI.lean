/-
  WalWrites: the log behind so many records; its calls.
-/
import Derived.Test.YtinghngnehhgfaaGreatDoorWWP
import Derived.Test.YtinghngnehhgfaaGreatDoorWSegM
import Derived.Test.YtinghngnehhgfaaGreatDoorWJ
namespace Go.Proofs.YtinghngnehhgfaaGreatDoor
open Go.RowKit Go.Maps Go.WideMaps
set_option linter.unusedVariables false
set_option linter.unusedSimpArgs false

theorem LogX.aside2 {w0 w w1 : World} {p lp : Nat} {S : Fsp.Fs} {Q : Nat → Prop} {l : Walp.Lg} (h : LogX w0 w p S Q lp l) {P : Nat → Prop} (ht : Turn P w w1) (hP : ∀ b, P b → ¬ Q b ∧ b ≠ lp ∧ w0.heap.size ≤ b) : LogX w0 w1 p S Q lp l :=
  ⟨h.rep.turned ht (fun b hq hp => (hP b hp).1 hq), h.log.turned ht (fun q => (hP _ q).2.1 rfl), h.out, h.new, h.newQ, h.turn.trans ht (fun i hi q => by have := (hP i q).2.2; omega)⟩

/-- the log, behind k records -/
structure LogI (w0 w : World) (p lp sz k : Nat) (S : Fsp.Fs) (l : Walp.Lg) (ls : List (List (List UInt8))) (Q : Nat → Prop) : Prop where
  hx : LogX w0 w p S Q lp l
  live : Walp.Live S l ls
  hsz : l.size = sz
  hdir : l.dir = [119]
  segs : Walp.AllSegs S [119]
  arm : S.armed = 0
  room : S.room = 67108864
  used : Fsp.usedOf S.L ≤ k * 1048584
  last : l.last ≤ k + 1
  steps : S.steps ≤ 100 * k + 1
/-- the law's segments beside it -/
structure RowI (w0 w : World) (lp : Nat) (Q : Nat → Prop) (g off cap : Nat) (us : List Value) (L : List (List UInt8)) : Prop where
  rows : Segs w g off cap us L
  sep : ∀ b, SegB g us b → ¬ Q b ∧ b ≠ lp ∧ w0.heap.size ≤ b

section
variable {w0 w w1 w2 w' : World} {p lp sz k : Nat} {S S' : Fsp.Fs} {l l' : Walp.Lg} {ls : List (List (List UInt8))} {Q Q' P : Nat → Prop} {g off cap : Nat} {us : List Value} {L : List (List UInt8)}

theorem LogI.len (h : LogI w0 w p lp sz k S l ls Q) : S.L.length = ls.length ∧ 1 ≤ l.first ∧ ls.length ≤ k + 1 ∧ Fsp.Sorted S.L := by
  have h1 := h.live.last
  have h2 := h.live.has.pos
  have hs := h.hx.sorted.1
  have h3 := h.live.has
  rw [h.hdir] at h3
  have e := Walp.segs_len h.segs h3 hs
  rw [List.length_map] at e
  have h4 := h.last
  exact ⟨e, h2, by omega, hs⟩
theorem LogI.besides (h : LogI w0 w p lp sz k S l ls Q) (t : Turn P w w') (hP : ∀ b, P b → ¬ Q b ∧ b ≠ lp ∧ w0.heap.size ≤ b) : LogI w0 w' p lp sz k S l ls Q :=
  { h with hx := h.hx.aside2 t hP }
theorem LogI.later (h : LogI w0 w p lp sz k S l ls Q) (t : Turn (fun _ => False) w w') : LogI w0 w' p lp sz k S l ls Q := h.besides t (fun _ e => e.elim)
theorem LogI.up (h : LogI w0 w p lp sz k S l ls Q) : LogI w0 w p lp sz (k + 1) S l ls Q :=
  { h with used := Nat.le_trans h.used (Nat.mul_le_mul_right _ (Nat.le_succ k)), last := Nat.le_succ_of_le h.last, steps := by have := h.steps; omega }
theorem RowI.later (h : RowI w0 w lp Q g off cap us L) (t : Turn (fun _ => False) w w') : RowI w0 w' lp Q g off cap us L := ⟨h.rows.turned t (fun _ _ e => e), h.sep⟩
theorem RowI.beside (h : RowI w0 w lp Q g off cap us L) (t : Turn (fun b => Q b ∨ b = lp) w w') : RowI w0 w' lp (Grow Q w w') g off cap us L := by
  refine ⟨h.rows.turned t (fun b hb q => ?_), fun b hb => ?_⟩
  · obtain ⟨a1, a2, -⟩ := h.sep b hb
    rcases q with q | q
    · exact a1 q
    · exact a2 q
  · obtain ⟨a1, a2, a3⟩ := h.sep b hb
    have := h.rows.lt b hb
    exact ⟨fun q => q.elim a1 (fun q => by omega), a2, a3⟩

set_option maxRecDepth 100000 in
/-- Append: taken -/
theorem append_I (hT : SumTab w0) (h : LogI w0 w p lp sz k S l ls Q) (hk : k < 60) {u : Value} {b : List UInt8} (hb : BytesIn w0 u b) (hbl : b.length ≤ 1048576) (hr : RowI w0 w lp Q g off cap us L) :
    Calls Tryz.prog 12 #[.pointer (some ⟨lp, 0, none⟩), u] w fun r w' => r = .returned (.int .i64 0) ∧ ∃ S' l' Q', LogI w0 w' p lp sz (k + 1) S' l' (Walp.addTo (Walp.rot sz ls) b) Q' ∧ l'.first = l.first ∧ RowI w0 w' lp Q' g off cap us L := by
  obtain ⟨e1, e2, e3, e4⟩ := h.len
  have h1 := h.last
  have h2 := h.steps
  have h3 := h.used
  have h4 := h.room
  have hX := hb.outside h.hx
  have hends := Walp.append_ends e4 h.live hbl (by omega) (by omega)
  obtain ⟨sp, cp, rfl, _⟩ := hb.c
  obtain ⟨g1, f, hf⟩ := live_last h.live
  refine (wAppend_any hT h.hx h.live.free (by rw [h.hdir]; simp) g1 (by omega) hf hX hbl (by omega)).mono ?_
  rintro r w' ⟨rfl, hp⟩
  obtain ⟨hx', t'⟩ := hp
  obtain ⟨a1, a2⟩ := hends.unarmed h.arm
  have hseg := Walp.AllSegs.append (S := S) (l := l) (by rw [h.hdir]; exact h.segs) (by omega) (by omega) b
  have hdir := hends.hdir
  have hff := hends.hfirst
  have hst := hends.steps
  have hrm := hends.room
  rw [h.hdir] at hseg hdir
  rcases hends.ways with ⟨z1, z2, z3⟩ | ⟨z1, z2, z3, z4⟩ | ⟨z1, _⟩
  · rw [z1]
    rw [h.hsz] at z2
    have hlast2 := z2.last
    have hlast1 := h.live.last
    have hrl := (Walp.rot_length sz ls).2
    have hal : (Walp.addTo (Walp.rot sz ls) b).length ≤ ls.length + 1 := by
      rw [Walp.addTo_length (by have := (Walp.rot_length sz ls).1; have := h.live.any; omega)]; exact hrl
    exact ⟨rfl, _, _, _, ⟨hx', z2, by rw [hends.hsize]; exact h.hsz, hdir, hseg, a1, by rw [hrm]; exact h4, by rw [z3]; omega, by omega, by omega⟩, hff, hr.beside t'⟩
  · omega
  · exact absurd z1 a2

set_option maxRecDepth 100000 in
/-- Rotate: done -/
theorem rotate_I (h : LogI w0 w p lp sz k S l ls Q) (hk : k < 60) (hr : RowI w0 w lp Q g off cap us L) :
    Calls Tryz.prog 9 #[.pointer (some ⟨lp, 0, none⟩)] w fun r w' => r = .returned (.int .i64 0) ∧ ∃ S' l' Q', LogI w0 w' p lp sz (k + 1) S' l' (ls ++ [[]]) Q' ∧ l'.first = l.first ∧ RowI w0 w' lp Q' g off cap us L := by
  obtain ⟨e1, e2, e3, e4⟩ := h.len
  have h1 := h.last
  have h2 := h.steps
  have h3 := h.used
  have hU : Fsp.usedOf S.L ≤ (k + 1) * 1048584 := Nat.le_trans h3 (Nat.mul_le_mul_right _ (Nat.le_succ k))
  refine (rotate_any h.hx (by unfold StepsLow; omega) (by rw [h.hdir]; simp) (by omega)).mono ?_
  rintro r w' ⟨rfl, hp⟩
  obtain ⟨hx', t'⟩ := hp
  obtain ⟨r1, r2, r3, r4, r5, r6, r7, r8, r9⟩ := Walp.rotate_ends e4 h.live (by omega) (by omega)
  have hseg := Walp.AllSegs.rotate (S := S) (l := l) (by rw [h.hdir]; exact h.segs) (by omega)
  obtain ⟨a1, a2⟩ := r7 h.arm
  have hs := hseg.1
  have hla := hseg.2.2.1
  rw [h.hdir] at hs r1
  rcases r9 with ⟨z1, z2⟩ | ⟨z1, _⟩
  · rw [z1]
    exact ⟨rfl, _, _, _, ⟨hx', z2, by rw [r3]; exact h.hsz, r1, hs, a1, by rw [r4]; exact h.room, Nat.le_trans (Nat.le_of_eq r8) hU, by omega, by omega⟩, r2, hr.beside t'⟩
  · exact absurd z1 a2

set_option maxRecDepth 100000 in
/-- Drop: so many segments go -/
theorem drop_I (h : LogI w0 w p lp sz k S l ls Q) (hk : k < 60) (hr : RowI w0 w lp Q g off cap us L) (j : Nat) (hj : j < ls.length) :
    Calls Tryz.prog 10 #[.pointer (some ⟨lp, 0, none⟩), .int .i64 ((l.first : Int) + j)] w fun r w' => r = .returned (.int .i64 0) ∧ ∃ S' l' Q', LogI w0 w' p lp sz (k + 1) S' l' (ls.drop j) Q' ∧ l'.first = l.first + j ∧ RowI w0 w' lp Q' g off cap us L := by
  obtain ⟨e1, e2, e3, e4⟩ := h.len
  have h1 := h.last
  have h2 := h.steps
  have h3 := h.used
  have h5 := h.live.last
  obtain ⟨d1, d2, d3, d4, d5, d6, d7⟩ := Walp.drops_ok e4 h.live (by rw [h.hdir]; exact h.segs) h.arm j hj
  refine (drop_ok h.hx h.live.free (by rw [h.hdir]; simp) ((l.first : Int) + j) (by omega) (by omega) e2 j (by omega) (Or.inr rfl) (by omega) d1).mono ?_
  rintro r w' ⟨rfl, hp⟩
  obtain ⟨hx', t'⟩ := hp
  have hl := drops_l j S l
  have hst := drops_steps j S l
  rw [h.hdir] at d3
  exact ⟨rfl, _, _, _, ⟨hx', d2, by rw [hl]; exact h.hsz, by rw [hl]; exact h.hdir, d3, d5, by rw [d6]; exact h.room, by omega, by rw [hl]; show l.last ≤ _; omega, by omega⟩, by rw [hl], hr.beside t'⟩
end
end Go.Proofs.YtinghngnehhgfaaGreatDoor
