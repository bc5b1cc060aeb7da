/-
  WalWrites, plain: the files are the log's segments alone; drops.
-/
import Derived.Test.YtinghngnehhgfaaGreatDoorWA
import Derived.Test.YtinghngnehhgfaaGreatDoorWH
namespace Go.Proofs.YtinghngnehhgfaaGreatDoor.Walp
open Fsp (Fs File find put del)
set_option linter.unusedVariables false

/-- every file is a segment -/
def AllSegs (S : Fs) (d : List UInt8) : Prop := ∀ x ∈ S.L, ∃ n, 0 < n ∧ n < 100000000 ∧ x.1 = seg d n
section
variable {S S' : Fs} {d : List UInt8} {l : Lg} {ls : List (List (List UInt8))} {p : List UInt8}
theorem AllSegs.same (h : AllSegs S d) (e : S'.L = S.L) : AllSegs S' d := fun x hx => h x (by rw [← e]; exact hx)
theorem AllSegs.put (h : AllSegs S d) {n : Nat} {f : File} (h0 : 0 < n) (h1 : n < 100000000) (e : S'.L = Fsp.put S.L (seg d n) f) : AllSegs S' d := fun x hx => by
  rw [e] at hx
  rcases Fsp.mem_put hx with rfl | hx
  · exact ⟨n, h0, h1, rfl⟩
  · exact h x hx
theorem AllSegs.del (h : AllSegs S d) {n : List UInt8} (e : S'.L = Fsp.del S.L n) : AllSegs S' d := fun x hx => h x (Fsp.mem_del (by rw [← e]; exact hx))
theorem stepped_L (S : Fs) : (Fsp.stepped S).L = S.L := by unfold Fsp.stepped; split <;> rfl
theorem create_L (S : Fs) (n : List UInt8) : (Fsp.create S n).1.L = S.L ∨ ∃ f, (Fsp.create S n).1.L = Fsp.put S.L n f := by
  have e := stepped_L S
  unfold Fsp.create
  repeat' split
  all_goals first | exact Or.inl rfl | exact Or.inl e | exact Or.inr ⟨_, rfl⟩
theorem append_L (S : Fs) (n b : List UInt8) : (Fsp.append S n b).1.L = S.L ∨ ∃ f, (Fsp.append S n b).1.L = Fsp.put S.L n f := by
  have e := stepped_L S
  unfold Fsp.append
  repeat' split
  all_goals first | exact Or.inl rfl | exact Or.inl e | exact Or.inr ⟨_, rfl⟩
theorem sync_L (S : Fs) (n : List UInt8) : (Fsp.sync S n).1.L = S.L ∨ ∃ f, (Fsp.sync S n).1.L = Fsp.put S.L n f := by
  have e := stepped_L S
  unfold Fsp.sync
  repeat' split
  all_goals first | exact Or.inl rfl | exact Or.inl e | exact Or.inr ⟨_, rfl⟩
theorem AllSegs.by_ (h : AllSegs S d) {n : Nat} (h0 : 0 < n) (h1 : n < 100000000) (e : S'.L = S.L ∨ ∃ f, S'.L = Fsp.put S.L (seg d n) f) : AllSegs S' d := by
  rcases e with e | ⟨f, e⟩
  · exact h.same e
  · exact h.put h0 h1 e
theorem AllSegs.rotate (h : AllSegs S l.dir) (hl : l.last + 1 < 100000000) : AllSegs (rotate S l).1.1 l.dir ∧ (rotate S l).1.2.dir = l.dir ∧ (rotate S l).1.2.last ≤ l.last + 1 ∧ l.last ≤ (rotate S l).1.2.last := by
  unfold Walp.rotate
  have hc := h.by_ (by omega) hl (create_L S (seg l.dir (l.last + 1)))
  split
  · exact ⟨h, rfl, Nat.le_succ _, Nat.le_refl _⟩
  · split
    · exact ⟨h, rfl, Nat.le_succ _, Nat.le_refl _⟩
    · split
      · exact ⟨hc, rfl, Nat.le_refl _, Nat.le_succ _⟩
      · exact ⟨hc, met_dir _ _, by rw [met_last]; exact Nat.le_succ _, by rw [met_last]; exact Nat.le_refl _⟩
theorem AllSegs.write (h : AllSegs S l.dir) (h0 : 0 < l.last) (hl : l.last < 100000000) (p : List UInt8) : AllSegs (write S l p).1.1 l.dir := by
  unfold Walp.write
  have ha := h.by_ h0 hl (append_L S (seg l.dir l.last) (frame p))
  split
  · exact ha.by_ h0 hl (sync_L _ _)
  · exact ha
theorem AllSegs.append (h : AllSegs S l.dir) (h0 : 0 < l.last) (hl : l.last + 1 < 100000000) (p : List UInt8) : AllSegs (append S l p).1.1 l.dir := by
  obtain ⟨r1, r2, r3, r4⟩ := h.rotate hl
  unfold Walp.append
  split
  · exact h
  · split
    · exact h
    · split
      · split
        · have hw := AllSegs.write (S := (Walp.rotate S l).1.1) (l := (Walp.rotate S l).1.2) (by rw [r2]; exact r1) (by omega) (by omega) p
          rw [r2] at hw; exact hw
        · exact r1
      · exact h.write h0 (by omega) p

/-- the files' names -/
theorem names_segs {first : Nat} {fs : List File} (h : AllSegs S d) (hh : Has S d first fs) (hs : Fsp.Sorted S.L) : S.L.map (·.1) = (List.range' first fs.length).map (seg d) := by
  have e0 := hh.nums hs
  have e1 : numsOf d (S.L.map (·.1)) = (S.L.map (·.1)).map (numOf d) := by
    unfold numsOf
    refine List.filter_eq_self.2 fun n hn => ?_
    obtain ⟨x, hx, rfl⟩ := List.mem_map.1 hn
    obtain ⟨y, hy, rfl⟩ := List.mem_map.1 hx
    obtain ⟨m, m0, m1, e⟩ := h y hy
    rw [e, numOf_seg d m1]
    simp; omega
  rw [← e0, e1, List.map_map]
  conv => lhs; rw [← List.map_id (S.L.map (·.1))]
  refine List.map_congr_left fun x hx => ?_
  obtain ⟨y, hy, rfl⟩ := List.mem_map.1 hx
  obtain ⟨m, m0, m1, e⟩ := h y hy
  simp only [Function.comp, e, numOf_seg d m1, id]
theorem segs_len {first : Nat} {fs : List File} (h : AllSegs S d) (hh : Has S d first fs) (hs : Fsp.Sorted S.L) : S.L.length = fs.length := by
  have e := congrArg List.length (names_segs h hh hs)
  simpa using e

theorem used_del (L : List (List UInt8 × File)) (n : List UInt8) : Fsp.usedOf (Fsp.del L n) ≤ Fsp.usedOf L := by
  induction L with
  | nil => simp [Fsp.del]
  | cons x r ih =>
    unfold Fsp.del
    split
    · simp only [Fsp.usedOf]; omega
    · simp only [Fsp.usedOf]; omega

/-- so many segments dropped: no step of it fails -/
theorem drops_ok (hs : Fsp.Sorted S.L) (h : Live S l ls) (ha : AllSegs S l.dir) (h0 : S.armed = 0) : ∀ (k : Nat), k < ls.length →
    (∀ j, j < k → (Fsp.remove (drops j S l).1 (seg (drops j S l).2.dir (drops j S l).2.first)).2 = 0) ∧
    Live (drops k S l).1 (drops k S l).2 (ls.drop k) ∧ AllSegs (drops k S l).1 l.dir ∧ Fsp.Sorted (drops k S l).1.L ∧ (drops k S l).1.armed = 0 ∧ (drops k S l).1.room = S.room ∧ Fsp.usedOf (drops k S l).1.L ≤ Fsp.usedOf S.L
  | 0, _ => ⟨fun j hj => by omega, by simpa [drops] using h, ha, hs, h0, rfl, Nat.le_refl _⟩
  | k + 1, hk => by
    obtain ⟨i1, i2, i3, i4, i5, i6, i7⟩ := drops_ok hs h ha h0 k (by omega)
    have hl := drops_l k S l
    obtain ⟨SJ, hSJ⟩ : ∃ SJ, SJ = (drops k S l).1 := ⟨_, rfl⟩
    obtain ⟨lj, hlj⟩ : ∃ lj, lj = (drops k S l).2 := ⟨_, rfl⟩
    rw [← hSJ] at i2 i3 i4 i5 i6 i7
    rw [← hlj] at i2 hl
    have hdir : lj.dir = l.dir := by rw [hl]
    have hcons : ls.drop k = ls[k]'(by omega) :: ls.drop (k + 1) := List.drop_eq_getElem_cons (by omega)
    have hhas := i2.has
    rw [hcons, List.map_cons] at hhas
    have hfile := hhas.firstFile
    have hup := i2.up
    have hst : Fsp.stepped SJ = { SJ with armed := SJ.armed - 1, steps := SJ.steps + 1 } := stepped_of (by omega)
    have hrem : Fsp.remove SJ (seg lj.dir lj.first) = ({ Fsp.stepped SJ with L := Fsp.del SJ.L (seg lj.dir lj.first) }, 0) := by
      unfold Fsp.remove
      rw [hup, hfile]
      simp [i5]
    have e1 : drops (k + 1) S l = ({ Fsp.stepped SJ with L := Fsp.del SJ.L (seg lj.dir lj.first) }, { lj with first := lj.first + 1 }) := by
      simp only [drops, ← hSJ, ← hlj, hrem]
    rw [e1]
    refine ⟨fun j hj => ?_, ?_, ?_, Fsp.del_sorted i4 _, ?_, ?_, ?_⟩
    · by_cases e : j = k
      · subst e
        rw [← hSJ, ← hlj, hrem]
      · exact i1 j (by omega)
    · have h2 := i2.last
      refine ⟨?_, ?_, ?_, fun rs hrs => i2.short rs (by rw [hcons]; exact List.mem_cons_of_mem _ hrs), ?_, i2.free, i2.valid⟩
      · exact hhas.delFirst i4 rfl
      · rw [List.length_drop] at h2 ⊢; simp only; omega
      · rw [List.length_drop]; omega
      · show (Fsp.stepped SJ).down = false
        rw [hst]; exact hup
    · exact i3.del rfl
    · show (Fsp.stepped SJ).armed = 0
      rw [hst]; simp only; omega
    · show (Fsp.stepped SJ).room = S.room
      rw [hst]; exact i6
    · exact Nat.le_trans (used_del _ _) i7
end
end Go.Proofs.YtinghngnehhgfaaGreatDoor.Walp
