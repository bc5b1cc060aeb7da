/-
  PLAIN, of the log: what each of its calls makes of it and of the files.
-/
import Derived.Test.YtjjajnfkngfpjaaGreatDoorPlain2
import Derived.Test.YtjjajnfkngfpjaaGreatDoorWNames
namespace Go.Proofs.YtjjajnfkngfpjaaGreatDoor.Walp
open Fsp (Fs File find put del)

structure Lg where
  dir : List UInt8
  size : Nat
  first : Nat
  last : Nat
  cut : Nat
  stuck : Bool

/-- what an error of the files makes of a log -/
def met (l : Lg) (e : Nat) : Lg := if e = 5 then { l with stuck := true } else l
theorem met_0 (l : Lg) : met l 0 = l := rfl
theorem met_dir (l : Lg) (e : Nat) : (met l e).dir = l.dir := by unfold met; split <;> rfl
theorem met_last (l : Lg) (e : Nat) : (met l e).last = l.last := by unfold met; split <;> rfl
theorem met_first (l : Lg) (e : Nat) : (met l e).first = l.first := by unfold met; split <;> rfl

def rotate (S : Fs) (l : Lg) : (Fs × Lg) × Nat :=
  if l.stuck = true then ((S, l), 25) else if 99999999 ≤ l.last then ((S, l), 6)
  else if (Fsp.create S (seg l.dir (l.last + 1))).2 = 0 then (((Fsp.create S (seg l.dir (l.last + 1))).1, { l with last := l.last + 1 }), 0)
  else (((Fsp.create S (seg l.dir (l.last + 1))).1, met l (Fsp.create S (seg l.dir (l.last + 1))).2), (Fsp.create S (seg l.dir (l.last + 1))).2)

def full (S : Fs) (l : Lg) : Bool := match find S.L (seg l.dir l.last) with
  | none => false
  | some f => decide (l.size ≤ f.data.length)

def write (S : Fs) (l : Lg) (p : List UInt8) : (Fs × Lg) × Nat :=
  if (Fsp.append S (seg l.dir l.last) (frame p)).2 = 0 then
    (((Fsp.sync (Fsp.append S (seg l.dir l.last) (frame p)).1 (seg l.dir l.last)).1, met l (Fsp.sync (Fsp.append S (seg l.dir l.last) (frame p)).1 (seg l.dir l.last)).2), (Fsp.sync (Fsp.append S (seg l.dir l.last) (frame p)).1 (seg l.dir l.last)).2)
  else (((Fsp.append S (seg l.dir l.last) (frame p)).1, met l (Fsp.append S (seg l.dir l.last) (frame p)).2), (Fsp.append S (seg l.dir l.last) (frame p)).2)

def append (S : Fs) (l : Lg) (p : List UInt8) : (Fs × Lg) × Nat :=
  if l.stuck = true then ((S, l), 25) else if 1048576 < p.length then ((S, l), 8)
  else if full S l = true then (if (rotate S l).2 = 0 then write (rotate S l).1.1 (rotate S l).1.2 p else rotate S l)
  else write S l p

def dropN : Nat → Fs → Lg → (Fs × Lg) × Nat
  | 0, S, l => ((S, l), 0)
  | k + 1, S, l => if (Fsp.remove S (seg l.dir l.first)).2 = 0 then dropN k (Fsp.remove S (seg l.dir l.first)).1 { l with first := l.first + 1 }
    else (((Fsp.remove S (seg l.dir l.first)).1, met l (Fsp.remove S (seg l.dir l.first)).2), (Fsp.remove S (seg l.dir l.first)).2)

def drop (S : Fs) (l : Lg) (below : Int) : (Fs × Lg) × Nat :=
  if l.stuck = true then ((S, l), 25) else if (l.last : Int) < below then ((S, l), 6) else dropN (below - l.first).toNat S l

/-! ### a log's segments -/
/-- the files of dir's segments are these, from number first on -/
structure Has (S : Fs) (dir : List UInt8) (first : Nat) (fs : List File) : Prop where
  pos : 0 < first
  last : first + fs.length ≤ 100000000
  find : ∀ n, 0 < n → n < 100000000 → Fsp.find S.L (seg dir n) = if n < first then none else fs[n - first]?

/-- all of it is durable -/
def whole (rs : List (List UInt8)) : File := ⟨frames rs, (frames rs).length⟩

section
variable {S S' : Fs} {dir : List UInt8} {first : Nat} {fs : List File}

theorem Has.same (h : Has S dir first fs) (hL : S'.L = S.L) : Has S' dir first fs := ⟨h.pos, h.last, by rw [hL]; exact h.find⟩

/-- the file of another name turns -/
theorem Has.put_other (h : Has S dir first fs) {n : List UInt8} {f : File} (hL : S'.L = put S.L n f) (hn : ∀ k, 0 < k → k < 100000000 → n ≠ seg dir k) : Has S' dir first fs :=
  ⟨h.pos, h.last, fun k h0 h1 => by rw [hL, Fsp.find_put_other _ (Ne.symm (hn k h0 h1))]; exact h.find k h0 h1⟩

theorem Has.lastFile {f : File} (h : Has S dir first (fs ++ [f])) : Fsp.find S.L (seg dir (first + fs.length)) = some f := by
  have h1 := h.pos
  have h2 := h.last
  simp only [List.length_append, List.length_cons, List.length_nil] at h2
  rw [h.find _ (by omega) (by omega), if_neg (by omega)]
  rw [show first + fs.length - first = fs.length by omega, List.getElem?_append_right (Nat.le_refl _), Nat.sub_self]; rfl

/-- the last file turns -/
theorem Has.setLast {f g : File} (h : Has S dir first (fs ++ [f])) (hL : S'.L = put S.L (seg dir (first + fs.length)) g) : Has S' dir first (fs ++ [g]) := by
  have h1 := h.pos
  have h2 := h.last
  simp only [List.length_append, List.length_cons, List.length_nil] at h2
  refine ⟨h1, by simp; omega, fun n h0 hn => ?_⟩
  rw [hL]
  by_cases e : n = first + fs.length
  · subst e
    rw [Fsp.find_put_same, if_neg (by omega), show first + fs.length - first = fs.length by omega, List.getElem?_append_right (Nat.le_refl _), Nat.sub_self]; rfl
  · rw [Fsp.find_put_other _ (fun q => e (seg_inj hn (by omega) q)), h.find n h0 hn]
    by_cases hlt : n < first
    · rw [if_pos hlt, if_pos hlt]
    · rw [if_neg hlt, if_neg hlt]
      by_cases hl : n - first < fs.length
      · rw [List.getElem?_append_left hl, List.getElem?_append_left hl]
      · rw [List.getElem?_eq_none (by simp; omega), List.getElem?_eq_none (by simp; omega)]

/-- a file more behind the last one -/
theorem Has.addLast (h : Has S dir first fs) (hl : first + fs.length < 100000000) {g : File} (hL : S'.L = put S.L (seg dir (first + fs.length)) g) : Has S' dir first (fs ++ [g]) := by
  have h1 := h.pos
  refine ⟨h1, by simp; omega, fun n h0 hn => ?_⟩
  rw [hL]
  by_cases e : n = first + fs.length
  · subst e
    rw [Fsp.find_put_same, if_neg (by omega), show first + fs.length - first = fs.length by omega, List.getElem?_append_right (Nat.le_refl _), Nat.sub_self]; rfl
  · rw [Fsp.find_put_other _ (fun q => e (seg_inj hn (by omega) q)), h.find n h0 hn]
    by_cases hlt : n < first
    · rw [if_pos hlt, if_pos hlt]
    · rw [if_neg hlt, if_neg hlt]
      by_cases hl : n - first < fs.length
      · rw [List.getElem?_append_left hl]
      · rw [List.getElem?_eq_none (by omega), List.getElem?_eq_none (by simp; omega)]

theorem Has.free (h : Has S dir first fs) (hl : first + fs.length < 100000000) : Fsp.find S.L (seg dir (first + fs.length)) = none := by
  have h1 := h.pos
  rw [h.find _ (by omega) hl, if_neg (by omega), List.getElem?_eq_none (by omega)]

/-- the first file goes -/
theorem Has.delFirst {f : File} (hs : Fsp.Sorted S.L) (h : Has S dir first (f :: fs)) (hL : S'.L = del S.L (seg dir first)) : Has S' dir (first + 1) fs := by
  have h1 := h.pos
  have h2 := h.last
  simp only [List.length_cons] at h2
  refine ⟨by omega, by omega, fun n h0 hn => ?_⟩
  rw [hL]
  by_cases e : n = first
  · subst e
    rw [Fsp.find_del_same hs, if_pos (by omega)]
  · rw [Fsp.find_del_other _ (fun q => e (seg_inj hn (by omega) q)), h.find n h0 hn]
    by_cases hlt : n < first
    · rw [if_pos hlt, if_pos (by omega)]
    · rw [if_neg hlt, if_neg (by omega)]
      rw [show n - first = (n - (first + 1)) + 1 by omega, List.getElem?_cons_succ]

theorem Has.firstFile {f : File} (h : Has S dir first (f :: fs)) : Fsp.find S.L (seg dir first) = some f := by
  have h1 := h.pos
  have h2 := h.last
  simp only [List.length_cons] at h2
  rw [h.find _ h1 (by omega), if_neg (by omega), Nat.sub_self]; rfl

theorem Has.at_ (h : Has S dir first fs) {i : Nat} {f : File} (hi : fs[i]? = some f) : Fsp.find S.L (seg dir (first + i)) = some f := by
  have h1 := h.pos
  have h2 := h.last
  have h3 : i < fs.length := (List.getElem?_eq_some_iff.1 hi).1
  rw [h.find _ (by omega) (by omega), if_neg (by omega), show first + i - first = i by omega]; exact hi

/-- the numbers that are there -/
theorem Has.nums (h : Has S dir first fs) (hs : Fsp.Sorted S.L) : numsOf dir (S.L.map (·.1)) = List.range' first fs.length := by
  refine numsOf_range (List.pairwise_map.2 hs) h.pos h.last fun n h0 hn => ?_
  rw [← Fsp.find_isSome, h.find n h0 hn]
  by_cases hlt : n < first
  · rw [if_pos hlt]; simp; omega
  · rw [if_neg hlt]
    by_cases hl : n - first < fs.length
    · rw [List.getElem?_eq_getElem hl]
      exact ⟨fun _ => ⟨by omega, by omega⟩, fun _ => rfl⟩
    · rw [List.getElem?_eq_none (by omega)]
      exact ⟨fun q => (by cases q), fun q => absurd q (by omega)⟩

end
end Go.Proofs.YtjjajnfkngfpjaaGreatDoor.Walp
