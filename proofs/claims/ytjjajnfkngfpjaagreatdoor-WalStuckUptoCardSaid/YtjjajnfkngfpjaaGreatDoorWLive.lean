/-
  PLAIN, of the log: a log all of whose records are durable, and what an append makes of it.
-/
import Derived.Test.YtjjajnfkngfpjaaGreatDoorWOps
namespace Go.Proofs.YtjjajnfkngfpjaaGreatDoor.Walp
open Fsp (Fs File put del)

theorem okByte_digit (n : Nat) : Fsp.okByte (UInt8.ofNat (48 + n % 10)) = true := by
  have h : (UInt8.ofNat (48 + n % 10)).toNat = 48 + n % 10 := digit n
  unfold Fsp.okByte
  simp only [Bool.or_eq_true, Bool.and_eq_true, decide_eq_true_eq, UInt8.le_iff_toNat_le, h]
  left; left; left; right
  exact ⟨by show (48 : UInt8).toNat ≤ _; simp, by show _ ≤ (57 : UInt8).toNat; simp; omega⟩

theorem dig_ok (k n : Nat) : (dig k n).all Fsp.okByte = true := by
  induction k generalizing n with
  | zero => rfl
  | succ k ih => rw [dig, List.all_append, ih, Bool.true_and]; simp only [List.all_cons, List.all_nil, Bool.and_true, okByte_digit]

theorem seg_last (dir : List UInt8) (n : Nat) : (seg dir n).getLast? = some (UInt8.ofNat (48 + n % 10)) := by
  have e : seg dir n = (dir ++ (47 :: dig 7 (n / 10))) ++ [UInt8.ofNat (48 + n % 10)] := by
    unfold seg; rw [show dig 8 n = dig 7 (n / 10) ++ [UInt8.ofNat (48 + n % 10)] from rfl]; simp
  rw [e, List.getLast?_append]; rfl

theorem valid_seg {dir : List UInt8} (h : Fsp.valid (seg dir 1) = true) (n : Nat) : Fsp.valid (seg dir n) = true := by
  unfold Fsp.valid at h ⊢
  simp only [Bool.and_eq_true, decide_eq_true_eq, seg_length] at h ⊢
  obtain ⟨⟨⟨⟨h1, h2⟩, h3⟩, h4⟩, h5⟩ := h
  refine ⟨⟨⟨⟨h1, h2⟩, ?_⟩, ?_⟩, ?_⟩
  · unfold seg at h3 ⊢
    rw [List.all_append, Bool.and_eq_true] at h3 ⊢
    refine ⟨h3.1, ?_⟩
    rw [List.all_cons, dig_ok, Bool.and_true]; rfl
  · cases dir with
    | nil => exact absurd h4 (by decide)
    | cons x r => exact h4
  · rw [seg_last, bne_iff_ne]
    intro e
    have := congrArg (Option.map UInt8.toNat) e
    simp only [Option.map_some, digit, Option.some.injEq] at this
    have e2 : (47 : UInt8).toNat = 47 := rfl
    omega

/-- a log all of whose records are durable: by segments -/
structure Live (S : Fs) (l : Lg) (ls : List (List (List UInt8))) : Prop where
  has : Has S l.dir l.first (ls.map whole)
  last : l.first + ls.length = l.last + 1
  any : 0 < ls.length
  short : ∀ rs ∈ ls, Short rs
  up : S.down = false
  free : l.stuck = false
  valid : Fsp.valid (seg l.dir 1) = true

/-- with a segment more, if the last one is full -/
def rot (size : Nat) (ls : List (List (List UInt8))) : List (List (List UInt8)) := if size ≤ (frames (ls.getLastD [])).length then ls ++ [[]] else ls
def addTo (ls : List (List (List UInt8))) (p : List UInt8) : List (List (List UInt8)) := ls.dropLast ++ [ls.getLastD [] ++ [p]]

theorem rot_flatten (size : Nat) (ls : List (List (List UInt8))) : (rot size ls).flatten = ls.flatten := by
  unfold rot; split
  · simp
  · rfl
theorem rot_length (size : Nat) (ls : List (List (List UInt8))) : ls.length ≤ (rot size ls).length ∧ (rot size ls).length ≤ ls.length + 1 := by
  unfold rot; split
  · simp
  · omega
theorem addTo_snoc (init : List (List (List UInt8))) (rs : List (List UInt8)) (p : List UInt8) : addTo (init ++ [rs]) p = init ++ [rs ++ [p]] := by
  unfold addTo; simp
theorem snoc_of {α : Type} {l : List α} (h : 0 < l.length) : ∃ a c, l = a ++ [c] :=
  ⟨l.dropLast, l.getLast (by intro e; simp [e] at h), (List.dropLast_concat_getLast _).symm⟩
theorem addTo_flatten {ls : List (List (List UInt8))} (h : 0 < ls.length) (p : List UInt8) : (addTo ls p).flatten = ls.flatten ++ [p] := by
  obtain ⟨a, c, rfl⟩ := snoc_of h
  rw [addTo_snoc]; simp
theorem addTo_length {ls : List (List (List UInt8))} (h : 0 < ls.length) (p : List UInt8) : (addTo ls p).length = ls.length := by
  obtain ⟨a, c, rfl⟩ := snoc_of h
  rw [addTo_snoc]; simp

/-- what is torn: the last segment has a frame more that is not durable -/
def tornFs (init : List (List (List UInt8))) (rs : List (List UInt8)) (p : List UInt8) : List File := init.map whole ++ [⟨frames rs ++ frame p, (frames rs).length⟩]

/-- how an append may end -/
structure Ends (S : Fs) (l : Lg) (size : Nat) (ls : List (List (List UInt8))) (p : List UInt8) (S' : Fs) (l' : Lg) (e : Nat) : Prop where
  hdir : l'.dir = l.dir
  hfirst : l'.first = l.first
  hsize : l'.size = l.size
  room : S'.room = S.room
  more : S'.L.length ≤ S.L.length + 1
  steps : S'.steps ≤ S.steps + 3
  unarmed : S.armed = 0 → S'.armed = 0 ∧ e ≠ 5
  ways : (e = 0 ∧ Live S' l' (addTo (rot size ls) p) ∧ Fsp.usedOf S'.L = Fsp.usedOf S.L + (8 + p.length)) ∨ (e = 4 ∧ Live S' l' (rot size ls) ∧ Fsp.usedOf S'.L = Fsp.usedOf S.L ∧ S.room < Fsp.usedOf S.L + (8 + p.length))
    ∨ (e = 5 ∧ S'.down = true ∧ l'.stuck = true ∧ ∃ ls', (ls' = ls ∨ ls' = rot size ls) ∧ (Has S' l.dir l.first (ls'.map whole) ∨ ∃ init rs, ls' = init ++ [rs] ∧ Has S' l.dir l.first (tornFs init rs p)))

theorem stepped_of {S : Fs} (h : S.armed ≠ 1) : Fsp.stepped S = { S with armed := S.armed - 1, steps := S.steps + 1 } := by unfold Fsp.stepped; rw [if_neg h]
theorem stepped_one {S : Fs} (h : S.armed = 1) : Fsp.stepped S = { S with armed := 0, down := true } := by unfold Fsp.stepped; rw [if_pos h]

section
variable {S : Fs} {l : Lg} {ls : List (List (List UInt8))} {p : List UInt8}

theorem whole_snoc (rs : List (List UInt8)) (p : List UInt8) : whole (rs ++ [p]) = ⟨frames rs ++ frame p, (frames rs ++ frame p).length⟩ := by
  unfold whole; rw [frames_append, frames_one]

theorem Live.lastIs {init : List (List (List UInt8))} {rs : List (List UInt8)} (h : Live S l (init ++ [rs])) : l.last = l.first + (init.map whole).length ∧ Fsp.find S.L (seg l.dir l.last) = some (whole rs) := by
  have h1 := h.last
  simp only [List.length_append, List.length_cons, List.length_nil] at h1
  have e : l.last = l.first + (init.map whole).length := by simp; omega
  refine ⟨e, ?_⟩
  have h2 := h.has
  rw [List.map_append] at h2
  rw [e]; exact h2.lastFile

/-- the write to the last segment -/
theorem write_ends (hs : Fsp.Sorted S.L) (h : Live S l ls) (hp : p.length ≤ maxRec) : 
    let r := write S l p
    r.1.2.dir = l.dir ∧ r.1.2.first = l.first ∧ r.1.2.size = l.size ∧ r.1.1.room = S.room ∧ r.1.1.L.length ≤ S.L.length ∧ r.1.1.steps ≤ S.steps + 2 ∧ (S.armed = 0 → r.1.1.armed = 0 ∧ r.2 ≠ 5) ∧
    ((r.2 = 0 ∧ Live r.1.1 r.1.2 (addTo ls p) ∧ Fsp.usedOf r.1.1.L = Fsp.usedOf S.L + (8 + p.length)) ∨ (r.2 = 4 ∧ Live r.1.1 r.1.2 ls ∧ Fsp.usedOf r.1.1.L = Fsp.usedOf S.L ∧ S.room < Fsp.usedOf S.L + (8 + p.length))
      ∨ (r.2 = 5 ∧ r.1.1.down = true ∧ r.1.2.stuck = true ∧ (Has r.1.1 l.dir l.first (ls.map whole) ∨ ∃ init rs, ls = init ++ [rs] ∧ Has r.1.1 l.dir l.first (tornFs init rs p)))) := by
  obtain ⟨init, rs, rfl⟩ := snoc_of h.any
  obtain ⟨hl, hf⟩ := h.lastIs
  have hfl := frame_length p
  intro r
  by_cases h1 : S.room < Fsp.usedOf S.L + (8 + p.length)
  · have ea : Fsp.append S (seg l.dir l.last) (frame p) = (S, 4) := by
      simp only [Fsp.append, h.up, hf, hfl, if_pos h1, Bool.false_eq_true, if_false]
    have er : r = ((S, l), 4) := by show write S l p = _; simp only [write, ea, met]; rfl
    rw [er]
    exact ⟨rfl, rfl, rfl, rfl, Nat.le_refl _, by show S.steps ≤ S.steps + 2; omega, fun q => ⟨q, by show (4 : Nat) ≠ 5; decide⟩, Or.inr (Or.inl ⟨rfl, h, rfl, h1⟩)⟩
  · by_cases h2 : S.armed = 1
    · have ea : Fsp.append S (seg l.dir l.last) (frame p) = (Fsp.stepped S, 5) := by
        simp only [Fsp.append, h.up, hf, hfl, if_neg h1, if_pos h2, Bool.false_eq_true, if_false]
      have er : r = ((Fsp.stepped S, { l with stuck := true }), 5) := by show write S l p = _; simp only [write, ea, met]; rfl
      rw [er, stepped_one h2]
      exact ⟨rfl, rfl, rfl, rfl, Nat.le_refl _, by show S.steps ≤ S.steps + 2; omega, fun q => by omega, Or.inr (Or.inr ⟨rfl, rfl, rfl, Or.inl (h.has.same rfl)⟩)⟩
    · have ea : Fsp.append S (seg l.dir l.last) (frame p) = ({ Fsp.stepped S with L := put S.L (seg l.dir l.last) ⟨frames rs ++ frame p, (frames rs).length⟩ }, 0) := by
        simp only [Fsp.append, h.up, hf, hfl, if_neg h1, if_neg h2, Bool.false_eq_true, if_false]; rfl
      rw [stepped_of h2] at ea
      have hfind : Fsp.find (put S.L (seg l.dir l.last) ⟨frames rs ++ frame p, (frames rs).length⟩) (seg l.dir l.last) = some ⟨frames rs ++ frame p, (frames rs).length⟩ := Fsp.find_put_same _ _ _
      have hlen := Fsp.length_put S.L hs (seg l.dir l.last) ⟨frames rs ++ frame p, (frames rs).length⟩
      rw [if_pos (by rw [hf]; rfl)] at hlen
      have hh := h.has
      rw [List.map_append] at hh
      have hu := Fsp.used_put_some hs hf ⟨frames rs ++ frame p, (frames rs).length⟩
      simp only [whole, List.length_append, hfl] at hu
      by_cases h3 : S.armed - 1 = 1
      · have eb : Fsp.sync { S with armed := S.armed - 1, steps := S.steps + 1, L := put S.L (seg l.dir l.last) ⟨frames rs ++ frame p, (frames rs).length⟩ } (seg l.dir l.last) = ({ S with armed := 0, steps := S.steps + 1, down := true, L := put S.L (seg l.dir l.last) ⟨frames rs ++ frame p, (frames rs).length⟩ }, 5) := by
          simp only [Fsp.sync, h.up, hfind, h3, Bool.false_eq_true, if_false, if_true]; rfl
        have er : r = (({ S with armed := 0, steps := S.steps + 1, down := true, L := put S.L (seg l.dir l.last) ⟨frames rs ++ frame p, (frames rs).length⟩ }, { l with stuck := true }), 5) := by
          show write S l p = _
          simp only [write, ea, if_true, eb, met]
        rw [er]
        refine ⟨rfl, rfl, rfl, rfl, by show (put _ _ _).length ≤ _; omega, by show S.steps + 1 ≤ S.steps + 2; omega, fun q => by omega, Or.inr (Or.inr ⟨rfl, rfl, rfl, Or.inr ⟨init, rs, rfl, ?_⟩⟩)⟩
        refine hh.setLast ?_
        show put S.L (seg l.dir l.last) _ = _
        rw [hl]
      · have eb : Fsp.sync { S with armed := S.armed - 1, steps := S.steps + 1, L := put S.L (seg l.dir l.last) ⟨frames rs ++ frame p, (frames rs).length⟩ } (seg l.dir l.last) = ({ S with armed := S.armed - 1 - 1, steps := S.steps + 1 + 1, L := put (put S.L (seg l.dir l.last) ⟨frames rs ++ frame p, (frames rs).length⟩) (seg l.dir l.last) ⟨frames rs ++ frame p, (frames rs ++ frame p).length⟩ }, 0) := by
          simp only [Fsp.sync, h.up, hfind, if_neg h3, Bool.false_eq_true, if_false, Fsp.stepped]
        have er : r = (({ S with armed := S.armed - 1 - 1, steps := S.steps + 1 + 1, L := put (put S.L (seg l.dir l.last) ⟨frames rs ++ frame p, (frames rs).length⟩) (seg l.dir l.last) ⟨frames rs ++ frame p, (frames rs ++ frame p).length⟩ }, l), 0) := by
          show write S l p = _
          simp only [write, ea, if_true, eb, met_0]
        have hs1 : Fsp.Sorted (put S.L (seg l.dir l.last) ⟨frames rs ++ frame p, (frames rs).length⟩) := Fsp.put_sorted hs _ _
        have hlen2 := Fsp.length_put _ hs1 (seg l.dir l.last) ⟨frames rs ++ frame p, (frames rs ++ frame p).length⟩
        rw [if_pos (by rw [hfind]; rfl)] at hlen2
        have hu2 := Fsp.used_put_some hs1 hfind ⟨frames rs ++ frame p, (frames rs ++ frame p).length⟩
        simp only at hu2
        rw [er]
        refine ⟨rfl, rfl, rfl, rfl, by show (put _ _ _).length ≤ _; omega, Nat.le_refl _, fun q => ⟨by show S.armed - 1 - 1 = 0; omega, by show (0 : Nat) ≠ 5; decide⟩, Or.inl ⟨rfl, ?_, ?_⟩⟩
        · rw [addTo_snoc]
          refine ⟨?_, by have := h.last; simp at this ⊢; omega, by simp, ?_, h.up, h.free, h.valid⟩
          · rw [List.map_append]
            show Has _ _ _ (_ ++ [whole (rs ++ [p])])
            rw [whole_snoc]
            have t1 := Has.setLast (S' := { S with L := put S.L (seg l.dir l.last) ⟨frames rs ++ frame p, (frames rs).length⟩ }) (g := ⟨frames rs ++ frame p, (frames rs).length⟩) hh (by show put _ _ _ = _; rw [← hl])
            exact Has.setLast t1 (by show put _ _ _ = _; rw [← hl])
          · intro q hq
            rcases List.mem_append.1 hq with hq | hq
            · exact h.short q (by simp [hq])
            · rw [List.mem_singleton.1 hq]
              intro x hx
              rcases List.mem_append.1 hx with hx | hx
              · exact h.short rs (by simp) x hx
              · rw [List.mem_singleton.1 hx]; exact hp
        · show Fsp.usedOf (put _ _ _) = _
          omega

/-- a segment more -/
theorem rotate_ends (hs : Fsp.Sorted S.L) (h : Live S l ls) (hlast : l.last < 99999999) (hn : S.L.length < 400) :
    let r := rotate S l
    r.1.2.dir = l.dir ∧ r.1.2.first = l.first ∧ r.1.2.size = l.size ∧ r.1.1.room = S.room ∧ r.1.1.L.length ≤ S.L.length + 1 ∧ r.1.1.steps ≤ S.steps + 1 ∧ (S.armed = 0 → r.1.1.armed = 0 ∧ r.2 ≠ 5) ∧ Fsp.usedOf r.1.1.L = Fsp.usedOf S.L ∧
    ((r.2 = 0 ∧ Live r.1.1 r.1.2 (ls ++ [[]])) ∨ (r.2 = 5 ∧ r.1.1.down = true ∧ r.1.2.stuck = true ∧ Has r.1.1 l.dir l.first (ls.map whole))) := by
  intro r
  have h1 := h.last
  have hml : (ls.map whole).length = ls.length := by simp
  have hnum : l.last + 1 = l.first + (ls.map whole).length := by omega
  have hfree : Fsp.find S.L (seg l.dir (l.last + 1)) = none := by rw [hnum]; exact h.has.free (by omega)
  have hv := valid_seg h.valid (l.last + 1)
  by_cases ha : S.armed = 1
  · have ec : Fsp.create S (seg l.dir (l.last + 1)) = (Fsp.stepped S, 5) := by
      unfold Fsp.create
      rw [h.up, if_neg Bool.false_ne_true, if_neg (by rw [hv]; exact Bool.noConfusion), hfree, if_neg (by simp), if_neg (by omega), if_pos ha]
    have er : r = ((Fsp.stepped S, { l with stuck := true }), 5) := by
      show rotate S l = _
      unfold rotate
      rw [h.free, if_neg Bool.false_ne_true, if_neg (by omega), ec]; rfl
    rw [er, stepped_one ha]
    exact ⟨rfl, rfl, rfl, rfl, by show S.L.length ≤ _; omega, by show S.steps ≤ S.steps + 1; omega, fun q => by omega, rfl, Or.inr ⟨rfl, rfl, rfl, h.has.same rfl⟩⟩
  · have ec : Fsp.create S (seg l.dir (l.last + 1)) = ({ Fsp.stepped S with L := put S.L (seg l.dir (l.last + 1)) ⟨[], 0⟩ }, 0) := by
      unfold Fsp.create
      rw [h.up, if_neg Bool.false_ne_true, if_neg (by rw [hv]; exact Bool.noConfusion), hfree, if_neg (by simp), if_neg (by omega), if_neg ha]
    rw [stepped_of ha] at ec
    have er : r = (({ S with armed := S.armed - 1, steps := S.steps + 1, L := put S.L (seg l.dir (l.last + 1)) ⟨[], 0⟩ }, { l with last := l.last + 1 }), 0) := by
      show rotate S l = _
      unfold rotate
      rw [h.free, if_neg Bool.false_ne_true, if_neg (by omega), ec]; rfl
    have hlen := Fsp.length_put S.L hs (seg l.dir (l.last + 1)) ⟨[], 0⟩
    rw [if_neg (by rw [hfree]; simp)] at hlen
    have hu := Fsp.used_put_none hfree ⟨[], 0⟩
    rw [er]
    refine ⟨rfl, rfl, rfl, rfl, by show (put _ _ _).length ≤ _; omega, Nat.le_refl _, fun q => ⟨by show S.armed - 1 = 0; omega, by show (0 : Nat) ≠ 5; decide⟩, hu, Or.inl ⟨rfl, ?_⟩⟩
    refine ⟨?_, by simp; omega, by simp, ?_, h.up, h.free, h.valid⟩
    · rw [List.map_append]
      exact h.has.addLast (by omega) (g := ⟨[], 0⟩) (by show put _ _ _ = _; rw [hnum])
    · intro q hq
      rcases List.mem_append.1 hq with hq | hq
      · exact h.short q hq
      · rw [List.mem_singleton.1 hq]; intro x hx; cases hx

theorem full_is (h : Live S l ls) : full S l = decide (l.size ≤ (frames (ls.getLastD [])).length) := by
  obtain ⟨init, rs, rfl⟩ := snoc_of h.any
  unfold full
  rw [h.lastIs.2]
  have e : (init ++ [rs]).getLastD [] = rs := by simp
  rw [e]; rfl

theorem append_ends (hs : Fsp.Sorted S.L) (h : Live S l ls) (hp : p.length ≤ maxRec) (hlast : l.last < 99999999) (hn : S.L.length < 400) :
    Ends S l l.size ls p (append S l p).1.1 (append S l p).1.2 (append S l p).2 := by
  have hm := hp
  unfold maxRec at hm
  have hf := full_is h
  by_cases hfull : l.size ≤ (frames (ls.getLastD [])).length
  · have erot : rot l.size ls = ls ++ [[]] := by unfold rot; rw [if_pos hfull]
    have e1 : append S l p = if (rotate S l).2 = 0 then write (rotate S l).1.1 (rotate S l).1.2 p else rotate S l := by
      unfold append
      rw [h.free, if_neg Bool.false_ne_true, if_neg (by omega), hf, if_pos (by simpa using hfull)]
    obtain ⟨r1, r2, r3, r4, r5, r6, r7, r8, r9⟩ := rotate_ends hs h hlast hn
    rcases r9 with ⟨re, rl⟩ | ⟨re, rd, rs, rh⟩
    · rw [if_pos re] at e1
      have hs2 : Fsp.Sorted (rotate S l).1.1.L := by
        have : (rotate S l).1.1.L = S.L ∨ ∃ n f, (rotate S l).1.1.L = put S.L n f := by
          unfold rotate
          split
          · exact Or.inl rfl
          · split
            · exact Or.inl rfl
            · have key : ∀ n, (Fsp.create S n).1.L = S.L ∨ ∃ m f, (Fsp.create S n).1.L = put S.L m f := by
                intro n
                unfold Fsp.create
                repeat' split
                all_goals first | exact Or.inl rfl | exact Or.inr ⟨_, _, rfl⟩ | (left; unfold Fsp.stepped; split <;> rfl)
              split <;> exact key _
        rcases this with e | ⟨n, f, e⟩
        · rw [e]; exact hs
        · rw [e]; exact Fsp.put_sorted hs _ _
      obtain ⟨w1, w2, w3, w4, w5, w6, w7, w8⟩ := write_ends hs2 rl hp
      rw [e1]
      refine ⟨w1.trans r1, w2.trans r2, w3.trans r3, w4.trans r4, by omega, by omega, fun q => ?_, ?_⟩
      · have := r7 q; exact w7 this.1
      · rw [erot]
        rw [r8, r4] at w8
        rcases w8 with w8 | w8 | ⟨a, b, c, d⟩
        · exact Or.inl w8
        · exact Or.inr (Or.inl w8)
        · rw [r1, r2] at d
          exact Or.inr (Or.inr ⟨a, b, c, _, Or.inr rfl, d⟩)
    · rw [if_neg (by omega)] at e1
      rw [e1]
      exact ⟨r1, r2, r3, r4, r5, by omega, r7, Or.inr (Or.inr ⟨re, rd, rs, ls, Or.inl rfl, Or.inl rh⟩)⟩
  · have erot : rot l.size ls = ls := by unfold rot; rw [if_neg hfull]
    have e1 : append S l p = write S l p := by
      unfold append
      rw [h.free, if_neg Bool.false_ne_true, if_neg (by omega), hf, if_neg (by simpa using hfull)]
    obtain ⟨w1, w2, w3, w4, w5, w6, w7, w8⟩ := write_ends hs h hp
    rw [e1]
    refine ⟨w1, w2, w3, w4, by omega, by omega, w7, ?_⟩
    rw [erot]
    rcases w8 with w8 | w8 | ⟨a, b, c, d⟩
    · exact Or.inl w8
    · exact Or.inr (Or.inl w8)
    · exact Or.inr (Or.inr ⟨a, b, c, _, Or.inl rfl, d⟩)

end
end Go.Proofs.YtjjajnfkngfpjaaGreatDoor.Walp
