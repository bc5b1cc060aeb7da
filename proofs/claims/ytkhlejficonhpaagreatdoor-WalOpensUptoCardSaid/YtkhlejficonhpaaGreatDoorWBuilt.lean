/-
  PLAIN, of WalOpens: a directory of segments that holds any bytes, with a number left out or not; what find makes of it; what Open makes of its last file.
-/
import Derived.Test.YtkhlejficonhpaaGreatDoorWJ
import Derived.Test.YtkhlejficonhpaaGreatDoorWApartP
namespace Go.Proofs.YtkhlejficonhpaaGreatDoor

abbrev wD : List UInt8 := [119]
abbrev wOther : List UInt8 := [119, 47, 111, 116, 104, 101, 114]

/-- the number that stands in the variable in front of round i; the number of segment i -/
def nxt (a : Nat) (gap : Int) (i : Nat) : Nat := a + i + if 0 < gap ∧ gap < i then 1 else 0
def num (a : Nat) (gap : Int) (i : Nat) : Nat := a + i + if 0 < gap ∧ gap ≤ i then 1 else 0

theorem num_lt {a i j : Nat} {gap : Int} (h : i < j) : num a gap i < num a gap j := by unfold num; split <;> split <;> omega
theorem num_eq {a i j : Nat} {gap : Int} (h : num a gap i = num a gap j) : i = j := by
  rcases Nat.lt_trichotomy i j with q | q | q
  · have := num_lt (a := a) (gap := gap) q; omega
  · exact q
  · have := num_lt (a := a) (gap := gap) q; omega
theorem num_bounds (a : Nat) (gap : Int) (i : Nat) : a + i ≤ num a gap i ∧ num a gap i ≤ a + i + 1 := by unfold num; split <;> omega
theorem nxt_bounds (a : Nat) (gap : Int) (i : Nat) : a + i ≤ nxt a gap i ∧ nxt a gap i ≤ a + i + 1 := by unfold nxt; split <;> omega
theorem nxt_succ (a : Nat) (gap : Int) (i : Nat) : nxt a gap (i + 1) = num a gap i + 1 := by unfold nxt num; split <;> split <;> omega
theorem num_skip {a i : Nat} {gap : Int} (h : (i : Int) = gap) (h0 : 0 < i) : num a gap i = nxt a gap i + 1 := by unfold nxt num; split <;> split <;> omega
theorem num_same {a i : Nat} {gap : Int} (h : ¬ ((i : Int) = gap ∧ 0 < i)) : num a gap i = nxt a gap i := by unfold nxt num; split <;> split <;> omega

/-- so many of the segments are there; k calls were made besides -/
structure Built (S : Fsp.Fs) (a : Nat) (gap : Int) (l : List (List UInt8)) (i k : Nat) : Prop where
  there : ∀ j q, j < i → l[j]? = some q → Fsp.find S.L (Walp.seg wD (num a gap j)) = some ⟨q, 0⟩
  gone : ∀ n, 0 < n → n < 100000000 → (∀ j, j < i → n ≠ num a gap j) → Fsp.find S.L (Walp.seg wD n) = none
  up : S.down = false
  free : S.armed = 0
  room : S.room = 67108864
  len : S.L.length ≤ i + k
  steps : S.steps ≤ 2 * i + k
  used : Fsp.usedOf S.L ≤ cost (l.take i)
  noX : Fsp.find S.L [120] = none
  noO : k = 0 → Fsp.find S.L wOther = none

theorem seg_not {d m : List UInt8} (h : m.length ≠ d.length + 9) (n : Nat) : m ≠ Walp.seg d n := fun e => h (by rw [e, Walp.seg_length])

theorem create_free {S : Fsp.Fs} {n : List UInt8} (hd : S.down = false) (ha : S.armed = 0) (hL : S.L.length < 400) (hv : Fsp.valid n = true) (hf : Fsp.find S.L n = none) :
    Fsp.create S n = ({ S with armed := 0, steps := S.steps + 1, L := Fsp.put S.L n ⟨[], 0⟩ }, 0) := by
  have h2 : ¬ 400 ≤ S.L.length := by omega
  have h3 : ¬ S.armed = 1 := by omega
  have e0 : S.armed - 1 = 0 := by omega
  simp only [Fsp.create, hd, hv, hf, Option.isSome_none, Bool.false_eq_true, if_false, if_neg h2, if_neg h3, reduceCtorEq, Walp.stepped_of h3, e0]

theorem append_free {S : Fsp.Fs} {n b : List UInt8} {f : Fsp.File} (hd : S.down = false) (ha : S.armed = 0) (hf : Fsp.find S.L n = some f) (hr : Fsp.usedOf S.L + b.length ≤ S.room) :
    Fsp.append S n b = ({ S with armed := 0, steps := S.steps + 1, L := Fsp.put S.L n ⟨f.data ++ b, f.synced⟩ }, 0) := by
  have h2 : ¬ S.room < Fsp.usedOf S.L + b.length := by omega
  have h3 : ¬ S.armed = 1 := by omega
  have e0 : S.armed - 1 = 0 := by omega
  simp only [Fsp.append, hd, hf, Bool.false_eq_true, if_false, if_neg h2, if_neg h3, Walp.stepped_of h3, e0]

theorem vseg (n : Nat) : Fsp.valid (Walp.seg wD n) = true := Walp.valid_seg (by rfl) n

theorem built_new (a : Nat) (gap : Int) (l : List (List UInt8)) : Built (Fsp.new 67108864) a gap l 0 0 :=
  ⟨fun j q h => by omega, fun n _ _ _ => rfl, rfl, rfl, rfl, by show 0 ≤ _; omega, by show 0 ≤ _; omega, by show 0 ≤ _; omega, rfl, fun _ => rfl⟩

theorem Built.create {S : Fsp.Fs} {a i : Nat} {gap : Int} {l : List (List UInt8)} (hs : Fsp.Sorted S.L) (h : Built S a gap l i 0) (hi : i < l.length) (h60 : l.length ≤ 60) (ha : 1 ≤ a) (ha2 : a ≤ 50) (hc : cost l ≤ 2000000) :
    ∃ S1 S2, Fsp.create S (Walp.seg wD (num a gap i)) = (S1, 0) ∧ Fsp.append S1 (Walp.seg wD (num a gap i)) l[i] = (S2, 0) ∧ Built S2 a gap l (i + 1) 0 ∧ S1.steps ≤ 200 := by
  have hb := num_bounds a gap i
  have hf := h.gone (num a gap i) (by omega) (by omega) (fun j hj e => by have := num_eq e; omega)
  have hlen := h.len
  have hst := h.steps
  have hc1 := cost_le l (i + 1)
  have hc2 := cost_take hi
  have hu := h.used
  have h1 := create_free h.up h.free (by omega) (vseg (num a gap i)) hf
  obtain ⟨S1, hS1⟩ : ∃ S1 : Fsp.Fs, S1 = { S with armed := 0, steps := S.steps + 1, L := Fsp.put S.L (Walp.seg wD (num a gap i)) ⟨[], 0⟩ } := ⟨_, rfl⟩
  rw [← hS1] at h1
  have hf1 : Fsp.find S1.L (Walp.seg wD (num a gap i)) = some ⟨[], 0⟩ := by rw [hS1]; exact Fsp.find_put_same _ _ _
  have hu1 : Fsp.usedOf S1.L = Fsp.usedOf S.L := by
    rw [hS1]
    show Fsp.usedOf (Fsp.put S.L _ _) = _
    rw [Fsp.used_put_none hf]; rfl
  have hl1 : S1.L.length = S.L.length + 1 := by
    rw [hS1]
    show (Fsp.put S.L _ _).length = _
    rw [Fsp.length_put S.L hs, hf]; rfl
  have hs1 : Fsp.Sorted S1.L := by rw [hS1]; exact Fsp.put_sorted hs _ _
  have hr1 : S1.room = 67108864 := by rw [hS1]; exact h.room
  have h2 := append_free (S := S1) (b := l[i]) (by rw [hS1]; exact h.up) (by rw [hS1]) hf1 (by rw [hr1, hu1]; omega)
  obtain ⟨S2, hS2⟩ : ∃ S2 : Fsp.Fs, S2 = { S1 with armed := 0, steps := S1.steps + 1, L := Fsp.put S1.L (Walp.seg wD (num a gap i)) ⟨[] ++ l[i], 0⟩ } := ⟨_, rfl⟩
  have h2' : Fsp.append S1 (Walp.seg wD (num a gap i)) l[i] = (S2, 0) := by rw [h2, hS2]
  have hother : ∀ n, n ≠ Walp.seg wD (num a gap i) → Fsp.find S2.L n = Fsp.find S.L n := fun n hn => by
    rw [hS2]
    show Fsp.find (Fsp.put S1.L _ _) n = _
    rw [Fsp.find_put_other _ hn, hS1]
    exact Fsp.find_put_other _ hn _
  have hsame : Fsp.find S2.L (Walp.seg wD (num a gap i)) = some ⟨l[i], 0⟩ := by
    rw [hS2]
    exact Fsp.find_put_same _ _ _
  refine ⟨S1, S2, h1, h2', ⟨fun j q hj hq => ?_, fun n h0 hn hne => ?_, by rw [hS2, hS1]; exact h.up, by rw [hS2], by rw [hS2]; exact hr1, ?_, ?_, ?_, ?_, fun _ => ?_⟩, by rw [hS1]; show S.steps + 1 ≤ 200; omega⟩
  · by_cases e : j = i
    · subst e
      rw [List.getElem?_eq_getElem hi] at hq
      cases hq
      exact hsame
    · have hb2 := num_bounds a gap j
      rw [hother _ (fun q => e (num_eq (Walp.seg_inj (by omega) (by omega) q)))]
      exact h.there j q (by omega) hq
  · rw [hother _ (fun q => hne i (by omega) (Walp.seg_inj hn (by omega) q))]
    exact h.gone n h0 hn (fun j hj => hne j (by omega))
  · rw [hS2]
    show (Fsp.put S1.L _ _).length ≤ _
    rw [Fsp.length_put S1.L hs1, hf1]
    simp only [Option.isSome_some, if_true]
    omega
  · rw [hS2, hS1]; show S.steps + 1 + 1 ≤ _; omega
  · rw [hS2]
    show Fsp.usedOf (Fsp.put S1.L _ _) ≤ _
    have := Fsp.used_put_some hs1 hf1 ⟨[] ++ l[i], 0⟩
    simp only [List.nil_append, List.length_nil] at this
    simp only [List.nil_append]
    omega
  · rw [hother _ (seg_not (by decide) _)]; exact h.noX
  · rw [hother _ (seg_not (by decide) _)]; exact h.noO rfl

theorem Built.other {S : Fsp.Fs} {a i : Nat} {gap : Int} {l : List (List UInt8)} (hs : Fsp.Sorted S.L) (h : Built S a gap l i 0) (h60 : i ≤ 60) :
    ∃ S1, Fsp.create S wOther = (S1, 0) ∧ Built S1 a gap l i 1 := by
  have hlen := h.len
  have hst := h.steps
  have hf := h.noO rfl
  have h1 := create_free h.up h.free (by omega) (by rfl) hf
  refine ⟨_, h1, ⟨fun j q hj hq => ?_, fun n h0 hn hne => ?_, h.up, rfl, h.room, ?_, by show S.steps + 1 ≤ _; omega, ?_, ?_, fun e => by cases e⟩⟩
  · show Fsp.find (Fsp.put S.L _ _) _ = _
    rw [Fsp.find_put_other _ (seg_not (d := wD) (by decide) _).symm]; exact h.there j q hj hq
  · show Fsp.find (Fsp.put S.L _ _) _ = _
    rw [Fsp.find_put_other _ (seg_not (d := wD) (by decide) _).symm]; exact h.gone n h0 hn hne
  · show (Fsp.put S.L _ _).length ≤ _
    rw [Fsp.length_put S.L hs, hf]
    simp only [Option.isSome_none, Bool.false_eq_true, if_false]
    omega
  · show Fsp.usedOf (Fsp.put S.L _ _) ≤ _
    rw [Fsp.used_put_none hf]
    have := h.used
    simpa using this
  · show Fsp.find (Fsp.put S.L _ _) _ = _
    rw [Fsp.find_put_other _ (by decide)]; exact h.noX

/-- the step that fails -/
theorem Built.fell {S : Fsp.Fs} {a i k : Nat} {gap : Int} {l : List (List UInt8)} (h : Built S a gap l i k) (h60 : i + k ≤ 100) :
    ∃ S1, Fsp.create (Fsp.arm S 1) [120] = (S1, 5) ∧ S1.down = true := by
  have hlen := h.len
  have h2 : ¬ 400 ≤ (Fsp.arm S 1).L.length := by show ¬ 400 ≤ S.L.length; omega
  have hd : (Fsp.arm S 1).down = false := h.up
  have hf : Fsp.find (Fsp.arm S 1).L [120] = none := h.noX
  have hv : Fsp.valid [120] = true := by rfl
  have h3 : (Fsp.arm S 1).armed = 1 := rfl
  refine ⟨Fsp.stepped (Fsp.arm S 1), ?_, ?_⟩
  · simp only [Fsp.create, hd, hv, hf, Option.isSome_none, Bool.false_eq_true, if_false, if_neg h2, if_pos h3, reduceCtorEq]
  · unfold Fsp.stepped; rw [if_pos h3]

/-- is a number missing between two others -/
def Gapped (gap : Int) (l : List (List UInt8)) : Prop := 0 < gap ∧ gap < l.length

theorem built_nums {S : Fsp.Fs} {a k : Nat} {gap : Int} {l : List (List UInt8)} (hs : Fsp.Sorted S.L) (h : Built S a gap l l.length k) (h60 : l.length ≤ 60) (ha : 1 ≤ a) (ha2 : a ≤ 50) :
    Walp.numsOf wD (namesOf S wD) = (List.range l.length).map (num a gap) := by
  rw [nums_names]
  refine Walp.sorted_ext (Walp.numsOf_sorted (List.pairwise_map.2 hs)) (List.pairwise_map.2 (List.pairwise_lt_range.imp fun q => num_lt q)) fun n => ?_
  rw [Walp.mem_numsOf]
  constructor
  · rintro ⟨h0, h1, h2⟩
    rw [← Fsp.find_isSome] at h2
    by_cases hx : ∃ j, j < l.length ∧ n = num a gap j
    · obtain ⟨j, hj, e⟩ := hx
      exact List.mem_map.2 ⟨j, List.mem_range.2 hj, e.symm⟩
    · rw [h.gone n h0 h1 (fun j hj e => hx ⟨j, hj, e⟩)] at h2
      cases h2
  · intro hx
    obtain ⟨j, hj, rfl⟩ := List.mem_map.1 hx
    have hj := List.mem_range.1 hj
    have hb := num_bounds a gap j
    refine ⟨by omega, by omega, ?_⟩
    rw [← Fsp.find_isSome, h.there j _ hj (List.getElem?_eq_getElem hj)]; rfl

theorem built_found {S : Fsp.Fs} {a k : Nat} {gap : Int} {l : List (List UInt8)} (hs : Fsp.Sorted S.L) (h : Built S a gap l l.length k) (h60 : l.length ≤ 60) (h0 : 0 < l.length) (ha : 1 ≤ a) (ha2 : a ≤ 50) (sz : Nat) :
    (Walp.numsOf wD (namesOf S wD)).length ≠ 0 ∧ (Gapped gap l → ∃ l1, found S (fresh wD sz) = (S, l1, 14)) ∧ (¬ Gapped gap l → found S (fresh wD sz) = (S, ⟨wD, sz, a, a + l.length - 1, 0, false⟩, 0)) := by
  have hn := built_nums hs h h60 ha ha2
  obtain ⟨m, hm⟩ : ∃ m, l.length = m + 1 := ⟨l.length - 1, by omega⟩
  have hl : (Walp.numsOf wD (namesOf S wD)).length = m + 1 := by rw [hn]; simp [hm]
  have hfi : (spans (fresh wD sz) (Walp.numsOf wD (namesOf S wD))).first = a := by
    rw [hn, hm]
    unfold spans
    show (List.map (num a gap) (List.range (m + 1))).headD _ = a
    rw [List.range_succ_eq_map]
    show num a gap 0 = a
    unfold num; split <;> omega
  have hla : (spans (fresh wD sz) (Walp.numsOf wD (namesOf S wD))).last = num a gap m := by
    rw [hn, hm]
    unfold spans
    show (List.map (num a gap) (List.range (m + 1))).getLastD _ = _
    rw [List.range_succ, List.map_append]
    show (List.map (num a gap) (List.range m) ++ [num a gap m]).getLastD _ = _
    exact List.getLastD_concat
  have e : (fresh wD sz).dir = wD := rfl
  refine ⟨by omega, fun hg => ⟨spans (fresh wD sz) (Walp.numsOf wD (namesOf S wD)), ?_⟩, fun hg => ?_⟩
  · unfold found
    rw [e, if_neg (by omega), hfi, hla, hl, if_neg]
    unfold Gapped at hg
    unfold num
    rw [if_pos (by omega)]; omega
  · have hnum : num a gap m = a + m := by
      unfold Gapped at hg
      unfold num
      rw [if_neg (by omega)]; omega
    unfold found
    rw [e, if_neg (by omega), hfi, hla, hl, hnum, if_pos (by omega)]
    have : spans (fresh wD sz) (Walp.numsOf wD (namesOf S wD)) = ⟨wD, sz, a, a + l.length - 1, 0, false⟩ := by
      have e1 : a + l.length - 1 = a + m := by omega
      rw [e1, ← hnum, ← hla, ← hfi]
      rfl
    rw [this]

theorem num_plain {a j : Nat} {gap : Int} {l : List (List UInt8)} (hg : ¬ Gapped gap l) (hj : j < l.length) : num a gap j = a + j := by
  unfold Gapped at hg
  unfold num
  rw [if_neg (by omega)]; omega

/-- what Open makes of the last file, whatever it holds -/
theorem mended_last {S : Fsp.Fs} {d : List UInt8} {sz first last : Nat} {f : Fsp.File} (hdn : S.down = false) (har : S.armed = 0) (hf : Fsp.find S.L (Walp.seg d last) = some f) :
    ∃ S2, Mended S S2 ⟨d, sz, first, last, 0, false⟩ ⟨d, sz, first, last, f.data.length - (Walp.frames (Walp.scan f.data)).length, false⟩ f.data ∧ ∃ g, Fsp.find S2.L (Walp.seg d last) = some g ∧ g.data = f.data.take (Walp.frames (Walp.scan f.data)).length := by
  obtain ⟨m, hm⟩ : ∃ m, (Walp.frames (Walp.scan f.data)).length = m := ⟨_, rfl⟩
  have hle := Walp.frames_scan_le f.data
  rw [hm] at hle
  by_cases hw : wholeF f.data = true
  · have hl : m = f.data.length := by unfold wholeF at hw; rw [hm] at hw; simpa using hw
    refine ⟨S, Or.inl ⟨hw, rfl, ?_⟩, f, hf, ?_⟩
    · rw [hm, hl, Nat.sub_self]
    · rw [hm, hl, List.take_length]
  · have hw' : wholeF f.data = false := by simpa using hw
    have h3 : ¬ S.armed = 1 := by omega
    have h4 : ¬ ((m : Int) < 0 ∨ (f.data.length : Int) < m) := by omega
    have e0 : S.armed - 1 = 0 := by omega
    have ht : Fsp.truncate S (Walp.seg d last) (m : Int) = ({ S with armed := 0, steps := S.steps + 1, L := Fsp.put S.L (Walp.seg d last) ⟨f.data.take m, min f.synced m⟩ }, 0) := by
      simp only [Fsp.truncate, hdn, hf, Bool.false_eq_true, if_false, if_neg h4, if_neg h3, Int.toNat_natCast, Walp.stepped_of h3, e0]
    obtain ⟨S1, hS1⟩ : ∃ S1 : Fsp.Fs, S1 = { S with armed := 0, steps := S.steps + 1, L := Fsp.put S.L (Walp.seg d last) ⟨f.data.take m, min f.synced m⟩ } := ⟨_, rfl⟩
    have ht' : Fsp.truncate S (Walp.seg d last) (m : Int) = (S1, 0) := by rw [ht, hS1]
    have hf1 : Fsp.find S1.L (Walp.seg d last) = some ⟨f.data.take m, min f.synced m⟩ := by rw [hS1]; exact Fsp.find_put_same _ _ _
    have hd1 : S1.down = false := by rw [hS1]; exact hdn
    have ha1 : ¬ S1.armed = 1 := by rw [hS1]; simp
    have e1 : S1.armed - 1 = 0 := by rw [hS1]; rfl
    have hy : Fsp.sync S1 (Walp.seg d last) = ({ S1 with armed := 0, steps := S1.steps + 1, L := Fsp.put S1.L (Walp.seg d last) ⟨f.data.take m, (f.data.take m).length⟩ }, 0) := by
      simp only [Fsp.sync, hd1, hf1, Bool.false_eq_true, if_false, if_neg ha1, Walp.stepped_of ha1, e1]
    refine ⟨_, Or.inr ⟨hw', rfl, S1, by rw [hm]; exact ht', hy⟩, _, Fsp.find_put_same _ _ _, by rw [hm]⟩

end Go.Proofs.YtkhlejficonhpaaGreatDoor
