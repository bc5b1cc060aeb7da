/-
  PLAIN: what find makes of a directory of segments, or of one without; what an opening leaves.
-/
import Derived.Test.YtjjajnfkngfpjaaGreatDoorWFind
import Derived.Test.YtjjajnfkngfpjaaGreatDoorWOpen
import Derived.Test.YtjjajnfkngfpjaaGreatDoorWLive
import Derived.Test.YtjjajnfkngfpjaaGreatDoorPlain3
namespace Go.Proofs.YtjjajnfkngfpjaaGreatDoor

theorem nums_names (S : Fsp.Fs) (d : List UInt8) : Walp.numsOf d (namesOf S d) = Walp.numsOf d (S.L.map (·.1)) := by
  unfold namesOf Fsp.names
  generalize S.L.map (·.1) = ns
  induction ns with
  | nil => rfl
  | cons x r ih =>
    unfold Walp.numsOf at ih ⊢
    by_cases hx : (d ++ [47]).isPrefixOf x = true
    · rw [List.filter_cons_of_pos hx, List.map_cons, List.map_cons]
      show List.filter (fun n => n != 0) (Walp.numOf d x :: List.map (Walp.numOf d) (List.filter (fun n => (d ++ [47]).isPrefixOf n) r)) = _
      rw [List.filter_cons, List.filter_cons, ih]
    · rw [List.filter_cons_of_neg hx, List.map_cons]
      have h0 : Walp.numOf d x = 0 := by unfold Walp.numOf; rw [if_neg hx]
      rw [h0]
      show List.filter (fun n => n != 0) (List.map (Walp.numOf d) (List.filter (fun n => (d ++ [47]).isPrefixOf n) r)) = _
      rw [List.filter_cons, ih]
      rfl

theorem found_none {S : Fsp.Fs} {d : List UInt8} (h : ∀ n, 0 < n → n < 100000000 → Fsp.find S.L (Walp.seg d n) = none) : Walp.numsOf d (namesOf S d) = [] := by
  rw [nums_names]
  apply List.eq_nil_iff_forall_not_mem.2
  intro n hn
  obtain ⟨h1, h2, h3⟩ := Walp.mem_numsOf.1 hn
  have h5 := Fsp.find_isSome.2 h3
  rw [h n h1 h2] at h5; cases h5

/-- a directory without segments gets its first one -/
theorem found_new {S : Fsp.Fs} {d : List UInt8} {sz : Nat} (h : ∀ n, 0 < n → n < 100000000 → Fsp.find S.L (Walp.seg d n) = none) (hv : Fsp.valid (Walp.seg d 1) = true) (hdn : S.down = false) (har : S.armed = 0) (hL : S.L.length < 400) :
    found S (fresh d sz) = ({ Fsp.stepped S with L := Fsp.put S.L (Walp.seg d 1) ⟨[], 0⟩ }, ⟨d, sz, 1, 1, 0, false⟩, 0) := by
  have hc : Fsp.create S (Walp.seg d 1) = ({ Fsp.stepped S with L := Fsp.put S.L (Walp.seg d 1) ⟨[], 0⟩ }, 0) := by
    have h1 := h 1 (by omega) (by omega)
    have h2 : ¬ 400 ≤ S.L.length := by omega
    have h3 : ¬ S.armed = 1 := by omega
    simp only [Fsp.create, hdn, hv, h1, Option.isSome_none, Bool.false_eq_true, if_false, if_neg h2, if_neg h3, reduceCtorEq]
  unfold found
  have e : (fresh d sz).dir = d := rfl
  rw [e, found_none h, if_pos (show ([] : List Nat).length = 0 from rfl), hc]
  rfl

theorem spans_range (d : List UInt8) (sz a k : Nat) : spans (fresh d sz) (List.range' a (k + 1)) = ⟨d, sz, a, a + k, 0, false⟩ := by
  unfold spans
  have h1 : (List.range' a (k + 1)).headD (fresh d sz).first = a := by rw [List.range'_succ]; rfl
  have h2 : (List.range' a (k + 1)).getLastD (fresh d sz).last = a + k := by
    rw [List.range'_1_concat, List.getLastD_concat]
  rw [h1, h2]
  rfl

/-- a directory with segments -/
theorem found_segs {S : Fsp.Fs} {d : List UInt8} {sz first k : Nat} {fs : List Fsp.File} (hs : Fsp.Sorted S.L) (h : Walp.Has S d first fs) (hk : fs.length = k + 1) :
    found S (fresh d sz) = (S, ⟨d, sz, first, first + k, 0, false⟩, 0) ∧ (Walp.numsOf d (namesOf S d)).length ≠ 0 := by
  have hn := h.nums hs
  rw [hk, ← nums_names] at hn
  have hl : (Walp.numsOf d (namesOf S d)).length = k + 1 := by rw [hn, List.length_range']
  refine ⟨?_, by omega⟩
  unfold found
  have e : (fresh d sz).dir = d := rfl
  rw [e, if_neg (by omega), hn, spans_range]
  simp only [List.length_range']
  rw [if_pos (by omega)]

theorem whole_is (rs : List (List UInt8)) (h : Walp.Short rs) : wholeF (Walp.frames rs) = true := by
  unfold wholeF
  rw [Walp.scan_frames_self h]
  simp

theorem recs_segs (init : List (List (List UInt8))) (f : Fsp.File) (h : ∀ rs ∈ init, Walp.Short rs) : recsOf (init.map Walp.whole ++ [f]) = (init ++ [Walp.scan f.data]).flatten := by
  unfold recsOf
  rw [List.map_append, List.map_map]
  congr 1
  have : init.map ((fun f : Fsp.File => Walp.scan f.data) ∘ Walp.whole) = init := by
    conv => rhs; rw [← List.map_id init]
    refine List.map_congr_left fun rs hrs => ?_
    show Walp.scan (Walp.frames rs) = rs
    exact Walp.scan_frames_self (h rs hrs)
  rw [this]
  rfl

/-- what an opening leaves of the files, whose last one is f -/
structure Reopened (S S2 : Fsp.Fs) (f : Fsp.File) : Prop where
  room : S2.room = S.room
  armed : S2.armed = 0
  len : S2.L.length = S.L.length
  steps : S2.steps ≤ S.steps + 2
  used : Fsp.usedOf S2.L + (f.data.length - (Walp.frames (Walp.scan f.data)).length) = Fsp.usedOf S.L
  same : wholeF f.data = true → S2 = S

theorem whole_data {x : List UInt8} (h : wholeF x = true) : Walp.frames (Walp.scan x) = x := by
  have hl : (Walp.frames (Walp.scan x)).length = x.length := by unfold wholeF at h; simpa using h
  have := Walp.frames_take x
  rw [hl, List.take_length] at this
  exact this.symm

theorem short_snoc {init : List (List (List UInt8))} (h : ∀ rs ∈ init, Walp.Short rs) (x : List UInt8) : ∀ rs ∈ init ++ [Walp.scan x], Walp.Short rs := fun rs hrs => by
  rcases List.mem_append.1 hrs with q | q
  · exact h rs q
  · rw [List.mem_singleton.1 q]; exact Walp.scan_short x

/-- the last file is mended, and the log lives -/
theorem mended_any {S : Fsp.Fs} {d : List UInt8} {sz first : Nat} {init : List (List (List UInt8))} {f : Fsp.File} (hs : Fsp.Sorted S.L) (hh : Walp.Has S d first (init.map Walp.whole ++ [f])) (hshort : ∀ rs ∈ init, Walp.Short rs)
    (hdn : S.down = false) (har : S.armed = 0) (hsy : f.synced = f.data.length) (hv : Fsp.valid (Walp.seg d 1) = true) :
    ∃ S2 c, Mended S S2 ⟨d, sz, first, first + init.length, 0, false⟩ ⟨d, sz, first, first + init.length, c, false⟩ f.data ∧ Walp.Live S2 ⟨d, sz, first, first + init.length, c, false⟩ (init ++ [Walp.scan f.data]) ∧ Reopened S S2 f := by
  by_cases hw : wholeF f.data = true
  · have e := whole_data hw
    have ef : Walp.whole (Walp.scan f.data) = f := by
      unfold Walp.whole
      rw [e]
      cases f
      simp only [Fsp.File.mk.injEq, true_and] at hsy ⊢
      exact hsy.symm
    refine ⟨S, 0, Or.inl ⟨hw, rfl, rfl⟩, ⟨?_, by simp; omega, by simp, short_snoc hshort _, hdn, rfl, hv⟩, ⟨rfl, har, rfl, by omega, by rw [e]; omega, fun _ => rfl⟩⟩
    show Walp.Has S d first _
    rw [List.map_append, List.map_cons, List.map_nil, ef]
    exact hh
  · have hw' : wholeF f.data = false := by simpa using hw
    have hle := Walp.frames_scan_le f.data
    obtain ⟨m, hm⟩ : ∃ m, (Walp.frames (Walp.scan f.data)).length = m := ⟨_, rfl⟩
    have htk : f.data.take m = Walp.frames (Walp.scan f.data) := by rw [← hm]; exact Walp.frames_take _
    have hlast : Fsp.find S.L (Walp.seg d (first + init.length)) = some f := by
      have := hh.lastFile
      simpa using this
    have h3 : ¬ S.armed = 1 := by omega
    have h4 : ¬ ((m : Int) < 0 ∨ (f.data.length : Int) < m) := by omega
    have ht : Fsp.truncate S (Walp.seg d (first + init.length)) (m : Int) = ({ Fsp.stepped S with L := Fsp.put S.L (Walp.seg d (first + init.length)) ⟨f.data.take m, min f.synced m⟩ }, 0) := by
      simp only [Fsp.truncate, hdn, hlast, Bool.false_eq_true, if_false, if_neg h4, if_neg h3, Int.toNat_natCast]
    rw [htk, Walp.stepped_of h3] at ht
    have har1 : S.armed - 1 = 0 := by omega
    rw [har1] at ht
    obtain ⟨S1, hS1⟩ : ∃ S1 : Fsp.Fs, S1 = { S with armed := 0, steps := S.steps + 1, L := Fsp.put S.L (Walp.seg d (first + init.length)) ⟨Walp.frames (Walp.scan f.data), min f.synced m⟩ } := ⟨_, rfl⟩
    have ht' : Fsp.truncate S (Walp.seg d (first + init.length)) (m : Int) = (S1, 0) := by rw [ht, hS1]
    have hf1 : Fsp.find S1.L (Walp.seg d (first + init.length)) = some ⟨Walp.frames (Walp.scan f.data), min f.synced m⟩ := by rw [hS1]; exact Fsp.find_put_same _ _ _
    have hsort1 : Fsp.Sorted S1.L := by rw [hS1]; exact Fsp.put_sorted hs _ _
    have hd1 : S1.down = false := by rw [hS1]; exact hdn
    have ha1 : ¬ S1.armed = 1 := by rw [hS1]; simp
    have hy : Fsp.sync S1 (Walp.seg d (first + init.length)) = ({ S1 with armed := 0, steps := S1.steps + 1, L := Fsp.put S1.L (Walp.seg d (first + init.length)) ⟨Walp.frames (Walp.scan f.data), m⟩ }, 0) := by
      have e0 : S1.armed - 1 = 0 := by rw [hS1]; rfl
      simp only [Fsp.sync, hd1, hf1, Bool.false_eq_true, if_false, if_neg ha1, Walp.stepped_of ha1, hm, e0]
    obtain ⟨S2, hS2⟩ : ∃ S2 : Fsp.Fs, S2 = { S1 with armed := 0, steps := S1.steps + 1, L := Fsp.put S1.L (Walp.seg d (first + init.length)) ⟨Walp.frames (Walp.scan f.data), m⟩ } := ⟨_, rfl⟩
    rw [← hS2] at hy
    have hu1 := Fsp.used_put_some hs hlast ⟨Walp.frames (Walp.scan f.data), min f.synced m⟩
    have hu2 := Fsp.used_put_some hsort1 hf1 ⟨Walp.frames (Walp.scan f.data), m⟩
    have hl1 := Fsp.length_put S.L hs (Walp.seg d (first + init.length)) ⟨Walp.frames (Walp.scan f.data), min f.synced m⟩
    rw [if_pos (by rw [hlast]; rfl)] at hl1
    have hl2 := Fsp.length_put S1.L hsort1 (Walp.seg d (first + init.length)) ⟨Walp.frames (Walp.scan f.data), m⟩
    rw [if_pos (by rw [hf1]; rfl)] at hl2
    have hhas1 : Walp.Has S1 d first (init.map Walp.whole ++ [⟨Walp.frames (Walp.scan f.data), min f.synced m⟩]) := hh.setLast (by rw [hS1]; simp)
    have hhas2 : Walp.Has S2 d first (init.map Walp.whole ++ [⟨Walp.frames (Walp.scan f.data), m⟩]) := hhas1.setLast (by rw [hS2]; simp)
    refine ⟨S2, f.data.length - m, Or.inr ⟨hw', by rw [hm], S1, by rw [hm]; exact ht', hy⟩, ⟨?_, by simp; omega, by simp, short_snoc hshort _, by rw [hS2]; exact hd1, rfl, hv⟩, ⟨by rw [hS2, hS1], by rw [hS2], ?_, by rw [hS2, hS1]; show S.steps + 1 + 1 ≤ _; omega, ?_, fun h => by rw [hw'] at h; cases h⟩⟩
    · show Walp.Has S2 d first _
      rw [List.map_append, List.map_cons, List.map_nil]
      have : Walp.whole (Walp.scan f.data) = ⟨Walp.frames (Walp.scan f.data), m⟩ := by unfold Walp.whole; rw [hm]
      rw [this]
      exact hhas2
    · rw [hS2]
      show (Fsp.put S1.L _ _).length = _
      rw [hl2, hS1]
      exact hl1
    · rw [hm]
      have e2 : S2.L = Fsp.put S1.L (Walp.seg d (first + init.length)) ⟨Walp.frames (Walp.scan f.data), m⟩ := by rw [hS2]
      have e1 : S1.L = Fsp.put S.L (Walp.seg d (first + init.length)) ⟨Walp.frames (Walp.scan f.data), min f.synced m⟩ := by rw [hS1]
      rw [e2]
      rw [← e1] at hu1
      simp only [hm] at hu1 hu2
      omega

end Go.Proofs.YtjjajnfkngfpjaaGreatDoor
