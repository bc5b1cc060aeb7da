/-
  PARTS: WFiles, WSegs, WLaw.
-/
import Derived.Test.YtinghngnehhgfaaGreatDoorWFirst
import Derived.Test.YtinghngnehhgfaaGreatDoorWB
import Derived.Test.YtinghngnehhgfaaGreatDoorWI
import Derived.Test.YtinghngnehhgfaaGreatDoorWA
import Derived.Test.YtinghngnehhgfaaGreatDoorFsA
import Derived.Test.YtinghngnehhgfaaGreatDoorWG
import Derived.Test.YtinghngnehhgfaaGreatDoorWC
/-
  OF THE LAWS: calls of the files since a world; a log's directory of one segment; bytes that came in, cut.
-/
namespace Go.Proofs.YtinghngnehhgfaaGreatDoor
open Go.RowKit Go.Maps Go.WideMaps

section
variable {w w' : World} {p : Nat} {S S' : Fsp.Fs} {c c' : Bool} {Q : Nat → Prop} {mo : Option Nat} {pl : List UInt8 → Pl}

theorem Since.append (h : Since w p S w') (hs : StepsOk S) (s : ByteArray) (hz : s.size ≤ maxLen) {n : Nat} (v : Value) (b : List UInt8) (hb : SliceB w' v b) (hbl : b.length ≤ maxLen)
    (hout : OutOf (fun i => w.heap.size ≤ i ∧ i < w'.heap.size) v) (he : Fsp.append S s.data.toList b = (S', n)) :
    Calls Tryz.prog 33 #[.pointer (some ⟨p, 0, none⟩), .string s, v] w' fun r w2 => r = .returned (.int .i64 (n : Int)) ∧ Since w p S' w2 := by
  have h0 := h
  obtain ⟨⟨mo, pl, hr⟩, ht0⟩ := h
  refine (append_any hr hs s hz v b hb hbl hout).mono ?_
  rintro r w2 ⟨rfl, hp⟩
  rw [he] at hp ⊢
  exact ⟨rfl, Since.post h0 hp⟩

theorem Since.create (h : Since w p S w') (hs : StepsOk S) (s : ByteArray) (hz : s.size ≤ maxLen) {n : Nat} (he : Fsp.create S s.data.toList = (S', n)) :
    Calls Tryz.prog 28 #[.pointer (some ⟨p, 0, none⟩), .string s] w' fun r w2 => r = .returned (.int .i64 (n : Int)) ∧ Since w p S' w2 := by
  have h0 := h
  obtain ⟨⟨mo, pl, hr⟩, ht0⟩ := h
  refine (create_any hr hs s hz).mono ?_
  rintro r w2 ⟨rfl, hp⟩
  rw [he] at hp ⊢
  exact ⟨rfl, Since.post h0 hp⟩

theorem Since.sync (h : Since w p S w') (hs : StepsOk S) (s : ByteArray) (hz : s.size ≤ maxLen) {n : Nat} (he : Fsp.sync S s.data.toList = (S', n)) :
    Calls Tryz.prog 35 #[.pointer (some ⟨p, 0, none⟩), .string s] w' fun r w2 => r = .returned (.int .i64 (n : Int)) ∧ Since w p S' w2 := by
  have h0 := h
  obtain ⟨⟨mo, pl, hr⟩, ht0⟩ := h
  refine (sync_any hr hs s hz).mono ?_
  rintro r w2 ⟨rfl, hp⟩
  rw [he] at hp ⊢
  exact ⟨rfl, Since.post h0 hp⟩

theorem SliceC.toB {v : Value} {b : List UInt8} (h : SliceC w v b) (hv : v = .slice none 0 0 ∨ ∃ ad n cap, v = .slice (some ad) n cap) : SliceB w v b := by
  obtain ⟨sp, cap, rfl, h1, h2, h3⟩ := h
  rcases hv with hv | ⟨ad, n, cap', hv⟩
  · simp only [Value.slice.injEq] at hv
    obtain ⟨rfl, h4, rfl⟩ := hv
    refine Or.inl ⟨by rw [h4], List.length_eq_zero_iff.1 h4⟩
  · simp only [Value.slice.injEq] at hv
    obtain ⟨rfl, rfl, rfl⟩ := hv
    refine Or.inr ⟨ad, _, rfl, fun j x hj => ?_⟩
    obtain ⟨g, off, e, hx⟩ := h3 (by have := (List.getElem?_eq_some_iff.1 hj).1; omega)
    cases e
    have := hx j x hj
    unfold Addr.add
    split
    · simp_all
    · exact this

/-- a front of it -/
theorem SliceC.take {sp : Option Addr} {n cap k : Nat} {b : List UInt8} (h : SliceC w (.slice sp n cap) b) (hk : k ≤ b.length) : SliceC w (.slice sp k cap) (b.take k) := by
  obtain ⟨sp', cap', hv, h1, h2, h3⟩ := h
  simp only [Value.slice.injEq] at hv
  obtain ⟨rfl, rfl, rfl⟩ := hv
  have hl : (b.take k).length = k := by rw [List.length_take]; omega
  refine ⟨sp, cap, by rw [hl], by omega, ⟨by omega, h2.2⟩, fun h0 => ?_⟩
  rw [hl] at h0
  obtain ⟨g, off, e, hx⟩ := h3 (by omega)
  refine ⟨g, off, e, fun j x hj => hx j x ?_⟩
  rw [List.getElem?_take] at hj
  split at hj
  · exact hj
  · cases hj

/-- a front of a list that is read -/
theorem ListsR.take {sp : Option Addr} {n cap k : Nat} {l : List (List UInt8)} (h : ListsR w (.slice sp n cap) l) (hk : k ≤ l.length) : ListsR w (.slice sp k cap) (l.take k) := by
  obtain ⟨sp', cap', hv, h3⟩ := h
  simp only [Value.slice.injEq] at hv
  obtain ⟨rfl, rfl, rfl⟩ := hv
  have hl : (l.take k).length = k := by rw [List.length_take]; omega
  refine ⟨sp, cap, by rw [hl], fun h0 => ?_⟩
  rw [hl] at h0
  obtain ⟨ad, e, hx⟩ := h3 (by omega)
  refine ⟨ad, e, fun j x hj => hx j x ?_⟩
  rw [List.getElem?_take] at hj
  split at hj
  · exact hj
  · cases hj

end
end Go.Proofs.YtinghngnehhgfaaGreatDoor

/-
  PLAIN: what find makes of a directory of segments, or of one without; what an opening leaves.
-/
namespace Go.Proofs.YtinghngnehhgfaaGreatDoor

theorem nums_names (S : Fsp.Fs) (d : List UInt8) : Walp.numsOf d (namesOf S d) = Walp.numsOf d (S.L.map (·.1)) := by
  unfold namesOf Fsp.names
  generalize S.L.map (·.1) = ns
  induction ns with
  | nil => rfl
  | cons x r ih =>
    unfold Walp.numsOf at ih ⊢
    by_cases hx : (d ++ [47]).isPrefixOf x = true
    · rw [List.filter_cons_of_pos hx, List.map_cons, List.map_cons]
      show List.filter (fun n => n != 0) (Walp.numOf d x :: List.map (Walp.numOf d) (List.filter (fun n => (d ++ [47]).isPrefixOf n) r)) = _
      rw [List.filter_cons, List.filter_cons, ih]
    · rw [List.filter_cons_of_neg hx, List.map_cons]
      have h0 : Walp.numOf d x = 0 := by unfold Walp.numOf; rw [if_neg hx]
      rw [h0]
      show List.filter (fun n => n != 0) (List.map (Walp.numOf d) (List.filter (fun n => (d ++ [47]).isPrefixOf n) r)) = _
      rw [List.filter_cons, ih]
      rfl

theorem found_none {S : Fsp.Fs} {d : List UInt8} (h : ∀ n, 0 < n → n < 100000000 → Fsp.find S.L (Walp.seg d n) = none) : Walp.numsOf d (namesOf S d) = [] := by
  rw [nums_names]
  apply List.eq_nil_iff_forall_not_mem.2
  intro n hn
  obtain ⟨h1, h2, h3⟩ := Walp.mem_numsOf.1 hn
  have h5 := Fsp.find_isSome.2 h3
  rw [h n h1 h2] at h5; cases h5

/-- a directory without segments gets its first one -/
theorem found_new {S : Fsp.Fs} {d : List UInt8} {sz : Nat} (h : ∀ n, 0 < n → n < 100000000 → Fsp.find S.L (Walp.seg d n) = none) (hv : Fsp.valid (Walp.seg d 1) = true) (hdn : S.down = false) (har : S.armed = 0) (hL : S.L.length < 400) :
    found S (fresh d sz) = ({ Fsp.stepped S with L := Fsp.put S.L (Walp.seg d 1) ⟨[], 0⟩ }, ⟨d, sz, 1, 1, 0, false⟩, 0) := by
  have hc : Fsp.create S (Walp.seg d 1) = ({ Fsp.stepped S with L := Fsp.put S.L (Walp.seg d 1) ⟨[], 0⟩ }, 0) := by
    have h1 := h 1 (by omega) (by omega)
    have h2 : ¬ 400 ≤ S.L.length := by omega
    have h3 : ¬ S.armed = 1 := by omega
    simp only [Fsp.create, hdn, hv, h1, Option.isSome_none, Bool.false_eq_true, if_false, if_neg h2, if_neg h3, reduceCtorEq]
  unfold found
  have e : (fresh d sz).dir = d := rfl
  rw [e, found_none h, if_pos (show ([] : List Nat).length = 0 from rfl), hc]
  rfl

theorem spans_range (d : List UInt8) (sz a k : Nat) : spans (fresh d sz) (List.range' a (k + 1)) = ⟨d, sz, a, a + k, 0, false⟩ := by
  unfold spans
  have h1 : (List.range' a (k + 1)).headD (fresh d sz).first = a := by rw [List.range'_succ]; rfl
  have h2 : (List.range' a (k + 1)).getLastD (fresh d sz).last = a + k := by
    rw [List.range'_1_concat, List.getLastD_concat]
  rw [h1, h2]
  rfl

/-- a directory with segments -/
theorem found_segs {S : Fsp.Fs} {d : List UInt8} {sz first k : Nat} {fs : List Fsp.File} (hs : Fsp.Sorted S.L) (h : Walp.Has S d first fs) (hk : fs.length = k + 1) :
    found S (fresh d sz) = (S, ⟨d, sz, first, first + k, 0, false⟩, 0) ∧ (Walp.numsOf d (namesOf S d)).length ≠ 0 := by
  have hn := h.nums hs
  rw [hk, ← nums_names] at hn
  have hl : (Walp.numsOf d (namesOf S d)).length = k + 1 := by rw [hn, List.length_range']
  refine ⟨?_, by omega⟩
  unfold found
  have e : (fresh d sz).dir = d := rfl
  rw [e, if_neg (by omega), hn, spans_range]
  simp only [List.length_range']
  rw [if_pos (by omega)]

theorem whole_is (rs : List (List UInt8)) (h : Walp.Short rs) : wholeF (Walp.frames rs) = true := by
  unfold wholeF
  rw [Walp.scan_frames_self h]
  simp

theorem recs_segs (init : List (List (List UInt8))) (f : Fsp.File) (h : ∀ rs ∈ init, Walp.Short rs) : recsOf (init.map Walp.whole ++ [f]) = (init ++ [Walp.scan f.data]).flatten := by
  unfold recsOf
  rw [List.map_append, List.map_map]
  congr 1
  have : init.map ((fun f : Fsp.File => Walp.scan f.data) ∘ Walp.whole) = init := by
    conv => rhs; rw [← List.map_id init]
    refine List.map_congr_left fun rs hrs => ?_
    show Walp.scan (Walp.frames rs) = rs
    exact Walp.scan_frames_self (h rs hrs)
  rw [this]
  rfl

/-- what an opening leaves of the files, whose last one is f -/
structure Reopened (S S2 : Fsp.Fs) (f : Fsp.File) : Prop where
  room : S2.room = S.room
  armed : S2.armed = 0
  len : S2.L.length = S.L.length
  steps : S2.steps ≤ S.steps + 2
  used : Fsp.usedOf S2.L + (f.data.length - (Walp.frames (Walp.scan f.data)).length) = Fsp.usedOf S.L
  same : wholeF f.data = true → S2 = S

theorem whole_data {x : List UInt8} (h : wholeF x = true) : Walp.frames (Walp.scan x) = x := by
  have hl : (Walp.frames (Walp.scan x)).length = x.length := by unfold wholeF at h; simpa using h
  have := Walp.frames_take x
  rw [hl, List.take_length] at this
  exact this.symm

theorem short_snoc {init : List (List (List UInt8))} (h : ∀ rs ∈ init, Walp.Short rs) (x : List UInt8) : ∀ rs ∈ init ++ [Walp.scan x], Walp.Short rs := fun rs hrs => by
  rcases List.mem_append.1 hrs with q | q
  · exact h rs q
  · rw [List.mem_singleton.1 q]; exact Walp.scan_short x

/-- the last file is mended, and the log lives -/
theorem mended_any {S : Fsp.Fs} {d : List UInt8} {sz first : Nat} {init : List (List (List UInt8))} {f : Fsp.File} (hs : Fsp.Sorted S.L) (hh : Walp.Has S d first (init.map Walp.whole ++ [f])) (hshort : ∀ rs ∈ init, Walp.Short rs)
    (hdn : S.down = false) (har : S.armed = 0) (hsy : f.synced = f.data.length) (hv : Fsp.valid (Walp.seg d 1) = true) :
    ∃ S2 c, Mended S S2 ⟨d, sz, first, first + init.length, 0, false⟩ ⟨d, sz, first, first + init.length, c, false⟩ f.data ∧ Walp.Live S2 ⟨d, sz, first, first + init.length, c, false⟩ (init ++ [Walp.scan f.data]) ∧ Reopened S S2 f := by
  by_cases hw : wholeF f.data = true
  · have e := whole_data hw
    have ef : Walp.whole (Walp.scan f.data) = f := by
      unfold Walp.whole
      rw [e]
      cases f
      simp only [Fsp.File.mk.injEq, true_and] at hsy ⊢
      exact hsy.symm
    refine ⟨S, 0, Or.inl ⟨hw, rfl, rfl⟩, ⟨?_, by simp; omega, by simp, short_snoc hshort _, hdn, rfl, hv⟩, ⟨rfl, har, rfl, by omega, by rw [e]; omega, fun _ => rfl⟩⟩
    show Walp.Has S d first _
    rw [List.map_append, List.map_cons, List.map_nil, ef]
    exact hh
  · have hw' : wholeF f.data = false := by simpa using hw
    have hle := Walp.frames_scan_le f.data
    obtain ⟨m, hm⟩ : ∃ m, (Walp.frames (Walp.scan f.data)).length = m := ⟨_, rfl⟩
    have htk : f.data.take m = Walp.frames (Walp.scan f.data) := by rw [← hm]; exact Walp.frames_take _
    have hlast : Fsp.find S.L (Walp.seg d (first + init.length)) = some f := by
      have := hh.lastFile
      simpa using this
    have h3 : ¬ S.armed = 1 := by omega
    have h4 : ¬ ((m : Int) < 0 ∨ (f.data.length : Int) < m) := by omega
    have ht : Fsp.truncate S (Walp.seg d (first + init.length)) (m : Int) = ({ Fsp.stepped S with L := Fsp.put S.L (Walp.seg d (first + init.length)) ⟨f.data.take m, min f.synced m⟩ }, 0) := by
      simp only [Fsp.truncate, hdn, hlast, Bool.false_eq_true, if_false, if_neg h4, if_neg h3, Int.toNat_natCast]
    rw [htk, Walp.stepped_of h3] at ht
    have har1 : S.armed - 1 = 0 := by omega
    rw [har1] at ht
    obtain ⟨S1, hS1⟩ : ∃ S1 : Fsp.Fs, S1 = { S with armed := 0, steps := S.steps + 1, L := Fsp.put S.L (Walp.seg d (first + init.length)) ⟨Walp.frames (Walp.scan f.data), min f.synced m⟩ } := ⟨_, rfl⟩
    have ht' : Fsp.truncate S (Walp.seg d (first + init.length)) (m : Int) = (S1, 0) := by rw [ht, hS1]
    have hf1 : Fsp.find S1.L (Walp.seg d (first + init.length)) = some ⟨Walp.frames (Walp.scan f.data), min f.synced m⟩ := by rw [hS1]; exact Fsp.find_put_same _ _ _
    have hsort1 : Fsp.Sorted S1.L := by rw [hS1]; exact Fsp.put_sorted hs _ _
    have hd1 : S1.down = false := by rw [hS1]; exact hdn
    have ha1 : ¬ S1.armed = 1 := by rw [hS1]; simp
    have hy : Fsp.sync S1 (Walp.seg d (first + init.length)) = ({ S1 with armed := 0, steps := S1.steps + 1, L := Fsp.put S1.L (Walp.seg d (first + init.length)) ⟨Walp.frames (Walp.scan f.data), m⟩ }, 0) := by
      have e0 : S1.armed - 1 = 0 := by rw [hS1]; rfl
      simp only [Fsp.sync, hd1, hf1, Bool.false_eq_true, if_false, if_neg ha1, Walp.stepped_of ha1, hm, e0]
    obtain ⟨S2, hS2⟩ : ∃ S2 : Fsp.Fs, S2 = { S1 with armed := 0, steps := S1.steps + 1, L := Fsp.put S1.L (Walp.seg d (first + init.length)) ⟨Walp.frames (Walp.scan f.data), m⟩ } := ⟨_, rfl⟩
    rw [← hS2] at hy
    have hu1 := Fsp.used_put_some hs hlast ⟨Walp.frames (Walp.scan f.data), min f.synced m⟩
    have hu2 := Fsp.used_put_some hsort1 hf1 ⟨Walp.frames (Walp.scan f.data), m⟩
    have hl1 := Fsp.length_put S.L hs (Walp.seg d (first + init.length)) ⟨Walp.frames (Walp.scan f.data), min f.synced m⟩
    rw [if_pos (by rw [hlast]; rfl)] at hl1
    have hl2 := Fsp.length_put S1.L hsort1 (Walp.seg d (first + init.length)) ⟨Walp.frames (Walp.scan f.data), m⟩
    rw [if_pos (by rw [hf1]; rfl)] at hl2
    have hhas1 : Walp.Has S1 d first (init.map Walp.whole ++ [⟨Walp.frames (Walp.scan f.data), min f.synced m⟩]) := hh.setLast (by rw [hS1]; simp)
    have hhas2 : Walp.Has S2 d first (init.map Walp.whole ++ [⟨Walp.frames (Walp.scan f.data), m⟩]) := hhas1.setLast (by rw [hS2]; simp)
    refine ⟨S2, f.data.length - m, Or.inr ⟨hw', by rw [hm], S1, by rw [hm]; exact ht', hy⟩, ⟨?_, by simp; omega, by simp, short_snoc hshort _, by rw [hS2]; exact hd1, rfl, hv⟩, ⟨by rw [hS2, hS1], by rw [hS2], ?_, by rw [hS2, hS1]; show S.steps + 1 + 1 ≤ _; omega, ?_, fun h => by rw [hw'] at h; cases h⟩⟩
    · show Walp.Has S2 d first _
      rw [List.map_append, List.map_cons, List.map_nil]
      have : Walp.whole (Walp.scan f.data) = ⟨Walp.frames (Walp.scan f.data), m⟩ := by unfold Walp.whole; rw [hm]
      rw [this]
      exact hhas2
    · rw [hS2]
      show (Fsp.put S1.L _ _).length = _
      rw [hl2, hS1]
      exact hl1
    · rw [hm]
      have e2 : S2.L = Fsp.put S1.L (Walp.seg d (first + init.length)) ⟨Walp.frames (Walp.scan f.data), m⟩ := by rw [hS2]
      have e1 : S1.L = Fsp.put S.L (Walp.seg d (first + init.length)) ⟨Walp.frames (Walp.scan f.data), min f.synced m⟩ := by rw [hS1]
      rw [e2]
      rw [← e1] at hu1
      simp only [hm] at hu1 hu2
      omega

end Go.Proofs.YtinghngnehhgfaaGreatDoor

/-
  OF THE LAWS: lists of records that came in; few; an append to a log that lives; openings.
-/
namespace Go.Proofs.YtinghngnehhgfaaGreatDoor
open Go.RowKit Go.Maps Go.WideMaps

/-- bytes that came in -/
structure BytesIn (w : World) (u : Value) (q : List UInt8) : Prop where
  c : SliceC w u q
  b : SliceB w u q
  len : q.length ≤ maxLen

/-- a list of records that came in -/
def ListsIn (w : World) (v : Value) (l : List (List UInt8)) : Prop :=
  ∃ sp cap, v = .slice sp l.length cap ∧ l.length ≤ maxLen ∧ ∀ i q, l[i]? = some q → ∃ ad u, sp = some ad ∧ w.cell? (ad.add i) = some u ∧ BytesIn w u q

/-- what few answers -/
def WFewSays (w : World) (n : Nat) (r : Ending) (w' : World) : Prop := ∃ b : Bool, r = .returned (.bool b) ∧ (b = true → n ≤ 60) ∧ Like w w'

section
variable {w0 w w' : World} {p lp : Nat} {S S' : Fsp.Fs} {Q : Nat → Prop} {l l' : Walp.Lg} {ls : List (List (List UInt8))}

theorem BytesIn.turned {u : Value} {q : List UInt8} (h : BytesIn w u q) (ht : Turn (fun _ => False) w w') : BytesIn w' u q :=
  ⟨h.c.turned ht, h.b.later ht, h.len⟩

theorem ListsIn.turned {v : Value} {l : List (List UInt8)} (h : ListsIn w v l) (ht : Turn (fun _ => False) w w') : ListsIn w' v l := by
  obtain ⟨sp, cap, hv, hm, hc⟩ := h
  refine ⟨sp, cap, hv, hm, fun i q hq => ?_⟩
  obtain ⟨ad, u, e, hu, hb⟩ := hc i q hq
  exact ⟨ad, u, e, turn_cell ht hu, hb.turned ht⟩

theorem ListsIn.toR {v : Value} {l : List (List UInt8)} (h : ListsIn w v l) : ListsR w v l := by
  obtain ⟨sp, cap, rfl, hm, hc⟩ := h
  refine ⟨sp, cap, rfl, fun h0 => ?_⟩
  obtain ⟨ad, u, rfl, hu, hb⟩ := hc 0 l[0] (List.getElem?_eq_getElem h0)
  refine ⟨ad, rfl, fun j q hj => ?_⟩
  obtain ⟨ad', u', e, hu', hb'⟩ := hc j q hj
  cases e
  exact ⟨u', hu', hb'.c.toR⟩

set_option maxRecDepth 100000 in
set_option maxHeartbeats 1000000 in
theorem wFew_any {v : Value} {l : List (List UInt8)} (h : ListsIn w v l) : Calls Tryz.prog 5 #[v] w (WFewSays w l.length) := by
  obtain ⟨sp, cap, rfl, hm, hops⟩ := h
  unfold maxLen at hm
  have HO := Lib.hid hops
  clear hops
  go_enter Tryz.func5, Tryz.ntmps5
  go_wp2_with fail
  go_loopw [3, 4] (fun n i wr => ∃ (k : Nat) (q : Int), k ≤ l.length ∧ k ≤ 61 ∧ i = .int .i64 k ∧ n = .int .i64 q ∧ 0 ≤ q ∧ q ≤ 40000 ∧ Like w wr) (fun _ i _ => l.length - (intOf i).toNat)
  case atStart => exact ⟨0, 0, Nat.zero_le _, Nat.zero_le _, rfl, rfl, by omega, by omega, ⟨rfl, rfl, rfl, rfl⟩⟩
  case round =>
    obtain ⟨k, q, hk, hk3, rfl, rfl, hq0, hq1, hl⟩ := hrel
    by_cases hlt : k < l.length
    · by_cases hlt3 : k ≤ 60
      · obtain ⟨a, u, hsp, hat, hok⟩ := HO.out k _ (List.getElem?_eq_getElem hlt)
        subst hsp
        have c2 := hl.cell hat
        obtain ⟨sp4, cap4, hb4, _⟩ := hok.c
        rw [hb4] at c2
        have hs2 := hok.len
        unfold maxLen at hs2
        have HL := Lib.hid hl
        clear hb4 hok hat hl
        generalize l[k] = o at *
        have i0 : (0 : Int) ≤ (k : Int) := by omega
        have i1 : (k : Int) < (l.length : Int) := by omega
        have i2 : (k : Int) ≤ 60 := by omega
        go_wp2_with fail
        go_roundw
        case rel => exact ⟨k + 1, _, by omega, by omega, by go_num, rfl, by omega, by omega, HL.out⟩
        case measure => simp [intOf]; omega
      · have hk0 : k = 61 := by omega
        subst hk0
        have i1 : (61 : Int) < (l.length : Int) := by omega
        have i2 : decide ((l.length : Int) ≤ 60) = false := by simp; omega
        go_wp2
        go_ret
        exact ⟨false, rfl, by simp, hl⟩
    · have hk0 : k = l.length := by omega
      subst hk0
      by_cases h60 : l.length ≤ 60
      · have i1 : (l.length : Int) ≤ 60 := by omega
        by_cases hq2 : q ≤ 20000
        all_goals
          go_wp2
          go_ret
          exact ⟨_, rfl, fun _ => h60, hl⟩
      · have i1 : decide ((l.length : Int) ≤ 60) = false := by simp; omega
        go_wp2
        go_ret
        exact ⟨false, rfl, by simp, hl⟩

/-- bytes that lay there before the log -/
theorem BytesIn.outside {u : Value} {b : List UInt8} (h : BytesIn w0 u b) (hx : LogX w0 w p S Q lp l) : SliceX w u b Q lp := by
  refine ⟨(h.c.turned hx.turn).toR, fun ad n cap e h0 => ?_⟩
  have hlt : ad.block < w0.heap.size := by
    obtain ⟨sp, cap', hv, _, _, hc⟩ := h.c
    rw [hv] at e
    simp only [Value.slice.injEq] at e
    obtain ⟨rfl, rfl, rfl⟩ := e
    obtain ⟨g, off, e2, hx2⟩ := hc h0
    cases e2
    have := World.block_lt_of_cell? w0 _ (hx2 0 b[0] (List.getElem?_eq_getElem h0))
    exact this
  exact ⟨fun q => by have := hx.newQ _ q; omega, by have := hx.new; omega⟩

theorem LogX.sorted (hx : LogX w0 w p S Q lp l) : Fsp.Good S := by
  obtain ⟨mo, pl, hr⟩ := hx.rep
  exact hr.good

theorem live_dir (hl : Walp.Live S l ls) : l.dir.length ≤ 91 := by
  have h := valid_size hl.valid
  rw [Walp.seg_length] at h; omega

theorem live_last (hl : Walp.Live S l ls) : 1 ≤ l.last ∧ ∃ f, Fsp.find S.L (Walp.seg l.dir l.last) = some f := by
  have h1 := hl.has.pos
  have h2 := hl.last
  have h3 := hl.any
  obtain ⟨init, rs, rfl⟩ := Walp.snoc_of hl.any
  exact ⟨by omega, _, hl.lastIs.2⟩

/-- an append to a log that lives -/
theorem append_live (hT : SumTab w0) (hx : LogX w0 w p S Q lp l) (hl : Walp.Live S l ls) (hlast : l.last < 98) (hn : S.L.length < 400) (hs : S.steps + 10 < 4611686018427387000) {u : Value} {b : List UInt8} (hb : BytesIn w0 u b) (hbl : b.length ≤ 1048576) :
    Calls Tryz.prog 12 #[.pointer (some ⟨lp, 0, none⟩), u] w fun r w' => ∃ S' l' e, r = .returned (.int .i64 ((e : Nat) : Int)) ∧ Walp.Ends S l l.size ls b S' l' e ∧ LogP w0 w p S' Q lp l' w' := by
  have hX := hb.outside hx
  have hends := Walp.append_ends hx.sorted.1 hl hbl (by omega) hn
  obtain ⟨sp, cap, rfl, _⟩ := hb.c
  obtain ⟨h1, f, hf⟩ := live_last hl
  refine (wAppend_any hT hx hl.free (by have := live_dir hl; omega) h1 hlast hf hX hbl hs).mono ?_
  rintro r w' ⟨rfl, hp⟩
  exact ⟨_, _, _, rfl, hends, hp⟩

/-- the first opening of a directory -/
theorem open_new (hT : SumTab w0) (hr : Rep w p S Q) (hq : ∀ b, Q b → w0.heap.size ≤ b) (ht : Turn (fun _ => False) w0 w) (d : List UInt8) (hv : Fsp.valid (Walp.seg d 1) = true) (sz : Nat) (hz1 : 16 ≤ sz) (hz2 : sz ≤ 1048576) (hdn : S.down = false) (har : S.armed = 0) (hL : S.L.length < 400)
    (hno : ∀ n, 0 < n → n < 100000000 → Fsp.find S.L (Walp.seg d n) = none) (hs : S.steps + 20 < 4611686018427387000) :
    Calls Tryz.prog 7 #[.pointer (some ⟨p, 0, none⟩), .string (txt d), .int .i64 (sz : Nat)] w fun r w' => ∃ lp sp cap Q', r = .returned (.tuple #[.pointer (some ⟨lp, 0, none⟩), .slice sp 0 cap, .int .i64 0]) ∧
      LogX w0 w' p { S with armed := 0, steps := S.steps + 1, L := Fsp.put S.L (Walp.seg d 1) ⟨[], 0⟩ } Q' lp ⟨d, sz, 1, 1, 0, false⟩ ∧
      Walp.Live { S with armed := 0, steps := S.steps + 1, L := Fsp.put S.L (Walp.seg d 1) ⟨[], 0⟩ } ⟨d, sz, 1, 1, 0, false⟩ [[]] ∧ (∀ b, Q' b → Q b ∨ w.heap.size ≤ b) ∧ w.heap.size ≤ lp ∧ Turn Q w w' := by
  have hf0 := found_new (sz := sz) hno hv hdn har hL
  rw [Walp.stepped_of (by omega : S.armed ≠ 1)] at hf0
  have e0 : S.armed - 1 = 0 := by omega
  rw [e0] at hf0
  obtain ⟨S1, hS1⟩ : ∃ S1 : Fsp.Fs, S1 = { S with armed := 0, steps := S.steps + 1, L := Fsp.put S.L (Walp.seg d 1) ⟨[], 0⟩ } := ⟨_, rfl⟩
  have hf : found S (fresh d sz) = (S1, ⟨d, sz, 1, 1, 0, false⟩, 0) := by rw [hS1]; exact hf0
  clear hf0
  rw [← hS1]
  have hfind : Fsp.find S1.L (Walp.seg d 1) = some ⟨[], 0⟩ := by rw [hS1]; exact Fsp.find_put_same _ _ _
  have hhas : Walp.Has S1 d 1 ([] ++ [⟨[], 0⟩]) := by
    have h0 : Walp.Has S d 1 [] := ⟨by omega, by simp, fun n h1 h2 => by rw [hno n h1 h2]; split <;> simp⟩
    exact h0.addLast (by simp) (by rw [hS1]; rfl)
  have h := open_ok hT hr hq ht d hv sz hz1 hz2 hdn hf [] ⟨[], 0⟩ (fun i g h => by
    have : i = 0 := by have := (List.getElem?_eq_some_iff.1 h).1; simp at this; exact this
    subst this; cases h; exact hfind) rfl (Nat.le_refl 1) (by show 1 < 100; decide) (fun g h => by cases h) (Or.inl ⟨whole_nil, rfl, rfl⟩) (by rw [hS1]; show S.steps + 1 + 10 < _; omega) (by unfold StepsLow; omega)
  refine h.mono ?_
  rintro r w' ⟨lp, u, Q', rfl, hls, hx, h1, h2, h3, _⟩
  rw [List.nil_append, recs_nil] at hls
  obtain ⟨sp, cap, rfl, _⟩ := hls.toR
  refine ⟨lp, sp, cap, Q', rfl, hx, ⟨?_, rfl, by decide, fun rs h => ?_, by rw [hS1]; exact hdn, rfl, hv⟩, h1, h2, h3⟩
  · exact hhas
  · rw [List.mem_singleton.1 h]; intro q hq; cases hq

/-- the opening of a directory that has segments -/
theorem open_segs (hT : SumTab w0) (hr : Rep w p S Q) (hq : ∀ b, Q b → w0.heap.size ≤ b) (ht : Turn (fun _ => False) w0 w) (d : List UInt8) (hv : Fsp.valid (Walp.seg d 1) = true) (sz : Nat) (hz1 : 16 ≤ sz) (hz2 : sz ≤ 1048576) (hdn : S.down = false) (har : S.armed = 0)
    {first : Nat} {init : List (List (List UInt8))} {f : Fsp.File} (hh : Walp.Has S d first (init.map Walp.whole ++ [f])) (hshort : ∀ rs ∈ init, Walp.Short rs) (hsy : f.synced = f.data.length) (hlast : first + init.length < 100) (hs : S.steps + 20 < 4611686018427387000) :
    Calls Tryz.prog 7 #[.pointer (some ⟨p, 0, none⟩), .string (txt d), .int .i64 (sz : Nat)] w fun r w' => ∃ lp sp cap Q' S2 c, r = .returned (.tuple #[.pointer (some ⟨lp, 0, none⟩), .slice sp (init ++ [Walp.scan f.data]).flatten.length cap, .int .i64 0]) ∧
      ListsO w' w.heap.size (.slice sp (init ++ [Walp.scan f.data]).flatten.length cap) (init ++ [Walp.scan f.data]).flatten ∧
      LogX w0 w' p S2 Q' lp ⟨d, sz, first, first + init.length, c, false⟩ ∧ Walp.Live S2 ⟨d, sz, first, first + init.length, c, false⟩ (init ++ [Walp.scan f.data]) ∧ Reopened S S2 f ∧ (∀ b, Q' b → Q b ∨ w.heap.size ≤ b) ∧ w.heap.size ≤ lp ∧ Turn Q w w' := by
  have hsort : Fsp.Sorted S.L := by
    obtain ⟨mo, pl, hr'⟩ := hr
    exact hr'.good.1
  obtain ⟨S2, c, hm, hlive, hre⟩ := mended_any (sz := sz) hsort hh hshort hdn har hsy hv
  have hf := (found_segs (sz := sz) (k := init.length) hsort hh (by simp)).1
  have h := open_ok hT hr hq ht d hv sz hz1 hz2 hdn hf (init.map Walp.whole) f (fun i g hg => hh.at_ hg) (by simp) hh.pos (by show first + init.length < 100; exact hlast) (fun g hg => by
    obtain ⟨rs, h1, rfl⟩ := List.mem_map.1 hg
    exact whole_is rs (hshort rs h1)) hm (by omega) (by unfold StepsLow; omega)
  refine h.mono ?_
  rintro r w' ⟨lp, u, Q', rfl, hls, hx, h1, h2, h3, _⟩
  rw [recs_segs _ _ hshort] at hls
  obtain ⟨sp, cap, rfl, _⟩ := hls.toR
  exact ⟨lp, sp, cap, Q', S2, c, rfl, hls, hx, hlive, hre, h1, h2, h3⟩

end
end Go.Proofs.YtinghngnehhgfaaGreatDoor
