/-
  OF THE LAWS: lists of records that came in; few; an append to a log that lives; openings.
-/
import Derived.Test.YtjjajnfkngfpjaaGreatDoorWFiles
import Derived.Test.YtjjajnfkngfpjaaGreatDoorWSegs
import Derived.Test.YtjjajnfkngfpjaaGreatDoorWAppend
import Derived.Test.YtjjajnfkngfpjaaGreatDoorWBytes
namespace Go.Proofs.YtjjajnfkngfpjaaGreatDoor
open Go.RowKit Go.Maps Go.WideMaps

/-- bytes that came in -/
structure BytesIn (w : World) (u : Value) (q : List UInt8) : Prop where
  c : SliceC w u q
  b : SliceB w u q
  len : q.length ≤ maxLen

/-- a list of records that came in -/
def ListsIn (w : World) (v : Value) (l : List (List UInt8)) : Prop :=
  ∃ sp cap, v = .slice sp l.length cap ∧ l.length ≤ maxLen ∧ ∀ i q, l[i]? = some q → ∃ ad u, sp = some ad ∧ w.cell? (ad.add i) = some u ∧ BytesIn w u q

/-- what few answers -/
def WFewSays (w : World) (n : Nat) (r : Ending) (w' : World) : Prop := ∃ b : Bool, r = .returned (.bool b) ∧ (b = true → n ≤ 60) ∧ Like w w'

section
variable {w0 w w' : World} {p lp : Nat} {S S' : Fsp.Fs} {Q : Nat → Prop} {l l' : Walp.Lg} {ls : List (List (List UInt8))}

theorem BytesIn.turned {u : Value} {q : List UInt8} (h : BytesIn w u q) (ht : Turn (fun _ => False) w w') : BytesIn w' u q :=
  ⟨h.c.turned ht, h.b.later ht, h.len⟩

theorem ListsIn.turned {v : Value} {l : List (List UInt8)} (h : ListsIn w v l) (ht : Turn (fun _ => False) w w') : ListsIn w' v l := by
  obtain ⟨sp, cap, hv, hm, hc⟩ := h
  refine ⟨sp, cap, hv, hm, fun i q hq => ?_⟩
  obtain ⟨ad, u, e, hu, hb⟩ := hc i q hq
  exact ⟨ad, u, e, turn_cell ht hu, hb.turned ht⟩

theorem ListsIn.toR {v : Value} {l : List (List UInt8)} (h : ListsIn w v l) : ListsR w v l := by
  obtain ⟨sp, cap, rfl, hm, hc⟩ := h
  refine ⟨sp, cap, rfl, fun h0 => ?_⟩
  obtain ⟨ad, u, rfl, hu, hb⟩ := hc 0 l[0] (List.getElem?_eq_getElem h0)
  refine ⟨ad, rfl, fun j q hj => ?_⟩
  obtain ⟨ad', u', e, hu', hb'⟩ := hc j q hj
  cases e
  exact ⟨u', hu', hb'.c.toR⟩

set_option maxRecDepth 100000 in
set_option maxHeartbeats 1000000 in
theorem wFew_any {v : Value} {l : List (List UInt8)} (h : ListsIn w v l) : Calls Tryz.prog 11 #[v] w (WFewSays w l.length) := by
  obtain ⟨sp, cap, rfl, hm, hops⟩ := h
  unfold maxLen at hm
  have HO := Lib.hid hops
  clear hops
  go_enter Tryz.func11, Tryz.ntmps11
  go_wp2_with fail
  go_loopw [3, 4] (fun n i wr => ∃ (k : Nat) (q : Int), k ≤ l.length ∧ k ≤ 61 ∧ i = .int .i64 k ∧ n = .int .i64 q ∧ 0 ≤ q ∧ q ≤ 40000 ∧ Like w wr) (fun _ i _ => l.length - (intOf i).toNat)
  case atStart => exact ⟨0, 0, Nat.zero_le _, Nat.zero_le _, rfl, rfl, by omega, by omega, ⟨rfl, rfl, rfl, rfl⟩⟩
  case round =>
    obtain ⟨k, q, hk, hk3, rfl, rfl, hq0, hq1, hl⟩ := hrel
    by_cases hlt : k < l.length
    · by_cases hlt3 : k ≤ 60
      · obtain ⟨a, u, hsp, hat, hok⟩ := HO.out k _ (List.getElem?_eq_getElem hlt)
        subst hsp
        have c2 := hl.cell hat
        obtain ⟨sp4, cap4, hb4, _⟩ := hok.c
        rw [hb4] at c2
        have hs2 := hok.len
        unfold maxLen at hs2
        have HL := Lib.hid hl
        clear hb4 hok hat hl
        generalize l[k] = o at *
        have i0 : (0 : Int) ≤ (k : Int) := by omega
        have i1 : (k : Int) < (l.length : Int) := by omega
        have i2 : (k : Int) ≤ 60 := by omega
        go_wp2_with fail
        go_roundw
        case rel => exact ⟨k + 1, _, by omega, by omega, by go_num, rfl, by omega, by omega, HL.out⟩
        case measure => simp [intOf]; omega
      · have hk0 : k = 61 := by omega
        subst hk0
        have i1 : (61 : Int) < (l.length : Int) := by omega
        have i2 : decide ((l.length : Int) ≤ 60) = false := by simp; omega
        go_wp2
        go_ret
        exact ⟨false, rfl, by simp, hl⟩
    · have hk0 : k = l.length := by omega
      subst hk0
      by_cases h60 : l.length ≤ 60
      · have i1 : (l.length : Int) ≤ 60 := by omega
        by_cases hq2 : q ≤ 20000
        all_goals
          go_wp2
          go_ret
          exact ⟨_, rfl, fun _ => h60, hl⟩
      · have i1 : decide ((l.length : Int) ≤ 60) = false := by simp; omega
        go_wp2
        go_ret
        exact ⟨false, rfl, by simp, hl⟩

/-- bytes that lay there before the log -/
theorem BytesIn.outside {u : Value} {b : List UInt8} (h : BytesIn w0 u b) (hx : LogX w0 w p S Q lp l) : SliceX w u b Q lp := by
  refine ⟨(h.c.turned hx.turn).toR, fun ad n cap e h0 => ?_⟩
  have hlt : ad.block < w0.heap.size := by
    obtain ⟨sp, cap', hv, _, _, hc⟩ := h.c
    rw [hv] at e
    simp only [Value.slice.injEq] at e
    obtain ⟨rfl, rfl, rfl⟩ := e
    obtain ⟨g, off, e2, hx2⟩ := hc h0
    cases e2
    have := World.block_lt_of_cell? w0 _ (hx2 0 b[0] (List.getElem?_eq_getElem h0))
    exact this
  exact ⟨fun q => by have := hx.newQ _ q; omega, by have := hx.new; omega⟩

theorem LogX.sorted (hx : LogX w0 w p S Q lp l) : Fsp.Good S := by
  obtain ⟨mo, pl, hr⟩ := hx.rep
  exact hr.good

theorem live_dir (hl : Walp.Live S l ls) : l.dir.length ≤ 91 := by
  have h := valid_size hl.valid
  rw [Walp.seg_length] at h; omega

theorem live_last (hl : Walp.Live S l ls) : 1 ≤ l.last ∧ ∃ f, Fsp.find S.L (Walp.seg l.dir l.last) = some f := by
  have h1 := hl.has.pos
  have h2 := hl.last
  have h3 := hl.any
  obtain ⟨init, rs, rfl⟩ := Walp.snoc_of hl.any
  exact ⟨by omega, _, hl.lastIs.2⟩

/-- an append to a log that lives -/
theorem append_live (hT : SumTab w0) (hx : LogX w0 w p S Q lp l) (hl : Walp.Live S l ls) (hlast : l.last < 98) (hn : S.L.length < 400) (hs : S.steps + 10 < 4611686018427387000) {u : Value} {b : List UInt8} (hb : BytesIn w0 u b) (hbl : b.length ≤ 1048576) :
    Calls Tryz.prog 16 #[.pointer (some ⟨lp, 0, none⟩), u] w fun r w' => ∃ S' l' e, r = .returned (.int .i64 ((e : Nat) : Int)) ∧ Walp.Ends S l l.size ls b S' l' e ∧ LogP w0 w p S' Q lp l' w' := by
  have hX := hb.outside hx
  have hends := Walp.append_ends hx.sorted.1 hl hbl (by omega) hn
  obtain ⟨sp, cap, rfl, _⟩ := hb.c
  obtain ⟨h1, f, hf⟩ := live_last hl
  refine (wAppend_any hT hx hl.free (by have := live_dir hl; omega) h1 hlast hf hX hbl hs).mono ?_
  rintro r w' ⟨rfl, hp⟩
  exact ⟨_, _, _, rfl, hends, hp⟩

/-- the first opening of a directory -/
theorem open_new (hT : SumTab w0) (hr : Rep w p S Q) (hq : ∀ b, Q b → w0.heap.size ≤ b) (ht : Turn (fun _ => False) w0 w) (d : List UInt8) (hv : Fsp.valid (Walp.seg d 1) = true) (sz : Nat) (hz1 : 16 ≤ sz) (hz2 : sz ≤ 1048576) (hdn : S.down = false) (har : S.armed = 0) (hL : S.L.length < 400)
    (hno : ∀ n, 0 < n → n < 100000000 → Fsp.find S.L (Walp.seg d n) = none) (hs : S.steps + 20 < 4611686018427387000) :
    Calls Tryz.prog 13 #[.pointer (some ⟨p, 0, none⟩), .string (txt d), .int .i64 (sz : Nat)] w fun r w' => ∃ lp sp cap Q', r = .returned (.tuple #[.pointer (some ⟨lp, 0, none⟩), .slice sp 0 cap, .int .i64 0]) ∧
      LogX w0 w' p { S with armed := 0, steps := S.steps + 1, L := Fsp.put S.L (Walp.seg d 1) ⟨[], 0⟩ } Q' lp ⟨d, sz, 1, 1, 0, false⟩ ∧
      Walp.Live { S with armed := 0, steps := S.steps + 1, L := Fsp.put S.L (Walp.seg d 1) ⟨[], 0⟩ } ⟨d, sz, 1, 1, 0, false⟩ [[]] ∧ (∀ b, Q' b → Q b ∨ w.heap.size ≤ b) ∧ w.heap.size ≤ lp ∧ Turn Q w w' := by
  have hf0 := found_new (sz := sz) hno hv hdn har hL
  rw [Walp.stepped_of (by omega : S.armed ≠ 1)] at hf0
  have e0 : S.armed - 1 = 0 := by omega
  rw [e0] at hf0
  obtain ⟨S1, hS1⟩ : ∃ S1 : Fsp.Fs, S1 = { S with armed := 0, steps := S.steps + 1, L := Fsp.put S.L (Walp.seg d 1) ⟨[], 0⟩ } := ⟨_, rfl⟩
  have hf : found S (fresh d sz) = (S1, ⟨d, sz, 1, 1, 0, false⟩, 0) := by rw [hS1]; exact hf0
  clear hf0
  rw [← hS1]
  have hfind : Fsp.find S1.L (Walp.seg d 1) = some ⟨[], 0⟩ := by rw [hS1]; exact Fsp.find_put_same _ _ _
  have hhas : Walp.Has S1 d 1 ([] ++ [⟨[], 0⟩]) := by
    have h0 : Walp.Has S d 1 [] := ⟨by omega, by simp, fun n h1 h2 => by rw [hno n h1 h2]; split <;> simp⟩
    exact h0.addLast (by simp) (by rw [hS1]; rfl)
  have h := open_ok hT hr hq ht d hv sz hz1 hz2 hdn hf [] ⟨[], 0⟩ (fun i g h => by
    have : i = 0 := by have := (List.getElem?_eq_some_iff.1 h).1; simp at this; exact this
    subst this; cases h; exact hfind) rfl (Nat.le_refl 1) (by show 1 < 100; decide) (fun g h => by cases h) (Or.inl ⟨whole_nil, rfl, rfl⟩) (by rw [hS1]; show S.steps + 1 + 10 < _; omega) (by unfold StepsLow; omega)
  refine h.mono ?_
  rintro r w' ⟨lp, u, Q', rfl, hls, hx, h1, h2, h3, _⟩
  rw [List.nil_append, recs_nil] at hls
  obtain ⟨sp, cap, rfl, _⟩ := hls.toR
  refine ⟨lp, sp, cap, Q', rfl, hx, ⟨?_, rfl, by decide, fun rs h => ?_, by rw [hS1]; exact hdn, rfl, hv⟩, h1, h2, h3⟩
  · exact hhas
  · rw [List.mem_singleton.1 h]; intro q hq; cases hq

/-- the opening of a directory that has segments -/
theorem open_segs (hT : SumTab w0) (hr : Rep w p S Q) (hq : ∀ b, Q b → w0.heap.size ≤ b) (ht : Turn (fun _ => False) w0 w) (d : List UInt8) (hv : Fsp.valid (Walp.seg d 1) = true) (sz : Nat) (hz1 : 16 ≤ sz) (hz2 : sz ≤ 1048576) (hdn : S.down = false) (har : S.armed = 0)
    {first : Nat} {init : List (List (List UInt8))} {f : Fsp.File} (hh : Walp.Has S d first (init.map Walp.whole ++ [f])) (hshort : ∀ rs ∈ init, Walp.Short rs) (hsy : f.synced = f.data.length) (hlast : first + init.length < 100) (hs : S.steps + 20 < 4611686018427387000) :
    Calls Tryz.prog 13 #[.pointer (some ⟨p, 0, none⟩), .string (txt d), .int .i64 (sz : Nat)] w fun r w' => ∃ lp sp cap Q' S2 c, r = .returned (.tuple #[.pointer (some ⟨lp, 0, none⟩), .slice sp (init ++ [Walp.scan f.data]).flatten.length cap, .int .i64 0]) ∧
      ListsO w' w.heap.size (.slice sp (init ++ [Walp.scan f.data]).flatten.length cap) (init ++ [Walp.scan f.data]).flatten ∧
      LogX w0 w' p S2 Q' lp ⟨d, sz, first, first + init.length, c, false⟩ ∧ Walp.Live S2 ⟨d, sz, first, first + init.length, c, false⟩ (init ++ [Walp.scan f.data]) ∧ Reopened S S2 f ∧ (∀ b, Q' b → Q b ∨ w.heap.size ≤ b) ∧ w.heap.size ≤ lp ∧ Turn Q w w' := by
  have hsort : Fsp.Sorted S.L := by
    obtain ⟨mo, pl, hr'⟩ := hr
    exact hr'.good.1
  obtain ⟨S2, c, hm, hlive, hre⟩ := mended_any (sz := sz) hsort hh hshort hdn har hsy hv
  have hf := (found_segs (sz := sz) (k := init.length) hsort hh (by simp)).1
  have h := open_ok hT hr hq ht d hv sz hz1 hz2 hdn hf (init.map Walp.whole) f (fun i g hg => hh.at_ hg) (by simp) hh.pos (by show first + init.length < 100; exact hlast) (fun g hg => by
    obtain ⟨rs, h1, rfl⟩ := List.mem_map.1 hg
    exact whole_is rs (hshort rs h1)) hm (by omega) (by unfold StepsLow; omega)
  refine h.mono ?_
  rintro r w' ⟨lp, u, Q', rfl, hls, hx, h1, h2, h3, _⟩
  rw [recs_segs _ _ hshort] at hls
  obtain ⟨sp, cap, rfl, _⟩ := hls.toR
  exact ⟨lp, sp, cap, Q', S2, c, rfl, hls, hx, hlive, hre, h1, h2, h3⟩

end
end Go.Proofs.YtjjajnfkngfpjaaGreatDoor
