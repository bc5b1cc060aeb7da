/-
  WalOpens: the calls of the files that build the directory; Open of it; what the second loop adds up.
-/
import Derived.Test.YtkhlejficonhpaaGreatDoorWBuilt
import Derived.Test.YtkhlejficonhpaaGreatDoorWRefuse
import Derived.Test.YtkhlejficonhpaaGreatDoorWJ
import Derived.Test.YtkhlejficonhpaaGreatDoorWRefN
import Derived.Test.YtkhlejficonhpaaGreatDoorWRefS
namespace Go.Proofs.YtkhlejficonhpaaGreatDoor
open Go.RowKit Go.Maps Go.WideMaps

section
variable {w w1 w2 w' : World} {p lp : Nat} {S S' : Fsp.Fs} {a k : Nat} {gap : Int} {l : List (List UInt8)}

theorem Since.turned (h : Since w p S w1) (ht : Turn (fun _ => False) w1 w2) : Since w p S w2 := by
  obtain ⟨⟨mo, pl, hr⟩, ht0⟩ := h
  exact ⟨⟨mo, pl, (hr.turned ht (fun _ _ q => q)).mono (fun i hi => ⟨hi.1, Nat.lt_of_lt_of_le hi.2 ht.size⟩) (fun i hi => hi.2)⟩, ht0.trans ht (fun _ _ q => q)⟩

theorem Since.sorted (h : Since w p S w1) : Fsp.Sorted S.L := by
  obtain ⟨⟨mo, pl, hr⟩, ht0⟩ := h
  exact hr.good.1

theorem Since.arm (h : Since w p S w') : Calls Tryz.prog 15 #[.pointer (some ⟨p, 0, none⟩), .int .i64 1] w' fun r w2 => r = .returned (.tuple #[]) ∧ Since w p (Fsp.arm S 1) w2 := by
  have h0 := h
  obtain ⟨⟨mo, pl, hr⟩, ht0⟩ := h
  refine (arm_any hr 1 (by decide)).mono ?_
  rintro r w2 ⟨rfl, hp⟩
  exact ⟨rfl, Since.post h0 hp⟩

theorem BytesIn.apart {u : Value} {b : List UInt8} (h : BytesIn w u b) (N : Nat) : OutOf (fun i => w.heap.size ≤ i ∧ i < N) u := fun ad n cap e h0 q => by
  obtain ⟨sp, cap', hv, _, _, hc⟩ := h.c
  rw [hv] at e
  simp only [Value.slice.injEq] at e
  obtain ⟨rfl, rfl, rfl⟩ := e
  obtain ⟨g, off, e2, hx2⟩ := hc h0
  cases e2
  have := World.block_lt_of_cell? w _ (hx2 0 b[0] (List.getElem?_eq_getElem h0))
  exact absurd this (by have := q.1; show ¬ g < _; exact Nat.not_lt.2 this)

/-- the segments are there -/
def BuiltAt (w wr : World) (p a : Nat) (gap : Int) (l : List (List UInt8)) (i k : Nat) : Prop := ∃ S, Since w p S wr ∧ Built S a gap l i k

theorem BuiltAt.turned {i : Nat} (h : BuiltAt w w1 p a gap l i k) (ht : Turn (fun _ => False) w1 w2) : BuiltAt w w2 p a gap l i k := by
  obtain ⟨S, h1, h2⟩ := h
  exact ⟨S, h1.turned ht, h2⟩

theorem segW_size (n : Nat) : (segName ⟨#[119]⟩ n).size ≤ maxLen := seg_size wD n (by decide)

/-- a round's two calls: what stands between them is opaque -/
theorem BuiltAt.round {i : Nat} (h : BuiltAt w w1 p a gap l i 0) (hi : i < l.length) (h60 : l.length ≤ 60) (ha : 1 ≤ a) (ha2 : a ≤ 50) (hc : cost l ≤ 2000000) {u : Value} (hu : BytesIn w u l[i]) :
    ∃ Mid : World → Prop, (∀ wx, Turn (fun _ => False) w1 wx → Calls Tryz.prog 38 #[.pointer (some ⟨p, 0, none⟩), .string (segName ⟨#[119]⟩ (num a gap i))] wx fun r w2 => r = .returned (.int .i64 0) ∧ Mid w2 ∧ Turn (fun _ => False) w w2) ∧
      (∀ wx wy, Mid wx → Turn (fun _ => False) wx wy → Calls Tryz.prog 39 #[.pointer (some ⟨p, 0, none⟩), .string (segName ⟨#[119]⟩ (num a gap i)), u] wy fun r w2 => r = .returned (.int .i64 0) ∧ BuiltAt w w2 p a gap l (i + 1) 0 ∧ Turn (fun _ => False) w w2) := by
  obtain ⟨S, hS, hB⟩ := h
  obtain ⟨S1, S2, hc1, hc2, hB2, hst⟩ := hB.create hS.sorted hi h60 ha ha2 hc
  have hst0 := hB.steps
  refine ⟨fun wx => Since w p S1 wx, fun wx hx => ?_, fun wx wy hx hy => ?_⟩
  · refine ((hS.turned hx).create (by unfold StepsOk; omega) _ (segW_size _) hc1).mono ?_
    rintro r w2 ⟨rfl, h⟩
    exact ⟨rfl, h, h.2⟩
  · have h1 := hx.turned hy
    refine (h1.append (by unfold StepsOk; omega) _ (segW_size _) u l[i] ((hu.turned h1.2).b) (hu.turned h1.2).len (hu.apart _) hc2).mono ?_
    rintro r w2 ⟨rfl, h⟩
    exact ⟨rfl, ⟨S2, h, hB2⟩, h.2⟩

theorem BuiltAt.other {i : Nat} (h : BuiltAt w w1 p a gap l i 0) (h60 : i ≤ 60) :
    Calls Tryz.prog 38 #[.pointer (some ⟨p, 0, none⟩), .string ⟨#[119, 47, 111, 116, 104, 101, 114]⟩] w1 fun r w2 => r = .returned (.int .i64 0) ∧ BuiltAt w w2 p a gap l i 1 := by
  obtain ⟨S, hS, hB⟩ := h
  obtain ⟨S1, hc, hB1⟩ := hB.other hS.sorted h60
  have hst0 := hB.steps
  refine (hS.create (by unfold StepsOk; omega) _ (by decide) hc).mono ?_
  rintro r w2 ⟨rfl, h⟩
  exact ⟨rfl, S1, h, hB1⟩

/-- it falls -/
def FellAt (w wr : World) (p : Nat) : Prop := ∃ S, Since w p S wr ∧ S.down = true

theorem BuiltAt.fall {i : Nat} (h : BuiltAt w w1 p a gap l i k) (h60 : i + k ≤ 100) :
    ∃ Mid : World → Prop, (Calls Tryz.prog 15 #[.pointer (some ⟨p, 0, none⟩), .int .i64 1] w1 fun r w2 => r = .returned (.tuple #[]) ∧ Mid w2) ∧
      (∀ wx, Mid wx → Calls Tryz.prog 38 #[.pointer (some ⟨p, 0, none⟩), .string ⟨#[120]⟩] wx fun r w2 => r = .returned (.int .i64 5) ∧ FellAt w w2 p) := by
  obtain ⟨S, hS, hB⟩ := h
  obtain ⟨S1, hc, hd⟩ := hB.fell h60
  have hst0 := hB.steps
  refine ⟨fun wx => Since w p (Fsp.arm S 1) wx, hS.arm, fun wx hx => ?_⟩
  refine (hx.create (by unfold StepsOk; show S.steps < _; omega) _ (by decide) hc).mono ?_
  rintro r w2 ⟨rfl, h⟩
  exact ⟨rfl, S1, h, hd⟩

theorem FellAt.opens (h : FellAt w w1 p) : Calls Tryz.prog 13 #[.pointer (some ⟨p, 0, none⟩), .string ⟨#[119]⟩, .int .i64 64] w1 fun r w2 => r = .returned (.tuple #[.pointer none, .slice none 0 0, .int .i64 5]) ∧ Turn (fun _ => False) w w2 := by
  obtain ⟨S, hS, hd⟩ := h
  refine (open_down hS.1 wD (vseg 1) 64 (by decide) (by decide) hd).mono ?_
  rintro r w2 ⟨rfl, t⟩
  exact ⟨rfl, hS.2.trans t (fun _ _ q => q)⟩

/-- no segments: the first one is made -/
theorem BuiltAt.opensNew (hT : SumTab w) (h : BuiltAt w w1 p a gap [] 0 1) : Calls Tryz.prog 13 #[.pointer (some ⟨p, 0, none⟩), .string ⟨#[119]⟩, .int .i64 64] w1 fun r w2 => ∃ lp sp cap S Q, r = .returned (.tuple #[.pointer (some ⟨lp, 0, none⟩), .slice sp 0 cap, .int .i64 0]) ∧
    LogX w w2 p S Q lp ⟨wD, 64, 1, 1, 0, false⟩ := by
  obtain ⟨S, hS, hB⟩ := h
  have hlen := hB.len
  have hst := hB.steps
  refine (open_new hT hS.1 (fun b q => q.1) hS.2 wD (vseg 1) 64 (by decide) (by decide) hB.up hB.free (by omega) (fun n h0 h1 => hB.gone n h0 h1 (fun j hj => by omega)) (by omega)).mono ?_
  rintro r w2 ⟨lp, sp, cap, Q', rfl, hx, _⟩
  exact ⟨lp, sp, cap, _, Q', rfl, hx⟩

/-- Open must refuse -/
def BadTo (gap : Int) (l : List (List UInt8)) (k : Nat) : Prop := Gapped gap l ∨ ∃ j q, j < k ∧ j + 1 < l.length ∧ l[j]? = some q ∧ wholeF q = false

/-- the records of the first k segments -/
def wantOf (l : List (List UInt8)) (k : Nat) : List (List UInt8) := ((l.take k).map Walp.scan).flatten

theorem want_take {l : List (List UInt8)} {k : Nat} (h : k < l.length) : wantOf l (k + 1) = wantOf l k ++ Walp.scan l[k] := by
  unfold wantOf
  rw [List.take_succ_eq_append_getElem h, List.map_append, List.flatten_append]
  simp

theorem want_len (m : List (List UInt8)) : ((m.map Walp.scan).flatten).length ≤ cost m := by
  induction m with
  | nil => simp [cost]
  | cons x r ih =>
    have h1 := scan_le x
    unfold cost at ih ⊢
    simp only [List.map_cons, List.flatten_cons, List.length_append, List.sum_cons]
    omega

theorem want_le (l : List (List UInt8)) (k : Nat) : (wantOf l k).length ≤ cost l := Nat.le_trans (want_len _) (cost_le l k)

theorem want_each {l : List (List UInt8)} {k : Nat} {q : List UInt8} (h : q ∈ wantOf l k) : q.length ≤ maxLen := by
  unfold wantOf at h
  obtain ⟨m, hm, hq⟩ := List.mem_flatten.1 h
  obtain ⟨b, _, rfl⟩ := List.mem_map.1 hm
  have h1 := Walp.scan_short b q hq
  unfold Walp.maxRec at h1
  unfold maxLen; omega

def filesOf (l : List (List UInt8)) : List Fsp.File := l.map fun q => ⟨q, 0⟩

theorem files_recs (l : List (List UInt8)) : recsOf (filesOf l) = wantOf l l.length := by
  unfold recsOf filesOf wantOf
  rw [List.map_map, List.take_length]; rfl

theorem files_at {l : List (List UInt8)} {i : Nat} {g : Fsp.File} (h : (filesOf l)[i]? = some g) : ∃ q, l[i]? = some q ∧ g = ⟨q, 0⟩ := by
  unfold filesOf at h
  rw [List.getElem?_map] at h
  obtain ⟨q, e, e2⟩ := Option.map_eq_some_iff.1 h
  exact ⟨q, e, e2.symm⟩

/-- the least place of which it is true -/
theorem least {P : Nat → Prop} : ∀ n, P n → ∃ j, P j ∧ j ≤ n ∧ ∀ i, i < j → ¬ P i := fun n => by
  induction n using Nat.strongRecOn with
  | _ n ih =>
    intro hn
    by_cases h : ∃ i, i < n ∧ P i
    · obtain ⟨i, hi, hp⟩ := h
      obtain ⟨j, h1, h2, h3⟩ := ih i hi hp
      exact ⟨j, h1, by omega, h3⟩
    · exact ⟨n, hn, Nat.le_refl _, fun i hi hp => h ⟨i, hi, hp⟩⟩

/-- what Open tells -/
def Told (w w2 : World) (p : Nat) (a : Nat) (gap : Int) (l : List (List UInt8)) (base : Nat) (lg u : Value) (e : Int) : Prop :=
  (BadTo gap l l.length ∧ lg = .pointer none ∧ u = .slice none 0 0 ∧ e = 14) ∨
  (¬ BadTo gap l l.length ∧ e = 0 ∧ ∃ lp S2 Q sp cap g q, lg = .pointer (some ⟨lp, 0, none⟩) ∧ u = .slice sp (wantOf l l.length).length cap ∧ ListsO w2 base (.slice sp (wantOf l l.length).length cap) (wantOf l l.length) ∧ l[l.length - 1]? = some q ∧
    LogX w w2 p S2 Q lp ⟨wD, 64, a, a + l.length - 1, q.length - (Walp.frames (Walp.scan q)).length, false⟩ ∧ Fsp.find S2.L (Walp.seg wD (a + l.length - 1)) = some g ∧ g.data = q.take (Walp.frames (Walp.scan q)).length)

theorem BuiltAt.opens (hT : SumTab w) (h : BuiltAt w w1 p a gap l l.length 1) (h60 : l.length ≤ 20) (h0 : 0 < l.length) (ha : 1 ≤ a) (ha2 : a ≤ 50) :
    Calls Tryz.prog 13 #[.pointer (some ⟨p, 0, none⟩), .string ⟨#[119]⟩, .int .i64 64] w1 fun r w2 => ∃ lg u e, r = .returned (.tuple #[lg, u, .int .i64 e]) ∧ Told w w2 p a gap l w1.heap.size lg u e ∧ Turn (fun _ => False) w w2 := by
  obtain ⟨S, hS, hB⟩ := h
  have hlen := hB.len
  have hst := hB.steps
  obtain ⟨hnn, hf1, hf2⟩ := built_found hS.sorted hB (by omega) h0 ha ha2 64
  by_cases hg : Gapped gap l
  · obtain ⟨l1, hf⟩ := hf1 hg
    refine (open_gap hS.1 (fun b q => q.1) hS.2 wD (vseg 1) 64 (by decide) (by decide) hB.up hf hnn (by unfold StepsLow; omega)).mono ?_
    rintro r w2 ⟨rfl, t⟩
    exact ⟨_, _, _, rfl, Or.inl ⟨Or.inl hg, rfl, rfl, rfl⟩, hS.2.trans t (fun _ _ q => q)⟩
  · have hf := hf2 hg
    have hthere : ∀ (i : Nat) (g : Fsp.File), (filesOf l)[i]? = some g → Fsp.find S.L (Walp.seg wD (a + i)) = some g := fun i g hi => by
      obtain ⟨q, e, rfl⟩ := files_at hi
      have hil := (List.getElem?_eq_some_iff.1 e).1
      have := hB.there i q hil e
      rw [num_plain hg hil] at this
      exact this
    have hfl : (filesOf l).length = l.length := by unfold filesOf; simp
    by_cases hb : BadTo gap l l.length
    · obtain ⟨j0, q0, _, hj1, hj2, hj3⟩ := hb.resolve_left hg
      obtain ⟨j, ⟨hjl, q, hjq, hjw⟩, _, hmin⟩ := least (P := fun j => j + 1 < l.length ∧ ∃ q, l[j]? = some q ∧ wholeF q = false) j0 ⟨hj1, q0, hj2, hj3⟩
      refine (open_bad hT hS.1 (fun b q => q.1) hS.2 wD (vseg 1) 64 (by decide) (by decide) hB.up hf hnn (filesOf l) hthere (by show a + l.length - 1 + 1 = a + (filesOf l).length; rw [hfl]; omega) ha (by show a + l.length - 1 < 100; omega) j (by rw [hfl]; exact hjl) (fun i g hi hg2 => ?_) (fun g hg2 => ?_) (by unfold StepsLow; omega)).mono ?_
      · obtain ⟨q2, e, rfl⟩ := files_at hg2
        have h1 := hmin i hi
        cases hw : wholeF q2 with
        | true => rfl
        | false => exact absurd ⟨by omega, q2, e, hw⟩ h1
      · obtain ⟨q2, e, rfl⟩ := files_at hg2
        rw [hjq] at e
        cases e
        exact hjw
      · rintro r w2 ⟨rfl, t⟩
        exact ⟨_, _, _, rfl, Or.inl ⟨hb, rfl, rfl, rfl⟩, hS.2.trans t (fun _ _ q => q)⟩
    · obtain ⟨li, q, rfl⟩ := Walp.snoc_of (l := l) (by omega)
      have hff : filesOf (li ++ [q]) = filesOf li ++ [⟨q, 0⟩] := by unfold filesOf; simp
      have hfll : (filesOf li).length = li.length := by unfold filesOf; simp
      have hll : (li ++ [q]).length = li.length + 1 := by simp
      have hq : (li ++ [q])[(li ++ [q]).length - 1]? = some q := by simp
      rw [hff] at hthere
      have hlast : Fsp.find S.L (Walp.seg wD (a + (li ++ [q]).length - 1)) = some ⟨q, 0⟩ := by
        have := hthere li.length ⟨q, 0⟩ (by rw [List.getElem?_append_right (by omega), hfll, Nat.sub_self]; rfl)
        rw [hll, show a + (li.length + 1) - 1 = a + li.length by omega]
        exact this
      obtain ⟨S2, hm, g, hg2, hgd⟩ := mended_last (sz := 64) (first := a) (f := ⟨q, 0⟩) hB.up hB.free hlast
      refine (open_ok hT hS.1 (fun b q => q.1) hS.2 wD (vseg 1) 64 (by decide) (by decide) hB.up hf (filesOf li) ⟨q, 0⟩ hthere (by show a + (li ++ [q]).length - 1 = a + (filesOf li).length; rw [hfll, hll]; omega) ha (by show a + (li ++ [q]).length - 1 < 100; omega) (fun g hg3 => ?_) hm (by omega) (by unfold StepsLow; omega)).mono ?_
      · obtain ⟨i, hi⟩ := List.getElem?_of_mem hg3
        obtain ⟨q2, e, rfl⟩ := files_at hi
        have hil := (List.getElem?_eq_some_iff.1 e).1
        cases hw : wholeF q2 with
        | true => rfl
        | false => exact absurd (Or.inr ⟨i, q2, by omega, by omega, by rw [List.getElem?_append_left hil]; exact e, hw⟩) hb
      · rintro r w2 ⟨lp, u, Q', rfl, hls, hx, _⟩
        rw [← hff, files_recs] at hls
        obtain ⟨sp, cap, rfl, _⟩ := hls.toR
        exact ⟨_, _, _, rfl, Or.inr ⟨hb, rfl, lp, S2, Q', sp, cap, g, q, rfl, rfl, hls, hq, hx, hg2, hgd⟩, hx.turn⟩

theorem badTo_same {k : Nat} {q : List UInt8} (hq : l[k]? = some q) (h : wholeF q = true ∨ ¬ k + 1 < l.length) : BadTo gap l (k + 1) ↔ BadTo gap l k := by
  constructor
  · rintro (hg | ⟨j, q2, h1, h2, h3, h4⟩)
    · exact Or.inl hg
    · refine Or.inr ⟨j, q2, ?_, h2, h3, h4⟩
      rcases Nat.lt_or_ge j k with e | e
      · exact e
      · have : j = k := by omega
        subst this
        rw [hq] at h3
        cases h3
        rcases h with h | h
        · rw [h] at h4; cases h4
        · exact absurd h2 h
  · rintro (hg | ⟨j, q2, h1, h2⟩)
    · exact Or.inl hg
    · exact Or.inr ⟨j, q2, by omega, h2⟩

theorem badTo_bad {k : Nat} {q : List UInt8} (hq : l[k]? = some q) (h : wholeF q = false) (h1 : k + 1 < l.length) : BadTo gap l (k + 1) := Or.inr ⟨k, q, by omega, h1, hq, h⟩

theorem badTo_0 : BadTo gap l 0 ↔ Gapped gap l := by
  constructor
  · rintro (hg | ⟨j, q2, h1, _⟩)
    · exact hg
    · omega
  · exact Or.inl

theorem rem50 (n : Int) : ∃ N : Nat, 1 ≤ N ∧ N ≤ 50 ∧ Int.tmod n 50 % 50 + 1 = (N : Int) ∧ -50 < Int.tmod n 50 ∧ Int.tmod n 50 < 50 ∧ 0 ≤ Int.tmod (Int.tmod n 50 + 50) 50 ∧ Int.tmod (Int.tmod n 50 + 50) 50 < 50 := by
  have h1 := Int.lt_tmod_of_pos n (show (0 : Int) < 50 by decide)
  have h2 := Int.tmod_lt_of_pos n (show (0 : Int) < 50 by decide)
  have h3 := Int.tmod_nonneg (a := Int.tmod n 50 + 50) 50 (by omega)
  have h4 := Int.tmod_lt_of_pos (Int.tmod n 50 + 50) (show (0 : Int) < 50 by decide)
  exact ⟨(Int.tmod n 50 % 50 + 1).toNat, by omega, by omega, by omega, h1, h2, h3, h4⟩

end
end Go.Proofs.YtkhlejficonhpaaGreatDoor
