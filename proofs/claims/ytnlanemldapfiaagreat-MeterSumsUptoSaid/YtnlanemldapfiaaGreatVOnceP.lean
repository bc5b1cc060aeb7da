/-
  What MeterOnce asks of totals.
-/
import Derived.Test.YtnlanemldapfiaaGreatVCmp
namespace Go.Proofs.YtnlanemldapfiaaGreat.se
open Go.RowKit Go.Maps Go.WideMaps Go.Shelf Go.Sort Go.Proofs.YtnlanemldapfiaaGreat.Tb
set_option linter.unusedVariables false

/-- a total's cells -/
structure TotAt (w : World) (g o : Nat) (x : Tot) : Prop where
  c0 : w.cell? ⟨g, o, none⟩ = some (strE x.1)
  c1 : w.cell? ⟨g, o + 1, none⟩ = some (.int .i64 x.2.1)
  c2 : w.cell? ⟨g, o + 2, none⟩ = some (.int .i64 x.2.2)
theorem TotAt.later {w w' : World} {g o : Nat} {x : Tot} (h : TotAt w g o x) (t : Turn (fun _ => False) w w') : TotAt w' g o x := ⟨turn_cell t h.c0, turn_cell t h.c1, turn_cell t h.c2⟩
def TotC (w : World) (s : Option Addr) (T : List Tot) : Prop := 0 < T.length → ∃ g, s = some ⟨g, 0, none⟩ ∧ ∀ (i : Nat) (x : Tot), T[i]? = some x → TotAt w g (i * 3) x
theorem TotC.later {w w' : World} {s : Option Addr} {T : List Tot} (h : TotC w s T) (t : Turn (fun _ => False) w w') : TotC w' s T := fun h0 => by
  obtain ⟨g, e, hx⟩ := h h0
  exact ⟨g, e, fun i x hi => (hx i x hi).later t⟩
theorem TotR.toC {w : World} {v : Value} {T : List Tot} (h : TotR w v T) : ∃ s cap, v = .slice s T.length cap ∧ TotC w s T := by
  obtain ⟨sp, cap, e, hx⟩ := h
  refine ⟨sp, cap, e, fun h0 => ?_⟩
  obtain ⟨g, e2, h2⟩ := hx h0
  exact ⟨g, e2, fun i x hi => ⟨(h2 i x hi).1, (h2 i x hi).2.1, (h2 i x hi).2.2⟩⟩

/-- totals, or none where there is no such time -/
def totsOf (t : Tr Key Val) (acc : List UInt8) (fr til : Int) : List Tot := if faultE acc fr til = 0 then totalsOf (evsOf t acc fr til) else []

/-- what Totals answers -/
def TotsA (w : World) (c : Int) (T : List Tot) (r : Ending) (w' : World) : Prop := ∃ s cap, r = .returned (.tuple #[.slice s T.length cap, .int .i64 c]) ∧ TotC w' s T ∧ Turn (fun _ => False) w w'

theorem totals_any {w : World} {mp rep : Nat} {t : Tr Key Val} (h : MetR w mp t rep) (hE : ∀ x ∈ t.list.map Prod.snd, EvIn x) (hct : t.count ≤ 1000) (acc : List UInt8) (ha : acc.length ≤ 281474976710656) (fr til : Int) :
    Calls Tryz.prog 10 #[.pointer (some ⟨mp, 0, none⟩), strE acc, .int .i64 fr, .int .i64 til] w (TotsA w (faultE acc fr til) (totsOf t acc fr til)) := by
  unfold TotsA totsOf
  by_cases hc : faultE acc fr til = 0
  · rw [if_pos hc, hc]
    refine (totals_ok h hE hct acc ha fr til hc).mono ?_
    rintro r w' ⟨v, rfl, hv, tt⟩
    obtain ⟨s, cap, rfl, hs⟩ := hv.toC
    exact ⟨s, cap, rfl, hs, tt⟩
  · rw [if_neg hc]
    refine (totals_bad mp acc ha fr til rfl hc w).mono ?_
    rintro r w' ⟨rfl, tt⟩
    exact ⟨none, 0, rfl, fun h0 => by simp at h0, tt⟩

theorem kept_in {t : Tr Key Val} {l ys : List Ev} (h : Kept t (l ++ ys)) (hy : ∀ y ∈ ys, y ∈ l) (hs : ∀ x ∈ l, EvIn x) : ∀ x ∈ t.list.map Prod.snd, EvIn x := by
  intro x hx
  obtain ⟨p, hp, rfl⟩ := List.mem_map.1 hx
  rcases List.mem_append.1 (h.from_ p hp).2.1 with h1 | h1
  · exact hs _ h1
  · exact hs _ (hy _ h1)

theorem tots_same {a b : Tr Key Val} {l ys : List Ev} (ha : Kept a (l ++ ys)) (hy : ∀ y ∈ ys, y ∈ l) (hb : Kept b l.reverse) (hal : Alike l) (acc : List UInt8) (fr til : Int) : totsOf a acc fr til = totsOf b acc fr til := by
  have hm : ∀ x, x ∈ l ++ ys ↔ x ∈ l := fun x => ⟨fun h => (List.mem_append.1 h).elim id (hy x), fun h => List.mem_append.2 (.inl h)⟩
  have e : a.list = b.list := ha.same hb (fun x hx y hy' he => hal x ((hm x).1 hx) y ((hm y).1 hy') he) (fun x => by rw [hm, List.mem_reverse])
  unfold totsOf evsOf
  rw [e]

/-- no fault: a time's instants stand in order -/
theorem fault_ok {acc : List UInt8} {fr til : Int} (h : faultE acc fr til = 0) : fr ≤ til := by
  unfold faultE at h
  split at h
  · split at h
    · rename_i h2; exact h2.2.1
    · simp at h
  · simp at h

section
variable {t : Tr Key Val} {L : List Ev} {acc : List UInt8} {fr mid til : Int}

theorem once_sums (h : Kept t L) (hl : L.length ≤ 1000) (h0 : faultE acc fr til = 0) (h1 : faultE acc fr mid = 0) (h2 : faultE acc mid til = 0) {k : Nat} {x : Tot} (hx : (totsOf t acc fr til)[k]? = some x) :
    accQ (totsOf t acc mid til) x.1 (accQ (totsOf t acc fr mid) x.1 0) = x.2.1 ∧ accC (totsOf t acc mid til) x.1 (accC (totsOf t acc fr mid) x.1 0) = x.2.2 := by
  unfold totsOf at hx ⊢
  rw [if_pos h0] at hx
  rw [if_pos h1, if_pos h2]
  unfold totalsOf at hx
  rw [List.getElem?_map, Option.map_eq_some_iff] at hx
  obtain ⟨m, _, rfl⟩ := hx
  exact parts_sum (mild_of h hl acc fr mid) (mild_of h hl acc mid til) (mild_of h hl acc fr til) (fun m => (parts_of _ acc (fault_ok h1) (fault_ok h2) m).1) (fun m => (parts_of _ acc (fault_ok h1) (fault_ok h2) m).2) m

theorem once_fewer (h0 : faultE acc fr til = 0) (h1 : faultE acc fr mid = 0) (h2 : faultE acc mid til = 0) : (totsOf t acc fr mid).length ≤ (totsOf t acc fr til).length ∧ (totsOf t acc mid til).length ≤ (totsOf t acc fr til).length := by
  have k1 := fault_ok h1
  have k2 := fault_ok h2
  unfold totsOf
  rw [if_pos h0, if_pos h1, if_pos h2]
  constructor
  · refine names_fewer fun x hx => ?_
    obtain ⟨h3, h4⟩ := List.mem_filter.1 hx
    simp only [Bool.and_eq_true, decide_eq_true_eq] at h4
    exact List.mem_filter.2 ⟨h3, by simp only [Bool.and_eq_true, decide_eq_true_eq]; exact ⟨h4.1, h4.2.1, by omega⟩⟩
  · refine names_fewer fun x hx => ?_
    obtain ⟨h3, h4⟩ := List.mem_filter.1 hx
    simp only [Bool.and_eq_true, decide_eq_true_eq] at h4
    exact List.mem_filter.2 ⟨h3, by simp only [Bool.and_eq_true, decide_eq_true_eq]; exact ⟨h4.1, by omega, h4.2.2⟩⟩

theorem nodup_small (h : Kept t L) (hl : L.length ≤ 1000) (acc : List UInt8) (fr til : Int) : (totsOf t acc fr til).length ≤ 1000 := by
  unfold totsOf
  split
  · rw [totals_len]
    have h1 := nodup_length (namesOf_nodup (evsOf t acc fr til)) (b := (evsOf t acc fr til).map Ev.met) (fun m hm => (mem_namesOf _ m).1 hm)
    rw [List.length_map] at h1
    have := (mild_of h hl acc fr til).1
    omega
  · exact Nat.zero_le _
end

theorem wr_is (a : Int) : wr a = wrap64 a := IntWalk.i64_left a
theorem accQ_succ {T : List Tot} {j : Nat} {x : Tot} (h : T[j]? = some x) (m : List UInt8) (a : Int) : accQ (T.take (j + 1)) m a = if x.1 = m then wrap64 (accQ (T.take j) m a + x.2.1) else accQ (T.take j) m a := by
  rw [← wr_is]
  rw [List.take_add_one, h]
  unfold accQ
  rw [List.foldl_append]
  rfl
theorem accC_succ {T : List Tot} {j : Nat} {x : Tot} (h : T[j]? = some x) (m : List UInt8) (a : Int) : accC (T.take (j + 1)) m a = if x.1 = m then wrap64 (accC (T.take j) m a + x.2.2) else accC (T.take j) m a := by
  rw [← wr_is]
  rw [List.take_add_one, h]
  unfold accC
  rw [List.foldl_append]
  rfl
end Go.Proofs.YtnlanemldapfiaaGreat.se
