/-
  PARTS: SRow, SSwap, SOne, SLast.
-/
import Derived.Test.YtdhkpkojnokjdaaDoorJBase
import Derived.Test.YtdhkpkojnokjdaaDoorSPure
import Derived.Shelf.RegionOpenPlain
import Derived.BigRegion
/-
  A row of places in a block of its own; two ranges of it swapped, by slices' own function.
-/
namespace Go.Proofs.YtdhkpkojnokjdaaDoor
open Go.RowKit Go.Shelf
set_option linter.unusedVariables false
set_option linter.unusedSimpArgs false

theorem Only.drewN {a b : World} (h : Only a b) (n : Nat) : Only a (b.drewN n) := ⟨h.os, h.tape, h.output, h.size, h.block⟩

def arrN (l : List Nat) : Array Value := (l.map fun i : Nat => Value.int .i64 (i : Int)).toArray
/-- block g holds the places l, and nothing else -/
def Row (w : World) (g : Nat) (l : List Nat) : Prop := ∃ ty, w.heap[g]? = some (.cells (arrN l) ty)

theorem Row.lt {w : World} {g : Nat} {l : List Nat} (h : Row w g l) : g < w.heap.size := by
  obtain ⟨ty, h⟩ := h; exact (Array.getElem?_eq_some_iff.1 h).1
theorem Row.cell {w : World} {g : Nat} {l : List Nat} (h : Row w g l) {i : Nat} (hi : i < l.length) : w.cell? ⟨g, i, none⟩ = some (.int .i64 (l[i] : Nat)) := by
  obtain ⟨ty, h⟩ := h
  simp [World.cell?, h, arrN, hi]
theorem Row.free {w : World} {g : Nat} {l : List Nat} (h : Row w g l) (j : Nat) : w.frozen? ⟨g, j, none⟩ = false := by
  obtain ⟨ty, h⟩ := h; simp [World.frozen?, h]
theorem Row.only {w w' : World} {g : Nat} {l : List Nat} (h : Row w g l) (t : Only w w') : Row w' g l := by
  have := h.lt
  obtain ⟨ty, h⟩ := h
  exact ⟨ty, (t.block g this).trans h⟩
theorem Row.drew {w : World} {g : Nat} {l : List Nat} (h : Row w g l) : Row w.drew g l := h
theorem Row.set {w : World} {g : Nat} {l : List Nat} (h : Row w g l) (i x : Nat) : Row (w.setCell ⟨g, i, none⟩ (.int .i64 (x : Int))) g (l.set i x) := by
  obtain ⟨ty, h⟩ := h
  refine ⟨ty, (heap_setCell_same h _).trans ?_⟩
  simp [arrN, List.map_set]

/-- two ranges of n places swapped -/
def swpIx (a b n i : Nat) : Nat := if a ≤ i ∧ i < a + n then i - a + b else if b ≤ i ∧ i < b + n then i - b + a else i
def swp (l : List Nat) (a b n : Nat) : List Nat := (List.range l.length).map fun i => l[swpIx a b n i]?.getD 0

theorem swp_length (l : List Nat) (a b n : Nat) : (swp l a b n).length = l.length := by simp [swp]
theorem swp_get (l : List Nat) (a b n i : Nat) (hi : i < (swp l a b n).length) : (swp l a b n)[i] = l[swpIx a b n i]?.getD 0 := by
  simp [swp]
theorem swp_zero (l : List Nat) (a b : Nat) : swp l a b 0 = l := by
  refine List.ext_getElem (swp_length ..) fun i h1 h2 => ?_
  rw [swp_get, show swpIx a b 0 i = i by unfold swpIx; rw [if_neg (by omega), if_neg (by omega)], List.getElem?_eq_getElem h2]; rfl
theorem swp_step (l : List Nat) {a b k : Nat} (hab : a + k < b) (hb : b + k < l.length) (h1 : b + k < (swp l a b k).length) (h2 : a + k < (swp l a b k).length) :
    ((swp l a b k).set (a + k) (swp l a b k)[b + k]).set (b + k) (swp l a b k)[a + k] = swp l a b (k + 1) := by
  refine List.ext_getElem (by simp [swp_length]) fun i h3 h4 => ?_
  simp only [List.getElem_set, swp_get]
  by_cases e1 : b + k = i
  · subst e1
    rw [if_pos rfl, show swpIx a b k (a + k) = swpIx a b (k + 1) (b + k) by unfold swpIx; rw [if_neg (by omega), if_neg (by omega), if_neg (by omega), if_pos (by omega)]; omega]
  · rw [if_neg e1]
    by_cases e2 : a + k = i
    · subst e2
      rw [if_pos rfl, show swpIx a b k (b + k) = swpIx a b (k + 1) (a + k) by unfold swpIx; rw [if_neg (by omega), if_neg (by omega), if_pos (by omega)]; omega]
    · rw [if_neg e2]
      congr 2
      unfold swpIx
      by_cases e3 : a ≤ i ∧ i < a + k
      · rw [if_pos e3, if_pos (by omega)]
      · rw [if_neg e3, if_neg (by omega : ¬ (a ≤ i ∧ i < a + (k + 1)))]
        by_cases e4 : b ≤ i ∧ i < b + k
        · rw [if_pos e4, if_pos (by omega)]
        · rw [if_neg e4, if_neg (by omega)]

theorem behind {α : Type} (A R : List α) (j : Nat) : (A ++ R)[A.length + j]? = R[j]? := by
  rw [List.getElem?_append_right (by omega)]
  congr 1; omega
theorem front {α : Type} {A R : List α} {j : Nat} (h : j < A.length) : (A ++ R)[j]? = A[j]? := List.getElem?_append_left h

theorem swp_parts (A U M V B : List Nat) (hv : V.length = U.length) : swp (A ++ (U ++ (M ++ (V ++ B)))) A.length (A.length + (U.length + M.length)) U.length = A ++ (V ++ (M ++ (U ++ B))) := by
  refine List.ext_getElem (by simp [swp_length]; omega) fun i h1 h2 => ?_
  rw [swp_get]
  suffices h : (A ++ (U ++ (M ++ (V ++ B))))[swpIx A.length (A.length + (U.length + M.length)) U.length i]? = (A ++ (V ++ (M ++ (U ++ B))))[i]? by
    rw [h, List.getElem?_eq_getElem h2]; rfl
  simp only [List.length_append] at h2
  unfold swpIx
  by_cases c1 : i < A.length
  · rw [if_neg (by omega), if_neg (by omega), front c1, front c1]
  · obtain ⟨j, rfl⟩ : ∃ j, i = A.length + j := ⟨i - A.length, by omega⟩
    by_cases c2 : j < U.length
    · rw [if_pos (by omega), show A.length + j - A.length + (A.length + (U.length + M.length)) = A.length + (U.length + (M.length + j)) by omega, behind, behind, behind, behind, front (by omega), front (by omega)]
    · obtain ⟨j, rfl⟩ : ∃ k, j = U.length + k := ⟨j - U.length, by omega⟩
      rw [if_neg (by omega)]
      by_cases c3 : j < M.length
      · rw [if_neg (by omega), behind, behind, behind, ← hv, behind, front c3, front c3]
      · obtain ⟨j, rfl⟩ : ∃ k, j = M.length + k := ⟨j - M.length, by omega⟩
        by_cases c4 : j < U.length
        · rw [if_pos (by omega), show A.length + (U.length + (M.length + j)) - (A.length + (U.length + M.length)) + A.length = A.length + j by omega, behind, behind, front c4, ← hv, behind, behind, front c4]
        · obtain ⟨j, rfl⟩ : ∃ k, j = U.length + k := ⟨j - U.length, by omega⟩
          rw [if_neg (by omega), behind, behind, behind]
          have e1 : (V ++ B)[U.length + j]? = B[j]? := by rw [← hv, behind]
          have e2 : (V ++ (M ++ (U ++ B)))[U.length + (M.length + (U.length + j))]? = B[j]? := by rw [← hv, behind, behind, hv, behind]
          rw [e1, behind, e2]
end Go.Proofs.YtdhkpkojnokjdaaDoor

/-
  slices.swapRangeCmpFunc and rotateCmpFunc over a row of places.
-/
namespace Go.Proofs.YtdhkpkojnokjdaaDoor
open Go.RowKit Go.Shelf
set_option linter.unusedVariables false
set_option linter.unusedSimpArgs false

set_option maxRecDepth 100000 in
set_option maxHeartbeats 3200000 in
theorem swapRange_any {w0 w : World} {g : Nat} {l : List Nat} (hr : Row w g l) (t : Only w0 w) (hg : w0.heap.size ≤ g) {a b n cap : Nat} (hab : a + n ≤ b) (hb : b + n ≤ l.length) (hl : l.length ≤ 1000000) (f : Value) :
    Calls Tryd.prog 87 #[.slice (some ⟨g, 0, none⟩) l.length cap, .int .i64 a, .int .i64 b, .int .i64 n, f] w fun e w' => e = .returned (.tuple #[]) ∧ Row w' g (swp l a b n) ∧ Only w0 w' := by
  have il : (l.length : Int) ≤ 1000000 := by omega
  have hmix : Tryd.prog.follows .mixedOrders = true := by kernel_rfl
  have HR := Lib.hid hr
  have HT := Lib.hid t
  clear hr t
  go_enter Tryd.func87, Tryd.ntmps87
  go_wp2_with fail
  go_loopw [10] (fun i x => ∃ k : Nat, k ≤ n ∧ i = .int .i64 k ∧ Row x g (swp l a b k) ∧ Only w0 x) (fun i _ => n - (intOf i).toNat)
  case atStart => exact ⟨0, Nat.zero_le _, rfl, by rw [swp_zero]; exact HR.out, HT.out⟩
  case round =>
    obtain ⟨k, hk, rfl, hrow, ht⟩ := hrel
    by_cases hlt : k < n
    · have j1 : (k : Int) < (n : Int) := by omega
      have j2 : (0 : Int) ≤ (a : Int) + (k : Int) := by omega
      have j3 : (0 : Int) ≤ (b : Int) + (k : Int) := by omega
      have j4 : (a : Int) + (k : Int) < (l.length : Int) := by omega
      have j5 : (b : Int) + (k : Int) < (l.length : Int) := by omega
      have hla : a + k < (swp l a b k).length := by rw [swp_length]; omega
      have hlb : b + k < (swp l a b k).length := by rw [swp_length]; omega
      have c1 := hrow.cell hla
      have c2 := hrow.cell hlb
      have f1 := hrow.free (a + k)
      have f2 := hrow.free (b + k)
      have st := swp_step l (by omega : a + k < b) (by omega) hlb hla
      obtain ⟨x, hx⟩ : ∃ x, x = (swp l a b k)[a + k] := ⟨_, rfl⟩
      obtain ⟨y, hy⟩ : ∃ y, y = (swp l a b k)[b + k] := ⟨_, rfl⟩
      obtain ⟨L, hL⟩ : ∃ L, L = swp l a b k := ⟨_, rfl⟩
      rw [← hx] at c1 st
      rw [← hy] at c2 st
      rw [← hL] at hrow st
      obtain ⟨p, hp⟩ : ∃ p, p = a + k := ⟨_, rfl⟩
      obtain ⟨r, hr⟩ : ∃ r, r = b + k := ⟨_, rfl⟩
      have e0 : ((a : Int) + (k : Int)).toNat = p := by omega
      have e1 : ((b : Int) + (k : Int)).toNat = r := by omega
      have e2 : p ≠ r := by omega
      rw [← hp] at c1 f1 st
      rw [← hr] at c2 f2 st
      have HROW := Lib.hid hrow
      have HT2 := Lib.hid ht
      have ST := Lib.hid st
      have HNE := Lib.hid e2
      have hk1 : k + 1 ≤ n := hlt
      clear hx hy hL hp hr hrow ht st hla hlb
      go_wp2_with fail
      go_big_region_o
      all_goals go_wp2
      go_roundw
      case rel => exact ⟨k + 1, hk1, by push_cast; rfl, by rw [← ST.out]; exact (HROW.out.drew.set p y).set r x, ((HT2.out.drew).set hg _ _).set hg _ _⟩
      case measure => simp [intOf]; omega
    · have hk0 : k = n := by omega
      subst hk0
      have HR2 := Lib.hid hrow
      have HT2 := Lib.hid ht
      clear hrow ht hlt
      go_wp2_with fail
      go_end0
      exact ⟨rfl, HR2.out, HT2.out⟩

theorem swapped {w0 w : World} {g : Nat} {A U M V B : List Nat} (hr : Row w g (A ++ (U ++ (M ++ (V ++ B))))) (t : Only w0 w) (hg : w0.heap.size ≤ g) (hv : V.length = U.length) {N : Nat} (hN : N = (A ++ (U ++ (M ++ (V ++ B)))).length) (hl : N ≤ 1000000) {a b n : Int} (ha : a = A.length) (hb : b = A.length + (U.length + M.length)) (hn : n = U.length) {cap : Nat} (f : Value) :
    Calls Tryd.prog 87 #[.slice (some ⟨g, 0, none⟩) N cap, .int .i64 a, .int .i64 b, .int .i64 n, f] w fun e w' => e = .returned (.tuple #[]) ∧ Row w' g (A ++ (V ++ (M ++ (U ++ B)))) ∧ Only w0 w' := by
  subst hN ha hn
  have hb' : b = ((A.length + (U.length + M.length) : Nat) : Int) := by push_cast; exact hb
  subst hb'
  have := swapRange_any (cap := cap) hr t hg (a := A.length) (b := A.length + (U.length + M.length)) (n := U.length) (by omega) (by simp only [List.length_append]; omega) hl f
  rw [swp_parts A U M V B hv] at this
  exact this

set_option maxRecDepth 100000 in
set_option maxHeartbeats 1600000 in
/-- two neighbours turned: U, V become V, U -/
theorem rotate_any {w0 w : World} {g : Nat} {A U V B : List Nat} (hr : Row w g (A ++ (U ++ (V ++ B)))) (t : Only w0 w) (hg : w0.heap.size ≤ g) (hu : U ≠ []) (hv : V ≠ []) {N : Nat} (hN : N = (A ++ (U ++ (V ++ B))).length) (hl : N ≤ 1000000) {a m b : Int} (ha : a = A.length) (hm : m = A.length + U.length) (hb : b = A.length + U.length + V.length) {cap : Nat} (f : Value) :
    Calls Tryd.prog 86 #[.slice (some ⟨g, 0, none⟩) N cap, .int .i64 a, .int .i64 m, .int .i64 b, f] w fun e w' => e = .returned (.tuple #[]) ∧ Row w' g (A ++ (V ++ (U ++ B))) ∧ Only w0 w' := by
  have hN' : A.length + (U.length + (V.length + B.length)) = N := by rw [hN]; simp
  have hu1 : 0 < U.length := List.length_pos_iff.2 hu
  have hv1 : 0 < V.length := List.length_pos_iff.2 hv
  obtain ⟨M, hM⟩ : ∃ M : Nat, M = A.length + U.length := ⟨_, rfl⟩
  have hm' : m = (M : Int) := by omega
  have ei : (M : Int) - (A.length : Int) = (U.length : Int) := by omega
  have ej : b - (M : Int) = (V.length : Int) := by omega
  subst hm' ha
  have iM : (M : Int) ≤ 1000000 := by omega
  have ib : b ≤ 1000000 := by omega
  have ib0 : 0 ≤ b := by omega
  have HR := Lib.hid hr
  have HT := Lib.hid t
  have HHM := Lib.hid hM
  have HHN := Lib.hid hN'
  have HB := Lib.hid hb
  clear hr t hN hM hm hN' hu hv hb
  obtain ⟨al, hal⟩ : ∃ al : Nat, al = A.length := ⟨_, rfl⟩
  rw [← hal] at ei ⊢
  clear hal
  go_enter Tryd.func86, Tryd.ntmps86
  go_wp2_with fail
  go_loopw [10, 11] (fun i j x => ∃ A2 U2 V2 B2 : List Nat, i = .int .i64 U2.length ∧ j = .int .i64 V2.length ∧ A2.length + U2.length = M ∧ 0 < U2.length ∧ 0 < V2.length ∧ Row x g (A2 ++ (U2 ++ (V2 ++ B2))) ∧ Hid (A2 ++ (V2 ++ (U2 ++ B2)) = A ++ (V ++ (U ++ B))) ∧ Only w0 x) (fun i j _ => (intOf i).toNat + (intOf j).toNat)
  case atStart => exact ⟨A, U, V, B, rfl, rfl, HHM.out.symm, hu1, hv1, HR.out, Lib.hid rfl, HT.out⟩
  case round =>
    obtain ⟨A2, U2, V2, B2, rfl, rfl, hM2, hu2, hv2, hrow, heq, ht⟩ := hrel
    have hlen : A2.length + (U2.length + (V2.length + B2.length)) = N := by
      have := congrArg List.length heq.out
      simp only [List.length_append] at this
      have := HHN.out
      omega
    have e1 : (M : Int) - (U2.length : Int) = (A2.length : Int) := by omega
    by_cases hgt : V2.length < U2.length
    · have k1 : (V2.length : Int) < (U2.length : Int) := by omega
      have k2 : ¬ (U2.length : Int) = (V2.length : Int) := by omega
      have hU : U2 = U2.take V2.length ++ U2.drop V2.length := (List.take_append_drop _ _).symm
      have hl1 : (U2.take V2.length).length = V2.length := by rw [List.length_take]; omega
      have hl2 : (U2.drop V2.length).length = U2.length - V2.length := List.length_drop ..
      obtain ⟨P, hP⟩ : ∃ P, P = U2.take V2.length := ⟨_, rfl⟩
      obtain ⟨Q, hQ⟩ : ∃ Q, Q = U2.drop V2.length := ⟨_, rfl⟩
      rw [← hP, ← hQ] at hU
      rw [← hP] at hl1
      rw [← hQ] at hl2
      have hrow2 : Row wr g (A2 ++ (P ++ (Q ++ (V2 ++ B2)))) := by rw [hU] at hrow; simpa using hrow
      have SW := Lib.hid (swapped (cap := cap) hrow2 ht hg (by omega : V2.length = P.length) (N := N) (by simp only [List.length_append]; omega) hl (a := (A2.length : Int)) (b := (M : Int)) (n := (V2.length : Int)) rfl (by omega) (by omega) f)
      have e2 : (U2.length : Int) - (V2.length : Int) = (Q.length : Int) := by omega
      have HE := Lib.hid (show (A2 ++ V2) ++ (P ++ (Q ++ B2)) = A ++ (V ++ (U ++ B)) by rw [← heq.out, hU]; simp)
      have hM3 : (A2 ++ V2).length + Q.length = M := by simp; omega
      have q1 : 0 < Q.length := by omega
      have q2 : 0 < P.length := by omega
      have q3 : Q.length + P.length < U2.length + V2.length := by omega
      have q4 := Lib.hid (show (V2.length : Int) = (P.length : Int) by omega)
      clear hrow hrow2 hP hQ hU heq ht hl1 hl2
      go_wp2_with fail
      refine SW.out.mono ?_
      rintro r w2 ⟨rfl, hr2, ht2⟩
      go_wp2_with fail
      go_roundw
      case rel => exact ⟨A2 ++ V2, Q, P, B2, rfl, by rw [← q4.out], hM3, q1, q2, by simpa using hr2, HE, ht2⟩
      case measure => simp [intOf]; omega
    · by_cases hlt : U2.length < V2.length
      · have k1 : ¬ (V2.length : Int) < (U2.length : Int) := by omega
        have k2 : ¬ (U2.length : Int) = (V2.length : Int) := by omega
        obtain ⟨c, hc⟩ : ∃ c, c = V2.length - U2.length := ⟨_, rfl⟩
        have hV : V2 = V2.take c ++ V2.drop c := (List.take_append_drop _ _).symm
        have hl1 : (V2.take c).length = c := by rw [List.length_take]; omega
        have hl2 : (V2.drop c).length = V2.length - c := List.length_drop ..
        obtain ⟨P, hP⟩ : ∃ P, P = V2.take c := ⟨_, rfl⟩
        obtain ⟨Q, hQ⟩ : ∃ Q, Q = V2.drop c := ⟨_, rfl⟩
        rw [← hP, ← hQ] at hV
        rw [← hP] at hl1
        rw [← hQ] at hl2
        have hrow2 : Row wr g (A2 ++ (U2 ++ (P ++ (Q ++ B2)))) := by rw [hV] at hrow; simpa using hrow
        have SW := Lib.hid (swapped (cap := cap) hrow2 ht hg (by omega : Q.length = U2.length) (N := N) (by simp only [List.length_append]; omega) hl (a := (A2.length : Int)) (b := (M : Int) + (V2.length : Int) - (U2.length : Int)) (n := (U2.length : Int)) rfl (by omega) rfl f)
        have e2 : (V2.length : Int) - (U2.length : Int) = (P.length : Int) := by omega
        have HE := Lib.hid (show A2 ++ (P ++ (Q ++ (U2 ++ B2))) = A ++ (V ++ (U ++ B)) by rw [← heq.out, hV]; simp)
        have hM3 : A2.length + Q.length = M := by omega
        have q1 : 0 < Q.length := by omega
        have q2 : 0 < P.length := by omega
        have q3 : Q.length + P.length < U2.length + V2.length := by omega
        have q4 := Lib.hid (show (U2.length : Int) = (Q.length : Int) by omega)
        clear hrow hrow2 hP hQ hV heq ht hl1 hl2 hc
        go_wp2_with fail
        refine SW.out.mono ?_
        rintro r w2 ⟨rfl, hr2, ht2⟩
        go_wp2_with fail
        go_roundw
        case rel => exact ⟨A2, Q, P, U2 ++ B2, by rw [← q4.out], rfl, hM3, q1, q2, by simpa using hr2, HE, ht2⟩
        case measure => simp [intOf]; omega
      · have he : U2.length = V2.length := by omega
        have k2 : (U2.length : Int) = (V2.length : Int) := by omega
        have SW := Lib.hid (swapped (cap := cap) (M := []) (show Row wr g (A2 ++ (U2 ++ ([] ++ (V2 ++ B2)))) from hrow) ht hg he.symm (N := N) (by simp only [List.length_append, List.length_nil]; omega) hl (a := (A2.length : Int)) (b := (M : Int)) (n := (V2.length : Int)) rfl (by simp; omega) (by omega) f)
        rw [k2] at e1
        clear hrow ht hgt hlt
        go_wp2_with fail
        refine SW.out.mono ?_
        rintro r w2 ⟨rfl, hr2, ht2⟩
        go_wp2_with fail
        go_end0
        exact ⟨rfl, by rw [← heq.out]; exact hr2, ht2⟩
end Go.Proofs.YtdhkpkojnokjdaaDoor

/-
  slices.symMergeCmpFunc where the first run is one thing.
-/
namespace Go.Proofs.YtdhkpkojnokjdaaDoor
open Go.RowKit Go.Shelf Sorted
set_option linter.unusedVariables false
set_option linter.unusedSimpArgs false

/-- what is asked of the order's function: its answer is cf, and it leaves all as it was -/
def CmpIs (w0 : World) (caps : Value) (n : Nat) (cf : Nat → Nat → Int) : Prop :=
  ∀ (W : World) (x y : Nat), Only w0 W → x < n → y < n → Calls Tryd.prog 61 #[.int .i64 x, .int .i64 y, caps] W fun e w' => e = .returned (.int .i64 (cf x y)) ∧ ∃ k, w' = W.drewN k
/-- less, as its answer says it -/
def lessOf (cf : Nat → Nat → Int) (x y : Nat) : Bool := decide (cf x y < 0)

theorem Row.at {w : World} {g : Nat} {l : List Nat} (h : Row w g l) {i v : Nat} (hi : l[i]? = some v) : w.cell? ⟨g, i, none⟩ = some (.int .i64 (v : Int)) := by
  obtain ⟨h1, h2⟩ := List.getElem?_eq_some_iff.1 hi
  rw [h.cell h1, h2]
theorem two_at (P Q : List Nat) (u v : Nat) : (P ++ u :: v :: Q)[P.length]? = some u ∧ (P ++ u :: v :: Q)[P.length + 1]? = some v := by
  constructor
  · exact behind P (u :: v :: Q) 0
  · exact behind P (u :: v :: Q) 1
theorem swap_two (P Q : List Nat) (u v : Nat) : ((P ++ u :: v :: Q).set P.length v).set (P.length + 1) u = P ++ v :: u :: Q := by
  rw [List.set_append_right _ _ (Nat.le_refl _), Nat.sub_self, List.set_cons_zero, List.set_append_right _ _ (by omega), show P.length + 1 - P.length = 1 by omega, List.set_cons_succ, List.set_cons_zero]

set_option maxRecDepth 100000 in
set_option maxHeartbeats 1600000 in
theorem symOne_any {w0 w : World} {g n : Nat} {cf : Nat → Nat → Int} (hw : Weak (lessOf cf)) {caps : Value} (hc : CmpIs w0 caps n cf) {A Y B : List Nat} {x : Nat} (hr : Row w g (A ++ (x :: (Y ++ B)))) (t : Only w0 w) (hg : w0.heap.size ≤ g) (hy : Y.Pairwise (byT (lessOf cf))) (hx : ∀ y ∈ Y, x < y) (hn : ∀ i ∈ x :: Y, i < n)
    {N : Nat} (hN : N = (A ++ (x :: (Y ++ B))).length) (hl : N ≤ 1000000) {a m b : Int} (ha : a = A.length) (hm : m = A.length + 1) (hb : b = A.length + 1 + Y.length) {cap : Nat} :
    Calls Tryd.prog 83 #[.slice (some ⟨g, 0, none⟩) N cap, .int .i64 a, .int .i64 m, .int .i64 b, .func (.func 61) #[] #[caps]] w fun e w' => e = .returned (.tuple #[]) ∧ Row w' g (A ++ (srt (byT (lessOf cf)) (x :: Y) ++ B)) ∧ Only w0 w' := by
  obtain ⟨al, hal⟩ : ∃ al : Nat, al = A.length := ⟨_, rfl⟩
  obtain ⟨yl, hyl⟩ : ∃ yl : Nat, yl = Y.length := ⟨_, rfl⟩
  rw [← hal] at ha hm hb
  rw [← hyl] at hb
  subst ha hm hb
  have hN' : al + (1 + (yl + B.length)) = N := by rw [hN]; simp; omega
  have i1 : (al : Int) + 1 - (al : Int) = 1 := by omega
  have i2 : (N : Int) ≤ 1000000 := by omega
  have i3 : (al : Int) + 1 + (yl : Int) ≤ (N : Int) := by omega
  have i4 : (0 : Int) ≤ (al : Int) := by omega
  have i5 : (0 : Int) ≤ (yl : Int) := by omega
  have HAL := Lib.hid hal
  have HYL := Lib.hid hyl
  have HN := Lib.hid hN'
  have HR := Lib.hid hr
  have HT := Lib.hid t
  clear hN hN' hal hyl hr t
  go_enter Tryd.func83, Tryd.ntmps83
  go_wp2_with fail
  go_loopw [10, 11, 12] (fun i j _ wx => ∃ s u : Nat, s ≤ u ∧ u ≤ yl ∧ i = .int .i64 ((al + 1 + s : Nat) : Int) ∧ j = .int .i64 ((al + 1 + u : Nat) : Int) ∧ Hid (s = 0 ∨ ∃ q : s - 1 < Y.length, lessOf cf Y[s - 1] x = true) ∧ Hid (u = yl ∨ ∃ q : u < Y.length, lessOf cf Y[u] x = false) ∧ Row wx g (A ++ (x :: (Y ++ B))) ∧ Only w0 wx) (fun i j _ _ => (intOf j - intOf i).toNat)
  case atStart => exact ⟨0, yl, by omega, Nat.le_refl _, by push_cast; simp, by push_cast; rfl, Lib.hid (Or.inl rfl), Lib.hid (Or.inl rfl), HR.out, HT.out⟩
  case round =>
    obtain ⟨s, u, hsu, huy, rfl, rfl, h1, h2, hrow, ht⟩ := hrel
    obtain ⟨lo, hlo⟩ : ∃ lo : Nat, lo = al + 1 + s := ⟨_, rfl⟩
    obtain ⟨hi, hhi⟩ : ∃ hi : Nat, hi = al + 1 + u := ⟨_, rfl⟩
    rw [← hlo, ← hhi]
    have HLO := Lib.hid hlo
    have HHI := Lib.hid hhi
    by_cases hlt : s < u
    · have k1 : (lo : Int) < (hi : Int) := by omega
      obtain ⟨h, hh⟩ : ∃ h : Nat, h = (lo + hi) / 2 := ⟨_, rfl⟩
      have k2 : ((lo : Int) + (hi : Int)) / 2 = (h : Int) := by omega
      have k3 : (hi : Int) ≤ 1000000 := by omega
      have k4 : (h : Int) < (N : Int) := by omega
      have k5 : (al : Int) < (N : Int) := by omega
      have HROW := Lib.hid hrow
      have HT2 := Lib.hid ht
      have HH := Lib.hid hh
      have q1 : h < (A ++ (x :: (Y ++ B))).length := by have := HN.out; have := HAL.out; have := HYL.out; simp only [List.length_append, List.length_cons]; omega
      have q2 : al < (A ++ (x :: (Y ++ B))).length := by have := HN.out; have := HAL.out; have := HYL.out; simp only [List.length_append, List.length_cons]; omega
      have p0 : h - (al + 1) < Y.length := by have := HYL.out; omega
      have c1 := hrow.cell q1
      have c2 := hrow.cell q2
      have v1 : (A ++ (x :: (Y ++ B)))[h] = Y[h - (al + 1)] := by
        have e : h = A.length + (1 + (h - (al + 1))) := by have := HAL.out; omega
        have e2 : (A ++ (x :: (Y ++ B)))[h]? = Y[h - (al + 1)]? := by
          rw [show (A ++ (x :: (Y ++ B)))[h]? = (A ++ (x :: (Y ++ B)))[A.length + (1 + (h - (al + 1)))]? by rw [← e], behind, Nat.add_comm 1, List.getElem?_cons_succ, front p0]
        rw [List.getElem?_eq_getElem q1, List.getElem?_eq_getElem p0] at e2
        exact Option.some.inj e2
      have v2 : (A ++ (x :: (Y ++ B)))[al] = x := by
        have e2 : (A ++ (x :: (Y ++ B)))[al]? = some x := by
          rw [show (A ++ (x :: (Y ++ B)))[al]? = (A ++ (x :: (Y ++ B)))[A.length + 0]? by rw [HAL.out]; rfl, behind]; rfl
        rw [List.getElem?_eq_getElem q2] at e2
        exact Option.some.inj e2
      rw [v1] at c1
      rw [v2] at c2
      obtain ⟨z, hz⟩ : ∃ z, z = Y[h - (al + 1)] := ⟨_, rfl⟩
      rw [← hz] at c1
      have hzn : z < n := hn z (by rw [hz]; exact List.mem_cons_of_mem _ (List.getElem_mem _))
      have hxn : x < n := hn x (List.mem_cons_self ..)
      have HC := fun k : Nat => hc (wr.drewN k) z x (Only.drewN ht k) hzn hxn
      have HZ := Lib.hid hz
      have HC := Lib.hid HC
      have P0 := Lib.hid p0
      clear hlo hhi hrow ht hh v1 v2 hz q1 q2 hzn hxn
      by_cases hcf : cf z x < 0
      · have d1 : decide (cf z x < 0) = true := by simpa using hcf
        go_wp2_with fail
        go_quiet ((first | (go_at_call 61; with_reducible exact Calls.quiet_of (HC.out _)) | fail))
        go_wp2_with fail
        go_roundw
        case rel => exact ⟨h + 1 - (al + 1), u, by have := HLO.out; have := HHI.out; have := HH.out; omega, huy, by congr 1; have := HLO.out; have := HHI.out; have := HH.out; omega, by rw [HHI.out], Lib.hid (Or.inr ⟨by have := P0.out; omega, by have e : h + 1 - (al + 1) - 1 = h - (al + 1) := (by omega); simp only [e, ← HZ.out]; exact d1⟩), h2, HROW.out, Only.drewN HT2.out _⟩
        case measure => simp [intOf]; omega
      · have d1 : decide (cf z x < 0) = false := by simpa using hcf
        go_wp2_with fail
        go_quiet ((first | (go_at_call 61; with_reducible exact Calls.quiet_of (HC.out _)) | fail))
        go_wp2_with fail
        go_roundw
        case rel => exact ⟨s, h - (al + 1), by have := HLO.out; have := HHI.out; have := HH.out; omega, by have := HLO.out; have := HHI.out; have := HH.out; omega, by rw [HLO.out], by congr 1; have := HLO.out; have := HHI.out; have := HH.out; omega, h1, Lib.hid (Or.inr ⟨P0.out, by simp only [← HZ.out]; exact d1⟩), HROW.out, Only.drewN HT2.out _⟩
        case measure => simp [intOf]; omega
    · have hus : u = s := by omega
      subst hus
      have HROW := Lib.hid hrow
      have HT2 := Lib.hid ht
      have k1 : ¬ (lo : Int) < (hi : Int) := by omega
      clear hlo hhi hrow ht
      have SO := Lib.hid (srt_one (strict_by hw) (Y := Y) (x := x) hy (t := u) (by have := HYL.out; omega) (by
        rcases h1.out with e | ⟨q, e⟩
        · exact Or.inl e
        · exact Or.inr ⟨q, Or.inl e⟩) (by
        rcases h2.out with e | ⟨q, e⟩
        · exact Or.inl (by rw [e, HYL.out])
        · exact Or.inr ⟨q, (by_cross hw (hx _ (List.getElem_mem q))).1.2 e⟩)).1
      have HUY := Lib.hid huy
      obtain ⟨top, htop⟩ : ∃ top : Nat, top = al + u := ⟨_, rfl⟩
      have k5 : (lo : Int) - 1 = (top : Int) := by have := HLO.out; omega
      have k6 : (lo : Int) ≤ 1000000 := by have := HLO.out; omega
      have HTOP := Lib.hid htop
      clear huy h1 h2 hsu htop
      go_wp2_with fail
      go_loopw [13] (fun i wx => ∃ c : Nat, c ≤ u ∧ i = .int .i64 ((al + c : Nat) : Int) ∧ Row wx g (A ++ (Y.take c ++ x :: (Y.drop c ++ B))) ∧ Only w0 wx) (fun i _ => top - (intOf i).toNat)
      case atStart => exact ⟨0, Nat.zero_le _, by simp, by simpa using HROW.out, HT2.out⟩
      case round =>
        clear HROW HT2
        obtain ⟨c, hcu, rfl, hrow, ht⟩ := hrel
        obtain ⟨p, hp⟩ : ∃ p : Nat, p = al + c := ⟨_, rfl⟩
        rw [← hp]
        by_cases hcl : c < u
        · have d1 : (p : Int) < (top : Int) := by have := HTOP.out; omega
          have hcY : c < Y.length := by have := HYL.out; have := HUY.out; omega
          have d2 : (p : Int) + 1 < (N : Int) := by have := HN.out; have := HYL.out; omega
          have d3 : (p : Int) < (N : Int) := by omega
          obtain ⟨r, hr⟩ : ∃ r : Nat, r = p + 1 := ⟨_, rfl⟩
          have e0 : ((p : Int) + 1).toNat = r := by omega
          have e2 : p ≠ r := by omega
          have hd : Y.drop c = Y[c] :: Y.drop (c + 1) := List.drop_eq_getElem_cons hcY
          have htk : Y.take (c + 1) = Y.take c ++ [Y[c]] := by rw [List.take_add_one, List.getElem?_eq_getElem hcY]; rfl
          obtain ⟨y, hy1⟩ : ∃ y, y = Y[c] := ⟨_, rfl⟩
          rw [← hy1] at hd htk
          have hrow2 : Row wr g ((A ++ Y.take c) ++ x :: y :: (Y.drop (c + 1) ++ B)) := by rw [hd] at hrow; simpa using hrow
          have hpl : p = (A ++ Y.take c).length := by rw [List.length_append, List.length_take]; have := HAL.out; omega
          have c1 := hrow2.at (i := p) (v := x) (by rw [hpl]; exact (two_at _ _ _ _).1)
          have c2 := hrow2.at (i := r) (v := y) (by rw [hr, hpl]; exact (two_at _ _ _ _).2)
          have f1 := hrow2.free p
          have f2 := hrow2.free r
          have ST := Lib.hid (show (((A ++ Y.take c) ++ x :: y :: (Y.drop (c + 1) ++ B)).set p y).set r x = A ++ (Y.take (c + 1) ++ x :: (Y.drop (c + 1) ++ B)) by
            rw [hr, hpl, swap_two, htk]; simp)
          have HROW := Lib.hid hrow2
          have HT2 := Lib.hid ht
          have HNE := Lib.hid e2
          have HP := Lib.hid hp
          have HRR := Lib.hid hr
          have hc1 : c + 1 ≤ u := hcl
          have hmix : Tryd.prog.follows .mixedOrders = true := by kernel_rfl
          clear hp hr hrow hrow2 ht hd htk hy1 hpl
          go_wp2_with fail
          go_big_region_o
          all_goals go_wp2
          go_roundw
          case rel => exact ⟨c + 1, hc1, by congr 1; have := HP.out; omega, by rw [← ST.out]; exact (HROW.out.drew.set p y).set r x, ((HT2.out.drew).set hg _ _).set hg _ _⟩
          case measure => simp [intOf]; omega
        · have hcu2 : c = u := by omega
          subst hcu2
          have d1 : ¬ (p : Int) < (top : Int) := by have := HTOP.out; omega
          have HROW := Lib.hid hrow
          have HT2 := Lib.hid ht
          clear hp hrow ht hcl
          go_wp2_with fail
          (try simp only [Exit.inBlock, Exit.then])
          refine bodyPost_ret (results_none rfl _ _ _) rfl ?_
          exact ⟨rfl, by rw [← SO.out]; simpa using HROW.out, HT2.out⟩
end Go.Proofs.YtdhkpkojnokjdaaDoor

/-
  slices.symMergeCmpFunc where the second run is one thing.
-/
namespace Go.Proofs.YtdhkpkojnokjdaaDoor
open Go.RowKit Go.Shelf Sorted
set_option linter.unusedVariables false
set_option linter.unusedSimpArgs false

set_option maxRecDepth 100000 in
set_option maxHeartbeats 1600000 in
theorem symLast_any {w0 w : World} {g n : Nat} {cf : Nat → Nat → Int} (hw : Weak (lessOf cf)) {caps : Value} (hc : CmpIs w0 caps n cf) {A X B : List Nat} {y : Nat} (hr : Row w g (A ++ (X ++ (y :: B)))) (t : Only w0 w) (hg : w0.heap.size ≤ g) (hx2 : X.length ≠ 1) (hy : X.Pairwise (byT (lessOf cf))) (hx : ∀ x ∈ X, x < y) (hn : ∀ i ∈ y :: X, i < n)
    {N : Nat} (hN : N = (A ++ (X ++ (y :: B))).length) (hl : N ≤ 1000000) {a m b : Int} (ha : a = A.length) (hm : m = A.length + X.length) (hb : b = A.length + X.length + 1) {cap : Nat} :
    Calls Tryd.prog 83 #[.slice (some ⟨g, 0, none⟩) N cap, .int .i64 a, .int .i64 m, .int .i64 b, .func (.func 61) #[] #[caps]] w fun e w' => e = .returned (.tuple #[]) ∧ Row w' g (A ++ (srt (byT (lessOf cf)) (X ++ [y]) ++ B)) ∧ Only w0 w' := by
  obtain ⟨al, hal⟩ : ∃ al : Nat, al = A.length := ⟨_, rfl⟩
  obtain ⟨yl, hyl⟩ : ∃ yl : Nat, yl = X.length := ⟨_, rfl⟩
  rw [← hal] at ha hm hb
  rw [← hyl] at hb hm hx2
  subst ha hm hb
  have hN' : al + (1 + (yl + B.length)) = N := by rw [hN]; simp; omega
  have i1 : (al : Int) + (yl : Int) - (al : Int) = (yl : Int) := by omega
  have i6 : ¬ (yl : Int) = 1 := by omega
  have i8 : ((yl : Int) == 1) = false := by rw [beq_eq_false_iff_ne]; exact i6
  have i7 : (al : Int) + (yl : Int) + 1 - ((al : Int) + (yl : Int)) = 1 := by omega
  have i2 : (N : Int) ≤ 1000000 := by omega
  have i3 : (al : Int) + (yl : Int) + 1 ≤ (N : Int) := by omega
  have i4 : (0 : Int) ≤ (al : Int) := by omega
  have i5 : (0 : Int) ≤ (yl : Int) := by omega
  have HAL := Lib.hid hal
  have HYL := Lib.hid hyl
  have HN := Lib.hid hN'
  have HR := Lib.hid hr
  have HT := Lib.hid t
  have HX2 := Lib.hid hx2
  clear hN hN' hal hyl hr t hx2
  go_enter Tryd.func83, Tryd.ntmps83
  go_wp2_with fail
  go_loopw [14, 15, 16] (fun i j _ wx => ∃ s u : Nat, s ≤ u ∧ u ≤ yl ∧ i = .int .i64 ((al + s : Nat) : Int) ∧ j = .int .i64 ((al + u : Nat) : Int) ∧ Hid (s = 0 ∨ ∃ q : s - 1 < X.length, lessOf cf y X[s - 1] = false) ∧ Hid (u = yl ∨ ∃ q : u < X.length, lessOf cf y X[u] = true) ∧ Row wx g (A ++ (X ++ (y :: B))) ∧ Only w0 wx) (fun i j _ _ => (intOf j - intOf i).toNat)
  case atStart => exact ⟨0, yl, by omega, Nat.le_refl _, by push_cast; simp, by push_cast; rfl, Lib.hid (Or.inl rfl), Lib.hid (Or.inl rfl), HR.out, HT.out⟩
  case round =>
    obtain ⟨s, u, hsu, huy, rfl, rfl, h1, h2, hrow, ht⟩ := hrel
    obtain ⟨lo, hlo⟩ : ∃ lo : Nat, lo = al + s := ⟨_, rfl⟩
    obtain ⟨hi, hhi⟩ : ∃ hi : Nat, hi = al + u := ⟨_, rfl⟩
    rw [← hlo, ← hhi]
    have HLO := Lib.hid hlo
    have HHI := Lib.hid hhi
    by_cases hlt : s < u
    · have k1 : (lo : Int) < (hi : Int) := by omega
      obtain ⟨h, hh⟩ : ∃ h : Nat, h = (lo + hi) / 2 := ⟨_, rfl⟩
      have k2 : ((lo : Int) + (hi : Int)) / 2 = (h : Int) := by omega
      have k3 : (hi : Int) ≤ 1000000 := by omega
      have k4 : (h : Int) < (N : Int) := by omega
      have k5 : (al : Int) + (yl : Int) < (N : Int) := by omega
      have k7 : ((al : Int) + (yl : Int)).toNat = al + yl := by omega
      have HROW := Lib.hid hrow
      have HT2 := Lib.hid ht
      have HH := Lib.hid hh
      have p0 : h - al < X.length := by have := HYL.out; omega
      have w1 : (A ++ (X ++ (y :: B)))[h]? = some X[h - al] := by
        have e : h = A.length + (h - al) := by have := HAL.out; omega
        rw [show (A ++ (X ++ (y :: B)))[h]? = (A ++ (X ++ (y :: B)))[A.length + (h - al)]? by rw [← e], behind, front p0, List.getElem?_eq_getElem p0]
      have w2 : (A ++ (X ++ (y :: B)))[al + yl]? = some y := by
        rw [HAL.out, HYL.out, behind]
        exact behind X (y :: B) 0
      have c1 := hrow.at w1
      have c2 := hrow.at w2
      obtain ⟨md, hmd⟩ : ∃ md, md = al + yl := ⟨_, rfl⟩
      rw [← hmd] at c2 k7
      obtain ⟨z, hz⟩ : ∃ z, z = X[h - al] := ⟨_, rfl⟩
      rw [← hz] at c1
      have hzn : z < n := hn z (by rw [hz]; exact List.mem_cons_of_mem _ (List.getElem_mem _))
      have hyn : y < n := hn y (List.mem_cons_self ..)
      have HC := fun k : Nat => hc (wr.drewN k) y z (Only.drewN ht k) hyn hzn
      have HZ := Lib.hid hz
      have HC := Lib.hid HC
      have P0 := Lib.hid p0
      clear hlo hhi hrow ht hh w1 w2 hz hzn hyn hmd
      by_cases hcf : cf y z < 0
      · have d1 : decide (cf y z < 0) = true := by simpa using hcf
        go_wp2_with fail
        go_quiet ((first | (go_at_call 61; with_reducible exact Calls.quiet_of (HC.out _)) | fail))
        go_wp2_with fail
        go_roundw
        case rel => exact ⟨s, h - al, by have := HLO.out; have := HHI.out; have := HH.out; omega, by have := HLO.out; have := HHI.out; have := HH.out; omega, by rw [HLO.out], by congr 1; have := HLO.out; have := HHI.out; have := HH.out; omega, h1, Lib.hid (Or.inr ⟨P0.out, by simp only [← HZ.out]; exact d1⟩), HROW.out, Only.drewN HT2.out _⟩
        case measure => simp [intOf]; omega
      · have d1 : decide (cf y z < 0) = false := by simpa using hcf
        go_wp2_with fail
        go_quiet ((first | (go_at_call 61; with_reducible exact Calls.quiet_of (HC.out _)) | fail))
        go_wp2_with fail
        go_roundw
        case rel => exact ⟨h + 1 - al, u, by have := HLO.out; have := HHI.out; have := HH.out; omega, huy, by congr 1; have := HLO.out; have := HHI.out; have := HH.out; omega, by rw [HHI.out], Lib.hid (Or.inr ⟨by have := P0.out; omega, by have e : h + 1 - al - 1 = h - al := (by omega); simp only [e, ← HZ.out]; exact d1⟩), h2, HROW.out, Only.drewN HT2.out _⟩
        case measure => simp [intOf]; omega
    · have hus : u = s := by omega
      subst hus
      have HROW := Lib.hid hrow
      have HT2 := Lib.hid ht
      have k1 : ¬ (lo : Int) < (hi : Int) := by omega
      have SO := Lib.hid (srt_one (strict_by hw) (Y := X) (x := y) hy (t := u) (by have := HYL.out; omega) (by
        rcases h1.out with e | ⟨q, e⟩
        · exact Or.inl e
        · exact Or.inr ⟨q, (by_cross hw (hx _ (List.getElem_mem q))).1.2 e⟩) (by
        rcases h2.out with e | ⟨q, e⟩
        · exact Or.inl (by rw [e, HYL.out])
        · exact Or.inr ⟨q, Or.inl e⟩)).2
      have HUY := Lib.hid huy
      have k6 : (lo : Int) ≤ 1000000 := by have := HLO.out; omega
      clear huy h1 h2 hsu hlo hhi hrow ht
      go_wp2_with fail
      go_loopw [17] (fun i wx => ∃ c : Nat, u ≤ c ∧ c ≤ yl ∧ i = .int .i64 ((al + c : Nat) : Int) ∧ Row wx g (A ++ (X.take c ++ y :: (X.drop c ++ B))) ∧ Only w0 wx) (fun i _ => (intOf i).toNat)
      case atStart => exact ⟨yl, by have := HUY.out; omega, Nat.le_refl _, by push_cast; rfl, by rw [HYL.out, List.take_length, List.drop_length]; simpa using HROW.out, HT2.out⟩
      case round =>
        clear HROW HT2
        obtain ⟨c, hcu, hcy, rfl, hrow, ht⟩ := hrel
        by_cases hcl : u < c
        · obtain ⟨c, rfl⟩ : ∃ e, c = e + 1 := ⟨c - 1, by omega⟩
          obtain ⟨p, hp⟩ : ∃ p : Nat, p = al + c := ⟨_, rfl⟩
          rw [show ((al + (c + 1) : Nat) : Int) = (p : Int) + 1 by omega]
          have d1 : (lo : Int) < (p : Int) + 1 := by have := HLO.out; omega
          have hcY : c < X.length := by have := HYL.out; omega
          have d2 : (p : Int) + 1 < (N : Int) := by have := HN.out; omega
          have d3 : (p : Int) < (N : Int) := by omega
          obtain ⟨r, hr⟩ : ∃ r : Nat, r = p + 1 := ⟨_, rfl⟩
          have e0 : ((p : Int) + 1).toNat = r := by omega
          have e2 : p ≠ r := by omega
          have hd : X.drop c = X[c] :: X.drop (c + 1) := List.drop_eq_getElem_cons hcY
          have htk : X.take (c + 1) = X.take c ++ [X[c]] := by rw [List.take_add_one, List.getElem?_eq_getElem hcY]; rfl
          obtain ⟨z, hz⟩ : ∃ z, z = X[c] := ⟨_, rfl⟩
          rw [← hz] at hd htk
          have hrow2 : Row wr g ((A ++ X.take c) ++ z :: y :: (X.drop (c + 1) ++ B)) := by rw [htk] at hrow; simpa using hrow
          have hpl : p = (A ++ X.take c).length := by rw [List.length_append, List.length_take]; have := HAL.out; omega
          have c1 := hrow2.at (i := p) (v := z) (by rw [hpl]; exact (two_at _ _ _ _).1)
          have c2 := hrow2.at (i := r) (v := y) (by rw [hr, hpl]; exact (two_at _ _ _ _).2)
          have f1 := hrow2.free p
          have f2 := hrow2.free r
          have ST := Lib.hid (show (((A ++ X.take c) ++ z :: y :: (X.drop (c + 1) ++ B)).set r z).set p y = A ++ (X.take c ++ y :: (X.drop c ++ B)) by
            rw [List.set_comm _ _ (by omega : r ≠ p), hr, hpl, swap_two, hd]; simp)
          have HROW := Lib.hid hrow2
          have HT2 := Lib.hid ht
          have HNE := Lib.hid e2
          have HP := Lib.hid hp
          have hc1 : u ≤ c := by omega
          have hc2 : c ≤ yl := by omega
          have hmix : Tryd.prog.follows .mixedOrders = true := by kernel_rfl
          clear hp hr hrow hrow2 ht hd htk hz hpl hcu hcy hcl
          go_wp2_with fail
          go_big_region_o
          all_goals go_wp2
          go_roundw
          case rel => exact ⟨c, hc1, hc2, by congr 1; have := HP.out; omega, by rw [← ST.out]; exact (HROW.out.drew.set r z).set p y, ((HT2.out.drew).set hg _ _).set hg _ _⟩
          case measure => simp [intOf]
        · have hcu2 : c = u := by omega
          subst hcu2
          have d1 : ¬ (lo : Int) < ((al + c : Nat) : Int) := by have := HLO.out; omega
          have HROW := Lib.hid hrow
          have HT2 := Lib.hid ht
          obtain ⟨p, hp⟩ : ∃ p : Nat, p = al + c := ⟨_, rfl⟩
          rw [← hp] at d1 ⊢
          clear hp hrow ht hcl hcu hcy
          go_wp2_with fail
          (try simp only [Exit.inBlock, Exit.then])
          refine bodyPost_ret (results_none rfl _ _ _) rfl ?_
          exact ⟨rfl, by rw [← SO.out]; simpa using HROW.out, HT2.out⟩
end Go.Proofs.YtdhkpkojnokjdaaDoor
