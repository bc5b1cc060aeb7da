/-
  slices.swapRangeCmpFunc and rotateCmpFunc over a row of places.
-/
import Derived.Test.YtnlanemldapfiaaGreatV5Row
import Derived.Shelf.RegionOpenPlain
import Derived.BigRegion
import Derived.Lib.Hide
namespace Go.Proofs.YtnlanemldapfiaaGreat.st
open Go.RowKit Go.Shelf Go.Proofs.YtnlanemldapfiaaGreat.se Go.Proofs.YtnlanemldapfiaaGreat.Tb
set_option linter.unusedVariables false
set_option linter.unusedSimpArgs false

set_option maxRecDepth 100000 in
set_option maxHeartbeats 3200000 in
theorem swapRange_any {E : Nat → Ev} {w0 w : World} {g : Nat} {l : List Nat} (hr : Row E w g l) (t : Only w0 w) (hg : w0.heap.size ≤ g) {a b n cap : Nat} (hab : a + n ≤ b) (hb : b + n ≤ l.length) (hl : l.length ≤ 1000000) (f : Value) :
    Calls Tryz.prog 130 #[.slice (some ⟨g, 0, none⟩) l.length cap, .int .i64 a, .int .i64 b, .int .i64 n, f] w fun e w' => e = .returned (.tuple #[]) ∧ Row E w' g (swp l a b n) ∧ Only w0 w' := by
  have il : (l.length : Int) ≤ 1000000 := by omega
  have hmix : Tryz.prog.follows .mixedOrders = true := by kernel_rfl
  have HR := Lib.hid hr
  have HT := Lib.hid t
  clear hr t
  go_enter Tryz.func130, Tryz.ntmps130
  go_wp2_with fail
  go_loopw [10] (fun i x => ∃ k : Nat, k ≤ n ∧ i = .int .i64 k ∧ Row E x g (swp l a b k) ∧ Only w0 x) (fun i _ => n - (intOf i).toNat)
  case atStart => exact ⟨0, Nat.zero_le _, rfl, by rw [swp_zero]; exact HR.out, HT.out⟩
  case round =>
    obtain ⟨k, hk, rfl, hrow, ht⟩ := hrel
    by_cases hlt : k < n
    · have j1 : (k : Int) < (n : Int) := by omega
      have j2 : (0 : Int) ≤ (a : Int) + (k : Int) := by omega
      have j3 : (0 : Int) ≤ (b : Int) + (k : Int) := by omega
      have j4 : (a : Int) + (k : Int) < (l.length : Int) := by omega
      have j5 : (b : Int) + (k : Int) < (l.length : Int) := by omega
      have hla : a + k < (swp l a b k).length := by rw [swp_length]; omega
      have hlb : b + k < (swp l a b k).length := by rw [swp_length]; omega
      have c1 := hrow.cell hla
      have c2 := hrow.cell hlb
      have f1 := hrow.free (a + k)
      have f2 := hrow.free (b + k)
      have st := swp_step l (by omega : a + k < b) (by omega) hlb hla
      obtain ⟨x, hx⟩ : ∃ x, x = (swp l a b k)[a + k] := ⟨_, rfl⟩
      obtain ⟨y, hy⟩ : ∃ y, y = (swp l a b k)[b + k] := ⟨_, rfl⟩
      obtain ⟨L, hL⟩ : ∃ L, L = swp l a b k := ⟨_, rfl⟩
      rw [← hx] at c1 st
      rw [← hy] at c2 st
      rw [← hL] at hrow st
      obtain ⟨p, hp⟩ : ∃ p, p = a + k := ⟨_, rfl⟩
      obtain ⟨r, hr⟩ : ∃ r, r = b + k := ⟨_, rfl⟩
      have e0 : ((a : Int) + (k : Int)).toNat = p := by omega
      have e1 : ((b : Int) + (k : Int)).toNat = r := by omega
      have e2 : p ≠ r := by omega
      rw [← hp] at c1 f1 st
      rw [← hr] at c2 f2 st
      have HROW := Lib.hid hrow
      have HT2 := Lib.hid ht
      have ST := Lib.hid st
      have HNE := Lib.hid e2
      have hk1 : k + 1 ≤ n := hlt
      clear hx hy hL hp hr hrow ht st hla hlb
      obtain ⟨c10, c11, c12, c13, c14⟩ := c1
      obtain ⟨c20, c21, c22, c23, c24⟩ := c2
      have fz := HROW.out.free
      obtain ⟨ex, hex⟩ : ∃ ex, E x = ex := ⟨_, rfl⟩
      obtain ⟨ey, hey⟩ : ∃ ey, E y = ey := ⟨_, rfl⟩
      rw [hex] at c10 c11 c12 c13 c14
      rw [hey] at c20 c21 c22 c23 c24
      have KEY := Lib.hid (HROW.out.two HT2.out hg p y r x hex hey)
      clear hex hey
      go_wp2_with fail
      go_big_region_o
      rw [twoW_eq]
      obtain ⟨W5, hW5⟩ : ∃ W5, twoW wr g p r ey ex = W5 := ⟨_, rfl⟩
      rw [hW5] at KEY ⊢
      clear hW5 c10 c11 c12 c13 c14 c20 c21 c22 c23 c24 fz
      go_wp2
      go_roundw
      case rel => exact ⟨k + 1, hk1, by push_cast; rfl, by rw [← ST.out]; exact KEY.out.1, KEY.out.2⟩
      case measure => simp [intOf]; omega
    · have hk0 : k = n := by omega
      subst hk0
      have HR2 := Lib.hid hrow
      have HT2 := Lib.hid ht
      clear hrow ht hlt
      go_wp2_with fail
      go_end0
      exact ⟨rfl, HR2.out, HT2.out⟩

theorem swapped {E : Nat → Ev} {w0 w : World} {g : Nat} {A U M V B : List Nat} (hr : Row E w g (A ++ (U ++ (M ++ (V ++ B))))) (t : Only w0 w) (hg : w0.heap.size ≤ g) (hv : V.length = U.length) {N : Nat} (hN : N = (A ++ (U ++ (M ++ (V ++ B)))).length) (hl : N ≤ 1000000) {a b n : Int} (ha : a = A.length) (hb : b = A.length + (U.length + M.length)) (hn : n = U.length) {cap : Nat} (f : Value) :
    Calls Tryz.prog 130 #[.slice (some ⟨g, 0, none⟩) N cap, .int .i64 a, .int .i64 b, .int .i64 n, f] w fun e w' => e = .returned (.tuple #[]) ∧ Row E w' g (A ++ (V ++ (M ++ (U ++ B)))) ∧ Only w0 w' := by
  subst hN ha hn
  have hb' : b = ((A.length + (U.length + M.length) : Nat) : Int) := by push_cast; exact hb
  subst hb'
  have := swapRange_any (cap := cap) hr t hg (a := A.length) (b := A.length + (U.length + M.length)) (n := U.length) (by omega) (by simp only [List.length_append]; omega) hl f
  rw [swp_parts A U M V B hv] at this
  exact this

set_option maxRecDepth 100000 in
set_option maxHeartbeats 1600000 in
/-- two neighbours turned: U, V become V, U -/
theorem rotate_any {E : Nat → Ev} {w0 w : World} {g : Nat} {A U V B : List Nat} (hr : Row E w g (A ++ (U ++ (V ++ B)))) (t : Only w0 w) (hg : w0.heap.size ≤ g) (hu : U ≠ []) (hv : V ≠ []) {N : Nat} (hN : N = (A ++ (U ++ (V ++ B))).length) (hl : N ≤ 1000000) {a m b : Int} (ha : a = A.length) (hm : m = A.length + U.length) (hb : b = A.length + U.length + V.length) {cap : Nat} (f : Value) :
    Calls Tryz.prog 124 #[.slice (some ⟨g, 0, none⟩) N cap, .int .i64 a, .int .i64 m, .int .i64 b, f] w fun e w' => e = .returned (.tuple #[]) ∧ Row E w' g (A ++ (V ++ (U ++ B))) ∧ Only w0 w' := by
  have hN' : A.length + (U.length + (V.length + B.length)) = N := by rw [hN]; simp
  have hu1 : 0 < U.length := List.length_pos_iff.2 hu
  have hv1 : 0 < V.length := List.length_pos_iff.2 hv
  obtain ⟨M, hM⟩ : ∃ M : Nat, M = A.length + U.length := ⟨_, rfl⟩
  have hm' : m = (M : Int) := by omega
  have ei : (M : Int) - (A.length : Int) = (U.length : Int) := by omega
  have ej : b - (M : Int) = (V.length : Int) := by omega
  subst hm' ha
  have iM : (M : Int) ≤ 1000000 := by omega
  have ib : b ≤ 1000000 := by omega
  have ib0 : 0 ≤ b := by omega
  have HR := Lib.hid hr
  have HT := Lib.hid t
  have HHM := Lib.hid hM
  have HHN := Lib.hid hN'
  have HB := Lib.hid hb
  clear hr t hN hM hm hN' hu hv hb
  obtain ⟨al, hal⟩ : ∃ al : Nat, al = A.length := ⟨_, rfl⟩
  rw [← hal] at ei ⊢
  clear hal
  go_enter Tryz.func124, Tryz.ntmps124
  go_wp2_with fail
  go_loopw [10, 11] (fun i j x => ∃ A2 U2 V2 B2 : List Nat, i = .int .i64 U2.length ∧ j = .int .i64 V2.length ∧ A2.length + U2.length = M ∧ 0 < U2.length ∧ 0 < V2.length ∧ Row E x g (A2 ++ (U2 ++ (V2 ++ B2))) ∧ Hid (A2 ++ (V2 ++ (U2 ++ B2)) = A ++ (V ++ (U ++ B))) ∧ Only w0 x) (fun i j _ => (intOf i).toNat + (intOf j).toNat)
  case atStart => exact ⟨A, U, V, B, rfl, rfl, HHM.out.symm, hu1, hv1, HR.out, Lib.hid rfl, HT.out⟩
  case round =>
    obtain ⟨A2, U2, V2, B2, rfl, rfl, hM2, hu2, hv2, hrow, heq, ht⟩ := hrel
    have hlen : A2.length + (U2.length + (V2.length + B2.length)) = N := by
      have := congrArg List.length heq.out
      simp only [List.length_append] at this
      have := HHN.out
      omega
    have e1 : (M : Int) - (U2.length : Int) = (A2.length : Int) := by omega
    by_cases hgt : V2.length < U2.length
    · have k1 : (V2.length : Int) < (U2.length : Int) := by omega
      have k2 : ¬ (U2.length : Int) = (V2.length : Int) := by omega
      have hU : U2 = U2.take V2.length ++ U2.drop V2.length := (List.take_append_drop _ _).symm
      have hl1 : (U2.take V2.length).length = V2.length := by rw [List.length_take]; omega
      have hl2 : (U2.drop V2.length).length = U2.length - V2.length := List.length_drop ..
      obtain ⟨P, hP⟩ : ∃ P, P = U2.take V2.length := ⟨_, rfl⟩
      obtain ⟨Q, hQ⟩ : ∃ Q, Q = U2.drop V2.length := ⟨_, rfl⟩
      rw [← hP, ← hQ] at hU
      rw [← hP] at hl1
      rw [← hQ] at hl2
      have hrow2 : Row E wr g (A2 ++ (P ++ (Q ++ (V2 ++ B2)))) := by rw [hU] at hrow; simpa using hrow
      have SW := Lib.hid (swapped (cap := cap) hrow2 ht hg (by omega : V2.length = P.length) (N := N) (by simp only [List.length_append]; omega) hl (a := (A2.length : Int)) (b := (M : Int)) (n := (V2.length : Int)) rfl (by omega) (by omega) f)
      have e2 : (U2.length : Int) - (V2.length : Int) = (Q.length : Int) := by omega
      have HE := Lib.hid (show (A2 ++ V2) ++ (P ++ (Q ++ B2)) = A ++ (V ++ (U ++ B)) by rw [← heq.out, hU]; simp)
      have hM3 : (A2 ++ V2).length + Q.length = M := by simp; omega
      have q1 : 0 < Q.length := by omega
      have q2 : 0 < P.length := by omega
      have q3 : Q.length + P.length < U2.length + V2.length := by omega
      have q4 := Lib.hid (show (V2.length : Int) = (P.length : Int) by omega)
      clear hrow hrow2 hP hQ hU heq ht hl1 hl2
      go_wp2_with fail
      refine SW.out.mono ?_
      rintro r w2 ⟨rfl, hr2, ht2⟩
      go_wp2_with fail
      go_roundw
      case rel => exact ⟨A2 ++ V2, Q, P, B2, rfl, by rw [← q4.out], hM3, q1, q2, by simpa using hr2, HE, ht2⟩
      case measure => simp [intOf]; omega
    · by_cases hlt : U2.length < V2.length
      · have k1 : ¬ (V2.length : Int) < (U2.length : Int) := by omega
        have k2 : ¬ (U2.length : Int) = (V2.length : Int) := by omega
        obtain ⟨c, hc⟩ : ∃ c, c = V2.length - U2.length := ⟨_, rfl⟩
        have hV : V2 = V2.take c ++ V2.drop c := (List.take_append_drop _ _).symm
        have hl1 : (V2.take c).length = c := by rw [List.length_take]; omega
        have hl2 : (V2.drop c).length = V2.length - c := List.length_drop ..
        obtain ⟨P, hP⟩ : ∃ P, P = V2.take c := ⟨_, rfl⟩
        obtain ⟨Q, hQ⟩ : ∃ Q, Q = V2.drop c := ⟨_, rfl⟩
        rw [← hP, ← hQ] at hV
        rw [← hP] at hl1
        rw [← hQ] at hl2
        have hrow2 : Row E wr g (A2 ++ (U2 ++ (P ++ (Q ++ B2)))) := by rw [hV] at hrow; simpa using hrow
        have SW := Lib.hid (swapped (cap := cap) hrow2 ht hg (by omega : Q.length = U2.length) (N := N) (by simp only [List.length_append]; omega) hl (a := (A2.length : Int)) (b := (M : Int) + (V2.length : Int) - (U2.length : Int)) (n := (U2.length : Int)) rfl (by omega) rfl f)
        have e2 : (V2.length : Int) - (U2.length : Int) = (P.length : Int) := by omega
        have HE := Lib.hid (show A2 ++ (P ++ (Q ++ (U2 ++ B2))) = A ++ (V ++ (U ++ B)) by rw [← heq.out, hV]; simp)
        have hM3 : A2.length + Q.length = M := by omega
        have q1 : 0 < Q.length := by omega
        have q2 : 0 < P.length := by omega
        have q3 : Q.length + P.length < U2.length + V2.length := by omega
        have q4 := Lib.hid (show (U2.length : Int) = (Q.length : Int) by omega)
        clear hrow hrow2 hP hQ hV heq ht hl1 hl2 hc
        go_wp2_with fail
        refine SW.out.mono ?_
        rintro r w2 ⟨rfl, hr2, ht2⟩
        go_wp2_with fail
        go_roundw
        case rel => exact ⟨A2, Q, P, U2 ++ B2, by rw [← q4.out], rfl, hM3, q1, q2, by simpa using hr2, HE, ht2⟩
        case measure => simp [intOf]; omega
      · have he : U2.length = V2.length := by omega
        have k2 : (U2.length : Int) = (V2.length : Int) := by omega
        have SW := Lib.hid (swapped (cap := cap) (M := []) (show Row E wr g (A2 ++ (U2 ++ ([] ++ (V2 ++ B2)))) from hrow) ht hg he.symm (N := N) (by simp only [List.length_append, List.length_nil]; omega) hl (a := (A2.length : Int)) (b := (M : Int)) (n := (V2.length : Int)) rfl (by simp; omega) (by omega) f)
        rw [k2] at e1
        clear hrow ht hgt hlt
        go_wp2_with fail
        refine SW.out.mono ?_
        rintro r w2 ⟨rfl, hr2, ht2⟩
        go_wp2_with fail
        go_end0
        exact ⟨rfl, by rw [← heq.out]; exact hr2, ht2⟩
end Go.Proofs.YtnlanemldapfiaaGreat.st
