/-
  exref1: At, Used, fails.
-/
import Derived.Test.YtpaekggmphahoaaEMem
import Derived.Lib.Hide
namespace Go.Proofs.Ytpaekggmphahoaa
open Go.RowKit Go.Maps Go.WideMaps
set_option linter.unusedVariables false
set_option linter.unusedSimpArgs false

def atN : FL → List UInt8 → Option Nat
  | [], _ => none
  | x :: r, n => if x.1 = n then some 0 else (atN r n).map (· + 1)
def atI (o : Option Nat) : Int := match o with | none => -1 | some i => (i : Int)
theorem atN_some {L : FL} {n : List UInt8} {i : Nat} (h : atN L n = some i) : ∃ f, L[i]? = some (n, f) ∧ Fsp.find L n = some f := by
  induction L generalizing i with
  | nil => cases h
  | cons x r ih =>
    unfold atN at h
    by_cases hx : x.1 = n
    · rw [if_pos hx] at h
      cases h
      refine ⟨x.2, by rw [← hx]; rfl, by unfold Fsp.find; rw [if_pos hx]⟩
    · rw [if_neg hx] at h
      cases hr : atN r n with
      | none => rw [hr] at h; cases h
      | some j =>
        rw [hr] at h; cases h
        obtain ⟨f, h1, h2⟩ := ih hr
        exact ⟨f, by simpa using h1, by unfold Fsp.find; rw [if_neg hx]; exact h2⟩
theorem atN_none {L : FL} {n : List UInt8} (h : atN L n = none) : Fsp.find L n = none := by
  induction L with
  | nil => rfl
  | cons x r ih =>
    unfold atN at h
    by_cases hx : x.1 = n
    · rw [if_pos hx] at h; cases h
    · rw [if_neg hx] at h
      cases hr : atN r n with
      | none => unfold Fsp.find; rw [if_neg hx]; exact ih hr
      | some j => rw [hr] at h; cases h
theorem atN_hit {L : FL} {n : List UInt8} {k : Nat} {x : List UInt8 × Fsp.File} (h : atN (L.take k) n = none) (hx : L[k]? = some x) (e : x.1 = n) : atN L n = some k := by
  induction L generalizing k with
  | nil => simp at hx
  | cons y r ih =>
    cases k with
    | zero =>
      simp at hx
      unfold atN
      rw [if_pos (by rw [hx]; exact e)]
    | succ k =>
      simp only [List.take_succ_cons] at h
      unfold atN at h ⊢
      by_cases hy : y.1 = n
      · rw [if_pos hy] at h; cases h
      · rw [if_neg hy] at h ⊢
        cases hr : atN (r.take k) n with
        | none => rw [ih hr (by simpa using hx)]; rfl
        | some j => rw [hr] at h; cases h
theorem atN_miss {L : FL} {n : List UInt8} {k : Nat} {x : List UInt8 × Fsp.File} (h : atN (L.take k) n = none) (hx : L[k]? = some x) (e : x.1 ≠ n) : atN (L.take (k + 1)) n = none := by
  induction L generalizing k with
  | nil => simp at hx
  | cons y r ih =>
    cases k with
    | zero =>
      simp at hx
      subst hx
      simp [atN, e]
    | succ k =>
      simp only [List.take_succ_cons] at h ⊢
      unfold atN at h ⊢
      by_cases hy : y.1 = n
      · rw [if_pos hy] at h; cases h
      · rw [if_neg hy] at h ⊢
        cases hr : atN (r.take k) n with
        | none => rw [ih hr (by simpa using hx)]; rfl
        | some j => rw [hr] at h; cases h

theorem toList_beqE (a b : ByteArray) : (a.toList == b.toList) = decide (a.data.toList = b.data.toList) := by
  rw [Bool.eq_iff_iff]
  simp only [beq_iff_eq, decide_eq_true_eq, Lib.toList_data]

section
variable {w : World} {q : Nat} {S : Fsp.Fs} {Q : Nat → Prop} {v : Value} {l : List RF}

theorem RefX.pair (h : RefX w q S Q v l) {i : Nat} {x : RF} (hx : l[i]? = some x) : S.L[i]? = some (x.name, x.f) := by
  rw [h.L, List.getElem?_map, hx]; rfl

set_option maxRecDepth 100000 in
theorem rAt_any (h : RefX w q S Q v l) (s : ByteArray) (hn : l.length ≤ 1000000) : Calls Try.prog 42 #[.pointer (some ⟨q, 0, none⟩), .string s] w fun r w' => r = .returned (.int .i64 (atI (atN S.L s.data.toList))) ∧ w = w' := by
  have c1 := h.cells.c1
  obtain ⟨sp, cap, rfl⟩ := h.form
  have HN := Lib.hid h.n
  have HAT := Lib.hid (fun (i : Nat) (x : RF) (hx : l[i]? = some x) => And.intro (h.at hx) (h.pair hx))
  obtain ⟨n, hle⟩ : ∃ n, n = l.length := ⟨_, rfl⟩
  rw [← hle] at c1 hn
  have HL := Lib.hid hle
  have i0 : (n : Int) ≤ 1000000 := by omega
  clear h hle
  go_enter Try.func42, Try.ntmps42
  go_wp2_with fail
  go_loop [5] (fun i => ∃ k : Nat, k ≤ n ∧ i = .int .i64 (k : Int) ∧ atN (S.L.take k) s.data.toList = none) (fun i => n - (intOf i).toNat)
  case atStart => exact ⟨0, Nat.zero_le _, rfl, rfl⟩
  case round =>
    obtain ⟨k, hk, rfl, hat⟩ := hrel
    have HA := Lib.hid hat
    clear hat
    by_cases hlt : k < n
    · have j1 : (k : Int) < (n : Int) := by omega
      obtain ⟨x, hx⟩ : ∃ x, l[k]? = some x := ⟨_, List.getElem?_eq_getElem (by rw [← HL.out]; exact hlt)⟩
      obtain ⟨⟨g, cap', ev, c2, -, -, -⟩, hp⟩ := HAT.out k x hx
      simp only [Value.slice.injEq] at ev
      obtain ⟨rfl, -, -⟩ := ev
      obtain ⟨nb, hnb⟩ : ∃ nb : ByteArray, nb = ⟨x.name.toArray⟩ := ⟨_, rfl⟩
      have hnd : nb.data.toList = x.name := by rw [hnb]
      have c3 : w.cell? ⟨g, k * 3, none⟩ = some (.string nb) := by rw [hnb]; exact c2
      have q0 := toList_beqE nb s
      rw [hnd] at q0
      clear c2 hnb hnd hx
      by_cases he : x.name = s.data.toList
      · rw [decide_eq_true he] at q0
        have hfin := Lib.hid (atN_hit HA.out hp he)
        clear he hp
        go_wp2_with fail
        go_ret
        exact ⟨by rw [hfin.out]; rfl, rfl⟩
      · rw [decide_eq_false he] at q0
        have hnx := Lib.hid (atN_miss HA.out hp he)
        clear he hp
        go_wp2_with fail
        go_round
        case rel => exact ⟨k + 1, by omega, by go_num, hnx.out⟩
        case measure => simp [intOf]; omega
    · obtain rfl : k = n := by omega
      have hfin := HA.out
      rw [List.take_of_length_le (by rw [HN.out, HL.out]; exact Nat.le_refl _)] at hfin
      have HF := Lib.hid hfin
      clear hfin
      go_wp2_with fail
      go_ret
      exact ⟨by rw [HF.out]; rfl, rfl⟩

theorem rused_take {L : FL} {k : Nat} {x : List UInt8 × Fsp.File} (hx : L[k]? = some x) : Fsp.usedOf (L.take (k + 1)) = Fsp.usedOf (L.take k) + x.2.data.length := by
  induction L generalizing k with
  | nil => simp at hx
  | cons y r ih =>
    cases k with
    | zero => simp at hx; subst hx; simp [Fsp.usedOf]
    | succ k =>
      simp only [List.take_succ_cons, Fsp.usedOf]
      rw [ih (by simpa using hx)]; omega
theorem rused_take_le (L : FL) (k : Nat) : Fsp.usedOf (L.take k) ≤ Fsp.usedOf L := by
  induction L generalizing k with
  | nil => simp
  | cons y r ih =>
    cases k with
    | zero => simp [Fsp.usedOf]
    | succ k =>
      simp only [List.take_succ_cons, Fsp.usedOf]
      have := ih k; omega

set_option maxRecDepth 100000 in
theorem rUsed_any (h : RefX w q S Q v l) (hn : l.length ≤ 1000000) (hu : Fsp.usedOf S.L ≤ 67108864) : Calls Try.prog 46 #[.pointer (some ⟨q, 0, none⟩)] w fun r w' => r = .returned (.int .i64 (Fsp.usedOf S.L : Nat)) ∧ w = w' := by
  have c1 := h.cells.c1
  obtain ⟨sp, cap, rfl⟩ := h.form
  have HN := Lib.hid h.n
  have HAT := Lib.hid (fun (i : Nat) (x : RF) (hx : l[i]? = some x) => And.intro (h.at hx) (And.intro (h.pair hx) (h.data i x hx).toR))
  have HU := Lib.hid (fun k => rused_take_le S.L k)
  obtain ⟨n, hle⟩ : ∃ n, n = l.length := ⟨_, rfl⟩
  rw [← hle] at c1 hn
  have HL := Lib.hid hle
  have i0 : (n : Int) ≤ 1000000 := by omega
  clear h hle
  go_enter Try.func46, Try.ntmps46
  go_wp2_with fail
  go_loop [3, 4] (fun u i => ∃ k : Nat, k ≤ n ∧ i = .int .i64 (k : Int) ∧ u = .int .i64 ((Fsp.usedOf (S.L.take k) : Nat) : Int)) (fun _ i => n - (intOf i).toNat)
  case atStart => exact ⟨0, Nat.zero_le _, rfl, by simp [Fsp.usedOf]⟩
  case round =>
    obtain ⟨k, hk, rfl, rfl⟩ := hrel
    by_cases hlt : k < n
    · have j1 : (k : Int) < (n : Int) := by omega
      obtain ⟨x, hx⟩ : ∃ x, l[k]? = some x := ⟨_, List.getElem?_eq_getElem (by rw [← HL.out]; exact hlt)⟩
      obtain ⟨⟨g, cap', ev, -, c2, -, -⟩, hp, hd⟩ := HAT.out k x hx
      simp only [Value.slice.injEq] at ev
      obtain ⟨rfl, -, -⟩ := ev
      obtain ⟨sd, cd, hdv, -⟩ := hd
      rw [hdv] at c2
      have hstep := rused_take hp
      have h1 := HU.out (k + 1)
      obtain ⟨u, hu0⟩ : ∃ u, u = Fsp.usedOf (S.L.take k) := ⟨_, rfl⟩
      obtain ⟨d, hd0⟩ : ∃ d, d = x.f.data.length := ⟨_, rfl⟩
      simp only at hstep
      rw [← hu0, ← hd0] at hstep
      rw [← hd0] at c2
      rw [← hu0]
      have hb : (u : Int) + (d : Int) ≤ 67108864 := by omega
      have b0 : (0 : Int) ≤ (u : Int) := by omega
      have b1 : (0 : Int) ≤ (d : Int) := by omega
      have HS := Lib.hid hstep
      clear hp hdv hstep h1 hu0 hd0 hx
      go_wp2_with fail
      go_round
      case rel => exact ⟨k + 1, by omega, by go_num, by rw [HS.out]; push_cast; rfl⟩
      case measure => simp [intOf]; omega
    · obtain rfl : k = n := by omega
      rw [List.take_of_length_le (by rw [HN.out, HL.out]; exact Nat.le_refl _)]
      go_wp2_with fail
      go_ret
      exact ⟨rfl, rfl⟩
end
end Go.Proofs.Ytpaekggmphahoaa
