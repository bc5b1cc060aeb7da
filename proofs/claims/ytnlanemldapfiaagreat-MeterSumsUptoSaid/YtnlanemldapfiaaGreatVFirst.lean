/-
  first; few.
-/
import Derived.Test.YtnlanemldapfiaaGreatVTotal
import Derived.Test.YtnlanemldapfiaaGreatVOpen
namespace Go.Proofs.YtnlanemldapfiaaGreat.se
open Go.RowKit Go.Maps Go.WideMaps Go.Shelf Go.Sort Go.Proofs.YtnlanemldapfiaaGreat.Tb
set_option linter.unusedVariables false

theorem num_any (c : Int) (w : World) : Calls Tryz.prog 11 #[.int .i64 c] w fun r w' => r = .returned (.int .i64 c) ∧ w' = w := by
  go_enter Tryz.func11, Tryz.ntmps11
  go_wp2
  go_ret
  exact ⟨rfl, rfl⟩

/-- a new meter -/
theorem newM_any (w : World) : Calls Tryz.prog 8 #[] w fun r w' => r = .returned (.pointer (some ⟨w.heap.size, 0, none⟩)) ∧ MetR w' w.heap.size .nil 0 ∧ Turn (fun _ => False) w w' := by
  refine (new_any w).mono ?_
  rintro r w' ⟨rfl, rfl⟩
  exact ⟨rfl, ⟨⟨trivial, List.Pairwise.nil⟩, none, 0, Nat.le_refl _, heap_alloc_new w _, rfl⟩, turnBox w _⟩

/-- a meter's own turning leaves what was there before it -/
theorem turn_own {w A B : World} {mp : Nat} (h : Turn (fun _ => False) w A) (hw : w.heap.size ≤ mp) (k : Turn (fun b => b = mp) A B) : Turn (fun _ => False) w B :=
  h.trans k (fun j hj e => by omega)

def f1 : Ev := ⟨[107, 49], [97, 99, 109, 101], [99, 97, 108, 108, 115], 5, 10⟩
def f2 : Ev := ⟨[107, 49], [97, 99, 109, 101], [99, 97, 108, 108, 115], 6, 10⟩
abbrev F1 : Tr Key Val := ingT .nil f1
abbrev F2 : Tr Key Val := ingT F1 f1
abbrev F3 : Tr Key Val := ingT F2 f2

theorem f1_in : EvIn f1 := ⟨by decide, by decide, by decide⟩
theorem f2_in : EvIn f2 := ⟨by decide, by decide, by decide⟩
theorem a1 : ingA .nil f1 = ansV false 0 := by kernel_rfl
theorem a2 : ingA F1 f1 = ansV true 0 := by kernel_rfl
theorem a3 : ingA F2 f2 = ansV false 24 := by kernel_rfl
theorem r1 : ingR .nil 0 f1 = 0 := by kernel_rfl
theorem r2 : ingR F1 0 f1 = 1 := by kernel_rfl
theorem r3 : ingR F2 1 f2 = 1 := by kernel_rfl
theorem l3 : F3.list.map Prod.snd = [f1] := by decide +kernel
theorem c3 : F3.count = 1 := by kernel_rfl
theorem e3 : faultE [97, 99, 109, 101] 10 21 = 0 := by decide +kernel
theorem t3 : totalsOf (evsOf F3 [97, 99, 109, 101] 10 21) = [([99, 97, 108, 108, 115], 5, 1)] := by decide +kernel

theorem ing1 (w : World) (mp : Nat) (h : MetR w mp .nil 0) : Calls Tryz.prog 9 #[.pointer (some ⟨mp, 0, none⟩), .agg #[.string ⟨#[107, 49]⟩, .string ⟨#[97, 99, 109, 101]⟩, .string ⟨#[99, 97, 108, 108, 115]⟩, .int .i64 5, .int .i64 10]] w fun r w' => r = .returned (.tuple #[.bool false, .int .i64 0]) ∧ MetR w' mp F1 0 ∧ Turn (fun b => b = mp) w w' := by
  have := ingest_any h (by decide) f1 f1_in
  rw [a1, r1] at this
  exact this
theorem ing2 (w : World) (mp : Nat) (h : MetR w mp F1 0) : Calls Tryz.prog 9 #[.pointer (some ⟨mp, 0, none⟩), .agg #[.string ⟨#[107, 49]⟩, .string ⟨#[97, 99, 109, 101]⟩, .string ⟨#[99, 97, 108, 108, 115]⟩, .int .i64 5, .int .i64 10]] w fun r w' => r = .returned (.tuple #[.bool true, .int .i64 0]) ∧ MetR w' mp F2 1 ∧ Turn (fun b => b = mp) w w' := by
  have := ingest_any h (by decide) f1 f1_in
  rw [a2, r2] at this
  exact this
theorem ing3 (w : World) (mp : Nat) (h : MetR w mp F2 1) : Calls Tryz.prog 9 #[.pointer (some ⟨mp, 0, none⟩), .agg #[.string ⟨#[107, 49]⟩, .string ⟨#[97, 99, 109, 101]⟩, .string ⟨#[99, 97, 108, 108, 115]⟩, .int .i64 6, .int .i64 10]] w fun r w' => r = .returned (.tuple #[.bool false, .int .i64 24]) ∧ MetR w' mp F3 1 ∧ Turn (fun b => b = mp) w w' := by
  have := ingest_any h (by decide) f2 f2_in
  rw [a3, r3] at this
  exact this
theorem tot3 (w : World) (mp : Nat) (h : MetR w mp F3 1) : Calls Tryz.prog 10 #[.pointer (some ⟨mp, 0, none⟩), .string ⟨#[97, 99, 109, 101]⟩, .int .i64 10, .int .i64 21] w fun r w' => ∃ g cap, r = .returned (.tuple #[.slice (some ⟨g, 0, none⟩) 1 cap, .int .i64 0]) ∧ w'.cell? ⟨g, 1, none⟩ = some (.int .i64 5) ∧ Turn (fun _ => False) w w' := by
  have ht := totals_ok h (fun x hx => by rw [l3] at hx; rw [List.mem_singleton.1 hx]; exact f1_in) (by rw [c3]; decide) [97, 99, 109, 101] (by decide) 10 21 e3
  refine ht.mono ?_
  rintro r w' ⟨v, rfl, hv, tt⟩
  rw [t3] at hv
  obtain ⟨sp, cap, rfl, hc⟩ := hv
  obtain ⟨g, rfl, hx⟩ := hc (by decide)
  exact ⟨g, cap, rfl, (hx 0 _ rfl).2.1, tt⟩

set_option maxRecDepth 100000 in
set_option maxHeartbeats 4000000 in
/-- **first** -/
theorem first_any (w : World) : Calls Tryz.prog 6 #[] w fun r w' => r = .returned (.bool true) ∧ Turn (fun _ => False) w w' := by
  have HW := Lib.hid (Nat.le_refl w.heap.size)
  have HN := Lib.hid (newM_any w)
  obtain ⟨mp, hmp⟩ : ∃ mp, w.heap.size = mp := ⟨_, rfl⟩
  rw [hmp] at HN
  have HMP := Lib.hid hmp
  clear hmp
  go_enter Tryz.func6, Tryz.ntmps6
  go_wp2_with (go_at_call 8; refine HN.out.mono ?_; rintro r w1 ⟨rfl, h1, t1⟩)
  have H1 := Lib.hid h1
  have T1 := Lib.hid t1
  clear h1 t1
  go_at_call 9
  refine (ing1 _ _ H1.out).mono ?_
  rintro r w2 ⟨rfl, h2, t2⟩
  have H2 := Lib.hid h2
  have T2 := Lib.hid (turn_own T1.out (by have := HMP.out; omega) t2)
  clear h2 t2 H1 T1
  go_wp2_with fail
  go_at_call 9
  refine (ing2 _ _ H2.out).mono ?_
  rintro r w3 ⟨rfl, h3, t3⟩
  have H3 := Lib.hid h3
  have T3 := Lib.hid (turn_own T2.out (by have := HMP.out; omega) t3)
  clear h3 t3 H2 T2
  go_wp2_with fail
  go_at_call 9
  refine (ing3 _ _ H3.out).mono ?_
  rintro r w4 ⟨rfl, h4, t4⟩
  have H4 := Lib.hid h4
  have T4 := Lib.hid (turn_own T3.out (by have := HMP.out; omega) t4)
  clear h4 t4 H3 T3
  go_wp2_with fail
  go_at_call 10
  refine (tot3 _ _ H4.out).mono ?_
  rintro r w5 ⟨g, cap, rfl, hc, t5⟩
  have H5 := Lib.hid (H4.out.later t5)
  have T5 := Lib.hid (T4.out.trans t5 (fun _ _ q => q))
  have HL := Lib.hid (show Calls Tryz.prog 20 #[.pointer (some ⟨mp, 0, none⟩)] w5 fun r w' => r = .returned (.int .i64 1) ∧ w' = w5 from by
    obtain ⟨_, root, ver, _, hm, hr⟩ := H5.out
    exact mlen_any hm hr (n := 1) c3.symm)
  have HR := Lib.hid (show Calls Tryz.prog 16 #[.pointer (some ⟨mp, 0, none⟩)] w5 fun r w' => r = .returned (.int .i64 1) ∧ w' = w5 from by
    obtain ⟨_, root, ver, _, hm, hr⟩ := H5.out
    exact repeats_any hm)
  clear t5 H4 T4
  go_wp2_with (first | (go_at_call 11; refine (num_any _ _).mono ?_; rintro r w9 ⟨rfl, rfl⟩) | (go_at_call 20; refine HL.out.mono ?_; rintro r w9 ⟨rfl, rfl⟩) | (go_at_call 16; refine HR.out.mono ?_; rintro r w9 ⟨rfl, rfl⟩))
  go_ret
  exact ⟨rfl, T5.out⟩

/-- short names -/
structure Short (x : Ev) : Prop where
  k : x.key.length ≤ 100
  a : x.acc.length ≤ 100
  m : x.met.length ≤ 100

/-- what few answers -/
def FewR (w : World) (l : List Ev) (r : Ending) (w' : World) : Prop := ∃ b : Bool, r = .returned (.bool b) ∧ (b = true → l.length ≤ 200 ∧ ∀ x ∈ l, Short x) ∧ w' = w

set_option maxRecDepth 100000 in
set_option maxHeartbeats 2000000 in
/-- **few**: true only where they are few and short -/
theorem few_any {w : World} {v : Value} {l : List Ev} (h : EvsR w v l) (hl : l.length ≤ 9223372036854775807) (hb : ∀ x ∈ l, EvB x) :
    Calls Tryz.prog 7 #[v] w (FewR w l) := by
  obtain ⟨sp, cap, rfl, hc⟩ := h
  have HC := Lib.hid hc
  have HB := Lib.hid hb
  clear hc hb
  go_enter Tryz.func7, Tryz.ntmps7
  go_wp2_with fail
  go_loopw [3] (fun i wr => ∃ k : Nat, k ≤ l.length ∧ k ≤ 201 ∧ i = .int .i64 k ∧ (∀ j x, j < k → l[j]? = some x → Short x) ∧ wr = w) (fun i _ => l.length - (intOf i).toNat)
  case atStart => exact ⟨0, Nat.zero_le _, Nat.zero_le _, rfl, fun j x h => absurd h (by omega), rfl⟩
  case round =>
    obtain ⟨k, hk, hk2, rfl, hs, rfl⟩ := hrel
    have HS := Lib.hid hs
    clear hs
    by_cases hlt : k < l.length
    · by_cases hlt3 : k < 201
      · obtain ⟨b, o, e1, x1⟩ := HC.out (by omega)
        subst e1
        obtain ⟨c0, c1, c2, _, _⟩ := x1 k l[k] (List.getElem?_eq_getElem hlt)
        obtain ⟨z0, z1, z2, _, _⟩ := HB.out l[k] (List.getElem_mem hlt)
        have HX := Lib.hid (List.getElem?_eq_getElem hlt)
        generalize l[k] = x at *
        have i0 : (0 : Int) ≤ (k : Int) := by omega
        have i1 : (k : Int) < (l.length : Int) := by omega
        have i2 : (k : Int) ≤ 200 := by omega
        clear x1
        go_wp2_with fail
        case roundEnd =>
          go_roundw
          case rel =>
            refine ⟨k + 1, by omega, by omega, by go_num, fun j y hj hy => ?_, trivial⟩
            rcases Nat.lt_succ_iff_lt_or_eq.1 hj with h | rfl
            · exact HS.out j y h hy
            · have e := HX.out.symm.trans hy
              cases e
              constructor <;> omega
          case measure => simp [intOf]; omega
        all_goals
          go_ret
          exact ⟨false, rfl, fun h => by simp at h, rfl⟩
      · have hk0 : k = 201 := by omega
        subst hk0
        have i1 : (201 : Int) < (l.length : Int) := by omega
        have i2 : decide ((l.length : Int) ≤ 200) = false := by simp; omega
        go_wp2
        go_ret
        exact ⟨false, rfl, fun h => by simp at h, rfl⟩
    · have hk0 : k = l.length := by omega
      subst hk0
      by_cases h2 : l.length ≤ 200
      · have i2 : (l.length : Int) ≤ 200 := by omega
        clear hk hlt
        go_wp2
        go_ret
        refine ⟨_, rfl, fun _ => ⟨h2, fun x hx => ?_⟩, rfl⟩
        obtain ⟨j, hj, rfl⟩ := List.getElem_of_mem hx
        exact HS.out j _ hj (List.getElem?_eq_getElem hj)
      · have i2 : decide ((l.length : Int) ≤ 200) = false := by simp; omega
        clear hk hlt
        go_wp2
        go_ret
        exact ⟨false, rfl, fun h => by simp at h, rfl⟩
end Go.Proofs.YtnlanemldapfiaaGreat.se
