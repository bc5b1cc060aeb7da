/-
  FsRenames: the walk.
-/
import Derived.Test.YtnlcaonempngbaaRenames
import Derived.Test.YtnlcaonempngbaaSafe2
namespace Go.Proofs.Ytnlcaonempngbaa
open Go.RowKit Go.Maps Go.WideMaps Go.Sort

section
variable {w w' : World} {p : Nat} {S S' : Fsp.Fs}

set_option maxRecDepth 100000 in
set_option maxHeartbeats 4000000 in
theorem renames_walk (size : Int) {v : Value} {ops : List OpD} (h : OpsAt w v ops) (s t : ByteArray) (hz : s.size ≤ maxLen) (hzt : t.size ≤ maxLen) (k : Int) :
    Calls Try.prog 8 #[.int .i64 size, v, .string s, .string t, .int .i64 k] w fun r w' => r = .returned (.bool true) ∧ Turn (fun _ => False) w w' := by
  have hO := h.turned (turnBox w (.cells #[.int .i64 k] 3))
  have HO := Lib.hid hO
  clear h hO
  have hmf : ∀ (fn : Fn) (first cap : Array Value) (w : World), (Instr.makeFunc fn first cap).run Try.prog w = .ok (.func fn first cap) w := fun _ _ _ _ => rfl
  go_enter Try.func8, Try.ntmps8
  go_wp2_with fail
  go_wp2_with fail
  go_at_call 11
  refine (first_any _).mono ?_
  rintro r w2 ⟨rfl, t2⟩
  go_wp2_with fail
  go_at_call 12
  refine (few_any (HO.out.turned t2)).mono ?_
  rintro r w3 ⟨bb, rfl, hfew, l3⟩
  have t3 := t2.trans l3.turn (fun _ _ q => q)
  have T3 := Lib.hid t3
  clear t2 t3 l3
  cases bb with
  | false =>
    clear hfew
    go_wp2
    go_ret
    exact ⟨rfl, (turnBox w _).trans T3.out (fun _ _ q => q)⟩
  | true =>
    have hlen := hfew rfl
    clear hfew
    by_cases h1 : s.size ≤ 200
    · have h1' : (s.size : Int) ≤ 200 := by omega
      by_cases h2 : t.size ≤ 200
      · have h2' : (t.size : Int) ≤ 200 := by omega
        go_wp2_with fail
        go_at_call 13
        refine (made_any size (HO.out.turned T3.out) hlen).mono ?_
        rintro r w4 ⟨rfl, q4⟩
        have hbx : w.heap.size < w3.heap.size := by have := T3.out.size; simp at this; omega
        have HX3 := Lib.hid (turn_heap T3.out (heap_alloc_new _ _))
        have hst := steps_made (Fsp.new size) ops
        have hst2 : (madeS (Fsp.new size) ops).steps ≤ 300 := by have : (Fsp.new size).steps = 0 := rfl; omega
        generalize madeS (Fsp.new size) ops = S0 at q4 hst2
        have TW := Lib.hid ((turnBox w (.cells #[.int .i64 k] 3)).trans T3.out (fun _ _ q => q))
        clear hst HO T3 hlen
        go_wp2_with fail
        go_at_call 14
        refine (q4.crash keeper_nil (l := []) trivial (fun _ q => q)).mono ?_
        rintro r w5 ⟨rfl, q5⟩
        have hc1 : Fsp.Calm (Fsp.crash S0 (fun _ _ => 0)) 300 := ⟨rfl, rfl, hst2⟩
        have hsy1 := Fsp.crash_synced q4.good (fun _ _ => 0)
        generalize Fsp.crash S0 (fun _ _ => 0) = S1 at q5 hc1 hsy1
        have HSO := Lib.hid q5.good.1
        have HC1 := Lib.hid hc1
        have HSY1 := Lib.hid hsy1
        obtain ⟨⟨mo5, pl5, hr5⟩, t5⟩ := q5
        have z5 := t5.size
        have HX5 := Lib.hid (turn_heap t5 HX3.out)
        have T5 := Lib.hid (TW.out.trans t5 (fun _ _ q => q))
        clear q4 hc1 hsy1 hst2 t5 HX3 TW
        go_wp2_with fail
        go_at_call 24
        refine (copy_any hr5).mono ?_
        rintro r w6 ⟨rfl, ⟨mo6, pl6, hg6⟩, t6⟩
        have z6 := t6.size
        have hr6 := hr5.turned t6 (fun _ _ q => q)
        have HX6 := Lib.hid (turn_heap t6 HX5.out)
        have T6 := Lib.hid (T5.out.trans t6 (fun _ _ q => q))
        have G6 := Lib.hid hg6
        have R6 := Lib.hid hr6
        have OK1 := Lib.hid (calm_ok HC1.out (by omega))
        clear hr5 t6 hg6 hr6 HX5 T5
        cases hf : Fsp.find S1.L s.data.toList with
        | none =>
          have HF := Lib.hid hf
          have HE := Lib.hid (show Fsp.rename S1 s.data.toList t.data.toList = (S1, 2) by simp [Fsp.rename, HC1.out.down, hf])
          clear hf
          go_wp2_with fail
          go_at_call 20
          refine (read_none R6.out s hz HF.out).mono ?_
          rintro r w' ⟨rfl, rfl⟩
          go_wp2_with fail
          go_at_call 39
          refine (rename_any R6.out OK1.out s t hz hzt).mono ?_
          rintro r w7 ⟨rfl, hp7⟩
          rw [HE.out] at hp7 ⊢
          obtain ⟨⟨mo7, pl7, hr7⟩, t7⟩ := hp7
          have hg7 := G6.out.turned t7 (fun b hb q => by omega)
          have T7 := Lib.hid (T6.out.trans t7 (fun i hi q => by omega))
          have hal := alike_self hr7 hg7 rfl
          clear t7 hr7 hg7
          go_wp2_with (go_at_call 19; refine (num_any _ _).mono ?_; rintro r w' ⟨rfl, rfl⟩)
          go_at_call 26
          refine hal.mono ?_
          rintro r w8 ⟨rfl, t8⟩
          have T8 := Lib.hid (T7.out.trans t8 (fun _ _ q => q))
          clear hal t8
          go_wp2_with fail
          go_ret
          exact ⟨rfl, T8.out⟩
        | some f =>
          have HF := Lib.hid hf
          go_wp2_with fail
          go_at_call 20
          refine (read_some R6.out s hz HF.out).mono ?_
          rintro r w7 ⟨g, rfl, hown, t7⟩
          have hgl := (hown.lt g rfl).1
          have hgu := (hown.lt g rfl).2
          have z7 := t7.size
          have HS7 := Lib.hid (SliceR.of_own hown)
          have R7 := Lib.hid (R6.out.turned t7 (fun _ _ q => q))
          have G7 := Lib.hid (G6.out.turned t7 (fun _ _ q => q))
          have HX7 := Lib.hid (turn_heap t7 HX6.out)
          have T7 := Lib.hid (T6.out.trans t7 (fun _ _ q => q))
          have hfl := len_room R6.out HF.out
          clear hown t7 R6 G6 HX6 T6
          cases hv : Fsp.valid t.data.toList with
          | false =>
            have HV := Lib.hid hv
            have HE := Lib.hid (show Fsp.rename S1 s.data.toList t.data.toList = (S1, 1) by simp [Fsp.rename, HC1.out.down, hf, hv])
            clear hf hv
            go_wp2_with fail
            go_at_call 39
            refine (rename_any R7.out OK1.out s t hz hzt).mono ?_
            rintro r w8 ⟨rfl, hp8⟩
            rw [HE.out] at hp8 ⊢
            obtain ⟨⟨mo8, pl8, hr8⟩, t8⟩ := hp8
            have hg8 := G7.out.turned t8 (fun b hb q => by omega)
            have T8 := Lib.hid (T7.out.trans t8 (fun i hi q => by omega))
            have hal := alike_self hr8 hg8 rfl
            clear t8 hr8 hg8
            go_wp2_with (first | (go_at_call 19; refine (num_any _ _).mono ?_; rintro r w' ⟨rfl, rfl⟩) | (go_at_call 40; refine (valid_any t hzt _).mono ?_; rintro r w' ⟨rfl, rfl⟩; rw [HV.out]))
            go_at_call 26
            refine hal.mono ?_
            rintro r w9 ⟨rfl, t9⟩
            have T9 := Lib.hid (T8.out.trans t9 (fun _ _ q => q))
            clear hal t9
            go_wp2_with fail
            go_ret
            exact ⟨rfl, T9.out⟩
          | true =>
            have HV := Lib.hid hv
            obtain ⟨S2, e2, hren⟩ := Fsp.rename_done HC1.out HSO.out HSY1.out hf hv
            have HE := Lib.hid e2
            have HREN := Lib.hid hren
            clear hf hv e2 hren
            go_wp2_with fail
            go_at_call 39
            refine (rename_any R7.out OK1.out s t hz hzt).mono ?_
            rintro r w8 ⟨rfl, hp8⟩
            rw [HE.out] at hp8 ⊢
            simp only at hp8 ⊢
            obtain ⟨⟨mo8, pl8, hr8⟩, t8⟩ := hp8
            have z8 := t8.size
            have G8 := Lib.hid (G7.out.turned t8 (fun b hb q => by omega))
            have HX8 := Lib.hid ((t8.block _ (by omega) (fun q => by omega)).trans HX7.out)
            have HS8 := Lib.hid (HS7.out.turnQ t8 (fun ad _ cap e _ q => by
              cases e
              have q' : w3.heap.size ≤ g ∧ g < w5.heap.size := q
              omega))
            have T8 := Lib.hid (T7.out.trans t8 (fun i hi q => by omega))
            have R8 := Lib.hid hr8
            clear t8 hr8 R7 G7 HX7 HS7 T7
            go_wp2_with (first | (go_at_call 19; refine (num_any _ _).mono ?_; rintro r w' ⟨rfl, rfl⟩) | (go_at_call 40; refine (valid_any t hzt _).mono ?_; rintro r w' ⟨rfl, rfl⟩; rw [HV.out]))
            go_at_call 14
            refine (crash_any (keeper_renames w.heap.size k) (l := []) HX8.out (fun b e q => by rcases q with q | q <;> omega) R8.out).mono ?_
            rintro r w9 ⟨rfl, ⟨mo9, pl9, hr9⟩, hX9, t9⟩
            have z9 := t9.size
            have hL9 : (Fsp.crash S2 (fun _ _ => k)).L = S2.L := Fsp.crash_same HREN.out.synced _
            have hat9 : Fsp.find (Fsp.crash S2 (fun _ _ => k)).L t.data.toList = some f := by rw [hL9]; exact HREN.out.at_
            have hgone9 : s.data.toList ≠ t.data.toList → Fsp.find (Fsp.crash S2 (fun _ _ => k)).L s.data.toList = none := by rw [hL9]; exact HREN.out.gone
            have hoth9 : ∀ m, m ≠ s.data.toList → m ≠ t.data.toList → Fsp.find (Fsp.crash S2 (fun _ _ => k)).L m = Fsp.find S1.L m := by rw [hL9]; exact HREN.out.other
            generalize Fsp.crash S2 (fun _ _ => k) = S3 at hr9 hat9 hgone9 hoth9 hL9
            have G9 := Lib.hid (G8.out.turned t9 (fun b hb q => by rcases q with (q | q) | q <;> omega))
            have HS9 := Lib.hid (HS8.out.turnQ t9 (fun ad _ cap e _ q => by
              cases e
              rcases q with (q | q) | q
              · have q' : w3.heap.size ≤ g ∧ g < w5.heap.size := q
                omega
              · have q' : w7.heap.size ≤ g ∧ g < w8.heap.size := q
                omega
              · have q' : g = w.heap.size := q
                omega))
            have T9 := Lib.hid (T8.out.trans t9 (fun i hi q => by rcases q with (q | q) | q <;> omega))
            have R9 := Lib.hid hr9
            have HAT := Lib.hid hat9
            have HGN := Lib.hid hgone9
            have HOT := Lib.hid hoth9
            clear t9 hr9 hX9 hat9 hgone9 hoth9 hL9 R8 G8 HX8 HS8 T8
            go_wp2_with fail
            go_at_call 20
            refine (read_some R9.out t hzt HAT.out).mono ?_
            rintro r w10 ⟨g2, rfl, hown, t10⟩
            have HS10 := Lib.hid (HS9.out.turned t10)
            have HC10 := Lib.hid (SliceR.of_own hown)
            have R10 := Lib.hid (R9.out.turned t10 (fun _ _ q => q))
            have G10 := Lib.hid (G9.out.turned t10 (fun _ _ q => q))
            have T10 := Lib.hid (T9.out.trans t10 (fun _ _ q => q))
            have HFL := Lib.hid (show f.data.length ≤ maxLen by unfold maxLen; omega)
            clear t10 hown HS9 R9 G9 T9
            go_wp2_with fail
            go_at_call 20
            have hread : Calls Try.prog 20 #[.pointer (some ⟨w3.heap.size, 0, none⟩), .string s] w10 fun r w' => ∃ v, r = .returned (.tuple #[v, .int .i64 (if s.data.toList = t.data.toList then 0 else 2)]) ∧ Turn (fun _ => False) w10 w' := by
              by_cases hst : s.data.toList = t.data.toList
              · rw [if_pos hst]
                have : Fsp.find S3.L s.data.toList = some f := by rw [hst]; exact HAT.out
                refine (read_some R10.out s hz this).mono ?_
                rintro r w' ⟨g3, rfl, _, ht⟩
                exact ⟨_, rfl, ht⟩
              · rw [if_neg hst]
                refine (read_none R10.out s hz (HGN.out hst)).mono ?_
                rintro r w' ⟨rfl, rfl⟩
                exact ⟨_, rfl, Turn.refl _ _⟩
            refine hread.mono ?_
            rintro r w11 ⟨v11, rfl, t11⟩
            have HS11 := Lib.hid (HS10.out.turned t11)
            have HC11 := Lib.hid (HC10.out.turned t11)
            have R11 := Lib.hid (R10.out.turned t11 (fun _ _ q => q))
            have G11 := Lib.hid (G10.out.turned t11 (fun _ _ q => q))
            have T11 := Lib.hid (T10.out.trans t11 (fun _ _ q => q))
            clear hread t11 HS10 HC10 R10 G10 T10
            obtain ⟨z, hz3⟩ : ∃ z : Int, z = (if s.data.toList = t.data.toList then 0 else 2) := ⟨_, rfl⟩
            rw [← hz3]
            have HZ3 := Lib.hid hz3
            clear hz3
            go_wp2_with (go_at_call 19; refine (num_any _ _).mono ?_; rintro r w' ⟨rfl, rfl⟩)
            go_at_call 22
            refine (same_any HS11.out HC11.out HFL.out HFL.out).mono ?_
            rintro r w12 ⟨rfl, l12⟩
            rw [decide_eq_true rfl]
            have R12 := Lib.hid (R11.out.turned l12.turn (fun _ _ q => q))
            have G12 := Lib.hid (G11.out.turned l12.turn (fun _ _ q => q))
            have T12 := Lib.hid (T11.out.trans l12.turn (fun _ _ q => q))
            clear l12 HS11 HC11 R11 G11 T11
            by_cases hst : s.data.toList = t.data.toList
            · have hz0 : z = 0 := by have := HZ3.out; rw [if_pos hst] at this; exact this
              have hbs : (s.toList == t.toList) = true := by rw [Lib.toList_data, Lib.toList_data, hst]; simp
              subst hz0
              have HST := Lib.hid hst
              clear hst
              go_wp2_with (go_at_call 19; refine (num_any _ _).mono ?_; rintro r w' ⟨rfl, rfl⟩)
              go_at_call 33
              refine (names_any G12.out ⟨#[]⟩).mono ?_
              rintro r w13 ⟨va, rfl, hall, t13⟩
              rw [empty_list, Fsp.names_all] at hall
              have HX := Lib.hid (TextsR.of_own hall)
              have hL4 := G12.out.good.2.2.2.1
              have R13 := Lib.hid (R12.out.turned t13 (fun _ _ q => q))
              have G13 := Lib.hid (G12.out.turned t13 (fun _ _ q => q))
              have T13 := Lib.hid (T12.out.trans t13 (fun _ _ q => q))
              clear hall t13 R12 G12 T12
              obtain ⟨sp, cap, rfl, hcell⟩ := HX.out
              have hNl : (S1.L.map (·.1)).length = S1.L.length := by simp
              rw [hNl] at hcell ⊢
              have HC := Lib.hid hcell
              clear hcell hNl HX
              go_wp2_with fail
              go_loopw [23] (fun i wr => ∃ j : Nat, j ≤ S1.L.length ∧ i = .int .i64 j ∧ Turn (fun _ => False) w13 wr) (fun i _ => S1.L.length - (intOf i).toNat)
              case atStart => exact ⟨0, Nat.zero_le _, rfl, Turn.refl _ _⟩
              case round =>
                obtain ⟨j, hj, rfl, ht⟩ := hrel
                have HT := Lib.hid ht
                clear ht
                by_cases hlt : j < S1.L.length
                · obtain ⟨x, hxj⟩ : ∃ x, S1.L[j]? = some x := ⟨_, List.getElem?_eq_getElem hlt⟩
                  obtain ⟨nm, fj⟩ := x
                  obtain ⟨ad, e1, x1⟩ := HC.out (by omega)
                  subst e1
                  have hfj : Fsp.find S1.L nm = some fj := Fsp.mem_find HSO.out (List.mem_of_getElem? hxj)
                  have xk := x1 j nm (by rw [List.getElem?_map, hxj]; rfl)
                  unfold encStr at xk
                  have cx := turn_cell HT.out xk
                  have i0 : (0 : Int) ≤ (j : Int) := by omega
                  have i1 : (j : Int) < (S1.L.length : Int) := by omega
                  have XK := Lib.hid xk
                  have HFJ := Lib.hid hfj
                  clear xk hfj hxj
                  by_cases q1 : nm = s.data.toList
                  · have b1 : (nm == s.toList) = true := by rw [Lib.toList_data, q1]; simp
                    clear q1
                    go_wp2
                    go_roundw
                    case rel => exact ⟨j + 1, by omega, by go_num, HT.out⟩
                    case measure => simp [intOf]; omega
                  · have b1 : (nm == s.toList) = false := by rw [Lib.toList_data, beq_eq_false_iff_ne]; exact q1
                    by_cases q2 : nm = t.data.toList
                    · have b2 : (nm == t.toList) = true := by rw [Lib.toList_data, q2]; simp
                      clear q1 q2
                      go_wp2
                      go_roundw
                      case rel => exact ⟨j + 1, by omega, by go_num, HT.out⟩
                      case measure => simp [intOf]; omega
                    · have b2 : (nm == t.toList) = false := by rw [Lib.toList_data, beq_eq_false_iff_ne]; exact q2
                      have HF3 := Lib.hid (show Fsp.find S3.L nm = some fj by rw [HOT.out nm q1 q2]; exact HFJ.out)
                      have hr1 := R13.out.turned HT.out (fun _ _ q => q)
                      have HLF := Lib.hid (show fj.data.length ≤ maxLen by have := len_room G13.out HFJ.out; unfold maxLen; omega)
                      clear q1 q2
                      go_wp2_with fail
                      go_at_call 20
                      refine (read_is hr1 nm HF3.out).mono ?_
                      rintro r w14 ⟨v14, rfl, hs14, t14⟩
                      have ht14 := HT.out.trans t14 (fun _ _ q => q)
                      have cx14 := turn_cell ht14 XK.out
                      have hg14 := G13.out.turned ht14 (fun _ _ q => q)
                      have HS14 := Lib.hid hs14
                      have HT14 := Lib.hid ht14
                      clear hs14 t14 ht14 cx hr1
                      go_wp2_with fail
                      go_at_call 20
                      refine (read_is hg14 nm HFJ.out).mono ?_
                      rintro r w15 ⟨v15, rfl, hs15, t15⟩
                      have HS15 := Lib.hid hs15
                      have HS14' := Lib.hid (HS14.out.turned t15)
                      have HT15 := Lib.hid (HT14.out.trans t15 (fun _ _ q => q))
                      clear hs15 t15
                      go_wp2_with fail
                      go_at_call 22
                      refine (same_any HS14'.out HS15.out HLF.out HLF.out).mono ?_
                      rintro r w16 ⟨rfl, l16⟩
                      rw [decide_eq_true rfl]
                      have HT16 := Lib.hid (HT15.out.trans l16.turn (fun _ _ q => q))
                      clear l16
                      go_wp2
                      go_roundw
                      case rel => exact ⟨j + 1, by omega, by go_num, HT16.out⟩
                      case measure => simp [intOf]; omega
                · have hj0 : j = S1.L.length := by omega
                  subst hj0
                  go_wp2
                  go_ret
                  exact ⟨rfl, T13.out.trans HT.out (fun _ _ q => q)⟩
            · have hz2 : z = 2 := by have := HZ3.out; rw [if_neg hst] at this; exact this
              have hbs : (s.toList == t.toList) = false := by rw [Lib.toList_data, Lib.toList_data, beq_eq_false_iff_ne]; exact hst
              subst hz2
              have HST := Lib.hid hst
              clear hst
              go_wp2_with (go_at_call 19; refine (num_any _ _).mono ?_; rintro r w' ⟨rfl, rfl⟩)
              go_at_call 33
              refine (names_any G12.out ⟨#[]⟩).mono ?_
              rintro r w13 ⟨va, rfl, hall, t13⟩
              rw [empty_list, Fsp.names_all] at hall
              have HX := Lib.hid (TextsR.of_own hall)
              have hL4 := G12.out.good.2.2.2.1
              have R13 := Lib.hid (R12.out.turned t13 (fun _ _ q => q))
              have G13 := Lib.hid (G12.out.turned t13 (fun _ _ q => q))
              have T13 := Lib.hid (T12.out.trans t13 (fun _ _ q => q))
              clear hall t13 R12 G12 T12
              obtain ⟨sp, cap, rfl, hcell⟩ := HX.out
              have hNl : (S1.L.map (·.1)).length = S1.L.length := by simp
              rw [hNl] at hcell ⊢
              have HC := Lib.hid hcell
              clear hcell hNl HX
              go_wp2_with fail
              go_loopw [23] (fun i wr => ∃ j : Nat, j ≤ S1.L.length ∧ i = .int .i64 j ∧ Turn (fun _ => False) w13 wr) (fun i _ => S1.L.length - (intOf i).toNat)
              case atStart => exact ⟨0, Nat.zero_le _, rfl, Turn.refl _ _⟩
              case round =>
                obtain ⟨j, hj, rfl, ht⟩ := hrel
                have HT := Lib.hid ht
                clear ht
                by_cases hlt : j < S1.L.length
                · obtain ⟨x, hxj⟩ : ∃ x, S1.L[j]? = some x := ⟨_, List.getElem?_eq_getElem hlt⟩
                  obtain ⟨nm, fj⟩ := x
                  obtain ⟨ad, e1, x1⟩ := HC.out (by omega)
                  subst e1
                  have hfj : Fsp.find S1.L nm = some fj := Fsp.mem_find HSO.out (List.mem_of_getElem? hxj)
                  have xk := x1 j nm (by rw [List.getElem?_map, hxj]; rfl)
                  unfold encStr at xk
                  have cx := turn_cell HT.out xk
                  have i0 : (0 : Int) ≤ (j : Int) := by omega
                  have i1 : (j : Int) < (S1.L.length : Int) := by omega
                  have XK := Lib.hid xk
                  have HFJ := Lib.hid hfj
                  clear xk hfj hxj
                  by_cases q1 : nm = s.data.toList
                  · have b1 : (nm == s.toList) = true := by rw [Lib.toList_data, q1]; simp
                    clear q1
                    go_wp2
                    go_roundw
                    case rel => exact ⟨j + 1, by omega, by go_num, HT.out⟩
                    case measure => simp [intOf]; omega
                  · have b1 : (nm == s.toList) = false := by rw [Lib.toList_data, beq_eq_false_iff_ne]; exact q1
                    by_cases q2 : nm = t.data.toList
                    · have b2 : (nm == t.toList) = true := by rw [Lib.toList_data, q2]; simp
                      clear q1 q2
                      go_wp2
                      go_roundw
                      case rel => exact ⟨j + 1, by omega, by go_num, HT.out⟩
                      case measure => simp [intOf]; omega
                    · have b2 : (nm == t.toList) = false := by rw [Lib.toList_data, beq_eq_false_iff_ne]; exact q2
                      have HF3 := Lib.hid (show Fsp.find S3.L nm = some fj by rw [HOT.out nm q1 q2]; exact HFJ.out)
                      have hr1 := R13.out.turned HT.out (fun _ _ q => q)
                      have HLF := Lib.hid (show fj.data.length ≤ maxLen by have := len_room G13.out HFJ.out; unfold maxLen; omega)
                      clear q1 q2
                      go_wp2_with fail
                      go_at_call 20
                      refine (read_is hr1 nm HF3.out).mono ?_
                      rintro r w14 ⟨v14, rfl, hs14, t14⟩
                      have ht14 := HT.out.trans t14 (fun _ _ q => q)
                      have cx14 := turn_cell ht14 XK.out
                      have hg14 := G13.out.turned ht14 (fun _ _ q => q)
                      have HS14 := Lib.hid hs14
                      have HT14 := Lib.hid ht14
                      clear hs14 t14 ht14 cx hr1
                      go_wp2_with fail
                      go_at_call 20
                      refine (read_is hg14 nm HFJ.out).mono ?_
                      rintro r w15 ⟨v15, rfl, hs15, t15⟩
                      have HS15 := Lib.hid hs15
                      have HS14' := Lib.hid (HS14.out.turned t15)
                      have HT15 := Lib.hid (HT14.out.trans t15 (fun _ _ q => q))
                      clear hs15 t15
                      go_wp2_with fail
                      go_at_call 22
                      refine (same_any HS14'.out HS15.out HLF.out HLF.out).mono ?_
                      rintro r w16 ⟨rfl, l16⟩
                      rw [decide_eq_true rfl]
                      have HT16 := Lib.hid (HT15.out.trans l16.turn (fun _ _ q => q))
                      clear l16
                      go_wp2
                      go_roundw
                      case rel => exact ⟨j + 1, by omega, by go_num, HT16.out⟩
                      case measure => simp [intOf]; omega
                · have hj0 : j = S1.L.length := by omega
                  subst hj0
                  go_wp2
                  go_ret
                  exact ⟨rfl, T13.out.trans HT.out (fun _ _ q => q)⟩
      · have h2' : (200 : Int) < (t.size : Int) := by omega
        go_wp2
        go_ret
        exact ⟨rfl, (turnBox w _).trans T3.out (fun _ _ q => q)⟩
    · have h1' : (200 : Int) < (s.size : Int) := by omega
      go_wp2
      go_ret
      exact ⟨rfl, (turnBox w _).trans T3.out (fun _ _ q => q)⟩

end
end Go.Proofs.Ytnlcaonempngbaa
