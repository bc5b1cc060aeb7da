/-
  slices.symMergeCmpFunc of any two sorted runs, the first of which has the lower places.
-/
import Derived.Test.YtnlanemldapfiaaGreatV5Last
import Derived.Deep.DeepCutAuto
namespace Go.Proofs.YtnlanemldapfiaaGreat.st
open Go.RowKit Go.Shelf Go.Proofs.YtnlanemldapfiaaGreat.se Go.Proofs.YtnlanemldapfiaaGreat.Tb Sorted
set_option linter.unusedVariables false
set_option linter.unusedSimpArgs false

/-- what is asked of the merge of two runs that are shorter together than k -/
def MergeIs (E : Nat → Ev) (w0 : World) (g n : Nat) (cf : Nat → Nat → Int) (N cap k : Nat) : Prop :=
  ∀ (w : World) (A X Y B : List Nat), X.length + Y.length < k → X ≠ [] → Y ≠ [] → Row E w g (A ++ (X ++ (Y ++ B))) → Only w0 w → X.Pairwise (byT (lessOf cf)) → Y.Pairwise (byT (lessOf cf)) → (∀ x ∈ X, ∀ y ∈ Y, x < y) → (∀ i ∈ X ++ Y, i < n) →
    N = (A ++ (X ++ (Y ++ B))).length → ∀ a m b : Int, a = A.length → m = A.length + X.length → b = A.length + X.length + Y.length →
    Calls Tryz.prog 97 #[.slice (some ⟨g, 0, none⟩) N cap, .int .i64 a, .int .i64 m, .int .i64 b, .func (.func 46) #[] #[]] w fun e w' => e = .returned (.tuple #[]) ∧ Row E w' g (A ++ (srt (byT (lessOf cf)) (X ++ Y) ++ B)) ∧ Only w0 w'

theorem at_first {A X R : List Nat} {i c : Nat} (hc : c < X.length) (hi : i = A.length + c) : (A ++ (X ++ R))[i]? = some X[c] := by
  rw [hi, behind, front hc, List.getElem?_eq_getElem hc]
theorem at_second {A X Y R : List Nat} {i c : Nat} (hc : c < Y.length) (hi : i = A.length + (X.length + c)) : (A ++ (X ++ (Y ++ R)))[i]? = some Y[c] := by
  rw [hi, behind, behind, front hc, List.getElem?_eq_getElem hc]

set_option maxRecDepth 100000 in
set_option maxHeartbeats 6400000 in
theorem symStep {E : Nat → Ev} {w0 w : World} {g n : Nat} {cf : Nat → Nat → Int} (hw : Weak (lessOf cf)) (hc : CmpIs E w0 n cf) {A X Y B : List Nat} {N cap : Nat} (IH : MergeIs E w0 g n cf N cap (X.length + Y.length)) (hr : Row E w g (A ++ (X ++ (Y ++ B)))) (t : Only w0 w) (hg : w0.heap.size ≤ g) (hx1 : 2 ≤ X.length) (hy1 : 2 ≤ Y.length) (hx : X.Pairwise (byT (lessOf cf))) (hy : Y.Pairwise (byT (lessOf cf))) (hxy : ∀ x ∈ X, ∀ y ∈ Y, x < y) (hn : ∀ i ∈ X ++ Y, i < n)
    (hN : N = (A ++ (X ++ (Y ++ B))).length) (hl : N ≤ 1000000) {a m b : Int} (ha : a = A.length) (hm : m = A.length + X.length) (hb : b = A.length + X.length + Y.length) :
    Calls Tryz.prog 97 #[.slice (some ⟨g, 0, none⟩) N cap, .int .i64 a, .int .i64 m, .int .i64 b, .func (.func 46) #[] #[]] w fun e w' => e = .returned (.tuple #[]) ∧ Row E w' g (A ++ (srt (byT (lessOf cf)) (X ++ Y) ++ B)) ∧ Only w0 w' := by
  obtain ⟨al, hal⟩ : ∃ al : Nat, al = A.length := ⟨_, rfl⟩
  obtain ⟨xl, hxl⟩ : ∃ xl : Nat, xl = X.length := ⟨_, rfl⟩
  obtain ⟨yl, hyl⟩ : ∃ yl : Nat, yl = Y.length := ⟨_, rfl⟩
  have hN' : al + (xl + (yl + B.length)) = N := by rw [hN]; simp; omega
  obtain ⟨M, hM⟩ : ∃ M : Nat, M = al + xl := ⟨_, rfl⟩
  obtain ⟨Ez, hE⟩ : ∃ Ez : Nat, Ez = al + xl + yl := ⟨_, rfl⟩
  have ha' : a = (al : Int) := by omega
  have hm' : m = (M : Int) := by omega
  have hb' : b = (Ez : Int) := by omega
  subst ha' hm' hb'
  rw [← hxl] at hx1
  rw [← hyl] at hy1
  obtain ⟨mid, hmid⟩ : ∃ mid : Nat, mid = (al + Ez) / 2 := ⟨_, rfl⟩
  obtain ⟨nn, hnn⟩ : ∃ nn : Nat, nn = mid + M := ⟨_, rfl⟩
  have i1 : (M : Int) - (al : Int) = (xl : Int) := by omega
  have i2 : ¬ (xl : Int) = 1 := by omega
  have i3 : ((xl : Int) == 1) = false := by rw [beq_eq_false_iff_ne]; exact i2
  have i4 : (Ez : Int) - (M : Int) = (yl : Int) := by omega
  have i5 : ¬ (yl : Int) = 1 := by omega
  have i6 : ((yl : Int) == 1) = false := by rw [beq_eq_false_iff_ne]; exact i5
  have i7 : ((al : Int) + (Ez : Int)) / 2 = (mid : Int) := by omega
  have i8 : (mid : Int) + (M : Int) = (nn : Int) := by omega
  have i9 : (Ez : Int) ≤ 1000000 := by omega
  have i10 : (mid : Int) ≤ 1000000 := by omega
  have i11 : (nn : Int) ≤ 2000000 := by omega
  have i12 : (al : Int) ≤ 1000000 := by omega
  have i13 : (M : Int) ≤ 1000000 := by omega
  have HAL := Lib.hid hal
  have HXL := Lib.hid hxl
  have HYL := Lib.hid hyl
  have HN := Lib.hid hN'
  have HM := Lib.hid hM
  have HE := Lib.hid hE
  have HMID := Lib.hid hmid
  have HNN := Lib.hid hnn
  have HR := Lib.hid hr
  have HT := Lib.hid t
  have HX1 := Lib.hid hx1
  have HY1 := Lib.hid hy1
  clear hN hN' hal hxl hyl hr t hM hE hmid hnn ha hm hb hx1 hy1
  go_enter Tryz.func97, Tryz.ntmps97
  go_upto_if 140 with fail
  go_cut [20, 21] (fun sv rv wc => ∃ st0 r0 : Nat, sv = .int .i64 (st0 : Int) ∧ rv = .int .i64 (r0 : Int) ∧ st0 ≤ r0 ∧ al ≤ st0 ∧ r0 ≤ M ∧ nn ≤ st0 + Ez ∧ M + r0 ≤ nn ∧ Hid (st0 = al ∨ st0 + Ez = nn) ∧ Hid (r0 = M ∨ r0 = mid) ∧ wc = w)
  case first =>
    by_cases hmm : mid < M
    · have j1 : (mid : Int) < (M : Int) := by omega
      obtain ⟨st0, hst⟩ : ∃ st0 : Nat, st0 = nn - Ez := ⟨_, rfl⟩
      have j2 : (nn : Int) - (Ez : Int) = (st0 : Int) := by have := HE.out; have := HNN.out; have := HMID.out; have := HM.out; omega
      have HST := Lib.hid hst
      clear hst
      go_wp2_with fail
      go_meet
      have := HE.out; have := HNN.out; have := HMID.out; have := HM.out
      exact ⟨st0, mid, rfl, rfl, by omega, by omega, by omega, by omega, by omega, Lib.hid (Or.inr (by omega)), Lib.hid (Or.inr rfl), rfl⟩
    · have j1 : ¬ (mid : Int) < (M : Int) := by omega
      go_wp2_with fail
      go_meet
      have := HE.out; have := HNN.out; have := HMID.out; have := HM.out
      exact ⟨al, M, rfl, rfl, by omega, by omega, by omega, by omega, by omega, Lib.hid (Or.inl rfl), Lib.hid (Or.inl rfl), rfl⟩
  case rest =>
    obtain ⟨st0, r0, rfl, rfl, b1, b2, b3, b4, b5, hS0, hR0, rfl⟩ := hcut
    obtain ⟨p, hp⟩ : ∃ p : Nat, p = nn - 1 := ⟨_, rfl⟩
    have j1 : (nn : Int) - 1 = (p : Int) := by have := HM.out; have := HX1.out; omega
    have HP := Lib.hid hp
    clear hp
    go_wp2_with fail
    go_loopw [20, 21, 23] (fun sv rv _ wx => ∃ s r : Nat, st0 ≤ s ∧ s ≤ r ∧ r ≤ r0 ∧ sv = .int .i64 (s : Int) ∧ rv = .int .i64 (r : Int) ∧
      Hid (s = st0 ∨ ∃ (q1 : s - al - 1 < X.length) (q2 : nn - s - M < Y.length), lessOf cf Y[nn - s - M] X[s - al - 1] = false) ∧
      Hid (r = r0 ∨ ∃ (q1 : r - al < X.length) (q2 : nn - r - M - 1 < Y.length), lessOf cf Y[nn - r - M - 1] X[r - al] = true) ∧ Row E wx g (A ++ (X ++ (Y ++ B))) ∧ Only w0 wx) (fun sv rv _ _ => (intOf rv - intOf sv).toNat)
    case atStart => exact ⟨st0, r0, Nat.le_refl _, b1, Nat.le_refl _, rfl, rfl, Lib.hid (Or.inl rfl), Lib.hid (Or.inl rfl), HR.out, HT.out⟩
    case round =>
      obtain ⟨s, r, hs0, hsr, hr0, rfl, rfl, h1, h2, hrow, ht⟩ := hrel
      by_cases hlt : s < r
      · have k1 : (s : Int) < (r : Int) := by omega
        obtain ⟨c, hcc⟩ : ∃ c : Nat, c = (s + r) / 2 := ⟨_, rfl⟩
        obtain ⟨d, hdd⟩ : ∃ d : Nat, d = p - c := ⟨_, rfl⟩
        have HCC := Lib.hid hcc
        have HDD := Lib.hid hdd
        have k2 : ((s : Int) + (r : Int)) / 2 = (c : Int) := by omega
        have k3 : (r : Int) ≤ 1000000 := by omega
        have x0 : c - al < X.length := by have := HXL.out; have := HM.out; omega
        have y0 : d - M < Y.length := by have := HYL.out; have := HXL.out; have := HM.out; have := HE.out; have := HP.out; omega
        have k4 : (p : Int) - (c : Int) = (d : Int) := by have := HP.out; have := HM.out; omega
        have k5 : (c : Int) < (N : Int) := by have := HN.out; have := HM.out; omega
        have k6 : (d : Int) < (N : Int) := by have := HN.out; have := HM.out; have := HE.out; have := HP.out; omega
        have c1 := hrow.at (at_first (R := Y ++ B) x0 (show c = A.length + (c - al) by have := HAL.out; omega))
        have c2 := hrow.at (at_second (R := B) y0 (show d = A.length + (X.length + (d - M)) by have := HAL.out; have := HXL.out; have := HM.out; have := HP.out; omega))
        obtain ⟨x, hx0⟩ : ∃ x, x = X[c - al] := ⟨_, rfl⟩
        obtain ⟨y, hy0⟩ : ∃ y, y = Y[d - M] := ⟨_, rfl⟩
        rw [← hx0] at c1
        rw [← hy0] at c2
        have hxn : x < n := hn x (by rw [hx0]; exact List.mem_append_left _ (List.getElem_mem _))
        have hyn : y < n := hn y (by rw [hy0]; exact List.mem_append_right _ (List.getElem_mem _))
        have HC := Lib.hid (fun k : Nat => hc (wr.drewN k) y x (Only.drewN ht k) hyn hxn)
        have HX0 := Lib.hid hx0
        have HY0 := Lib.hid hy0
        have X0 := Lib.hid x0
        have Y0 := Lib.hid y0
        have HROW := Lib.hid hrow
        have HT2 := Lib.hid ht
        clear hcc hdd hx0 hy0 hxn hyn hrow ht
        obtain ⟨c10, c11, c12, c13, c14⟩ := c1
        obtain ⟨c20, c21, c22, c23, c24⟩ := c2
        by_cases hcf : cf y x < 0
        · have d1 : decide (cf y x < 0) = true := by simpa using hcf
          go_wp2_with fail
          refine (wpIn_wide (n := 10)).1 ?_
          refine Qt.quiet_tail_wide 11 (by kernel_rfl) (by kernel_rfl) (by kernel_rfl) (by kernel_rfl) (by kernel_rfl) (by kernel_rfl) (by kernel_rfl) (by kernel_rfl) ?_
          simp only [List.take_succ_cons, List.take_zero, List.drop_succ_cons, List.drop_zero]
          repeat (any_goals (first | go_big_quiet_step (fail) | quiet_step (fail)))
          refine wpQuiet_nil ?_
          rintro w9 ⟨nq, rfl⟩
          gi_wp2_with ((first | (refine ⟨trivial, fun h => (by cases h), ?_⟩) | (refine ⟨trivial, ?_⟩) | (refine ⟨fun h => (by cases h), ?_⟩) | skip); gi_at_call 46; refine (callsIn_wide.2 (HC.out _)).mono ?_; rintro e w3 ⟨rfl, t3⟩)
          have TW := Lib.hid ((Only.drewN (Turn.refl _ wr) nq).trans t3 (fun _ _ q => q))
          clear t3
          go_wp2_with fail
          go_roundw
          case rel =>
            have z1 := HCC.out; have z2 := HDD.out; have z3 := HP.out; have z4 := HM.out; have z5 := HE.out
            refine ⟨s, c, hs0, by omega, by omega, rfl, rfl, h1, Lib.hid (Or.inr ⟨X0.out, by have := Y0.out; omega, ?_⟩), HROW.out.only TW.out, HT2.out.trans TW.out (fun _ _ q => q)⟩
            have e : nn - c - M - 1 = d - M := by omega
            simp only [e, ← HX0.out, ← HY0.out]; exact d1
          case measure => have := HCC.out; simp [intOf]; omega
        · have d1 : decide (cf y x < 0) = false := by simpa using hcf
          go_wp2_with fail
          refine (wpIn_wide (n := 10)).1 ?_
          refine Qt.quiet_tail_wide 11 (by kernel_rfl) (by kernel_rfl) (by kernel_rfl) (by kernel_rfl) (by kernel_rfl) (by kernel_rfl) (by kernel_rfl) (by kernel_rfl) ?_
          simp only [List.take_succ_cons, List.take_zero, List.drop_succ_cons, List.drop_zero]
          repeat (any_goals (first | go_big_quiet_step (fail) | quiet_step (fail)))
          refine wpQuiet_nil ?_
          rintro w9 ⟨nq, rfl⟩
          gi_wp2_with ((first | (refine ⟨trivial, fun h => (by cases h), ?_⟩) | (refine ⟨trivial, ?_⟩) | (refine ⟨fun h => (by cases h), ?_⟩) | skip); gi_at_call 46; refine (callsIn_wide.2 (HC.out _)).mono ?_; rintro e w3 ⟨rfl, t3⟩)
          have TW := Lib.hid ((Only.drewN (Turn.refl _ wr) nq).trans t3 (fun _ _ q => q))
          clear t3
          go_wp2_with fail
          go_roundw
          case rel =>
            have z1 := HCC.out; have z2 := HDD.out; have z3 := HP.out; have z4 := HM.out; have z5 := HE.out
            have z6 := X0.out; have z7 := Y0.out
            refine ⟨c + 1, r, by omega, by omega, hr0, by push_cast; rfl, rfl, Lib.hid (Or.inr ⟨by omega, by omega, ?_⟩), h2, HROW.out.only TW.out, HT2.out.trans TW.out (fun _ _ q => q)⟩
            have e : nn - (c + 1) - M = d - M := by omega
            have e2 : c + 1 - al - 1 = c - al := by omega
            simp only [e, e2, ← HX0.out, ← HY0.out]; exact d1
          case measure => have := HCC.out; simp [intOf]; omega
      · have hrs : r = s := by omega
        subst hrs
        have HROW := Lib.hid hrow
        have HT2 := Lib.hid ht
        have k1 : ¬ (r : Int) < (r : Int) := by omega
        obtain ⟨en, hen⟩ : ∃ en : Nat, en = nn - r := ⟨_, rfl⟩
        have k2 : (nn : Int) - (r : Int) = (en : Int) := by omega
        obtain ⟨S, hS⟩ : ∃ S : Nat, S = r - al := ⟨_, rfl⟩
        obtain ⟨T, hT⟩ : ∃ T : Nat, T = en - M := ⟨_, rfl⟩
        have z3 := HP.out; have z4 := HM.out; have z5 := HE.out; have z6 := HXL.out; have z7 := HYL.out; have z8 := HNN.out; have z9 := HMID.out; have z10 := HAL.out
        have z11 := HN.out; have z12 := HX1.out; have z13 := HY1.out
        have hSx : S ≤ X.length := by omega
        have hTy : T ≤ Y.length := by omega
        have e1 : nn - r - M = T := by omega
        have hnd : (X ++ Y).Nodup := by
          rw [List.nodup_append]
          exact ⟨nodup_of (strict_by hw) hx, nodup_of (strict_by hw) hy, fun u hu v hv e => by have := hxy u hu v hv; omega⟩
        have SP := Lib.hid (srt_split (strict_by hw) hx hy hnd hSx hTy (by
          rcases h1.out with e | ⟨q1, q2, e⟩
          · rcases hS0.out with f | f
            · exact Or.inl (by omega)
            · exact Or.inr (Or.inl (by omega))
          · refine Or.inr (Or.inr ⟨by omega, by omega, (by_cross hw (hxy _ (List.getElem_mem _) _ (List.getElem_mem _))).1.2 ?_⟩)
            have e2 : S - 1 = r - al - 1 := by omega
            simp only [e2, ← e1]; exact e) (by
          rcases h2.out with e | ⟨q1, q2, e⟩
          · rcases hR0.out with f | f
            · exact Or.inl (by omega)
            · exact Or.inr (Or.inl (by omega))
          · by_cases hT0 : T = 0
            · exact Or.inr (Or.inl hT0)
            · refine Or.inr (Or.inr ⟨by omega, by omega, (by_cross hw (hxy _ (List.getElem_mem _) _ (List.getElem_mem _))).2.2 ?_⟩)
              have e2 : T - 1 = nn - r - M - 1 := by omega
              simp only [e2, hS]; exact e))
        have hX12 : X = X.take S ++ X.drop S := (List.take_append_drop _ _).symm
        have hY12 : Y = Y.take T ++ Y.drop T := (List.take_append_drop _ _).symm
        have lx1 : (X.take S).length = S := by rw [List.length_take]; omega
        have lx2 : (X.drop S).length = xl - S := by rw [List.length_drop]; omega
        have ly1 : (Y.take T).length = T := by rw [List.length_take]; omega
        have ly2 : (Y.drop T).length = yl - T := by rw [List.length_drop]; omega
        have px1 := hx.sublist (List.take_sublist S X)
        have px2 := hx.sublist (List.drop_sublist S X)
        have py1 := hy.sublist (List.take_sublist T Y)
        have py2 := hy.sublist (List.drop_sublist T Y)
        have xy1 : ∀ x ∈ X.take S, ∀ y ∈ Y.take T, x < y := fun x hx y hy => hxy x (List.mem_of_mem_take hx) y (List.mem_of_mem_take hy)
        have xy2 : ∀ x ∈ X.drop S, ∀ y ∈ Y.drop T, x < y := fun x hx y hy => hxy x (List.mem_of_mem_drop hx) y (List.mem_of_mem_drop hy)
        have n1 : ∀ i ∈ X.take S ++ Y.take T, i < n := fun i hi => hn i (by
          rcases List.mem_append.1 hi with h | h
          · exact List.mem_append_left _ (List.mem_of_mem_take h)
          · exact List.mem_append_right _ (List.mem_of_mem_take h))
        have n2 : ∀ i ∈ X.drop S ++ Y.drop T, i < n := fun i hi => hn i (by
          rcases List.mem_append.1 hi with h | h
          · exact List.mem_append_left _ (List.mem_of_mem_drop h)
          · exact List.mem_append_right _ (List.mem_of_mem_drop h))
        obtain ⟨X1, hX1⟩ : ∃ X1, X1 = X.take S := ⟨_, rfl⟩
        obtain ⟨X2, hX2⟩ : ∃ X2, X2 = X.drop S := ⟨_, rfl⟩
        obtain ⟨Y1, hY1⟩ : ∃ Y1, Y1 = Y.take T := ⟨_, rfl⟩
        obtain ⟨Y2, hY2⟩ : ∃ Y2, Y2 = Y.drop T := ⟨_, rfl⟩
        rw [← hX1, ← hX2] at hX12
        rw [← hY1, ← hY2] at hY12
        rw [← hX1] at lx1 px1 xy1 n1
        rw [← hX2] at lx2 px2 xy2 n2
        rw [← hY1] at ly1 py1 xy1 n1
        rw [← hY2] at ly2 py2 xy2 n2
        have hrow2 : Row E wr g (A ++ (X1 ++ (X2 ++ (Y1 ++ (Y2 ++ B))))) := by rw [hX12, hY12] at hrow; simpa using hrow
        rw [← hX1, ← hX2, ← hY1, ← hY2] at SP
        have sT := strict_by hw
        -- the three steps, each as what it leaves
        have ROT := Lib.hid (fun (hX : X2 ≠ []) (hY : Y1 ≠ []) => rotate_any (cap := cap) (A := A ++ X1) (U := X2) (V := Y1) (B := Y2 ++ B) (show Row E wr g ((A ++ X1) ++ (X2 ++ (Y1 ++ (Y2 ++ B)))) by simpa using hrow2) ht hg hX hY (N := N) (by simp only [List.length_append]; omega) hl (a := (r : Int)) (m := (M : Int)) (b := (en : Int)) (by simp only [List.length_append]; omega) (by simp only [List.length_append]; omega) (by simp only [List.length_append]; omega) (.func (.func 46) #[] #[]))
        have C1 := Lib.hid (fun (W : World) (hX : X1 ≠ []) (hY : Y1 ≠ []) (hW : Row E W g (A ++ (X1 ++ (Y1 ++ (X2 ++ (Y2 ++ B)))))) (tW : Only w0 W) => IH W A X1 Y1 (X2 ++ (Y2 ++ B)) (by omega) hX hY hW tW px1 py1 xy1 n1 (by simp only [List.length_append]; omega) (al : Int) (r : Int) (mid : Int) (by omega) (by omega) (by omega))
        have C2 := Lib.hid (fun (W : World) (hX : X2 ≠ []) (hY : Y2 ≠ []) (hW : Row E W g ((A ++ srt (byT (lessOf cf)) (X1 ++ Y1)) ++ (X2 ++ (Y2 ++ B)))) (tW : Only w0 W) => IH W (A ++ srt (byT (lessOf cf)) (X1 ++ Y1)) X2 Y2 B (by omega) hX hY hW tW px2 py2 xy2 n2 (by simp only [List.length_append, srt_length]; omega) (mid : Int) (en : Int) (Ez : Int) (by simp only [List.length_append, srt_length]; omega) (by simp only [List.length_append, srt_length]; omega) (by simp only [List.length_append, srt_length]; omega))
        have D1 : Hid (X1 = [] ∨ Y1 = [] → srt (byT (lessOf cf)) (X1 ++ Y1) = X1 ++ Y1) := Lib.hid (fun h => by
          rcases h with h | h
          · rw [h]; exact srt_self sT py1
          · rw [h, List.append_nil]; exact srt_self sT px1)
        have D2 : Hid (X2 = [] ∨ Y2 = [] → srt (byT (lessOf cf)) (X2 ++ Y2) = X2 ++ Y2) := Lib.hid (fun h => by
          rcases h with h | h
          · rw [h]; exact srt_self sT py2
          · rw [h, List.append_nil]; exact srt_self sT px2)
        have HROW2 := Lib.hid hrow2
        have L1 : Hid ((S = 0 → X1 = []) ∧ (S ≠ 0 → X1 ≠ []) ∧ (S = xl → X2 = []) ∧ (S ≠ xl → X2 ≠ [])) := Lib.hid ⟨fun h => List.length_eq_zero_iff.1 (by omega), fun h e => by rw [e, List.length_nil] at lx1; omega, fun h => List.length_eq_zero_iff.1 (by omega), fun h e => by rw [e, List.length_nil] at lx2; omega⟩
        have L2 : Hid ((T = 0 → Y1 = []) ∧ (T ≠ 0 → Y1 ≠ []) ∧ (T = yl → Y2 = []) ∧ (T ≠ yl → Y2 ≠ [])) := Lib.hid ⟨fun h => List.length_eq_zero_iff.1 (by omega), fun h e => by rw [e, List.length_nil] at ly1; omega, fun h => List.length_eq_zero_iff.1 (by omega), fun h e => by rw [e, List.length_nil] at ly2; omega⟩
        have B1 : S ≤ xl := by omega
        have B2 : T ≤ yl := by omega
        have B3 : S + T = mid - al := by omega
        have B4 : r = al + S := by omega
        have B5 : en = M + T := by omega
        have B6 : 2 ≤ mid - al ∧ mid + 2 ≤ Ez := by omega
        have BB := Lib.hid (And.intro B1 (And.intro B2 (And.intro B3 (And.intro B4 (And.intro B5 (And.intro B6 (And.intro z4 (And.intro z5 z9))))))))
        clear hrow hrow2 ht h1 h2 hX12 hY12 hX1 hX2 hY1 hY2 lx1 lx2 ly1 ly2 px1 px2 py1 py2 xy1 xy2 n1 n2 z3 z4 z5 z6 z7 z8 z9 z10 z11 z12 z13 hSx hTy e1 hnd hS hT hen B1 B2 B3 B4 B5 B6 hs0 hr0 b1 b2 b3 b4 b5 hlt hsr
        rcases (by omega : S = 0 ∨ S = xl ∨ (S ≠ 0 ∧ S ≠ xl)) with q | q | q <;> rcases (by omega : T = 0 ∨ T = yl ∨ (T ≠ 0 ∧ T ≠ yl)) with q2 | q2 | q2
        · exact absurd BB.out (by have := HX1.out; have := HY1.out; omega)
        · have f1 : (r : Int) < (M : Int) := by have := BB.out; have := HX1.out; have := HY1.out; omega
          have f2 : (M : Int) < (en : Int) := by have := BB.out; have := HX1.out; have := HY1.out; omega
          have f3 : ¬ (al : Int) < (r : Int) := by have := BB.out; have := HX1.out; have := HY1.out; omega
          have f4 : (r : Int) < (mid : Int) := by have := BB.out; have := HX1.out; have := HY1.out; omega
          have f5 : (mid : Int) < (en : Int) := by have := BB.out; have := HX1.out; have := HY1.out; omega
          have f6 : ¬ (en : Int) < (Ez : Int) := by have := BB.out; have := HX1.out; have := HY1.out; omega
          have g1 : X1 = [] := L1.out.1 (by have := BB.out; have := HX1.out; have := HY1.out; omega)
          have g2 : X2 ≠ [] := L1.out.2.2.2 (by have := BB.out; have := HX1.out; have := HY1.out; omega)
          have g3 : Y1 ≠ [] := L2.out.2.1 (by have := BB.out; have := HX1.out; have := HY1.out; omega)
          have g4 : Y2 = [] := L2.out.2.2.1 (by have := BB.out; have := HX1.out; have := HY1.out; omega)
          have G1 := Lib.hid g1
          have G2 := Lib.hid g2
          have G3 := Lib.hid g3
          have G4 := Lib.hid g4
          clear q q2 g1 g2 g3 g4
          go_wp2_with fail
          refine (ROT.out G2.out G3.out).mono ?_
          rintro rr w2 ⟨rfl, hr2, ht2⟩
          have HR3 : Hid (Row E w2 g (A ++ (X1 ++ (Y1 ++ (X2 ++ (Y2 ++ B)))))) := Lib.hid (by simpa using hr2)
          have HT3 := Lib.hid ht2
          clear hr2 ht2
          go_wp2_with fail
          have HR4 : Hid (Row E w2 g ((A ++ srt (byT (lessOf cf)) (X1 ++ Y1)) ++ (X2 ++ (Y2 ++ B)))) := Lib.hid (by rw [D1.out (Or.inl G1.out)]; have h := HR3.out; simpa using h)
          have HT4 := Lib.hid HT3.out
          have HR5 : Hid (Row E w2 g ((A ++ srt (byT (lessOf cf)) (X1 ++ Y1)) ++ (srt (byT (lessOf cf)) (X2 ++ Y2) ++ B))) := Lib.hid (by rw [D2.out (Or.inr G4.out)]; have h := HR4.out; simpa using h)
          have HT5 := Lib.hid HT4.out
          go_end0
          exact ⟨rfl, by rw [SP.out]; have h := HR5.out; simpa using h, HT5.out⟩
        · have f1 : (r : Int) < (M : Int) := by have := BB.out; have := HX1.out; have := HY1.out; omega
          have f2 : (M : Int) < (en : Int) := by have := BB.out; have := HX1.out; have := HY1.out; omega
          have f3 : ¬ (al : Int) < (r : Int) := by have := BB.out; have := HX1.out; have := HY1.out; omega
          have f4 : (r : Int) < (mid : Int) := by have := BB.out; have := HX1.out; have := HY1.out; omega
          have f5 : (mid : Int) < (en : Int) := by have := BB.out; have := HX1.out; have := HY1.out; omega
          have f6 : (en : Int) < (Ez : Int) := by have := BB.out; have := HX1.out; have := HY1.out; omega
          have g1 : X1 = [] := L1.out.1 (by have := BB.out; have := HX1.out; have := HY1.out; omega)
          have g2 : X2 ≠ [] := L1.out.2.2.2 (by have := BB.out; have := HX1.out; have := HY1.out; omega)
          have g3 : Y1 ≠ [] := L2.out.2.1 (by have := BB.out; have := HX1.out; have := HY1.out; omega)
          have g4 : Y2 ≠ [] := L2.out.2.2.2 (by have := BB.out; have := HX1.out; have := HY1.out; omega)
          have G1 := Lib.hid g1
          have G2 := Lib.hid g2
          have G3 := Lib.hid g3
          have G4 := Lib.hid g4
          clear q q2 g1 g2 g3 g4
          go_wp2_with fail
          refine (ROT.out G2.out G3.out).mono ?_
          rintro rr w2 ⟨rfl, hr2, ht2⟩
          have HR3 : Hid (Row E w2 g (A ++ (X1 ++ (Y1 ++ (X2 ++ (Y2 ++ B)))))) := Lib.hid (by simpa using hr2)
          have HT3 := Lib.hid ht2
          clear hr2 ht2
          go_wp2_with fail
          have HR4 : Hid (Row E w2 g ((A ++ srt (byT (lessOf cf)) (X1 ++ Y1)) ++ (X2 ++ (Y2 ++ B)))) := Lib.hid (by rw [D1.out (Or.inl G1.out)]; have h := HR3.out; simpa using h)
          have HT4 := Lib.hid HT3.out
          refine (C2.out _ G2.out G4.out HR4.out HT4.out).mono ?_
          rintro rr w4 ⟨rfl, hr2, ht2⟩
          have HR5 : Hid (Row E w4 g ((A ++ srt (byT (lessOf cf)) (X1 ++ Y1)) ++ (srt (byT (lessOf cf)) (X2 ++ Y2) ++ B))) := Lib.hid (by simpa using hr2)
          have HT5 := Lib.hid ht2
          clear hr2 ht2
          go_wp2_with fail
          go_end0
          exact ⟨rfl, by rw [SP.out]; have h := HR5.out; simpa using h, HT5.out⟩
        · have f1 : ¬ (r : Int) < (M : Int) := by have := BB.out; have := HX1.out; have := HY1.out; omega
          have f2 : ¬ (M : Int) < (en : Int) := by have := BB.out; have := HX1.out; have := HY1.out; omega
          have f3 : (al : Int) < (r : Int) := by have := BB.out; have := HX1.out; have := HY1.out; omega
          have f4 : ¬ (r : Int) < (mid : Int) := by have := BB.out; have := HX1.out; have := HY1.out; omega
          have f5 : ¬ (mid : Int) < (en : Int) := by have := BB.out; have := HX1.out; have := HY1.out; omega
          have f6 : (en : Int) < (Ez : Int) := by have := BB.out; have := HX1.out; have := HY1.out; omega
          have g1 : X1 ≠ [] := L1.out.2.1 (by have := BB.out; have := HX1.out; have := HY1.out; omega)
          have g2 : X2 = [] := L1.out.2.2.1 (by have := BB.out; have := HX1.out; have := HY1.out; omega)
          have g3 : Y1 = [] := L2.out.1 (by have := BB.out; have := HX1.out; have := HY1.out; omega)
          have g4 : Y2 ≠ [] := L2.out.2.2.2 (by have := BB.out; have := HX1.out; have := HY1.out; omega)
          have G1 := Lib.hid g1
          have G2 := Lib.hid g2
          have G3 := Lib.hid g3
          have G4 := Lib.hid g4
          have HR3 : Hid (Row E wr g (A ++ (X1 ++ (Y1 ++ (X2 ++ (Y2 ++ B)))))) := Lib.hid (by have h := HROW2.out; rw [G2.out] at h ⊢; simpa using h)
          have HT3 := Lib.hid HT2.out
          clear q q2 g1 g2 g3 g4
          go_wp2_with fail
          have HR4 : Hid (Row E wr g ((A ++ srt (byT (lessOf cf)) (X1 ++ Y1)) ++ (X2 ++ (Y2 ++ B)))) := Lib.hid (by rw [D1.out (Or.inr G3.out)]; have h := HR3.out; simpa using h)
          have HT4 := Lib.hid HT3.out
          have HR5 : Hid (Row E wr g ((A ++ srt (byT (lessOf cf)) (X1 ++ Y1)) ++ (srt (byT (lessOf cf)) (X2 ++ Y2) ++ B))) := Lib.hid (by rw [D2.out (Or.inl G2.out)]; have h := HR4.out; simpa using h)
          have HT5 := Lib.hid HT4.out
          go_end0
          exact ⟨rfl, by rw [SP.out]; have h := HR5.out; simpa using h, HT5.out⟩
        · exact absurd BB.out (by have := HX1.out; have := HY1.out; omega)
        · have f1 : ¬ (r : Int) < (M : Int) := by have := BB.out; have := HX1.out; have := HY1.out; omega
          have f2 : (M : Int) < (en : Int) := by have := BB.out; have := HX1.out; have := HY1.out; omega
          have f3 : (al : Int) < (r : Int) := by have := BB.out; have := HX1.out; have := HY1.out; omega
          have f4 : (r : Int) < (mid : Int) := by have := BB.out; have := HX1.out; have := HY1.out; omega
          have f5 : ¬ (mid : Int) < (en : Int) := by have := BB.out; have := HX1.out; have := HY1.out; omega
          have f6 : (en : Int) < (Ez : Int) := by have := BB.out; have := HX1.out; have := HY1.out; omega
          have g1 : X1 ≠ [] := L1.out.2.1 (by have := BB.out; have := HX1.out; have := HY1.out; omega)
          have g2 : X2 = [] := L1.out.2.2.1 (by have := BB.out; have := HX1.out; have := HY1.out; omega)
          have g3 : Y1 ≠ [] := L2.out.2.1 (by have := BB.out; have := HX1.out; have := HY1.out; omega)
          have g4 : Y2 ≠ [] := L2.out.2.2.2 (by have := BB.out; have := HX1.out; have := HY1.out; omega)
          have G1 := Lib.hid g1
          have G2 := Lib.hid g2
          have G3 := Lib.hid g3
          have G4 := Lib.hid g4
          have HR3 : Hid (Row E wr g (A ++ (X1 ++ (Y1 ++ (X2 ++ (Y2 ++ B)))))) := Lib.hid (by have h := HROW2.out; rw [G2.out] at h ⊢; simpa using h)
          have HT3 := Lib.hid HT2.out
          clear q q2 g1 g2 g3 g4
          go_wp2_with fail
          refine (C1.out _ G1.out G3.out HR3.out HT3.out).mono ?_
          rintro rr w3 ⟨rfl, hr2, ht2⟩
          have HR4 : Hid (Row E w3 g ((A ++ srt (byT (lessOf cf)) (X1 ++ Y1)) ++ (X2 ++ (Y2 ++ B)))) := Lib.hid (by simpa using hr2)
          have HT4 := Lib.hid ht2
          clear hr2 ht2
          go_wp2_with fail
          have HR5 : Hid (Row E w3 g ((A ++ srt (byT (lessOf cf)) (X1 ++ Y1)) ++ (srt (byT (lessOf cf)) (X2 ++ Y2) ++ B))) := Lib.hid (by rw [D2.out (Or.inl G2.out)]; have h := HR4.out; simpa using h)
          have HT5 := Lib.hid HT4.out
          go_end0
          exact ⟨rfl, by rw [SP.out]; have h := HR5.out; simpa using h, HT5.out⟩
        · have f1 : (r : Int) < (M : Int) := by have := BB.out; have := HX1.out; have := HY1.out; omega
          have f2 : ¬ (M : Int) < (en : Int) := by have := BB.out; have := HX1.out; have := HY1.out; omega
          have f3 : (al : Int) < (r : Int) := by have := BB.out; have := HX1.out; have := HY1.out; omega
          have f4 : ¬ (r : Int) < (mid : Int) := by have := BB.out; have := HX1.out; have := HY1.out; omega
          have f5 : (mid : Int) < (en : Int) := by have := BB.out; have := HX1.out; have := HY1.out; omega
          have f6 : (en : Int) < (Ez : Int) := by have := BB.out; have := HX1.out; have := HY1.out; omega
          have g1 : X1 ≠ [] := L1.out.2.1 (by have := BB.out; have := HX1.out; have := HY1.out; omega)
          have g2 : X2 ≠ [] := L1.out.2.2.2 (by have := BB.out; have := HX1.out; have := HY1.out; omega)
          have g3 : Y1 = [] := L2.out.1 (by have := BB.out; have := HX1.out; have := HY1.out; omega)
          have g4 : Y2 ≠ [] := L2.out.2.2.2 (by have := BB.out; have := HX1.out; have := HY1.out; omega)
          have G1 := Lib.hid g1
          have G2 := Lib.hid g2
          have G3 := Lib.hid g3
          have G4 := Lib.hid g4
          have HR3 : Hid (Row E wr g (A ++ (X1 ++ (Y1 ++ (X2 ++ (Y2 ++ B)))))) := Lib.hid (by have h := HROW2.out; rw [G3.out] at h ⊢; simpa using h)
          have HT3 := Lib.hid HT2.out
          clear q q2 g1 g2 g3 g4
          go_wp2_with fail
          have HR4 : Hid (Row E wr g ((A ++ srt (byT (lessOf cf)) (X1 ++ Y1)) ++ (X2 ++ (Y2 ++ B)))) := Lib.hid (by rw [D1.out (Or.inr G3.out)]; have h := HR3.out; simpa using h)
          have HT4 := Lib.hid HT3.out
          refine (C2.out _ G2.out G4.out HR4.out HT4.out).mono ?_
          rintro rr w4 ⟨rfl, hr2, ht2⟩
          have HR5 : Hid (Row E w4 g ((A ++ srt (byT (lessOf cf)) (X1 ++ Y1)) ++ (srt (byT (lessOf cf)) (X2 ++ Y2) ++ B))) := Lib.hid (by simpa using hr2)
          have HT5 := Lib.hid ht2
          clear hr2 ht2
          go_wp2_with fail
          go_end0
          exact ⟨rfl, by rw [SP.out]; have h := HR5.out; simpa using h, HT5.out⟩
        · have f1 : (r : Int) < (M : Int) := by have := BB.out; have := HX1.out; have := HY1.out; omega
          have f2 : (M : Int) < (en : Int) := by have := BB.out; have := HX1.out; have := HY1.out; omega
          have f3 : (al : Int) < (r : Int) := by have := BB.out; have := HX1.out; have := HY1.out; omega
          have f4 : (r : Int) < (mid : Int) := by have := BB.out; have := HX1.out; have := HY1.out; omega
          have f5 : (mid : Int) < (en : Int) := by have := BB.out; have := HX1.out; have := HY1.out; omega
          have f6 : ¬ (en : Int) < (Ez : Int) := by have := BB.out; have := HX1.out; have := HY1.out; omega
          have g1 : X1 ≠ [] := L1.out.2.1 (by have := BB.out; have := HX1.out; have := HY1.out; omega)
          have g2 : X2 ≠ [] := L1.out.2.2.2 (by have := BB.out; have := HX1.out; have := HY1.out; omega)
          have g3 : Y1 ≠ [] := L2.out.2.1 (by have := BB.out; have := HX1.out; have := HY1.out; omega)
          have g4 : Y2 = [] := L2.out.2.2.1 (by have := BB.out; have := HX1.out; have := HY1.out; omega)
          have G1 := Lib.hid g1
          have G2 := Lib.hid g2
          have G3 := Lib.hid g3
          have G4 := Lib.hid g4
          clear q q2 g1 g2 g3 g4
          go_wp2_with fail
          refine (ROT.out G2.out G3.out).mono ?_
          rintro rr w2 ⟨rfl, hr2, ht2⟩
          have HR3 : Hid (Row E w2 g (A ++ (X1 ++ (Y1 ++ (X2 ++ (Y2 ++ B)))))) := Lib.hid (by simpa using hr2)
          have HT3 := Lib.hid ht2
          clear hr2 ht2
          go_wp2_with fail
          refine (C1.out _ G1.out G3.out HR3.out HT3.out).mono ?_
          rintro rr w3 ⟨rfl, hr2, ht2⟩
          have HR4 : Hid (Row E w3 g ((A ++ srt (byT (lessOf cf)) (X1 ++ Y1)) ++ (X2 ++ (Y2 ++ B)))) := Lib.hid (by simpa using hr2)
          have HT4 := Lib.hid ht2
          clear hr2 ht2
          go_wp2_with fail
          have HR5 : Hid (Row E w3 g ((A ++ srt (byT (lessOf cf)) (X1 ++ Y1)) ++ (srt (byT (lessOf cf)) (X2 ++ Y2) ++ B))) := Lib.hid (by rw [D2.out (Or.inr G4.out)]; have h := HR4.out; simpa using h)
          have HT5 := Lib.hid HT4.out
          go_end0
          exact ⟨rfl, by rw [SP.out]; have h := HR5.out; simpa using h, HT5.out⟩
        · have f1 : (r : Int) < (M : Int) := by have := BB.out; have := HX1.out; have := HY1.out; omega
          have f2 : (M : Int) < (en : Int) := by have := BB.out; have := HX1.out; have := HY1.out; omega
          have f3 : (al : Int) < (r : Int) := by have := BB.out; have := HX1.out; have := HY1.out; omega
          have f4 : (r : Int) < (mid : Int) := by have := BB.out; have := HX1.out; have := HY1.out; omega
          have f5 : (mid : Int) < (en : Int) := by have := BB.out; have := HX1.out; have := HY1.out; omega
          have f6 : (en : Int) < (Ez : Int) := by have := BB.out; have := HX1.out; have := HY1.out; omega
          have g1 : X1 ≠ [] := L1.out.2.1 (by have := BB.out; have := HX1.out; have := HY1.out; omega)
          have g2 : X2 ≠ [] := L1.out.2.2.2 (by have := BB.out; have := HX1.out; have := HY1.out; omega)
          have g3 : Y1 ≠ [] := L2.out.2.1 (by have := BB.out; have := HX1.out; have := HY1.out; omega)
          have g4 : Y2 ≠ [] := L2.out.2.2.2 (by have := BB.out; have := HX1.out; have := HY1.out; omega)
          have G1 := Lib.hid g1
          have G2 := Lib.hid g2
          have G3 := Lib.hid g3
          have G4 := Lib.hid g4
          clear q q2 g1 g2 g3 g4
          go_wp2_with fail
          refine (ROT.out G2.out G3.out).mono ?_
          rintro rr w2 ⟨rfl, hr2, ht2⟩
          have HR3 : Hid (Row E w2 g (A ++ (X1 ++ (Y1 ++ (X2 ++ (Y2 ++ B)))))) := Lib.hid (by simpa using hr2)
          have HT3 := Lib.hid ht2
          clear hr2 ht2
          go_wp2_with fail
          refine (C1.out _ G1.out G3.out HR3.out HT3.out).mono ?_
          rintro rr w3 ⟨rfl, hr2, ht2⟩
          have HR4 : Hid (Row E w3 g ((A ++ srt (byT (lessOf cf)) (X1 ++ Y1)) ++ (X2 ++ (Y2 ++ B)))) := Lib.hid (by simpa using hr2)
          have HT4 := Lib.hid ht2
          clear hr2 ht2
          go_wp2_with fail
          refine (C2.out _ G2.out G4.out HR4.out HT4.out).mono ?_
          rintro rr w4 ⟨rfl, hr2, ht2⟩
          have HR5 : Hid (Row E w4 g ((A ++ srt (byT (lessOf cf)) (X1 ++ Y1)) ++ (srt (byT (lessOf cf)) (X2 ++ Y2) ++ B))) := Lib.hid (by simpa using hr2)
          have HT5 := Lib.hid ht2
          clear hr2 ht2
          go_wp2_with fail
          go_end0
          exact ⟨rfl, by rw [SP.out]; have h := HR5.out; simpa using h, HT5.out⟩
end Go.Proofs.YtnlanemldapfiaaGreat.st
