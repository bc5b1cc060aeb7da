/-
  slices.insertionSortCmpFunc of a run of rising places.
-/
import Derived.Test.YtnlanemldapfiaaGreatV5Last
namespace Go.Proofs.YtnlanemldapfiaaGreat.st
open Go.RowKit Go.Shelf Go.Proofs.YtnlanemldapfiaaGreat.se Go.Proofs.YtnlanemldapfiaaGreat.Tb Sorted
set_option linter.unusedVariables false
set_option linter.unusedSimpArgs false

theorem srt_snoc {T : Nat → Nat → Prop} [DecidableRel T] (h : Strict T) {P : List Nat} {y : Nat} (hn : (P ++ [y]).Nodup) : srt T (srt T P ++ [y]) = srt T (P ++ [y]) := by
  have := srt_srt (T := T) h (A := P) (B := [y]) hn
  simpa [srt, ins] using this

set_option maxRecDepth 100000 in
set_option maxHeartbeats 3200000 in
theorem insert_any {E : Nat → Ev} {w0 w : World} {g n : Nat} {cf : Nat → Nat → Int} (hw : Weak (lessOf cf)) (hc : CmpIs E w0 n cf) {A S B : List Nat} (hr : Row E w g (A ++ (S ++ B))) (t : Only w0 w) (hg : w0.heap.size ≤ g) (hs : S.Pairwise (· < ·)) (hn : ∀ i ∈ S, i < n)
    {N : Nat} (hN : N = (A ++ (S ++ B)).length) (hl : N ≤ 1000000) {a b : Int} (ha : a = A.length) (hb : b = A.length + S.length) {cap : Nat} :
    Calls Tryz.prog 96 #[.slice (some ⟨g, 0, none⟩) N cap, .int .i64 a, .int .i64 b, .func (.func 46) #[] #[]] w fun e w' => e = .returned (.tuple #[]) ∧ Row E w' g (A ++ (srt (byT (lessOf cf)) S ++ B)) ∧ Only w0 w' := by
  obtain ⟨al, hal⟩ : ∃ al : Nat, al = A.length := ⟨_, rfl⟩
  obtain ⟨sl, hsl⟩ : ∃ sl : Nat, sl = S.length := ⟨_, rfl⟩
  obtain ⟨En, hE⟩ : ∃ En : Nat, En = al + sl := ⟨_, rfl⟩
  have hN' : al + (sl + B.length) = N := by rw [hN]; simp; omega
  have ha' : a = (al : Int) := by omega
  have hb' : b = (En : Int) := by omega
  subst ha' hb'
  have i1 : (al : Int) ≤ 1000000 := by omega
  have i2 : (En : Int) ≤ 1000000 := by omega
  have hnd : S.Nodup := List.Pairwise.imp (fun {a b} h => Nat.ne_of_lt h) hs
  have sT := strict_by hw
  have HAL := Lib.hid hal
  have HSL := Lib.hid hsl
  have HE := Lib.hid hE
  have HN := Lib.hid hN'
  have HR := Lib.hid hr
  have HT := Lib.hid t
  clear hN hN' hal hsl hE hr t ha hb
  go_enter Tryz.func96, Tryz.ntmps96
  go_wp2_with fail
  go_loopw [8] (fun iv wx => ∃ i e : Nat, iv = .int .i64 (i : Int) ∧ i = al + 1 + e ∧ (e = 0 ∨ e < sl) ∧ Row E wx g (A ++ (srt (byT (lessOf cf)) (S.take (e + 1)) ++ (S.drop (e + 1) ++ B))) ∧ Only w0 wx) (fun iv _ => En - (intOf iv).toNat)
  case atStart =>
    refine ⟨al + 1, 0, by push_cast; rfl, rfl, Or.inl rfl, ?_, HT.out⟩
    have e : srt (byT (lessOf cf)) (S.take 1) = S.take 1 := by
      cases S with
      | nil => rfl
      | cons x l => simp [srt, ins]
    rw [show (0 : Nat) + 1 = 1 from rfl, e]
    have h := HR.out
    rw [← List.take_append_drop 1 S] at h
    simpa using h
  case round =>
    obtain ⟨i, e, rfl, hi, he, hrow, ht⟩ := hrel
    by_cases hlt : i < En
    · have k1 : (i : Int) < (En : Int) := by omega
      have he1 : e + 1 < S.length := by have := HE.out; have := HSL.out; omega
      have hd : S.drop (e + 1) = S[e + 1] :: S.drop (e + 2) := List.drop_eq_getElem_cons he1
      have htk : S.take (e + 2) = S.take (e + 1) ++ [S[e + 1]] := by rw [show e + 2 = (e + 1) + 1 from rfl, List.take_add_one, List.getElem?_eq_getElem he1]; rfl
      have hyS : S[e + 1] ∈ S := List.getElem_mem he1
      have hlow : ∀ x ∈ S.take (e + 1), x < S[e + 1] := fun x hx => by
        obtain ⟨j, hj, rfl⟩ := List.getElem_of_mem hx
        rw [List.length_take] at hj
        simp only [List.getElem_take]
        exact List.pairwise_iff_getElem.1 hs j (e + 1) (by omega) he1 (by omega)
      obtain ⟨y, hy⟩ : ∃ y, y = S[e + 1] := ⟨_, rfl⟩
      obtain ⟨X, hX⟩ : ∃ X, X = srt (byT (lessOf cf)) (S.take (e + 1)) := ⟨_, rfl⟩
      rw [← hy] at hd htk hyS hlow
      rw [← hX] at hrow
      rw [hd] at hrow
      have hXl : X.length = e + 1 := by rw [hX, srt_length, List.length_take]; omega
      have hXs : X.Pairwise (byT (lessOf cf)) := by rw [hX]; exact srt_sorted sT _ (hnd.sublist (List.take_sublist _ _))
      have hXlow : ∀ x ∈ X, x < y := fun x hx => hlow x (by rw [hX] at hx; exact (srt_perm _).mem_iff.1 hx)
      have hXn : ∀ x ∈ X, x < n := fun x hx => by have := hXlow x hx; have := hn y hyS; omega
      have hyn : y < n := hn y hyS
      have HSS := Lib.hid (show srt (byT (lessOf cf)) (X ++ [y]) = srt (byT (lessOf cf)) (S.take (e + 2)) by
        rw [hX, htk]; exact srt_snoc sT (by rw [← htk]; exact hnd.sublist (List.take_sublist _ _)))
      obtain ⟨R, hR⟩ : ∃ R, R = S.drop (e + 2) := ⟨_, rfl⟩
      rw [← hR] at hrow
      have HRR := Lib.hid hR
      have HROW0 := Lib.hid hrow
      have HT0 := Lib.hid ht
      have HII := Lib.hid hi
      have HXL := Lib.hid hXl
      have HE1 := Lib.hid he1
      have HNR := Lib.hid (show al + (e + 1) + 1 ≤ N by have := HN.out; have := HSL.out; omega)
      have HEE := Lib.hid (show e + 1 < sl by have := HSL.out; omega)
      clear hrow ht hi he hd htk hyS hlow hX hR he1 hy hXl
      go_wp2_with fail
      go_loopw [9] (fun jv wx => ∃ q : Nat, q ≤ e + 1 ∧ jv = .int .i64 ((al + q : Nat) : Int) ∧ Hid (q = e + 1 ∨ ∃ h : q < X.length, lessOf cf y X[q] = true) ∧ Row E wx g (A ++ (X.take q ++ y :: (X.drop q ++ (R ++ B)))) ∧ Only w0 wx) (fun jv _ => (intOf jv).toNat)
      case atStart =>
        refine ⟨e + 1, Nat.le_refl _, ?_, Lib.hid (Or.inl rfl), ?_, HT0.out⟩
        · congr 1; have := HII.out; omega
        · rw [List.take_of_length_le (by rw [HXL.out]; omega), List.drop_of_length_le (by rw [HXL.out]; omega)]; simpa using HROW0.out
      case round =>
        clear HROW0 HT0
        obtain ⟨q, hq, rfl, h2, hrow, ht⟩ := hrel
        have DONE : Hid ((q = 0 ∨ ∃ h : q - 1 < X.length, lessOf cf y X[q - 1] = false) → X.take q ++ y :: X.drop q = srt (byT (lessOf cf)) (S.take (e + 2))) := Lib.hid (fun h1 => by
          rw [← HSS.out]
          refine (srt_one sT (Y := X) (x := y) hXs (t := q) (by rw [HXL.out]; exact hq) ?_ ?_).2
          · rcases h1 with f | ⟨h, f⟩
            · exact Or.inl f
            · exact Or.inr ⟨h, (by_cross hw (hXlow _ (List.getElem_mem h))).1.2 f⟩
          · rcases h2.out with f | ⟨h, f⟩
            · exact Or.inl (by rw [f, HXL.out])
            · exact Or.inr ⟨h, Or.inl f⟩)
        by_cases hq0 : q = 0
        · subst hq0
          have d1 : ¬ (al : Int) < ((al + 0 : Nat) : Int) := by omega
          have HROW := Lib.hid (show Row E wr g (A ++ (srt (byT (lessOf cf)) (S.take (e + 2)) ++ (R ++ B))) by
            rw [← DONE.out (Or.inl rfl)]; simpa using hrow)
          have HT2 := Lib.hid ht
          clear hrow ht
          go_wp2_with fail
          go_quiet ((fail))
          go_wp2_with fail
          go_roundw
          case rel => exact ⟨i + 1, e + 1, by push_cast; rfl, by have := HII.out; omega, Or.inr HEE.out, by have h := HROW.out; rw [HRR.out] at h; exact h, Only.drewN HT2.out _⟩
          case measure => simp [intOf]; omega
        · obtain ⟨c, rfl⟩ : ∃ c, q = c + 1 := ⟨q - 1, by omega⟩
          obtain ⟨p, hp⟩ : ∃ p : Nat, p = al + c := ⟨_, rfl⟩
          rw [show ((al + (c + 1) : Nat) : Int) = (p : Int) + 1 by omega]
          have d1 : (al : Int) < (p : Int) + 1 := by omega
          have hcX : c < X.length := by have := HXL.out; omega
          have d2 : (p : Int) + 1 < (N : Int) := by have := HNR.out; omega
          have d3 : (p : Int) < (N : Int) := by omega
          obtain ⟨r, hr⟩ : ∃ r : Nat, r = p + 1 := ⟨_, rfl⟩
          have e0 : ((p : Int) + 1).toNat = r := by omega
          have e2 : p ≠ r := by omega
          have hd : X.drop c = X[c] :: X.drop (c + 1) := List.drop_eq_getElem_cons hcX
          have htk : X.take (c + 1) = X.take c ++ [X[c]] := by rw [List.take_add_one, List.getElem?_eq_getElem hcX]; rfl
          obtain ⟨z, hz⟩ : ∃ z, z = X[c] := ⟨_, rfl⟩
          rw [← hz] at hd htk
          have hrow2 : Row E wr g ((A ++ X.take c) ++ z :: y :: (X.drop (c + 1) ++ (R ++ B))) := by rw [htk] at hrow; simpa using hrow
          have hpl : p = (A ++ X.take c).length := by rw [List.length_append, List.length_take]; have := HAL.out; omega
          have c1 := hrow2.at (i := p) (v := z) (by rw [hpl]; exact (two_at _ _ _ _).1)
          have c2 := hrow2.at (i := r) (v := y) (by rw [hr, hpl]; exact (two_at _ _ _ _).2)
          have hzn : z < n := hXn z (by rw [hz]; exact List.getElem_mem _)
          have HC := Lib.hid (fun k : Nat => hc (wr.drewN k) y z (Only.drewN ht k) hyn hzn)
          have HP := Lib.hid hp
          have HZ := Lib.hid hz
          have HROW := Lib.hid hrow2
          have HT2 := Lib.hid ht
          have HCX := Lib.hid hcX
          have HQ := Lib.hid hq
          have HNE := Lib.hid e2
          have HC1 := Lib.hid c1
          have HC2 := Lib.hid c2
          obtain ⟨c10, c11, c12, c13, c14⟩ := c1
          obtain ⟨c20, c21, c22, c23, c24⟩ := c2
          by_cases hcf : cf y z < 0
          · have g1 : decide (cf y z < 0) = true := by simpa using hcf
            have ST := Lib.hid (show (((A ++ X.take c) ++ z :: y :: (X.drop (c + 1) ++ (R ++ B))).set r z).set p y = A ++ (X.take c ++ y :: (X.drop c ++ (R ++ B))) by
              rw [List.set_comm _ _ (by omega : r ≠ p), hr, hpl, swap_two, hd]; simp)
            have hmix : Tryz.prog.follows .mixedOrders = true := by kernel_rfl
            have FR := Lib.hid hrow2.free
            clear hp hr hrow hrow2 ht hd htk hz hpl hq hzn hq0
            go_wp2_with fail
            refine (wpIn_wide (n := 10)).1 ?_
            refine Qt.quiet_tail_wide 14 (by kernel_rfl) (by kernel_rfl) (by kernel_rfl) (by kernel_rfl) (by kernel_rfl) (by kernel_rfl) (by kernel_rfl) (by kernel_rfl) ?_
            simp only [List.take_succ_cons, List.take_zero, List.drop_succ_cons, List.drop_zero]
            repeat (any_goals (first | go_big_quiet_step (fail) | quiet_step (fail)))
            refine wpQuiet_nil ?_
            rintro w9 ⟨nq, rfl⟩
            gi_wp2_with ((first | (refine ⟨trivial, fun h => (by cases h), ?_⟩) | (refine ⟨trivial, ?_⟩) | (refine ⟨fun h => (by cases h), ?_⟩) | skip); gi_at_call 46; refine (callsIn_wide.2 (HC.out _)).mono ?_; rintro e w3 ⟨rfl, t3⟩)
            have TW := Lib.hid ((Only.drewN (Turn.refl _ wr) nq).trans t3 (fun _ _ q => q))
            clear t3
            have HROW2 := Lib.hid (HROW.out.only TW.out)
            have HT3 := Lib.hid (HT2.out.trans TW.out (fun _ _ q => q))
            clear c10 c11 c12 c13 c14 c20 c21 c22 c23 c24 HROW HT2 FR
            have c1 := HC1.out.later TW.out
            have c2 := HC2.out.later TW.out
            obtain ⟨c10, c11, c12, c13, c14⟩ := c1
            obtain ⟨c20, c21, c22, c23, c24⟩ := c2
            have fz := HROW2.out.free
            obtain ⟨ex, hex⟩ : ∃ ex, E y = ex := ⟨_, rfl⟩
            obtain ⟨ey, hey⟩ : ∃ ey, E z = ey := ⟨_, rfl⟩
            rw [hey] at c10 c11 c12 c13 c14
            rw [hex] at c20 c21 c22 c23 c24
            have KEY := Lib.hid (HROW2.out.two HT3.out hg r z p y hex hey)
            clear hex hey
            go_wp2_with fail
            go_big_region_o
            rw [twoW_eq]
            obtain ⟨W5, hW5⟩ : ∃ W5, twoW w3 g r p ey ex = W5 := ⟨_, rfl⟩
            rw [hW5] at KEY ⊢
            clear hW5 c10 c11 c12 c13 c14 c20 c21 c22 c23 c24 fz
            go_wp2
            go_roundw
            case rel => exact ⟨c, by have := HQ.out; omega, by congr 1; have := HP.out; omega, Lib.hid (Or.inr ⟨HCX.out, by simp only [← HZ.out]; exact g1⟩), by rw [← ST.out]; exact KEY.out.1, KEY.out.2⟩
            case measure => simp [intOf]
          · have g1 : decide (cf y z < 0) = false := by simpa using hcf
            have HROW := Lib.hid (show Row E wr g (A ++ (srt (byT (lessOf cf)) (S.take (e + 2)) ++ (R ++ B))) by
              rw [← DONE.out (Or.inr ⟨hcX, by simp only [Nat.add_sub_cancel, ← hz]; exact g1⟩)]; simpa using hrow)
            clear hp hr hrow hrow2 ht hd htk hz hpl hq hzn hq0
            go_wp2_with fail
            refine (wpIn_wide (n := 10)).1 ?_
            refine Qt.quiet_tail_wide 14 (by kernel_rfl) (by kernel_rfl) (by kernel_rfl) (by kernel_rfl) (by kernel_rfl) (by kernel_rfl) (by kernel_rfl) (by kernel_rfl) ?_
            simp only [List.take_succ_cons, List.take_zero, List.drop_succ_cons, List.drop_zero]
            repeat (any_goals (first | go_big_quiet_step (fail) | quiet_step (fail)))
            refine wpQuiet_nil ?_
            rintro w9 ⟨nq, rfl⟩
            gi_wp2_with ((first | (refine ⟨trivial, fun h => (by cases h), ?_⟩) | (refine ⟨trivial, ?_⟩) | (refine ⟨fun h => (by cases h), ?_⟩) | skip); gi_at_call 46; refine (callsIn_wide.2 (HC.out _)).mono ?_; rintro e w3 ⟨rfl, t3⟩)
            have TW := Lib.hid ((Only.drewN (Turn.refl _ wr) nq).trans t3 (fun _ _ q => q))
            clear t3
            go_wp2_with fail
            go_roundw
            case rel => exact ⟨i + 1, e + 1, by push_cast; rfl, by have := HII.out; omega, Or.inr HEE.out, by have h := HROW.out; rw [HRR.out] at h; exact h.only TW.out, HT2.out.trans TW.out (fun _ _ q => q)⟩
            case measure => simp [intOf]; omega
    · have k1 : ¬ (i : Int) < (En : Int) := by omega
      have hte : S.take (e + 1) = S := List.take_of_length_le (by have := HE.out; have := HSL.out; omega)
      have hde : S.drop (e + 1) = [] := List.drop_of_length_le (by have := HE.out; have := HSL.out; omega)
      rw [hte, hde] at hrow
      have HROW := Lib.hid hrow
      have HT2 := Lib.hid ht
      clear hrow ht hte hde
      go_wp2_with fail
      go_end0
      exact ⟨rfl, by simpa using HROW.out, HT2.out⟩
end Go.Proofs.YtnlanemldapfiaaGreat.st
