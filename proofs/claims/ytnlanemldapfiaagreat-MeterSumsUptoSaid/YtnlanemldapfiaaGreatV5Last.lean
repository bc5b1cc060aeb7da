/-
  slices.symMergeCmpFunc where the second run is one thing.
-/
import Derived.Test.YtnlanemldapfiaaGreatV5One
namespace Go.Proofs.YtnlanemldapfiaaGreat.st
open Go.RowKit Go.Shelf Go.Proofs.YtnlanemldapfiaaGreat.se Go.Proofs.YtnlanemldapfiaaGreat.Tb Sorted
set_option linter.unusedVariables false
set_option linter.unusedSimpArgs false

set_option maxRecDepth 100000 in
set_option maxHeartbeats 1600000 in
theorem symLast_any {E : Nat → Ev} {w0 w : World} {g n : Nat} {cf : Nat → Nat → Int} (hw : Weak (lessOf cf)) (hc : CmpIs E w0 n cf) {A X B : List Nat} {y : Nat} (hr : Row E w g (A ++ (X ++ (y :: B)))) (t : Only w0 w) (hg : w0.heap.size ≤ g) (hx2 : X.length ≠ 1) (hy : X.Pairwise (byT (lessOf cf))) (hx : ∀ x ∈ X, x < y) (hn : ∀ i ∈ y :: X, i < n)
    {N : Nat} (hN : N = (A ++ (X ++ (y :: B))).length) (hl : N ≤ 1000000) {a m b : Int} (ha : a = A.length) (hm : m = A.length + X.length) (hb : b = A.length + X.length + 1) {cap : Nat} :
    Calls Tryz.prog 97 #[.slice (some ⟨g, 0, none⟩) N cap, .int .i64 a, .int .i64 m, .int .i64 b, .func (.func 46) #[] #[]] w fun e w' => e = .returned (.tuple #[]) ∧ Row E w' g (A ++ (srt (byT (lessOf cf)) (X ++ [y]) ++ B)) ∧ Only w0 w' := by
  obtain ⟨al, hal⟩ : ∃ al : Nat, al = A.length := ⟨_, rfl⟩
  obtain ⟨yl, hyl⟩ : ∃ yl : Nat, yl = X.length := ⟨_, rfl⟩
  rw [← hal] at ha hm hb
  rw [← hyl] at hb hm hx2
  subst ha hm hb
  have hN' : al + (1 + (yl + B.length)) = N := by rw [hN]; simp; omega
  have i1 : (al : Int) + (yl : Int) - (al : Int) = (yl : Int) := by omega
  have i6 : ¬ (yl : Int) = 1 := by omega
  have i8 : ((yl : Int) == 1) = false := by rw [beq_eq_false_iff_ne]; exact i6
  have i7 : (al : Int) + (yl : Int) + 1 - ((al : Int) + (yl : Int)) = 1 := by omega
  have i2 : (N : Int) ≤ 1000000 := by omega
  have i3 : (al : Int) + (yl : Int) + 1 ≤ (N : Int) := by omega
  have i4 : (0 : Int) ≤ (al : Int) := by omega
  have i5 : (0 : Int) ≤ (yl : Int) := by omega
  have HAL := Lib.hid hal
  have HYL := Lib.hid hyl
  have HN := Lib.hid hN'
  have HR := Lib.hid hr
  have HT := Lib.hid t
  have HX2 := Lib.hid hx2
  clear hN hN' hal hyl hr t hx2
  go_enter Tryz.func97, Tryz.ntmps97
  go_wp2_with fail
  go_loopw [14, 15, 16] (fun i j _ wx => ∃ s u : Nat, s ≤ u ∧ u ≤ yl ∧ i = .int .i64 ((al + s : Nat) : Int) ∧ j = .int .i64 ((al + u : Nat) : Int) ∧ Hid (s = 0 ∨ ∃ q : s - 1 < X.length, lessOf cf y X[s - 1] = false) ∧ Hid (u = yl ∨ ∃ q : u < X.length, lessOf cf y X[u] = true) ∧ Row E wx g (A ++ (X ++ (y :: B))) ∧ Only w0 wx) (fun i j _ _ => (intOf j - intOf i).toNat)
  case atStart => exact ⟨0, yl, by omega, Nat.le_refl _, by push_cast; simp, by push_cast; rfl, Lib.hid (Or.inl rfl), Lib.hid (Or.inl rfl), HR.out, HT.out⟩
  case round =>
    obtain ⟨s, u, hsu, huy, rfl, rfl, h1, h2, hrow, ht⟩ := hrel
    obtain ⟨lo, hlo⟩ : ∃ lo : Nat, lo = al + s := ⟨_, rfl⟩
    obtain ⟨hi, hhi⟩ : ∃ hi : Nat, hi = al + u := ⟨_, rfl⟩
    rw [← hlo, ← hhi]
    have HLO := Lib.hid hlo
    have HHI := Lib.hid hhi
    by_cases hlt : s < u
    · have k1 : (lo : Int) < (hi : Int) := by omega
      obtain ⟨h, hh⟩ : ∃ h : Nat, h = (lo + hi) / 2 := ⟨_, rfl⟩
      have k2 : ((lo : Int) + (hi : Int)) / 2 = (h : Int) := by omega
      have k3 : (hi : Int) ≤ 1000000 := by omega
      have k4 : (h : Int) < (N : Int) := by omega
      have k5 : (al : Int) + (yl : Int) < (N : Int) := by omega
      have k7 : ((al : Int) + (yl : Int)).toNat = al + yl := by omega
      have HROW := Lib.hid hrow
      have HT2 := Lib.hid ht
      have HH := Lib.hid hh
      have p0 : h - al < X.length := by have := HYL.out; omega
      have w1 : (A ++ (X ++ (y :: B)))[h]? = some X[h - al] := by
        have e : h = A.length + (h - al) := by have := HAL.out; omega
        rw [show (A ++ (X ++ (y :: B)))[h]? = (A ++ (X ++ (y :: B)))[A.length + (h - al)]? by rw [← e], behind, front p0, List.getElem?_eq_getElem p0]
      have w2 : (A ++ (X ++ (y :: B)))[al + yl]? = some y := by
        rw [HAL.out, HYL.out, behind]
        exact behind X (y :: B) 0
      have c1 := hrow.at w1
      have c2 := hrow.at w2
      obtain ⟨md, hmd⟩ : ∃ md, md = al + yl := ⟨_, rfl⟩
      rw [← hmd] at c2 k7
      obtain ⟨z, hz⟩ : ∃ z, z = X[h - al] := ⟨_, rfl⟩
      rw [← hz] at c1
      have hzn : z < n := hn z (by rw [hz]; exact List.mem_cons_of_mem _ (List.getElem_mem _))
      have hyn : y < n := hn y (List.mem_cons_self ..)
      have HC := fun k : Nat => hc (wr.drewN k) y z (Only.drewN ht k) hyn hzn
      have HZ := Lib.hid hz
      have HC := Lib.hid HC
      have P0 := Lib.hid p0
      clear hlo hhi hrow ht hh w1 w2 hz hzn hyn hmd
      obtain ⟨c10, c11, c12, c13, c14⟩ := c1
      obtain ⟨c20, c21, c22, c23, c24⟩ := c2
      by_cases hcf : cf y z < 0
      · have d1 : decide (cf y z < 0) = true := by simpa using hcf
        go_wp2_with fail
        refine (wpIn_wide (n := 10)).1 ?_
        refine Qt.quiet_tail_wide 9 (by kernel_rfl) (by kernel_rfl) (by kernel_rfl) (by kernel_rfl) (by kernel_rfl) (by kernel_rfl) (by kernel_rfl) (by kernel_rfl) ?_
        simp only [List.take_succ_cons, List.take_zero, List.drop_succ_cons, List.drop_zero]
        repeat (any_goals (first | go_big_quiet_step (fail) | quiet_step (fail)))
        refine wpQuiet_nil ?_
        rintro w9 ⟨nq, rfl⟩
        gi_wp2_with ((first | (refine ⟨trivial, fun h => (by cases h), ?_⟩) | (refine ⟨trivial, ?_⟩) | (refine ⟨fun h => (by cases h), ?_⟩) | skip); gi_at_call 46; refine (callsIn_wide.2 (HC.out _)).mono ?_; rintro e w3 ⟨rfl, t3⟩)
        have TW := Lib.hid ((Only.drewN (Turn.refl _ wr) nq).trans t3 (fun _ _ q => q))
        clear t3
        go_wp2_with fail
        go_roundw
        case rel => exact ⟨s, h - al, by have := HLO.out; have := HHI.out; have := HH.out; omega, by have := HLO.out; have := HHI.out; have := HH.out; omega, by rw [HLO.out], by congr 1; have := HLO.out; have := HHI.out; have := HH.out; omega, h1, Lib.hid (Or.inr ⟨P0.out, by simp only [← HZ.out]; exact d1⟩), HROW.out.only TW.out, HT2.out.trans TW.out (fun _ _ q => q)⟩
        case measure => simp [intOf]; omega
      · have d1 : decide (cf y z < 0) = false := by simpa using hcf
        go_wp2_with fail
        refine (wpIn_wide (n := 10)).1 ?_
        refine Qt.quiet_tail_wide 9 (by kernel_rfl) (by kernel_rfl) (by kernel_rfl) (by kernel_rfl) (by kernel_rfl) (by kernel_rfl) (by kernel_rfl) (by kernel_rfl) ?_
        simp only [List.take_succ_cons, List.take_zero, List.drop_succ_cons, List.drop_zero]
        repeat (any_goals (first | go_big_quiet_step (fail) | quiet_step (fail)))
        refine wpQuiet_nil ?_
        rintro w9 ⟨nq, rfl⟩
        gi_wp2_with ((first | (refine ⟨trivial, fun h => (by cases h), ?_⟩) | (refine ⟨trivial, ?_⟩) | (refine ⟨fun h => (by cases h), ?_⟩) | skip); gi_at_call 46; refine (callsIn_wide.2 (HC.out _)).mono ?_; rintro e w3 ⟨rfl, t3⟩)
        have TW := Lib.hid ((Only.drewN (Turn.refl _ wr) nq).trans t3 (fun _ _ q => q))
        clear t3
        go_wp2_with fail
        go_roundw
        case rel => exact ⟨h + 1 - al, u, by have := HLO.out; have := HHI.out; have := HH.out; omega, huy, by congr 1; have := HLO.out; have := HHI.out; have := HH.out; omega, by rw [HHI.out], Lib.hid (Or.inr ⟨by have := P0.out; omega, by have e : h + 1 - al - 1 = h - al := (by omega); simp only [e, ← HZ.out]; exact d1⟩), h2, HROW.out.only TW.out, HT2.out.trans TW.out (fun _ _ q => q)⟩
        case measure => simp [intOf]; omega
    · have hus : u = s := by omega
      subst hus
      have HROW := Lib.hid hrow
      have HT2 := Lib.hid ht
      have k1 : ¬ (lo : Int) < (hi : Int) := by omega
      have SO := Lib.hid (srt_one (strict_by hw) (Y := X) (x := y) hy (t := u) (by have := HYL.out; omega) (by
        rcases h1.out with e | ⟨q, e⟩
        · exact Or.inl e
        · exact Or.inr ⟨q, (by_cross hw (hx _ (List.getElem_mem q))).1.2 e⟩) (by
        rcases h2.out with e | ⟨q, e⟩
        · exact Or.inl (by rw [e, HYL.out])
        · exact Or.inr ⟨q, Or.inl e⟩)).2
      have HUY := Lib.hid huy
      have k6 : (lo : Int) ≤ 1000000 := by have := HLO.out; omega
      clear huy h1 h2 hsu hlo hhi hrow ht
      go_wp2_with fail
      go_loopw [17] (fun i wx => ∃ c : Nat, u ≤ c ∧ c ≤ yl ∧ i = .int .i64 ((al + c : Nat) : Int) ∧ Row E wx g (A ++ (X.take c ++ y :: (X.drop c ++ B))) ∧ Only w0 wx) (fun i _ => (intOf i).toNat)
      case atStart => exact ⟨yl, by have := HUY.out; omega, Nat.le_refl _, by push_cast; rfl, by rw [HYL.out, List.take_length, List.drop_length]; simpa using HROW.out, HT2.out⟩
      case round =>
        clear HROW HT2
        obtain ⟨c, hcu, hcy, rfl, hrow, ht⟩ := hrel
        by_cases hcl : u < c
        · obtain ⟨c, rfl⟩ : ∃ e, c = e + 1 := ⟨c - 1, by omega⟩
          obtain ⟨p, hp⟩ : ∃ p : Nat, p = al + c := ⟨_, rfl⟩
          rw [show ((al + (c + 1) : Nat) : Int) = (p : Int) + 1 by omega]
          have d1 : (lo : Int) < (p : Int) + 1 := by have := HLO.out; omega
          have hcY : c < X.length := by have := HYL.out; omega
          have d2 : (p : Int) + 1 < (N : Int) := by have := HN.out; omega
          have d3 : (p : Int) < (N : Int) := by omega
          obtain ⟨r, hr⟩ : ∃ r : Nat, r = p + 1 := ⟨_, rfl⟩
          have e0 : ((p : Int) + 1).toNat = r := by omega
          have e2 : p ≠ r := by omega
          have hd : X.drop c = X[c] :: X.drop (c + 1) := List.drop_eq_getElem_cons hcY
          have htk : X.take (c + 1) = X.take c ++ [X[c]] := by rw [List.take_add_one, List.getElem?_eq_getElem hcY]; rfl
          obtain ⟨z, hz⟩ : ∃ z, z = X[c] := ⟨_, rfl⟩
          rw [← hz] at hd htk
          have hrow2 : Row E wr g ((A ++ X.take c) ++ z :: y :: (X.drop (c + 1) ++ B)) := by rw [htk] at hrow; simpa using hrow
          have hpl : p = (A ++ X.take c).length := by rw [List.length_append, List.length_take]; have := HAL.out; omega
          have c1 := hrow2.at (i := p) (v := z) (by rw [hpl]; exact (two_at _ _ _ _).1)
          have c2 := hrow2.at (i := r) (v := y) (by rw [hr, hpl]; exact (two_at _ _ _ _).2)
          have f1 := hrow2.free p
          have f2 := hrow2.free r
          have ST := Lib.hid (show (((A ++ X.take c) ++ z :: y :: (X.drop (c + 1) ++ B)).set r z).set p y = A ++ (X.take c ++ y :: (X.drop c ++ B)) by
            rw [List.set_comm _ _ (by omega : r ≠ p), hr, hpl, swap_two, hd]; simp)
          have HROW := Lib.hid hrow2
          have HT2 := Lib.hid ht
          have HNE := Lib.hid e2
          have HP := Lib.hid hp
          have hc1 : u ≤ c := by omega
          have hc2 : c ≤ yl := by omega
          have hmix : Tryz.prog.follows .mixedOrders = true := by kernel_rfl
          clear hp hr hrow hrow2 ht hd htk hz hpl hcu hcy hcl
          obtain ⟨c10, c11, c12, c13, c14⟩ := c1
          obtain ⟨c20, c21, c22, c23, c24⟩ := c2
          have fz := HROW.out.free
          obtain ⟨ex, hex⟩ : ∃ ex, E y = ex := ⟨_, rfl⟩
          obtain ⟨ey, hey⟩ : ∃ ey, E z = ey := ⟨_, rfl⟩
          rw [hey] at c10 c11 c12 c13 c14
          rw [hex] at c20 c21 c22 c23 c24
          have KEY := Lib.hid (HROW.out.two HT2.out hg r z p y hex hey)
          clear hex hey
          go_wp2_with fail
          go_big_region_o
          rw [twoW_eq]
          obtain ⟨W5, hW5⟩ : ∃ W5, twoW wr g r p ey ex = W5 := ⟨_, rfl⟩
          rw [hW5] at KEY ⊢
          clear hW5 c10 c11 c12 c13 c14 c20 c21 c22 c23 c24 fz
          go_wp2
          go_roundw
          case rel => exact ⟨c, hc1, hc2, by congr 1; have := HP.out; omega, by rw [← ST.out]; exact KEY.out.1, KEY.out.2⟩
          case measure => simp [intOf]
        · have hcu2 : c = u := by omega
          subst hcu2
          have d1 : ¬ (lo : Int) < ((al + c : Nat) : Int) := by have := HLO.out; omega
          have HROW := Lib.hid hrow
          have HT2 := Lib.hid ht
          obtain ⟨p, hp⟩ : ∃ p : Nat, p = al + c := ⟨_, rfl⟩
          rw [← hp] at d1 ⊢
          clear hp hrow ht hcl hcu hcy
          go_wp2_with fail
          (try simp only [Exit.inBlock, Exit.then])
          refine bodyPost_ret (results_none rfl _ _ _) rfl ?_
          exact ⟨rfl, by rw [← SO.out]; simpa using HROW.out, HT2.out⟩
end Go.Proofs.YtnlanemldapfiaaGreat.st
