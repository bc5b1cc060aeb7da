/-
  slices.symMergeCmpFunc where the first run is one thing.
-/
import Derived.Test.YtnlanemldapfiaaGreatV5Cmp
import Derived.Test.YtnlanemldapfiaaGreatTRound3
import Derived.BigQuiet
namespace Go.Proofs.YtnlanemldapfiaaGreat.st
open Go.RowKit Go.Shelf Go.Proofs.YtnlanemldapfiaaGreat.se Go.Proofs.YtnlanemldapfiaaGreat.Tb Sorted
set_option linter.unusedVariables false
set_option linter.unusedSimpArgs false

/-- what is asked of the order's function: its answer is cf, and it turns nothing of what there was -/
def CmpIs (E : Nat → Ev) (w0 : World) (n : Nat) (cf : Nat → Nat → Int) : Prop :=
  ∀ (W : World) (x y : Nat), Only w0 W → x < n → y < n → Calls Tryz.prog 46 #[valV (E x), valV (E y)] W fun e w' => e = .returned (.int .i64 (cf x y)) ∧ Only W w'
/-- less, as its answer says it -/
def lessOf (cf : Nat → Nat → Int) (x y : Nat) : Bool := decide (cf x y < 0)

theorem two_at (P Q : List Nat) (u v : Nat) : (P ++ u :: v :: Q)[P.length]? = some u ∧ (P ++ u :: v :: Q)[P.length + 1]? = some v := by
  constructor
  · exact behind P (u :: v :: Q) 0
  · exact behind P (u :: v :: Q) 1
theorem swap_two (P Q : List Nat) (u v : Nat) : ((P ++ u :: v :: Q).set P.length v).set (P.length + 1) u = P ++ v :: u :: Q := by
  rw [List.set_append_right _ _ (Nat.le_refl _), Nat.sub_self, List.set_cons_zero, List.set_append_right _ _ (by omega), show P.length + 1 - P.length = 1 by omega, List.set_cons_succ, List.set_cons_zero]

set_option maxRecDepth 100000 in
set_option maxHeartbeats 1600000 in
theorem symOne_any {E : Nat → Ev} {w0 w : World} {g n : Nat} {cf : Nat → Nat → Int} (hw : Weak (lessOf cf)) (hc : CmpIs E w0 n cf) {A Y B : List Nat} {x : Nat} (hr : Row E w g (A ++ (x :: (Y ++ B)))) (t : Only w0 w) (hg : w0.heap.size ≤ g) (hy : Y.Pairwise (byT (lessOf cf))) (hx : ∀ y ∈ Y, x < y) (hn : ∀ i ∈ x :: Y, i < n)
    {N : Nat} (hN : N = (A ++ (x :: (Y ++ B))).length) (hl : N ≤ 1000000) {a m b : Int} (ha : a = A.length) (hm : m = A.length + 1) (hb : b = A.length + 1 + Y.length) {cap : Nat} :
    Calls Tryz.prog 97 #[.slice (some ⟨g, 0, none⟩) N cap, .int .i64 a, .int .i64 m, .int .i64 b, .func (.func 46) #[] #[]] w fun e w' => e = .returned (.tuple #[]) ∧ Row E w' g (A ++ (srt (byT (lessOf cf)) (x :: Y) ++ B)) ∧ Only w0 w' := by
  obtain ⟨al, hal⟩ : ∃ al : Nat, al = A.length := ⟨_, rfl⟩
  obtain ⟨yl, hyl⟩ : ∃ yl : Nat, yl = Y.length := ⟨_, rfl⟩
  rw [← hal] at ha hm hb
  rw [← hyl] at hb
  subst ha hm hb
  have hN' : al + (1 + (yl + B.length)) = N := by rw [hN]; simp; omega
  have i1 : (al : Int) + 1 - (al : Int) = 1 := by omega
  have i2 : (N : Int) ≤ 1000000 := by omega
  have i3 : (al : Int) + 1 + (yl : Int) ≤ (N : Int) := by omega
  have i4 : (0 : Int) ≤ (al : Int) := by omega
  have i5 : (0 : Int) ≤ (yl : Int) := by omega
  have HAL := Lib.hid hal
  have HYL := Lib.hid hyl
  have HN := Lib.hid hN'
  have HR := Lib.hid hr
  have HT := Lib.hid t
  clear hN hN' hal hyl hr t
  go_enter Tryz.func97, Tryz.ntmps97
  go_wp2_with fail
  go_loopw [10, 11, 12] (fun i j _ wx => ∃ s u : Nat, s ≤ u ∧ u ≤ yl ∧ i = .int .i64 ((al + 1 + s : Nat) : Int) ∧ j = .int .i64 ((al + 1 + u : Nat) : Int) ∧ Hid (s = 0 ∨ ∃ q : s - 1 < Y.length, lessOf cf Y[s - 1] x = true) ∧ Hid (u = yl ∨ ∃ q : u < Y.length, lessOf cf Y[u] x = false) ∧ Row E wx g (A ++ (x :: (Y ++ B))) ∧ Only w0 wx) (fun i j _ _ => (intOf j - intOf i).toNat)
  case atStart => exact ⟨0, yl, by omega, Nat.le_refl _, by push_cast; simp, by push_cast; rfl, Lib.hid (Or.inl rfl), Lib.hid (Or.inl rfl), HR.out, HT.out⟩
  case round =>
    obtain ⟨s, u, hsu, huy, rfl, rfl, h1, h2, hrow, ht⟩ := hrel
    obtain ⟨lo, hlo⟩ : ∃ lo : Nat, lo = al + 1 + s := ⟨_, rfl⟩
    obtain ⟨hi, hhi⟩ : ∃ hi : Nat, hi = al + 1 + u := ⟨_, rfl⟩
    rw [← hlo, ← hhi]
    have HLO := Lib.hid hlo
    have HHI := Lib.hid hhi
    by_cases hlt : s < u
    · have k1 : (lo : Int) < (hi : Int) := by omega
      obtain ⟨h, hh⟩ : ∃ h : Nat, h = (lo + hi) / 2 := ⟨_, rfl⟩
      have k2 : ((lo : Int) + (hi : Int)) / 2 = (h : Int) := by omega
      have k3 : (hi : Int) ≤ 1000000 := by omega
      have k4 : (h : Int) < (N : Int) := by omega
      have k5 : (al : Int) < (N : Int) := by omega
      have HROW := Lib.hid hrow
      have HT2 := Lib.hid ht
      have HH := Lib.hid hh
      have q1 : h < (A ++ (x :: (Y ++ B))).length := by have := HN.out; have := HAL.out; have := HYL.out; simp only [List.length_append, List.length_cons]; omega
      have q2 : al < (A ++ (x :: (Y ++ B))).length := by have := HN.out; have := HAL.out; have := HYL.out; simp only [List.length_append, List.length_cons]; omega
      have p0 : h - (al + 1) < Y.length := by have := HYL.out; omega
      have c1 := hrow.cell q1
      have c2 := hrow.cell q2
      have v1 : (A ++ (x :: (Y ++ B)))[h] = Y[h - (al + 1)] := by
        have e : h = A.length + (1 + (h - (al + 1))) := by have := HAL.out; omega
        have e2 : (A ++ (x :: (Y ++ B)))[h]? = Y[h - (al + 1)]? := by
          rw [show (A ++ (x :: (Y ++ B)))[h]? = (A ++ (x :: (Y ++ B)))[A.length + (1 + (h - (al + 1)))]? by rw [← e], behind, Nat.add_comm 1, List.getElem?_cons_succ, front p0]
        rw [List.getElem?_eq_getElem q1, List.getElem?_eq_getElem p0] at e2
        exact Option.some.inj e2
      have v2 : (A ++ (x :: (Y ++ B)))[al] = x := by
        have e2 : (A ++ (x :: (Y ++ B)))[al]? = some x := by
          rw [show (A ++ (x :: (Y ++ B)))[al]? = (A ++ (x :: (Y ++ B)))[A.length + 0]? by rw [HAL.out]; rfl, behind]; rfl
        rw [List.getElem?_eq_getElem q2] at e2
        exact Option.some.inj e2
      rw [v1] at c1
      rw [v2] at c2
      obtain ⟨z, hz⟩ : ∃ z, z = Y[h - (al + 1)] := ⟨_, rfl⟩
      rw [← hz] at c1
      have hzn : z < n := hn z (by rw [hz]; exact List.mem_cons_of_mem _ (List.getElem_mem _))
      have hxn : x < n := hn x (List.mem_cons_self ..)
      have HC := fun k : Nat => hc (wr.drewN k) z x (Only.drewN ht k) hzn hxn
      have HZ := Lib.hid hz
      have HC := Lib.hid HC
      have P0 := Lib.hid p0
      clear hlo hhi hrow ht hh v1 v2 hz q1 q2 hzn hxn
      obtain ⟨c10, c11, c12, c13, c14⟩ := c1
      obtain ⟨c20, c21, c22, c23, c24⟩ := c2
      by_cases hcf : cf z x < 0
      · have d1 : decide (cf z x < 0) = true := by simpa using hcf
        go_wp2_with fail
        refine (wpIn_wide (n := 10)).1 ?_
        refine Qt.quiet_tail_wide 9 (by kernel_rfl) (by kernel_rfl) (by kernel_rfl) (by kernel_rfl) (by kernel_rfl) (by kernel_rfl) (by kernel_rfl) (by kernel_rfl) ?_
        simp only [List.take_succ_cons, List.take_zero, List.drop_succ_cons, List.drop_zero]
        repeat (any_goals (first | go_big_quiet_step (fail) | quiet_step (fail)))
        refine wpQuiet_nil ?_
        rintro w9 ⟨nq, rfl⟩
        gi_wp2_with ((first | (refine ⟨trivial, fun h => (by cases h), ?_⟩) | (refine ⟨trivial, ?_⟩) | (refine ⟨fun h => (by cases h), ?_⟩) | skip); gi_at_call 46; refine (callsIn_wide.2 (HC.out _)).mono ?_; rintro e w3 ⟨rfl, t3⟩)
        have TW := Lib.hid ((Only.drewN (Turn.refl _ wr) nq).trans t3 (fun _ _ q => q))
        clear t3
        go_wp2_with fail
        go_roundw
        case rel => exact ⟨h + 1 - (al + 1), u, by have := HLO.out; have := HHI.out; have := HH.out; omega, huy, by congr 1; have := HLO.out; have := HHI.out; have := HH.out; omega, by rw [HHI.out], Lib.hid (Or.inr ⟨by have := P0.out; omega, by have e : h + 1 - (al + 1) - 1 = h - (al + 1) := (by omega); simp only [e, ← HZ.out]; exact d1⟩), h2, HROW.out.only TW.out, HT2.out.trans TW.out (fun _ _ q => q)⟩
        case measure => simp [intOf]; omega
      · have d1 : decide (cf z x < 0) = false := by simpa using hcf
        go_wp2_with fail
        refine (wpIn_wide (n := 10)).1 ?_
        refine Qt.quiet_tail_wide 9 (by kernel_rfl) (by kernel_rfl) (by kernel_rfl) (by kernel_rfl) (by kernel_rfl) (by kernel_rfl) (by kernel_rfl) (by kernel_rfl) ?_
        simp only [List.take_succ_cons, List.take_zero, List.drop_succ_cons, List.drop_zero]
        repeat (any_goals (first | go_big_quiet_step (fail) | quiet_step (fail)))
        refine wpQuiet_nil ?_
        rintro w9 ⟨nq, rfl⟩
        gi_wp2_with ((first | (refine ⟨trivial, fun h => (by cases h), ?_⟩) | (refine ⟨trivial, ?_⟩) | (refine ⟨fun h => (by cases h), ?_⟩) | skip); gi_at_call 46; refine (callsIn_wide.2 (HC.out _)).mono ?_; rintro e w3 ⟨rfl, t3⟩)
        have TW := Lib.hid ((Only.drewN (Turn.refl _ wr) nq).trans t3 (fun _ _ q => q))
        clear t3
        go_wp2_with fail
        go_roundw
        case rel => exact ⟨s, h - (al + 1), by have := HLO.out; have := HHI.out; have := HH.out; omega, by have := HLO.out; have := HHI.out; have := HH.out; omega, by rw [HLO.out], by congr 1; have := HLO.out; have := HHI.out; have := HH.out; omega, h1, Lib.hid (Or.inr ⟨P0.out, by simp only [← HZ.out]; exact d1⟩), HROW.out.only TW.out, HT2.out.trans TW.out (fun _ _ q => q)⟩
        case measure => simp [intOf]; omega
    · have hus : u = s := by omega
      subst hus
      have HROW := Lib.hid hrow
      have HT2 := Lib.hid ht
      have k1 : ¬ (lo : Int) < (hi : Int) := by omega
      clear hlo hhi hrow ht
      have SO := Lib.hid (srt_one (strict_by hw) (Y := Y) (x := x) hy (t := u) (by have := HYL.out; omega) (by
        rcases h1.out with e | ⟨q, e⟩
        · exact Or.inl e
        · exact Or.inr ⟨q, Or.inl e⟩) (by
        rcases h2.out with e | ⟨q, e⟩
        · exact Or.inl (by rw [e, HYL.out])
        · exact Or.inr ⟨q, (by_cross hw (hx _ (List.getElem_mem q))).1.2 e⟩)).1
      have HUY := Lib.hid huy
      obtain ⟨top, htop⟩ : ∃ top : Nat, top = al + u := ⟨_, rfl⟩
      have k5 : (lo : Int) - 1 = (top : Int) := by have := HLO.out; omega
      have k6 : (lo : Int) ≤ 1000000 := by have := HLO.out; omega
      have HTOP := Lib.hid htop
      clear huy h1 h2 hsu htop
      go_wp2_with fail
      go_loopw [13] (fun i wx => ∃ c : Nat, c ≤ u ∧ i = .int .i64 ((al + c : Nat) : Int) ∧ Row E wx g (A ++ (Y.take c ++ x :: (Y.drop c ++ B))) ∧ Only w0 wx) (fun i _ => top - (intOf i).toNat)
      case atStart => exact ⟨0, Nat.zero_le _, by simp, by simpa using HROW.out, HT2.out⟩
      case round =>
        clear HROW HT2
        obtain ⟨c, hcu, rfl, hrow, ht⟩ := hrel
        obtain ⟨p, hp⟩ : ∃ p : Nat, p = al + c := ⟨_, rfl⟩
        rw [← hp]
        by_cases hcl : c < u
        · have d1 : (p : Int) < (top : Int) := by have := HTOP.out; omega
          have hcY : c < Y.length := by have := HYL.out; have := HUY.out; omega
          have d2 : (p : Int) + 1 < (N : Int) := by have := HN.out; have := HYL.out; omega
          have d3 : (p : Int) < (N : Int) := by omega
          obtain ⟨r, hr⟩ : ∃ r : Nat, r = p + 1 := ⟨_, rfl⟩
          have e0 : ((p : Int) + 1).toNat = r := by omega
          have e2 : p ≠ r := by omega
          have hd : Y.drop c = Y[c] :: Y.drop (c + 1) := List.drop_eq_getElem_cons hcY
          have htk : Y.take (c + 1) = Y.take c ++ [Y[c]] := by rw [List.take_add_one, List.getElem?_eq_getElem hcY]; rfl
          obtain ⟨y, hy1⟩ : ∃ y, y = Y[c] := ⟨_, rfl⟩
          rw [← hy1] at hd htk
          have hrow2 : Row E wr g ((A ++ Y.take c) ++ x :: y :: (Y.drop (c + 1) ++ B)) := by rw [hd] at hrow; simpa using hrow
          have hpl : p = (A ++ Y.take c).length := by rw [List.length_append, List.length_take]; have := HAL.out; omega
          have c1 := hrow2.at (i := p) (v := x) (by rw [hpl]; exact (two_at _ _ _ _).1)
          have c2 := hrow2.at (i := r) (v := y) (by rw [hr, hpl]; exact (two_at _ _ _ _).2)
          have f1 := hrow2.free p
          have f2 := hrow2.free r
          have ST := Lib.hid (show (((A ++ Y.take c) ++ x :: y :: (Y.drop (c + 1) ++ B)).set p y).set r x = A ++ (Y.take (c + 1) ++ x :: (Y.drop (c + 1) ++ B)) by
            rw [hr, hpl, swap_two, htk]; simp)
          have HROW := Lib.hid hrow2
          have HT2 := Lib.hid ht
          have HNE := Lib.hid e2
          have HP := Lib.hid hp
          have HRR := Lib.hid hr
          have hc1 : c + 1 ≤ u := hcl
          have hmix : Tryz.prog.follows .mixedOrders = true := by kernel_rfl
          clear hp hr hrow hrow2 ht hd htk hy1 hpl
          obtain ⟨c10, c11, c12, c13, c14⟩ := c1
          obtain ⟨c20, c21, c22, c23, c24⟩ := c2
          have fz := HROW.out.free
          obtain ⟨ex, hex⟩ : ∃ ex, E x = ex := ⟨_, rfl⟩
          obtain ⟨ey, hey⟩ : ∃ ey, E y = ey := ⟨_, rfl⟩
          rw [hex] at c10 c11 c12 c13 c14
          rw [hey] at c20 c21 c22 c23 c24
          have KEY := Lib.hid (HROW.out.two HT2.out hg p y r x hex hey)
          clear hex hey
          go_wp2_with fail
          go_big_region_o
          rw [twoW_eq]
          obtain ⟨W5, hW5⟩ : ∃ W5, twoW wr g p r ey ex = W5 := ⟨_, rfl⟩
          rw [hW5] at KEY ⊢
          clear hW5 c10 c11 c12 c13 c14 c20 c21 c22 c23 c24 fz
          go_wp2
          go_roundw
          case rel => exact ⟨c + 1, hc1, by congr 1; have := HP.out; omega, by rw [← ST.out]; exact KEY.out.1, KEY.out.2⟩
          case measure => simp [intOf]; omega
        · have hcu2 : c = u := by omega
          subst hcu2
          have d1 : ¬ (p : Int) < (top : Int) := by have := HTOP.out; omega
          have HROW := Lib.hid hrow
          have HT2 := Lib.hid ht
          clear hp hrow ht hcl
          go_wp2_with fail
          (try simp only [Exit.inBlock, Exit.then])
          refine bodyPost_ret (results_none rfl _ _ _) rfl ?_
          exact ⟨rfl, by rw [← SO.out]; simpa using HROW.out, HT2.out⟩
end Go.Proofs.YtnlanemldapfiaaGreat.st
