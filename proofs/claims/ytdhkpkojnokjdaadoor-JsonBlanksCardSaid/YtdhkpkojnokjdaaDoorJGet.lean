/-
  Get: a member's copy; a value is the same as itself.
-/
import Derived.Test.YtdhkpkojnokjdaaDoorJCopied
namespace Go.Proofs.YtdhkpkojnokjdaaDoor
open Go.RowKit Go.Maps Go.WideMaps Go.Shelf
set_option linter.unusedVariables false
set_option linter.unusedSimpArgs false

theorem eqAll_self {f : GV → GV → Bool} (h : ∀ x, f x x = true) : ∀ l, eqAll f l l = true
  | [] => rfl
  | x :: r => by rw [eqAll, h, eqAll_self h r]; rfl
theorem memAll_self {f : GV → GV → Bool} (h : ∀ x, f x x = true) (l : List GV) (ns : List (List UInt8)) : ∀ os, memAll f l l ns ns os os = true
  | [] => rfl
  | i :: r => by rw [memAll, h, memAll_self h l ns r]; simp
theorem sameG_self : ∀ (n : Nat) (x : GV), sameG n x x = true
  | 0, _ => rfl
  | n + 1, .mk k t l ns => by
    have ih := sameG_self n
    unfold sameG
    rw [if_neg (by simp)]
    split
    · simp
    · split
      · rw [eqAll_self ih]; simp
      · split
        · rw [if_neg (by simp)]; exact memAll_self ih l ns _
        · rfl
/-- a value is the same as itself -/
theorem same_self {x : GV} {w : World} {a b : Value} (ha : GIn w x a) (hb : GIn w x b) (sx : Slim x) : Calls Tryd.prog 13 #[a, b] w fun e w' => e = .returned (.bool true) ∧ Only w w' := by
  have := same_any (SizeOf.sizeOf x + 1) x x w a b (Nat.lt_succ_self _) ha hb sx sx
  rw [sameG_self] at this
  exact this

/-- what Get answers -/
def GetRes (k : Int) (l : List GV) (ns : List (List UInt8)) (t : List UInt8) (lo : Nat) (e : Ending) (w' : World) : Prop :=
  (∃ (i : Nat) (h : i < l.length) (v' : Value), k = 6 ∧ idxL t ns = (i : Int) ∧ e = .returned (.tuple #[v', .bool true]) ∧ Mine (fun _ => False) lo w'.heap.size w' l[i] v') ∨
  ((k ≠ 6 ∨ idxL t ns < 0 ∨ (l.length : Int) ≤ idxL t ns) ∧ e = .returned (.tuple #[.agg #[.int .i64 0, .string ⟨#[]⟩, .slice none 0 0, .slice none 0 0], .bool false]))

set_option maxRecDepth 100000 in
set_option maxHeartbeats 3200000 in
theorem get_any {k : Int} {t0 t : List UInt8} {l : List GV} {ns : List (List UInt8)} {v : Value} {w : World} (hx : GIn w (.mk k t0 l ns) v) (sx : Slim (.mk k t0 l ns)) : Calls Tryd.prog 20 #[v, txt t] w fun e w' => GetRes k l ns t w.heap.size e w' ∧ Only w w' := by
  unfold Slim at sx
  obtain ⟨-, s2, s3, -, s5⟩ := sx
  unfold GIn at hx
  obtain ⟨L, N, rfl, ⟨sp, cap, rfl, hc⟩, hN⟩ := hx
  have hN' := hN
  obtain ⟨sq, cq, rfl, -, -⟩ := hN'
  obtain ⟨W2, hW2⟩ : ∃ W2, W2 = (w.alloc (.cells #[.int .i64 k, txt t0, .slice sp l.length cap, .slice sq ns.length cq] 25)).alloc zero4 := ⟨_, rfl⟩
  have O1 : Own4 W2 w.heap.size (.int .i64 k) (txt t0) (.slice sp l.length cap) (.slice sq ns.length cq) := by
    rw [hW2]; exact (Own4.new w _ _ _ _ 25).only ((Only.refl _).alloc _)
  have O2 : Own4 W2 (w.heap.size + 1) (.int .i64 0) (.string ⟨#[]⟩) nilS nilS := by
    rw [hW2]
    have := Own4.new (w.alloc (.cells #[.int .i64 k, txt t0, .slice sp l.length cap, .slice sq ns.length cq] 25)) (.int .i64 0) (.string ⟨#[]⟩) nilS nilS 25
    simpa using this
  have T2 : Only w W2 := by rw [hW2]; exact ((Only.refl w).alloc _).alloc _
  have IX := Lib.hid (fun W (tW : Only w W) => index_any (t := t) (hN.only tW) (by omega))
  have SL := Lib.hid (fun i (h : i < l.length) => s5.at_ i h)
  have HC := Lib.hid hc
  have HW2 := Lib.hid hW2
  have HO1 := Lib.hid O1
  have HO2 := Lib.hid O2
  have HT2 := Lib.hid T2
  have i1 : (l.length : Int) ≤ 1000000 := by omega
  have hrg := idxL_range t ns
  obtain ⟨z, hz⟩ : ∃ z, z = idxL t ns := ⟨_, rfl⟩
  rw [← hz] at IX hrg
  have HZ := Lib.hid hz
  have iz1 : -1 ≤ z := hrg.1
  have iz2 : z ≤ 1000 := by omega
  obtain ⟨⟨x0, x1, x2, x3⟩, -⟩ := O1.all
  obtain ⟨⟨y0, y1, y2, y3⟩, f0, f1, f2, f3⟩ := O2.all
  rw [hW2] at x0 x1 x2 x3 y0 y1 y2 y3 f0 f1 f2 f3
  clear O1 O2 T2 hN hc hW2 s2 s3 s5 hz hrg
  by_cases hk : k = 6
  · subst hk
    by_cases hin : z < 0 ∨ (l.length : Int) ≤ z
    · have HIN := Lib.hid hin
      rcases hin with h1 | h1
      · have d1 : decide (z < 0) = true := decide_eq_true h1
        go_enter Tryd.func20, Tryd.ntmps20
        go_wp2_with fail
        rw [← HW2.out]
        refine (IX.out _ HT2.out).mono ?_
        rintro r w3 ⟨rfl, t3⟩
        obtain ⟨⟨x0, x1, x2, x3⟩, -⟩ := (HO1.out.only t3).all
        have O3 := Lib.hid ((HO2.out.only t3).set (.int .i64 0) (.string ⟨#[]⟩) nilS nilS)
        obtain ⟨⟨p0, p1, p2, p3⟩, -⟩ := O3.out.all
        obtain ⟨⟨y0, y1, y2, y3⟩, f0, f1, f2, f3⟩ := (HO2.out.only t3).all
        have HT3 := Lib.hid (HT2.out.trans t3)
        go_wp2_with fail
        simp [bodyPost, results, Tryd.results20, go_sem, p0, p1, p2, p3]
        exact ⟨Or.inr ⟨Or.inr (by rw [← HZ.out]; exact HIN.out), rfl⟩, (((HT3.out.set (p := w.heap.size + 1) (by omega) 0 _).set (p := w.heap.size + 1) (by omega) 1 _).set (p := w.heap.size + 1) (by omega) 2 _).set (p := w.heap.size + 1) (by omega) 3 _⟩
      · have d1 : decide (z < 0) = false := decide_eq_false (by omega)
        have d2 : decide ((l.length : Int) ≤ z) = true := decide_eq_true h1
        go_enter Tryd.func20, Tryd.ntmps20
        go_wp2_with fail
        rw [← HW2.out]
        refine (IX.out _ HT2.out).mono ?_
        rintro r w3 ⟨rfl, t3⟩
        obtain ⟨⟨x0, x1, x2, x3⟩, -⟩ := (HO1.out.only t3).all
        have O3 := Lib.hid ((HO2.out.only t3).set (.int .i64 0) (.string ⟨#[]⟩) nilS nilS)
        obtain ⟨⟨p0, p1, p2, p3⟩, -⟩ := O3.out.all
        obtain ⟨⟨y0, y1, y2, y3⟩, f0, f1, f2, f3⟩ := (HO2.out.only t3).all
        have HT3 := Lib.hid (HT2.out.trans t3)
        go_wp2_with fail
        simp [bodyPost, results, Tryd.results20, go_sem, p0, p1, p2, p3]
        exact ⟨Or.inr ⟨Or.inr (by rw [← HZ.out]; exact HIN.out), rfl⟩, (((HT3.out.set (p := w.heap.size + 1) (by omega) 0 _).set (p := w.heap.size + 1) (by omega) 1 _).set (p := w.heap.size + 1) (by omega) 2 _).set (p := w.heap.size + 1) (by omega) 3 _⟩
    · obtain ⟨i, rfl⟩ : ∃ i : Nat, z = (i : Int) := ⟨z.toNat, by omega⟩
      have hil : i < l.length := by omega
      have d1 : decide ((i : Int) < 0) = false := decide_eq_false (by omega)
      have d3 : ¬ ((i : Int) < 0) := by omega
      have d2 : decide ((l.length : Int) ≤ (i : Int)) = false := decide_eq_false (by omega)
      have d4 : (i : Int) < (l.length : Int) := by omega
      rcases HC.out with h0 | ⟨g, off, rfl, hcell⟩
      · rw [h0] at hil; simp at hil
      go_enter Tryd.func20, Tryd.ntmps20
      go_wp2_with fail
      rw [← HW2.out]
      refine (IX.out _ HT2.out).mono ?_
      rintro r w3 ⟨rfl, t3⟩
      have HT3 := Lib.hid (HT2.out.trans t3)
      obtain ⟨⟨x0, x1, x2, x3⟩, -⟩ := (HO1.out.only t3).all
      obtain ⟨c0, c1, c2, c3, ⟨q0, q1, q2, q3⟩, hgx⟩ := GCells.at_ (GCells.only HT3.out l hcell) i hil
      obtain ⟨k9, t9, sp9, n9, m9, sq9, u9, v9, rfl, rfl, rfl, rfl⟩ := GIn.shape hgx
      have e1 : (⟨g, off, none⟩ : Addr).add (i * 4) = ⟨g, off + i * 4, none⟩ := add_at _ _ _
      have CP := Lib.hid (copied_any (SizeOf.sizeOf (l[i]'hil) + 1) (l[i]'hil) (Nat.lt_succ_self _) w3 _ hgx (SL.out i hil))
      have o3 := HO2.out.only t3
      have HO3 := Lib.hid o3
      clear hgx hcell t3 o3
      go_wp2_with fail
      refine CP.out.mono ?_
      rintro r w4 ⟨⟨v', rfl, hm⟩, t4⟩
      obtain ⟨kk, tt, ss, nn, mm, su, uu, zz, rfl⟩ := hm.gin.form
      have O4 := Lib.hid ((HO3.out.only t4).set (.int .i64 kk) (txt tt) (.slice ss nn mm) (.slice su uu zz))
      obtain ⟨⟨p0, p1, p2, p3⟩, -⟩ := O4.out.all
      obtain ⟨⟨y0, y1, y2, y3⟩, f0, f1, f2, f3⟩ := (HO3.out.only t4).all
      have hlo : w.heap.size + 2 ≤ w3.heap.size := by have h1 := HT3.out.size; have h2 := (HO3.out).lt; omega
      have HM := Lib.hid (show Mine (fun _ => False) w.heap.size (put4 w4 (w.heap.size + 1) 0 (.int .i64 kk) (txt tt) (.slice ss nn mm) (.slice su uu zz)).heap.size (put4 w4 (w.heap.size + 1) 0 (.int .i64 kk) (txt tt) (.slice ss nn mm) (.slice su uu zz)) (l[i]'hil) (.agg #[.int .i64 kk, txt tt, .slice ss nn mm, .slice su uu zz]) from hm.mono (by omega) (by rw [put4_size]; exact Nat.le_refl _) (fun _ _ _ q => q) fun q q1 q2 _ => put4_heap (by omega))
      have HT4 := Lib.hid ((HT3.out.trans t4).put4 (g := w.heap.size + 1) (by omega) 0 (.int .i64 kk) (txt tt) (.slice ss nn mm) (.slice su uu zz))
      clear hm t4
      go_wp2_with fail
      simp [bodyPost, results, Tryd.results20, go_sem, p0, p1, p2, p3]
      exact ⟨Or.inl ⟨i, hil, _, rfl, HZ.out.symm, rfl, HM.out⟩, HT4.out⟩
  · have d0 : (k != 6) = true := by rw [bne_iff_ne]; exact hk
    have O3 := Lib.hid (HO2.out.set (.int .i64 0) (.string ⟨#[]⟩) nilS nilS)
    obtain ⟨⟨p0, p1, p2, p3⟩, -⟩ := O3.out.all
    rw [HW2.out] at p0 p1 p2 p3
    go_enter Tryd.func20, Tryd.ntmps20
    go_wp2_with fail
    simp [bodyPost, results, Tryd.results20, go_sem, p0, p1, p2, p3]
    refine ⟨Or.inr ⟨Or.inl hk, rfl⟩, ?_⟩
    rw [← HW2.out]
    exact HT2.out
end Go.Proofs.YtdhkpkojnokjdaaDoor
