/-
  The document's sums, comparisons, ratios of amounts (exref6).
-/
import Derived.Test.YtopklnaahdjafaaGreatDoorMRef
import Derived.Test.YtopklnaahdjafaaGreatDoorMOps
import Derived.Test.YtopklnaahdjafaaGreatDoorBAtoi
import Derived.Test.YtopklnaahdjafaaGreatDoorBNear
import Derived.Deep.RegionHeld3
namespace Go.Proofs.YtopklnaahdjafaaGreatDoor
open Go.RowKit Go.Shelf Go.Maps Go.WideMaps
set_option linter.unusedVariables false

def uI (n : Int) : Int := if -9223372036854775808 ≤ n ∧ n < 9223372036854775808 then n else 0

theorem units_walk {b ok r : Bool} {s : Option Addr} {k c : Nat} {n : Int} {w : World} (BI : ∀ W, Only w W → Calls Tryz.prog 73 #[.agg #[.bool b, .slice s k c]] W fun e w' => e = .returned (.tuple #[.int .i64 n, .bool ok]) ∧ Only W w')
    (hr : (ok && decide (n ≤ 4611686018427387904) && decide (-4611686018427387904 ≤ n)) = r) :
    Calls Tryz.prog 60 #[.agg #[.bool b, .slice s k c]] w fun e w' => e = .returned (.tuple #[.int .i64 n, .bool r]) ∧ Only w w' := by
  have BI := Lib.hid BI
  have HR := Lib.hid hr
  have ht := (Only.refl w).alloc (boxOf b s k c)
  have o := Own2.new w (.bool b) (.slice s k c) 34
  obtain ⟨x1, x2, -, -, x3⟩ := o.all
  clear hr
  go_enter Tryz.func60, Tryz.ntmps60
  go_wp2_with fail
  go_at_call 73
  refine (BI.out _ ht).mono ?_
  rintro e w1 ⟨rfl, t1⟩
  have HT := Lib.hid (ht.trans t1)
  have hr := HR.out
  clear o x1 x2 x3 t1 ht HR
  cases ok
  · obtain rfl : r = false := by rw [← hr]; rfl
    clear hr
    go_wp2_with fail
    go_ret2
    exact ⟨by simp [*], HT.out⟩
  · by_cases h1 : n ≤ 4611686018427387904
    · by_cases h2 : -4611686018427387904 ≤ n
      · obtain rfl : r = true := by rw [← hr]; simp [h1, h2]
        clear hr
        go_wp2_with fail
        go_ret2
        exact ⟨by simp [*], HT.out⟩
      · obtain rfl : r = false := by rw [← hr]; simp [h2]
        clear hr
        go_wp2_with fail
        go_ret2
        exact ⟨by simp [*], HT.out⟩
    · obtain rfl : r = false := by rw [← hr]; simp [h1]
      clear hr
      go_wp2_with fail
      go_ret2
      exact ⟨by simp [*], HT.out⟩

theorem units_any {b : Bool} {s : Option Addr} {k c : Nat} {n : Int} {w : World} (h : BigR w b s k c n) (l : Lim n 5000) :
    Calls Tryz.prog 60 #[.agg #[.bool b, .slice s k c]] w fun e w' => e = .returned (.tuple #[.int .i64 (uI n), .bool (decide (Bd n))]) ∧ Only w w' := by
  by_cases hn : -9223372036854775808 ≤ n ∧ n < 9223372036854775808
  · have e2 : intOrNone n = .tuple #[.int .i64 (uI n), .bool true] := by unfold intOrNone uI; rw [if_pos hn, if_pos hn]
    have e1 : uI n = n := if_pos hn
    refine units_walk (n := uI n) (ok := true) (fun W t => ?_) ?_
    · have := bigInt_any (h.only t) l
      rw [e2] at this
      exact this
    · rw [e1]
      by_cases hb : Bd n
      · rw [decide_eq_true hb, decide_eq_true (show n ≤ 4611686018427387904 from hb.2), decide_eq_true (show -4611686018427387904 ≤ n from hb.1)]; rfl
      · rw [decide_eq_false hb]
        by_cases h1 : n ≤ 4611686018427387904
        · have h2 : ¬ -4611686018427387904 ≤ n := fun h => hb ⟨h, h1⟩
          rw [decide_eq_false h2, Bool.and_false]
        · rw [decide_eq_false h1, Bool.and_false, Bool.false_and]
  · have e2 : intOrNone n = .tuple #[.int .i64 (uI n), .bool false] := by unfold intOrNone uI; rw [if_neg hn, if_neg hn]
    refine units_walk (n := uI n) (ok := false) (fun W t => ?_) ?_
    · have := bigInt_any (h.only t) l
      rw [e2] at this
      exact this
    · rw [decide_eq_false (show ¬ Bd n from fun h => by obtain ⟨a, b⟩ := h; omega)]; rfl

abbrev UnIs (w : World) (b : Bool) (s : Option Addr) (k c : Nat) (n : Int) (r : Bool) : Prop := ∀ W, Only w W → Calls Tryz.prog 60 #[.agg #[.bool b, .slice s k c]] W fun e w' => e = .returned (.tuple #[.int .i64 n, .bool r]) ∧ Only W w'

theorem made_walk {b r : Bool} {s : Option Addr} {k c : Nat} {n : Int} {t : ByteArray} {w : World} (U : UnIs w b s k c n r) :
    Calls Tryz.prog 66 #[.agg #[.bool b, .slice s k c], .string t] w fun e w' => e = .returned (.tuple #[.agg #[.int .i64 (if r then n else 0), .string (if r then t else ⟨#[]⟩)], .int .i64 (if r then 0 else 16)]) ∧ Only w w' := by
  have U := Lib.hid U
  have ht := ((Only.refl w).alloc (boxOf b s k c)).alloc (.cells #[.int .i64 0, .string ⟨#[]⟩] 51)
  have o1 := (Own2.new w (.bool b) (.slice s k c) 34).alloc (.cells #[.int .i64 0, .string ⟨#[]⟩] 51)
  have o2 := Own2.new1 w (boxOf b s k c) (.int .i64 0) (.string ⟨#[]⟩) 51
  obtain ⟨x1, x2, -, -, x3⟩ := o1.all
  go_enter Tryz.func66, Tryz.ntmps66
  go_wp2_with fail
  go_at_call 60
  refine (U.out _ ht).mono ?_
  rintro e w1 ⟨rfl, t1⟩
  have ht := ht.trans t1
  obtain ⟨d1, d2, f1, f2, z1⟩ := (o2.only t1).all
  clear o1 o2 x1 x2 x3 t1
  cases r
  all_goals
    go_wp2_with fail
    simp [bodyPost, results, Tryz.results66, go_sem, World.cell?_setCell_other, d1, d2]
    exact (ht.set (by omega) 0 _).set (by omega) 1 _

theorem made_any {b : Bool} {s : Option Addr} {k c : Nat} {n : Int} (t : ByteArray) {w : World} (h : BigR w b s k c n) (l : Lim n 5000) :
    Calls Tryz.prog 66 #[.agg #[.bool b, .slice s k c], .string t] w fun e w' => e = .returned (.tuple #[.agg #[.int .i64 (okI (amE n) n), .string (okS (amE n) t)], .int .i64 (amE n)]) ∧ Only w w' := by
  have M := made_walk (t := t) (fun W hW => units_any (h.only hW) l)
  by_cases hb : Bd n
  · have e1 : amE n = 0 := if_pos hb
    have e2 : uI n = n := if_pos (by obtain ⟨a, b⟩ := hb; omega)
    rw [e1, okI_0, okS_0]
    simpa [hb, e2] using M
  · have e1 : amE n = 16 := if_neg hb
    rw [e1, okI_ne (by decide), okS_ne (by decide)]
    simpa [hb] using M

theorem boxesRRR (w : World) (u v : Int) (s t : ByteArray) : Only w (((w.alloc (.cells #[.int .i64 u, .string s] 51)).alloc (.cells #[.int .i64 v, .string t] 51)).alloc (.cells #[.int .i64 0, .string ⟨#[]⟩] 51)) ∧
    Own2 (((w.alloc (.cells #[.int .i64 u, .string s] 51)).alloc (.cells #[.int .i64 v, .string t] 51)).alloc (.cells #[.int .i64 0, .string ⟨#[]⟩] 51)) w.heap.size (.int .i64 u) (.string s) ∧
    Own2 (((w.alloc (.cells #[.int .i64 u, .string s] 51)).alloc (.cells #[.int .i64 v, .string t] 51)).alloc (.cells #[.int .i64 0, .string ⟨#[]⟩] 51)) (w.heap.size + 1) (.int .i64 v) (.string t) ∧
    Own2 (((w.alloc (.cells #[.int .i64 u, .string s] 51)).alloc (.cells #[.int .i64 v, .string t] 51)).alloc (.cells #[.int .i64 0, .string ⟨#[]⟩] 51)) (w.heap.size + 1 + 1) (.int .i64 0) (.string ⟨#[]⟩) :=
  ⟨(((Only.refl w).alloc _).alloc _).alloc _, ((Own2.new w _ _ _).alloc _).alloc _, (Own2.new1 w _ _ _ _).alloc _, Own2.new2 w _ _ _ _ _⟩

theorem radd_bad {u v e : Int} {s t : ByteArray} (T : TwoIs u s v t e) (h1 : (e == 0) = false) (h2 : (e != 0) = true) : AnsIs 29 #[.agg #[.int .i64 u, .string s], .agg #[.int .i64 v, .string t]] 0 ⟨#[]⟩ e := by
  intro w
  have T := Lib.hid T
  obtain ⟨ht, o1, o2, o3⟩ := boxesRRR w u v s t
  obtain ⟨x1, x2, -, -, x3⟩ := o1.all
  obtain ⟨y1, y2, -, -, y3⟩ := o2.all
  go_enter Tryz.func29, Tryz.ntmps29
  go_wp2_with fail
  go_at_call 65
  refine (T.out _).mono ?_
  rintro r w1 ⟨rfl, t1⟩
  have ht := ht.trans t1
  obtain ⟨d1, d2, f1, f2, z1⟩ := (o3.only t1).all
  clear o1 o2 o3 x1 x2 x3 y1 y2 y3 t1
  go_wp2_with fail
  simp [bodyPost, results, Tryz.results29, go_sem, World.cell?_setCell_other, d1, d2]
  exact (ht.set (by omega) 0 _).set (by omega) 1 _

set_option maxHeartbeats 1600000 in
theorem radd_good {u v n m e : Int} {s t d : ByteArray} (T : TwoIs u s v t 0) (B1 : ∀ W, Calls Tryz.prog 13 #[.int .i64 u] W (BigSays W u)) (B2 : ∀ W, Calls Tryz.prog 13 #[.int .i64 v] W (BigSays W v))
    (BA : ∀ W b s k c b' s' k' c', BigR W b s k c u → BigR W b' s' k' c' v → Calls Tryz.prog 48 #[.agg #[.bool b, .slice s k c], .agg #[.bool b', .slice s' k' c']] W (BigSays W n))
    (MD : ∀ W b s₁ k c, BigR W b s₁ k c n → Calls Tryz.prog 66 #[.agg #[.bool b, .slice s₁ k c], .string s] W fun r w' => r = .returned (.tuple #[.agg #[.int .i64 m, .string d], .int .i64 e]) ∧ Only W w') :
    AnsIs 29 #[.agg #[.int .i64 u, .string s], .agg #[.int .i64 v, .string t]] m d e := by
  intro w
  have T := Lib.hid T
  have B1 := Lib.hid B1
  have B2 := Lib.hid B2
  have BA := Lib.hid BA
  have MD := Lib.hid MD
  obtain ⟨ht, o1, o2, o3⟩ := boxesRRR w u v s t
  obtain ⟨x1, x2, -, -, x3⟩ := o1.all
  obtain ⟨y1, y2, -, -, y3⟩ := o2.all
  go_enter Tryz.func29, Tryz.ntmps29
  go_wp2_with fail
  go_at_call 65
  refine (T.out _).mono ?_
  rintro r w1 ⟨rfl, t1⟩
  replace o1 := o1.only t1
  replace o2 := o2.only t1
  replace o3 := o3.only t1
  replace ht := ht.trans t1
  clear x1 x2 x3 y1 y2 y3 t1
  go_upto_region 4 with (fail)
  refine wp_name (fun wx => Only w wx ∧ Own2 wx w.heap.size (.int .i64 u) (.string s) ∧ Own2 wx (w.heap.size + 1) (.int .i64 v) (.string t) ∧ Own2 wx (w.heap.size + 1 + 1) (.int .i64 0) (.string ⟨#[]⟩)) ⟨ht, o1, o2, o3⟩ ?_
  clear ht o1 o2 o3
  rintro wx ⟨ht, o1, o2, o3⟩
  have q1 := o1.drew
  have q2 := o2.drew
  obtain ⟨x1, x2, -, -, x3⟩ := o1.all
  obtain ⟨y1, y2, -, -, y3⟩ := o2.all
  go_region_held3 (fun w' => w'.cell? ⟨w.heap.size, 0, none⟩ = some (.int .i64 u) ∧ w'.cell? ⟨w.heap.size, 1, none⟩ = some (.string s) ∧ w'.cell? ⟨w.heap.size + 1, 0, none⟩ = some (.int .i64 v)) (first | with_reducible exact ⟨q1.c0, q1.c1, q2.c0⟩ | with_reducible exact ⟨p1.c0, p1.c1, p2.c0⟩ | exact ⟨((p1.far (by omega) 0 _).far (by omega) 1 _).c0, ((p1.far (by omega) 0 _).far (by omega) 1 _).c1, ((p2.far (by omega) 0 _).far (by omega) 1 _).c0⟩ | fail) (first | (go_at_call 13; (first | ((with_reducible refine (B1.out _).mono ?_); rintro r wA ⟨bA, sA, kA, cA, rfl, rA, tA⟩; have TT := (Only.refl wx).drew.trans tA; have p1 := q1.only tA; have p2 := q2.only tA; have p3 := o3.drew.only tA) | ((with_reducible refine (B2.out _).mono ?_); rintro r wB ⟨bB, sB, kB, cB, rfl, rB, tB⟩; have TT := TT.trans tB; have rA := rA.only tB; have p1 := p1.only tB; have p2 := p2.only tB; have p3 := p3.only tB))) | (go_at_call 48; refine (BA.out _ _ _ _ _ _ _ _ _ rA rB).mono ?_; rintro r wC ⟨bC, sC, kC, cC, rfl, rC, tC⟩; have TT := TT.trans tC; have p1 := p1.only tC; have p2 := p2.only tC; have p3 := p3.only tC) | (go_at_call 66; refine (MD.out _ _ _ _ _ rC).mono ?_; rintro r wD ⟨rfl, tD⟩; have TT := TT.trans tD; have p1 := p1.only tD; have p2 := p2.only tD; have p3 := p3.only tD; obtain ⟨g1, g2, g3, g4, g5⟩ := p3.all))
  all_goals
    have HT := Lib.hid (((ht.trans TT).set (p := w.heap.size + 1 + 1) (by omega) 0 (.int .i64 m)).set (p := w.heap.size + 1 + 1) (by omega) 1 (.string d))
    clear p1 p2 p3 TT q1 q2 o1 o2 o3 ht rA rB rC tA tB tC tD
    go_wp2
    simp [bodyPost, results, Tryz.results29, go_sem, World.cell?_setCell_other, g1, g2]
    exact HT.out

theorem rsub_bad {u v e : Int} {s t : ByteArray} (T : TwoIs u s v t e) (h1 : (e == 0) = false) (h2 : (e != 0) = true) : AnsIs 31 #[.agg #[.int .i64 u, .string s], .agg #[.int .i64 v, .string t]] 0 ⟨#[]⟩ e := by
  intro w
  have T := Lib.hid T
  obtain ⟨ht, o1, o2, o3⟩ := boxesRRR w u v s t
  obtain ⟨x1, x2, -, -, x3⟩ := o1.all
  obtain ⟨y1, y2, -, -, y3⟩ := o2.all
  go_enter Tryz.func31, Tryz.ntmps31
  go_wp2_with fail
  go_at_call 65
  refine (T.out _).mono ?_
  rintro r w1 ⟨rfl, t1⟩
  have ht := ht.trans t1
  obtain ⟨d1, d2, f1, f2, z1⟩ := (o3.only t1).all
  clear o1 o2 o3 x1 x2 x3 y1 y2 y3 t1
  go_wp2_with fail
  simp [bodyPost, results, Tryz.results31, go_sem, World.cell?_setCell_other, d1, d2]
  exact (ht.set (by omega) 0 _).set (by omega) 1 _

set_option maxHeartbeats 1600000 in
theorem rsub_good {u v n m e : Int} {s t d : ByteArray} (T : TwoIs u s v t 0) (B1 : ∀ W, Calls Tryz.prog 13 #[.int .i64 u] W (BigSays W u)) (B2 : ∀ W, Calls Tryz.prog 13 #[.int .i64 v] W (BigSays W v))
    (BA : ∀ W b s k c b' s' k' c', BigR W b s k c u → BigR W b' s' k' c' v → Calls Tryz.prog 11 #[.agg #[.bool b, .slice s k c], .agg #[.bool b', .slice s' k' c']] W (BigSays W n))
    (MD : ∀ W b s₁ k c, BigR W b s₁ k c n → Calls Tryz.prog 66 #[.agg #[.bool b, .slice s₁ k c], .string s] W fun r w' => r = .returned (.tuple #[.agg #[.int .i64 m, .string d], .int .i64 e]) ∧ Only W w') :
    AnsIs 31 #[.agg #[.int .i64 u, .string s], .agg #[.int .i64 v, .string t]] m d e := by
  intro w
  have T := Lib.hid T
  have B1 := Lib.hid B1
  have B2 := Lib.hid B2
  have BA := Lib.hid BA
  have MD := Lib.hid MD
  obtain ⟨ht, o1, o2, o3⟩ := boxesRRR w u v s t
  obtain ⟨x1, x2, -, -, x3⟩ := o1.all
  obtain ⟨y1, y2, -, -, y3⟩ := o2.all
  go_enter Tryz.func31, Tryz.ntmps31
  go_wp2_with fail
  go_at_call 65
  refine (T.out _).mono ?_
  rintro r w1 ⟨rfl, t1⟩
  replace o1 := o1.only t1
  replace o2 := o2.only t1
  replace o3 := o3.only t1
  replace ht := ht.trans t1
  clear x1 x2 x3 y1 y2 y3 t1
  go_upto_region 4 with (fail)
  refine wp_name (fun wx => Only w wx ∧ Own2 wx w.heap.size (.int .i64 u) (.string s) ∧ Own2 wx (w.heap.size + 1) (.int .i64 v) (.string t) ∧ Own2 wx (w.heap.size + 1 + 1) (.int .i64 0) (.string ⟨#[]⟩)) ⟨ht, o1, o2, o3⟩ ?_
  clear ht o1 o2 o3
  rintro wx ⟨ht, o1, o2, o3⟩
  have q1 := o1.drew
  have q2 := o2.drew
  obtain ⟨x1, x2, -, -, x3⟩ := o1.all
  obtain ⟨y1, y2, -, -, y3⟩ := o2.all
  go_region_held3 (fun w' => w'.cell? ⟨w.heap.size, 0, none⟩ = some (.int .i64 u) ∧ w'.cell? ⟨w.heap.size, 1, none⟩ = some (.string s) ∧ w'.cell? ⟨w.heap.size + 1, 0, none⟩ = some (.int .i64 v)) (first | with_reducible exact ⟨q1.c0, q1.c1, q2.c0⟩ | with_reducible exact ⟨p1.c0, p1.c1, p2.c0⟩ | exact ⟨((p1.far (by omega) 0 _).far (by omega) 1 _).c0, ((p1.far (by omega) 0 _).far (by omega) 1 _).c1, ((p2.far (by omega) 0 _).far (by omega) 1 _).c0⟩ | fail) (first | (go_at_call 13; (first | ((with_reducible refine (B1.out _).mono ?_); rintro r wA ⟨bA, sA, kA, cA, rfl, rA, tA⟩; have TT := (Only.refl wx).drew.trans tA; have p1 := q1.only tA; have p2 := q2.only tA; have p3 := o3.drew.only tA) | ((with_reducible refine (B2.out _).mono ?_); rintro r wB ⟨bB, sB, kB, cB, rfl, rB, tB⟩; have TT := TT.trans tB; have rA := rA.only tB; have p1 := p1.only tB; have p2 := p2.only tB; have p3 := p3.only tB))) | (go_at_call 11; refine (BA.out _ _ _ _ _ _ _ _ _ rA rB).mono ?_; rintro r wC ⟨bC, sC, kC, cC, rfl, rC, tC⟩; have TT := TT.trans tC; have p1 := p1.only tC; have p2 := p2.only tC; have p3 := p3.only tC) | (go_at_call 66; refine (MD.out _ _ _ _ _ rC).mono ?_; rintro r wD ⟨rfl, tD⟩; have TT := TT.trans tD; have p1 := p1.only tD; have p2 := p2.only tD; have p3 := p3.only tD; obtain ⟨g1, g2, g3, g4, g5⟩ := p3.all))
  all_goals
    have HT := Lib.hid (((ht.trans TT).set (p := w.heap.size + 1 + 1) (by omega) 0 (.int .i64 m)).set (p := w.heap.size + 1 + 1) (by omega) 1 (.string d))
    clear p1 p2 p3 TT q1 q2 o1 o2 o3 ht rA rB rC tA tB tC tD
    go_wp2
    simp [bodyPost, results, Tryz.results31, go_sem, World.cell?_setCell_other, g1, g2]
    exact HT.out

theorem radd_any {u v : Int} (s t : ByteArray) (hu : I64 u) (hv : I64 v) : AnsIs 29 #[.agg #[.int .i64 u, .string s], .agg #[.int .i64 v, .string t]] (okI (sumE u s v t (u + v)) (u + v)) (okS (sumE u s v t (u + v)) s) (sumE u s v t (u + v)) := by
  have T := two_any u s v t
  have lu := Lim.of_i64 hu
  have lv := Lim.of_i64 hv
  unfold sumE
  by_cases h : besE u s v t = 0
  · rw [if_pos h]
    rw [h] at T
    exact radd_good T (fun W => bigOf_any hu.1 hu.2 W) (fun W => bigOf_any hv.1 hv.2 W) (fun W b s k c b' s' k' c' r1 r2 => bigAdd_any r1 r2 (lu.mono (by omega)) (lv.mono (by omega))) (fun W b s₁ k c r => made_any s r ((lu.add (lv)).mono (by omega)))
  · rw [if_neg h, okI_ne h, okS_ne h]
    exact radd_bad T (by simpa using h) (by simpa using h)
theorem rsub_any {u v : Int} (s t : ByteArray) (hu : I64 u) (hv : I64 v) : AnsIs 31 #[.agg #[.int .i64 u, .string s], .agg #[.int .i64 v, .string t]] (okI (sumE u s v t (u - v)) (u - v)) (okS (sumE u s v t (u - v)) s) (sumE u s v t (u - v)) := by
  have T := two_any u s v t
  have lu := Lim.of_i64 hu
  have lv := Lim.of_i64 hv
  unfold sumE
  by_cases h : besE u s v t = 0
  · rw [if_pos h]
    rw [h] at T
    exact rsub_good T (fun W => bigOf_any hu.1 hu.2 W) (fun W => bigOf_any hv.1 hv.2 W) (fun W b s k c b' s' k' c' r1 r2 => bigSub_any r1 r2 (lu.mono (by omega)) (lv.mono (by omega))) (fun W b s₁ k c r => made_any s r (by have := (lu.add (lv.neg)).mono (show 5 + 1 ≤ 5000 by omega); rwa [Int.sub_eq_add_neg]))
  · rw [if_neg h, okI_ne h, okS_ne h]
    exact rsub_bad T (by simpa using h) (by simpa using h)

theorem rcmp_bad {u v e : Int} {s t : ByteArray} (T : TwoIs u s v t e) (h1 : (e == 0) = false) (h2 : (e != 0) = true) (w : World) :
    Calls Tryz.prog 33 #[.agg #[.int .i64 u, .string s], .agg #[.int .i64 v, .string t]] w fun r w' => r = .returned (.tuple #[.int .i64 0, .int .i64 e]) ∧ Only w w' := by
  have T := Lib.hid T
  obtain ⟨ht, o1, o2⟩ := boxesRR w u v s t
  obtain ⟨x1, x2, -, -, x3⟩ := o1.all
  obtain ⟨y1, y2, -, -, y3⟩ := o2.all
  go_enter Tryz.func33, Tryz.ntmps33
  go_wp2_with fail
  go_at_call 65
  refine (T.out _).mono ?_
  rintro r w1 ⟨rfl, t1⟩
  have HT := Lib.hid (ht.trans t1)
  clear o1 o2 x1 x2 x3 y1 y2 y3 t1 ht
  go_wp2_with fail
  go_ret2
  exact ⟨rfl, HT.out⟩

set_option maxHeartbeats 1600000 in
theorem rcmp_good {u v n : Int} {s t : ByteArray} (T : TwoIs u s v t 0) (B1 : ∀ W, Calls Tryz.prog 13 #[.int .i64 u] W (BigSays W u)) (B2 : ∀ W, Calls Tryz.prog 13 #[.int .i64 v] W (BigSays W v))
    (BA : ∀ W b s k c b' s' k' c', BigR W b s k c u → BigR W b' s' k' c' v → Calls Tryz.prog 15 #[.agg #[.bool b, .slice s k c], .agg #[.bool b', .slice s' k' c']] W fun e w' => e = .returned (.int .i64 n) ∧ Only W w') (w : World) :
    Calls Tryz.prog 33 #[.agg #[.int .i64 u, .string s], .agg #[.int .i64 v, .string t]] w fun r w' => r = .returned (.tuple #[.int .i64 n, .int .i64 0]) ∧ Only w w' := by
  have T := Lib.hid T
  have B1 := Lib.hid B1
  have B2 := Lib.hid B2
  have BA := Lib.hid BA
  obtain ⟨ht, o1, o2⟩ := boxesRR w u v s t
  obtain ⟨x1, x2, -, -, x3⟩ := o1.all
  obtain ⟨y1, y2, -, -, y3⟩ := o2.all
  go_enter Tryz.func33, Tryz.ntmps33
  go_wp2_with fail
  go_at_call 65
  refine (T.out _).mono ?_
  rintro r w1 ⟨rfl, t1⟩
  replace o1 := o1.only t1
  replace o2 := o2.only t1
  replace ht := ht.trans t1
  clear x1 x2 x3 y1 y2 y3 t1
  go_upto_region 4 with (fail)
  refine wp_name (fun wx => Only w wx ∧ Own2 wx w.heap.size (.int .i64 u) (.string s) ∧ Own2 wx (w.heap.size + 1) (.int .i64 v) (.string t)) ⟨ht, o1, o2⟩ ?_
  clear ht o1 o2
  rintro wx ⟨ht, o1, o2⟩
  have q1 := o1.drew
  have q2 := o2.drew
  obtain ⟨x1, x2, -, -, x3⟩ := o1.all
  obtain ⟨y1, y2, -, -, y3⟩ := o2.all
  go_region_held3 (fun w' => w'.cell? ⟨w.heap.size, 0, none⟩ = some (.int .i64 u) ∧ w'.cell? ⟨w.heap.size + 1, 0, none⟩ = some (.int .i64 v)) (first | with_reducible exact ⟨q1.c0, q2.c0⟩ | with_reducible exact ⟨p1.c0, p2.c0⟩ | fail) (first | (go_at_call 13; (first | ((with_reducible refine (B1.out _).mono ?_); rintro r wA ⟨bA, sA, kA, cA, rfl, rA, tA⟩; have TT := (Only.refl wx).drew.trans tA; have p1 := q1.only tA; have p2 := q2.only tA) | ((with_reducible refine (B2.out _).mono ?_); rintro r wB ⟨bB, sB, kB, cB, rfl, rB, tB⟩; have TT := TT.trans tB; have rA := rA.only tB; have p1 := p1.only tB; have p2 := p2.only tB))) | (go_at_call 15; refine (BA.out _ _ _ _ _ _ _ _ _ rA rB).mono ?_; rintro r wC ⟨rfl, tC⟩; have TT := TT.trans tC; have p1 := p1.only tC; have p2 := p2.only tC))
  all_goals
    have HT := Lib.hid (ht.trans TT)
    clear p1 p2 TT q1 q2 o1 o2 ht rA rB tA tB tC
    go_wp2
    go_ret2
    exact ⟨rfl, HT.out⟩

theorem rcmp_any {u v : Int} (s t : ByteArray) (hu : I64 u) (hv : I64 v) (w : World) :
    Calls Tryz.prog 33 #[.agg #[.int .i64 u, .string s], .agg #[.int .i64 v, .string t]] w fun r w' => r = .returned (.tuple #[.int .i64 (okI (besE u s v t) (cmpI u v)), .int .i64 (besE u s v t)]) ∧ Only w w' := by
  have T := two_any u s v t
  have lu := Lim.of_i64 hu
  have lv := Lim.of_i64 hv
  by_cases h : besE u s v t = 0
  · rw [h] at T ⊢
    exact rcmp_good T (fun W => bigOf_any hu.1 hu.2 W) (fun W => bigOf_any hv.1 hv.2 W) (fun W b s k c b' s' k' c' r1 r2 => bigCmp_any r1 r2 (lu.mono (by omega)) (lv.mono (by omega))) w
  · rw [okI_ne h]
    exact rcmp_bad T (by simpa using h) (by simpa using h) w

set_option maxHeartbeats 1600000 in
theorem even_walk {a b c m n k : Int} {r : Bool} (B1 : ∀ W, Calls Tryz.prog 13 #[.int .i64 a] W (BigSays W a)) (B2 : ∀ W, Calls Tryz.prog 13 #[.int .i64 b] W (BigSays W b)) (B3 : ∀ W, Calls Tryz.prog 13 #[.int .i64 c] W (BigSays W c))
    (BM : ∀ W b₁ s k c b' s' k' c', BigR W b₁ s k c a → BigR W b' s' k' c' b → Calls Tryz.prog 12 #[.agg #[.bool b₁, .slice s k c], .agg #[.bool b', .slice s' k' c']] W (BigSays W m))
    (BE : ∀ W b₁ s k c₁ b' s' k' c', BigR W b₁ s k c₁ m → BigR W b' s' k' c' c → Calls Tryz.prog 106 #[.agg #[.bool b₁, .slice s k c₁], .agg #[.bool b', .slice s' k' c']] W (BigSays W n))
    (UN : ∀ W b s₁ k₁ c, BigR W b s₁ k₁ c n → Calls Tryz.prog 60 #[.agg #[.bool b, .slice s₁ k₁ c]] W fun e w' => e = .returned (.tuple #[.int .i64 k, .bool r]) ∧ Only W w') (w : World) :
    Calls Tryz.prog 71 #[.int .i64 a, .int .i64 b, .int .i64 c] w fun e w' => e = .returned (.tuple #[.int .i64 k, .bool r]) ∧ Only w w' := by
  have B1 := Lib.hid B1
  have B2 := Lib.hid B2
  have B3 := Lib.hid B3
  have BM := Lib.hid BM
  have BE := Lib.hid BE
  have UN := Lib.hid UN
  go_enter Tryz.func71, Tryz.ntmps71
  go_wp2_with fail
  go_at_call 13
  refine (B1.out _).mono ?_
  rintro e w1 ⟨b1, s1, k1, c1, rfl, r1, t1⟩
  go_wp2_with fail
  go_at_call 13
  refine (B2.out _).mono ?_
  rintro e w2 ⟨b2, s2, k2, c2, rfl, r2, t2⟩
  have r1 := r1.only t2
  go_wp2_with fail
  go_at_call 12
  refine (BM.out _ _ _ _ _ _ _ _ _ r1 r2).mono ?_
  rintro e w3 ⟨b3, s3, k3, c3, rfl, r3, t3⟩
  go_wp2_with fail
  go_at_call 13
  refine (B3.out _).mono ?_
  rintro e w4 ⟨b4, s4, k4, c4, rfl, r4, t4⟩
  have r3 := r3.only t4
  go_wp2_with fail
  go_at_call 106
  refine (BE.out _ _ _ _ _ _ _ _ _ r3 r4).mono ?_
  rintro e w5 ⟨b5, s5, k5, c5, rfl, r5, t5⟩
  go_wp2_with fail
  go_at_call 60
  refine (UN.out _ _ _ _ _ r5).mono ?_
  rintro e w6 ⟨rfl, t6⟩
  have HT := Lib.hid (((((t1.trans t2).trans t3).trans t4).trans t5).trans t6)
  clear r1 r2 r3 r4 r5 t1 t2 t3 t4 t5 t6
  go_wp2_with fail
  go_ret2
  exact ⟨rfl, HT.out⟩

theorem Lim.even2 {a d : Int} (l : Lim a 10) : Lim (evenOf a d) 4000 := l.even
theorem even_any {a b c : Int} (ha : I64 a) (hb : I64 b) (hc : I64 c) (h0 : c ≠ 0) (w : World) :
    Calls Tryz.prog 71 #[.int .i64 a, .int .i64 b, .int .i64 c] w fun e w' => e = .returned (.tuple #[.int .i64 (uI (nearI (a * b) c)), .bool (decide (Bd (nearI (a * b) c)))]) ∧ Only w w' := by
  have la := Lim.of_i64 ha
  have lb := Lim.of_i64 hb
  have lc := Lim.of_i64 hc
  have lm : Lim (a * b) 10 := la.mul lb
  have e : nearI (a * b) c = evenOf (a * b) c := evenOf_near (a * b) h0
  rw [e]
  exact even_walk (fun W => bigOf_any ha.1 ha.2 W) (fun W => bigOf_any hb.1 hb.2 W) (fun W => bigOf_any hc.1 hc.2 W) (fun W b₁ s k c b' s' k' c' r1 r2 => bigMul_any r1 r2 (la.mono (by omega)) (lb.mono (by omega)))
    (fun W b₁ s k c b' s' k' c' r1 r2 => bigEven_any r1 r2 (lm.mono (by omega)) (lc.mono (by omega)) h0) (fun W b s k c r => units_any r (lm.even2.mono (by omega))) w

theorem boxesRA (w : World) (u : Int) (s : ByteArray) : Only w ((w.alloc (.cells #[.int .i64 u, .string s] 51)).alloc (.cells #[.int .i64 0, .string ⟨#[]⟩] 51)) ∧
    Own2 ((w.alloc (.cells #[.int .i64 u, .string s] 51)).alloc (.cells #[.int .i64 0, .string ⟨#[]⟩] 51)) w.heap.size (.int .i64 u) (.string s) ∧
    Own2 ((w.alloc (.cells #[.int .i64 u, .string s] 51)).alloc (.cells #[.int .i64 0, .string ⟨#[]⟩] 51)) (w.heap.size + 1) (.int .i64 0) (.string ⟨#[]⟩) := boxesRR w u 0 s ⟨#[]⟩

theorem rratio_bad {u n d e : Int} {s : ByteArray} (C : ChkIs u s e) (h1 : (e == 0) = false) (h2 : (e != 0) = true) : AnsIs 35 #[.agg #[.int .i64 u, .string s], .int .i64 n, .int .i64 d] 0 ⟨#[]⟩ e := by
  intro w
  have C := Lib.hid C
  obtain ⟨ht, o1, o2⟩ := boxesRA w u s
  obtain ⟨x1, x2, -, -, x3⟩ := o1.all
  go_enter Tryz.func35, Tryz.ntmps35
  go_wp2_with fail
  go_at_call 21
  refine (C.out _).mono ?_
  rintro r w1 ⟨rfl, t1⟩
  have ht := ht.trans t1
  obtain ⟨d1, d2, f1, f2, z1⟩ := (o2.only t1).all
  clear o1 o2 x1 x2 x3 t1
  go_wp2_with fail
  simp [bodyPost, results, Tryz.results35, go_sem, World.cell?_setCell_other, d1, d2]
  exact (ht.set (by omega) 0 _).set (by omega) 1 _

theorem rratio_zero {u n : Int} {s : ByteArray} (C : ChkIs u s 0) : AnsIs 35 #[.agg #[.int .i64 u, .string s], .int .i64 n, .int .i64 0] 0 ⟨#[]⟩ 17 := by
  intro w
  have C := Lib.hid C
  obtain ⟨ht, o1, o2⟩ := boxesRA w u s
  obtain ⟨x1, x2, -, -, x3⟩ := o1.all
  go_enter Tryz.func35, Tryz.ntmps35
  go_wp2_with fail
  go_at_call 21
  refine (C.out _).mono ?_
  rintro r w1 ⟨rfl, t1⟩
  have ht := ht.trans t1
  obtain ⟨d1, d2, f1, f2, z1⟩ := (o2.only t1).all
  clear o1 o2 x1 x2 x3 t1
  go_wp2_with fail
  simp [bodyPost, results, Tryz.results35, go_sem, World.cell?_setCell_other, d1, d2]
  exact (ht.set (by omega) 0 _).set (by omega) 1 _

theorem rratio_good {u n d k : Int} {s : ByteArray} {b : Bool} (C : ChkIs u s 0) (hd : (d == 0) = false) (E : ∀ w, Calls Tryz.prog 71 #[.int .i64 u, .int .i64 n, .int .i64 d] w fun e w' => e = .returned (.tuple #[.int .i64 k, .bool b]) ∧ Only w w') :
    AnsIs 35 #[.agg #[.int .i64 u, .string s], .int .i64 n, .int .i64 d] (if b then k else 0) (if b then s else ⟨#[]⟩) (if b then 0 else 16) := by
  intro w
  have C := Lib.hid C
  have E := Lib.hid E
  obtain ⟨ht, o1, o2⟩ := boxesRA w u s
  obtain ⟨x1, x2, -, -, x3⟩ := o1.all
  go_enter Tryz.func35, Tryz.ntmps35
  go_wp2_with fail
  go_at_call 21
  refine (C.out _).mono ?_
  rintro r w1 ⟨rfl, t1⟩
  replace ht := ht.trans t1
  replace o1 := o1.only t1
  replace o2 := o2.only t1
  clear x1 x2 x3 t1
  obtain ⟨x1, x2, -, -, x3⟩ := o1.all
  go_wp2_with fail
  go_at_call 71
  refine (E.out _).mono ?_
  rintro r w2 ⟨rfl, t2⟩
  replace ht := ht.trans t2
  replace o1 := o1.only t2
  clear x1 x2 x3
  obtain ⟨x1, x2, -, -, x3⟩ := o1.all
  obtain ⟨d1, d2, f1, f2, z1⟩ := (o2.only t2).all
  clear o1 o2 t2
  cases b
  all_goals
    go_wp2_with fail
    simp [bodyPost, results, Tryz.results35, go_sem, World.cell?_setCell_other, d1, d2]
    exact (ht.set (by omega) 0 _).set (by omega) 1 _

theorem rratio_any {u n d : Int} (s : ByteArray) (hu : I64 u) (hn : I64 n) (hd : I64 d) : AnsIs 35 #[.agg #[.int .i64 u, .string s], .int .i64 n, .int .i64 d] (okI (ratE u s n d) (nearI (u * n) d)) (okS (ratE u s n d) s) (ratE u s n d) := by
  have C := check_any u s
  unfold ratE
  by_cases h : curE u s = 0
  · rw [if_pos h]
    rw [h] at C
    by_cases h0 : d = 0
    · subst h0
      exact rratio_zero C
    · rw [if_neg h0]
      have E := fun w => even_any hu hn hd h0 w
      have R := rratio_good C (by simpa using h0) E
      by_cases hb : Bd (nearI (u * n) d)
      · have e1 : amE (nearI (u * n) d) = 0 := if_pos hb
        have e2 : uI (nearI (u * n) d) = nearI (u * n) d := if_pos (by obtain ⟨a, b⟩ := hb; omega)
        rw [e1, okI_0, okS_0]
        simpa [hb, e2] using R
      · have e1 : amE (nearI (u * n) d) = 16 := if_neg hb
        rw [e1, okI_ne (by decide), okS_ne (by decide)]
        simpa [hb] using R
  · rw [if_neg h, okI_ne h, okS_ne h]
    exact rratio_bad C (by simpa using h) (by simpa using h)
end Go.Proofs.YtopklnaahdjafaaGreatDoor
