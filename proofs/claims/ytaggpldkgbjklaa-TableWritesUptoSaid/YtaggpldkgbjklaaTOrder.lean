/-
  OF THE LAWS: TableOrder.
-/
import Derived.Test.YtaggpldkgbjklaaTInts
import Derived.Test.YtaggpldkgbjklaaTFirst
import Derived.RangeFuncFrom
import Derived.RangeFuncBox
import Derived.Maps.AppendAt
namespace Go.Proofs.Ytaggpldkgbjklaa
open Go.RowKit Go.Maps Go.WideMaps Go.Shelf Go.Proofs.Ytaggpldkgbjklaa.Tb
attribute [local go_sem] Oper.semAt_some

theorem infoInt : (Try.prog.info? 3).map (fun i => (i.zero, i.size, i.bytes)) = some (some (.int .i64 0), 1, 8) := by kernel_rfl

section
variable {w w' : World} {Q : Nat → Prop}

theorem own_block {base : Nat} {e : TypeId} {size n : Nat} {v : Value} {xs : List Value} (h : w.ownsRow base e size v n xs) {r : Nat} (hr : v.ownBlock = some r) : base ≤ r ∧ r < w.heap.size ∧ ∃ cur, w.heap[r]? = some (.cells cur e (0, 0)) := by
  rcases h.2 with ⟨rfl, _⟩ | ⟨g, cap, cur, rfl, hg, hh, _⟩
  · cases hr
  · simp [Value.ownBlock] at hr; subst hr
    exact ⟨hg, (Array.getElem?_eq_some_iff.1 hh).1, cur, hh⟩

/-- what has been collected in a box since W0 -/
def Coll (W0 : World) (B : Nat) (xs : List Int) (W : World) : Prop :=
  (∃ v, Boxed W B 55 v ∧ W.ownsRow W0.heap.size 3 1 v xs.length (xs.map intV)) ∧ Turn (fun b => b = B) W0 W

theorem Coll.own {W0 : World} {B : Nat} (hB : B < W0.heap.size) (f : List is.Pr → List Int) : OwnFrom W0.heap.size (fun pre W => Coll W0 B (f pre) W) := by
  rintro pre W W' row ⟨⟨v, hv, hr⟩, ht⟩ hg hrow
  refine ⟨⟨v, hv.kept hg (fun e => by have := (hrow _ e.symm).1; omega), ?_⟩, ht.grown hg (fun k e => Or.inr (hrow k e).1)⟩
  refine ownsRow_turned hr ((Turn.refl (fun b => row = some b) W).grown hg (fun k e => Or.inl e)) (fun r e q => ?_)
  obtain ⟨_, _, cur, hc⟩ := own_block hr e
  obtain ⟨_, o, ho, hn⟩ := hrow r q
  rw [hc] at ho; cases ho; cases hn

theorem Coll.step {W0 W w1 : World} {B : Nat} {xs : List Int} {v v' : Value} {tmp : Obj} {x : Int} (hB : B < W0.heap.size) (hv : Boxed W B 55 v) (hr : W.ownsRow W0.heap.size 3 1 v xs.length (xs.map intV)) (ht : Turn (fun b => b = B) W0 W)
    (hown : w1.ownsRow W0.heap.size 3 1 v' (xs.length + 1) (xs.map intV ++ [intV x])) (hg : (W.alloc tmp).grownBy w1 v.ownBlock) :
    Boxed w1 B 55 v ∧ KeepsOthers W (w1.setCell ⟨B, 0, none⟩ v') ∧ is.KeepsN W (w1.setCell ⟨B, 0, none⟩ v') ∧ Coll W0 B (xs ++ [x]) (w1.setCell ⟨B, 0, none⟩ v') := by
  have hne : some B ≠ v.ownBlock := hv.not_row (by decide) hr
  have hv1 : Boxed w1 B 55 v := (hv.alloc tmp).kept hg hne
  have t1 : Turn (fun b => v.ownBlock = some b) W w1 := ((Turn.refl _ W).alloc tmp).grown hg (fun k e => Or.inl e)
  have t2 : Turn (fun b => b = B ∨ v.ownBlock = some b) W (w1.setCell ⟨B, 0, none⟩ v') := Turn.set (Q := fun b => b = B ∨ v.ownBlock = some b) (t1.mono (fun _ e => Or.inr e)) B 0 (Or.inl (Or.inl rfl)) v'
  refine ⟨hv1, ?_, is.KeepsN.turn t2 (fun b cs fr q => ?_), ⟨⟨v', hv1.set v', ?_⟩, ?_⟩⟩
  · refine ((KeepsOthers.alloc W tmp).trans (KeepsOthers.of_grownBy hg fun j o ej hj => ?_)).trans (KeepsOthers.setCell _ _ _)
    obtain ⟨_, _, cur, hc⟩ := own_block (hr.alloc tmp) ej
    rw [hc] at hj; cases hj; rfl
  · rcases q with q | q
    · subst q
      have h0 : W.heap[b]? = some (.cells #[v] 55 (0, 0)) := hv
      rw [h0]; intro e; cases e
    · obtain ⟨_, _, cur, hc⟩ := own_block hr q
      rw [hc]; intro e; cases e
  · have h1 : w1.ownsRow W0.heap.size 3 1 v' (xs ++ [x]).length ((xs ++ [x]).map intV) := by
      rw [List.length_append, List.map_append]; exact hown
    exact ownsRow_turned h1 (turnB w1 B v') (fun r e q => by
      obtain ⟨h2, _, _⟩ := own_block h1 e
      omega)
  · refine ht.trans t2 (fun i hi q => ?_)
    rcases q with q | q
    · exact q
    · have := (own_block hr q).1; omega
where
  turnB (w1 : World) (B : Nat) (v' : Value) : Turn (fun b => b = B) w1 (w1.setCell ⟨B, 0, none⟩ v') := Turn.setCell (Turn.refl (fun b => b = B) w1) (p := ⟨B, 0, none⟩) (Or.inl rfl) v'

theorem undInts : Try.prog.underlying 55 = some (.slice 3) := by kernel_rfl

/-- a box that holds these numbers -/
def Has (W : World) (B : Nat) (xs : List Int) : Prop := ∃ base v, Boxed W B 55 v ∧ W.ownsRow base 3 1 v xs.length (xs.map intV)

theorem Coll.has {W0 : World} {B : Nat} {xs : List Int} (h : Coll W0 B xs w) : Has w B xs := by
  obtain ⟨⟨v, h1, h2⟩, _⟩ := h
  exact ⟨_, v, h1, h2⟩

theorem Has.other {B Y : Nat} {xs : List Int} (h : Has w B xs) (hY : ∃ u, Boxed w Y 55 u) (hne : B ≠ Y) (ht : Turn (fun b => b = Y) w w') : Has w' B xs := by
  obtain ⟨base, v, h1, h2⟩ := h
  obtain ⟨u, hu⟩ := hY
  refine ⟨base, v, (ht.block B h1.lt hne).trans h1, ownsRow_turned h2 ht (fun r e q => ?_)⟩
  obtain ⟨_, _, cur, hc⟩ := own_block h2 e
  subst q
  have hu' : w.heap[r]? = some (.cells #[u] 55 (0, 0)) := hu
  rw [hu'] at hc
  cases hc

theorem Has.same {B : Nat} {xs : List Int} (h : Has w B xs) (ht : Turn (fun _ => False) w w') : Has w' B xs := by
  obtain ⟨base, v, h1, h2⟩ := h
  exact ⟨base, v, (ht.block B h1.lt (fun q => q)).trans h1, ownsRow_turned h2 ht (fun _ _ q => q)⟩

theorem Has.ints {B : Nat} {xs : List Int} (h : Has w B xs) : ∃ v, w.cell? ⟨B, 0, none⟩ = some v ∧ IntsR w v xs := by
  obtain ⟨base, v, h1, h2⟩ := h
  exact ⟨v, h1.cell, IntsR.of_own h2⟩

theorem boxed_same {B : Nat} {t : TypeId} {v : Value} (h : Boxed w B t v) (ht : Turn (fun _ => False) w w') : Boxed w' B t v := (ht.block B h.lt (fun q => q)).trans h
theorem boxed_other {B Y : Nat} {t : TypeId} {v : Value} (h : Boxed w B t v) (ht : Turn (fun b => b = Y) w w') (hne : B ≠ Y) : Boxed w' B t v := (ht.block B h.lt hne).trans h

theorem TabC.ne_box {tp m rc : Nat} {X : Nat} {root : Option Addr} {ver : Int} {v : Value} (h : is.TabC w tp m rc root ver) (hX : Boxed w X 55 v) : tp ≠ X := by
  intro e
  subst e
  have h1 : w.heap[tp]? = some (.cells #[v] 55 (0, 0)) := hX
  unfold is.TabC at h
  rw [h1] at h
  cases h

theorem box_noNode {X : Nat} {v : Value} (hX : Boxed w X 55 v) : is.NoNode w (fun b => b = X) := by
  intro b cs fr q e
  subst q
  have h1 : w.heap[b]? = some (.cells #[v] 55 (0, 0)) := hX
  rw [h1] at e
  cases e

theorem Two.box {w0 : World} {a b : Nat} {ka kb : List Int} {X : Nat} {v : Value} (h : Two w0 w a b ka kb) (hX : Boxed w X 55 v) (hn : w0.heap.size ≤ X) (ht : Turn (fun b => b = X) w w') : Two w0 w' a b ka kb := by
  obtain ⟨ra, a1, _⟩ := h.ta
  obtain ⟨rb, b1, _⟩ := h.tb
  exact h.later ht (box_noNode hX) (TabC.ne_box (m := 0) (rc := 0) a1 hX) (TabC.ne_box (m := 0) (rc := 0) b1 hX) (fun i q => by omega)

/-- all has been collected -/
structure Fin (w0 w : World) (a b X Y : Nat) (ks : List Int) (D D2 : Nat) : Prop where
  two : Two w0 w a b ks ks.reverse
  x : Has w X (keysOf (putAll .nil ks))
  y : Has w Y (keysOf (putAll .nil ks.reverse))
  k1 : w.heap[D]? = some (.deferred (some []))
  k2 : w.heap[D2]? = some (.deferred (some []))
  new : w0.heap.size ≤ D
  next : D < D2

theorem Fin.same {w0 : World} {a b X Y D D2 : Nat} {ks : List Int} (h : Fin w0 w a b X Y ks D D2) (ht : Turn (fun _ => False) w w') : Fin w0 w' a b X Y ks D D2 :=
  ⟨h.two.same ht, h.x.same ht, h.y.same ht, turn_heap ht h.k1, turn_heap ht h.k2, h.new, h.next⟩

/-- a new table of numbers -/
theorem new_is (w : World) : Calls Try.prog 34 #[] w fun r w' => ∃ tp, r = .returned (.pointer (some ⟨tp, 0, none⟩)) ∧ w.heap.size ≤ tp ∧ tp < w'.heap.size ∧ is.TabC w' tp 0 0 none 0 ∧ Turn (fun _ => False) w w' := by
  refine (is.new_any w).mono ?_
  rintro r w' ⟨rfl, rfl⟩
  exact ⟨_, rfl, Nat.le_refl _, by simp, heap_alloc_new w _, turnBox w _⟩

/-- what goes over a table -/
theorem all_is (tp : Option Addr) (w : World) : Calls Try.prog 36 #[.pointer tp] w fun r w' => ∃ B1 B2, r = .returned (.func (.func 146) #[] #[.pointer (some ⟨B2, 0, none⟩)]) ∧
    w'.cell? ⟨B2, 0, none⟩ = some (.func (.func 96) #[] #[.pointer (some ⟨B1, 0, none⟩)]) ∧ w'.cell? ⟨B1, 0, none⟩ = some (.pointer tp) ∧ Turn (fun _ => False) w w' := by
  refine (is.tall_any tp w).mono ?_
  rintro r w' ⟨rfl, rfl⟩
  refine ⟨w.heap.size, w.heap.size + 1, rfl, ?_, ?_, (turnBox w _).trans (turnBox _ _) (fun _ _ q => q)⟩
  · have h := cell_new (w.alloc (.cells #[.pointer tp] 76)) #[.func (.func 96) #[] #[.pointer (some ⟨w.heap.size, 0, none⟩)]] 79 0
    rw [World.size_alloc] at h
    exact h
  · exact turn_cell (turnBox _ _) (cell_new w #[.pointer tp] 76 0)

theorem drop_rev {ks : List Int} {j : Nat} (h : j < ks.length) : (ks.drop (j + 1)).reverse ++ [ks[j]] = (ks.drop j).reverse := by
  rw [List.drop_eq_getElem_cons h, List.reverse_cons]

theorem take_one_more {ks : List Int} {k : Nat} (h : k < ks.length) : ks.take k ++ [ks[k]] = ks.take (k + 1) := by
  rw [List.take_succ_eq_append_getElem h]

set_option maxRecDepth 100000 in
set_option maxHeartbeats 4000000 in
theorem order_walk {v : Value} {ks : List Int} (hk : IntsR w v ks) (hl : ks.length ≤ 9223372036854775807) : Calls Try.prog 6 #[v] w fun r w' => r = .returned (.bool true) ∧ Turn (fun _ => False) w w' := by
  have HKS := Lib.hid hk
  obtain ⟨sp, cap, rfl, hkc⟩ := hk
  have HKC := Lib.hid hkc
  have i00 : (ks.length : Int) ≤ 9223372036854775807 := by omega
  clear hkc
  refine (callsIn_wide (n := 10)).1 ?_
  refine callsIn_of_wp_marks Try.func6 rfl trivial ?_ rfl
  simp only [Try.ntmps6, List.size_toArray, List.length_cons, List.length_nil, Nat.reduceAdd, Nat.reduceSub, Array.replicate_succ, Array.replicate_zero, List.push_toArray, List.append_toArray, List.nil_append, List.cons_append]
  refine wpIn_wide.2 ?_
  by_cases hlen : 200 < ks.length
  · have i1 : (200 : Int) < (ks.length : Int) := by omega
    clear hlen
    go_wp2_with (go_at_call 19; refine (first_any w).mono ?_; rintro r w1 ⟨rfl, ht⟩)
    exact ⟨_, results_tmp rfl _ _ _, rfl, ht⟩
  · have i1 : (ks.length : Int) ≤ 200 := by omega
    have hlen' : ks.length ≤ 200 := by omega
    clear hlen
    go_wp2_with (go_at_call 19; refine (first_any w).mono ?_; rintro r w1 ⟨rfl, ht⟩)
    go_at_call 34
    refine (new_is _).mono ?_
    rintro r w2 ⟨a, rfl, ha1, ha2, ha3, ht2⟩
    go_wp2_with fail
    go_at_call 34
    refine (new_is _).mono ?_
    rintro r w3 ⟨b, rfl, hb1, hb2, hb3, ht3⟩
    have htwo : Two w w3 a b [] [] := ⟨⟨none, ha3.later ht3 (fun q => q), rfl⟩, ⟨none, hb3, rfl⟩, by omega, by have := ht.size; omega, by have := ht.size; have := ht2.size; omega, (ht.trans ht2 (fun _ _ q => q)).trans ht3 (fun _ _ q => q)⟩
    have HT0 := Lib.hid htwo
    clear htwo ha1 ha2 ha3 hb1 hb2 hb3 ht ht2 ht3
    go_wp2_with fail
    go_loopw [6] (fun i wr => ∃ k : Nat, k ≤ ks.length ∧ i = .int .i64 k ∧ Two w wr a b (ks.take k) []) (fun i _ => ks.length - (intOf i).toNat)
    case atStart => exact ⟨0, Nat.zero_le _, rfl, HT0.out⟩
    case round =>
      obtain ⟨k, hk, rfl, htw⟩ := hrel
      by_cases hlt : k < ks.length
      · obtain ⟨ad, e1, x1⟩ := HKC.out (by omega)
        subst e1
        have cx := turn_cell htw.turn (x1 k ks[k] (List.getElem?_eq_getElem hlt))
        have i2 : (0 : Int) ≤ (k : Int) := by omega
        have i3 : (k : Int) < (ks.length : Int) := by omega
        have hput := htw.putA (by rw [List.length_take]; omega) ks[k]
        rw [take_one_more hlt] at hput
        have HP := Lib.hid hput
        unfold intV at cx
        generalize ks[k] = q at cx HP
        clear x1 htw hput
        go_wp2_with (go_at_call 35; refine HP.out.mono ?_; rintro r w' ⟨rfl, htw⟩; have HTW := Lib.hid htw; clear htw)
        go_roundw
        case rel => exact ⟨k + 1, by omega, by go_num, HTW.out⟩
        case measure => simp [intOf]; omega
      · have hk0 : k = ks.length := by omega
        subst hk0
        rw [List.take_length] at htw
        have HT1 := Lib.hid htw
        clear htw hk hlt
        go_wp2_with fail
        clear i00 i1
        go_loopw [7] (fun i wr => ∃ (j : Nat) (m : Int), j ≤ ks.length ∧ m = (j : Int) - 1 ∧ i = .int .i64 m ∧ Two w wr a b ks ((ks.drop j).reverse)) (fun i _ => (intOf i + 1).toNat)
        case atStart =>
          refine ⟨ks.length, (ks.length : Int) - 1, Nat.le_refl _, rfl, by go_num, ?_⟩
          have h := HT1.out
          rw [List.drop_length]; exact h
        case round =>
          obtain ⟨j, m, hj, hm, rfl, htw⟩ := hrel
          clear HT1
          by_cases hpos : 0 < j
          · obtain ⟨j, rfl⟩ : ∃ j', j = j' + 1 := ⟨j - 1, by omega⟩
            have hm' : m = (j : Int) := by omega
            subst hm'
            clear hm
            obtain ⟨ad, e1, x1⟩ := HKC.out (by omega)
            subst e1
            have cx := turn_cell htw.turn (x1 j ks[j] (List.getElem?_eq_getElem hj))
            have i2 : (0 : Int) ≤ (j : Int) := by omega
            have i3 : (j : Int) < (ks.length : Int) := by omega
            have hput := htw.putB (by rw [List.length_reverse, List.length_drop]; omega) ks[j]
            rw [drop_rev hj] at hput
            have HP := Lib.hid hput
            unfold intV at cx
            generalize ks[j] = q at cx HP
            clear x1 htw hput
            go_wp2_with (go_at_call 35; refine HP.out.mono ?_; rintro r w' ⟨rfl, htw⟩; have HTW := Lib.hid htw; clear htw)
            go_roundw
            case rel => exact ⟨j, (j : Int) - 1, by omega, rfl, by go_num, HTW.out⟩
            case measure => simp [intOf]
          · have hj0 : j = 0 := by omega
            subst hj0
            have i2 : ¬ ((0 : Int) ≤ m) := by omega
            rw [List.drop_zero] at htw
            have HT2 := Lib.hid htw
            clear htw hm hj hpos
            go_wp2_with fail
            go_at_call 36
            refine (all_is _ _).mono ?_
            rintro r w5 ⟨B1, B2, rfl, c2, c1, ht5⟩
            have HC1 := Lib.hid c1
            have HC2 := Lib.hid c2
            have HT5 := Lib.hid ht5
            clear c1 c2 ht5
            go_wp2_with fail
            have hX : Boxed w5 wr.heap.size 55 (.slice none 0 0) := boxed_same ((Boxed.new wr 55 (.slice none 0 0)).alloc _) HT5.out
            have hY : Boxed w5 (wr.heap.size + 1) 55 (.slice none 0 0) := by
              have h := Boxed.new (wr.alloc (.cells #[.slice none 0 0] 55)) 55 (.slice none 0 0)
              rw [World.size_alloc] at h
              exact boxed_same h HT5.out
            have h2 := HT2.out.same (((turnBox wr _).trans (turnBox _ _) (fun _ _ q => q)).trans HT5.out (fun _ _ q => q))
            have hnew := HT2.out.turn.size
            have HXB := Lib.hid hX
            have HYB := Lib.hid hY
            have HTW := Lib.hid h2
            obtain ⟨ra, a1, a2⟩ := h2.ta
            have hsz := sized_putAll (t := .nil) trivial ks
            have hcnt := count_putAll (t := .nil) trivial ks
            have hn0 : (Tr.nil : TI).count = 0 := rfl
            have hkl := keys_length hsz
            have hl1 : (putAll .nil ks).list.length ≤ 200 := by unfold keysOf at hkl; rw [List.length_map] at hkl; omega
            obtain ⟨i0, hi, hz0, hz1, hz2⟩ := info_parts infoInt
            have HA := Lib.hid (is.tall_stops (n := 10 - 1) HC2.out HC1.out a1 a2)
            clear hX hY h2 a1 a2 hsz hcnt hn0 hkl HC1 HC2 HT2 HT5
            refine (wpIn_wide (n := 10)).1 ?_
            refine wpIn_rangeFunc_ownF rfl (by decide) (gf := 146) (lb := #[.pointer (some ⟨B2, 0, none⟩)]) rfl trivial (enters_of Try.func146 (by kernel_rfl) rfl) HA.out is.KeepsN.trans is.keepsN_b (Below.refl _ _) (fun _ => rfl)
              (fun pre W => Coll w5 wr.heap.size (pre.map (·.1)) W) (fun _ _ _ => False) (Coll.own HXB.out.lt _) (fun _ _ _ _ _ hs _ _ => hs) ?h0 ?a1 ?assign ?body ?done ?stop
            case h0 => exact ⟨⟨_, HXB.out, World.ownsRow_nil _ _ _ _⟩, Turn.refl _ _⟩
            case assign =>
              intro l x W K hK
              gi_wp2
              exact hK
            case body =>
              intro l pre x W hcl0 hlt
              have hcl : Coll w5 wr.heap.size (pre.map (fun p : is.Pr => p.1)) W := hcl0
              have hpl : (pre.map (fun p : is.Pr => p.1)).length ≤ 200 := by rw [List.length_map]; omega
              clear hcl0
              generalize hxs : pre.map (fun p : is.Pr => p.1) = xs at hcl hpl
              obtain ⟨⟨v, hv, hrow⟩, ht⟩ := hcl
              have hc := hv.cell
              gi_wp2_with (gi_at_builtin; refine wpListIn_append_own _ rfl _ _ 55 rfl w5.heap.size 3 i0 (.int .i64 0) 1 8 undInts hi hz0 hz1 hz2 rfl (by decide) _ _ _ rfl (hrow.alloc _) ⟨W.heap.size, 0, none⟩ 1 1 [intV x.1] rfl rfl (cell_one_new _ _ _) (by simp [Value.oneCell']) (by unfold maxLen; omega) (by omega) (by have := ht.size; simp; omega) ?_; intro v' w1 hown' hgrow _; obtain ⟨hv1, hk1, hk2, hk3⟩ := Coll.step HXB.out.lt hv hrow ht hown' hgrow; have hc1 := hv1.cell; have hf1 := hv1.frozen; obtain ⟨g', cap', rfl⟩ := ownsRow_succ hown')
              refine ⟨hk1, hk2, ?_⟩
              show Coll w5 wr.heap.size ((pre ++ [x]).map (fun p : is.Pr => p.1)) _
              rw [List.map_append, hxs]
              exact hk3
            case stop =>
              intro D c pre W _ _ h _
              exact h.elim
            case done =>
              intro D xs W6 hD hS hcl hK
              have hcl' : Coll w5 wr.heap.size (keysOf (putAll .nil ks)) W6 := by rw [hS] at hcl; exact hcl
              have hD' : D ≠ wr.heap.size + 1 ∧ w.heap.size ≤ D := by have := HYB.out.lt; omega
              have h6 := HTW.out.box HXB.out hnew hcl'.2
              have HX6 := Lib.hid hcl'.has
              have HY6 := Lib.hid (boxed_other HYB.out hcl'.2 (by omega))
              have HK6 := Lib.hid hK
              have HTW6 := Lib.hid h6
              clear hcl hcl' h6 hK hS hD HXB HYB HTW HA
              go_wp2_with fail
              go_at_call 36
              refine (all_is _ _).mono ?_
              rintro r w7 ⟨C1, C2, rfl, c2, c1, ht7⟩
              have HC1 := Lib.hid c1
              have HC2 := Lib.hid c2
              have HX7 := Lib.hid (HX6.out.same ht7)
              have HY7 := Lib.hid (boxed_same HY6.out ht7)
              have HK7 := Lib.hid (turn_heap ht7 HK6.out)
              have h7 := HTW6.out.same ht7
              have HTW7 := Lib.hid h7
              have HB0 := Lib.hid hD'
              clear c1 c2 ht7 hD' HX6 HY6 HK6 HTW6
              go_wp2_with fail
              obtain ⟨rb, b1, b2⟩ := h7.tb
              have hsz := sized_putAll (t := .nil) trivial ks.reverse
              have hcnt := count_putAll (t := .nil) trivial ks.reverse
              have hn0 : (Tr.nil : TI).count = 0 := rfl
              have hkl := keys_length hsz
              have hl2 : (putAll .nil ks.reverse).list.length ≤ 200 := by unfold keysOf at hkl; rw [List.length_map] at hkl; rw [List.length_reverse] at hcnt; omega
              have HA := Lib.hid (is.tall_stops (n := 10 - 1) HC2.out HC1.out b1 b2)
              clear h7 b1 b2 hsz hcnt hn0 hkl HC1 HC2 
              refine (wpIn_wide (n := 10)).1 ?_
              refine wpIn_rangeFunc_ownF rfl (by decide) (gf := 146) (lb := #[.pointer (some ⟨C2, 0, none⟩)]) rfl trivial (enters_of Try.func146 (by kernel_rfl) rfl) HA.out is.KeepsN.trans is.keepsN_b (Below.refl _ _) (fun _ => rfl)
                (fun pre W => Coll w7 (wr.heap.size + 1) (pre.map (·.1)) W) (fun _ _ _ => False) (Coll.own HY7.out.lt _) (fun _ _ _ _ _ hs _ _ => hs) ?k0 ?k1 ?kassign ?kbody ?kdone ?kstop
              case k0 => exact ⟨⟨_, HY7.out, World.ownsRow_nil _ _ _ _⟩, Turn.refl _ _⟩
              case kassign =>
                intro l x W K hK
                gi_wp2
                exact hK
              case kbody =>
                intro l pre x W hcl0 hlt
                have hcl : Coll w7 (wr.heap.size + 1) (pre.map (fun p : is.Pr => p.1)) W := hcl0
                have hpl : (pre.map (fun p : is.Pr => p.1)).length ≤ 200 := by rw [List.length_map]; omega
                clear hcl0
                generalize hxs : pre.map (fun p : is.Pr => p.1) = xs at hcl hpl
                obtain ⟨⟨v, hv, hrow⟩, ht⟩ := hcl
                have hc := hv.cell
                gi_wp2_with (gi_at_builtin; refine wpListIn_append_own _ rfl _ _ 55 rfl w7.heap.size 3 i0 (.int .i64 0) 1 8 undInts hi hz0 hz1 hz2 rfl (by decide) _ _ _ rfl (hrow.alloc _) ⟨W.heap.size, 0, none⟩ 1 1 [intV x.1] rfl rfl (cell_one_new _ _ _) (by simp [Value.oneCell']) (by unfold maxLen; omega) (by omega) (by have := ht.size; simp; omega) ?_; intro v' w1 hown' hgrow _; obtain ⟨hv1, hk1, hk2, hk3⟩ := Coll.step HY7.out.lt hv hrow ht hown' hgrow; have hc1 := hv1.cell; have hf1 := hv1.frozen; obtain ⟨g', cap', rfl⟩ := ownsRow_succ hown')
                refine ⟨hk1, hk2, ?_⟩
                show Coll w7 (wr.heap.size + 1) ((pre ++ [x]).map (fun p : is.Pr => p.1)) _
                rw [List.map_append, hxs]
                exact hk3
              case kstop =>
                intro D c pre W _ _ h _
                exact h.elim
              case kdone =>
                intro D2 xs W8 hD hS hcl hK
                have hcl' : Coll w7 (wr.heap.size + 1) (keysOf (putAll .nil ks.reverse)) W8 := by rw [hS] at hcl; exact hcl
                have h8 := HTW7.out.box HY7.out (by omega) hcl'.2
                have hX8 := HX7.out.other ⟨_, HY7.out⟩ (by omega) hcl'.2
                have hK8 : W8.heap[D]? = some (.deferred (some [])) := (hcl'.2.block D (Array.getElem?_eq_some_iff.1 HK7.out).1 HB0.out.1).trans HK7.out
                have hlt : D < w7.heap.size := (Array.getElem?_eq_some_iff.1 HK7.out).1
                have HFIN := Lib.hid (show Fin w W8 a b wr.heap.size (wr.heap.size + 1) ks D D2 from ⟨h8, hX8, hcl'.has, hK8, hK, HB0.out.2, by omega⟩)
                clear hcl hcl' h8 hX8 hK8 hK hS hD HX7 HY7 HK7 HTW7 HA HB0
                go_wp2_with fail
                have hlx : (keysOf (putAll .nil ks)).length ≤ 200 := by unfold keysOf; rw [List.length_map]; exact hl1
                have hrise := keys_rise (rises_putAll rise_nil ks)
                have HRISE := Lib.hid hrise
                clear hrise hl1 hl2
                generalize wr.heap.size = X at HFIN ⊢
                go_loopw [12] (fun i wq => ∃ k : Nat, 1 ≤ k ∧ i = .int .i64 k ∧ Fin w wq a b X (X + 1) ks D D2) (fun i _ => (keysOf (putAll .nil ks)).length + 1 - (intOf i).toNat)
                case atStart => exact ⟨1, Nat.le_refl _, by go_num, HFIN.out⟩
                case round =>
                  obtain ⟨k, hk, rfl, hfin⟩ := hrel
                  obtain ⟨v, hc, sx, capx, rfl, hxs⟩ := hfin.x.ints
                  have HW := Lib.hid hfin
                  have HXS := Lib.hid hxs
                  clear hfin hxs HFIN
                  obtain ⟨N, hN⟩ : ∃ N, (keysOf (putAll .nil ks)).length = N := ⟨_, rfl⟩
                  rw [hN] at hc hlx
                  by_cases hlt : k < N
                  · obtain ⟨ad, e1, x1⟩ := HXS.out (by omega)
                    subst e1
                    have c1 := x1 (k - 1) _ (List.getElem?_eq_getElem (by omega))
                    have c2 := x1 k _ (List.getElem?_eq_getElem (by omega))
                    have hr := List.pairwise_iff_getElem.1 HRISE.out (k - 1) k (by omega) (by omega) (by omega)
                    have i2 : (0 : Int) ≤ (k : Int) := by omega
                    have i3 : (k : Int) < (N : Int) := by omega
                    have i4 : (0 : Int) ≤ (k : Int) - 1 := by omega
                    have i5 : (k : Int) - 1 < (N : Int) := by omega
                    have i6 : ((k : Int) - 1).toNat = k - 1 := by omega
                    unfold intV at c1 c2
                    generalize (keysOf (putAll .nil ks))[k - 1] = y1 at c1 hr
                    generalize (keysOf (putAll .nil ks))[k] = y2 at c2 hr
                    have i7 : ¬ y2 ≤ y1 := by omega
                    clear x1 hr HXS hl
                    go_wp2_with fail
                    go_quiet (fail)
                    go_wp2
                    go_roundw
                    case rel => exact ⟨k + 1, by omega, by go_num, HW.out.same ((like_drewN _ _).turn _)⟩
                    case measure => simp [intOf]; omega
                  · have i7 : ¬ (k : Int) < (N : Int) := by omega
                    clear hlt hk
                    go_wp2_with fail
                    go_loopw [13] (fun i wq => ∃ k : Nat, k ≤ ks.length ∧ i = .int .i64 k ∧ Fin w wq a b X (X + 1) ks D D2) (fun i _ => ks.length - (intOf i).toNat)
                    case atStart => exact ⟨0, Nat.zero_le _, by go_num, HW.out⟩
                    case round =>
                      clear i7
                      obtain ⟨k, hk, rfl, hfin⟩ := hrel
                      clear HW hc HXS
                      by_cases hlt : k < ks.length
                      · obtain ⟨ad, e1, x1⟩ := HKC.out (by omega)
                        subst e1
                        have cx := turn_cell hfin.two.turn (x1 k ks[k] (List.getElem?_eq_getElem hlt))
                        have i2 : (0 : Int) ≤ (k : Int) := by omega
                        have i3 : (k : Int) < (ks.length : Int) := by omega
                        have HP := Lib.hid (hfin.two.getA (List.getElem_mem hlt))
                        have HW := Lib.hid hfin
                        unfold intV at cx
                        generalize ks[k] = q at cx HP
                        clear x1 hfin
                        go_wp2_with (go_at_call 37; refine HP.out.mono ?_; rintro r w' ⟨⟨sx, rfl⟩, hlk⟩)
                        go_roundw
                        case rel => exact ⟨k + 1, by omega, by go_num, HW.out.same (hlk.turn _)⟩
                        case measure => simp [intOf]; omega
                      · have i7 : ¬ (k : Int) < (ks.length : Int) := by omega
                        obtain ⟨vx, cx, sx, capx, rfl, hxs⟩ := hfin.x.ints
                        obtain ⟨vy, cy, hys⟩ := hfin.y.ints
                        have HW := Lib.hid hfin
                        have hsame : ∀ W, Turn (fun _ => False) wr W → Calls Try.prog 38 #[.slice sx (keysOf (putAll .nil ks)).length capx, vy] W fun r w' => r = .returned (.bool true) ∧ Like W w' := fun W hw =>
                          sameInts_any (l := keysOf (putAll .nil ks)) (IntsR.later ⟨sx, capx, rfl, hxs⟩ hw) (by rw [same_keys (ls := ks.reverse) (fun n => by rw [List.mem_reverse])]; exact hys.later hw) (by omega)
                        have hlen : ∀ W, Turn (fun _ => False) wr W → Calls Try.prog 39 #[.pointer (some ⟨a, 0, none⟩)] W fun r w' => r = .returned (.int .i64 ((keysOf (putAll .nil ks)).length : Nat)) ∧ Like W w' := fun W hw => (hfin.two.same hw).lenA
                        rw [hN] at hsame hlen cx
                        have HS := Lib.hid hsame
                        have HL := Lib.hid hlen
                        have b1 : ((N : Int) == (N : Int)) = true := by simp
                        clear hlt hk hxs hys hfin hsame hlen
                        go_wp2_with fail
                        go_region_held3 (fun w' => w'.cell? ⟨X, 0, none⟩ = some (.slice sx N capx) ∧ w'.cell? ⟨X + 1, 0, none⟩ = some vy) (first | (exact ⟨turn_cell t2 cx, turn_cell t2 cy⟩) | (exact ⟨turn_cell t1 cx, turn_cell t1 cy⟩) | go_keep) (first | (go_at_call 38; refine (HS.out _ ((like_drew _).turn _)).mono ?_; rintro e w1 ⟨rfl, hl1⟩; have t1 : Turn (fun _ => False) wr w1 := ((like_drew _).turn _).trans (hl1.turn _) (fun _ _ q => q); clear HS hl1) | (go_at_call 39; refine (HL.out _ t1).mono ?_; rintro e w2 ⟨rfl, hl2⟩; have t2 : Turn (fun _ => False) wr w2 := t1.trans (hl2.turn _) (fun _ _ q => q); clear HL hl2))
                        have hfe := HW.out.same t2
                        have hk1 : (w2.putObj D2 (.deferred none)).heap[D]? = some (.deferred (some [])) := (World.putObj_heap_other (by have := hfe.next; omega)).trans hfe.k1
                        have hfin : Turn (fun _ => False) w ((w2.putObj D2 (.deferred none)).putObj D (.deferred none)) :=
                          (hfe.two.turn.grown (grownBy_putObj' w2 D2 _) (fun k e => by cases e; have := hfe.new; have := hfe.next; exact Or.inr (by omega))).grown (grownBy_putObj' _ D _) (fun k e => by cases e; exact Or.inr hfe.new)
                        have hk2 := hfe.k2
                        go_wp2
                        refine ⟨by simp, .inl ⟨_, _, rfl, run_takeDeferred hk2, ?_⟩⟩
                        refine ⟨by simp, .inl ⟨_, _, rfl, run_takeDeferred hk1, ?_⟩⟩
                        exact ⟨_, results_tmp rfl _ _ _, rfl, hfin⟩
end
end Go.Proofs.Ytaggpldkgbjklaa
