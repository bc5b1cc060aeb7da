/-
  get, put, first, last, joined, without. (se)
-/
import Derived.Test.YtnlanemldapfiaaGreatVTurn
namespace Go.Proofs.YtnlanemldapfiaaGreat.se
open Go.RowKit Go.Maps Go.WideMaps Go.Proofs.YtnlanemldapfiaaGreat.Tb

section
variable {w : World} {b s : Nat} {k : Key} {x : Val} {lv rv pl pr : Option Addr} {l r : Tr Key Val}

theorem TrAt.length {v : Value} {t t' : Tr Key Val} (h : TrAt w v t) (h' : TrAt w v t') : t.list.length = t'.list.length := by
  induction t generalizing v t' with
  | nil =>
    cases t' with
    | nil => rfl
    | node =>
      obtain ⟨_, _, _, e, _⟩ := h'
      have e0 : v = .pointer none := h
      rw [e0] at e; cases e
  | node k x s l r ihl ihr =>
    obtain ⟨b, lv, rv, e, hb, hl, hr⟩ := h
    cases t' with
    | nil =>
      have e0 : v = .pointer none := h'
      rw [e0] at e; cases e
    | node k' x' s' l' r' =>
      obtain ⟨b', lv', rv', e', hb', hl', hr'⟩ := h'
      rw [e] at e'
      cases e'
      rw [hb] at hb'
      simp only [Option.some.injEq, Obj.cells.injEq, Array.mk.injEq, List.cons.injEq, Value.pointer.injEq] at hb'
      obtain ⟨⟨_, _, _, _, _, _, _, e1, e2, _⟩, _⟩ := hb'
      rw [e1] at hl
      rw [e2] at hr
      rw [Tr.list, Tr.list, List.length_append, List.length_append, List.length_cons, List.length_cons, ihl hl hl', ihr hr hr']

/-- how much hangs on a pointer -/
noncomputable def left (w : World) (v : Value) : Nat := Classical.epsilon fun n => ∃ t : Tr Key Val, TrAt w v t ∧ t.list.length = n

theorem left_eq {v : Value} {t : Tr Key Val} (h : TrAt w v t) : left w v = t.list.length := by
  obtain ⟨t', h', e⟩ := Classical.epsilon_spec (p := fun n => ∃ t : Tr Key Val, TrAt w v t ∧ t.list.length = n) ⟨_, t, h, rfl⟩
  unfold left
  rw [← e]
  exact h'.length h

theorem compare_lt {a c : Key} (h : a < c) (w : World) : Calls Tryz.prog 82 #[keyV a, keyV c] w fun r w' => r = .returned (.int .i64 (-1)) ∧ w = w' := by
  have := compare_any a c w
  rwa [cmpI, if_pos h] at this
theorem compare_gt {a c : Key} (h1 : ¬ a < c) (h : c < a) (w : World) : Calls Tryz.prog 82 #[keyV a, keyV c] w fun r w' => r = .returned (.int .i64 1) ∧ w = w' := by
  have := compare_any a c w
  rwa [cmpI, if_neg h1, if_pos h] at this
theorem compare_eq {a c : Key} (h1 : ¬ a < c) (h : ¬ c < a) (w : World) : Calls Tryz.prog 82 #[keyV a, keyV c] w fun r w' => r = .returned (.int .i64 0) ∧ w = w' := by
  have := compare_any a c w
  rwa [cmpI, if_neg h1, if_neg h] at this

/-- no event -/
def noEv : Ev := ⟨[], [], [], 0, 0⟩
/-- what get answers -/
def gotV : Option Val → Value
  | none => .tuple #[valV noEv, .bool false]
  | some x => .tuple #[valV x, .bool true]

theorem ev_cells (w : World) (x : Ev) {n : Nat} (hn : w.heap.size = n) : (w.alloc (evBox x)).cell? ⟨n, 0, none⟩ = some (strE x.key) ∧ (w.alloc (evBox x)).cell? ⟨n, 1, none⟩ = some (strE x.acc) ∧ (w.alloc (evBox x)).cell? ⟨n, 2, none⟩ = some (strE x.met) ∧
    (w.alloc (evBox x)).cell? ⟨n, 3, none⟩ = some (.int .i64 x.qty) ∧ (w.alloc (evBox x)).cell? ⟨n, 4, none⟩ = some (.int .i64 x.at_) := by
  subst hn
  exact ⟨cell_new w _ _ 0, cell_new w _ _ 1, cell_new w _ _ 2, cell_new w _ _ 3, cell_new w _ _ 4⟩

/-- an event is written into a box -/
def setEv (W : World) (g : Nat) (x : Ev) : World := ((((W.setCell ⟨g, 0, none⟩ (strE x.key)).setCell ⟨g, 1, none⟩ (strE x.acc)).setCell ⟨g, 2, none⟩ (strE x.met)).setCell ⟨g, 3, none⟩ (.int .i64 x.qty)).setCell ⟨g, 4, none⟩ (.int .i64 x.at_)

theorem setEv_at {W : World} {g : Nat} {y : Ev} (h : W.heap[g]? = some (evBox y)) (x : Ev) : (setEv W g x).heap[g]? = some (evBox x) := by
  unfold setEv
  have h1 := heap_setCell_same (j := 0) h (strE x.key)
  have h2 := heap_setCell_same (j := 1) h1 (strE x.acc)
  have h3 := heap_setCell_same (j := 2) h2 (strE x.met)
  have h4 := heap_setCell_same (j := 3) h3 (.int .i64 x.qty)
  exact heap_setCell_same (j := 4) h4 (.int .i64 x.at_)

theorem setEv_turn {w0 W : World} {Q : Nat → Prop} {g : Nat} (h : Turn Q w0 W) (hg : Q g ∨ w0.heap.size ≤ g) (x : Ev) : Turn Q w0 (setEv W g x) :=
  ((((h.set g 0 hg _).set g 1 hg _).set g 2 hg _).set g 3 hg _).set g 4 hg _

theorem results_ev {fn : Func} (hr : fn.results = #[.cell 4 32, .tmp 5]) {W : World} {tmps : Array Value} {g : Nat} {x : Ev} {b : Bool} (hp : tmps.getD 4 undef = .pointer (some ⟨g, 0, none⟩)) (hb : tmps.getD 5 undef = .bool b) (h : W.heap[g]? = some (evBox x)) : (results fn tmps).run Tryz.prog W = .ok (.tuple #[valV x, .bool b]) W := by
  have hp' : tmps[4]?.getD undef = .pointer (some ⟨g, 0, none⟩) := by simpa using hp
  have hb' : tmps[5]?.getD undef = .bool b := by simpa using hb
  have c0 : W.cell? ⟨g, 0, none⟩ = some (strE x.key) := by simp [World.cell?, h]
  have c1 : W.cell? ⟨g, 1, none⟩ = some (strE x.acc) := by simp [World.cell?, h]
  have c2 : W.cell? ⟨g, 2, none⟩ = some (strE x.met) := by simp [World.cell?, h]
  have c3 : W.cell? ⟨g, 3, none⟩ = some (.int .i64 x.qty) := by simp [World.cell?, h]
  have c4 : W.cell? ⟨g, 4, none⟩ = some (.int .i64 x.at_) := by simp [World.cell?, h]
  simp only [results, hr]
  simp [hp', hb', asAddr]
  go_simp

/-- an event lies at a place -/
structure EvAt (w : World) (g o : Nat) (x : Ev) : Prop where
  c0 : w.cell? ⟨g, o, none⟩ = some (strE x.key)
  c1 : w.cell? ⟨g, o + 1, none⟩ = some (strE x.acc)
  c2 : w.cell? ⟨g, o + 2, none⟩ = some (strE x.met)
  c3 : w.cell? ⟨g, o + 3, none⟩ = some (.int .i64 x.qty)
  c4 : w.cell? ⟨g, o + 4, none⟩ = some (.int .i64 x.at_)

set_option maxRecDepth 100000 in
set_option maxHeartbeats 1000000 in
theorem get_any {v : Value} {t : Tr Key Val} (h : TrAt w v t) (k : Key) : Calls Tryz.prog 51 #[v, keyV k] w fun r w' => r = .returned (gotV (Tb.get t k)) ∧ Turn (fun _ => False) w w' := by
  have H0 := h.later (turnBox w (evBox noEv))
  have HT := turnBox w (evBox noEv)
  obtain ⟨bz0, bz1, bz2, bz3, bz4⟩ := ev_cells w noEv rfl
  have hfz : ∀ j, (w.alloc (evBox noEv)).frozen? ⟨w.heap.size, j, none⟩ = false := fun j => by unfold World.frozen?; rw [heap_alloc_new]; simp
  obtain ⟨W1, hW1⟩ : ∃ W1, w.alloc (.cells #[.string ⟨#[]⟩, .string ⟨#[]⟩, .string ⟨#[]⟩, .int .i64 0, .int .i64 0] 32) = W1 := ⟨_, rfl⟩
  change TrAt (w.alloc (.cells #[.string ⟨#[]⟩, .string ⟨#[]⟩, .string ⟨#[]⟩, .int .i64 0, .int .i64 0] 32)) _ _ at H0
  change Turn _ _ (w.alloc (.cells #[.string ⟨#[]⟩, .string ⟨#[]⟩, .string ⟨#[]⟩, .int .i64 0, .int .i64 0] 32)) at HT
  change (w.alloc (.cells #[.string ⟨#[]⟩, .string ⟨#[]⟩, .string ⟨#[]⟩, .int .i64 0, .int .i64 0] 32)).cell? _ = some (.string ⟨#[]⟩) at bz0 bz1 bz2
  change (w.alloc (.cells #[.string ⟨#[]⟩, .string ⟨#[]⟩, .string ⟨#[]⟩, .int .i64 0, .int .i64 0] 32)).cell? _ = some (.int .i64 0) at bz3 bz4
  change ∀ j, (w.alloc (.cells #[.string ⟨#[]⟩, .string ⟨#[]⟩, .string ⟨#[]⟩, .int .i64 0, .int .i64 0] 32)).frozen? _ = false at hfz
  rw [hW1] at H0 HT bz0 bz1 bz2 bz3 bz4 hfz
  have hf0 := hfz 0
  have hf1 := hfz 1
  have hf2 := hfz 2
  have hf3 := hfz 3
  have hf4 := hfz 4
  have HB0 : (w.alloc (evBox noEv)).heap[w.heap.size]? = some (evBox noEv) := heap_alloc_new w _
  change (w.alloc (.cells #[.string ⟨#[]⟩, .string ⟨#[]⟩, .string ⟨#[]⟩, .int .i64 0, .int .i64 0] 32)).heap[_]? = _ at HB0
  rw [hW1] at HB0
  have HB := Lib.hid HB0
  have H := Lib.hid H0
  have HTT := Lib.hid HT
  clear HB0
  clear h H0 HT hfz
  go_enter Tryz.func51, Tryz.ntmps51
  go_wp2_with fail
  obtain ⟨g, hg⟩ : ∃ g, w.heap.size = g := ⟨_, rfl⟩
  have HGN := Lib.hid (show (fun _ => False) g ∨ w.heap.size ≤ g from Or.inr (Nat.le_of_eq hg))
  rw [hg] at bz0 bz1 bz2 bz3 bz4 hf0 hf1 hf2 hf3 hf4 HB ⊢
  clear hg
  clear hW1
  go_loop [0] (fun u => ∃ t' : Tr Key Val, TrAt W1 u t' ∧ Tb.get t' k = Tb.get t k) (fun u => left W1 u)
  case atStart => exact ⟨t, H.out, rfl⟩
  case round =>
    obtain ⟨t', ht, hg⟩ := hrel
    cases t' with
    | nil =>
      have HG := Lib.hid hg
      clear hg
      obtain rfl := ht
      go_wp2
      refine bodyPost_ret (results_ev (by kernel_rfl) (g := g) (x := noEv) (b := false) rfl rfl (setEv_at HB.out noEv)) rfl ?_
      rw [← HG.out]
      exact ⟨rfl, setEv_turn HTT.out HGN.out noEv⟩
    | node nk nx s l r =>
      have hlen := left_eq ht
      obtain ⟨b, lv, rv, rfl, hb, hl, hr⟩ := ht
      have hc := ncells hb
      have c0 := hc.c0
      have c1 := hc.c1
      have c1b := hc.c1b
      have c1c := hc.c1c
      have c1d := hc.c1d
      have c1e := hc.c1e
      have c3 := hc.c3
      have c4 := hc.c4
      have hll := left_eq hl
      have hlr := left_eq hr
      rw [Tr.list, List.length_append, List.length_cons] at hlen
      have HLEN := Lib.hid hlen
      have HLL := Lib.hid hll
      have HLR := Lib.hid hlr
      have HL := Lib.hid hl
      have HR := Lib.hid hr
      clear hb hc hl hr hlen hll hlr
      rw [Tb.get] at hg
      by_cases h1 : k < nk
      · rw [if_pos h1] at hg
        have HG := Lib.hid hg
        have HC := Lib.hid (compare_lt h1)
        clear h1 hg
        go_wp2_with (go_at_call 82; refine (HC.out _).mono ?_; rintro e w' ⟨rfl, rfl⟩)
        go_round
        case rel => exact ⟨l, HL.out, HG.out⟩
        case measure => have := HLEN.out; have := HLL.out; omega
      · rw [if_neg h1] at hg
        by_cases h2 : nk < k
        · rw [if_pos h2] at hg
          have HG := Lib.hid hg
          have HC := Lib.hid (compare_gt h1 h2)
          clear h1 h2 hg
          go_wp2_with (go_at_call 82; refine (HC.out _).mono ?_; rintro e w' ⟨rfl, rfl⟩)
          go_round
          case rel => exact ⟨r, HR.out, HG.out⟩
          case measure => have := HLEN.out; have := HLR.out; omega
        · rw [if_neg h2] at hg
          have HG := Lib.hid hg
          have HC := Lib.hid (compare_eq h1 h2)
          clear h1 h2 hg
          go_wp2_with (go_at_call 82; refine (HC.out _).mono ?_; rintro e w' ⟨rfl, rfl⟩)
          refine bodyPost_ret (results_ev (by kernel_rfl) (g := g) (x := nx) (b := true) rfl rfl (setEv_at HB.out nx)) rfl ?_
          rw [← HG.out]
          exact ⟨rfl, setEv_turn HTT.out HGN.out nx⟩

/-- a box for an event -/
theorem ev_box (w : World) (x : Ev) : ∃ W1, w.alloc (.cells #[strE x.key, strE x.acc, strE x.met, .int .i64 x.qty, .int .i64 x.at_] 32) = W1 ∧ Turn (fun _ => False) w W1 ∧ W1.cell? ⟨w.heap.size, 0, none⟩ = some (strE x.key) ∧ W1.cell? ⟨w.heap.size, 1, none⟩ = some (strE x.acc) ∧
    W1.cell? ⟨w.heap.size, 2, none⟩ = some (strE x.met) ∧ W1.cell? ⟨w.heap.size, 3, none⟩ = some (.int .i64 x.qty) ∧ W1.cell? ⟨w.heap.size, 4, none⟩ = some (.int .i64 x.at_) :=
  ⟨_, rfl, turnBox w _, ev_cells w x rfl⟩

set_option maxRecDepth 100000 in
set_option maxHeartbeats 1000000 in
theorem put_any (t : Tr Key Val) (k : Key) (x : Val) : ∀ {w : World} {p : Option Addr}, TrAt w (.pointer p) t → t.Sized → t.count + 2 < 1000000000000 →
    Calls Tryz.prog 57 #[.pointer p, keyV k, valV x] w (Made w (put t k x)) := by
  induction t with
  | nil =>
    intro w p h _ _
    cases h
    obtain ⟨W1, hW1, tb, bx0, bx1, bx2, bx3, bx4⟩ := ev_box w x
    have HM := Lib.hid (made_any (w := W1) (l := .nil) (r := .nil) (pl := none) (pr := none) rfl rfl (show Small (.nil : Tr Key Val) by unfold Small; decide) (show Small (.nil : Tr Key Val) by unfold Small; decide) k x)
    have TB := Lib.hid tb
    clear tb
    rw [put]
    go_enter Tryz.func57, Tryz.ntmps57
    go_wp2_with (go_at_call 90; refine HM.out.mono ?_; rintro e w1 ⟨p1, rfl, hp1, t1⟩)
    go_ret
    exact ⟨p1, rfl, hp1, TB.out.trans t1 (fun _ _ q => q)⟩
  | node nk nx s l r ihl ihr =>
    intro w p h hz hs
    have e0 : (Tr.node nk nx s l r).count = s := rfl
    rw [e0] at hs
    obtain ⟨e1, z1, z2⟩ := hz
    obtain ⟨b, lv, rv, hp, hb, hl0, hr0⟩ := h
    cases hp
    obtain ⟨W1, hW1, tb, bx0, bx1, bx2, bx3, bx4⟩ := ev_box w x
    have hl := hl0.later tb
    have hr := hr0.later tb
    have hc := (ncells hb).turned tb
    have c0 := hc.c0
    have c3 := hc.c3
    have c4 := hc.c4
    have TB := Lib.hid tb
    clear tb hl0 hr0
    rw [put]
    by_cases h1 : k < nk
    · rw [if_pos h1]
      have HC := Lib.hid (compare_lt h1)
      have HI := Lib.hid (fun (W : World) (hW : Turn (fun _ => False) W1 W) => ihl (hl.later hW) z1 (by omega))
      have hcp := count_put z1 k x
      have HO := Lib.hid (fun (W : World) (p : Option Addr) (hW : Turn (fun _ => False) W1 W) (hp : TrAt W (.pointer p) (put l k x)) => over_any (hc.turned hW) hp (hr.later hW) (sized_put z1 k x) z2 (by omega))
      clear h1 hc hb hl hr e1 z1 z2 ihl ihr hs e0 hcp
      go_enter Tryz.func57, Tryz.ntmps57
      go_wp2_with (go_at_call 82; refine (HC.out _).mono ?_; rintro e w' ⟨rfl, rfl⟩)
      generalize w.heap.size = g at bx0 bx1 bx2 bx3 bx4 ⊢
      go_region_held3 (fun w' => w'.cell? ⟨b, 7, none⟩ = some (.pointer lv) ∧ w'.cell? ⟨b, 8, none⟩ = some (.pointer rv) ∧ w'.cell? ⟨g, 0, none⟩ = some (strE x.key) ∧ w'.cell? ⟨g, 1, none⟩ = some (strE x.acc) ∧ w'.cell? ⟨g, 2, none⟩ = some (strE x.met) ∧ w'.cell? ⟨g, 3, none⟩ = some (.int .i64 x.qty) ∧ w'.cell? ⟨g, 4, none⟩ = some (.int .i64 x.at_)) (first | (exact ⟨turn_cell t2 c3, turn_cell t2 c4, turn_cell t2 bx0, turn_cell t2 bx1, turn_cell t2 bx2, turn_cell t2 bx3, turn_cell t2 bx4⟩) | (exact ⟨turn_cell t1 c3, turn_cell t1 c4, turn_cell t1 bx0, turn_cell t1 bx1, turn_cell t1 bx2, turn_cell t1 bx3, turn_cell t1 bx4⟩) | go_keep) (first | (go_at_call 57; refine (HI.out _ ((like_drew _).turn _)).mono ?_; rintro e w1 ⟨p1, rfl, hp1, t1'⟩; have t1 : Turn (fun _ => False) W1 w1 := ((like_drew _).turn _).trans t1' (fun _ _ q => q); clear HI) | (go_at_call 91; refine (HO.out _ p1 t1 hp1).mono ?_; rintro e w2 ⟨p2, rfl, hp2, t2'⟩; have t2 := t1.trans t2' (fun _ _ q => q)))
      go_wp2
      go_ret
      exact ⟨p2, rfl, hp2, TB.out.trans t2 (fun _ _ q => q)⟩
    · rw [if_neg h1]
      by_cases h2 : nk < k
      · rw [if_pos h2]
        have HC := Lib.hid (compare_gt h1 h2)
        have HI := Lib.hid (fun (W : World) (hW : Turn (fun _ => False) W1 W) => ihr (hr.later hW) z2 (by omega))
        have hcp := count_put z2 k x
        have HO := Lib.hid (fun (W : World) (p : Option Addr) (hW : Turn (fun _ => False) W1 W) (hp : TrAt W (.pointer p) (put r k x)) => over_any (hc.turned hW) (hl.later hW) hp z1 (sized_put z2 k x) (by omega))
        clear h1 h2 hc hb hl hr e1 z1 z2 ihl ihr hs e0 hcp
        go_enter Tryz.func57, Tryz.ntmps57
        go_wp2_with (go_at_call 82; refine (HC.out _).mono ?_; rintro e w' ⟨rfl, rfl⟩)
        generalize w.heap.size = g at bx0 bx1 bx2 bx3 bx4 ⊢
        go_region_held3 (fun w' => w'.cell? ⟨b, 7, none⟩ = some (.pointer lv) ∧ w'.cell? ⟨b, 8, none⟩ = some (.pointer rv) ∧ w'.cell? ⟨g, 0, none⟩ = some (strE x.key) ∧ w'.cell? ⟨g, 1, none⟩ = some (strE x.acc) ∧ w'.cell? ⟨g, 2, none⟩ = some (strE x.met) ∧ w'.cell? ⟨g, 3, none⟩ = some (.int .i64 x.qty) ∧ w'.cell? ⟨g, 4, none⟩ = some (.int .i64 x.at_)) (first | (exact ⟨turn_cell t2 c3, turn_cell t2 c4, turn_cell t2 bx0, turn_cell t2 bx1, turn_cell t2 bx2, turn_cell t2 bx3, turn_cell t2 bx4⟩) | (exact ⟨turn_cell t1 c3, turn_cell t1 c4, turn_cell t1 bx0, turn_cell t1 bx1, turn_cell t1 bx2, turn_cell t1 bx3, turn_cell t1 bx4⟩) | go_keep) (first | (go_at_call 57; refine (HI.out _ ((like_drew _).turn _)).mono ?_; rintro e w1 ⟨p1, rfl, hp1, t1'⟩; have t1 : Turn (fun _ => False) W1 w1 := ((like_drew _).turn _).trans t1' (fun _ _ q => q); clear HI) | (go_at_call 91; refine (HO.out _ p1 t1 hp1).mono ?_; rintro e w2 ⟨p2, rfl, hp2, t2'⟩; have t2 := t1.trans t2' (fun _ _ q => q)))
        go_wp2
        go_ret
        exact ⟨p2, rfl, hp2, TB.out.trans t2 (fun _ _ q => q)⟩
      · rw [if_neg h2]
        have HC := Lib.hid (compare_eq h1 h2)
        have HO := Lib.hid (made_any hl.drew hr.drew (show Small l by unfold Small; omega) (show Small r by unfold Small; omega) k x)
        clear h1 h2 hc hb hl hr e1 z1 z2 ihl ihr hs e0
        go_enter Tryz.func57, Tryz.ntmps57
        go_wp2_with (go_at_call 82; refine (HC.out _).mono ?_; rintro e w' ⟨rfl, rfl⟩)
        generalize w.heap.size = g at bx0 bx1 bx2 bx3 bx4 ⊢
        go_still_tail 10, (by kernel_rfl)
        change wpList _ _ _ _ _ W1.drew
        go_wp2_with (go_at_call 90; refine HO.out.mono ?_; rintro e w1 ⟨p1, rfl, hp1, t1⟩)
        go_ret
        exact ⟨p1, rfl, hp1, TB.out.drew.trans t1 (fun _ _ q => q)⟩

end
end Go.Proofs.YtnlanemldapfiaaGreat.se
