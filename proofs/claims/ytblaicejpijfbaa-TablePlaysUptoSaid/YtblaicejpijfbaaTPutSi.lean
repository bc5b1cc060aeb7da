/-
  get, put, first, last, joined, without. (si)
-/
import Derived.Test.YtblaicejpijfbaaTTurnSi
namespace Go.Proofs.Ytblaicejpijfbaa.si
open Go.RowKit Go.Maps Go.WideMaps Go.Proofs.Ytblaicejpijfbaa.Tb

section
variable {w : World} {b s : Nat} {k : Key} {x : Val} {lv rv pl pr : Option Addr} {l r : Tr Key Val}

theorem TrAt.length {v : Value} {t t' : Tr Key Val} (h : TrAt w v t) (h' : TrAt w v t') : t.list.length = t'.list.length := by
  induction t generalizing v t' with
  | nil =>
    cases t' with
    | nil => rfl
    | node =>
      obtain ⟨_, _, _, e, _⟩ := h'
      have e0 : v = .pointer none := h
      rw [e0] at e; cases e
  | node k x s l r ihl ihr =>
    obtain ⟨b, lv, rv, e, hb, hl, hr⟩ := h
    cases t' with
    | nil =>
      have e0 : v = .pointer none := h'
      rw [e0] at e; cases e
    | node k' x' s' l' r' =>
      obtain ⟨b', lv', rv', e', hb', hl', hr'⟩ := h'
      rw [e] at e'
      cases e'
      rw [hb] at hb'
      simp only [Option.some.injEq, Obj.cells.injEq, Array.mk.injEq, List.cons.injEq, Value.pointer.injEq] at hb'
      obtain ⟨⟨_, _, _, e1, e2, _⟩, _⟩ := hb'
      rw [e1] at hl
      rw [e2] at hr
      rw [Tr.list, Tr.list, List.length_append, List.length_append, List.length_cons, List.length_cons, ihl hl hl', ihr hr hr']

/-- how much hangs on a pointer -/
noncomputable def left (w : World) (v : Value) : Nat := Classical.epsilon fun n => ∃ t : Tr Key Val, TrAt w v t ∧ t.list.length = n

theorem left_eq {v : Value} {t : Tr Key Val} (h : TrAt w v t) : left w v = t.list.length := by
  obtain ⟨t', h', e⟩ := Classical.epsilon_spec (p := fun n => ∃ t : Tr Key Val, TrAt w v t ∧ t.list.length = n) ⟨_, t, h, rfl⟩
  unfold left
  rw [← e]
  exact h'.length h

theorem compare_lt {a c : Key} (h : a < c) (w : World) : Calls Try.prog 56 #[keyV a, keyV c] w fun r w' => r = .returned (.int .i64 (-1)) ∧ w = w' := by
  have := compare_any a c w
  rwa [cmpI, if_pos h] at this
theorem compare_gt {a c : Key} (h1 : ¬ a < c) (h : c < a) (w : World) : Calls Try.prog 56 #[keyV a, keyV c] w fun r w' => r = .returned (.int .i64 1) ∧ w = w' := by
  have := compare_any a c w
  rwa [cmpI, if_neg h1, if_pos h] at this
theorem compare_eq {a c : Key} (h1 : ¬ a < c) (h : ¬ c < a) (w : World) : Calls Try.prog 56 #[keyV a, keyV c] w fun r w' => r = .returned (.int .i64 0) ∧ w = w' := by
  have := compare_any a c w
  rwa [cmpI, if_neg h1, if_neg h] at this

abbrev zeroV : Value := .int .i64 0
/-- what get answers -/
def gotV : Option Val → Value
  | none => .tuple #[zeroV, .bool false]
  | some x => .tuple #[valV x, .bool true]

set_option maxRecDepth 100000 in
set_option maxHeartbeats 1000000 in
theorem get_any {v : Value} {t : Tr Key Val} (h : TrAt w v t) (k : Key) : Calls Try.prog 28 #[v, keyV k] w fun r w' => r = .returned (gotV (Tb.get t k)) ∧ w = w' := by
  have H := Lib.hid h
  clear h
  go_enter Try.func28, Try.ntmps28
  go_wp2_with fail
  go_loop [0, 4] (fun u z => ∃ t' : Tr Key Val, TrAt w u t' ∧ Tb.get t' k = Tb.get t k ∧ z = zeroV) (fun u _ => left w u)
  case atStart => exact ⟨t, H.out, rfl, rfl⟩
  case round =>
    obtain ⟨t', ht, hg, rfl⟩ := hrel
    cases t' with
    | nil =>
      have HG := Lib.hid hg
      clear hg
      obtain rfl := ht
      go_wp2
      go_ret2
      rw [← HG.out]
      exact ⟨rfl, rfl⟩
    | node nk nx s l r =>
      have hlen := left_eq ht
      obtain ⟨b, lv, rv, rfl, hb, hl, hr⟩ := ht
      have hc := ncells hb
      have c0 := hc.c0
      have c1 := hc.c1
      have c3 := hc.c3
      have c4 := hc.c4
      have hll := left_eq hl
      have hlr := left_eq hr
      rw [Tr.list, List.length_append, List.length_cons] at hlen
      have HLEN := Lib.hid hlen
      have HLL := Lib.hid hll
      have HLR := Lib.hid hlr
      have HL := Lib.hid hl
      have HR := Lib.hid hr
      clear hb hc hl hr hlen hll hlr
      rw [Tb.get] at hg
      by_cases h1 : k < nk
      · rw [if_pos h1] at hg
        have HG := Lib.hid hg
        have HC := Lib.hid (compare_lt h1)
        clear h1 hg
        go_wp2_with (go_at_call 56; refine (HC.out _).mono ?_; rintro e w' ⟨rfl, rfl⟩)
        go_round
        case rel => exact ⟨l, HL.out, HG.out, rfl⟩
        case measure => have := HLEN.out; have := HLL.out; omega
      · rw [if_neg h1] at hg
        by_cases h2 : nk < k
        · rw [if_pos h2] at hg
          have HG := Lib.hid hg
          have HC := Lib.hid (compare_gt h1 h2)
          clear h1 h2 hg
          go_wp2_with (go_at_call 56; refine (HC.out _).mono ?_; rintro e w' ⟨rfl, rfl⟩)
          go_round
          case rel => exact ⟨r, HR.out, HG.out, rfl⟩
          case measure => have := HLEN.out; have := HLR.out; omega
        · rw [if_neg h2] at hg
          have HG := Lib.hid hg
          have HC := Lib.hid (compare_eq h1 h2)
          clear h1 h2 hg
          go_wp2_with (go_at_call 56; refine (HC.out _).mono ?_; rintro e w' ⟨rfl, rfl⟩)
          go_ret2
          rw [← HG.out]
          exact ⟨rfl, rfl⟩

set_option maxRecDepth 100000 in
set_option maxHeartbeats 1000000 in
theorem put_any (t : Tr Key Val) (k : Key) (x : Val) : ∀ {w : World} {p : Option Addr}, TrAt w (.pointer p) t → t.Sized → t.count + 2 < 1000000000000 →
    Calls Try.prog 26 #[.pointer p, keyV k, valV x] w (Made w (put t k x)) := by
  induction t with
  | nil =>
    intro w p h _ _
    cases h
    have HM := Lib.hid (made_any (w := w) (l := .nil) (r := .nil) (pl := none) (pr := none) rfl rfl (show Small (.nil : Tr Key Val) by unfold Small; decide) (show Small (.nil : Tr Key Val) by unfold Small; decide) k x)
    rw [put]
    go_enter Try.func26, Try.ntmps26
    go_wp2_with (go_at_call 55; refine HM.out.mono ?_; rintro e w1 ⟨p1, rfl, hp1, t1⟩)
    go_ret
    exact ⟨p1, rfl, hp1, t1⟩
  | node nk nx s l r ihl ihr =>
    intro w p h hz hs
    have e0 : (Tr.node nk nx s l r).count = s := rfl
    rw [e0] at hs
    obtain ⟨e1, z1, z2⟩ := hz
    obtain ⟨b, lv, rv, hp, hb, hl, hr⟩ := h
    cases hp
    have hc := ncells hb
    have c0 := hc.c0
    have c3 := hc.c3
    have c4 := hc.c4
    rw [put]
    by_cases h1 : k < nk
    · rw [if_pos h1]
      have HC := Lib.hid (compare_lt h1)
      have HI := Lib.hid (fun (W : World) (hW : Turn (fun _ => False) w W) => ihl (hl.later hW) z1 (by omega))
      have hcp := count_put z1 k x
      have HO := Lib.hid (fun (W : World) (p : Option Addr) (hW : Turn (fun _ => False) w W) (hp : TrAt W (.pointer p) (put l k x)) => over_any (hc.turned hW) hp (hr.later hW) (sized_put z1 k x) z2 (by omega))
      clear h1 hc hb hl hr e1 z1 z2 ihl ihr hs e0 hcp
      go_enter Try.func26, Try.ntmps26
      go_wp2_with (go_at_call 56; refine (HC.out _).mono ?_; rintro e w' ⟨rfl, rfl⟩)
      go_region_held3 (fun w' => w'.cell? ⟨b, 3, none⟩ = some (.pointer lv) ∧ w'.cell? ⟨b, 4, none⟩ = some (.pointer rv)) (first | (exact ⟨turn_cell t2 c3, turn_cell t2 c4⟩) | (exact ⟨turn_cell t1 c3, turn_cell t1 c4⟩) | go_keep) (first | (go_at_call 26; refine (HI.out _ ((like_drew _).turn _)).mono ?_; rintro e w1 ⟨p1, rfl, hp1, t1'⟩; have t1 : Turn (fun _ => False) w w1 := ((like_drew _).turn _).trans t1' (fun _ _ q => q); clear HI) | (go_at_call 57; refine (HO.out _ p1 t1 hp1).mono ?_; rintro e w2 ⟨p2, rfl, hp2, t2'⟩; have t2 := t1.trans t2' (fun _ _ q => q)))
      go_wp2
      go_ret
      exact ⟨p2, rfl, hp2, t2⟩
    · rw [if_neg h1]
      by_cases h2 : nk < k
      · rw [if_pos h2]
        have HC := Lib.hid (compare_gt h1 h2)
        have HI := Lib.hid (fun (W : World) (hW : Turn (fun _ => False) w W) => ihr (hr.later hW) z2 (by omega))
        have hcp := count_put z2 k x
        have HO := Lib.hid (fun (W : World) (p : Option Addr) (hW : Turn (fun _ => False) w W) (hp : TrAt W (.pointer p) (put r k x)) => over_any (hc.turned hW) (hl.later hW) hp z1 (sized_put z2 k x) (by omega))
        clear h1 h2 hc hb hl hr e1 z1 z2 ihl ihr hs e0 hcp
        go_enter Try.func26, Try.ntmps26
        go_wp2_with (go_at_call 56; refine (HC.out _).mono ?_; rintro e w' ⟨rfl, rfl⟩)
        go_region_held3 (fun w' => w'.cell? ⟨b, 3, none⟩ = some (.pointer lv) ∧ w'.cell? ⟨b, 4, none⟩ = some (.pointer rv)) (first | (exact ⟨turn_cell t2 c3, turn_cell t2 c4⟩) | (exact ⟨turn_cell t1 c3, turn_cell t1 c4⟩) | go_keep) (first | (go_at_call 26; refine (HI.out _ ((like_drew _).turn _)).mono ?_; rintro e w1 ⟨p1, rfl, hp1, t1'⟩; have t1 : Turn (fun _ => False) w w1 := ((like_drew _).turn _).trans t1' (fun _ _ q => q); clear HI) | (go_at_call 57; refine (HO.out _ p1 t1 hp1).mono ?_; rintro e w2 ⟨p2, rfl, hp2, t2'⟩; have t2 := t1.trans t2' (fun _ _ q => q)))
        go_wp2
        go_ret
        exact ⟨p2, rfl, hp2, t2⟩
      · rw [if_neg h2]
        have HC := Lib.hid (compare_eq h1 h2)
        have HO := Lib.hid (made_any hl.drew hr.drew (show Small l by unfold Small; omega) (show Small r by unfold Small; omega) k x)
        clear h1 h2 hc hb hl hr e1 z1 z2 ihl ihr hs e0
        go_enter Try.func26, Try.ntmps26
        go_wp2_with (go_at_call 56; refine (HC.out _).mono ?_; rintro e w' ⟨rfl, rfl⟩)
        go_region_held3 (fun w' => w'.cell? ⟨b, 3, none⟩ = some (.pointer lv) ∧ w'.cell? ⟨b, 4, none⟩ = some (.pointer rv)) (first | (exact ⟨turn_cell t1 c3, turn_cell t1 c4⟩) | go_keep) (first | (go_at_call 55; refine HO.out.mono ?_; rintro e w1 ⟨p1, rfl, hp1, t1'⟩; have t1 : Turn (fun _ => False) w w1 := ((like_drew _).turn _).trans t1' (fun _ _ q => q)))
        go_wp2
        go_ret
        exact ⟨p1, rfl, hp1, t1⟩

end
end Go.Proofs.Ytblaicejpijfbaa.si
