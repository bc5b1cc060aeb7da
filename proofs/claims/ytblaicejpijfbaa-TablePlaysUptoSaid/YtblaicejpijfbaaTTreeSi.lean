/-
  Trees in memory; keys compared; counts. (si)
-/
import Derived.Test.YtblaicejpijfbaaTBase
import Derived.Test.YtblaicejpijfbaaTPlain
import Derived.Lib.Hide
namespace Go.Proofs.Ytblaicejpijfbaa.si
open Go.RowKit Go.Maps Go.WideMaps Go.Proofs.Ytblaicejpijfbaa.Tb

abbrev Key := List UInt8
abbrev Val := Int
/-- a key, a value in memory -/
abbrev keyV (k : Key) : Value := .string ⟨k.toArray⟩
abbrev valV (x : Val) : Value := .int .i64 x
def keyOk (k : Key) : Prop := k.length ≤ 1048576

/-- a tree at a pointer: its nodes are never changed -/
def TrAt (w : World) : Value → Tr Key Val → Prop
  | v, .nil => v = .pointer none
  | v, .node k x s l r => ∃ (b : Nat) (lv rv : Option Addr), v = .pointer (some ⟨b, 0, none⟩) ∧ w.heap[b]? = some (.cells #[keyV k, valV x, .int .i64 (s : Nat), .pointer lv, .pointer rv] 92 (0, 0)) ∧
      TrAt w (.pointer lv) l ∧ TrAt w (.pointer rv) r

/-- blocks that are no nodes -/
def NoNode (w : World) (Q : Nat → Prop) : Prop := ∀ b cs fr, Q b → w.heap[b]? ≠ some (.cells cs 92 fr)

theorem TrAt.turned {w w' : World} {Q : Nat → Prop} (ht : Turn Q w w') (hq : NoNode w Q) : ∀ {v : Value} {t : Tr Key Val}, TrAt w v t → TrAt w' v t
  | _, .nil, h => h
  | _, .node _ _ _ _ _, ⟨b, lv, rv, hv, hb, hl, hr⟩ =>
    ⟨b, lv, rv, hv, (ht.block b (Array.getElem?_eq_some_iff.1 hb).1 (fun q => hq b _ _ q hb)).trans hb, TrAt.turned ht hq hl, TrAt.turned ht hq hr⟩

theorem TrAt.later {w w' : World} (ht : Turn (fun _ => False) w w') {v : Value} {t : Tr Key Val} (h : TrAt w v t) : TrAt w' v t := h.turned ht (fun _ _ _ q => q.elim)
theorem TrAt.like {w w' : World} (k : Like w w') {v : Value} {t : Tr Key Val} (h : TrAt w v t) : TrAt w' v t := h.later (k.turn _)

theorem TrAt.ptr {w : World} {v : Value} {t : Tr Key Val} (h : TrAt w v t) : ∃ p, v = .pointer p ∧ (p = none ↔ t.isNil = true) := by
  cases t with
  | nil => exact ⟨none, h, by simp [Tr.isNil]⟩
  | node k x s l r => obtain ⟨b, lv, rv, hv, _⟩ := h; exact ⟨_, hv, by simp [Tr.isNil]⟩

/-- the cells of a node -/
structure NCells (w : World) (b : Nat) (k : Key) (x : Val) (s : Nat) (lv rv : Option Addr) : Prop where
  c0 : w.cell? ⟨b, 0, none⟩ = some (keyV k)
  c1 : w.cell? ⟨b, 1, none⟩ = some (valV x)
  c2 : w.cell? ⟨b, 2, none⟩ = some (.int .i64 (s : Nat))
  c3 : w.cell? ⟨b, 3, none⟩ = some (.pointer lv)
  c4 : w.cell? ⟨b, 4, none⟩ = some (.pointer rv)

theorem ncells {w : World} {b : Nat} {k : Key} {x : Val} {s : Nat} {lv rv : Option Addr} (h : w.heap[b]? = some (.cells #[keyV k, valV x, .int .i64 (s : Nat), .pointer lv, .pointer rv] 92 (0, 0))) : NCells w b k x s lv rv := by
  constructor <;> simp [World.cell?, h]

theorem NCells.turned {w w' : World} {b : Nat} {k : Key} {x : Val} {s : Nat} {lv rv : Option Addr} (h : NCells w b k x s lv rv) (ht : Turn (fun _ => False) w w') : NCells w' b k x s lv rv :=
  ⟨turn_cell ht h.c0, turn_cell ht h.c1, turn_cell ht h.c2, turn_cell ht h.c3, turn_cell ht h.c4⟩

/-! ### keys compared -/
theorem eq_str (a b : List UInt8) : (a == b) = decide (a = b) := Bool.eq_iff_iff.2 (by simp)
theorem isNaN_any (a : Key) (w : World) : Calls Try.prog 70 #[keyV a] w fun r w' => r = .returned (.bool false) ∧ w = w' := by
  have e := eq_str a a
  rw [decide_eq_true rfl] at e
  go_enter Try.func70, Try.ntmps70
  go_wp2
  go_ret
  exact ⟨ret_bool (by simp), rfl⟩

/-- how two keys stand -/
def cmpI (a b : Key) : Int := if a < b then -1 else if b < a then 1 else 0

theorem compare_any (a b : Key) (w : World) : Calls Try.prog 56 #[keyV a, keyV b] w fun r w' => r = .returned (.int .i64 (cmpI a b)) ∧ w = w' := by
  unfold cmpI
  by_cases h1 : a < b
  · rw [if_pos h1]
    have e := less_eq a b
    rw [decide_eq_true h1] at e
    clear h1
    go_enter Try.func56, Try.ntmps56
    go_wp2_with (go_at_call 70; refine (isNaN_any _ _).mono ?_; rintro r w' ⟨rfl, rfl⟩)
    go_ret
    exact ⟨rfl, rfl⟩
  · rw [if_neg h1]
    by_cases h2 : b < a
    · rw [if_pos h2]
      have e := less_eq a b
      rw [decide_eq_false h1] at e
      have e2 := eq_str a b
      rw [decide_eq_false (fun q => h1 (by rw [q] at h2; exact absurd h2 (Lin.irr _)))] at e2
      clear h1 h2
      go_enter Try.func56, Try.ntmps56
      go_wp2_with (go_at_call 70; refine (isNaN_any _ _).mono ?_; rintro r w' ⟨rfl, rfl⟩)
      go_ret
      exact ⟨rfl, rfl⟩
    · rw [if_neg h2]
      have e := less_eq a b
      rw [decide_eq_false h1] at e
      have e2 := eq_str a b
      rw [decide_eq_true (eq_of_not h1 h2)] at e2
      clear h1 h2
      go_enter Try.func56, Try.ntmps56
      go_wp2_with (go_at_call 70; refine (isNaN_any _ _).mono ?_; rintro r w' ⟨rfl, rfl⟩)
      go_ret
      exact ⟨rfl, rfl⟩

/-! ### counts -/
theorem count_any {w : World} {v : Value} {t : Tr Key Val} (h : TrAt w v t) : Calls Try.prog 42 #[v] w fun r w' => r = .returned (.int .i64 (t.count : Nat)) ∧ w = w' := by
  cases t with
  | nil =>
    obtain rfl : v = .pointer none := h
    go_enter Try.func42, Try.ntmps42
    go_wp2
    go_ret
    exact ⟨rfl, rfl⟩
  | node k x s l r =>
    obtain ⟨b, lv, rv, rfl, hb, _, _⟩ := h
    have c2 := (ncells hb).c2
    go_enter Try.func42, Try.ntmps42
    go_wp2
    go_ret
    exact ⟨rfl, rfl⟩

/-- so small that no number of it is too great -/
def Small (t : Tr Key Val) : Prop := t.count < 1000000000000

theorem weight_any {w : World} {v : Value} {t : Tr Key Val} (h : TrAt w v t) (hs : Small t) {n : Nat} (hn : n = t.count + 1) : Calls Try.prog 71 #[v] w fun r w' => r = .returned (.int .i64 (n : Int)) ∧ w = w' := by
  unfold Small at hs
  obtain ⟨p, rfl, _⟩ := h.ptr
  have i0 : (0 : Int) ≤ (t.count : Int) := by omega
  have i1 : (t.count : Int) < 1000000000000 := by omega
  have HC := Lib.hid (count_any h)
  have HN := Lib.hid hn
  clear hn
  go_enter Try.func71, Try.ntmps71
  go_wp2_with (go_at_call 42; refine HC.out.mono ?_; rintro r w' ⟨rfl, rfl⟩)
  go_ret
  exact ⟨ret_int (by have := HN.out; omega), rfl⟩

theorem weight_q {w : World} {v : Value} {t : Tr Key Val} (h : TrAt w v t) (hs : Small t) {n : Nat} (hn : n = t.count + 1) : Calls Try.prog 71 #[v] w fun r w' => r = .returned (.int .i64 (n : Int)) ∧ w' = w :=
  (weight_any h hs hn).mono fun _ _ h => ⟨h.1, h.2.symm⟩

theorem small_of {k : Key} {x : Val} {s : Nat} {l r : Tr Key Val} (h : (Tr.node k x s l r).Sized) (hs : Small (.node k x s l r)) : Small l ∧ Small r := by
  obtain ⟨h1, _, _⟩ := h
  unfold Small at *
  simp only [Tr.count] at hs
  exact ⟨by omega, by omega⟩

/-- a call that makes a tree -/
def Made (w : World) (t : Tr Key Val) (r : Ending) (w' : World) : Prop := ∃ p : Option Addr, r = .returned (.pointer p) ∧ TrAt w' (.pointer p) t ∧ Turn (fun _ => False) w w'

end Go.Proofs.Ytblaicejpijfbaa.si
