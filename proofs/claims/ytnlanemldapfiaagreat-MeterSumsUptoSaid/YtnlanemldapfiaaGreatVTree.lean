/-
  Trees in memory; keys compared; counts. (se)
-/
import Derived.Test.YtnlanemldapfiaaGreatTBase
import Derived.Test.YtnlanemldapfiaaGreatTPlain
import Derived.Lib.Hide
import Derived.OwnWalkIn
namespace Go.Proofs.YtnlanemldapfiaaGreat.se
open Go.RowKit Go.Maps Go.WideMaps Go.Proofs.YtnlanemldapfiaaGreat.Tb

abbrev Key := List UInt8
/-- an event, as it stands in a table -/
structure Ev where
  key : List UInt8
  acc : List UInt8
  met : List UInt8
  qty : Int
  at_ : Int
deriving DecidableEq
abbrev Val := Ev
abbrev strE (s : List UInt8) : Value := .string ⟨s.toArray⟩
/-- a key, a value in memory -/
abbrev keyV (k : Key) : Value := .string ⟨k.toArray⟩
abbrev valV (x : Val) : Value := .agg #[strE x.key, strE x.acc, strE x.met, .int .i64 x.qty, .int .i64 x.at_]
/-- an event in a box of its own -/
abbrev evBox (x : Val) : Obj := .cells #[strE x.key, strE x.acc, strE x.met, .int .i64 x.qty, .int .i64 x.at_] 32
/-- the cells of a node -/
abbrev nodeC (k : Key) (x : Val) (n : Int) (lv rv : Option Addr) : Array Value := #[keyV k, strE x.key, strE x.acc, strE x.met, .int .i64 x.qty, .int .i64 x.at_, .int .i64 n, .pointer lv, .pointer rv]
def keyOk (k : Key) : Prop := k.length ≤ 1048576

/-- a tree at a pointer: its nodes are never changed -/
def TrAt (w : World) : Value → Tr Key Val → Prop
  | v, .nil => v = .pointer none
  | v, .node k x s l r => ∃ (b : Nat) (lv rv : Option Addr), v = .pointer (some ⟨b, 0, none⟩) ∧ w.heap[b]? = some (.cells (nodeC k x (s : Nat) lv rv) 135 (0, 0)) ∧
      TrAt w (.pointer lv) l ∧ TrAt w (.pointer rv) r

/-- blocks that are no nodes -/
def NoNode (w : World) (Q : Nat → Prop) : Prop := ∀ b cs fr, Q b → w.heap[b]? ≠ some (.cells cs 135 fr)

theorem TrAt.turned {w w' : World} {Q : Nat → Prop} (ht : Turn Q w w') (hq : NoNode w Q) : ∀ {v : Value} {t : Tr Key Val}, TrAt w v t → TrAt w' v t
  | _, .nil, h => h
  | _, .node _ _ _ _ _, ⟨b, lv, rv, hv, hb, hl, hr⟩ =>
    ⟨b, lv, rv, hv, (ht.block b (Array.getElem?_eq_some_iff.1 hb).1 (fun q => hq b _ _ q hb)).trans hb, TrAt.turned ht hq hl, TrAt.turned ht hq hr⟩

theorem TrAt.later {w w' : World} (ht : Turn (fun _ => False) w w') {v : Value} {t : Tr Key Val} (h : TrAt w v t) : TrAt w' v t := h.turned ht (fun _ _ _ q => q.elim)
theorem TrAt.like {w w' : World} (k : Like w w') {v : Value} {t : Tr Key Val} (h : TrAt w v t) : TrAt w' v t := h.later (k.turn _)

theorem TrAt.ptr {w : World} {v : Value} {t : Tr Key Val} (h : TrAt w v t) : ∃ p, v = .pointer p ∧ (p = none ↔ t.isNil = true) := by
  cases t with
  | nil => exact ⟨none, h, by simp [Tr.isNil]⟩
  | node k x s l r => obtain ⟨b, lv, rv, hv, _⟩ := h; exact ⟨_, hv, by simp [Tr.isNil]⟩

/-- the cells of a node -/
structure NCells (w : World) (b : Nat) (k : Key) (x : Val) (s : Nat) (lv rv : Option Addr) : Prop where
  c0 : w.cell? ⟨b, 0, none⟩ = some (keyV k)
  c1 : w.cell? ⟨b, 1, none⟩ = some (strE x.key)
  c1b : w.cell? ⟨b, 2, none⟩ = some (strE x.acc)
  c1c : w.cell? ⟨b, 3, none⟩ = some (strE x.met)
  c1d : w.cell? ⟨b, 4, none⟩ = some (.int .i64 x.qty)
  c1e : w.cell? ⟨b, 5, none⟩ = some (.int .i64 x.at_)
  c2 : w.cell? ⟨b, 6, none⟩ = some (.int .i64 (s : Nat))
  c3 : w.cell? ⟨b, 7, none⟩ = some (.pointer lv)
  c4 : w.cell? ⟨b, 8, none⟩ = some (.pointer rv)

theorem ncells {w : World} {b : Nat} {k : Key} {x : Val} {s : Nat} {lv rv : Option Addr} (h : w.heap[b]? = some (.cells (nodeC k x (s : Nat) lv rv) 135 (0, 0))) : NCells w b k x s lv rv := by
  constructor <;> simp [World.cell?, h]

theorem NCells.turned {w w' : World} {b : Nat} {k : Key} {x : Val} {s : Nat} {lv rv : Option Addr} (h : NCells w b k x s lv rv) (ht : Turn (fun _ => False) w w') : NCells w' b k x s lv rv :=
  ⟨turn_cell ht h.c0, turn_cell ht h.c1, turn_cell ht h.c1b, turn_cell ht h.c1c, turn_cell ht h.c1d, turn_cell ht h.c1e, turn_cell ht h.c2, turn_cell ht h.c3, turn_cell ht h.c4⟩

/-! ### keys compared -/
theorem eq_str (a b : List UInt8) : (a == b) = decide (a = b) := Bool.eq_iff_iff.2 (by simp)
theorem isNaN_any (a : Key) (w : World) : Calls Tryz.prog 107 #[keyV a] w fun r w' => r = .returned (.bool false) ∧ w = w' := by
  have e := eq_str a a
  rw [decide_eq_true rfl] at e
  go_enter Tryz.func107, Tryz.ntmps107
  go_wp2
  go_ret
  exact ⟨ret_bool (by simp), rfl⟩

/-- how two keys stand -/
def cmpI (a b : Key) : Int := if a < b then -1 else if b < a then 1 else 0

theorem compare_any (a b : Key) (w : World) : Calls Tryz.prog 82 #[keyV a, keyV b] w fun r w' => r = .returned (.int .i64 (cmpI a b)) ∧ w = w' := by
  unfold cmpI
  by_cases h1 : a < b
  · rw [if_pos h1]
    have e := less_eq a b
    rw [decide_eq_true h1] at e
    clear h1
    go_enter Tryz.func82, Tryz.ntmps82
    go_wp2_with (go_at_call 107; refine (isNaN_any _ _).mono ?_; rintro r w' ⟨rfl, rfl⟩)
    go_ret
    exact ⟨rfl, rfl⟩
  · rw [if_neg h1]
    by_cases h2 : b < a
    · rw [if_pos h2]
      have e := less_eq a b
      rw [decide_eq_false h1] at e
      have e2 := eq_str a b
      rw [decide_eq_false (fun q => h1 (by rw [q] at h2; exact absurd h2 (Lin.irr _)))] at e2
      clear h1 h2
      go_enter Tryz.func82, Tryz.ntmps82
      go_wp2_with (go_at_call 107; refine (isNaN_any _ _).mono ?_; rintro r w' ⟨rfl, rfl⟩)
      go_ret
      exact ⟨rfl, rfl⟩
    · rw [if_neg h2]
      have e := less_eq a b
      rw [decide_eq_false h1] at e
      have e2 := eq_str a b
      rw [decide_eq_true (eq_of_not h1 h2)] at e2
      clear h1 h2
      go_enter Tryz.func82, Tryz.ntmps82
      go_wp2_with (go_at_call 107; refine (isNaN_any _ _).mono ?_; rintro r w' ⟨rfl, rfl⟩)
      go_ret
      exact ⟨rfl, rfl⟩

/-! ### counts -/
theorem count_any {w : World} {v : Value} {t : Tr Key Val} (h : TrAt w v t) : Calls Tryz.prog 53 #[v] w fun r w' => r = .returned (.int .i64 (t.count : Nat)) ∧ w = w' := by
  cases t with
  | nil =>
    obtain rfl : v = .pointer none := h
    go_enter Tryz.func53, Tryz.ntmps53
    go_wp2
    go_ret
    exact ⟨rfl, rfl⟩
  | node k x s l r =>
    obtain ⟨b, lv, rv, rfl, hb, _, _⟩ := h
    have c2 := (ncells hb).c2
    go_enter Tryz.func53, Tryz.ntmps53
    go_wp2
    go_ret
    exact ⟨rfl, rfl⟩

theorem count_q {w : World} {v : Value} {t : Tr Key Val} (h : TrAt w v t) {n : Nat} (hn : n = t.count) : Calls Tryz.prog 53 #[v] w fun r w' => r = .returned (.int .i64 (n : Nat)) ∧ w' = w := by
  subst hn
  exact (count_any h).mono fun _ _ h => ⟨h.1, h.2.symm⟩

/-- so small that no number of it is too great -/
def Small (t : Tr Key Val) : Prop := t.count < 1000000000000

theorem weight_any {w : World} {v : Value} {t : Tr Key Val} (h : TrAt w v t) (hs : Small t) {n : Nat} (hn : n = t.count + 1) : Calls Tryz.prog 108 #[v] w fun r w' => r = .returned (.int .i64 (n : Int)) ∧ w = w' := by
  unfold Small at hs
  obtain ⟨p, rfl, _⟩ := h.ptr
  have i0 : (0 : Int) ≤ (t.count : Int) := by omega
  have i1 : (t.count : Int) < 1000000000000 := by omega
  have HC := Lib.hid (count_any h)
  have HN := Lib.hid hn
  clear hn
  go_enter Tryz.func108, Tryz.ntmps108
  go_wp2_with (go_at_call 53; refine HC.out.mono ?_; rintro r w' ⟨rfl, rfl⟩)
  go_ret
  exact ⟨ret_int (by have := HN.out; omega), rfl⟩

theorem weight_q {w : World} {v : Value} {t : Tr Key Val} (h : TrAt w v t) (hs : Small t) {n : Nat} (hn : n = t.count + 1) : Calls Tryz.prog 108 #[v] w fun r w' => r = .returned (.int .i64 (n : Int)) ∧ w' = w :=
  (weight_any h hs hn).mono fun _ _ h => ⟨h.1, h.2.symm⟩

theorem small_of {k : Key} {x : Val} {s : Nat} {l r : Tr Key Val} (h : (Tr.node k x s l r).Sized) (hs : Small (.node k x s l r)) : Small l ∧ Small r := by
  obtain ⟨h1, _, _⟩ := h
  unfold Small at *
  simp only [Tr.count] at hs
  exact ⟨by omega, by omega⟩

/-- a call that makes a tree -/
def Made (w : World) (t : Tr Key Val) (r : Ending) (w' : World) : Prop := ∃ p : Option Addr, r = .returned (.pointer p) ∧ TrAt w' (.pointer p) t ∧ Turn (fun _ => False) w w'

/-- what is left by its end alone -/
def NormQ (Q : Exit → Act → World → Prop) : Exit → Act → World → Prop
  | .normal, a, w => Q .normal a w
  | _, _, _ => False

theorem normQ {F : Fence} {n : Nat} {P : Program} {c : Code} {Q : Exit → Act → World → Prop} {a : Act} {w : World} (h : c.wpIn F n P (NormQ Q) a w) : c.wpIn F n P Q a w :=
  wpIn_mono h (fun {e a w} h => by cases e <;> first | exact h | exact h.elim)

theorem ev_open {W : World} {g : Nat} {x : Ev} (h : W.heap[g]? = some (evBox x)) : (W.cell? ⟨g, 0, none⟩ = some (strE x.key) ∧ W.cell? ⟨g, 1, none⟩ = some (strE x.acc) ∧ W.cell? ⟨g, 2, none⟩ = some (strE x.met) ∧ W.cell? ⟨g, 3, none⟩ = some (.int .i64 x.qty) ∧ W.cell? ⟨g, 4, none⟩ = some (.int .i64 x.at_)) ∧
    (W.frozen? ⟨g, 0, none⟩ = false ∧ W.frozen? ⟨g, 1, none⟩ = false ∧ W.frozen? ⟨g, 2, none⟩ = false ∧ W.frozen? ⟨g, 3, none⟩ = false ∧ W.frozen? ⟨g, 4, none⟩ = false) := by
  refine ⟨⟨?_, ?_, ?_, ?_, ?_⟩, ?_, ?_, ?_, ?_, ?_⟩
  all_goals first | (simp [World.cell?, h]; done) | (unfold World.frozen?; rw [h]; simp)

end Go.Proofs.YtnlanemldapfiaaGreat.se
