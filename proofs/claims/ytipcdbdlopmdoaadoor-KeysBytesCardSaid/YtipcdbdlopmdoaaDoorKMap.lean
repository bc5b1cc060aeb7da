/-
  The map of kinds: made; asked.
-/
import Derived.Test.YtipcdbdlopmdoaaDoorKBase
import Derived.Test.YtipcdbdlopmdoaaDoorKPlain
import Derived.Maps.Own
import Derived.Maps.OwnSet
import Derived.Maps.Keyed
namespace Go.Proofs.YtipcdbdlopmdoaaDoor
open Go.RowKit Go.Maps Go.WideMaps Go.Shelf
set_option linter.unusedVariables false
set_option linter.unusedSimpArgs false

/-- what is known of a kind, as values -/
def kindI : Value := .agg #[.func (.func 26) #[] #[], .func (.func 27) #[] #[], .func (.func 28) #[] #[], .func (.func 29) #[] #[]]
def kindT : Value := .agg #[.func (.func 30) #[] #[], .func (.func 31) #[] #[], .func (.func 32) #[] #[], .func (.func 33) #[] #[]]

def kindZ : Value := .agg #[.nilFunc, .nilFunc, .nilFunc, .nilFunc]
open Classical in
noncomputable def kindElem (v : Value) : Option (DataW Unit × List MemPlace) :=
  if v = kindI then some (.lit (.int .i64 1), []) else if v = kindT then some (.lit (.int .i64 2), []) else if v = kindZ then some (.lit (.int .i64 0), []) else none

theorem kindTI : kindT ≠ kindI := by unfold kindT kindI; simp
theorem kindZI : kindZ ≠ kindI := by unfold kindZ kindI; simp
theorem kindZT : kindZ ≠ kindT := by unfold kindZ kindT; simp
theorem elem_I : kindElem kindI = some (.lit (.int .i64 1), []) := by simp [kindElem]
theorem elem_T : kindElem kindT = some (.lit (.int .i64 2), []) := by simp [kindElem, kindTI]
theorem elem_Z : kindElem kindZ = some (.lit (.int .i64 0), []) := by simp [kindElem, kindZI, kindZT]
theorem elem_inv {v : Value} {n : Int} {ps : List MemPlace} (h : kindElem v = some (.lit (.int .i64 n), ps)) : (n = 1 → v = kindI) ∧ (n = 2 → v = kindT) ∧ (n = 0 → v = kindZ) := by
  unfold kindElem at h
  split at h
  · simp at h; obtain ⟨rfl, -⟩ := h; rename_i e; exact ⟨fun _ => e, fun h => by omega, fun h => by omega⟩
  · split at h
    · simp at h; obtain ⟨rfl, -⟩ := h; rename_i e; exact ⟨fun h => by omega, fun _ => e, fun h => by omega⟩
    · split at h
      · simp at h; obtain ⟨rfl, -⟩ := h; rename_i e; exact ⟨fun h => by omega, fun h => by omega, fun _ => e⟩
      · simp at h

/-- the map as data -/
def kindsD : DataW Unit := ((DataW.map []).put (.int .i64 1) (.lit (.int .i64 1))).put (.int .i64 2) (.lit (.int .i64 2))
theorem keyInt : Keyed Tryd.prog 3 := int_keyed Tryd.underlying3
/-- block b holds the map of kinds -/
def KindsAt (w : World) (b : Nat) : Prop := w.ownsMap Tryd.prog 3 kindElem b 2 kindsD
theorem KindsAt.only {w w' : World} {b : Nat} (h : KindsAt w b) (t : Only w w') : KindsAt w' b := by
  have hlt := World.ownsMap.lt h
  obtain ⟨es, clock, hb, F, hs, hD⟩ := h
  exact ⟨es, clock, (t.block b hlt).trans hb, F, hs, hD⟩
theorem KindsAt.lt {w : World} {b : Nat} (h : KindsAt w b) : b < w.heap.size := World.ownsMap.lt h

theorem at1 : kindsD.atKey (.int .i64 1) (.lit (.int .i64 0)) = .lit (.int .i64 1) := by rfl
theorem at2 : kindsD.atKey (.int .i64 2) (.lit (.int .i64 0)) = .lit (.int .i64 2) := by rfl
theorem kindsD_is : kindsD = .map [(.int .i64 1, .lit (.int .i64 1)), (.int .i64 2, .lit (.int .i64 2))] := by rfl
theorem same_int (a b : Int) : Lit.sameKey (.int .i64 a) (.int .i64 b) = (a == b) := by simp only [Lit.sameKey, true_and]; rw [Bool.eq_iff_iff]; simp
theorem atN {k : Int} (h1 : k ≠ 1) (h2 : k ≠ 2) : kindsD.atKey (.int .i64 k) (.lit (.int .i64 0)) = .lit (.int .i64 0) := by
  have e1 : ((1 : Int) == k) = false := beq_eq_false_iff_ne.2 (fun e => h1 e.symm)
  have e2 : ((2 : Int) == k) = false := beq_eq_false_iff_ne.2 (fun e => h2 e.symm)
  rw [kindsD_is]
  simp [DataW.atKey, same_int, e1, e2]
theorem has_kind (k : Int) : Maps.has kindsD (.int .i64 k) = (k == 1 || k == 2) := by
  have e1 : ((1 : Int) == k) = (k == 1) := by rw [Bool.eq_iff_iff, beq_iff_eq, beq_iff_eq]; exact eq_comm
  have e2 : ((2 : Int) == k) = (k == 2) := by rw [Bool.eq_iff_iff, beq_iff_eq, beq_iff_eq]; exact eq_comm
  rw [kindsD_is]
  simp [Maps.has, same_int, e1, e2]

/-- what is found of a number -/
def kindOf (k : Int) : Value := if k = 1 then kindI else if k = 2 then kindT else kindZ

theorem zeroKind (w : World) : (zeroValue 57).run Tryd.prog w = .ok kindZ w := by kernel_rfl

theorem look_kind {w : World} {b : Nat} {k : Int} (h : KindsAt w b) (hk : (Lit.int .i64 k).wf = true) :
    (Instr.lookup 50 (.map (some b)) (.int .i64 k) true).run Tryd.prog w = .ok (.tuple #[kindOf k, .bool (k == 1 || k == 2)]) w := by
  obtain ⟨v, ps, hr, hv⟩ := World.ownsMap.look_ok h keyInt (t := 50) Tryd.underlying50 (zeroKind w) elem_Z (key := .int .i64 k) (kl := .int .i64 k) (keyOf_int_mk Tryd.underlying3 hk)
  rw [hr, has_kind]
  have : v = kindOf k := by
    unfold kindOf
    by_cases h1 : k = 1
    · subst h1; rw [at1] at hv; rw [if_pos rfl]; exact (elem_inv hv).1 rfl
    · by_cases h2 : k = 2
      · subst h2; rw [at2] at hv; rw [if_neg h1, if_pos rfl]; exact (elem_inv hv).2.1 rfl
      · rw [atN h1 h2] at hv; rw [if_neg h1, if_neg h2]; exact (elem_inv hv).2.2 rfl
  rw [this]

theorem pick_kind {w : World} {b : Nat} {k : Int} (h : KindsAt w b) (hk : (Lit.int .i64 k).wf = true) :
    (Instr.lookup 50 (.map (some b)) (.int .i64 k) false).run Tryd.prog w = .ok (kindOf k) w := by
  obtain ⟨v, ps, hr, hv⟩ := World.ownsMap.lookup h keyInt (t := 50) Tryd.underlying50 (zeroKind w) elem_Z (key := .int .i64 k) (kl := .int .i64 k) (keyOf_int_mk Tryd.underlying3 hk)
  rw [hr]
  have : v = kindOf k := by
    unfold kindOf
    by_cases h1 : k = 1
    · subst h1; rw [at1] at hv; rw [if_pos rfl]; exact (elem_inv hv).1 rfl
    · by_cases h2 : k = 2
      · subst h2; rw [at2] at hv; rw [if_neg h1, if_pos rfl]; exact (elem_inv hv).2.1 rfl
      · rw [atN h1 h2] at hv; rw [if_neg h1, if_neg h2]; exact (elem_inv hv).2.2 rfl
  rw [this]

theorem kindOf_1 : kindOf 1 = kindI := rfl
theorem kindOf_2 : kindOf 2 = kindT := rfl
theorem kindOf_n {k : Int} (h : (k == 1 || k == 2) = false) : kindOf k = kindZ := by
  simp at h
  unfold kindOf
  rw [if_neg h.1, if_neg h.2]

set_option maxHeartbeats 400000 in
theorem kinds_any (w : World) : Calls Tryd.prog 21 #[] w fun e w' => e = .returned (.map (some w.heap.size)) ∧ Only w w' ∧ KindsAt w' w.heap.size := by
  have hmm := @run_makeMap Tryd.prog
  have h0 := World.ownsMap_made w Tryd.prog 3 kindElem
  obtain ⟨w1, r1, o1, g1⟩ := h0.update (t := 50) keyInt Tryd.underlying50 (by unfold maxLen; omega) (key := .int .i64 1) (kl := .int .i64 1) (keyOf_int_mk Tryd.underlying3 (by decide)) elem_I
  obtain ⟨w2, r2, o2, g2⟩ := o1.update (t := 50) keyInt Tryd.underlying50 (by unfold maxLen; omega) (key := .int .i64 2) (kl := .int .i64 2) (keyOf_int_mk Tryd.underlying3 (by decide)) elem_T
  have t1 : Only w w1 := Below.grown (Below.alloc (Below.refl _ _) (Nat.le_refl _) _) g1 (by simp) (fun k e => by simp at e; omega)
  have t2 : Only w w2 := Below.grown t1 g2 t1.size (fun k e => by simp at e; omega)
  unfold kindI at r1
  unfold kindT at r2
  have O2 := Lib.hid o2
  have T2 := Lib.hid t2
  clear o2 t2 t1 o1 g1 g2 h0
  go_enter Tryd.func21, Tryd.ntmps21
  go_wp2_with fail
  go_ret
  exact ⟨rfl, T2.out, O2.out⟩
end Go.Proofs.YtipcdbdlopmdoaaDoor
