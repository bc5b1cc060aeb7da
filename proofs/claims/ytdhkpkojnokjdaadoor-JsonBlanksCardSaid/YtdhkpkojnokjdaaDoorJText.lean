/-
  A value's text, and bytes appended as far as a text may go.
-/
import Derived.Test.YtdhkpkojnokjdaaDoorJGrew
namespace Go.Proofs.YtdhkpkojnokjdaaDoor
open Go.RowKit Go.Shelf
set_option linter.unusedVariables false
set_option linter.unusedSimpArgs false

/-- with commas between -/
def joinB : List (List UInt8) → List UInt8
  | [] => []
  | x :: r => x ++ r.flatMap fun y => 44 :: y
theorem joinB_snoc (ts : List (List UInt8)) (y : List UInt8) : joinB (ts ++ [y]) = if ts = [] then y else joinB ts ++ 44 :: y := by
  cases ts with
  | nil => simp [joinB]
  | cons x r => simp [joinB, List.flatMap_append]
theorem joinB_take {ts : List (List UInt8)} {j : Nat} (h : j < ts.length) : joinB (ts.take (j + 1)) = if j = 0 then ts[j] else joinB (ts.take j) ++ 44 :: ts[j] := by
  rw [List.take_succ_eq_append_getElem h, joinB_snoc]
  by_cases hj : j = 0
  · subst hj; simp
  · rw [if_neg (by intro e; rcases List.take_eq_nil_iff.1 e with q | q; exact hj q; subst q; simp at h), if_neg hj]
theorem joinB_len : ∀ (ts : List (List UInt8)) (j : Nat), (joinB (ts.take j)).length ≤ (joinB ts).length := by
  intro ts j
  conv => rhs; rw [← List.take_append_drop j ts]
  cases h : ts.take j with
  | nil => simp [joinB]
  | cons x r => simp [joinB, List.flatMap_append]

mutual
/-- a value's text, the members in that order -/
def textG (ord : List (List UInt8) → List Nat) : GV → List UInt8
  | .mk k t l ns => if k = 1 then [102, 97, 108, 115, 101] else if k = 2 then [116, 114, 117, 101] else if k = 3 then t else if k = 4 then quoteB t
    else if k = 5 then 91 :: (joinB (textL ord l) ++ [93]) else if k = 6 then 123 :: (joinB ((ord ns).map fun i => quoteB (ns.getD i []) ++ 58 :: (textL ord l).getD i []) ++ [125]) else [110, 117, 108, 108]
def textL (ord : List (List UInt8) → List Nat) : List GV → List (List UInt8)
  | [] => []
  | x :: r => textG ord x :: textL ord r
end
theorem textL_map (ord : List (List UInt8) → List Nat) : ∀ l, textL ord l = l.map (textG ord)
  | [] => by rw [textL]; rfl
  | x :: r => by rw [textL, textL_map ord r]; rfl

/-- x was appended to b, as far as a text may go -/
def Fit (b x R : List UInt8) : Prop := (b.length + x.length ≤ 65536 → R = b ++ x) ∧ (65536 < b.length + x.length → 65536 < R.length) ∧ R.length ≤ b.length + x.length
theorem Fit.exact (b x : List UInt8) : Fit b x (b ++ x) := ⟨fun _ => rfl, fun h => by simpa using h, by simp⟩
theorem Fit.nil (b : List UInt8) : Fit b [] b := ⟨fun _ => by simp, fun h => by simpa using h, by simp⟩
theorem Fit.stop {b : List UInt8} (x : List UInt8) (h : 65536 < b.length) : Fit b x b := ⟨fun k => by omega, fun _ => h, by omega⟩
theorem Fit.trans {b x R y S : List UInt8} (h : Fit b x R) (k : Fit R y S) : Fit b (x ++ y) S := by
  obtain ⟨h1, h2, h3⟩ := h
  obtain ⟨k1, k2, k3⟩ := k
  refine ⟨fun q => ?_, fun q => ?_, ?_⟩
  · rw [List.length_append] at q
    have e := h1 (by omega)
    have e2 := k1 (by rw [e, List.length_append]; omega)
    rw [e2, e, List.append_assoc]
  · rw [List.length_append] at q
    refine k2 ?_
    by_cases hc : b.length + x.length ≤ 65536
    · rw [h1 hc, List.length_append]; omega
    · have := h2 (by omega); omega
  · rw [List.length_append]; omega

/-- what is appended of a value -/
def AppF (w : World) (base : Nat) (v : Value) (l x : List UInt8) (e : Ending) (w' : World) : Prop := ∃ v' R, e = .returned v' ∧ BytesO w' base v' R ∧ Fit l x R ∧ Grew w v w' v'
def ValApp (ord : List (List UInt8) → List Nat) (x : GV) : Prop := ∀ (w0 w : World) (v bv : Value) (l : List UInt8), GIn w0 x v → Only w0 w → BytesO w w0.heap.size bv l → l.length + (textG ord x).length ≤ 90000000 →
  Calls Tryd.prog 22 #[bv, v] w (AppF w w0.heap.size bv l (textG ord x))

theorem Own4.grew {w w' : World} {b : Nat} {x y z u v v' : Value} (h : Own4 w b x y z u) (t : Grew w v w' v') (hb : v.ownBlock ≠ some b) : Own4 w' b x y z u := by
  have := h.lt
  obtain ⟨ty, h⟩ := h
  exact ⟨ty, (t.1.block b this hb).trans h⟩
theorem BytesO.lt {w : World} {base : Nat} {v : Value} {l : List UInt8} (h : BytesO w base v l) {g : Nat} (hg : v.ownBlock = some g) : g < w.heap.size := (World.ownsRow.lt h g hg).2
end Go.Proofs.YtdhkpkojnokjdaaDoor
