/-
  A drawn region of twelve operations and a tail: ten that yield fixed values, one that makes memory, one (the twelfth) that writes.
-/
import Derived.Test.YtinghngnehhgfaaGreatDoorNRichT
import Derived.Test.YtinghngnehhgfaaGreatDoorWQBase
import Derived.Maps.AppendAt
namespace Go.Proofs.YtinghngnehhgfaaGreatDoor
open Go Go.RowKit
set_option linter.unusedVariables false

/-- ahead of the twelfth: only new memory, and what is said of the eleventh; behind it: what it leaves -/
def LateX (W0 : World) (fr : Value → World → Prop) (FIN : Value → World → Prop) (L : Array Bool) (vs : Nat → Value) (w : World) : Prop :=
  (L.getD 11 false = false → Only W0 w ∧ (L.getD 10 false = true → fr (vs 10) w)) ∧ (L.getD 11 false = true → FIN (vs 11) w)
section
variable {W0 w w' : World} {fr FIN : Value → World → Prop} {L : Array Bool} {vs : Nat → Value} {i : Nat} {v : Value}
theorem late_get {j : Nat} (h : i ≠ j) : (L.setIfInBounds i true).getD j false = L.getD j false := getD_set_ne false h
theorem LateX.low (h : LateX W0 fr FIN L vs w) (hi : i < 10) (hz : L.getD 11 false = false) (t : Only w w') (hf : ∀ v w w', Only w w' → fr v w → fr v w') : LateX W0 fr FIN (L.setIfInBounds i true) (upd vs i v) w' := by
  obtain ⟨h1, h2⟩ := h.1 hz
  refine ⟨fun _ => ⟨h1.trans t, fun k => ?_⟩, fun k => ?_⟩
  · rw [late_get (by omega)] at k
    rw [upd_other vs v (by omega)]
    exact hf _ _ _ t (h2 k)
  · rw [late_get (by omega), hz] at k; cases k
theorem LateX.same (h : LateX W0 fr FIN L vs w) (hi : i < 10) : LateX W0 fr FIN (L.setIfInBounds i true) (upd vs i v) w := by
  refine ⟨fun k => ?_, fun k => ?_⟩
  · rw [late_get (by omega)] at k
    obtain ⟨h1, h2⟩ := h.1 k
    exact ⟨h1, fun k2 => by rw [late_get (by omega)] at k2; rw [upd_other vs v (by omega)]; exact h2 k2⟩
  · rw [late_get (by omega)] at k
    rw [upd_other vs v (by omega)]; exact h.2 k
theorem LateX.frm (h : LateX W0 fr FIN L vs w) (hz : L.getD 11 false = false) (t : Only w w') (hf : fr v w') : LateX W0 fr FIN (L.setIfInBounds 10 true) (upd vs 10 v) w' := by
  obtain ⟨h1, h2⟩ := h.1 hz
  refine ⟨fun _ => ⟨h1.trans t, fun k => by rw [upd_same]; exact hf⟩, fun k => ?_⟩
  rw [late_get (by omega), hz] at k; cases k
theorem LateX.fin (hs : L.size = 12) (hf : FIN v w') : LateX W0 fr FIN (L.setIfInBounds 11 true) (upd vs 11 v) w' := by
  have e : (L.setIfInBounds 11 true).getD 11 false = true := by
    simp [Array.getD, hs]
  refine ⟨fun k => ?_, fun _ => by rw [upd_same]; exact hf⟩
  rw [e] at k; cases k
theorem LateX.start (vs : Nat → Value) (t : Only W0 w) : LateX W0 fr FIN (Array.replicate 12 false) vs w := by
  refine ⟨fun _ => ⟨t, fun k => ?_⟩, fun k => ?_⟩ <;> simp at k

theorem own_zero {w : World} {base : Nat} {e : TypeId} {n : Nat} {u : Value} {xs : List Value} (k : w.ownsRow base e 1 u n xs) : w.ownsRow 0 e 1 u n xs := by
  refine ⟨k.1, ?_⟩
  rcases k.2 with k | ⟨g, cap, cur, e1, hg, r⟩
  · exact Or.inl k
  · exact Or.inr ⟨g, cap, cur, e1, Nat.zero_le _, r⟩
/-- an append onto a row of our own, in such a region -/
theorem rich_append {P : Program} (w : World) {o : Oper} {a : Act} {K : Value → World → Prop} (s x : Operand) (t : TypeId)
    (ho : o.op = .call { callee := .builtin .append, args := #[s, x], argTypes := #[t, t] })
    (base : Nat) (e : TypeId) (i : TypeInfo) (z : Value) (size bytes : Nat) (ht : P.underlying t = some (.slice e)) (hi : P.info? e = some i) (hz : i.zero = some z)
    (hsize : i.size = size) (hby : i.bytes = bytes) (hzs : z.cells.size = size) (hsz : 0 < size)
    (v : Value) (n : Nat) (xs : List Value) (hs : a.eval s = v) (hown : w.ownsRow base e size v n xs)
    (ad : Addr) (m c : Nat) (news : List Value) (hx : a.eval x = .slice (some ad) m c) (hl : news.length = m * size) (hnews : ∀ j u, news[j]? = some u → w.cell? (ad.add j) = some u) (h1 : ∀ u ∈ news, u.oneCell' = true)
    (h63 : n + m ≤ maxLen) (hbytes : (n + m) * bytes ≤ 140737488355328) (hbase : base ≤ w.heap.size)
    (h : ∀ v' w', w'.ownsRow base e size v' (n + m) (xs ++ news) → w.grownBy w' v.ownBlock → (v'.ownBlock = v.ownBlock ∨ v'.ownBlock = some w.heap.size) → K v' w') : RichAt P o a w K := by
  obtain ⟨v', w', hr, h2, h3, h4, h5⟩ := run_append_own_at (P := P) w base t o.type e i z size bytes ht hi hz hsize hby hzs hsz v n xs hown ad m c news hl hnews h1 h63 hbytes hbase
  unfold RichAt execOp
  simp only [ho, resolve, invoke, builtin, Sem.run_bind, Sem.run_pure, Result.andThen_ok, List.map_toArray, List.map_cons, List.map_nil, hs, hx, hr]
  exact h v' w' h2 h3 h5
end
end Go.Proofs.YtinghngnehhgfaaGreatDoor
