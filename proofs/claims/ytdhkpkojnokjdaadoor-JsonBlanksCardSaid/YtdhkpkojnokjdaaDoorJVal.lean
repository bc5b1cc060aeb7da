/-
  JSON values as plain data, and what memory holds of them.
-/
import Derived.Test.YtdhkpkojnokjdaaDoorJBytes
import Derived.Test.YtdhkpkojnokjdaaDoorGJa
namespace Go.Proofs.YtdhkpkojnokjdaaDoor
open Go.RowKit Go.Maps Go.WideMaps Go.Shelf
set_option linter.unusedVariables false
set_option linter.unusedSimpArgs false

inductive JV
  | plain (k : Nat)
  | num (t : List UInt8)
  | str (t : List UInt8)
  | arr (l : List JV)
  | obj (ns : List (List UInt8)) (l : List JV)

abbrev nilS : Value := .slice none 0 0
abbrev txt (t : List UInt8) : Value := .string ⟨t.toArray⟩
abbrev vOf (k : Nat) (t : List UInt8) (L N : Value) : Value := .agg #[.int .i64 (k : Int), txt t, L, N]

/-- a row of our own, its block one of S -/
def RowS (w : World) (S : Nat → Prop) (t : TypeId) (size : Nat) (v : Value) (n : Nat) (xs : List Value) : Prop := w.ownsRow 0 t size v n xs ∧ ∀ g, v.ownBlock = some g → S g

mutual
/-- memory holds that value, in blocks of S -/
def VRep (w : World) : JV → (Nat → Prop) → Value → Prop
  | .plain k, S, v => v = vOf k [] nilS nilS ∧ k ≤ 2
  | .num t, S, v => v = vOf 3 t nilS nilS
  | .str t, S, v => v = vOf 4 t nilS nilS
  | .arr l, S, v => ∃ L xs, v = vOf 5 [] L nilS ∧ RowS w S 25 4 L l.length xs ∧ LRep w l (fun i => S i ∧ L.ownBlock ≠ some i) xs
  | .obj ns l, S, v => ∃ L N xs, v = vOf 6 [] L N ∧ ns.length = l.length ∧ (∀ g, L.ownBlock = some g → N.ownBlock ≠ some g) ∧ RowS w S 25 4 L l.length xs ∧ RowS w S 9 1 N ns.length (ns.map txt) ∧
      LRep w l (fun i => S i ∧ L.ownBlock ≠ some i ∧ N.ownBlock ≠ some i) xs
/-- memory holds those values, one behind another in a row's cells -/
def LRep (w : World) : List JV → (Nat → Prop) → List Value → Prop
  | [], S, xs => xs = []
  | x :: r, S, xs => ∃ a b c d ys, xs = a :: b :: c :: d :: ys ∧ VRep w x S (.agg #[a, b, c, d]) ∧ LRep w r S ys
end

theorem RowS.turn {w w' : World} {S : Nat → Prop} {t : TypeId} {size : Nat} {v : Value} {n : Nat} {xs : List Value} (h : RowS w S t size v n xs) {Q : Nat → Prop} (ht : Turn Q w w') (hq : ∀ i, S i → ¬ Q i) : RowS w' S t size v n xs := by
  refine ⟨⟨h.1.1, ?_⟩, h.2⟩
  rcases h.1.2 with k | ⟨g, cap, cur, e1, hg, hh, r⟩
  · exact Or.inl k
  · exact Or.inr ⟨g, cap, cur, e1, hg, (ht.block g (Array.getElem?_eq_some_iff.1 hh).1 (hq g (h.2 g (by rw [e1]; rfl)))).trans hh, r⟩
theorem RowS.mono {w : World} {S S' : Nat → Prop} {t : TypeId} {size : Nat} {v : Value} {n : Nat} {xs : List Value} (h : RowS w S t size v n xs) (hs : ∀ i, i < w.heap.size → S i → S' i) : RowS w S' t size v n xs :=
  ⟨h.1, fun g hg => hs g (h.1.lt g hg).2 (h.2 g hg)⟩

mutual
theorem VRep.turn {w w' : World} {Q : Nat → Prop} (ht : Turn Q w w') : ∀ (x : JV) {S : Nat → Prop} {v : Value}, (∀ i, S i → ¬ Q i) → VRep w x S v → VRep w' x S v
  | .plain k, S, v, hq, h => h
  | .num t, S, v, hq, h => h
  | .str t, S, v, hq, h => h
  | .arr l, S, v, hq, h => by
    unfold VRep at h ⊢
    obtain ⟨L, xs, e, hr, hl⟩ := h
    exact ⟨L, xs, e, hr.turn ht hq, LRep.turn ht l (fun i hi => hq i hi.1) hl⟩
  | .obj ns l, S, v, hq, h => by
    unfold VRep at h ⊢
    obtain ⟨L, N, xs, e, hn, hd, hr, hr2, hl⟩ := h
    exact ⟨L, N, xs, e, hn, hd, hr.turn ht hq, hr2.turn ht hq, LRep.turn ht l (fun i hi => hq i hi.1) hl⟩
theorem LRep.turn {w w' : World} {Q : Nat → Prop} (ht : Turn Q w w') : ∀ (l : List JV) {S : Nat → Prop} {xs : List Value}, (∀ i, S i → ¬ Q i) → LRep w l S xs → LRep w' l S xs
  | [], S, xs, hq, h => h
  | x :: r, S, xs, hq, h => by
    unfold LRep at h ⊢
    obtain ⟨a, b, c, d, ys, e, h1, h2⟩ := h
    exact ⟨a, b, c, d, ys, e, VRep.turn ht x hq h1, LRep.turn ht r hq h2⟩
end
mutual
theorem VRep.mono {w : World} : ∀ (x : JV) {S S' : Nat → Prop} {v : Value}, (∀ i, i < w.heap.size → S i → S' i) → VRep w x S v → VRep w x S' v
  | .plain k, S, S', v, hs, h => h
  | .num t, S, S', v, hs, h => h
  | .str t, S, S', v, hs, h => h
  | .arr l, S, S', v, hs, h => by
    unfold VRep at h ⊢
    obtain ⟨L, xs, e, hr, hl⟩ := h
    exact ⟨L, xs, e, hr.mono hs, LRep.mono l (fun i hl hi => ⟨hs i hl hi.1, hi.2⟩) hl⟩
  | .obj ns l, S, S', v, hs, h => by
    unfold VRep at h ⊢
    obtain ⟨L, N, xs, e, hn, hd, hr, hr2, hl⟩ := h
    exact ⟨L, N, xs, e, hn, hd, hr.mono hs, hr2.mono hs, LRep.mono l (fun i hl hi => ⟨hs i hl hi.1, hi.2⟩) hl⟩
theorem LRep.mono {w : World} : ∀ (l : List JV) {S S' : Nat → Prop} {xs : List Value}, (∀ i, i < w.heap.size → S i → S' i) → LRep w l S xs → LRep w l S' xs
  | [], S, S', xs, hs, h => h
  | x :: r, S, S', xs, hs, h => by
    unfold LRep at h ⊢
    obtain ⟨a, b, c, d, ys, e, h1, h2⟩ := h
    exact ⟨a, b, c, d, ys, e, VRep.mono x hs h1, LRep.mono r hs h2⟩
end
theorem LRep.append {w : World} {S : Nat → Prop} {y : JV} {a b c d : Value} (hy : VRep w y S (.agg #[a, b, c, d])) : ∀ {l : List JV} {xs : List Value}, LRep w l S xs → LRep w (l ++ [y]) S (xs ++ [a, b, c, d])
  | [], xs, h => by
    unfold LRep at h
    subst h
    exact ⟨a, b, c, d, [], rfl, hy, rfl⟩
  | x :: r, xs, h => by
    unfold LRep at h
    obtain ⟨a', b', c', d', ys, rfl, h1, h2⟩ := h
    exact ⟨a', b', c', d', ys ++ [a, b, c, d], rfl, h1, LRep.append hy h2⟩
theorem VRep.form {w : World} {S : Nat → Prop} : ∀ {x : JV} {v : Value}, VRep w x S v → ∃ (k : Nat) (t : List UInt8) (L N : Value), v = vOf k t L N ∧ (∃ a n c, L = .slice a n c) ∧ (∃ a n c, N = .slice a n c)
  | .plain k, v, h => ⟨k, [], _, _, h.1, ⟨_, _, _, rfl⟩, ⟨_, _, _, rfl⟩⟩
  | .num t, v, h => ⟨3, t, _, _, h, ⟨_, _, _, rfl⟩, ⟨_, _, _, rfl⟩⟩
  | .str t, v, h => ⟨4, t, _, _, h, ⟨_, _, _, rfl⟩, ⟨_, _, _, rfl⟩⟩
  | .arr l, v, h => by
    unfold VRep at h
    obtain ⟨L, xs, e, hr, hl⟩ := h
    refine ⟨5, [], L, _, e, ?_, ⟨_, _, _, rfl⟩⟩
    rcases hr.1.2 with ⟨k, _⟩ | ⟨g, cap, cur, e1, _⟩
    · exact ⟨_, _, _, k⟩
    · exact ⟨_, _, _, e1⟩
  | .obj ns l, v, h => by
    unfold VRep at h
    obtain ⟨L, N, xs, e, hn, hd, hr, hr2, hl⟩ := h
    refine ⟨6, [], L, N, e, ?_, ?_⟩
    · rcases hr.1.2 with ⟨k, _⟩ | ⟨g, cap, cur, e1, _⟩
      · exact ⟨_, _, _, k⟩
      · exact ⟨_, _, _, e1⟩
    · rcases hr2.1.2 with ⟨k, _⟩ | ⟨g, cap, cur, e1, _⟩
      · exact ⟨_, _, _, k⟩
      · exact ⟨_, _, _, e1⟩

theorem infoJV : (Tryd.prog.info? 25).map (fun i => (i.zero, i.size, i.bytes)) = some (some (.agg #[.int .i64 0, .string ⟨#[]⟩, .slice none 0 0, .slice none 0 0]), 4, 72) := by kernel_rfl
theorem infoJV_parts : ∃ i, Tryd.prog.info? 25 = some i ∧ i.zero = some (.agg #[.int .i64 0, .string ⟨#[]⟩, .slice none 0 0, .slice none 0 0]) ∧ i.size = 4 ∧ i.bytes = 72 := by
  have h := infoJV
  cases hi : Tryd.prog.info? 25 with
  | none => rw [hi] at h; simp at h
  | some i =>
    rw [hi] at h
    simp only [Option.map_some, Option.some.injEq, Prod.mk.injEq] at h
    exact ⟨i, rfl, h.1, h.2.1, h.2.2⟩
theorem infoST : (Tryd.prog.info? 9).map (fun i => (i.zero, i.size, i.bytes)) = some (some (.string ⟨#[]⟩), 1, 16) := by kernel_rfl
theorem infoST_parts : ∃ i, Tryd.prog.info? 9 = some i ∧ i.zero = some (.string ⟨#[]⟩) ∧ i.size = 1 ∧ i.bytes = 16 := by
  have h := infoST
  cases hi : Tryd.prog.info? 9 with
  | none => rw [hi] at h; simp at h
  | some i =>
    rw [hi] at h
    simp only [Option.map_some, Option.some.injEq, Prod.mk.injEq] at h
    exact ⟨i, rfl, h.1, h.2.1, h.2.2⟩

/-- a value is appended to a row of values -/
theorem append_jv {w : World} {ops : Array Oper} {rest : List Oper} {o : Oper} {a : Act} {Qx : Exit → Act → World → Prop} (hgd : o.guard = none) (s x : Operand)
    (ho : o.op = .call { callee := .builtin .append, args := #[s, x], argTypes := #[22, 22] }) {v : Value} {n : Nat} {xs : List Value} (a1 b1 c1 d1 : Value) {g : Nat} (hs : a.eval s = v) (hx : a.eval x = .slice (some ⟨g, 0, none⟩) 1 1)
    (hl : w.ownsRow 0 25 4 v n xs) (h1 : ∀ j u, [a1, b1, c1, d1][j]? = some u → w.cell? ⟨g, j, none⟩ = some u) (hc : ∀ u ∈ [a1, b1, c1, d1], u.oneCell' = true) (hn : n ≤ 1000000)
    (h : ∀ v' w', w'.ownsRow 0 25 4 v' (n + 1) (xs ++ [a1, b1, c1, d1]) → w.grownBy w' v.ownBlock → (v'.ownBlock = v.ownBlock ∨ v'.ownBlock = some w.heap.size) → wpList Tryd.prog ops Qx rest (a.put o.dst v') w') :
    wpList Tryd.prog ops Qx (o :: rest) a w := by
  obtain ⟨i0, hi, hz0, hz1, hz2⟩ := infoJV_parts
  refine wpList_append_own_at w hgd s x 22 ho 0 25 i0 _ 4 72 Tryd.underlying22 hi hz0 hz1 hz2 rfl (by decide) v n _ hs hl ⟨g, 0, none⟩ 1 1 [a1, b1, c1, d1] hx rfl (fun j u hj => ?_) hc (by unfold maxLen; omega) (by omega) (Nat.zero_le _) ?_
  · have := h1 j u hj
    rwa [show (⟨g, 0, none⟩ : Addr).add j = ⟨g, j, none⟩ by unfold Addr.add; split <;> simp_all]
  · intro v' w2 hown' hg _ hat
    exact h v' w2 hown' hg hat

/-- a name is appended to a row of names -/
theorem append_name {w : World} {ops : Array Oper} {rest : List Oper} {o : Oper} {a : Act} {Qx : Exit → Act → World → Prop} (hgd : o.guard = none) (s x : Operand)
    (ho : o.op = .call { callee := .builtin .append, args := #[s, x], argTypes := #[23, 23] }) {v : Value} {n : Nat} {xs : List Value} (t : ByteArray) {g : Nat} (hs : a.eval s = v) (hx : a.eval x = .slice (some ⟨g, 0, none⟩) 1 1)
    (hl : w.ownsRow 0 9 1 v n xs) (h1 : w.cell? ⟨g, 0, none⟩ = some (.string t)) (hn : n ≤ 1000000)
    (h : ∀ v' w', w'.ownsRow 0 9 1 v' (n + 1) (xs ++ [.string t]) → w.grownBy w' v.ownBlock → (v'.ownBlock = v.ownBlock ∨ v'.ownBlock = some w.heap.size) → wpList Tryd.prog ops Qx rest (a.put o.dst v') w') :
    wpList Tryd.prog ops Qx (o :: rest) a w := by
  obtain ⟨i0, hi, hz0, hz1, hz2⟩ := infoST_parts
  refine wpList_append_own_at w hgd s x 23 ho 0 9 i0 _ 1 16 Tryd.underlying23 hi hz0 hz1 hz2 rfl (by decide) v n _ hs hl ⟨g, 0, none⟩ 1 1 [.string t] hx rfl (fun j u hj => ?_) (fun u hu => ?_) (by unfold maxLen; omega) (by omega) (Nat.zero_le _) ?_
  · match j, hj with
    | 0, hj =>
      simp at hj
      subst hj
      have e : (⟨g, 0, none⟩ : Addr).add 0 = ⟨g, 0, none⟩ := by simp [Addr.add]
      rw [e]
      exact h1
    | j + 1, hj => simp at hj
  · simp at hu
    subst hu
    rfl
  · intro v' w2 hown' hg _ hat
    exact h v' w2 hown' hg hat

/-- a list under way in blocks from B on: its row is not that of N -/
def ListAt (w : World) (B : Nat) (L N : Value) (acc : List JV) (xs : List Value) : Prop :=
  RowS w (fun i => B ≤ i) 25 4 L acc.length xs ∧ LRep w acc (fun i => B ≤ i ∧ L.ownBlock ≠ some i ∧ N.ownBlock ≠ some i) xs ∧ (∀ g, L.ownBlock = some g → N.ownBlock ≠ some g)
/-- names under way -/
def NamesAt (w : World) (B : Nat) (N : Value) (ns : List (List UInt8)) : Prop := RowS w (fun i => B ≤ i) 9 1 N ns.length (ns.map txt)

theorem ListAt.nil (w : World) (B : Nat) (N : Value) : ListAt w B nilS N [] [] := ⟨⟨World.ownsRow_nil _ _ _ _, fun g hg => by cases hg⟩, rfl, fun g hg => by cases hg⟩
theorem NamesAt.nil (w : World) (B : Nat) : NamesAt w B nilS [] := ⟨World.ownsRow_nil _ _ _ _, fun g hg => by cases hg⟩
theorem ListAt.turn {w w' : World} {B : Nat} {L N : Value} {acc : List JV} {xs : List Value} (h : ListAt w B L N acc xs) {Q : Nat → Prop} (t : Turn Q w w') (hq : ∀ i, B ≤ i → ¬ Q i) : ListAt w' B L N acc xs :=
  ⟨h.1.turn t hq, LRep.turn t acc (fun i hi => hq i hi.1) h.2.1, h.2.2⟩
theorem NamesAt.turn {w w' : World} {B : Nat} {N : Value} {ns : List (List UInt8)} (h : NamesAt w B N ns) {Q : Nat → Prop} (t : Turn Q w w') (hq : ∀ i, B ≤ i → ¬ Q i) : NamesAt w' B N ns := RowS.turn h t hq
theorem ListAt.but {w w' : World} {B R : Nat} {L N : Value} {acc : List JV} {xs : List Value} (h : ListAt w B L N acc xs) (t : But R w w') (hR : R < B) : ListAt w' B L N acc xs := h.turn t (fun i hi q => by omega)
theorem ListAt.only {w w' : World} {B : Nat} {L N : Value} {acc : List JV} {xs : List Value} (h : ListAt w B L N acc xs) (t : Only w w') : ListAt w' B L N acc xs := h.turn t.turn (fun _ _ q => q)
theorem NamesAt.but {w w' : World} {B R : Nat} {N : Value} {ns : List (List UInt8)} (h : NamesAt w B N ns) (t : But R w w') (hR : R < B) : NamesAt w' B N ns := h.turn t (fun i hi q => by omega)
theorem NamesAt.only {w w' : World} {B : Nat} {N : Value} {ns : List (List UInt8)} (h : NamesAt w B N ns) (t : Only w w') : NamesAt w' B N ns := h.turn t.turn (fun _ _ q => q)

theorem grown_turn {w w' : World} {row : Option Nat} (h : w.grownBy w' row) : Turn (fun i => row = some i) w w' := ⟨h.os, h.tape, h.output, h.size, fun k hk hn => h.block k hk (fun e => hn e.symm)⟩
theorem grown_own {w w' : World} {R B : Nat} {L : Value} (h : w.grownBy w' L.ownBlock) (hB : ∀ g, L.ownBlock = some g → B ≤ g) : Turn (fun i => i = R ∨ B ≤ i) w w' := Turn.mono (grown_turn h) (fun i q => Or.inr (hB i q))

/-- an element is appended -/
theorem ListAt.snoc {w w' : World} {B m : Nat} {L L' N : Value} {acc : List JV} {xs : List Value} {y : JV} {a b c d : Value} (h : ListAt w B L N acc xs) (hy : VRep w y (fun i => m ≤ i) (.agg #[a, b, c, d]))
    (hm : B ≤ m) (hL : ∀ g, L.ownBlock = some g → g < m) (hN : ∀ g, N.ownBlock = some g → g < m) (hmw : m ≤ w.heap.size) (hg : w.grownBy w' L.ownBlock) (hat : L'.ownBlock = L.ownBlock ∨ L'.ownBlock = some w.heap.size)
    (hown : w'.ownsRow 0 25 4 L' (acc.length + 1) (xs ++ [a, b, c, d])) : ListAt w' B L' N (acc ++ [y]) (xs ++ [a, b, c, d]) := by
  obtain ⟨h1, h2, h3⟩ := h
  have hT := grown_turn hg
  have hl := LRep.mono acc (S' := fun i => B ≤ i ∧ L.ownBlock ≠ some i ∧ L'.ownBlock ≠ some i ∧ N.ownBlock ≠ some i) (fun i hi ⟨p1, p2, p3⟩ => ⟨p1, p2, by rcases hat with e | e <;> rw [e]; exact p2; intro q; simp at q; omega, p3⟩) h2
  have hy2 := VRep.mono y (S' := fun i => B ≤ i ∧ L.ownBlock ≠ some i ∧ L'.ownBlock ≠ some i ∧ N.ownBlock ≠ some i) (fun i hi p => ⟨by omega, fun q => by have := hL i q; omega, by rcases hat with e | e <;> rw [e]; (intro q; have := hL i q; omega); intro q; simp at q; omega, fun q => by have := hN i q; omega⟩) hy
  have hl2 := LRep.turn hT acc (fun i hi => hi.2.1) hl
  have hy3 := VRep.turn hT y (fun i hi => hi.2.1) hy2
  refine ⟨⟨by rw [List.length_append]; exact hown, fun g hg' => ?_⟩, LRep.append (VRep.mono y (fun i _ p => ⟨p.1, p.2.2.1, p.2.2.2⟩) hy3) (LRep.mono acc (fun i _ p => ⟨p.1, p.2.2.1, p.2.2.2⟩) hl2), fun g hg' => ?_⟩
  · rcases hat with e | e
    · exact h1.2 g (e ▸ hg')
    · rw [e] at hg'; simp at hg'; omega
  · rcases hat with e | e
    · exact h3 g (e ▸ hg')
    · rw [e] at hg'; simp at hg'
      intro q; have := hN g q; omega

/-- a name is appended beside it -/
theorem ListAt.beside {w w' : World} {B : Nat} {L N N' : Value} {acc : List JV} {xs : List Value} (h : ListAt w B L N acc xs) (hg : w.grownBy w' N.ownBlock) (hat : N'.ownBlock = N.ownBlock ∨ N'.ownBlock = some w.heap.size) : ListAt w' B L N' acc xs := by
  obtain ⟨h1, h2, h3⟩ := h
  have hT := grown_turn hg
  have hL : ∀ g, L.ownBlock = some g → g < w.heap.size := fun g hg => (h1.1.lt g hg).2
  have hl := LRep.mono acc (S' := fun i => B ≤ i ∧ L.ownBlock ≠ some i ∧ N.ownBlock ≠ some i ∧ N'.ownBlock ≠ some i) (fun i hi ⟨p1, p2, p3⟩ => ⟨p1, p2, p3, by rcases hat with e | e <;> rw [e]; exact p3; intro q; simp at q; omega⟩) h2
  have hl2 := LRep.turn hT acc (fun i hi => hi.2.2.1) hl
  have hr : RowS w (fun i => B ≤ i ∧ N.ownBlock ≠ some i) 25 4 L acc.length xs := ⟨h1.1, fun g hg => ⟨h1.2 g hg, h3 g hg⟩⟩
  have hr2 := hr.turn hT (fun i hi => hi.2)
  refine ⟨⟨hr2.1, fun g hg => (hr2.2 g hg).1⟩, LRep.mono acc (fun i _ p => ⟨p.1, p.2.1, p.2.2.2⟩) hl2, fun g hg' => ?_⟩
  rcases hat with e | e
  · rw [e]; exact h3 g hg'
  · rw [e]; intro q; simp at q; have := hL g hg'; omega
theorem NamesAt.snoc {w w' : World} {B : Nat} {N N' : Value} {ns : List (List UInt8)} {t : List UInt8} (h : NamesAt w B N ns) (hB : B ≤ w.heap.size) (hat : N'.ownBlock = N.ownBlock ∨ N'.ownBlock = some w.heap.size)
    (hown : w'.ownsRow 0 9 1 N' (ns.length + 1) (ns.map txt ++ [txt t])) : NamesAt w' B N' (ns ++ [t]) := by
  refine ⟨by rw [List.length_append, List.map_append]; exact hown, fun g hg => ?_⟩
  rcases hat with e | e
  · exact h.2 g (e ▸ hg)
  · rw [e] at hg; simp at hg; omega
/-- an element is appended: the names stand -/
theorem NamesAt.beside {w w' : World} {B : Nat} {L N : Value} {ns : List (List UInt8)} (h : NamesAt w B N ns) (hg : w.grownBy w' L.ownBlock) (hd : ∀ g, L.ownBlock = some g → N.ownBlock ≠ some g) : NamesAt w' B N ns := by
  have hr : RowS w (fun i => B ≤ i ∧ L.ownBlock ≠ some i) 9 1 N ns.length (ns.map txt) := ⟨h.1, fun g hg => ⟨h.2 g hg, fun q => hd g q hg⟩⟩
  have hr2 := hr.turn (grown_turn hg) (fun i hi => hi.2)
  exact ⟨hr2.1, fun g hg => (hr2.2 g hg).1⟩
theorem ListAt.arr {w : World} {B : Nat} {L : Value} {acc : List JV} {xs : List Value} (h : ListAt w B L nilS acc xs) : VRep w (.arr acc) (fun i => B ≤ i) (vOf 5 [] L nilS) := by
  unfold VRep
  exact ⟨L, xs, rfl, h.1, LRep.mono acc (fun i _ p => ⟨p.1, p.2.1⟩) h.2.1⟩
theorem ListAt.obj {w : World} {B : Nat} {L N : Value} {ns : List (List UInt8)} {acc : List JV} {xs : List Value} (h : ListAt w B L N acc xs) (k : NamesAt w B N ns) (hn : ns.length = acc.length) : VRep w (.obj ns acc) (fun i => B ≤ i) (vOf 6 [] L N) := by
  unfold VRep
  exact ⟨L, N, xs, rfl, hn, h.2.2, h.1, k, h.2.1⟩
end Go.Proofs.YtdhkpkojnokjdaaDoor
