/-
  PARTS: JTurnP, JTurnA, JTurned, JTurnW.
-/
import Derived.Test.YtdhkpkojnokjdaaDoorGRd
import Derived.Test.YtdhkpkojnokjdaaDoorJCopied
/-
  A value whose objects' members stand the other way round: the same text, the same value.
-/
namespace Go.Proofs.YtdhkpkojnokjdaaDoor
open Go.RowKit Go.Shelf Sorted
set_option linter.unusedVariables false
set_option linter.unusedSimpArgs false

mutual
def turnedJ : JV → JV
  | .plain k => .plain k
  | .num t => .num t
  | .str t => .str t
  | .arr l => .arr (turnedL l)
  | .obj ns l => .obj ns.reverse (turnedL l).reverse
def turnedL : List JV → List JV
  | [] => []
  | x :: r => turnedJ x :: turnedL r
end
theorem turnedL_map : ∀ l, turnedL l = l.map turnedJ
  | [] => by rw [turnedL]; rfl
  | x :: r => by rw [turnedL, turnedL_map r]; rfl

theorem rev_getD {α : Type} {l : List α} {i : Nat} (h : i < l.length) (d : α) : l.reverse.getD i d = l.getD (l.length - 1 - i) d := by
  simp only [List.getD]
  rw [List.getElem?_reverse h]
/-- names of which none stands twice, turned round: the same order -/
theorem ordN_rev {ns : List (List UInt8)} (hn : ns.Nodup) : (ordN ns.reverse).map (fun i => ns.length - 1 - i) = ordN ns := by
  have hlen : ns.reverse.length = ns.length := List.length_reverse
  have hin : ∀ i ∈ ordN ns.reverse, i < ns.length := fun i hi => by have := ordN_in hi; omega
  refine srt_uniq (strict_by (weakN ns)) ?_ ?_
  · have p := (ordN_perm ns.reverse).map fun i => ns.length - 1 - i
    rw [hlen] at p
    refine p.trans ?_
    have e : (List.range' 0 ns.length).map (fun i => ns.length - 1 - i) = (List.range' 0 ns.length).reverse := by
      apply List.ext_getElem
      · simp
      · intro j a b
        simp only [List.length_map, List.length_range'] at a
        rw [List.getElem_map, List.getElem_reverse, List.getElem_range', List.getElem_range']
        simp only [List.length_range']
        omega
    rw [e]
    exact List.reverse_perm _
  · rw [List.pairwise_map]
    have hs := ordN_sorted ns.reverse
    have hs2 : (ordN ns.reverse).Pairwise fun i j => i < ns.length ∧ j < ns.length ∧ i ≠ j ∧ byT (lessOf (cfN ns.reverse)) i j := by
      have hnd : (ordN ns.reverse).Nodup := (ordN_perm ns.reverse).nodup_iff.2 List.nodup_range'
      rw [List.pairwise_iff_getElem] at hs ⊢
      intro i j hi hj hij
      exact ⟨hin _ (List.getElem_mem hi), hin _ (List.getElem_mem hj), fun e => by have := (List.getElem_inj hnd).1 e; omega, hs i j hi hj hij⟩
    refine hs2.imp ?_
    rintro i j ⟨hi, hj, hij, h⟩
    have ni : ns.reverse.getD i [] = ns.getD (ns.length - 1 - i) [] := rev_getD hi []
    have nj : ns.reverse.getD j [] = ns.getD (ns.length - 1 - j) [] := rev_getD hj []
    have hne : ns.getD (ns.length - 1 - i) [] ≠ ns.getD (ns.length - 1 - j) [] := by
      rw [getD_in (by omega), getD_in (by omega)]
      intro e
      have := (List.getElem_inj hn).1 e
      omega
    left
    rcases h with h | ⟨h1, h2, -⟩
    · unfold lessOf cfN at h ⊢
      rw [ni, nj] at h
      exact h
    · exfalso
      have := cfN_same h1 h2
      rw [ni, nj] at this
      exact hne this
theorem ordN_rev_at {ns : List (List UInt8)} (hn : ns.Nodup) {j : Nat} (h : j < (ordN ns.reverse).length) (h2 : j < (ordN ns).length) : (ordN ns)[j] = ns.length - 1 - (ordN ns.reverse)[j] := by
  have := congrArg (fun l => l[j]?) (ordN_rev hn)
  simp only [List.getElem?_map, List.getElem?_eq_getElem h, List.getElem?_eq_getElem h2, Option.map_some, Option.some.injEq] at this
  exact this.symm

theorem errL_of {tw : List (List UInt8) → Bool} {d : Nat} : ∀ {l : List GV}, (∀ x ∈ l, errG tw x d = 0) → errL tw l d = 0
  | [], _ => rfl
  | x :: l, h => by
    rw [errL, if_neg (by rw [h x (List.mem_cons_self ..)]; decide)]
    exact errL_of fun y hy => h y (List.mem_cons_of_mem _ hy)
theorem WellL.of : ∀ {l : List JV}, (∀ x ∈ l, Well x) → WellL l
  | [], _ => by unfold WellL; trivial
  | x :: r, h => by unfold WellL; exact ⟨h x (List.mem_cons_self ..), WellL.of fun y hy => h y (List.mem_cons_of_mem _ hy)⟩
theorem WellL.mem : ∀ {l : List JV}, WellL l → ∀ x ∈ l, Well x
  | y :: r, h, x, hx => by
    unfold WellL at h
    rcases List.mem_cons.1 hx with rfl | hx
    · exact h.1
    · exact WellL.mem h.2 x hx

/-- what stands in a value and in the same turned round -/
def TurnOk (x : JV) (d : Nat) : Prop := Well (turnedJ x) ∧ errG TW (toG (turnedJ x)) d = 0 ∧ tx (turnedJ x) = tx x ∧ ∀ n, sameG n (toG x) (toG (turnedJ x)) = true

theorem turn_ok : ∀ (m : Nat) (x : JV) (d : Nat), SizeOf.sizeOf x ≤ m → Well x → errG TW (toG x) d = 0 → TurnOk x d
  | 0, x, d, hm, _, _ => by cases x <;> simp at hm
  | m + 1, .plain k, d, hm, hw, he => ⟨hw, he, rfl, fun n => by
      rw [turnedJ]
      obtain ⟨h1, -⟩ := err_parts (by rw [toG] at he; exact he)
      have hk := (own_parts h1).1
      rw [toG]
      cases n with
      | zero => rfl
      | succ n =>
        have e0 : ordN ([] : List (List UInt8)) = [] := rfl
        rcases kinds_of hk with h | h | h | h | h | h | h <;> rw [h] <;> simp [sameG, eqAll, memAll, e0]⟩
  | m + 1, .num t, d, hm, hw, he => ⟨hw, he, rfl, fun n => by
      rw [turnedJ, toG]; cases n with
      | zero => rfl
      | succ n => simp [sameG]⟩
  | m + 1, .str t, d, hm, hw, he => ⟨hw, he, rfl, fun n => by
      rw [turnedJ, toG]; cases n with
      | zero => rfl
      | succ n => simp [sameG]⟩
  | m + 1, .arr l, d, hm, hw, he => by
    unfold Well at hw
    rw [toG_arr] at he
    obtain ⟨h1, h2⟩ := err_parts he
    obtain ⟨-, -, hd, -⟩ := own_parts h1
    have ih : ∀ x ∈ l, TurnOk x (d + 1) := fun x hx => turn_ok m x (d + 1) (by
      have := List.sizeOf_lt_of_mem hx
      simp at hm; omega) (hw.2.mem x hx) (errL_mem (h2 (Or.inl rfl)) _ (List.mem_map.2 ⟨x, hx, rfl⟩))
    have et : turnedJ (.arr l) = .arr (l.map turnedJ) := by rw [turnedJ, turnedL_map]
    unfold TurnOk
    rw [et]
    refine ⟨?_, ?_, ?_, fun n => ?_⟩
    · unfold Well
      exact ⟨by rw [List.length_map]; exact hw.1, WellL.of fun y hy => by
        obtain ⟨x, hx, rfl⟩ := List.mem_map.1 hy
        exact (ih x hx).1⟩
    · rw [toG_arr, errG]
      have ho : ownE TW 5 [] ((l.map turnedJ).map toG).length [] d = 0 := by
        have h1' := h1
        rw [List.length_map] at h1' ⊢
        rw [List.length_map]
        exact h1'
      rw [ho, if_neg (by decide), if_pos (Or.inl rfl)]
      refine errL_of fun y hy => ?_
      rw [List.map_map] at hy
      obtain ⟨x, hx, rfl⟩ := List.mem_map.1 hy
      exact (ih x hx).2.1
    · unfold tx
      rw [toG_arr, toG_arr, textG, textG]
      have e : textL ordN ((l.map turnedJ).map toG) = textL ordN (l.map toG) := by
        rw [textL_map, textL_map, List.map_map, List.map_map, List.map_map]
        exact List.map_congr_left fun x hx => (ih x hx).2.2.1
      rw [e]
    · rw [toG_arr, toG_arr]
      cases n with
      | zero => rfl
      | succ n =>
        have e : eqAll (sameG n) (l.map toG) ((l.map turnedJ).map toG) = true := by
          have : ∀ k : List JV, (∀ x ∈ k, x ∈ l) → eqAll (sameG n) (k.map toG) ((k.map turnedJ).map toG) = true := by
            intro k
            induction k with
            | nil => intro _; rfl
            | cons x k ihk =>
              intro hk
              simp only [List.map_cons]
              rw [eqAll, (ih x (hk x (List.mem_cons_self ..))).2.2.2 n, ihk fun y hy => hk y (List.mem_cons_of_mem _ hy)]
              rfl
          exact this l fun _ h => h
        simp [sameG] at e ⊢
        exact e
  | m + 1, .obj ns l, d, hm, hw, he => by
    unfold Well at hw
    obtain ⟨w1, w2, w3, w4, w5⟩ := hw
    rw [toG_obj] at he
    obtain ⟨h1, h2⟩ := err_parts he
    obtain ⟨-, hf, hd, -⟩ := own_parts h1
    have ih : ∀ x ∈ l, TurnOk x (d + 1) := fun x hx => turn_ok m x (d + 1) (by
      have := List.sizeOf_lt_of_mem hx
      simp at hm; omega) (w5.mem x hx) (errL_mem (h2 (Or.inr rfl)) _ (List.mem_map.2 ⟨x, hx, rfl⟩))
    have et : turnedJ (.obj ns l) = .obj ns.reverse (l.map turnedJ).reverse := by rw [turnedJ, turnedL_map]
    have hmem : ∀ y ∈ (l.map turnedJ).reverse, ∃ x ∈ l, turnedJ x = y := fun y hy => List.mem_map.1 (List.mem_reverse.1 hy)
    have hbad : ns.any badName = false := by
      simp [formG] at hf
      rw [List.any_eq_false]
      intro s hs
      rw [hf.2 s hs]; decide
    have hlr : (l.map turnedJ).reverse.length = l.length := by rw [List.length_reverse, List.length_map]
    -- the members at a place
    have hat : ∀ i, i < l.length → ((l.map turnedJ).reverse.map toG).getD i gv0 = toG (turnedJ (l.getD (l.length - 1 - i) (.plain 0))) := fun i hi => by
      simp only [List.getD, List.getElem?_map]
      rw [List.getElem?_reverse (by rw [List.length_map]; exact hi), List.length_map, List.getElem?_map, List.getElem?_eq_getElem (by omega : l.length - 1 - i < l.length)]
      rfl
    have hgl : ∀ i, i < l.length → (l.map toG).getD i gv0 = toG (l.getD i (.plain 0)) := fun i hi => by
      simp only [List.getD, List.getElem?_map, List.getElem?_eq_getElem hi, Option.map_some, Option.getD_some]
    have hgm : ∀ i, i < l.length → l.getD i (.plain 0) ∈ l := fun i hi => by
      simp only [List.getD, List.getElem?_eq_getElem hi, Option.getD_some]
      exact List.getElem_mem hi
    have o1 := ordN_len ns
    have o2 : (ordN ns.reverse).length = ns.length := by rw [ordN_len, List.length_reverse]
    unfold TurnOk
    rw [et]
    refine ⟨?_, ?_, ?_, fun n => ?_⟩
    · unfold Well
      refine ⟨by omega, by rw [List.length_reverse]; omega, ((List.reverse_perm ns).nodup_iff.2 w3), fun s hs => w4 s (List.mem_reverse.1 hs), WellL.of fun y hy => ?_⟩
      obtain ⟨x, hx, rfl⟩ := hmem y hy
      exact (ih x hx).1
    · rw [toG_obj, errG]
      have ho : ownE TW 6 [] ((l.map turnedJ).reverse.map toG).length ns.reverse d = 0 := by
        have hdd := hd (Or.inr rfl)
        unfold ownE formG
        rw [show TW ns.reverse = false from twG_nodup (((List.reverse_perm ns).nodup_iff.2 w3)), List.length_map, hlr]
        have hb : ns.reverse.any badName = false := by
          rw [List.any_eq_false] at hbad ⊢
          exact fun s hs => hbad s (List.mem_reverse.1 hs)
        simp only [hb]
        simp [w2]
        omega
      rw [ho, if_neg (by decide), if_pos (Or.inr rfl)]
      refine errL_of fun y hy => ?_
      obtain ⟨z, hz, rfl⟩ := List.mem_map.1 hy
      obtain ⟨x, hx, rfl⟩ := hmem z hz
      exact (ih x hx).2.1
    · unfold tx
      rw [toG_obj, toG_obj]
      have e2 : ∀ t' L N, textG ordN (.mk 6 t' L N) = 123 :: (joinB ((ordN N).map (memG ordN L N)) ++ [125]) := fun t' L N => by rw [textG]; simp; rfl
      rw [e2, e2]
      have e : (ordN ns.reverse).map (memG ordN ((l.map turnedJ).reverse.map toG) ns.reverse) = (ordN ns).map (memG ordN (l.map toG) ns) := by
        rw [← ordN_rev w3, List.map_map]
        refine List.map_congr_left fun i hi => ?_
        have hi2 : i < ns.length := by have := ordN_in hi; rw [List.length_reverse] at this; exact this
        simp only [Function.comp]
        unfold memG
        rw [rev_getD hi2]
        congr 2
        have g1 : (textL ordN ((l.map turnedJ).reverse.map toG)).getD i [] = textG ordN (((l.map turnedJ).reverse.map toG).getD i gv0) := by
          rw [textL_map]
          have : i < ((l.map turnedJ).reverse.map toG).length := by rw [List.length_map]; omega
          simp only [List.getD, List.getElem?_map (f := textG ordN), List.getElem?_eq_getElem this, Option.map_some, Option.getD_some]
        have g2 : (textL ordN (l.map toG)).getD (ns.length - 1 - i) [] = textG ordN ((l.map toG).getD (ns.length - 1 - i) gv0) := by
          rw [textL_map]
          have : ns.length - 1 - i < (l.map toG).length := by rw [List.length_map]; omega
          simp only [List.getD, List.getElem?_map (f := textG ordN), List.getElem?_eq_getElem this, Option.map_some, Option.getD_some]
        rw [g1, g2, hat i (by omega), hgl _ (by omega), w2]
        exact (ih _ (hgm _ (by omega))).2.2.1
      rw [e]
    · rw [toG_obj, toG_obj]
      cases n with
      | zero => rfl
      | succ n =>
        have t1 : ns.take (min (l.map toG).length ns.length) = ns := List.take_of_length_le (by rw [List.length_map]; omega)
        have t2 : ns.reverse.take (min (l.map toG).length ns.length) = ns.reverse := List.take_of_length_le (by rw [List.length_map, List.length_reverse]; omega)
        rw [sameG, if_neg (by simp), if_neg (by decide), if_neg (by decide), if_pos rfl, if_neg (by rw [List.length_map, List.length_map, hlr, List.length_reverse]; omega), t1, t2]
        refine memAll_is (fun j a b => ?_) (by omega)
        have hj := ordN_rev_at w3 b a
        have hi2 : (ordN ns.reverse)[j] < ns.length := by have := ordN_in (List.getElem_mem b); rw [List.length_reverse] at this; exact this
        rw [rev_getD hi2, hj]
        refine ⟨rfl, ?_⟩
        rw [hat _ (by omega), hgl _ (by omega), w2]
        exact (ih _ (hgm _ (by omega))).2.2.2 n
end Go.Proofs.YtdhkpkojnokjdaaDoor

/-
  turned: what stands in memory while a value is turned round.
-/
namespace Go.Proofs.YtdhkpkojnokjdaaDoor
open Go.RowKit Go.Maps Go.WideMaps Go.Shelf
set_option linter.unusedVariables false
set_option linter.unusedSimpArgs false

theorem Own4.grownT {w w' : World} {b : Nat} {x y z u : Value} {row : Option Nat} (h : Own4 w b x y z u) (hg : w.grownBy w' row) (hr : row ≠ some b) : Own4 w' b x y z u := by
  have := h.lt
  obtain ⟨ty, h⟩ := h
  exact ⟨ty, ((grown_turn hg).block b this hr).trans h⟩
theorem only_grown {w0 w w' : World} {row : Option Nat} (h : Only w0 w) (hg : w.grownBy w' row) (hr : ∀ g, row = some g → w0.heap.size ≤ g) : Only w0 w' := by
  have ht := grown_turn hg
  have h2 := h.size
  exact ⟨ht.os.trans h.os, ht.tape.trans h.tape, ht.output.trans h.output, Nat.le_trans h2 ht.size, fun k hk => (ht.block k (by omega) (fun e => by have := hr k e; omega)).trans (h.block k hk)⟩

/-- a value under way: its argument's box, the result's, the value's own with its lists -/
def TurnAt (w wx : World) (k : Int) (t : List UInt8) (L N Lo No : Value) (acc : List JV) (ns : List (List UInt8)) (xs : List Value) : Prop :=
  Only w wx ∧ Own4 wx w.heap.size (.int .i64 k) (txt t) L N ∧ Own4 wx (w.heap.size + 1) (.int .i64 0) (.string ⟨#[]⟩) nilS nilS ∧ Own4 wx (w.heap.size + 2) (.int .i64 k) (txt t) Lo No ∧ ListAt wx (w.heap.size + 3) Lo No acc xs ∧ NamesAt wx (w.heap.size + 3) No ns

theorem TurnAt.only {w wx wy : World} {k : Int} {t : List UInt8} {L N Lo No : Value} {acc : List JV} {ns : List (List UInt8)} {xs : List Value} (h : TurnAt w wx k t L N Lo No acc ns xs) (T : Only wx wy) : TurnAt w wy k t L N Lo No acc ns xs :=
  ⟨h.1.trans T, h.2.1.only T, h.2.2.1.only T, h.2.2.2.1.only T, h.2.2.2.2.1.only T, h.2.2.2.2.2.only T⟩

theorem TurnAt.names {w wx w5 : World} {k : Int} {t nm : List UInt8} {L N Lo No N5 : Value} {acc : List JV} {ns : List (List UInt8)} {xs : List Value} (h : TurnAt w wx k t L N Lo No acc ns xs)
    (hg : wx.grownBy w5 No.ownBlock) (hat : N5.ownBlock = No.ownBlock ∨ N5.ownBlock = some wx.heap.size) (hown : w5.ownsRow 0 9 1 N5 (ns.length + 1) (ns.map txt ++ [txt nm])) : TurnAt w (w5.setCell ⟨w.heap.size + 2, 3, none⟩ N5) k t L N Lo N5 acc (ns ++ [nm]) xs := by
  obtain ⟨h1, h2, h3, h4, h5, h6⟩ := h
  have hno : ∀ g, No.ownBlock = some g → w.heap.size + 3 ≤ g := fun g e => h6.2 g e
  have hb : w.heap.size + 3 ≤ wx.heap.size := by have := h4.lt; omega
  have bt := but_set (w.heap.size + 2) w5 3 N5
  refine ⟨(only_grown h1 hg fun g e => by have := hno g e; omega).set (by omega) 3 N5, ?_, ?_, ?_, ?_, ?_⟩
  · exact (h2.grownT hg fun e => by have := hno _ e; omega).far (by omega) 3 N5
  · exact (h3.grownT hg fun e => by have := hno _ e; omega).far (by omega) 3 N5
  · exact (h4.grownT hg fun e => by have := hno _ e; omega).put3 N5
  · exact (h5.beside hg hat).but bt (by omega)
  · exact (h6.snoc hb hat hown).but bt (by omega)

theorem TurnAt.elem {w wx w5 : World} {k : Int} {t : List UInt8} {L N Lo No L5 : Value} {acc : List JV} {ns : List (List UInt8)} {xs : List Value} {y : JV} {a b c d : Value} {m : Nat} (h : TurnAt w wx k t L N Lo No acc ns xs)
    (hy : VRep wx y (fun i => m ≤ i) (.agg #[a, b, c, d])) (hm : w.heap.size + 3 ≤ m) (hL : ∀ g, Lo.ownBlock = some g → g < m) (hN : ∀ g, No.ownBlock = some g → g < m) (hmw : m ≤ wx.heap.size)
    (hg : wx.grownBy w5 Lo.ownBlock) (hat : L5.ownBlock = Lo.ownBlock ∨ L5.ownBlock = some wx.heap.size) (hown : w5.ownsRow 0 25 4 L5 (acc.length + 1) (xs ++ [a, b, c, d])) : TurnAt w (w5.setCell ⟨w.heap.size + 2, 2, none⟩ L5) k t L N L5 No (acc ++ [y]) ns (xs ++ [a, b, c, d]) := by
  obtain ⟨h1, h2, h3, h4, h5, h6⟩ := h
  have hlo : ∀ g, Lo.ownBlock = some g → w.heap.size + 3 ≤ g := fun g e => h5.1.2 g e
  have bt := but_set (w.heap.size + 2) w5 2 L5
  refine ⟨(only_grown h1 hg fun g e => by have := hlo g e; omega).set (by omega) 2 L5, ?_, ?_, ?_, ?_, ?_⟩
  · exact (h2.grownT hg fun e => by have := hlo _ e; omega).far (by omega) 2 L5
  · exact (h3.grownT hg fun e => by have := hlo _ e; omega).far (by omega) 2 L5
  · exact (h4.grownT hg fun e => by have := hlo _ e; omega).put2 L5
  · exact (h5.snoc hy hm hL hN hmw hg hat hown).but bt (by omega)
  · exact (h6.beside hg h5.2.2).but bt (by omega)

/-- a new row of one text -/
abbrev pOne (lo : Nat) (c : Value) : Said := fun v _ w => ∃ g, v = .slice (some ⟨g, 0, none⟩) 1 1 ∧ lo ≤ g ∧ w.cell? ⟨g, 0, none⟩ = some c
theorem stab_one (lo : Nat) (c : Value) : StabO (pOne lo c) := fun _ _ _ _ t ⟨g, e, h, k⟩ => ⟨g, e, h, cell_only k t⟩
/-- a value turned round -/
abbrev pTur (lo : Nat) (x : JV) : Said := fun v _ w => (∃ (kk : Int) (tt : List UInt8) (ss : Option Addr) (nn mm : Nat) (su : Option Addr) (uu zz : Nat), v = .agg #[.int .i64 kk, txt tt, .slice ss nn mm, .slice su uu zz]) ∧ VRep w x (fun i => lo ≤ i) v
theorem stab_tur (lo : Nat) (x : JV) : StabO (pTur lo x) := fun _ _ _ _ t ⟨e, h⟩ => ⟨e, VRep.turn t.turn x (fun _ _ q => q) h⟩
/-- a new row of that value -/
abbrev pRow (lo : Nat) : Said := fun v ds w => ∃ g a b c d, ds = [.agg #[a, b, c, d]] ∧ v = .slice (some ⟨g, 0, none⟩) 1 1 ∧ lo ≤ g ∧ ∀ j u, [a, b, c, d][j]? = some u → w.cell? ⟨g, j, none⟩ = some u
theorem stab_row (lo : Nat) : StabO (pRow lo) := fun _ _ _ _ t ⟨g, a, b, c, d, e1, e2, h, k⟩ => ⟨g, a, b, c, d, e1, e2, h, fun j u hj => cell_only (k j u hj) t⟩
end Go.Proofs.YtdhkpkojnokjdaaDoor

/-
  turned: a value whose objects' members stand the other way round (made by gen_turned.py).
-/
namespace Go.Proofs.YtdhkpkojnokjdaaDoor
open Go.RowKit Go.Maps Go.WideMaps Go.Shelf
set_option linter.unusedVariables false
set_option linter.unusedSimpArgs false

def TurnRes (x : JV) (W : World) (e : Ending) (w' : World) : Prop := (∃ v', e = .returned v' ∧ VRep w' (turnedJ x) (fun i => W.heap.size ≤ i) v') ∧ Only W w'
/-- what turned leaves, ahead of what it is a value of -/
def TurnEnd (w : World) (k : Int) (t : List UInt8) (ys : List JV) (nms : List (List UInt8)) (n0 : Bool) (e : Ending) (w' : World) : Prop :=
  (∃ Lo No xs, e = .returned (.agg #[.int .i64 k, txt t, Lo, No]) ∧ ListAt w' (w.heap.size + 3) Lo No ys xs ∧ NamesAt w' (w.heap.size + 3) No nms ∧ (ys = [] → Lo = nilS) ∧ ((n0 = true ∨ ys = []) → No = nilS)) ∧ Only w w'
theorem take_next {α : Type} {l : List α} {j : Nat} (h : j < l.length) : l.take (j + 1) = l.take j ++ [l[j]] := List.take_succ_eq_append_getElem h
theorem rev_at {α : Type} {l : List α} {j m : Nat} (hm : m = l.length - 1 - j) (h : j < l.length) : l.reverse.take (j + 1) = l.reverse.take j ++ [l[m]'(by omega)] := by
  subst hm
  rw [List.take_succ_eq_append_getElem (by rw [List.length_reverse]; exact h), List.getElem_reverse]
theorem VRep.form2 {w : World} {S : Nat → Prop} {x : JV} {v : Value} (h : VRep w x S v) : ∃ (kk : Int) (tt : List UInt8) (ss : Option Addr) (nn mm : Nat) (su : Option Addr) (uu zz : Nat), v = .agg #[.int .i64 kk, txt tt, .slice ss nn mm, .slice su uu zz] := by
  obtain ⟨k, t, L, N, rfl, ⟨a, b, c, rfl⟩, ⟨d, e, f, rfl⟩⟩ := h.form
  exact ⟨k, t, a, b, c, d, e, f, rfl⟩

set_option maxRecDepth 100000 in
set_option maxHeartbeats 6400000 in
theorem turned_obj {t : List UInt8} {l : List JV} {ns : List (List UInt8)} {v : Value} {w : World} (hx : GIn w (.mk 6 t (l.map toG) ns) v) (hl : l.length ≤ 1000) (hn : ns.length = l.length)
    (ih : ∀ i (h : i < l.length) (W : World) (v' : Value), GIn W (toG l[i]) v' → Calls Tryd.prog 17 #[v'] W (TurnRes l[i] W)) :
    Calls Tryd.prog 17 #[v] w (TurnEnd w 6 t (l.reverse.map turnedJ) ns.reverse false) := by
  have hx' := hx
  unfold GIn at hx'
  obtain ⟨L, N, rfl, ⟨sp, cap, hLe, hc⟩, sq, cq, rfl, hcq, hnm⟩ := hx'
  rw [List.length_map] at hLe
  subst hLe
  have HC := Lib.hid hc
  have HNM := Lib.hid hnm
  have IH := Lib.hid ih
  have HN0 := Lib.hid hn
  have il : (l.length : Int) ≤ 1000 := by omega
  have i0 : TurnAt w (((w.alloc (.cells #[.int .i64 6, txt t, .slice sp l.length cap, .slice sq ns.length cq] 25)).alloc (.cells #[.int .i64 0, .string ⟨#[]⟩, nilS, nilS] 25)).alloc (.cells #[.int .i64 6, txt t, nilS, nilS] 25)) 6 t (.slice sp l.length cap) (.slice sq ns.length cq) nilS nilS [] [] [] := by
    refine ⟨(((Only.refl w).alloc _).alloc _).alloc _, ?_, ?_, ?_, ListAt.nil _ _ _, NamesAt.nil _ _⟩
    · exact (Own4.new w _ _ _ _ 25).only (((Only.refl _).alloc _).alloc _)
    · have := Own4.new (w.alloc (.cells #[.int .i64 6, txt t, .slice sp l.length cap, .slice sq ns.length cq] 25)) (.int .i64 0) (.string ⟨#[]⟩) nilS nilS 25
      rw [show (w.alloc (.cells #[.int .i64 6, txt t, .slice sp l.length cap, .slice sq ns.length cq] 25)).heap.size = w.heap.size + 1 by simp] at this
      exact this.only ((Only.refl _).alloc _)
    · have := Own4.new ((w.alloc (.cells #[.int .i64 6, txt t, .slice sp l.length cap, .slice sq ns.length cq] 25)).alloc (.cells #[.int .i64 0, .string ⟨#[]⟩, nilS, nilS] 25)) (.int .i64 6) (txt t) nilS nilS 25
      simpa using this
  have I0 := Lib.hid i0
  have O0 := Lib.hid (Own4.new w (.int .i64 6) (txt t) (.slice sp l.length cap) (.slice sq ns.length cq) 25)
  have o0 := O0.out.only ((Only.refl _).alloc (.cells #[.int .i64 0, .string ⟨#[]⟩, nilS, nilS] 25))
  obtain ⟨⟨x0, x1, x2, x3⟩, -⟩ := o0.all
  clear hc hnm ih hn i0 o0 hx
  go_enter Tryd.func17, Tryd.ntmps17
  go_upto_region 2 with (fail)
  refine wp_name (fun wx => TurnAt w wx 6 t (.slice sp l.length cap) (.slice sq ns.length cq) nilS nilS [] [] []) I0.out ?_
  clear x0 x1 x2 x3 I0 O0
  intro wa hia
  have HIA := Lib.hid hia
  clear hia
  obtain ⟨⟨x0, x1, x2, x3⟩, -⟩ := HIA.out.2.1.all
  go_wp2_with fail
  go_loopw [4, 5] (fun iv _ wx => ∃ (j : Nat) (Lo No : Value) (xs : List Value), iv = .int .i64 (j : Int) ∧ j ≤ l.length ∧ Hid (TurnAt w wx 6 t (.slice sp l.length cap) (.slice sq ns.length cq) Lo No ((l.reverse.take j).map turnedJ) (ns.reverse.take j) xs ∧ (j = 0 → Lo = nilS) ∧ (j = 0 → No = nilS))) (fun iv _ _ => l.length - (intOf iv).toNat)
  case atStart => exact ⟨0, nilS, nilS, [], rfl, Nat.zero_le _, Lib.hid ⟨by simpa using HIA.out, fun _ => rfl, fun _ => rfl⟩⟩
  case round =>
    obtain ⟨j, Lo, No, xs, rfl, hj, HI⟩ := hrel
    clear x0 x1 x2 x3
    obtain ⟨⟨x0, x1, x2, x3⟩, -⟩ := HI.out.1.2.1.all
    by_cases hlt : j < l.length
    · have ij : (j : Int) < (l.length : Int) := by omega
      have hI1 := HI.out
      obtain ⟨A, hA⟩ : ∃ A, A = (l.reverse.take j).map turnedJ := ⟨_, rfl⟩
      obtain ⟨Q, hQ⟩ : ∃ Q, Q = ns.reverse.take j := ⟨_, rfl⟩
      rw [← hA, ← hQ] at hI1
      have hlenA : A.length = j := by rw [hA, List.length_map, List.length_take]; rw [List.length_reverse]; omega
      have HI := Lib.hid hI1
      have HAE := Lib.hid hA
      have HQE := Lib.hid hQ
      clear hI1 hA hQ
      rcases HC.out with h0 | ⟨g, off, rfl, hcell⟩
      · rw [List.map_eq_nil_iff.1 h0] at hlt; simp at hlt
      obtain ⟨m, hm⟩ : ∃ m, m = l.length - 1 - j := ⟨_, rfl⟩
      obtain ⟨l1, hl1⟩ : ∃ l1, l1 = l.length - 1 := ⟨_, rfl⟩
      have s1 : (l.length : Int) - 1 = (l1 : Int) := by omega
      have s2 : (l1 : Int) - (j : Int) = (m : Int) := by omega
      have hmlt : m < l.length := by omega
      have HM := Lib.hid hm
      clear hm hl1
      have hml : m < l.length := hmlt
      have im : (m : Int) < (l.length : Int) := by omega
      obtain ⟨spL, cpL, hLo⟩ := HI.out.1.2.2.2.2.1.form
      obtain ⟨spN, cpN, hNo⟩ := HI.out.1.2.2.2.2.2.form
      clear hLo
      have hlenN : Q.length = j := by rw [HQE.out, List.length_take, List.length_reverse]; have := HN0.out; omega
      rw [hlenN] at hNo
      subst hNo
      have hmn : m < ns.length := by have := HN0.out; omega
      have imn : (m : Int) < (ns.length : Int) := by omega
      rcases HNM.out with h0 | ⟨gN, offN, rfl, hncell⟩
      · rw [h0] at hmn; simp at hmn
      have nc := hncell m hmn
      obtain ⟨nm, hnm⟩ : ∃ nm, nm = ns[m]'hmn := ⟨_, rfl⟩
      rw [← hnm] at nc
      have e8 : (⟨gN, offN, none⟩ : Addr).add m = ⟨gN, offN + m, none⟩ := add_at _ _ _
      have NC := Lib.hid (cell_only nc HI.out.1.1)
      have HNME := Lib.hid hnm
      clear nc hncell hnm
      go_upto_region 8 with (fail)
      refine wp_rich_tail 8 [pVal (.pointer (some ⟨w.heap.size + 2, 3, none⟩)), pVal (.slice spN j cpN), pVal (.pointer (some ⟨w.heap.size, 3, none⟩)), pVal (.slice (some ⟨gN, offN, none⟩) ns.length cq), pVal (.int .i64 (m : Int)), pVal (.pointer (some ⟨gN, offN + m, none⟩)), pVal (txt nm), pOne wr.heap.size (txt nm)] (F := ?F8) (by kernel_rfl) (by kernel_rfl) (by kernel_rfl) (by kernel_rfl) (by kernel_rfl) (by kernel_rfl) (by kernel_rfl) ?hF8 ?hst8 ?hO8 ?hend8
      case hF8 =>
        intro vs
        simp only [List.take_succ_cons, List.take_zero, fills]
        go_simp
        exact rfl
      case hst8 =>
        simp only [List.take_succ_cons, List.take_zero, StepsP]
        refine ⟨?_, ?_, ?_, ?_, ?_, ?_, ?_, ?_, trivial⟩
        case refine_8 =>
          intro vs W hW hd K hK
          simp [depsOf, Region.binds, List.filter_cons, GotAll, saidV, pVal] at hd
          unfold RichAt
          go_simp
          refine hK _ _ ((Only.refl _).alloc _) ?_
          exact ⟨W.heap.size, rfl, hW.size, by rw [cell_new]; rfl⟩
        all_goals
          intro vs W hW hd K hK
          obtain ⟨⟨y0, y1, y2, y3⟩, -⟩ := (HI.out.1.2.1.only hW).all
          obtain ⟨⟨z0, z1, z2, z3⟩, -⟩ := (HI.out.1.2.2.2.1.only hW).all
          have p0 := cell_only NC.out hW
          simp [depsOf, Region.binds, List.filter_cons, GotAll, saidV, pVal] at hd
          unfold RichAt
          go_simp
          refine hK _ _ (Only.refl _) ?_
          exact rfl
      case hO8 =>
        simp only [List.forall_mem_cons]
        exact ⟨stab_val _, stab_val _, stab_val _, stab_val _, stab_val _, stab_val _, stab_val _, stab_one _ _, fun _ h => by cases h⟩
      intro vs W hW hg
      simp [List.range_succ, depsOf, Region.binds, List.filter_cons, GotAll, saidV, pVal] at hg
      obtain ⟨-, g1, -, -, -, -, -, gg, g8, -, gc⟩ := hg
      have hTW := HI.out.1.only hW
      have HTW := Lib.hid hTW
      have HGC := Lib.hid gc
      have HLN := Lib.hid hlenN
      rw [g1, g8]
      clear g1 g8 gc hTW x0 x1 x2 x3 hlenN
      simp only [List.drop_succ_cons, List.drop_zero]
      go_wp2_with (at_builtin; refine append_name rfl (.tmp 29) (.tmp 35) rfl ⟨nm.toArray⟩ rfl rfl HTW.out.2.2.2.2.2.1 HGC.out (by have := HLN.out; omega) ?_)
      intro N5 w5 hown5 hgr5 hat5
      have hT5 := HTW.out.names (nm := nm) hgr5 hat5 hown5
      obtain ⟨sp5, n5, cp5, rfl⟩ : ∃ sp n c, N5 = .slice sp n c := by obtain ⟨a, c, e⟩ := hT5.2.2.2.2.2.form; exact ⟨_, _, _, e⟩
      obtain ⟨⟨z0, z1, z2, z3⟩, f0, f1, f2, f3⟩ := (HTW.out.2.2.2.1.grownT hgr5 fun e => by have := HTW.out.2.2.2.2.2.2 _ e; omega).all
      have z3' : w5.cell? ⟨w.heap.size + 1 + 1, 3, none⟩ = some (.slice spN j cpN) := z3
      have f3' : w5.frozen? ⟨w.heap.size + 1 + 1, 3, none⟩ = false := f3
      have HT5 := Lib.hid hT5
      clear hT5 hown5 hgr5 hat5 z0 z1 z2 z3 f0 f1 f2 f3 hW
      go_upto_region 9 with (fail)
      refine wp_name (fun wx => TurnAt w wx 6 t (.slice (some ⟨g, off, none⟩) l.length cap) (.slice (some ⟨gN, offN, none⟩) ns.length cq) Lo (.slice sp5 n5 cp5) A (Q ++ [nm]) xs) HT5.out ?_
      clear z3' f3' HT5
      intro wb hwb
      have HI2 := Lib.hid hwb
      clear hwb

      -- the element
      obtain ⟨c0, c1, c2, c3, ⟨q0, q1, q2, q3⟩, hgx⟩ := GCells.at_ (GCells.only HI2.out.1 _ hcell) m (by rw [List.length_map]; exact hml)
      rw [List.getElem_map] at hgx
      obtain ⟨k9, t9, sp9, n9, m9, sq9, u9, v9, rfl, rfl, rfl, rfl⟩ := GIn.shape hgx
      have e9 : (⟨g, off, none⟩ : Addr).add (m * 4) = ⟨g, off + m * 4, none⟩ := add_at _ _ _
      have C := Lib.hid (fun (W : World) (hW : Only wb W) => IH.out m hml W (.agg #[.int .i64 k9, txt t9, .slice sp9 n9 m9, .slice sq9 u9 v9]) (GIn.only hW _ hgx))
      have HQ := Lib.hid (And.intro q0 (And.intro q1 (And.intro q2 q3)))
      obtain ⟨spL2, cpL2, hLo2⟩ := HI2.out.2.2.2.2.1.form
      rw [hlenA] at hLo2
      subst hLo2
      have HLA := Lib.hid hlenA
      clear hlenA
      clear q0 q1 q2 q3 hgx hcell
      refine wp_rich_tail 9 [pVal (.pointer (some ⟨w.heap.size + 2, 2, none⟩)), pVal (.slice spL2 j cpL2), pVal (.pointer (some ⟨w.heap.size, 2, none⟩)), pVal (.slice (some ⟨g, off, none⟩) l.length cap), pVal (.int .i64 (m : Int)), pVal (.pointer (some ⟨g, off + m * 4, none⟩)), pVal (.agg #[.int .i64 k9, txt t9, .slice sp9 n9 m9, .slice sq9 u9 v9]), pTur wb.heap.size (turnedJ (l[m]'hml)), pRow wb.heap.size] (F := ?F9) (by kernel_rfl) (by kernel_rfl) (by kernel_rfl) (by kernel_rfl) (by kernel_rfl) (by kernel_rfl) (by kernel_rfl) ?hF9 ?hst9 ?hO9 ?hend9
      case hF9 =>
        intro vs
        simp only [List.take_succ_cons, List.take_zero, fills]
        go_simp
        exact rfl
      case hst9 =>
        simp only [List.take_succ_cons, List.take_zero, StepsP]
        refine ⟨?_, ?_, ?_, ?_, ?_, ?_, ?_, ?_, ?_, trivial⟩
        case refine_8 =>
          intro vs W hW hd K hK
          simp [depsOf, Region.binds, List.filter_cons, GotAll, saidV, pVal] at hd
          unfold RichAt
          go_simp
          refine (C.out W hW).mono ?_
          rintro e w' ⟨⟨v', rfl, hm9⟩, t9'⟩
          exact ⟨_, rfl, hK _ _ t9' ⟨hm9.form2, VRep.mono _ (fun i _ p => Nat.le_trans hW.size p) hm9⟩⟩
        case refine_9 =>
          intro vs W hW hd K hK
          simp [depsOf, Region.binds, List.filter_cons, GotAll, saidV, pVal] at hd
          obtain ⟨⟨kk, tt, ss, nn, mm, su, uu, zz, hd1⟩, hd2⟩ := hd
          unfold RichAt
          go_simp
          refine hK _ _ ((Only.refl _).alloc _) ?_
          refine ⟨W.heap.size, .int .i64 kk, txt tt, .slice ss nn mm, .slice su uu zz, ?_, rfl, hW.size, ?_⟩
          · simp [depsOf, Region.binds, List.filter_cons, hd1]
          · first | exact cells_four W _ _ _ _ _ | (intro j2 u2 hj2; exact cells_four W _ _ _ _ _ j2 u2 hj2)
        all_goals
          intro vs W hW hd K hK
          obtain ⟨⟨y0, y1, y2, y3⟩, -⟩ := (HI2.out.2.1.only hW).all
          obtain ⟨⟨z0, z1, z2, z3⟩, -⟩ := (HI2.out.2.2.2.1.only hW).all
          have p0 := cell_only HQ.out.1 hW
          have p1 := cell_only HQ.out.2.1 hW
          have p2 := cell_only HQ.out.2.2.1 hW
          have p3 := cell_only HQ.out.2.2.2 hW
          simp [depsOf, Region.binds, List.filter_cons, GotAll, saidV, pVal] at hd
          unfold RichAt
          go_simp
          refine hK _ _ (Only.refl _) ?_
          exact rfl
      case hO9 =>
        simp only [List.forall_mem_cons]
        exact ⟨stab_val _, stab_val _, stab_val _, stab_val _, stab_val _, stab_val _, stab_val _, stab_tur _ _, stab_row _, fun _ h => by cases h⟩
      case hend9 =>
        intro vs W hW hg
        simp [List.range_succ, depsOf, Region.binds, List.filter_cons, GotAll, saidV, pVal] at hg
        obtain ⟨-, g1, -, -, -, -, -, ⟨⟨kk, tt, ss, nn, mm, su, uu, zz, g7⟩, g7'⟩, gg, a1, b1, c1, d1, e1, g8, -, gc⟩ := hg
        rw [g7] at g7' e1
        simp only [List.cons.injEq, and_true, Value.agg.injEq, Array.mk.injEq] at e1
        obtain ⟨rfl, rfl, rfl, rfl⟩ := e1
        have hTW := HI2.out.only hW
        have HTW := Lib.hid hTW
        have HV := Lib.hid g7'
        have HWS := Lib.hid hW.size
        have HGC := Lib.hid gc
        have HBL := Lib.hid (fun g hg => (HI2.out.2.2.2.2.1.1.1.lt g hg).2 : ∀ g, (Value.slice spL2 j cpL2).ownBlock = some g → g < wb.heap.size)
        have HBN := Lib.hid (fun g hg => (HI2.out.2.2.2.2.2.1.lt g hg).2 : ∀ g, (Value.slice sp5 n5 cp5).ownBlock = some g → g < wb.heap.size)
        have HB3 := Lib.hid (show w.heap.size + 3 ≤ wb.heap.size by have := HI2.out.2.2.2.1.lt; omega)
        rw [g1, g8]
        clear g1 g7 g7' g8 gc hTW
        simp only [List.drop_succ_cons, List.drop_zero]
        go_wp2_with (at_builtin; refine append_jv rfl (.tmp 39) (.tmp 46) rfl (.int .i64 kk) (txt tt) (.slice ss nn mm) (.slice su uu zz) rfl rfl HTW.out.2.2.2.2.1.1.1 HGC.out (by intro u hu; simp only [List.mem_cons, List.not_mem_nil, or_false] at hu; rcases hu with rfl | rfl | rfl | rfl <;> rfl) (by have := HLA.out; omega) ?_)
        intro L5 w5 hown5 hgr5 hat5
        have hT5 := HTW.out.elem (m := wb.heap.size) (y := turnedJ (l[m]'hml)) HV.out HB3.out HBL.out HBN.out HWS.out hgr5 hat5 hown5
        obtain ⟨sq5, nq5, cq5, rfl⟩ : ∃ sp n c, L5 = .slice sp n c := by obtain ⟨a, c, e⟩ := hT5.2.2.2.2.1.form; exact ⟨_, _, _, e⟩
        obtain ⟨⟨z0, z1, z2, z3⟩, f0, f1, f2, f3⟩ := (HTW.out.2.2.2.1.grownT hgr5 fun e => by have := HTW.out.2.2.2.2.1.1.2 _ e; omega).all
        have z2' : w5.cell? ⟨w.heap.size + 1 + 1, 2, none⟩ = some (.slice spL2 j cpL2) := z2
        have f2' : w5.frozen? ⟨w.heap.size + 1 + 1, 2, none⟩ = false := f2
        have HT5 := Lib.hid hT5
        clear hT5 hown5 hgr5 hat5 z0 z1 z2 z3 f0 f1 f2 f3 hW
        go_wp2_with fail
        go_roundw
        case rel => exact ⟨j + 1, .slice sq5 nq5 cq5, .slice sp5 n5 cp5, _, by push_cast; rfl, hlt, Lib.hid ⟨by
          have h := HT5.out
          rw [HNME.out] at h
          rw [rev_at HM.out hlt, List.map_append, ← HAE.out, rev_at (show m = ns.length - 1 - j by rw [HN0.out]; exact HM.out) (by rw [HN0.out]; exact hlt), ← HQE.out]
          exact h, fun h => absurd h (by omega), fun h => absurd h (by omega)⟩⟩
        case measure => simp [intOf]; omega
    · have ij : ¬ (j : Int) < (l.length : Int) := by omega
      have hje : j = l.length := by omega
      subst hje
      obtain ⟨sL, nL, cL, rfl⟩ : ∃ sp n c, Lo = .slice sp n c := by obtain ⟨a, c, e⟩ := HI.out.1.2.2.2.2.1.form; exact ⟨_, _, _, e⟩
      obtain ⟨sN, nN, cN, rfl⟩ : ∃ sp n c, No = .slice sp n c := by obtain ⟨a, c, e⟩ := HI.out.1.2.2.2.2.2.form; exact ⟨_, _, _, e⟩
      have hI := HI.out.1
      obtain ⟨⟨z0, z1, z2, z3⟩, -⟩ := hI.2.2.2.1.all
      obtain ⟨⟨y0, y1, y2, y3⟩, f0, f1, f2, f3⟩ := hI.2.2.1.all
      have z0' : wr.cell? ⟨w.heap.size + 1 + 1, 0, none⟩ = some (.int .i64 6) := z0
      have z1' : wr.cell? ⟨w.heap.size + 1 + 1, 1, none⟩ = some (txt t) := z1
      have z2' : wr.cell? ⟨w.heap.size + 1 + 1, 2, none⟩ = some (.slice sL nL cL) := z2
      have z3' : wr.cell? ⟨w.heap.size + 1 + 1, 3, none⟩ = some (.slice sN nN cN) := z3
      have HZF := Lib.hid (hI.2.2.1.set (.int .i64 6) (txt t) (.slice sL nL cL) (.slice sN nN cN))
      obtain ⟨⟨p0, p1, p2, p3⟩, -⟩ := HZF.out.all
      have HO := Lib.hid (show Only w ((((wr.setCell ⟨w.heap.size + 1, 0, none⟩ (.int .i64 6)).setCell ⟨w.heap.size + 1, 1, none⟩ (txt t)).setCell ⟨w.heap.size + 1, 2, none⟩ (.slice sL nL cL)).setCell ⟨w.heap.size + 1, 3, none⟩ (.slice sN nN cN)) from (((hI.1.set (p := w.heap.size + 1) (by omega) 0 _).set (p := w.heap.size + 1) (by omega) 1 _).set (p := w.heap.size + 1) (by omega) 2 _).set (p := w.heap.size + 1) (by omega) 3 _)
      have bt : But (w.heap.size + 1) wr ((((wr.setCell ⟨w.heap.size + 1, 0, none⟩ (.int .i64 6)).setCell ⟨w.heap.size + 1, 1, none⟩ (txt t)).setCell ⟨w.heap.size + 1, 2, none⟩ (.slice sL nL cL)).setCell ⟨w.heap.size + 1, 3, none⟩ (.slice sN nN cN)) := ((but_set (w.heap.size + 1) wr 0 _).then_ (but_set _ _ 1 _)).then_ ((but_set _ _ 2 _).then_ (but_set _ _ 3 _))
      have HL9 := Lib.hid (hI.2.2.2.2.1.but bt (by omega))
      have HN9 := Lib.hid (hI.2.2.2.2.2.but bt (by omega))
      clear z0 z1 z2 z3 hI bt
      go_wp2_with fail
      simp [bodyPost, results, Tryd.results17, go_sem, p0, p1, p2, p3]
      refine ⟨⟨.slice sL nL cL, .slice sN nN cN, xs, rfl, ?_, ?_, ?_, ?_⟩, HO.out⟩
      · have h := HL9.out
        rw [List.take_of_length_le (by rw [List.length_reverse]; omega)] at h
        simpa using h
      · have h := HN9.out
        rw [List.take_of_length_le (by rw [List.length_reverse]; have := HN0.out; omega)] at h
        exact h
      · intro h
        have h2 : l.length = 0 := by have := congrArg List.length h; simpa using this
        exact HI.out.2.1 h2
      · intro h
        exact HI.out.2.2 (by rcases h with h | h; cases h; have := congrArg List.length h; simpa using this)

set_option maxRecDepth 100000 in
set_option maxHeartbeats 6400000 in
theorem turned_arr {k : Int} {t : List UInt8} {l : List JV} {ns : List (List UInt8)} {v : Value} {w : World} (hk : k ≠ 6) (hx : GIn w (.mk k t (l.map toG) ns) v) (hl : l.length ≤ 1000) (hn : True)
    (ih : ∀ i (h : i < l.length) (W : World) (v' : Value), GIn W (toG l[i]) v' → Calls Tryd.prog 17 #[v'] W (TurnRes l[i] W)) :
    Calls Tryd.prog 17 #[v] w (TurnEnd w k t (l.map turnedJ) ([] : List (List UInt8)) true) := by
  have hx' := hx
  unfold GIn at hx'
  obtain ⟨L, N, rfl, ⟨sp, cap, hLe, hc⟩, sq, cq, rfl, hcq, hnm⟩ := hx'
  rw [List.length_map] at hLe
  subst hLe
  have HC := Lib.hid hc
  have HNM := Lib.hid hnm
  have IH := Lib.hid ih
  have HN0 := Lib.hid hn
  have il : (l.length : Int) ≤ 1000 := by omega
  have i0 : TurnAt w (((w.alloc (.cells #[.int .i64 k, txt t, .slice sp l.length cap, .slice sq ns.length cq] 25)).alloc (.cells #[.int .i64 0, .string ⟨#[]⟩, nilS, nilS] 25)).alloc (.cells #[.int .i64 k, txt t, nilS, nilS] 25)) k t (.slice sp l.length cap) (.slice sq ns.length cq) nilS nilS [] [] [] := by
    refine ⟨(((Only.refl w).alloc _).alloc _).alloc _, ?_, ?_, ?_, ListAt.nil _ _ _, NamesAt.nil _ _⟩
    · exact (Own4.new w _ _ _ _ 25).only (((Only.refl _).alloc _).alloc _)
    · have := Own4.new (w.alloc (.cells #[.int .i64 k, txt t, .slice sp l.length cap, .slice sq ns.length cq] 25)) (.int .i64 0) (.string ⟨#[]⟩) nilS nilS 25
      rw [show (w.alloc (.cells #[.int .i64 k, txt t, .slice sp l.length cap, .slice sq ns.length cq] 25)).heap.size = w.heap.size + 1 by simp] at this
      exact this.only ((Only.refl _).alloc _)
    · have := Own4.new ((w.alloc (.cells #[.int .i64 k, txt t, .slice sp l.length cap, .slice sq ns.length cq] 25)).alloc (.cells #[.int .i64 0, .string ⟨#[]⟩, nilS, nilS] 25)) (.int .i64 k) (txt t) nilS nilS 25
      simpa using this
  have I0 := Lib.hid i0
  have O0 := Lib.hid (Own4.new w (.int .i64 k) (txt t) (.slice sp l.length cap) (.slice sq ns.length cq) 25)
  have o0 := O0.out.only ((Only.refl _).alloc (.cells #[.int .i64 0, .string ⟨#[]⟩, nilS, nilS] 25))
  obtain ⟨⟨x0, x1, x2, x3⟩, -⟩ := o0.all
  have hk6 : (k == 6) = false := by rw [beq_eq_false_iff_ne]; exact hk
  clear hc hnm ih hn i0 o0 hx
  go_enter Tryd.func17, Tryd.ntmps17
  go_upto_region 2 with (fail)
  refine wp_name (fun wx => TurnAt w wx k t (.slice sp l.length cap) (.slice sq ns.length cq) nilS nilS [] [] []) I0.out ?_
  clear x0 x1 x2 x3 I0 O0
  intro wa hia
  have HIA := Lib.hid hia
  clear hia
  obtain ⟨⟨x0, x1, x2, x3⟩, -⟩ := HIA.out.2.1.all
  go_wp2_with fail
  go_loopw [4, 5] (fun iv _ wx => ∃ (j : Nat) (Lo No : Value) (xs : List Value), iv = .int .i64 (j : Int) ∧ j ≤ l.length ∧ Hid (TurnAt w wx k t (.slice sp l.length cap) (.slice sq ns.length cq) Lo No ((l.take j).map turnedJ) (([] : List (List UInt8)).take j) xs ∧ (j = 0 → Lo = nilS) ∧ (True → No = nilS))) (fun iv _ _ => l.length - (intOf iv).toNat)
  case atStart => exact ⟨0, nilS, nilS, [], rfl, Nat.zero_le _, Lib.hid ⟨by simpa using HIA.out, fun _ => rfl, fun _ => rfl⟩⟩
  case round =>
    obtain ⟨j, Lo, No, xs, rfl, hj, HI⟩ := hrel
    clear x0 x1 x2 x3
    obtain ⟨⟨x0, x1, x2, x3⟩, -⟩ := HI.out.1.2.1.all
    by_cases hlt : j < l.length
    · have ij : (j : Int) < (l.length : Int) := by omega
      have hI1 := HI.out
      obtain ⟨A, hA⟩ : ∃ A, A = (l.take j).map turnedJ := ⟨_, rfl⟩
      obtain ⟨Q, hQ⟩ : ∃ Q, Q = ([] : List (List UInt8)).take j := ⟨_, rfl⟩
      rw [← hA, ← hQ] at hI1
      have hlenA : A.length = j := by rw [hA, List.length_map, List.length_take]; omega
      have HI := Lib.hid hI1
      have HAE := Lib.hid hA
      have HQE := Lib.hid hQ
      clear hI1 hA hQ
      rcases HC.out with h0 | ⟨g, off, rfl, hcell⟩
      · rw [List.map_eq_nil_iff.1 h0] at hlt; simp at hlt
      have hml := hlt
      obtain ⟨spL, cpL, hLo⟩ := HI.out.1.2.2.2.2.1.form
      obtain ⟨spN, cpN, hNo⟩ := HI.out.1.2.2.2.2.2.form
      clear hLo hNo
      go_upto_region 9 with (fail)
      have HI2 := Lib.hid HI.out.1
      obtain ⟨wb, hwb⟩ : ∃ wb, wb = wr := ⟨_, rfl⟩
      rw [← hwb] at HI2 ⊢
      -- the element
      obtain ⟨c0, c1, c2, c3, ⟨q0, q1, q2, q3⟩, hgx⟩ := GCells.at_ (GCells.only HI2.out.1 _ hcell) j (by rw [List.length_map]; exact hml)
      rw [List.getElem_map] at hgx
      obtain ⟨k9, t9, sp9, n9, m9, sq9, u9, v9, rfl, rfl, rfl, rfl⟩ := GIn.shape hgx
      have e9 : (⟨g, off, none⟩ : Addr).add (j * 4) = ⟨g, off + j * 4, none⟩ := add_at _ _ _
      have C := Lib.hid (fun (W : World) (hW : Only wb W) => IH.out j hml W (.agg #[.int .i64 k9, txt t9, .slice sp9 n9 m9, .slice sq9 u9 v9]) (GIn.only hW _ hgx))
      have HQ := Lib.hid (And.intro q0 (And.intro q1 (And.intro q2 q3)))
      obtain ⟨spL2, cpL2, hLo2⟩ := HI2.out.2.2.2.2.1.form
      rw [hlenA] at hLo2
      subst hLo2
      have HLA := Lib.hid hlenA
      clear hlenA
      clear q0 q1 q2 q3 hgx hcell
      refine wp_rich_tail 9 [pVal (.pointer (some ⟨w.heap.size + 2, 2, none⟩)), pVal (.slice spL2 j cpL2), pVal (.pointer (some ⟨w.heap.size, 2, none⟩)), pVal (.slice (some ⟨g, off, none⟩) l.length cap), pVal (.int .i64 (j : Int)), pVal (.pointer (some ⟨g, off + j * 4, none⟩)), pVal (.agg #[.int .i64 k9, txt t9, .slice sp9 n9 m9, .slice sq9 u9 v9]), pTur wb.heap.size (turnedJ (l[j]'hml)), pRow wb.heap.size] (F := ?F9) (by kernel_rfl) (by kernel_rfl) (by kernel_rfl) (by kernel_rfl) (by kernel_rfl) (by kernel_rfl) (by kernel_rfl) ?hF9 ?hst9 ?hO9 ?hend9
      case hF9 =>
        intro vs
        simp only [List.take_succ_cons, List.take_zero, fills]
        go_simp
        exact rfl
      case hst9 =>
        simp only [List.take_succ_cons, List.take_zero, StepsP]
        refine ⟨?_, ?_, ?_, ?_, ?_, ?_, ?_, ?_, ?_, trivial⟩
        case refine_8 =>
          intro vs W hW hd K hK
          simp [depsOf, Region.binds, List.filter_cons, GotAll, saidV, pVal] at hd
          unfold RichAt
          go_simp
          refine (C.out W hW).mono ?_
          rintro e w' ⟨⟨v', rfl, hm9⟩, t9'⟩
          exact ⟨_, rfl, hK _ _ t9' ⟨hm9.form2, VRep.mono _ (fun i _ p => Nat.le_trans hW.size p) hm9⟩⟩
        case refine_9 =>
          intro vs W hW hd K hK
          simp [depsOf, Region.binds, List.filter_cons, GotAll, saidV, pVal] at hd
          obtain ⟨⟨kk, tt, ss, nn, mm, su, uu, zz, hd1⟩, hd2⟩ := hd
          unfold RichAt
          go_simp
          refine hK _ _ ((Only.refl _).alloc _) ?_
          refine ⟨W.heap.size, .int .i64 kk, txt tt, .slice ss nn mm, .slice su uu zz, ?_, rfl, hW.size, ?_⟩
          · simp [depsOf, Region.binds, List.filter_cons, hd1]
          · first | exact cells_four W _ _ _ _ _ | (intro j2 u2 hj2; exact cells_four W _ _ _ _ _ j2 u2 hj2)
        all_goals
          intro vs W hW hd K hK
          obtain ⟨⟨y0, y1, y2, y3⟩, -⟩ := (HI2.out.2.1.only hW).all
          obtain ⟨⟨z0, z1, z2, z3⟩, -⟩ := (HI2.out.2.2.2.1.only hW).all
          have p0 := cell_only HQ.out.1 hW
          have p1 := cell_only HQ.out.2.1 hW
          have p2 := cell_only HQ.out.2.2.1 hW
          have p3 := cell_only HQ.out.2.2.2 hW
          simp [depsOf, Region.binds, List.filter_cons, GotAll, saidV, pVal] at hd
          unfold RichAt
          go_simp
          refine hK _ _ (Only.refl _) ?_
          exact rfl
      case hO9 =>
        simp only [List.forall_mem_cons]
        exact ⟨stab_val _, stab_val _, stab_val _, stab_val _, stab_val _, stab_val _, stab_val _, stab_tur _ _, stab_row _, fun _ h => by cases h⟩
      case hend9 =>
        intro vs W hW hg
        simp [List.range_succ, depsOf, Region.binds, List.filter_cons, GotAll, saidV, pVal] at hg
        obtain ⟨-, g1, -, -, -, -, -, ⟨⟨kk, tt, ss, nn, mm, su, uu, zz, g7⟩, g7'⟩, gg, a1, b1, c1, d1, e1, g8, -, gc⟩ := hg
        rw [g7] at g7' e1
        simp only [List.cons.injEq, and_true, Value.agg.injEq, Array.mk.injEq] at e1
        obtain ⟨rfl, rfl, rfl, rfl⟩ := e1
        have hTW := HI2.out.only hW
        have HTW := Lib.hid hTW
        have HV := Lib.hid g7'
        have HWS := Lib.hid hW.size
        have HGC := Lib.hid gc
        have HBL := Lib.hid (fun g hg => (HI2.out.2.2.2.2.1.1.1.lt g hg).2 : ∀ g, (Value.slice spL2 j cpL2).ownBlock = some g → g < wb.heap.size)
        have HBN := Lib.hid (fun g hg => (HI2.out.2.2.2.2.2.1.lt g hg).2 : ∀ g, No.ownBlock = some g → g < wb.heap.size)
        have HB3 := Lib.hid (show w.heap.size + 3 ≤ wb.heap.size by have := HI2.out.2.2.2.1.lt; omega)
        rw [g1, g8]
        clear g1 g7 g7' g8 gc hTW x0 x1 x2 x3
        simp only [List.drop_succ_cons, List.drop_zero]
        go_wp2_with (at_builtin; refine append_jv rfl (.tmp 39) (.tmp 46) rfl (.int .i64 kk) (txt tt) (.slice ss nn mm) (.slice su uu zz) rfl rfl HTW.out.2.2.2.2.1.1.1 HGC.out (by intro u hu; simp only [List.mem_cons, List.not_mem_nil, or_false] at hu; rcases hu with rfl | rfl | rfl | rfl <;> rfl) (by have := HLA.out; omega) ?_)
        intro L5 w5 hown5 hgr5 hat5
        have hT5 := HTW.out.elem (m := wb.heap.size) (y := turnedJ (l[j]'hml)) HV.out HB3.out HBL.out HBN.out HWS.out hgr5 hat5 hown5
        obtain ⟨sp5, n5, cp5, rfl⟩ : ∃ sp n c, L5 = .slice sp n c := by obtain ⟨a, c, e⟩ := hT5.2.2.2.2.1.form; exact ⟨_, _, _, e⟩
        obtain ⟨⟨z0, z1, z2, z3⟩, f0, f1, f2, f3⟩ := (HTW.out.2.2.2.1.grownT hgr5 fun e => by have := HTW.out.2.2.2.2.1.1.2 _ e; omega).all
        have z2' : w5.cell? ⟨w.heap.size + 1 + 1, 2, none⟩ = some (.slice spL2 j cpL2) := z2
        have f2' : w5.frozen? ⟨w.heap.size + 1 + 1, 2, none⟩ = false := f2
        have HT5 := Lib.hid hT5
        clear hT5 hown5 hgr5 hat5 z0 z1 z2 z3 f0 f1 f2 f3 hW
        go_wp2_with fail
        go_roundw
        case rel => exact ⟨j + 1, .slice sp5 n5 cp5, No, _, by push_cast; rfl, hlt, Lib.hid ⟨by
          have h := HT5.out
          have q := HQE.out
          simp only [List.take_nil] at q
          rw [q] at h
          rw [take_next hlt, List.map_append, ← HAE.out, List.take_nil]
          exact h, fun h => absurd h (by omega), fun _ => HI.out.2.2 trivial⟩⟩
        case measure => simp [intOf]; omega
    · have ij : ¬ (j : Int) < (l.length : Int) := by omega
      have hje : j = l.length := by omega
      subst hje
      obtain ⟨sL, nL, cL, rfl⟩ : ∃ sp n c, Lo = .slice sp n c := by obtain ⟨a, c, e⟩ := HI.out.1.2.2.2.2.1.form; exact ⟨_, _, _, e⟩
      obtain ⟨sN, nN, cN, rfl⟩ : ∃ sp n c, No = .slice sp n c := by obtain ⟨a, c, e⟩ := HI.out.1.2.2.2.2.2.form; exact ⟨_, _, _, e⟩
      have hI := HI.out.1
      obtain ⟨⟨z0, z1, z2, z3⟩, -⟩ := hI.2.2.2.1.all
      obtain ⟨⟨y0, y1, y2, y3⟩, f0, f1, f2, f3⟩ := hI.2.2.1.all
      have z0' : wr.cell? ⟨w.heap.size + 1 + 1, 0, none⟩ = some (.int .i64 k) := z0
      have z1' : wr.cell? ⟨w.heap.size + 1 + 1, 1, none⟩ = some (txt t) := z1
      have z2' : wr.cell? ⟨w.heap.size + 1 + 1, 2, none⟩ = some (.slice sL nL cL) := z2
      have z3' : wr.cell? ⟨w.heap.size + 1 + 1, 3, none⟩ = some (.slice sN nN cN) := z3
      have HZF := Lib.hid (hI.2.2.1.set (.int .i64 k) (txt t) (.slice sL nL cL) (.slice sN nN cN))
      obtain ⟨⟨p0, p1, p2, p3⟩, -⟩ := HZF.out.all
      have HO := Lib.hid (show Only w ((((wr.setCell ⟨w.heap.size + 1, 0, none⟩ (.int .i64 k)).setCell ⟨w.heap.size + 1, 1, none⟩ (txt t)).setCell ⟨w.heap.size + 1, 2, none⟩ (.slice sL nL cL)).setCell ⟨w.heap.size + 1, 3, none⟩ (.slice sN nN cN)) from (((hI.1.set (p := w.heap.size + 1) (by omega) 0 _).set (p := w.heap.size + 1) (by omega) 1 _).set (p := w.heap.size + 1) (by omega) 2 _).set (p := w.heap.size + 1) (by omega) 3 _)
      have bt : But (w.heap.size + 1) wr ((((wr.setCell ⟨w.heap.size + 1, 0, none⟩ (.int .i64 k)).setCell ⟨w.heap.size + 1, 1, none⟩ (txt t)).setCell ⟨w.heap.size + 1, 2, none⟩ (.slice sL nL cL)).setCell ⟨w.heap.size + 1, 3, none⟩ (.slice sN nN cN)) := ((but_set (w.heap.size + 1) wr 0 _).then_ (but_set _ _ 1 _)).then_ ((but_set _ _ 2 _).then_ (but_set _ _ 3 _))
      have HL9 := Lib.hid (hI.2.2.2.2.1.but bt (by omega))
      have HN9 := Lib.hid (hI.2.2.2.2.2.but bt (by omega))
      clear z0 z1 z2 z3 hI bt
      go_wp2_with fail
      simp [bodyPost, results, Tryd.results17, go_sem, p0, p1, p2, p3]
      refine ⟨⟨.slice sL nL cL, .slice sN nN cN, xs, rfl, ?_, ?_, ?_, ?_⟩, HO.out⟩
      · have h := HL9.out
        rw [List.take_of_length_le (Nat.le_refl _)] at h
        simpa using h
      · have h := HN9.out
        simpa using h
      · intro h
        have h2 : l.length = 0 := by have := congrArg List.length h; simpa using this
        exact HI.out.2.1 h2
      · intro h
        exact HI.out.2.2 (trivial)
end Go.Proofs.YtdhkpkojnokjdaaDoor

/-
  The whole of turned.
-/
namespace Go.Proofs.YtdhkpkojnokjdaaDoor
open Go.RowKit Go.Maps Go.WideMaps Go.Shelf
set_option linter.unusedVariables false
set_option linter.unusedSimpArgs false

mutual
/-- of kinds that are read -/
def Pl : JV → Prop
  | .plain k => k ≤ 2
  | .num _ => True
  | .str _ => True
  | .arr l => PlL l
  | .obj _ l => PlL l
def PlL : List JV → Prop
  | [] => True
  | x :: r => Pl x ∧ PlL r
end
theorem PlL.at_ : ∀ {l : List JV}, PlL l → ∀ i (h : i < l.length), Pl l[i]
  | x :: r, h, 0, hi => by unfold PlL at h; exact h.1
  | x :: r, h, i + 1, hi => by unfold PlL at h; simpa using PlL.at_ h.2 i (by simpa using hi)
mutual
theorem VRep.pl {w : World} : ∀ (x : JV) {S : Nat → Prop} {v : Value}, VRep w x S v → Pl x
  | .plain k, S, v, h => h.2
  | .num t, S, v, h => by unfold Pl; trivial
  | .str t, S, v, h => by unfold Pl; trivial
  | .arr l, S, v, h => by
    unfold VRep at h
    obtain ⟨L, xs, e, hr, hl⟩ := h
    unfold Pl
    exact LRep.pl l hl
  | .obj ns l, S, v, h => by
    unfold VRep at h
    obtain ⟨L, N, xs, e, hn, hd, hr, hr2, hl⟩ := h
    unfold Pl
    exact LRep.pl l hl
theorem LRep.pl {w : World} : ∀ (l : List JV) {S : Nat → Prop} {xs : List Value}, LRep w l S xs → PlL l
  | [], S, xs, h => by unfold PlL; trivial
  | x :: r, S, xs, h => by
    unfold LRep at h
    obtain ⟨a, b, c, d, ys, e, h1, h2⟩ := h
    unfold PlL
    exact ⟨VRep.pl x h1, LRep.pl r h2⟩
end
theorem WellL.at_ : ∀ {l : List JV}, WellL l → ∀ i (h : i < l.length), Well l[i] := fun h i hi => h.mem _ (List.getElem_mem hi)

theorem turned_any : ∀ (m : Nat) (y : JV) (v : Value) (w : World), SizeOf.sizeOf y ≤ m → Well y → Pl y → GIn w (toG y) v → Calls Tryd.prog 17 #[v] w (TurnRes y w)
  | 0, y, v, w, hm, _, _, _ => by cases y <;> simp at hm
  | m + 1, .plain k, v, w, hm, hw, hp, hx => by
    have hk : k ≤ 2 := hp
    rw [toG] at hx
    refine (turned_arr (k := (k : Int)) (t := []) (l := []) (ns := []) (by omega) (by simpa using hx) (by simp) trivial (fun i h => by simp at h)).mono ?_
    rintro e w' ⟨⟨Lo, No, xs, rfl, -, -, h1, h2⟩, t⟩
    refine ⟨⟨_, rfl, ?_⟩, t⟩
    rw [h1 rfl, h2 (Or.inl rfl), turnedJ]
    exact ⟨rfl, hk⟩
  | m + 1, .num tt, v, w, hm, hw, hp, hx => by
    rw [toG] at hx
    refine (turned_arr (k := 3) (t := tt) (l := []) (ns := []) (by omega) (by simpa using hx) (by simp) trivial (fun i h => by simp at h)).mono ?_
    rintro e w' ⟨⟨Lo, No, xs, rfl, -, -, h1, h2⟩, t⟩
    refine ⟨⟨_, rfl, ?_⟩, t⟩
    rw [h1 rfl, h2 (Or.inl rfl), turnedJ]
    exact rfl
  | m + 1, .str tt, v, w, hm, hw, hp, hx => by
    rw [toG] at hx
    refine (turned_arr (k := 4) (t := tt) (l := []) (ns := []) (by omega) (by simpa using hx) (by simp) trivial (fun i h => by simp at h)).mono ?_
    rintro e w' ⟨⟨Lo, No, xs, rfl, -, -, h1, h2⟩, t⟩
    refine ⟨⟨_, rfl, ?_⟩, t⟩
    rw [h1 rfl, h2 (Or.inl rfl), turnedJ]
    exact rfl
  | m + 1, .arr l, v, w, hm, hw, hp, hx => by
    unfold Well at hw
    unfold Pl at hp
    rw [toG_arr] at hx
    refine (turned_arr (k := 5) (t := []) (l := l) (ns := []) (by omega) hx hw.1 trivial (fun i hi W v' hv => turned_any m l[i] v' W (by
      have := List.sizeOf_lt_of_mem (List.getElem_mem hi)
      simp at hm; omega) (hw.2.at_ i hi) (hp.at_ i hi) hv)).mono ?_
    rintro e w' ⟨⟨Lo, No, xs, rfl, h3, -, h1, h2⟩, t⟩
    refine ⟨⟨_, rfl, ?_⟩, t⟩
    rw [h2 (Or.inl rfl)] at h3 ⊢
    rw [turnedJ, turnedL_map]
    exact VRep.mono _ (fun i _ p => by omega) h3.arr
  | m + 1, .obj ns l, v, w, hm, hw, hp, hx => by
    unfold Well at hw
    unfold Pl at hp
    obtain ⟨w1, w2, w3, w4, w5⟩ := hw
    rw [toG_obj] at hx
    refine (turned_obj (t := []) (l := l) (ns := ns) hx w1 w2 (fun i hi W v' hv => turned_any m l[i] v' W (by
      have := List.sizeOf_lt_of_mem (List.getElem_mem hi)
      simp at hm; omega) (w5.at_ i hi) (hp.at_ i hi) hv)).mono ?_
    rintro e w' ⟨⟨Lo, No, xs, rfl, h3, h4, -, -⟩, t⟩
    refine ⟨⟨_, rfl, ?_⟩, t⟩
    rw [turnedJ, turnedL_map, ← List.map_reverse]
    exact VRep.mono _ (fun i _ p => by omega) (h3.obj h4 (by rw [List.length_reverse, List.length_map, List.length_reverse]; exact w2))
end Go.Proofs.YtdhkpkojnokjdaaDoor
