/-
  OF THE LAWS: TablePlays: where it stands, what keeps it.
-/
import Derived.Test.YtblaicejpijfbaaTWhole
import Derived.Test.YtblaicejpijfbaaTFrozen
import Derived.Test.YtblaicejpijfbaaTPairs2
namespace Go.Proofs.Ytblaicejpijfbaa
open Go.RowKit Go.Maps Go.WideMaps Go.Shelf Go.Proofs.Ytblaicejpijfbaa.Tb

theorem infoPSnap : (Try.prog.info? 39).map (fun i => (i.zero, i.size, i.bytes)) = some (some (.pointer none), 1, 8) := by kernel_rfl
theorem infoPairs : (Try.prog.info? 27).map (fun i => (i.zero, i.size, i.bytes)) = some (some (.slice none 0 0), 1, 24) := by kernel_rfl
theorem undSnaps : Try.prog.underlying 28 = some (.slice 39) := by kernel_rfl
theorem undPairss : Try.prog.underlying 29 = some (.slice 27) := by kernel_rfl

/-- a row of pairs that we own -/
def PairsO (W : World) (v : Value) (l : List Pr3) : Prop := ∃ base, W.ownsRow base 49 2 v l.length (flat3 l)

theorem PairsO.pairs {W : World} {v : Value} {l : List Pr3} (h : PairsO W v l) : PairsR W v l := by
  obtain ⟨_, h⟩ := h
  exact PairsR.of_own h

/-- what a block may not be that changes -/
def Calm (Q : Nat → Prop) (W : World) : Prop := ∀ b cs ty fr, Q b → W.heap[b]? = some (.cells cs ty fr) → ty ≠ 49 ∧ ty ≠ 74 ∧ ty ≠ 92

theorem calm_none (W : World) : Calm (fun _ => False) W := fun _ _ _ _ q => q.elim

section
variable {w0 W W' : World} {Q : Nat → Prop}

theorem PairsO.turned {v : Value} {l : List Pr3} (h : PairsO W v l) (ht : Turn Q W W') (hq : Calm Q W) : PairsO W' v l := by
  obtain ⟨base, h⟩ := h
  refine ⟨base, ownsRow_turned h ht (fun r e q => ?_)⟩
  obtain ⟨_, _, cur, hc⟩ := own_block h e
  exact (hq r _ _ _ q hc).1 rfl

theorem Calm.noNode (hq : Calm Q W) : si.NoNode W Q := fun b _ _ q e => (hq b _ _ _ q e).2.2 rfl

theorem Snap.calm {sp ver : Nat} {t : Tr (List UInt8) Int} (h : Snap W sp t ver) (ht : Turn Q W W') (hq : Calm Q W) : Snap W' sp t ver := by
  refine h.turned ht hq.noNode (fun q => ?_)
  obtain ⟨root, s1, _⟩ := h.at_
  unfold si.SnapC at s1
  exact (hq _ _ _ _ q s1).2.1 rfl

/-- a snapshot that was taken, its pairs -/
structure SRec where
  sp : Nat
  t : Tr (List UInt8) Int
  ver : Nat
  v : Value

structure SAt (W : World) (r : SRec) : Prop where
  sn : Snap W r.sp r.t r.ver
  pairs : PairsO W r.v r.t.list
  sized : r.t.Sized
  rises : Rises r.t.list
  count : r.t.count ≤ 200

theorem SAt.calm {r : SRec} (h : SAt W r) (ht : Turn Q W W') (hq : Calm Q W) : SAt W' r := ⟨h.sn.calm ht hq, h.pairs.turned ht hq, h.sized, h.rises, h.count⟩

/-- where the law stands -/
structure PL (w0 W : World) (tp k : Nat) (t : Tr (List UInt8) Int) (vk : Nat) (ln : List Pr3) (v6 v7 v8 v9 : Value) (x7 x8 x9 : List Value) (recs : List SRec) : Prop where
  tab : Tab w0 W tp t vk
  sized : t.Sized
  rises : Rises t.list
  count : t.count ≤ k
  vle : vk ≤ k
  now : PairsO W v6 ln
  r7 : W.ownsRow w0.heap.size 39 1 v7 x7.length x7
  r8 : W.ownsRow w0.heap.size 27 1 v8 x8.length x8
  r9 : W.ownsRow w0.heap.size 3 1 v9 x9.length x9
  each : ∀ r ∈ recs, SAt W r

section
variable {tp k vk : Nat} {t : Tr (List UInt8) Int} {ln : List Pr3} {v6 v7 v8 v9 : Value} {x7 x8 x9 : List Value} {recs : List SRec}

theorem PL.same (h : PL w0 W tp k t vk ln v6 v7 v8 v9 x7 x8 x9 recs) (ht : Turn (fun _ => False) W W') : PL w0 W' tp k t vk ln v6 v7 v8 v9 x7 x8 x9 recs :=
  ⟨h.tab.later ht, h.sized, h.rises, h.count, h.vle, h.now.turned ht (calm_none W), ownsRow_turned h.r7 ht (fun _ _ q => q), ownsRow_turned h.r8 ht (fun _ _ q => q), ownsRow_turned h.r9 ht (fun _ _ q => q), fun r hr => (h.each r hr).calm ht (calm_none W)⟩

/-- the table has been written -/
theorem PL.table {t' : Tr (List UInt8) Int} {vk' k' : Nat} (h : PL w0 W tp k t vk ln v6 v7 v8 v9 x7 x8 x9 recs) (ht : Turn (fun b => b = tp) W W') (h' : Tab w0 W' tp t' vk') (hz : t'.Sized) (hr : Rises t'.list) (hc : t'.count ≤ k') (hv : vk' ≤ k') :
    PL w0 W' tp k' t' vk' ln v6 v7 v8 v9 x7 x8 x9 recs := by
  obtain ⟨root, a1, _⟩ := h.tab.at_
  unfold si.TabC at a1
  have hq : Calm (fun b => b = tp) W := fun b cs ty fr q e => by subst q; rw [a1] at e; cases e; simp
  have own : ∀ {base : Nat} {e : TypeId} {v : Value} {n : Nat} {xs : List Value}, e ≠ 69 → W.ownsRow base e 1 v n xs → W'.ownsRow base e 1 v n xs := fun he h1 => ownsRow_turned h1 ht (fun r e q => by
    obtain ⟨_, _, cur, hc⟩ := own_block h1 e
    subst q
    rw [a1] at hc
    cases hc
    exact he rfl)
  exact ⟨h', hz, hr, hc, hv, h.now.turned ht hq, own (by decide) h.r7, own (by decide) h.r8, own (by decide) h.r9, fun r hr => (h.each r hr).calm ht hq⟩

theorem PL.later (h : PL w0 W tp k t vk ln v6 v7 v8 v9 x7 x8 x9 recs) {k' : Nat} (hk : k ≤ k') : PL w0 W tp k' t vk ln v6 v7 v8 v9 x7 x8 x9 recs :=
  ⟨h.tab, h.sized, h.rises, Nat.le_trans h.count hk, Nat.le_trans h.vle hk, h.now, h.r7, h.r8, h.r9, h.each⟩

/-- the pairs anew -/
theorem PL.pairs {ln' : List Pr3} {v6' : Value} (h : PL w0 W tp k t vk ln v6 v7 v8 v9 x7 x8 x9 recs) (ht : Turn (fun _ => False) W W') (h' : PairsO W' v6' ln') : PL w0 W' tp k t vk ln' v6' v7 v8 v9 x7 x8 x9 recs := by
  have h1 := h.same ht
  exact ⟨h1.tab, h1.sized, h1.rises, h1.count, h1.vle, h', h1.r7, h1.r8, h1.r9, h1.each⟩

/-- a row of ours has grown -/
theorem PL.grew {e : TypeId} {v : Value} {xs : List Value} {tmp : Obj} {w1 : World} (h : PL w0 W tp k t vk ln v6 v7 v8 v9 x7 x8 x9 recs) (hv : W.ownsRow w0.heap.size e 1 v xs.length xs) (he : e ≠ 49 ∧ e ≠ 74 ∧ e ≠ 92 ∧ e ≠ 69) (hg : (W.alloc tmp).grownBy w1 v.ownBlock) :
    Tab w0 w1 tp t vk ∧ PairsO w1 v6 ln ∧ (∀ r ∈ recs, SAt w1 r) ∧ (∀ {e' : TypeId} {u : Value} {n : Nat} {ys : List Value}, e' ≠ e → W.ownsRow w0.heap.size e' 1 u n ys → w1.ownsRow w0.heap.size e' 1 u n ys) ∧ (∀ {sp ver : Nat} {t : Tr (List UInt8) Int}, Snap W sp t ver → Snap w1 sp t ver) := by
  have ht : Turn (fun b => v.ownBlock = some b) W w1 := ((Turn.refl _ W).alloc tmp).grown hg (fun k e => Or.inl e)
  have hq : Calm (fun b => v.ownBlock = some b) W := fun b cs ty fr q hb => by
    obtain ⟨_, _, cur, hc⟩ := own_block hv q
    rw [hc] at hb
    cases hb
    exact ⟨he.1, he.2.1, he.2.2.1⟩
  obtain ⟨⟨root, a1, a2⟩, a3, a4⟩ := h.tab
  have a1' := a1
  unfold si.TabC at a1'
  refine ⟨⟨⟨root, a1.later ht (fun q => ?_), a2.turned ht hq.noNode⟩, a3, a4.trans ht (fun i hi q => ?_)⟩, h.now.turned ht hq, fun r hr => (h.each r hr).calm ht hq, fun hne hu => ownsRow_turned hu ht (fun r e q => ?_), fun hs => hs.calm ht hq⟩
  · obtain ⟨_, _, cur, hc⟩ := own_block hv q
    rw [hc] at a1'
    cases a1'
    exact he.2.2.2 rfl
  · have := (own_block hv q).1; omega
  · obtain ⟨_, _, cur, hc⟩ := own_block hv q
    obtain ⟨_, _, cur2, hc2⟩ := own_block hu e
    rw [hc] at hc2
    cases hc2
    exact hne rfl

theorem PL.app7 {tmp : Obj} {w1 : World} {v' y : Value} (h : PL w0 W tp k t vk ln v6 v7 v8 v9 x7 x8 x9 recs) (hg : (W.alloc tmp).grownBy w1 v7.ownBlock) (hown : w1.ownsRow w0.heap.size 39 1 v' (x7.length + 1) (x7 ++ [y])) :
    PL w0 w1 tp k t vk ln v6 v' v8 v9 (x7 ++ [y]) x8 x9 recs ∧ (∀ {sp ver : Nat} {t : Tr (List UInt8) Int}, Snap W sp t ver → Snap w1 sp t ver) := by
  obtain ⟨a, b, c, d, e⟩ := h.grew h.r7 (by decide) hg
  exact ⟨⟨a, h.sized, h.rises, h.count, h.vle, b, by rw [List.length_append]; exact hown, d (by decide) h.r8, d (by decide) h.r9, c⟩, e⟩
theorem PL.app8 {tmp : Obj} {w1 : World} {v' y : Value} (h : PL w0 W tp k t vk ln v6 v7 v8 v9 x7 x8 x9 recs) (hg : (W.alloc tmp).grownBy w1 v8.ownBlock) (hown : w1.ownsRow w0.heap.size 27 1 v' (x8.length + 1) (x8 ++ [y])) :
    PL w0 w1 tp k t vk ln v6 v7 v' v9 x7 (x8 ++ [y]) x9 recs ∧ (∀ {sp ver : Nat} {t : Tr (List UInt8) Int}, Snap W sp t ver → Snap w1 sp t ver) := by
  obtain ⟨a, b, c, d, e⟩ := h.grew h.r8 (by decide) hg
  exact ⟨⟨a, h.sized, h.rises, h.count, h.vle, b, d (by decide) h.r7, by rw [List.length_append]; exact hown, d (by decide) h.r9, c⟩, e⟩
theorem PL.app9 {tmp : Obj} {w1 : World} {v' y : Value} (h : PL w0 W tp k t vk ln v6 v7 v8 v9 x7 x8 x9 recs) (hg : (W.alloc tmp).grownBy w1 v9.ownBlock) (hown : w1.ownsRow w0.heap.size 3 1 v' (x9.length + 1) (x9 ++ [y])) :
    PL w0 w1 tp k t vk ln v6 v7 v8 v' x7 x8 (x9 ++ [y]) recs ∧ (∀ {sp ver : Nat} {t : Tr (List UInt8) Int}, Snap W sp t ver → Snap w1 sp t ver) := by
  obtain ⟨a, b, c, d, e⟩ := h.grew h.r9 (by decide) hg
  exact ⟨⟨a, h.sized, h.rises, h.count, h.vle, b, d (by decide) h.r7, d (by decide) h.r8, by rw [List.length_append]; exact hown, c⟩, e⟩

theorem PL.snoc {sp : Nat} (h : PL w0 W tp k t vk ln v6 v7 v8 v9 x7 x8 x9 recs) (hln : ln = t.list) (hk : k ≤ 200) (hs : Snap W sp t vk) : PL w0 W tp k t vk ln v6 v7 v8 v9 x7 x8 x9 (recs ++ [⟨sp, t, vk, v6⟩]) := by
  refine ⟨h.tab, h.sized, h.rises, h.count, h.vle, h.now, h.r7, h.r8, h.r9, fun r hr => ?_⟩
  rcases List.mem_append.1 hr with hr | hr
  · exact h.each r hr
  · simp at hr
    subst hr
    exact ⟨hs, by rw [← hln]; exact h.now, h.sized, h.rises, Nat.le_trans h.count hk⟩
end
end

theorem findL_drop {l : List Pr3} {k : List UInt8} (h : (findL l k).isSome = false) : dropL l k = l := by
  refine dropL_keep (fun y hy e => ?_)
  unfold findL at h
  rw [Option.isSome_map] at h
  have h2 : l.find? (fun x => decide (x.1 = k)) = none := by
    cases hf : l.find? (fun x => decide (x.1 = k)) with
    | none => rfl
    | some z => rw [hf] at h; cases h
  have := List.find?_eq_none.1 h2 y hy
  exact this (by simpa using e)

theorem dropT_list {t : Tr (List UInt8) Int} (h : Rises t.list) (k : List UInt8) : (si.dropT t k).list = dropL t.list k := by
  unfold si.dropT
  split
  · exact without_list h k
  · rename_i hn
    rw [get_list h] at hn
    rw [findL_drop (by simpa using hn)]

theorem tab_get_any {w0 W : World} {tp ver : Nat} {t : Tr (List UInt8) Int} (h : Tab w0 W tp t ver) (hr : Rises t.list) (k : List UInt8) :
    Calls Try.prog 14 #[.pointer (some ⟨tp, 0, none⟩), .string ⟨k.toArray⟩] W fun r w' => r = .returned (.tuple #[.int .i64 ((findL t.list k).getD 0), .bool (findL t.list k).isSome]) ∧ Like W w' := by
  obtain ⟨root, h1, h2⟩ := h.at_
  have := si.tget_any h1 h2 k
  rw [get_list hr] at this
  cases hf : findL t.list k with
  | none => rw [hf] at this; exact this
  | some x => rw [hf] at this; exact this

theorem row_cell {W : World} {base n : Nat} {e : TypeId} {v : Value} {xs : List Value} (h : W.ownsRow base e 1 v n xs) (hn : n = xs.length) {j : Nat} {y : Value} (hj : xs[j]? = some y) : ∃ g cap, v = .slice (some ⟨g, 0, none⟩) n cap ∧ W.cell? ⟨g, j, none⟩ = some y := by
  have hlt := (List.getElem?_eq_some_iff.1 hj).1
  rcases h.2 with ⟨_, h0⟩ | ⟨g, cap, cur, hv, hg, hh, h1, h2, h3, h4⟩
  · omega
  · have hown : W.ownsRow base e 1 (.slice (some ⟨g, 0, none⟩) n cap) n xs := by rw [← hv]; exact h
    have := hown.cellAt j (by omega)
    exact ⟨g, cap, hv, this.trans hj⟩

theorem sver_q {W : World} {sp ver : Nat} {t : Tr (List UInt8) Int} (h : Snap W sp t ver) : Calls Try.prog 17 #[.pointer (some ⟨sp, 0, none⟩)] W fun r w' => r = .returned (.int .i64 (ver : Nat)) ∧ w' = W :=
  h.version.mono fun _ _ ⟨a, b⟩ => ⟨a, b.symm⟩

theorem sat_frozen {W : World} {rec : SRec} (h : SAt W rec) (fr tu : List UInt8) : Calls Try.prog 18 #[.pointer (some ⟨rec.sp, 0, none⟩), rec.v, strV fr, strV tu] W fun r w' => r = .returned (.bool true) ∧ Turn (fun _ => False) W w' := by
  obtain ⟨root, s1, s2⟩ := h.sn.at_
  exact frozen_walk s1 s2 h.pairs.pairs h.rises h.sized (by have := h.sized.count; have := h.count; omega) fr tu

/-- an operation in a box of its own -/
def OpBox (W : World) (ob : Nat) (x : Op3) : Prop := W.heap[ob]? = some (.cells #[.int .i64 x.kind, .int .i64 x.v, strV x.key, strV x.top] 32 (0, 0))

theorem OpBox.turned {W W' : World} {Q : Nat → Prop} {ob : Nat} {x : Op3} (h : OpBox W ob x) (ht : Turn Q W W') (hq : ¬ Q ob) : OpBox W' ob x := (ht.block ob (Array.getElem?_eq_some_iff.1 h).1 hq).trans h

theorem OpBox.same {W W' : World} {ob : Nat} {x : Op3} (h : OpBox W ob x) (ht : Turn (fun _ => False) W W') : OpBox W' ob x := h.turned ht (fun q => q)

theorem OpBox.cells {W : World} {ob : Nat} {x : Op3} (h : OpBox W ob x) : W.cell? ⟨ob, 0, none⟩ = some (.int .i64 x.kind) ∧ W.cell? ⟨ob, 1, none⟩ = some (.int .i64 x.v) ∧ W.cell? ⟨ob, 2, none⟩ = some (strV x.key) ∧ W.cell? ⟨ob, 3, none⟩ = some (strV x.top) := by
  unfold OpBox at h
  simp [World.cell?, h]

theorem OpBox.grew {W w1 : World} {base n : Nat} {ob : Nat} {x : Op3} {e : TypeId} {v : Value} {xs : List Value} {tmp : Obj} (h : OpBox W ob x) (hv : W.ownsRow base e 1 v n xs) (he : e ≠ 32) (hg : (W.alloc tmp).grownBy w1 v.ownBlock) : OpBox w1 ob x := by
  have ht : Turn (fun b => v.ownBlock = some b) W w1 := ((Turn.refl _ W).alloc tmp).grown hg (fun k e => Or.inl e)
  refine h.turned ht (fun q => ?_)
  obtain ⟨_, _, cur, hc⟩ := own_block hv q
  unfold OpBox at h
  rw [hc] at h
  cases h
  exact he rfl

/-- what the three rows hold -/
abbrev ptrs (recs : List SRec) : List Value := recs.map fun r => .pointer (some ⟨r.sp, 0, none⟩)
abbrev rowsOf (recs : List SRec) : List Value := recs.map fun r => r.v
abbrev versOf (recs : List SRec) : List Value := recs.map fun r => .int .i64 (r.ver : Nat)

/-- between rounds -/
def PLr (w0 W : World) (tp k : Nat) (v6 v7 v8 v9 v10 : Value) : Prop :=
  ∃ (t : Tr (List UInt8) Int) (vk : Nat) (recs : List SRec), v10 = .int .i64 (vk : Nat) ∧ recs.length ≤ 20 ∧ PL w0 W tp k t vk t.list v6 v7 v8 v9 (ptrs recs) (rowsOf recs) (versOf recs) recs
end Go.Proofs.Ytblaicejpijfbaa
