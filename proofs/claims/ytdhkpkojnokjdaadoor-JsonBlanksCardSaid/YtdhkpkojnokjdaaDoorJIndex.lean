/-
  slices.Index of names; slices.Clone of values and of names.
-/
import Derived.Test.YtdhkpkojnokjdaaDoorJEx
import Derived.Lib.SliceRun
namespace Go.Proofs.YtdhkpkojnokjdaaDoor
open Go.RowKit Go.Maps Go.WideMaps Go.Shelf
set_option linter.unusedVariables false
set_option linter.unusedSimpArgs false

/-- the place of the first name that is it; -1 if there is none -/
def idxL (t : List UInt8) : List (List UInt8) → Int
  | [] => -1
  | s :: r => if (t == s) = true then 0 else if idxL t r = -1 then -1 else idxL t r + 1
theorem idxL_range (t : List UInt8) : ∀ ns : List (List UInt8), -1 ≤ idxL t ns ∧ idxL t ns < ns.length
  | [] => by simp [idxL]
  | s :: r => by
    have := idxL_range t r
    unfold idxL
    rw [List.length_cons]
    split
    · omega
    · split <;> omega
/-- behind places where it is not -/
theorem idxL_skip {t : List UInt8} : ∀ {ns : List (List UInt8)} {j : Nat}, (∀ i (h : i < ns.length), i < j → (t == ns[i]) = false) → j ≤ ns.length → idxL t ns = if idxL t (ns.drop j) = -1 then -1 else idxL t (ns.drop j) + j
  | ns, 0, _, _ => by
    rw [List.drop_zero]
    split
    · rename_i h; exact h
    · simp
  | [], j + 1, _, hj => by simp at hj
  | s :: r, j + 1, h, hj => by
    have h0 := h 0 (by simp) (by omega)
    have ih := idxL_skip (ns := r) (j := j) (fun i hi hij => by have := h (i + 1) (by simpa using hi) (by omega); simpa using this) (by simpa using hj)
    rw [List.drop_succ_cons]
    simp only [List.getElem_cons_zero] at h0
    conv => lhs; unfold idxL
    rw [if_neg (by rw [h0]; decide), ih]
    have := idxL_range t (r.drop j)
    by_cases e : idxL t (r.drop j) = -1
    · rw [if_pos e, if_pos e, if_pos rfl]
    · rw [if_neg e, if_neg e, if_neg (by omega)]; push_cast; omega

set_option maxRecDepth 100000 in
set_option maxHeartbeats 3200000 in
theorem index_any {ns : List (List UInt8)} {N : Value} {t : List UInt8} {w : World} (hN : NamesIn w N ns) (hl : ns.length ≤ 1000000) : Calls Tryd.prog 31 #[N, txt t] w fun e w' => e = .returned (.int .i64 (idxL t ns)) ∧ Only w w' := by
  obtain ⟨sp, cap, rfl, hc⟩ := hN
  have il : (ns.length : Int) ≤ 1000000 := by omega
  have HC := Lib.hid hc
  clear hc
  go_enter Tryd.func31, Tryd.ntmps31
  go_wp2_with fail
  go_loopw [8, 5] (fun kv _ wx => ∃ j : Nat, kv = .int .i64 (j : Int) ∧ j ≤ ns.length ∧ Only w wx ∧ Hid (∀ i (h : i < ns.length), i < j → (t == ns[i]) = false)) (fun kv _ _ => ns.length - (intOf kv).toNat)
  case atStart => exact ⟨0, rfl, Nat.zero_le _, Only.refl _, Lib.hid (fun i h h0 => absurd h0 (Nat.not_lt_zero _))⟩
  case round =>
    obtain ⟨j, rfl, hj, ht, hno⟩ := hrel
    have HT := Lib.hid ht
    clear ht
    by_cases hlt : j < ns.length
    · have ij : (j : Int) < (ns.length : Int) := by omega
      rcases HC.out.2 with h0 | ⟨g, off, rfl, hcell⟩
      · rw [h0] at hlt; simp at hlt
      have nc := cell_only (hcell j hlt) HT.out
      have e1 := add_at g off j
      obtain ⟨s, hs⟩ : ∃ s, s = ns[j] := ⟨_, rfl⟩
      rw [← hs] at nc
      have HS := Lib.hid hs
      clear hcell hs
      cases hab : (t == s)
      · go_wp2_with fail
        go_roundw
        case rel => exact ⟨j + 1, by push_cast; rfl, hlt, HT.out, Lib.hid (fun i h hij => by
          by_cases e : i = j
          · subst e; rw [← HS.out]; exact hab
          · exact hno.out i h (by omega))⟩
        case measure => simp [intOf]; omega
      · have hix : idxL t ns = (j : Int) := by
          have e0 : idxL t (ns.drop j) = 0 := by
            rw [List.drop_eq_getElem_cons hlt]
            conv => lhs; unfold idxL
            rw [if_pos (by rw [← HS.out]; exact hab)]
          rw [idxL_skip hno.out (Nat.le_of_lt hlt), e0]
          simp
        go_wp2_with fail
        go_ret
        exact ⟨by first | rfl | (rw [hix]; rfl), HT.out⟩
    · have hje : j = ns.length := by omega
      have ij : ¬ (j : Int) < (ns.length : Int) := by omega
      have hix : idxL t ns = -1 := by
        rw [idxL_skip hno.out hj, hje, List.drop_length]; rfl
      go_wp2_with fail
      go_ret
      exact ⟨by first | rfl | (rw [hix]; rfl), HT.out⟩

/-! ### slices.Clone -/
/-- values that stand in a row of our own -/
theorem own_cells {w : World} {base size n : Nat} {e : TypeId} {v : Value} {xs : List Value} (h : w.ownsRow base e size v n xs) (hn : 0 < n) : ∃ g cap, v = .slice (some ⟨g, 0, none⟩) n cap ∧ base ≤ g ∧ n ≤ cap ∧ g < w.heap.size ∧ (∀ j, w.frozen? ⟨g, j, none⟩ = false) ∧ ∀ j, j < n * size → w.cell? ⟨g, j, none⟩ = xs[j]? := by
  have h' := h
  rcases h.2 with ⟨hv, h0⟩ | ⟨g, cap, cur, rfl, hg, hh, h1, h2, h3, h4⟩
  · omega
  · exact ⟨g, cap, rfl, hg, h1, (Array.getElem?_eq_some_iff.1 hh).1, fun j => by simp [World.frozen?, hh], fun j hj => h'.cellAt j hj⟩

set_option maxRecDepth 100000 in
set_option maxHeartbeats 1600000 in
theorem cloneV_any {g off n cap : Nat} {xs : List Value} {w : World} (hx : xs.length = n * 4) (h0 : 0 < n) (hn : n ≤ 1000000) (hone : ∀ u ∈ xs, u.oneCell' = true) (hc : ∀ j u, xs[j]? = some u → w.cell? ⟨g, off + j, none⟩ = some u) :
    Calls Tryd.prog 47 #[.slice (some ⟨g, off, none⟩) n cap] w fun e w' => (∃ v, e = .returned v ∧ w'.ownsRow w.heap.size 25 4 v n xs) ∧ Only w w' := by
  obtain ⟨i0, hi, hz0, hz1, hz2⟩ := infoJV_parts
  have q22 : ∀ (w : World) (a : Option Addr) (n c n' c' : Nat), (binOp .eql 22 (.slice a n c) (.slice none n' c')).run Tryd.prog w = .ok (.bool a.isNone) w := fun w a n c n' c' => Lib.run_eql_slice_nil w _ _ a n c n' c' Tryd.underlying22
  have A := Lib.hid hc
  clear hc
  go_enter Tryd.func47, Tryd.ntmps47
  go_wp2_with (at_builtin; refine wpList_append_own_at _ rfl (.tmp 5) (.tmp 6) 22 rfl w.heap.size 25 i0 _ 4 72 Tryd.underlying22 hi hz0 hz1 hz2 rfl (by decide) _ 0 [] rfl (World.ownsRow_made w #[] 0 (Nat.le_refl _) (Nat.zero_le _) rfl) ⟨g, off, none⟩ n cap xs rfl hx ?ha ?hb ?hc ?hd ?he ?hf)
  case ha => exact fun j u hj => by rw [add_at]; exact cell_only (A.out j u hj) ((Only.refl w).alloc _)
  case hb => exact hone
  case hc => unfold maxLen; omega
  case hd => omega
  case he => simp
  case hf =>
    intro v' w2 hown hg hnil hat
    have hb2 : Only w w2 := by
      have h1 := Below.grown (Below.refl w.heap.size _) hg (by simp) (fun k e => by simp [Value.ownBlock] at e; omega)
      exact Below.trans (((Only.refl w).alloc _) : Only w _) h1
    have HOWN := Lib.hid hown
    have HB := Lib.hid hb2
    clear hown hg hnil hat hb2
    go_wp2
    go_ret
    exact ⟨⟨_, rfl, by simpa using HOWN.out⟩, HB.out⟩

set_option maxRecDepth 100000 in
set_option maxHeartbeats 1600000 in
theorem cloneS_any {g off n cap : Nat} {xs : List Value} {w : World} (hx : xs.length = n * 1) (h0 : 0 < n) (hn : n ≤ 1000000) (hone : ∀ u ∈ xs, u.oneCell' = true) (hc : ∀ j u, xs[j]? = some u → w.cell? ⟨g, off + j, none⟩ = some u) :
    Calls Tryd.prog 48 #[.slice (some ⟨g, off, none⟩) n cap] w fun e w' => (∃ v, e = .returned v ∧ w'.ownsRow w.heap.size 9 1 v n xs) ∧ Only w w' := by
  obtain ⟨i0, hi, hz0, hz1, hz2⟩ := infoST_parts
  have q22 : ∀ (w : World) (a : Option Addr) (n c n' c' : Nat), (binOp .eql 23 (.slice a n c) (.slice none n' c')).run Tryd.prog w = .ok (.bool a.isNone) w := fun w a n c n' c' => Lib.run_eql_slice_nil w _ _ a n c n' c' Tryd.underlying23
  have A := Lib.hid hc
  clear hc
  go_enter Tryd.func48, Tryd.ntmps48
  go_wp2_with (at_builtin; refine wpList_append_own_at _ rfl (.tmp 5) (.tmp 6) 23 rfl w.heap.size 9 i0 _ 1 16 Tryd.underlying23 hi hz0 hz1 hz2 rfl (by decide) _ 0 [] rfl (World.ownsRow_made w #[] 0 (Nat.le_refl _) (Nat.zero_le _) rfl) ⟨g, off, none⟩ n cap xs rfl hx ?ha ?hb ?hc ?hd ?he ?hf)
  case ha => exact fun j u hj => by rw [add_at]; exact cell_only (A.out j u hj) ((Only.refl w).alloc _)
  case hb => exact hone
  case hc => unfold maxLen; omega
  case hd => omega
  case he => simp
  case hf =>
    intro v' w2 hown hg hnil hat
    have hb2 : Only w w2 := by
      have h1 := Below.grown (Below.refl w.heap.size _) hg (by simp) (fun k e => by simp [Value.ownBlock] at e; omega)
      exact Below.trans (((Only.refl w).alloc _) : Only w _) h1
    have HOWN := Lib.hid hown
    have HB := Lib.hid hb2
    clear hown hg hnil hat hb2
    go_wp2
    go_ret
    exact ⟨⟨_, rfl, by simpa using HOWN.out⟩, HB.out⟩

/-- nil, or no elements: the copy has none -/
theorem cloneV_none {sp : Option Addr} {cap : Nat} {w : World} : Calls Tryd.prog 47 #[.slice sp 0 cap] w fun e w' => (∃ sp' cap', e = .returned (.slice sp' 0 cap')) ∧ Only w w' := by
  have q22 : ∀ (w : World) (a : Option Addr) (n c n' c' : Nat), (binOp .eql 22 (.slice a n c) (.slice none n' c')).run Tryd.prog w = .ok (.bool a.isNone) w := fun w a n c n' c' => Lib.run_eql_slice_nil w _ _ a n c n' c' Tryd.underlying22
  obtain ⟨i0, hi, hz0, hz1, hz2⟩ := infoJV_parts
  cases sp with
  | none =>
    go_enter Tryd.func47, Tryd.ntmps47
    go_wp2_with fail
    go_ret
    exact ⟨⟨_, _, rfl⟩, Only.refl _⟩
  | some ad =>
    go_enter Tryd.func47, Tryd.ntmps47
    go_wp2_with (at_builtin; refine wpList_append_own_at _ rfl (.tmp 5) (.tmp 6) 22 rfl w.heap.size 25 i0 _ 4 72 Tryd.underlying22 hi hz0 hz1 hz2 rfl (by decide) _ 0 [] rfl (World.ownsRow_made w #[] 0 (Nat.le_refl _) (Nat.zero_le _) rfl) ad 0 cap [] rfl rfl ?ha ?hb ?hc ?hd ?he ?hf)
    case ha => exact fun j u hj => by simp at hj
    case hb => exact fun u hu => by simp at hu
    case hc => unfold maxLen; omega
    case hd => omega
    case he => simp
    case hf =>
      intro v' w2 hown hg hnil hat
      have hb2 : Only w w2 := by
        have h1 := Below.grown (Below.refl w.heap.size _) hg (by simp) (fun k e => by simp [Value.ownBlock] at e; omega)
        exact Below.trans (((Only.refl w).alloc _) : Only w _) h1
      have hsh : ∃ sp' cap', v' = .slice sp' 0 cap' := by
        rcases hown.2 with ⟨h, -⟩ | ⟨g, cap, cur, h, -⟩
        · exact ⟨_, _, h⟩
        · exact ⟨_, _, h⟩
      obtain ⟨sp', cap', rfl⟩ := hsh
      have HB := Lib.hid hb2
      clear hown hg hnil hat hb2
      go_wp2
      go_ret
      exact ⟨⟨_, _, rfl⟩, HB.out⟩
theorem cloneS_none {sp : Option Addr} {cap : Nat} {w : World} : Calls Tryd.prog 48 #[.slice sp 0 cap] w fun e w' => (∃ sp' cap', e = .returned (.slice sp' 0 cap')) ∧ Only w w' := by
  have q22 : ∀ (w : World) (a : Option Addr) (n c n' c' : Nat), (binOp .eql 23 (.slice a n c) (.slice none n' c')).run Tryd.prog w = .ok (.bool a.isNone) w := fun w a n c n' c' => Lib.run_eql_slice_nil w _ _ a n c n' c' Tryd.underlying23
  obtain ⟨i0, hi, hz0, hz1, hz2⟩ := infoST_parts
  cases sp with
  | none =>
    go_enter Tryd.func48, Tryd.ntmps48
    go_wp2_with fail
    go_ret
    exact ⟨⟨_, _, rfl⟩, Only.refl _⟩
  | some ad =>
    go_enter Tryd.func48, Tryd.ntmps48
    go_wp2_with (at_builtin; refine wpList_append_own_at _ rfl (.tmp 5) (.tmp 6) 23 rfl w.heap.size 9 i0 _ 1 16 Tryd.underlying23 hi hz0 hz1 hz2 rfl (by decide) _ 0 [] rfl (World.ownsRow_made w #[] 0 (Nat.le_refl _) (Nat.zero_le _) rfl) ad 0 cap [] rfl rfl ?ha ?hb ?hc ?hd ?he ?hf)
    case ha => exact fun j u hj => by simp at hj
    case hb => exact fun u hu => by simp at hu
    case hc => unfold maxLen; omega
    case hd => omega
    case he => simp
    case hf =>
      intro v' w2 hown hg hnil hat
      have hb2 : Only w w2 := by
        have h1 := Below.grown (Below.refl w.heap.size _) hg (by simp) (fun k e => by simp [Value.ownBlock] at e; omega)
        exact Below.trans (((Only.refl w).alloc _) : Only w _) h1
      have hsh : ∃ sp' cap', v' = .slice sp' 0 cap' := by
        rcases hown.2 with ⟨h, -⟩ | ⟨g, cap, cur, h, -⟩
        · exact ⟨_, _, h⟩
        · exact ⟨_, _, h⟩
      obtain ⟨sp', cap', rfl⟩ := hsh
      have HB := Lib.hid hb2
      clear hown hg hnil hat hb2
      go_wp2
      go_ret
      exact ⟨⟨_, _, rfl⟩, HB.out⟩
end Go.Proofs.YtdhkpkojnokjdaaDoor
