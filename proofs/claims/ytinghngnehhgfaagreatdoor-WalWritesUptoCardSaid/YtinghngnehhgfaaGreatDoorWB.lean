/-
  PARTS: WBase, WTexts, WLists, WSame.
-/
import Derived.Test.YtinghngnehhgfaaGreatDoorFsC
import Derived.Test.YtinghngnehhgfaaGreatDoorFsD
import Derived.LoopTactic
import Derived.Deep.QuietTactic
import Derived.BigQuiet
import Derived.Lib.SlBytesConst
import Derived.Maps.AppendAt
import Derived.RangeFuncBox
import Derived.RangeFuncFrom
import Derived.Deep.RegionHeld3
/-
  What serves all texts of the log: worlds, slices of bytes, lists of texts (as in the texts of stage 1).
-/
namespace Go.Proofs.YtinghngnehhgfaaGreatDoor
open Go.RowKit Go.Maps Go.WideMaps

section
variable {w w' : World} {p : Nat} {S S' : Fsp.Fs} {c c' : Bool} {Q : Nat → Prop} {mo : Option Nat} {pl : List UInt8 → Pl}

theorem Like.cell (h : Like w w') {a : Addr} {v : Value} (k : w.cell? a = some v) : w'.cell? a = some v :=
  (World.cell?_of_block (by rw [h.heap])).trans k

theorem Like.trans {a b d : World} (h : Like a b) (k : Like b d) : Like a d := ⟨k.heap.trans h.heap, k.os.trans h.os, k.tape.trans h.tape, k.output.trans h.output⟩

theorem Like.turn (h : Like w w') : Turn (fun _ => False) w w' := Turn.like (Turn.refl _ w) h

theorem Post.pre {w1 : World} (h : Post w1 p S Q w') (k : Turn (fun _ => False) w w1) : Post w p S Q w' := by
  obtain ⟨⟨mo, pl, hr⟩, ht⟩ := h
  refine ⟨⟨mo, pl, hr.mono (fun i hi => Grow.after k.size i hi) (fun i hi => ?_)⟩, (k.mono (fun _ q => q.elim)).trans ht (fun _ _ q => q)⟩
  rcases hi with hi | hi
  · exact hr.lt i (Or.inl hi)
  · exact hi.2

theorem turnBox (w : World) (o : Obj) : Turn (fun _ => False) w (w.alloc o) := (Turn.refl _ w).alloc o

theorem turned_cell {b o : Nat} {v : Value} (h : w.cell? ⟨b, o, none⟩ = some v) (ht : Turn Q w w') (hq : ¬ Q b) : w'.cell? ⟨b, o, none⟩ = some v :=
  (World.cell?_of_block (ht.block b (World.block_lt_of_cell? w _ h) hq)).trans h

theorem cell_new (w : World) (cs : Array Value) (t : TypeId) (j : Nat) : (w.alloc (.cells cs t)).cell? ⟨w.heap.size, j, none⟩ = cs[j]? := by
  unfold World.cell?
  simp only [heap_alloc_new]
  rfl

theorem steps_stepped (S : Fsp.Fs) : (Fsp.stepped S).steps ≤ S.steps + 1 := by unfold Fsp.stepped; split <;> simp

/-- what was handed in lies below -/
theorem SliceB.out {v : Value} {b : List UInt8} (h : SliceB w v b) {B : Nat} (hB : w.heap.size ≤ B) (hQ : ∀ i, Q i → B ≤ i) : OutOf Q v := by
  intro ad n cap e hn q
  rcases h with ⟨hv, _⟩ | ⟨ad', cap', hv, hc⟩
  · rw [hv] at e; cases e
  · rw [hv] at e
    simp only [Value.slice.injEq, Option.some.injEq] at e
    obtain ⟨rfl, rfl, _⟩ := e
    have h0 := hc 0 b[0] (by simp)
    have := World.block_lt_of_cell? w _ h0
    rw [add_block] at this
    have := hQ _ q
    omega

/-- a file system among the blocks that have come since w -/
def Since (w : World) (p : Nat) (S : Fsp.Fs) (w' : World) : Prop := Rep w' p S (fun b => w.heap.size ≤ b ∧ b < w'.heap.size) ∧ Turn (fun _ => False) w w'

theorem Since.post {w1 w2 : World} (h : Since w p S w1) (k : Post w1 p S' (fun b => w.heap.size ≤ b ∧ b < w1.heap.size) w2) : Since w p S' w2 := by
  obtain ⟨⟨mo, pl, hr⟩, ht⟩ := k
  refine ⟨⟨mo, pl, hr.mono (fun i hi => ?_) (fun i hi => hi.2)⟩, h.2.trans ht (fun i hi q => by omega)⟩
  have h1 := h.2.size
  have h2 := ht.size
  rcases hi with hi | hi
  · exact ⟨hi.1, by omega⟩
  · exact ⟨by omega, hi.2⟩

theorem slice_lit (w : World) (b : List UInt8) (cs : Array Value) (t : TypeId) (fr : Nat × Nat) (n cap : Nat) (hcs : cs = (b.map byteV).toArray) (hn : n = b.length) : SliceB (w.alloc (.cells cs t fr)) (.slice (some ⟨w.heap.size, 0, none⟩) n cap) b := by
  subst hcs; subst hn
  refine Or.inr ⟨_, cap, rfl, fun j x hj => ?_⟩
  rw [add_head]
  unfold World.cell?
  simp only [heap_alloc_new]
  simp [hj]

theorem SliceR.like {v : Value} {d : List UInt8} (h : SliceR w v d) (k : Like w w') : SliceR w' v d := by
  obtain ⟨sp, cap, hv, hc⟩ := h
  exact ⟨sp, cap, hv, fun h0 => by obtain ⟨ad, e, hx⟩ := hc h0; exact ⟨ad, e, fun j x hj => k.cell (hx j x hj)⟩⟩

theorem SliceR.turned {v : Value} {d : List UInt8} (h : SliceR w v d) (ht : Turn (fun _ => False) w w') : SliceR w' v d := by
  obtain ⟨sp, cap, hv, hc⟩ := h
  exact ⟨sp, cap, hv, fun h0 => by obtain ⟨ad, e, hx⟩ := hc h0; exact ⟨ad, e, fun j x hj => turn_cell ht (hx j x hj)⟩⟩

theorem sameAt {da db : List UInt8} (hl : da.length = db.length) : da = db ↔ ∀ j (h1 : j < da.length) (h2 : j < db.length), da[j] = db[j] := by
  constructor
  · intro e; subst e; intros; rfl
  · intro h; exact List.ext_getElem hl h

theorem take_eq_snoc {da db : List UInt8} {k : Nat} (h1 : k < da.length) (h2 : k < db.length) (h : da.take k = db.take k) (e : da[k] = db[k]) : da.take (k + 1) = db.take (k + 1) := by
  rw [List.take_succ_eq_append_getElem h1, List.take_succ_eq_append_getElem h2, h, e]

set_option maxRecDepth 100000 in
set_option maxHeartbeats 1000000 in
theorem same_any {va vb : Value} {da db : List UInt8} (ha : SliceR w va da) (hb : SliceR w vb db) (hla : da.length ≤ maxLen) (hlb : db.length ≤ maxLen) :
    Calls Tryz.prog 17 #[va, vb] w fun r w' => r = .returned (.bool (decide (da = db))) ∧ Like w w' := by
  obtain ⟨sa, ca, rfl, hca⟩ := ha
  obtain ⟨sb, cb, rfl, hcb⟩ := hb
  unfold maxLen at hla hlb
  have HA := Lib.hid hca
  have HB := Lib.hid hcb
  clear hca hcb
  by_cases hl : da.length = db.length
  · have b1 : ((da.length : Int) != (db.length : Int)) = false := by rw [hl]; simp
    have HL := Lib.hid hl
    clear hl
    go_enter Tryz.func17, Tryz.ntmps17
    go_wp2_with fail
    go_loopw [5] (fun i wr => ∃ k : Nat, k ≤ da.length ∧ i = .int .i64 k ∧ da.take k = db.take k ∧ Like w wr) (fun i _ => da.length - (intOf i).toNat)
    case atStart => exact ⟨0, Nat.zero_le _, rfl, rfl, ⟨rfl, rfl, rfl, rfl⟩⟩
    case round =>
      obtain ⟨k, hk, rfl, htk, hlk⟩ := hrel
      have HK := Lib.hid htk
      have HW := Lib.hid hlk
      clear htk hlk
      by_cases hlt : k < da.length
      · have hlt2 : k < db.length := by have := HL.out; omega
        obtain ⟨aa, e1, x1⟩ := HA.out (by omega)
        obtain ⟨ab, e2, x2⟩ := HB.out (by omega)
        subst e1; subst e2
        have ca' := HW.out.cell (x1 k da[k] (List.getElem?_eq_getElem hlt))
        have cb' := HW.out.cell (x2 k db[k] (List.getElem?_eq_getElem hlt2))
        have i0 : (0 : Int) ≤ (k : Int) := by omega
        have i1 : (k : Int) < (da.length : Int) := by omega
        have i2 : (k : Int) < (db.length : Int) := by omega
        clear x1 x2
        by_cases he : da[k] = db[k]
        · have HE := Lib.hid he
          have b2 : (((da[k].toNat : Nat) : Int) != ((db[k].toNat : Nat) : Int)) = false := by rw [he]; simp
          clear he
          go_wp2_with fail
          go_quiet (fail)
          go_wp2
          go_roundw
          case rel => exact ⟨k + 1, by omega, by go_num, take_eq_snoc hlt hlt2 HK.out HE.out, HW.out.trans (like_drewN _ _)⟩
          case measure => simp [intOf]; omega
        · have b2 : (((da[k].toNat : Nat) : Int) != ((db[k].toNat : Nat) : Int)) = true := by
            rw [bne_iff_ne]; intro e; exact he (UInt8.toNat_inj.1 (by omega))
          have hd : decide (da = db) = false := by
            rw [decide_eq_false_iff_not]; intro e; exact he (by simp only [e])
          have HD := Lib.hid hd
          clear he hd
          go_wp2_with fail
          go_quiet (fail)
          go_wp2
          go_ret
          exact ⟨ret_bool HD.out.symm, HW.out.trans (like_drewN _ _)⟩
      · have hk0 : k = da.length := by omega
        subst hk0
        have hd : decide (da = db) = true := by
          rw [decide_eq_true_iff]
          have h1 := HK.out
          rw [List.take_length, HL.out, List.take_length] at h1
          exact h1
        have HD := Lib.hid hd
        clear hd
        go_wp2
        go_ret
        exact ⟨ret_bool HD.out.symm, HW.out⟩
  · have b1 : ((da.length : Int) != (db.length : Int)) = true := by rw [bne_iff_ne]; omega
    have hd : decide (da = db) = false := by
      rw [decide_eq_false_iff_not]; intro e; exact hl (by rw [e])
    rw [hd]
    clear hd hl
    go_enter Tryz.func17, Tryz.ntmps17
    go_wp2
    go_ret
    exact ⟨rfl, ⟨rfl, rfl, rfl, rfl⟩⟩

end
end Go.Proofs.YtinghngnehhgfaaGreatDoor

/-
  Lists of texts: read, compared (as in the texts of stage 1).
-/
namespace Go.Proofs.YtinghngnehhgfaaGreatDoor
open Go.RowKit Go.Maps Go.WideMaps Go.Sort

section
variable {w w' : World}

/-- a slice whose texts are these -/
def TextsR (w : World) (v : Value) (l : List (List UInt8)) : Prop :=
  ∃ sp cap, v = .slice sp l.length cap ∧ (0 < l.length → ∃ ad, sp = some ad ∧ ∀ j x, l[j]? = some x → w.cell? (ad.add j) = some (encStr x))

theorem TextsR.of_own {base : Nat} {v : Value} {l : List (List UInt8)} (h : w.ownsRow base 9 1 v l.length (l.map encStr)) : TextsR w v l := by
  rcases h.2 with ⟨hv, hn⟩ | ⟨g, cap, cur, hv, hg, hh, h1, h2, h3, h4⟩
  · exact ⟨none, 0, by rw [hv, hn], fun h0 => by omega⟩
  · refine ⟨some ⟨g, 0, none⟩, cap, hv, fun _ => ⟨_, rfl, fun j x hj => ?_⟩⟩
    have hown : w.ownsRow base 9 1 (.slice (some ⟨g, 0, none⟩) l.length cap) l.length (l.map encStr) := by rw [← hv]; exact h
    have hlt : j < l.length := (List.getElem?_eq_some_iff.1 hj).1
    have := hown.cellAt j (by omega)
    rw [add_head, this, List.getElem?_map, hj]; rfl

theorem TextsR.turned {v : Value} {l : List (List UInt8)} (h : TextsR w v l) (ht : Turn (fun _ => False) w w') : TextsR w' v l := by
  obtain ⟨sp, cap, hv, hc⟩ := h
  refine ⟨sp, cap, hv, fun h0 => ?_⟩
  obtain ⟨ad, e, hx⟩ := hc h0
  exact ⟨ad, e, fun j x hj => turn_cell ht (hx j x hj)⟩

set_option maxHeartbeats 1000000 in
/-- two lists of the same texts -/
theorem sameTexts_self {va vb : Value} {l : List (List UInt8)} (ha : TextsR w va l) (hb : TextsR w vb l) (hl : l.length ≤ maxLen) :
    Calls Tryz.prog 19 #[va, vb] w fun r w' => r = .returned (.bool true) ∧ Like w w' := by
  obtain ⟨sa, ca, rfl, hca⟩ := ha
  obtain ⟨sb, cb, rfl, hcb⟩ := hb
  unfold maxLen at hl
  have HA := Lib.hid hca
  have HB := Lib.hid hcb
  have b1 : ((l.length : Int) != (l.length : Int)) = false := by simp
  clear hca hcb
  go_enter Tryz.func19, Tryz.ntmps19
  go_wp2_with fail
  go_loopw [5] (fun i wr => ∃ k : Nat, k ≤ l.length ∧ i = .int .i64 k ∧ Like w wr) (fun i _ => l.length - (intOf i).toNat)
  case atStart => exact ⟨0, Nat.zero_le _, rfl, ⟨rfl, rfl, rfl, rfl⟩⟩
  case round =>
    obtain ⟨k, hk, rfl, hlk⟩ := hrel
    have HW := Lib.hid hlk
    clear hlk
    by_cases hlt : k < l.length
    · obtain ⟨aa, e1, x1⟩ := HA.out (by omega)
      obtain ⟨ab, e2, x2⟩ := HB.out (by omega)
      subst e1; subst e2
      have ca' := HW.out.cell (x1 k l[k] (List.getElem?_eq_getElem hlt))
      have cb' := HW.out.cell (x2 k l[k] (List.getElem?_eq_getElem hlt))
      have i0 : (0 : Int) ≤ (k : Int) := by omega
      have i1 : (k : Int) < (l.length : Int) := by omega
      clear x1 x2
      unfold encStr at ca' cb'
      go_wp2_with fail
      go_quiet (fail)
      go_wp2
      go_roundw
      case rel => exact ⟨k + 1, by omega, by go_num, HW.out.trans (like_drewN _ _)⟩
      case measure => simp [intOf]; omega
    · have hk0 : k = l.length := by omega
      subst hk0
      go_wp2
      go_ret
      exact ⟨rfl, HW.out⟩

end
end Go.Proofs.YtinghngnehhgfaaGreatDoor

/-
  Lists of bytes in memory: new ones; read ones.
-/
namespace Go.Proofs.YtinghngnehhgfaaGreatDoor
open Go.RowKit Go.Maps Go.WideMaps

section
variable {w w' : World} {p : Nat} {S S' : Fsp.Fs} {c c' : Bool} {Q : Nat → Prop} {mo : Option Nat} {pl : List UInt8 → Pl}

/-- v is a list of these, all of it in blocks from base on -/
def ListsO (w : World) (base : Nat) (v : Value) (l : List (List UInt8)) : Prop :=
  ∃ xs : List Value, w.ownsRow base 33 1 v l.length xs ∧ xs.length = l.length ∧ ∀ (j : Nat) (q : List UInt8), l[j]? = some q → ∃ u, xs[j]? = some u ∧ w.ownsRow base 5 1 u q.length (q.map byteV)

/-- v reads as a list of these -/
def ListsR (w : World) (v : Value) (l : List (List UInt8)) : Prop :=
  ∃ sp cap, v = .slice sp l.length cap ∧ (0 < l.length → ∃ ad, sp = some ad ∧ ∀ j q, l[j]? = some q → ∃ u, w.cell? (ad.add j) = some u ∧ SliceR w u q)

theorem own_block {base : Nat} {e : TypeId} {size n : Nat} {v : Value} {xs : List Value} (h : w.ownsRow base e size v n xs) {r : Nat} (hr : v.ownBlock = some r) : base ≤ r ∧ r < w.heap.size ∧ ∃ cur, w.heap[r]? = some (.cells cur e (0, 0)) := by
  rcases h.2 with ⟨rfl, _⟩ | ⟨g, cap, cur, rfl, hg, hh, _⟩
  · cases hr
  · simp [Value.ownBlock] at hr; subst hr
    exact ⟨hg, (Array.getElem?_eq_some_iff.1 hh).1, cur, hh⟩

theorem ListsO.nil (w : World) (base : Nat) : ListsO w base (.slice none 0 0) [] := ⟨[], World.ownsRow_nil _ _ _ _, rfl, fun j q h => by simp at h⟩

theorem ListsO.turned {base : Nat} {v : Value} {l : List (List UInt8)} (h : ListsO w base v l) (ht : Turn Q w w') (hq : ∀ b cs t fr, Q b → base ≤ b → w.heap[b]? ≠ some (.cells cs t fr)) : ListsO w' base v l := by
  obtain ⟨xs, h1, h2, h3⟩ := h
  refine ⟨xs, ownsRow_turned h1 ht (fun r hr q => ?_), h2, fun j q hj => ?_⟩
  · obtain ⟨hb, _, cur, hc⟩ := own_block h1 hr
    exact hq _ _ _ _ q hb hc
  · obtain ⟨u, e, ho⟩ := h3 j q hj
    refine ⟨u, e, ownsRow_turned ho ht (fun r hr q => ?_)⟩
    obtain ⟨hb, _, cur, hc⟩ := own_block ho hr
    exact hq _ _ _ _ q hb hc

theorem ListsO.new {base : Nat} {v : Value} {l : List (List UInt8)} (h : ListsO w base v l) (ht : Turn (fun _ => False) w w') : ListsO w' base v l := h.turned ht (fun _ _ _ _ q => q.elim)

theorem ListsO.mono {base base' : Nat} {v : Value} {l : List (List UInt8)} (h : ListsO w base v l) (hb : base' ≤ base) : ListsO w base' v l := by
  have key : ∀ {e : TypeId} {n : Nat} {u : Value} {xs : List Value}, w.ownsRow base e 1 u n xs → w.ownsRow base' e 1 u n xs := fun {e n u xs} k => by
    refine ⟨k.1, ?_⟩
    rcases k.2 with k | ⟨g, cap, cur, e1, hg, r⟩
    · exact Or.inl k
    · exact Or.inr ⟨g, cap, cur, e1, Nat.le_trans hb hg, r⟩
  obtain ⟨xs, h1, h2, h3⟩ := h
  exact ⟨xs, key h1, h2, fun j q hj => by obtain ⟨u, e, ho⟩ := h3 j q hj; exact ⟨u, e, key ho⟩⟩

theorem own_cell {base : Nat} {e : TypeId} {n : Nat} {v : Value} {xs : List Value} (h : w.ownsRow base e 1 v n xs) (hx : xs.length = n) : ∃ sp cap, v = .slice sp n cap ∧ (0 < n → ∃ ad, sp = some ad ∧ ∀ j x, xs[j]? = some x → w.cell? (ad.add j) = some x) := by
  rcases h.2 with ⟨rfl, rfl⟩ | ⟨g, cap, cur, rfl, hg, hh, _⟩
  · exact ⟨none, 0, rfl, fun h0 => by omega⟩
  · refine ⟨_, cap, rfl, fun _ => ⟨_, rfl, fun j x hj => ?_⟩⟩
    have hlt : j < xs.length := (List.getElem?_eq_some_iff.1 hj).1
    rw [add_head, h.cellAt j (by omega), hj]

theorem ListsO.toR {base : Nat} {v : Value} {l : List (List UInt8)} (h : ListsO w base v l) : ListsR w v l := by
  obtain ⟨xs, h1, h2, h3⟩ := h
  obtain ⟨sp, cap, hv, hc⟩ := own_cell h1 h2
  refine ⟨sp, cap, hv, fun h0 => ?_⟩
  obtain ⟨ad, e, hx⟩ := hc h0
  refine ⟨ad, e, fun j q hj => ?_⟩
  obtain ⟨u, hu, ho⟩ := h3 j q hj
  exact ⟨u, hx j u hu, SliceR.of_own ho⟩

theorem ListsR.turned {v : Value} {l : List (List UInt8)} (h : ListsR w v l) (ht : Turn (fun _ => False) w w') : ListsR w' v l := by
  obtain ⟨sp, cap, hv, hc⟩ := h
  refine ⟨sp, cap, hv, fun h0 => ?_⟩
  obtain ⟨ad, e, hx⟩ := hc h0
  refine ⟨ad, e, fun j q hj => ?_⟩
  obtain ⟨u, hu, ho⟩ := hx j q hj
  exact ⟨u, turn_cell ht hu, ho.turned ht⟩

theorem ListsR.like {v : Value} {l : List (List UInt8)} (h : ListsR w v l) (k : Like w w') : ListsR w' v l := h.turned k.turn

/-- one more behind the others -/
theorem lists_snoc {base : Nat} {v' : Value} {l : List (List UInt8)} {q : List UInt8} {u : Value} {xs : List Value} (h1 : w.ownsRow base 33 1 v' (l.length + 1) (xs ++ [u])) (h2 : xs.length = l.length)
    (h3 : ∀ (j : Nat) (q : List UInt8), l[j]? = some q → ∃ u, xs[j]? = some u ∧ w.ownsRow base 5 1 u q.length (q.map byteV)) (hu : w.ownsRow base 5 1 u q.length (q.map byteV)) : ListsO w base v' (l ++ [q]) := by
  refine ⟨xs ++ [u], by simpa using h1, by simp [h2], fun j x hj => ?_⟩
  by_cases hlt : j < l.length
  · rw [List.getElem?_append_left hlt] at hj
    obtain ⟨y, e, ho⟩ := h3 j x hj
    exact ⟨y, by rw [List.getElem?_append_left (by omega)]; exact e, ho⟩
  · have hj0 : j = l.length := by
      have := (List.getElem?_eq_some_iff.1 hj).1
      simp at this; omega
    subst hj0
    rw [List.getElem?_append_right (Nat.le_refl _), Nat.sub_self] at hj
    cases hj
    refine ⟨u, ?_, hu⟩
    rw [← h2, List.getElem?_append_right (Nat.le_refl _), Nat.sub_self]; rfl

/-- a turn of a block that is no cells leaves them -/
theorem lists_own (base B : Nat) (W W' : World) (row : Option Nat) (v : Value) (l : List (List UInt8)) (h : ListsO W base v l) (hg : W.grownBy W' row) (hr : ∀ r, row = some r → B ≤ r ∧ ∃ o : Obj, W.heap[r]? = some o ∧ o.isCells = false) : ListsO W' base v l := by
  have ht : Turn (fun b => row = some b) W W' := (Turn.refl _ W).grown hg (fun k e => Or.inl e)
  refine h.turned ht (fun b cs t fr q _ hc => ?_)
  obtain ⟨_, o, ho, hn⟩ := hr b q
  rw [hc] at ho; cases ho; cases hn

end
end Go.Proofs.YtinghngnehhgfaaGreatDoor

/-
  Two lists of records compared (exref's SameLists).
-/
namespace Go.Proofs.YtinghngnehhgfaaGreatDoor
open Go.RowKit Go.Maps Go.WideMaps

section
variable {w w' : World}

theorem take_more {l m : List (List UInt8)} {k : Nat} (h1 : k < l.length) (h2 : k < m.length) (h : l.take k = m.take k) : (l.take (k + 1) = m.take (k + 1)) ↔ l[k] = m[k] := by
  rw [List.take_succ_eq_append_getElem h1, List.take_succ_eq_append_getElem h2, h]
  constructor
  · intro e
    exact (List.cons.inj (List.append_cancel_left e)).1
  · intro e; rw [e]



end
end Go.Proofs.YtinghngnehhgfaaGreatDoor
