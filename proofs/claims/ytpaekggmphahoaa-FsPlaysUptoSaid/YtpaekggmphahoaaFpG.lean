/-
  PARTS: Texts, Trunc, Names, Alike, Half.
-/
import Derived.Test.YtpaekggmphahoaaFpF
import Derived.Test.YtpaekggmphahoaaFpA
import Derived.Deep.QuietTactic
import Derived.BigQuiet
import Derived.IntWalk
/-
  Lists of texts: read, compared; fronts.
-/
namespace Go.Proofs.Ytpaekggmphahoaa
open Go.RowKit Go.Maps Go.WideMaps Go.Sort

section
variable {w w' : World}

/-- a slice whose texts are these -/
def TextsR (w : World) (v : Value) (l : List (List UInt8)) : Prop :=
  ∃ sp cap, v = .slice sp l.length cap ∧ (0 < l.length → ∃ ad, sp = some ad ∧ ∀ j x, l[j]? = some x → w.cell? (ad.add j) = some (encStr x))

theorem TextsR.of_own {base : Nat} {v : Value} {l : List (List UInt8)} (h : w.ownsRow base 9 1 v l.length (l.map encStr)) : TextsR w v l := by
  rcases h.2 with ⟨hv, hn⟩ | ⟨g, cap, cur, hv, hg, hh, h1, h2, h3, h4⟩
  · exact ⟨none, 0, by rw [hv, hn], fun h0 => by omega⟩
  · refine ⟨some ⟨g, 0, none⟩, cap, hv, fun _ => ⟨_, rfl, fun j x hj => ?_⟩⟩
    have hown : w.ownsRow base 9 1 (.slice (some ⟨g, 0, none⟩) l.length cap) l.length (l.map encStr) := by rw [← hv]; exact h
    have hlt : j < l.length := (List.getElem?_eq_some_iff.1 hj).1
    have := hown.cellAt j (by omega)
    rw [add_head, this, List.getElem?_map, hj]; rfl

theorem TextsR.turned {v : Value} {l : List (List UInt8)} (h : TextsR w v l) (ht : Turn (fun _ => False) w w') : TextsR w' v l := by
  obtain ⟨sp, cap, hv, hc⟩ := h
  refine ⟨sp, cap, hv, fun h0 => ?_⟩
  obtain ⟨ad, e, hx⟩ := hc h0
  exact ⟨ad, e, fun j x hj => turn_cell ht (hx j x hj)⟩

set_option maxHeartbeats 1000000 in
/-- two lists of the same texts -/
theorem sameTexts_self {va vb : Value} {l : List (List UInt8)} (ha : TextsR w va l) (hb : TextsR w vb l) (hl : l.length ≤ maxLen) :
    Calls Try.prog 14 #[va, vb] w fun r w' => r = .returned (.bool true) ∧ Like w w' := by
  obtain ⟨sa, ca, rfl, hca⟩ := ha
  obtain ⟨sb, cb, rfl, hcb⟩ := hb
  unfold maxLen at hl
  have HA := Lib.hid hca
  have HB := Lib.hid hcb
  have b1 : ((l.length : Int) != (l.length : Int)) = false := by simp
  clear hca hcb
  go_enter Try.func14, Try.ntmps14
  go_wp2_with fail
  go_loopw [5] (fun i wr => ∃ k : Nat, k ≤ l.length ∧ i = .int .i64 k ∧ Like w wr) (fun i _ => l.length - (intOf i).toNat)
  case atStart => exact ⟨0, Nat.zero_le _, rfl, ⟨rfl, rfl, rfl, rfl⟩⟩
  case round =>
    obtain ⟨k, hk, rfl, hlk⟩ := hrel
    have HW := Lib.hid hlk
    clear hlk
    by_cases hlt : k < l.length
    · obtain ⟨aa, e1, x1⟩ := HA.out (by omega)
      obtain ⟨ab, e2, x2⟩ := HB.out (by omega)
      subst e1; subst e2
      have ca' := HW.out.cell (x1 k l[k] (List.getElem?_eq_getElem hlt))
      have cb' := HW.out.cell (x2 k l[k] (List.getElem?_eq_getElem hlt))
      have i0 : (0 : Int) ≤ (k : Int) := by omega
      have i1 : (k : Int) < (l.length : Int) := by omega
      clear x1 x2
      unfold encStr at ca' cb'
      go_wp2_with fail
      go_quiet (fail)
      go_wp2
      go_roundw
      case rel => exact ⟨k + 1, by omega, by go_num, HW.out.trans (like_drewN _ _)⟩
      case measure => simp [intOf]; omega
    · have hk0 : k = l.length := by omega
      subst hk0
      go_wp2
      go_ret
      exact ⟨rfl, HW.out⟩

theorem front_is (s t : ByteArray) : ((s.extract 0 t.size).toList == t.toList) = t.data.toList.isPrefixOf s.data.toList := by
  rw [Lib.toList_data, Lib.toList_data, Lib.extract_data, Bool.eq_iff_iff, beq_iff_eq, List.isPrefixOf_iff_prefix, List.prefix_iff_eq_take, ← Lib.size_eq]
  simp only [List.drop_zero, Nat.sub_zero]
  exact eq_comm

set_option maxHeartbeats 1000000 in
theorem begins_any (s t : ByteArray) (w : World) : Calls Try.prog 13 #[.string s, .string t] w fun r w' => r = .returned (.bool (t.data.toList.isPrefixOf s.data.toList)) ∧ w = w' := by
  obtain ⟨b, hb⟩ : ∃ b, b = t.data.toList.isPrefixOf s.data.toList := ⟨_, rfl⟩
  rw [← hb]
  by_cases h : t.size ≤ s.size
  · have i0 : (t.size : Int) ≤ (s.size : Int) := by omega
    rw [← front_is] at hb
    have HB := Lib.hid hb
    clear hb
    go_enter Try.func13, Try.ntmps13
    go_wp2
    go_ret
    exact ⟨ret_bool HB.out.symm, rfl⟩
  · have i0 : ¬ (t.size : Int) ≤ (s.size : Int) := by omega
    have hb2 : b = false := by
      rw [hb, ← Bool.not_eq_true, List.isPrefixOf_iff_prefix]
      intro hp
      have := hp.length_le
      rw [← Lib.size_eq, ← Lib.size_eq] at this
      omega
    have HB := Lib.hid hb2
    clear hb hb2
    go_enter Try.func13, Try.ntmps13
    go_wp2
    go_ret
    exact ⟨ret_bool HB.out.symm, rfl⟩

end
end Go.Proofs.Ytpaekggmphahoaa

/-
  FsTruncates: the walk.
-/
namespace Go.Proofs.Ytpaekggmphahoaa
open Go.RowKit Go.Maps Go.WideMaps

section
variable {w w' : World} {p : Nat} {S S' : Fsp.Fs} {c c' : Bool} {Q : Nat → Prop} {mo : Option Nat} {pl : List UInt8 → Pl}

theorem Since.look {w2 : World} (h : Since w p S w') (ht : Turn (fun _ => False) w' w2) : Since w p S w2 := by
  obtain ⟨⟨mo, pl, hr⟩, ht0⟩ := h
  exact ⟨⟨mo, pl, (hr.turned ht (fun _ _ q => q)).mono (fun i hi => ⟨hi.1, Nat.lt_of_lt_of_le hi.2 ht.size⟩) (fun i hi => hi.2)⟩, ht0.trans ht (fun _ _ q => q)⟩

theorem SliceR.turnQ {v : Value} {d : List UInt8} (h : SliceR w v d) (ht : Turn Q w w') (hq : OutOf Q v) : SliceR w' v d := by
  obtain ⟨sp, cap, hv, hc⟩ := h
  refine ⟨sp, cap, hv, fun h0 => ?_⟩
  obtain ⟨ad, e, hx⟩ := hc h0
  refine ⟨ad, e, fun j x hj => ?_⟩
  have hb := hx j x hj
  exact (World.cell?_of_block (ht.block _ (World.block_lt_of_cell? w _ hb) (by rw [add_block]; exact hq ad _ _ (by rw [hv, e]) h0))).trans hb

theorem SliceR.take {g n cap k : Nat} {d : List UInt8} (h : SliceR w (.slice (some ⟨g, 0, none⟩) n cap) d) (hk : k ≤ d.length) : SliceR w (.slice (some ⟨g, 0, none⟩) k cap) (d.take k) := by
  obtain ⟨sp, cap', hv, hc⟩ := h
  simp only [Value.slice.injEq] at hv
  obtain ⟨rfl, rfl, rfl⟩ := hv
  refine ⟨_, _, by rw [List.length_take, Nat.min_eq_left hk], fun h0 => ?_⟩
  rw [List.length_take] at h0
  obtain ⟨ad, e, hx⟩ := hc (by omega)
  refine ⟨ad, e, fun j x hj => hx j x ?_⟩
  rw [List.getElem?_take] at hj
  split at hj
  · exact hj
  · cases hj

theorem Like.turn (h : Like w w') : Turn (fun _ => False) w w' := Turn.like (Turn.refl _ w) h

/-- a crash by a number in a box that lies further down -/
theorem Since.crashBox {kv : Value} {bx : Nat} {X : Obj} {kf : List UInt8 → Nat → Int} (h : Since w p S w') (hK : Keeper kv (fun w _ => w.heap[bx]? = some X) kf (fun b => b = bx)) (hX : w'.heap[bx]? = some X) (hb : bx < w.heap.size) :
    Calls Try.prog 10 #[.pointer (some ⟨p, 0, none⟩), kv] w' fun r w2 => r = .returned (.tuple #[]) ∧ Since w p (Fsp.crash S kf) w2 ∧ w2.heap[bx]? = some X := by
  have h0 := h
  obtain ⟨⟨mo, pl, hr⟩, ht0⟩ := h
  refine (crash_any hK (l := []) hX (fun b e q => by omega) hr).mono ?_
  rintro r w2 ⟨rfl, h1, h2, h3⟩
  refine ⟨rfl, Since.post h0 ⟨h1, ⟨h3.os, h3.tape, h3.output, h3.size, fun i hi hn => ?_⟩⟩, h2⟩
  by_cases e : i = bx
  · rw [e, h2, hX]
  · exact h3.block i hi (fun q => q.elim hn e)



theorem keeper_box {g : Nat} (bx : Nat) (k : Int) (hent : ∀ args w, (callFunc g args).run Try.prog w = .ok (.enter g args) w)
    (hcall : ∀ (s : ByteArray) (n : Int) (w : World), w.heap[bx]? = some (.cells #[.int .i64 k] 3 (0, 0)) → Calls Try.prog g #[.string s, .int .i64 n, .pointer (some ⟨bx, 0, none⟩)] w fun r w' => r = .returned (.int .i64 k) ∧ w = w') :
    Keeper (.func (.func g) #[] #[.pointer (some ⟨bx, 0, none⟩)]) (fun w _ => w.heap[bx]? = some (.cells #[.int .i64 k] 3 (0, 0))) (fun _ _ => k) (fun b => b = bx) :=
  keeper_some hent (fun Q w w' _ hI ht hd => (ht.block bx (Array.getElem?_eq_some_iff.1 hI).1 (hd bx rfl)).trans hI) (fun w _ hI b e => by rw [e]; exact (Array.getElem?_eq_some_iff.1 hI).1)
    (fun s n w l hI _ _ => (hcall s n w hI).mono fun r w' ⟨h1, h2⟩ => by subst h2; exact ⟨h1, hI, Turn.refl _ _⟩)



end
end Go.Proofs.Ytpaekggmphahoaa

/-
  FsNames: the walk.
-/
namespace Go.Proofs.Ytpaekggmphahoaa
open Go.RowKit Go.Maps Go.WideMaps Go.Sort

namespace Fsp
theorem used_take {L : List (List UInt8 × File)} {k : Nat} {x : List UInt8 × File} (h : L[k]? = some x) : usedOf (L.take (k + 1)) = usedOf (L.take k) + x.2.data.length := by
  induction L generalizing k with
  | nil => simp at h
  | cons y r ih =>
    cases k with
    | zero => simp at h; subst h; simp [usedOf]
    | succ j =>
      simp only [List.getElem?_cons_succ] at h
      simp only [List.take_succ_cons, usedOf, ih h]
      omega
theorem used_take_le (L : List (List UInt8 × File)) (k : Nat) : usedOf (L.take k) ≤ usedOf L := by
  induction L generalizing k with
  | nil => simp [usedOf]
  | cons y r ih =>
    cases k with
    | zero => simp [usedOf]
    | succ j => simp only [List.take_succ_cons, usedOf]; have := ih j; omega
theorem names_take_len (L : List (List UInt8 × File)) (f : List UInt8) (k : Nat) : (((L.map (·.1)).take k).filter fun n => f.isPrefixOf n).length ≤ L.length := by
  have h1 := List.length_filter_le (fun n => f.isPrefixOf n) ((L.map (·.1)).take k)
  simp at h1 ⊢
  omega
end Fsp

theorem less_of : ∀ {x y : List UInt8}, x < y → Op.bytesLess x y = true
  | _, [], h => absurd h (List.not_lt_nil _)
  | [], _ :: _, _ => by simp [Op.bytesLess]
  | a :: x, b :: y, h => by
    rw [List.cons_lt_cons_iff] at h
    rcases h with h | ⟨rfl, h⟩
    · simp [Op.bytesLess, h]
    · simp [Op.bytesLess, less_of h]

theorem sorted_less {L : List (List UInt8 × Fsp.File)} (hs : Fsp.Sorted L) {j k : Nat} {x y : List UInt8 × Fsp.File} (hj : L[j]? = some y) (hk : L[k]? = some x) (h : j < k) : Op.bytesLess y.1 x.1 = true := by
  obtain ⟨h1, e1⟩ := List.getElem?_eq_some_iff.1 hj
  obtain ⟨h2, e2⟩ := List.getElem?_eq_some_iff.1 hk
  have := List.pairwise_iff_getElem.1 hs j k h1 h2 h
  rw [e1, e2] at this
  exact less_of this

theorem take_filter {N : List (List UInt8)} {k : Nat} {x : List UInt8} (h : N[k]? = some x) (f : List UInt8 → Bool) : (N.take (k + 1)).filter f = (N.take k).filter f ++ (if f x then [x] else []) := by
  rw [List.take_add_one, h, List.filter_append]
  congr 1
  simp [List.filter_cons]

section
variable {w w' : World} {p : Nat} {S S' : Fsp.Fs} {c c' : Bool} {Q : Nat → Prop} {mo : Option Nat} {pl : List UInt8 → Pl}

theorem begins_is (x : List UInt8) (s : ByteArray) (b : Bool) (hb : s.data.toList.isPrefixOf x = b) (w : World) : Calls Try.prog 13 #[.string ⟨x.toArray⟩, .string s] w fun r w' => r = .returned (.bool b) ∧ w = w' := by
  have h := begins_any ⟨x.toArray⟩ s w
  have e : (⟨x.toArray⟩ : ByteArray).data.toList = x := rfl
  rw [e, hb] at h
  exact h

theorem size_is (h : RepX w p S c Q mo pl) (x : List UInt8) {f : Fsp.File} (hf : Fsp.find S.L x = some f) :
    Calls Try.prog 41 #[.pointer (some ⟨p, 0, none⟩), .string ⟨x.toArray⟩] w fun r w' => r = .returned (.tuple #[.int .i64 (f.data.length : Nat), .int .i64 0]) ∧ w = w' := by
  have hv := Fsp.valid_len (h.good.2.2.2.2.2 x f hf).1
  exact size_some h ⟨x.toArray⟩ (by rw [Lib.size_eq]; show x.length ≤ maxLen; unfold maxLen; omega) hf

theorem valid_is (h : RepX w p S c Q mo pl) (x : List UInt8) {f : Fsp.File} (hf : Fsp.find S.L x = some f) (w : World) :
    Calls Try.prog 23 #[.string ⟨x.toArray⟩] w fun r w' => r = .returned (.bool true) ∧ w = w' := by
  have hv := (h.good.2.2.2.2.2 x f hf).1
  have hl := Fsp.valid_len hv
  have := valid_any ⟨x.toArray⟩ (by rw [Lib.size_eq]; show x.length ≤ maxLen; unfold maxLen; omega) w
  have e : (⟨x.toArray⟩ : ByteArray).data.toList = x := rfl
  rw [e, hv] at this
  exact this



end
end Go.Proofs.Ytpaekggmphahoaa

/-
  alike: two file systems of the same files.
-/
namespace Go.Proofs.Ytpaekggmphahoaa
open Go.RowKit Go.Maps Go.WideMaps Go.Sort

section
variable {w w' : World} {p p2 : Nat} {S S2 : Fsp.Fs} {c c2 : Bool} {Q Q2 : Nat → Prop} {mo mo2 : Option Nat} {pl pl2 : List UInt8 → Pl}

theorem empty_list : (⟨#[]⟩ : ByteArray).data.toList = [] := rfl

theorem read_is (h : RepX w p S c Q mo pl) (x : List UInt8) {f : Fsp.File} (hf : Fsp.find S.L x = some f) :
    Calls Try.prog 19 #[.pointer (some ⟨p, 0, none⟩), .string ⟨x.toArray⟩] w fun r w' => ∃ v, r = .returned (.tuple #[v, .int .i64 0]) ∧ SliceR w' v f.data ∧ Turn (fun _ => False) w w' := by
  have hv := Fsp.valid_len (h.good.2.2.2.2.2 x f hf).1
  refine (read_some h ⟨x.toArray⟩ (by rw [Lib.size_eq]; show x.length ≤ maxLen; unfold maxLen; omega) hf).mono ?_
  rintro r w' ⟨g, rfl, hown, ht⟩
  exact ⟨_, rfl, SliceR.of_own hown, ht⟩



end
end Go.Proofs.Ytpaekggmphahoaa

/-
  A copy that grows.
-/
namespace Go.Proofs.Ytpaekggmphahoaa
open Go.RowKit Go.Maps Go.WideMaps Go.Sort

section
variable {w w' : World} {q mb : Nat} {S : Fsp.Fs} {P P' : List UInt8 → Bool} {Q Q' : Nat → Prop} {pl : List UInt8 → Pl}

/-- the head's third cell as it would be -/
def fix (w : World) (q k : Nat) : World := w.setCell ⟨q, 2, none⟩ (.int .i64 (k : Int))

theorem fix_size (w : World) (q k : Nat) : (fix w q k).heap.size = w.heap.size := by simp [fix, World.setCell]
theorem fix_other {k i : Nat} (h : i ≠ q) : (fix w q k).heap[i]? = w.heap[i]? := heap_setCell_other h _
theorem fix_turn (w : World) (q k : Nat) : Turn (fun b => b = q) w (fix w q k) := turnP w q 2 _
theorem fix_back (w : World) (q k : Nat) : Turn (fun b => b = q) (fix w q k) w :=
  ⟨(fix_turn w q k).os.symm, (fix_turn w q k).tape.symm, (fix_turn w q k).output.symm, by rw [fix_size]; exact Nat.le_refl _, fun _ _ hn => (fix_other hn).symm⟩

theorem fix_both {k k' : Nat} (h : Turn Q w w') (hq : ∀ i, i ≠ q → Q i → Q' i) (hh : Q' q ∨ (fix w' q k').heap[q]? = (fix w q k).heap[q]?) : Turn Q' (fix w q k) (fix w' q k') := by
  refine ⟨(fix_turn w' q k').os.trans (h.os.trans (fix_turn w q k).os.symm), (fix_turn w' q k').tape.trans (h.tape.trans (fix_turn w q k).tape.symm), (fix_turn w' q k').output.trans (h.output.trans (fix_turn w q k).output.symm), by rw [fix_size, fix_size]; exact h.size, fun i hi hn => ?_⟩
  rw [fix_size] at hi
  by_cases e : i = q
  · subst e
    rcases hh with hh | hh
    · exact absurd hh hn
    · exact hh
  · rw [fix_other e, fix_other e]
    exact h.block i hi (fun hqi => hn (hq i e hqi))

structure Half (w : World) (q mb : Nat) (S : Fsp.Fs) (P : List UInt8 → Bool) (Q : Nat → Prop) (pl : List UInt8 → Pl) : Prop where
  head : w.heap[q]? = some (headOf S false (some mb))
  rep : RepX (fix w q (Fsp.usedOf (Fsp.only S.L P))) q { S with L := Fsp.only S.L P } false Q (some mb) pl

theorem Half.turned (h : Half w q mb S P Q pl) (ht : Turn Q' w w') (hq : ∀ b, Q b → ¬ Q' b) : Half w' q mb S P Q pl := by
  have hqq : w'.heap[q]? = w.heap[q]? := ht.block q (by have := h.rep.lt q h.rep.inP; rw [fix_size] at this; exact this) (hq q h.rep.inP)
  refine ⟨hqq.trans h.head, h.rep.turned (fix_both ht (fun _ _ x => x) (Or.inr ?_)) hq⟩
  unfold fix
  rw [heap_setCell_same h.head, heap_setCell_same (hqq.trans h.head)]

theorem Half.mono (h : Half w q mb S P Q pl) (hq : ∀ b, Q b → Q' b) (hl : ∀ b, Q' b → b < w.heap.size) : Half w q mb S P Q' pl :=
  ⟨h.head, h.rep.mono hq (fun b hb => by rw [fix_size]; exact hl b hb)⟩

theorem Half.map (h : Half w q mb S P Q pl) : ∃ D, w.ownsMap Try.prog 9 ptrElem mb (Fsp.only S.L P).length D ∧ Agree D (Fsp.only S.L P) pl := by
  obtain ⟨D, h1, h2⟩ := h.rep.map
  exact ⟨D, ownsMap_turned h1 (fix_back w q _) (fun e => h.rep.p_ne_mb rfl e.symm), h2⟩

theorem Half.add (h : Half w q mb S P Q pl) (hs : Fsp.Good S) {n : List UInt8} {f : Fsp.File} (hf : Fsp.find S.L n = some f) (hn : P n = false) (hn' : P' n = true) (hP : ∀ m, m ≠ n → P' m = P m)
    {D : DataW Unit} {k k' fb : Nat} {sv : Value} (hown : w.ownsMap Try.prog 9 ptrElem mb k D) (hag : Agree D (Fsp.only S.L P) pl) (ht : Turn (fun b => b = mb) w w') (hown' : w'.ownsMap Try.prog 9 ptrElem mb k' (D.put (.string n) (fbLit fb)))
    (hfile : FileAt w' fb sv f) (hfb : w.heap.size ≤ fb) (hnew : ∀ r, sv.ownBlock = some r → w.heap.size ≤ r) : Half w' q mb S P' (Grow Q w w') (setPl pl n ⟨fb, sv⟩) := by
  have hql : q < w.heap.size := by have := h.rep.lt q h.rep.inP; rw [fix_size] at this; exact this
  have hqm : q ≠ mb := h.rep.p_ne_mb rfl
  have hqq : w'.heap[q]? = w.heap[q]? := ht.block q hql hqm
  have hput := Fsp.only_put hs.1 hf hn hn' hP
  refine ⟨hqq.trans h.head, ?_⟩
  have := h.rep.addFile (S' := { S with L := Fsp.only S.L P' }) (c' := false) (n := n) (f' := f) (sv' := sv) (fb := fb) (mb := mb) (k := k') (w' := fix w' q (Fsp.usedOf (Fsp.only S.L P'))) (D := D.put (.string n) (fbLit fb))
    (by show Fsp.find (Fsp.only S.L P) n = none; rw [Fsp.only_find, hn]; rfl)
    (fix_both ht (fun i _ e => Or.inr (by rw [e])) (Or.inl (Or.inl rfl)))
    (by unfold fix; rw [heap_setCell_same (hqq.trans h.head)]; rfl) hput.symm (Fsp.good_only hs P') (Or.inl rfl)
    (ownsMap_turned hown' (fix_turn w' q _) (fun e => hqm e.symm)) (hag.put (Fsp.only_sorted hs.1 P) (hown.tidy lawS) n f ⟨fb, sv⟩)
    (hfile.turned (fix_turn w' q _) (fun e => by omega) (fun r hr e => by have := hnew r hr; omega)) (by rw [fix_size]; exact hfb) (fun r hr => by rw [fix_size]; exact hnew r hr)
  refine this.mono (fun b hb => ?_) (fun b hb => ?_)
  · rcases hb with hb | hb
    · exact Or.inl hb
    · rw [fix_size, fix_size] at hb; exact Or.inr hb
  · rw [fix_size]
    rcases hb with hb | hb
    · have := h.rep.lt b hb; rw [fix_size] at this; exact Nat.lt_of_lt_of_le this ht.size
    · exact hb.2

theorem Half.done (h : Half w q mb S P Q pl) (hs : Fsp.Good S) (hall : Fsp.only S.L P = S.L) : RepX w q S false Q (some mb) pl :=
  h.rep.setHead (fix_back w q _) h.head hall.symm hs

theorem Half.start (hs : Fsp.Good S) (hh : w.heap[q]? = some (headOf S false (some mb))) (hm : w.ownsMap Try.prog 9 ptrElem mb 0 (.map [])) (hne : q ≠ mb) (pl : List UInt8 → Pl) : Half w q mb S (fun _ => false) (fun b => b = q ∨ b = mb) pl := by
  have nofile : ∀ n, ¬ (Fsp.find (Fsp.only S.L fun _ => false) n).isSome := fun n hn => by rw [Fsp.only_none] at hn; simp [Fsp.find] at hn
  have hql : q < w.heap.size := (Array.getElem?_eq_some_iff.1 hh).1
  have hml := hm.lt
  refine ⟨hh, { good := Fsp.good_only hs _, head := ?_, map := ?_, file := fun n f hf => absurd (by rw [hf]; rfl) (nofile n), apartF := fun n _ hn => absurd hn (nofile n), apartR := fun n _ hn => absurd hn (nofile n), inP := Or.inl rfl, inM := fun m e => by cases e; exact Or.inr rfl, inF := fun n hn => absurd hn (nofile n), inR := fun n hn => absurd hn (nofile n), lt := ?_ }⟩
  · unfold fix; rw [heap_setCell_same hh]; rfl
  · refine ⟨.map [], ?_, ⟨fun n => ?_, fun n f hf => absurd (by rw [hf]; rfl) (nofile n), ?_⟩⟩
    · have := ownsMap_turned hm (fix_turn w q (Fsp.usedOf (Fsp.only S.L fun _ => false))) (fun e => hne e.symm)
      rw [show ({ S with L := Fsp.only S.L fun _ => false } : Fsp.Fs).L.length = 0 from by show (Fsp.only S.L fun _ => false).length = 0; rw [Fsp.only_none]; rfl]
      exact this
    · show _ = (Fsp.find (Fsp.only S.L fun _ => false) n).isSome
      rw [Fsp.only_none]; rfl
    · show _ = (Fsp.only S.L fun _ => false).length
      rw [Fsp.only_none]; rfl
  · intro b hb
    rw [fix_size]
    rcases hb with rfl | rfl
    · exact hql
    · exact hml

end
end Go.Proofs.Ytpaekggmphahoaa
