/-
  WALKS: find by what is there; copied.
-/
import Derived.Test.YtjjajnfkngfpjaaGreatDoorShelf
import Derived.Laws.CopyOwn
namespace Go.Proofs.YtjjajnfkngfpjaaGreatDoor
open Go.RowKit Go.Maps Go.WideMaps

/-- find, by the list -/
theorem find_none {w : World} {p : Nat} {S : Fsp.Fs} {c : Bool} {Q : Nat → Prop} {mo : Option Nat} {pl : List UInt8 → Pl} (h : RepX w p S c Q mo pl) (s : ByteArray) (hs : s.size ≤ maxLen) (hf : Fsp.find S.L s.data.toList = none) :
    Calls Tryz.prog 66 #[.pointer (some ⟨p, 0, none⟩), .string s] w fun r w' => r = .returned (.pointer none) ∧ w = w' := by
  cases mo with
  | none => exact find_walk_nil h.cells s hs
  | some mb =>
    obtain ⟨D, hown, hag⟩ := h.map
    refine (find_walk h.cells hown s hs).mono ?_
    rintro r w' ⟨⟨v, ps, rfl, hv⟩, rfl⟩
    have hno : Maps.has D (.string s.data.toList) = false := by rw [hag.has, hf]; rfl
    rw [atKey_of_not_has hno] at hv
    rw [ptrElem_inv_nil hv]
    exact ⟨rfl, rfl⟩

theorem find_some {w : World} {p : Nat} {S : Fsp.Fs} {c : Bool} {Q : Nat → Prop} {mo : Option Nat} {pl : List UInt8 → Pl} (h : RepX w p S c Q mo pl) (s : ByteArray) (hs : s.size ≤ maxLen) {f : Fsp.File} (hf : Fsp.find S.L s.data.toList = some f) :
    Calls Tryz.prog 66 #[.pointer (some ⟨p, 0, none⟩), .string s] w fun r w' => r = .returned (.pointer (some ⟨(pl s.data.toList).fb, 0, none⟩)) ∧ w = w' := by
  cases mo with
  | none =>
    have : S.L = [] := h.map
    rw [this] at hf; simp [Fsp.find] at hf
  | some mb =>
    obtain ⟨D, hown, hag⟩ := h.map
    refine (find_walk h.cells hown s hs).mono ?_
    rintro r w' ⟨⟨v, ps, rfl, hv⟩, rfl⟩
    rw [hag.at_ _ _ hf] at hv
    rw [ptrElem_inv hv]
    exact ⟨rfl, rfl⟩

/-- a slice of bytes that reads as data -/
def SliceR (w : World) (v : Value) (data : List UInt8) : Prop :=
  ∃ sp cap, v = .slice sp data.length cap ∧ (0 < data.length → ∃ ad, sp = some ad ∧ ∀ j x, data[j]? = some x → w.cell? (ad.add j) = some (byteV x))

theorem add_head (g j : Nat) : (⟨g, 0, none⟩ : Addr).add j = ⟨g, j, none⟩ := by
  unfold Addr.add; split <;> simp_all

theorem SliceR.of_own {w : World} {base : Nat} {v : Value} {data : List UInt8} (h : w.ownsRow base 5 1 v data.length (data.map byteV)) : SliceR w v data := by
  rcases h.2 with ⟨hv, hn⟩ | ⟨g, cap, cur, hv, hg, hh, h1, h2, h3, h4⟩
  · exact ⟨none, 0, by rw [hv, hn], fun h0 => by omega⟩
  · refine ⟨some ⟨g, 0, none⟩, cap, hv, fun _ => ⟨_, rfl, fun j x hj => ?_⟩⟩
    have hown : w.ownsRow base 5 1 (.slice (some ⟨g, 0, none⟩) data.length cap) data.length (data.map byteV) := by rw [← hv]; exact h
    have hlt : j < data.length := (List.getElem?_eq_some_iff.1 hj).1
    have := hown.cellAt j (by omega)
    rw [add_head, this, List.getElem?_map, hj]; rfl

theorem Tryz.infoU8 : (Tryz.prog.info? 5).map (fun i => (i.zero, i.size, i.bytes)) = some (some (.int .u8 0), 1, 1) := by kernel_rfl

set_option maxHeartbeats 400000 in
theorem copied_any {w : World} {v : Value} {data : List UInt8} (h : SliceR w v data) (hl : data.length ≤ 281474976710656) :
    Calls Tryz.prog 67 #[v] w fun r w' => ∃ g, r = .returned (.slice (some ⟨g, 0, none⟩) data.length data.length) ∧ w'.ownsRow w.heap.size 5 1 (.slice (some ⟨g, 0, none⟩) data.length data.length) data.length (data.map byteV) ∧ Turn (fun _ => False) w w' := by
  have hmax : data.length ≤ maxLen := by unfold maxLen; omega
  obtain ⟨sp, cap, rfl, hsrc⟩ := h
  obtain ⟨i0, hi, hz0, hz1, hz2⟩ := info_parts Tryz.infoU8
  go_enter Tryz.func67, Tryz.ntmps67
  go_wp2_with (at_make; refine wpList_make_full _ rfl _ _ 37 rfl w.heap.size 5 i0 (.int .u8 0) 1 Tryz.underlying37 hi hz0 hz1 _ _ _ _ data.length rfl rfl rfl rfl ?b1 ?b2 ?b3 ?_)
  case b1 => rw [hz2]; omega
  case b2 => unfold maxLen; omega
  case b3 => omega
  intro w1 hown hgrow
  have hcopy : ∃ cur : List Value, cur.length = data.length ∧ w1.heap[w.heap.size]? = some (.cells cur.toArray 5 (0, 0)) := by
    rcases hown.2 with ⟨hv, _⟩ | ⟨g, cap', cur, hv, hg, hh, h1, h2, h3, h4⟩
    · cases hv
    · simp only [Value.slice.injEq, Option.some.injEq, Addr.mk.injEq] at hv
      obtain ⟨⟨rfl, _⟩, _, rfl⟩ := hv
      exact ⟨cur.toList, by simp [h3], by rw [hh]⟩
  obtain ⟨cur, hcl, hcw⟩ := hcopy
  have hsz1 : (Tryz.prog.info? 5).map (·.size) = some 1 := by rw [hi]; simp [hz1]
  have hpos : 0 < (data.map byteV).length → some (⟨w.heap.size, 0, none⟩ : Addr) = some ⟨w.heap.size, 0, none⟩ ∧ ∃ ad, sp = some ad ∧ ∀ j v, (data.map byteV)[j]? = some v → w1.cell? (ad.add j) = some v := by
    intro h0
    obtain ⟨ad, e1, e2⟩ := hsrc (by simpa using h0)
    refine ⟨rfl, ad, e1, fun j v hj => ?_⟩
    rw [List.getElem?_map] at hj
    obtain ⟨x, hx, rfl⟩ := Option.map_eq_some_iff.1 hj
    exact hgrow.cell (e2 j x hx) (by simp)
  have hn : (data.map byteV).length = Nat.min data.length data.length := by simp
  have hfit : 0 + (data.map byteV).length ≤ cur.length := by simp [hcl]
  have h1 : ∀ v ∈ data.map byteV, v.oneCell' = true := by
    intro v hv
    obtain ⟨x, _, rfl⟩ := List.mem_map.1 hv
    rfl
  have hb : Below w.heap.size w w1 := (Below.refl _ _).grown hgrow (Nat.le_refl _) (fun k h => by cases h)
  obtain ⟨X, hX⟩ : ∃ X, X = data.map byteV := ⟨_, rfl⟩
  rw [← hX] at hpos hn hfit h1
  have HX := Lib.hid hX
  have HS := Lib.hid hpos
  have HC := Lib.hid hcw
  have HD := Lib.hid hfit
  have HN := Lib.hid hn
  have HL := Lib.hid hcl
  clear hl hsrc hpos hcw hown hgrow hX hfit hn hcl
  go_wp2_with (with_reducible refine wpList_copy_splice rfl (.tmp 7) (.tmp 8) 37 37 rfl 5 Tryz.underlying37 hsz1 (some ⟨w.heap.size, 0, none⟩) sp data.length data.length data.length cap rfl rfl w.heap.size 0 cur 5 HC.out X HN.out HS.out HD.out h1 w.heap.size w hb (Nat.le_refl _) ?_)
  intro w2 hw2 hb2
  go_wp2
  go_ret
  have hsp : splice cur 0 X = data.map byteV := by
    have h0 : X.length = data.length := by rw [HX.out]; simp
    unfold splice
    rw [List.take_zero, List.nil_append, List.drop_eq_nil_of_le (by rw [Nat.zero_add, h0, HL.out]; exact Nat.le_refl _), List.append_nil, HX.out]
  have hw2' := hw2.out
  rw [hsp] at hw2'
  exact ⟨_, rfl, ⟨by simp, Or.inr ⟨w.heap.size, data.length, _, rfl, Nat.le_refl _, hw2', Nat.le_refl _, hmax, by simp, List.take_of_length_le (by simp)⟩⟩, Below.turn hb2 _⟩

end Go.Proofs.YtjjajnfkngfpjaaGreatDoor
