/-
  OF THE LAWS: calls of the files since a world; a log's directory of one segment; bytes that came in, cut.
-/
import Derived.Test.YtjjajnfkngfpjaaGreatDoorWFirst
import Derived.Test.YtjjajnfkngfpjaaGreatDoorWSame
namespace Go.Proofs.YtjjajnfkngfpjaaGreatDoor
open Go.RowKit Go.Maps Go.WideMaps

section
variable {w w' : World} {p : Nat} {S S' : Fsp.Fs} {c c' : Bool} {Q : Nat → Prop} {mo : Option Nat} {pl : List UInt8 → Pl}

theorem Since.append (h : Since w p S w') (hs : StepsOk S) (s : ByteArray) (hz : s.size ≤ maxLen) {n : Nat} (v : Value) (b : List UInt8) (hb : SliceB w' v b) (hbl : b.length ≤ maxLen)
    (hout : OutOf (fun i => w.heap.size ≤ i ∧ i < w'.heap.size) v) (he : Fsp.append S s.data.toList b = (S', n)) :
    Calls Tryz.prog 39 #[.pointer (some ⟨p, 0, none⟩), .string s, v] w' fun r w2 => r = .returned (.int .i64 (n : Int)) ∧ Since w p S' w2 := by
  have h0 := h
  obtain ⟨⟨mo, pl, hr⟩, ht0⟩ := h
  refine (append_any hr hs s hz v b hb hbl hout).mono ?_
  rintro r w2 ⟨rfl, hp⟩
  rw [he] at hp ⊢
  exact ⟨rfl, Since.post h0 hp⟩

theorem Since.create (h : Since w p S w') (hs : StepsOk S) (s : ByteArray) (hz : s.size ≤ maxLen) {n : Nat} (he : Fsp.create S s.data.toList = (S', n)) :
    Calls Tryz.prog 38 #[.pointer (some ⟨p, 0, none⟩), .string s] w' fun r w2 => r = .returned (.int .i64 (n : Int)) ∧ Since w p S' w2 := by
  have h0 := h
  obtain ⟨⟨mo, pl, hr⟩, ht0⟩ := h
  refine (create_any hr hs s hz).mono ?_
  rintro r w2 ⟨rfl, hp⟩
  rw [he] at hp ⊢
  exact ⟨rfl, Since.post h0 hp⟩

theorem Since.sync (h : Since w p S w') (hs : StepsOk S) (s : ByteArray) (hz : s.size ≤ maxLen) {n : Nat} (he : Fsp.sync S s.data.toList = (S', n)) :
    Calls Tryz.prog 45 #[.pointer (some ⟨p, 0, none⟩), .string s] w' fun r w2 => r = .returned (.int .i64 (n : Int)) ∧ Since w p S' w2 := by
  have h0 := h
  obtain ⟨⟨mo, pl, hr⟩, ht0⟩ := h
  refine (sync_any hr hs s hz).mono ?_
  rintro r w2 ⟨rfl, hp⟩
  rw [he] at hp ⊢
  exact ⟨rfl, Since.post h0 hp⟩

theorem SliceC.toB {v : Value} {b : List UInt8} (h : SliceC w v b) (hv : v = .slice none 0 0 ∨ ∃ ad n cap, v = .slice (some ad) n cap) : SliceB w v b := by
  obtain ⟨sp, cap, rfl, h1, h2, h3⟩ := h
  rcases hv with hv | ⟨ad, n, cap', hv⟩
  · simp only [Value.slice.injEq] at hv
    obtain ⟨rfl, h4, rfl⟩ := hv
    refine Or.inl ⟨by rw [h4], List.length_eq_zero_iff.1 h4⟩
  · simp only [Value.slice.injEq] at hv
    obtain ⟨rfl, rfl, rfl⟩ := hv
    refine Or.inr ⟨ad, _, rfl, fun j x hj => ?_⟩
    obtain ⟨g, off, e, hx⟩ := h3 (by have := (List.getElem?_eq_some_iff.1 hj).1; omega)
    cases e
    have := hx j x hj
    unfold Addr.add
    split
    · simp_all
    · exact this

/-- a front of it -/
theorem SliceC.take {sp : Option Addr} {n cap k : Nat} {b : List UInt8} (h : SliceC w (.slice sp n cap) b) (hk : k ≤ b.length) : SliceC w (.slice sp k cap) (b.take k) := by
  obtain ⟨sp', cap', hv, h1, h2, h3⟩ := h
  simp only [Value.slice.injEq] at hv
  obtain ⟨rfl, rfl, rfl⟩ := hv
  have hl : (b.take k).length = k := by rw [List.length_take]; omega
  refine ⟨sp, cap, by rw [hl], by omega, h2, fun h0 => ?_⟩
  rw [hl] at h0
  obtain ⟨g, off, e, hx⟩ := h3 (by omega)
  refine ⟨g, off, e, fun j x hj => hx j x ?_⟩
  rw [List.getElem?_take] at hj
  split at hj
  · exact hj
  · cases hj

/-- a front of a list that is read -/
theorem ListsR.take {sp : Option Addr} {n cap k : Nat} {l : List (List UInt8)} (h : ListsR w (.slice sp n cap) l) (hk : k ≤ l.length) : ListsR w (.slice sp k cap) (l.take k) := by
  obtain ⟨sp', cap', hv, h3⟩ := h
  simp only [Value.slice.injEq] at hv
  obtain ⟨rfl, rfl, rfl⟩ := hv
  have hl : (l.take k).length = k := by rw [List.length_take]; omega
  refine ⟨sp, cap, by rw [hl], fun h0 => ?_⟩
  rw [hl] at h0
  obtain ⟨ad, e, hx⟩ := h3 (by omega)
  refine ⟨ad, e, fun j x hj => hx j x ?_⟩
  rw [List.getElem?_take] at hj
  split at hj
  · exact hj
  · cases hj

end
end Go.Proofs.YtjjajnfkngfpjaaGreatDoor
