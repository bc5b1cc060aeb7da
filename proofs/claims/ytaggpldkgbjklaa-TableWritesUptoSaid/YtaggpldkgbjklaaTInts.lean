/-
  Lists of ints: read, compared; two tables of numbers.
-/
import Derived.Test.YtaggpldkgbjklaaTSeqIs
import Derived.Test.YtaggpldkgbjklaaTOrdPl
namespace Go.Proofs.Ytaggpldkgbjklaa
open Go.RowKit Go.Maps Go.WideMaps Go.Proofs.Ytaggpldkgbjklaa.Tb

abbrev intV (x : Int) : Value := .int .i64 x

/-- v reads as these numbers -/
def IntsR (w : World) (v : Value) (l : List Int) : Prop :=
  ∃ sp cap, v = .slice sp l.length cap ∧ (0 < l.length → ∃ ad, sp = some ad ∧ ∀ j x, l[j]? = some x → w.cell? (ad.add j) = some (intV x))

section
variable {w w' : World} {Q : Nat → Prop}

theorem IntsR.later {v : Value} {l : List Int} (h : IntsR w v l) (ht : Turn (fun _ => False) w w') : IntsR w' v l := by
  obtain ⟨sp, cap, hv, hc⟩ := h
  refine ⟨sp, cap, hv, fun h0 => ?_⟩
  obtain ⟨ad, e, hx⟩ := hc h0
  exact ⟨ad, e, fun j x hj => turn_cell ht (hx j x hj)⟩

theorem add_head (g j : Nat) : (⟨g, 0, none⟩ : Addr).add j = ⟨g, j, none⟩ := by
  unfold Addr.add; split <;> simp_all

theorem IntsR.of_own {base : Nat} {v : Value} {l : List Int} (h : w.ownsRow base 3 1 v l.length (l.map intV)) : IntsR w v l := by
  rcases h.2 with ⟨hv, hn⟩ | ⟨g, cap, cur, hv, hg, hh, h1, h2, h3, h4⟩
  · exact ⟨none, 0, by rw [hv, hn], fun h0 => by omega⟩
  · refine ⟨some ⟨g, 0, none⟩, cap, hv, fun _ => ⟨_, rfl, fun j x hj => ?_⟩⟩
    have hown : w.ownsRow base 3 1 (.slice (some ⟨g, 0, none⟩) l.length cap) l.length (l.map intV) := by rw [← hv]; exact h
    have hlt : j < l.length := (List.getElem?_eq_some_iff.1 hj).1
    have := hown.cellAt j (by omega)
    rw [add_head, this, List.getElem?_map, hj]; rfl

set_option maxRecDepth 100000 in
set_option maxHeartbeats 1000000 in
theorem sameInts_any {va vb : Value} {l : List Int} (ha : IntsR w va l) (hb : IntsR w vb l) (hl : l.length ≤ 1000000) :
    Calls Try.prog 38 #[va, vb] w fun r w' => r = .returned (.bool true) ∧ Like w w' := by
  obtain ⟨sa, ca, rfl, hca⟩ := ha
  obtain ⟨sb, cb, rfl, hcb⟩ := hb
  have HA := Lib.hid hca
  have HB := Lib.hid hcb
  have b1 : ((l.length : Int) != (l.length : Int)) = false := by simp
  clear hca hcb
  go_enter Try.func38, Try.ntmps38
  go_wp2_with fail
  go_loopw [5] (fun i wr => ∃ k : Nat, k ≤ l.length ∧ i = .int .i64 k ∧ Like w wr) (fun i _ => l.length - (intOf i).toNat)
  case atStart => exact ⟨0, Nat.zero_le _, rfl, Like.refl _⟩
  case round =>
    obtain ⟨k, hk, rfl, hlk⟩ := hrel
    have HW := Lib.hid hlk
    clear hlk
    by_cases hlt : k < l.length
    · obtain ⟨aa, e1, x1⟩ := HA.out (by omega)
      obtain ⟨ab, e2, x2⟩ := HB.out (by omega)
      subst e1; subst e2
      have ca' := HW.out.cell (x1 k l[k] (List.getElem?_eq_getElem hlt))
      have cb' := HW.out.cell (x2 k l[k] (List.getElem?_eq_getElem hlt))
      have i0 : (0 : Int) ≤ (k : Int) := by omega
      have i1 : (k : Int) < (l.length : Int) := by omega
      have b2 : (l[k] != l[k]) = false := by simp
      clear x1 x2
      go_wp2_with fail
      go_quiet (fail)
      go_wp2
      go_roundw
      case rel => exact ⟨k + 1, by omega, by go_num, HW.out.trans (like_drewN _ _)⟩
      case measure => simp [intOf]; omega
    · have hk0 : k = l.length := by omega
      subst hk0
      go_wp2
      go_ret
      exact ⟨rfl, HW.out⟩

/-- two tables of numbers that we hold -/
structure Two (w0 w : World) (a b : Nat) (ka kb : List Int) : Prop where
  ta : ∃ root, is.TabC w a 0 0 root (ka.length : Nat) ∧ is.TrAt w (.pointer root) (putAll .nil ka)
  tb : ∃ root, is.TabC w b 0 0 root (kb.length : Nat) ∧ is.TrAt w (.pointer root) (putAll .nil kb)
  ne : a ≠ b
  newa : w0.heap.size ≤ a
  newb : w0.heap.size ≤ b
  turn : Turn (fun _ => False) w0 w

theorem Two.later {w0 : World} {a b : Nat} {ka kb : List Int} (h : Two w0 w a b ka kb) (ht : Turn Q w w') (hq : is.NoNode w Q) (qa : ¬ Q a) (qb : ¬ Q b) (q0 : ∀ i, Q i → w0.heap.size ≤ i) : Two w0 w' a b ka kb := by
  obtain ⟨⟨ra, a1, a2⟩, ⟨rb, b1, b2⟩, h1, h2, h3, h4⟩ := h
  exact ⟨⟨ra, a1.later ht qa, a2.turned ht hq⟩, ⟨rb, b1.later ht qb, b2.turned ht hq⟩, h1, h2, h3, h4.trans ht (fun i hi q => by have := q0 i q; omega)⟩

theorem Two.same {w0 : World} {a b : Nat} {ka kb : List Int} (h : Two w0 w a b ka kb) (ht : Turn (fun _ => False) w w') : Two w0 w' a b ka kb :=
  h.later ht (fun _ _ _ q => q.elim) (fun q => q) (fun q => q) (fun _ q => q.elim)

theorem Two.putA {w0 : World} {a b : Nat} {ka kb : List Int} (h : Two w0 w a b ka kb) (hl : ka.length < 1000) (k : Int) :
    Calls Try.prog 35 #[.pointer (some ⟨a, 0, none⟩), .int .i64 k, .string ⟨#[120]⟩] w fun r w' => r = .returned (.tuple #[]) ∧ Two w0 w' a b (ka ++ [k]) kb := by
  obtain ⟨⟨ra, a1, a2⟩, ⟨rb, b1, b2⟩, h1, h2, h3, h4⟩ := h
  have hz := sized_putAll (t := .nil) trivial ka
  have hc := count_putAll (t := .nil) trivial ka
  have hn : (Tr.nil : TI).count = 0 := rfl
  refine (is.tput_any a1 a2 hz (by omega) (by omega) k [120]).mono ?_
  rintro r w' ⟨rfl, ⟨root, c1, c2⟩, ht⟩
  refine ⟨rfl, ⟨root, ?_, ?_⟩, ⟨rb, b1.later ht (fun e => h1 e.symm), b2.turned ht a1.noNode⟩, h1, h2, h3, h4.trans ht (fun i hi e => by omega)⟩
  · rw [List.length_append]; exact c1
  · rw [putAll_snoc]; exact c2

theorem Two.putB {w0 : World} {a b : Nat} {ka kb : List Int} (h : Two w0 w a b ka kb) (hl : kb.length < 1000) (k : Int) :
    Calls Try.prog 35 #[.pointer (some ⟨b, 0, none⟩), .int .i64 k, .string ⟨#[120]⟩] w fun r w' => r = .returned (.tuple #[]) ∧ Two w0 w' a b ka (kb ++ [k]) := by
  obtain ⟨⟨ra, a1, a2⟩, ⟨rb, b1, b2⟩, h1, h2, h3, h4⟩ := h
  have hz := sized_putAll (t := .nil) trivial kb
  have hc := count_putAll (t := .nil) trivial kb
  have hn : (Tr.nil : TI).count = 0 := rfl
  refine (is.tput_any b1 b2 hz (by omega) (by omega) k [120]).mono ?_
  rintro r w' ⟨rfl, ⟨root, c1, c2⟩, ht⟩
  refine ⟨rfl, ⟨ra, a1.later ht (fun e => h1 e), a2.turned ht b1.noNode⟩, ⟨root, ?_, ?_⟩, h1, h2, h3, h4.trans ht (fun i hi e => by omega)⟩
  · rw [List.length_append]; exact c1
  · rw [putAll_snoc]; exact c2

theorem Two.getA {w0 : World} {a b : Nat} {ka kb : List Int} (h : Two w0 w a b ka kb) {k : Int} (hk : k ∈ ka) :
    Calls Try.prog 37 #[.pointer (some ⟨a, 0, none⟩), .int .i64 k] w fun r w' => (∃ x : ByteArray, r = .returned (.tuple #[.string x, .bool true])) ∧ Like w w' := by
  obtain ⟨⟨ra, a1, a2⟩, _⟩ := h
  obtain ⟨x, hx⟩ := get_key (rises_putAll rise_nil ka) ((keys_putAll rise_nil ka k).2 (Or.inl hk))
  have := is.tget_any a1 a2 k
  rw [hx] at this
  exact this.mono fun r w' ⟨h1, h2⟩ => ⟨⟨_, h1⟩, h2⟩

theorem Two.lenA {w0 : World} {a b : Nat} {ka kb : List Int} (h : Two w0 w a b ka kb) :
    Calls Try.prog 39 #[.pointer (some ⟨a, 0, none⟩)] w fun r w' => r = .returned (.int .i64 ((keysOf (putAll .nil ka)).length : Nat)) ∧ Like w w' := by
  obtain ⟨⟨ra, a1, a2⟩, _⟩ := h
  rw [keys_length (sized_putAll (t := .nil) trivial ka)]
  exact is.len_any a1 a2
end
end Go.Proofs.Ytaggpldkgbjklaa
