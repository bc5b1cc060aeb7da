/-
  Small: how large a value is, as far as it is looked into.
-/
import Derived.Test.YtdhkpkojnokjdaaDoorJValIn
import Derived.Test.YtdhkpkojnokjdaaDoorGRd
namespace Go.Proofs.YtdhkpkojnokjdaaDoor
open Go.RowKit Go.Maps Go.WideMaps Go.Shelf
set_option linter.unusedVariables false
set_option linter.unusedSimpArgs false

mutual
/-- how large a value is -/
def weightG : GV → Nat
  | .mk k t l ns => 1 + (t.length + ns.length + l.length) / 20 + (ns.map fun s => 1 + s.length / 20).sum + weightL l
def weightL : List GV → Nat
  | [] => 0
  | x :: r => weightG x + weightL r
end
/-- the names ahead of j -/
def nameW (a : Nat) (ns : List (List UInt8)) (j : Nat) : Nat := a + ((ns.take j).map fun s => 1 + s.length / 20).sum
theorem nameW_next {a : Nat} {ns : List (List UInt8)} {j : Nat} (h : j < ns.length) : nameW a ns (j + 1) = nameW a ns j + 1 + ns[j].length / 20 := by
  unfold nameW
  rw [List.take_succ_eq_append_getElem h, List.map_append, List.sum_append]
  simp only [List.map_cons, List.map_nil, List.sum_cons, List.sum_nil]
  omega
def elemW (a : Nat) (l : List GV) (j : Nat) : Nat := a + weightL (l.take j)
theorem weightL_snoc (x : GV) : ∀ l : List GV, weightL (l ++ [x]) = weightL l + weightG x
  | [] => by simp [weightL]
  | y :: l => by rw [List.cons_append, weightL, weightL, weightL_snoc x l]; omega
theorem elemW_next {a : Nat} {l : List GV} {j : Nat} (h : j < l.length) : elemW a l (j + 1) = elemW a l j + weightG l[j] := by
  unfold elemW
  rw [List.take_succ_eq_append_getElem h, weightL_snoc]
  omega
theorem weight_is {k : Int} {t : List UInt8} {l : List GV} {ns : List (List UInt8)} : weightG (.mk k t l ns) = elemW (nameW (1 + (t.length + ns.length + l.length) / 20) ns ns.length) l l.length := by
  unfold weightG elemW nameW
  rw [List.take_length, List.take_length]

theorem nameW_le (a : Nat) (ns : List (List UInt8)) (j : Nat) : nameW a ns j ≤ nameW a ns ns.length := by
  unfold nameW
  rw [List.take_length]
  have : (ns.map fun s => 1 + s.length / 20).sum = ((ns.take j).map fun s => 1 + s.length / 20).sum + ((ns.drop j).map fun s => 1 + s.length / 20).sum := by
    rw [← List.sum_append, ← List.map_append, List.take_append_drop]
  omega
theorem weightL_append : ∀ l l' : List GV, weightL (l ++ l') = weightL l + weightL l'
  | [], l' => by simp [weightL]
  | y :: l, l' => by rw [List.cons_append, weightL, weightL, weightL_append l l']; omega
theorem elemW_le (a : Nat) (l : List GV) (j : Nat) : a ≤ elemW a l j ∧ elemW a l j ≤ elemW a l l.length := by
  unfold elemW
  rw [List.take_length]
  have := weightL_append (l.take j) (l.drop j)
  rw [List.take_append_drop] at this
  omega
/-- what Small answers -/
abbrev smallTop : Int := 70368744177664
def SmallIs (x : GV) (parts : Int) (w : World) (e : Ending) (w' : World) : Prop := (∃ r : Int, e = .returned (.int .i64 r) ∧ 0 ≤ r ∧ r ≤ parts + smallTop ∧ (r ≤ parts → r = (weightG x : Int)) ∧ ((weightG x : Int) ≤ parts → r ≤ parts)) ∧ Only w w'

set_option maxRecDepth 100000 in
set_option maxHeartbeats 3200000 in
theorem small_step {k : Int} {t : List UInt8} {l : List GV} {ns : List (List UInt8)} {v : Value} {w : World} {parts : Int} (hx : GIn w (.mk k t l ns) v) (hB : Broad (.mk k t l ns)) (hp0 : 0 ≤ parts) (hp1 : parts ≤ 200)
    (ih : ∀ i (h : i < l.length) (v : Value) (w' : World) (q : Int), GIn w' l[i] v → 0 ≤ q → q ≤ 200 → Calls Tryd.prog 9 #[v, .int .i64 q] w' (SmallIs l[i] q w')) :
    Calls Tryd.prog 9 #[v, .int .i64 parts] w (SmallIs (.mk k t l ns) parts w) := by
  unfold Broad at hB
  obtain ⟨b1, b2, b3, b4, -⟩ := hB
  unfold GIn at hx
  obtain ⟨L, N, rfl, ⟨sp, cap, rfl, hc⟩, hN⟩ := hx
  obtain ⟨sq, cq, rfl, hcq, hnm⟩ := hN
  have ha := (Only.refl w).alloc (.cells #[.int .i64 k, txt t, .slice sp l.length cap, .slice sq ns.length cq] 25)
  have O := Lib.hid (Own4.new w (.int .i64 k) (txt t) (.slice sp l.length cap) (.slice sq ns.length cq) 25)
  obtain ⟨⟨x0, x1, x2, x3⟩, -⟩ := O.out.all
  have HA := Lib.hid ha
  have HC := Lib.hid hc
  have HNM := Lib.hid hnm
  have IH := Lib.hid ih
  have HB4 := Lib.hid b4
  have hts : (⟨t.toArray⟩ : ByteArray).size = t.length := by rw [← data_len]
  have i1 : (t.length : Int) ≤ 140737488355328 := by unfold reachN at b1; omega
  have i2 : (l.length : Int) ≤ 140737488355328 := by unfold reachN at b2; omega
  have i3 : (ns.length : Int) ≤ 140737488355328 := by unfold reachN at b3; omega
  obtain ⟨n0, hn0⟩ : ∃ n0 : Nat, n0 = 1 + (t.length + ns.length + l.length) / 20 := ⟨_, rfl⟩
  have hW : weightG (.mk k t l ns) = elemW (nameW n0 ns ns.length) l l.length := by rw [hn0]; exact weight_is
  have HW := Lib.hid hW
  obtain ⟨d0, hd0⟩ : ∃ d0 : Nat, d0 = t.length + ns.length + l.length := ⟨_, rfl⟩
  have e1 : (t.length : Int) + (ns.length : Int) + (l.length : Int) = (d0 : Int) := by omega
  have e2 : Int.tdiv (d0 : Int) 20 = ((d0 / 20 : Nat) : Int) := by rw [Int.tdiv_eq_ediv_of_nonneg (by omega)]; omega
  have e3 : (1 : Int) + ((d0 / 20 : Nat) : Int) = (n0 : Int) := by rw [hn0, ← hd0]; push_cast; rfl
  have hn0b : (n0 : Int) ≤ smallTop := by unfold smallTop; omega
  have HN0 := Lib.hid hn0b
  clear hc hnm ih b1 b2 b3 b4 ha hn0 hW hd0 hcq hn0b
  go_enter Tryd.func9, Tryd.ntmps9
  go_wp2_with fail
  go_loopw [5, 6] (fun nv iv wx => ∃ (j : Nat) (n : Int), nv = .int .i64 n ∧ iv = .int .i64 (j : Int) ∧ j ≤ ns.length ∧ 0 ≤ n ∧ Hid (n ≤ parts + smallTop ∧ (n ≤ parts → n = (nameW n0 ns j : Int)) ∧ ((elemW (nameW n0 ns ns.length) l l.length : Int) ≤ parts → n ≤ parts)) ∧ Only w wx ∧ Own4 wx w.heap.size (.int .i64 k) (txt t) (.slice sp l.length cap) (.slice sq ns.length cq)) (fun _ iv _ => ns.length - (intOf iv).toNat)
  case atStart => exact ⟨0, n0, by congr 1, rfl, Nat.zero_le _, by omega, Lib.hid ⟨by have := HN0.out; omega, fun _ => by simp [nameW], fun h => by have a := nameW_le n0 ns 0; have b := elemW_le (nameW n0 ns ns.length) l 0; have c : nameW n0 ns 0 = n0 := (by simp [nameW]); omega⟩, HA.out, O.out⟩
  case round =>
    obtain ⟨j, n, rfl, rfl, hj, hn, HF, ht, o⟩ := hrel
    have H9 := Lib.hid o
    have HT := Lib.hid ht
    clear x0 x1 x2 x3
    obtain ⟨⟨x0, x1, x2, x3⟩, -⟩ := o.all
    clear o
    have key : (j < ns.length ∧ n ≤ parts) ∨ Hid (n ≤ parts → n = (nameW n0 ns ns.length : Int)) ∧ (¬ j < ns.length ∨ (j < ns.length ∧ ¬ n ≤ parts)) := by
      have := HF.out.2.1
      by_cases h1 : j < ns.length
      · by_cases h2 : n ≤ parts
        · exact Or.inl ⟨h1, h2⟩
        · exact Or.inr ⟨Lib.hid fun h => absurd h h2, Or.inr ⟨h1, h2⟩⟩
      · obtain rfl : j = ns.length := by omega
        exact Or.inr ⟨Lib.hid this, Or.inl h1⟩
    rcases key with ⟨hlt, hle⟩ | ⟨HNW, hex⟩
    · have ij : (j : Int) < (ns.length : Int) := by omega
      rcases HNM.out with h0 | ⟨g, off, rfl, hcell⟩
      · rw [h0] at hlt; simp at hlt
      have nc := cell_only (hcell j hlt) ht
      have e9 := add_at g off j
      obtain ⟨s, hs⟩ : ∃ s, s = ns[j] := ⟨_, rfl⟩
      rw [← hs] at nc
      have hsb : (s.length : Int) ≤ 140737488355328 := by have := HB4.out s (by rw [hs]; exact List.getElem_mem _); unfold reachN at this; omega
      have hss : (⟨s.toArray⟩ : ByteArray).size = s.length := by rw [← data_len]
      have hnx := nameW_next (a := n0) hlt
      rw [← hs] at hnx
      have g2 : Int.tdiv (s.length : Int) 20 = ((s.length / 20 : Nat) : Int) := by rw [Int.tdiv_eq_ediv_of_nonneg (by omega)]; omega
      obtain ⟨d, hd⟩ : ∃ d : Nat, d = s.length / 20 := ⟨_, rfl⟩
      have hdb : (d : Int) ≤ 7036874417766 := by omega
      rw [← hd] at g2 hnx
      have HX := Lib.hid hnx
      clear hcell hs hnx hd ht
      go_wp2_with fail
      go_roundw
      case rel => exact ⟨j + 1, n + 1 + d, by first | rfl | (congr 1; omega), by push_cast; rfl, hlt, by omega, Lib.hid ⟨by unfold smallTop; omega, fun _ => by have := HF.out.2.1 hle; have := HX.out; omega, fun h => by have := HF.out.2.1 hle; have := HX.out; have a := nameW_le n0 ns (j + 1); have b := elemW_le (nameW n0 ns ns.length) l 0; omega⟩, HT.out, H9.out⟩
      case measure => simp [intOf]; omega
    · rcases hex with hex | ⟨hex, hex2⟩
      all_goals
        go_wp2_with fail
        go_loopw [5, 7] (fun nv iv wx => ∃ (i : Nat) (n : Int), nv = .int .i64 n ∧ iv = .int .i64 (i : Int) ∧ i ≤ l.length ∧ 0 ≤ n ∧ Hid (n ≤ parts + smallTop ∧ (n ≤ parts → n = (elemW (nameW n0 ns ns.length) l i : Int)) ∧ ((elemW (nameW n0 ns ns.length) l l.length : Int) ≤ parts → n ≤ parts)) ∧ Only w wx ∧ Own4 wx w.heap.size (.int .i64 k) (txt t) (.slice sp l.length cap) (.slice sq ns.length cq)) (fun _ iv _ => l.length - (intOf iv).toNat)
        case atStart => exact ⟨0, n, rfl, rfl, Nat.zero_le _, hn, Lib.hid ⟨HF.out.1, fun h => by have := HNW.out h; simp [elemW, weightL]; exact this, HF.out.2.2⟩, HT.out, H9.out⟩
        case round =>
          clear x0 x1 x2 x3 HF HNW HT H9 hn ht hex
          obtain ⟨i, n, rfl, rfl, hi, hn, HF, ht, o⟩ := hrel
          have H9 := Lib.hid o
          have HT := Lib.hid ht
          obtain ⟨⟨x0, x1, x2, x3⟩, -⟩ := o.all
          clear o
          have key : (i < l.length ∧ n ≤ parts) ∨ Hid (n ≤ parts → n = (elemW (nameW n0 ns ns.length) l l.length : Int)) ∧ (¬ i < l.length ∨ (i < l.length ∧ ¬ n ≤ parts)) := by
            have := HF.out.2.1
            by_cases h1 : i < l.length
            · by_cases h2 : n ≤ parts
              · exact Or.inl ⟨h1, h2⟩
              · exact Or.inr ⟨Lib.hid fun h => absurd h h2, Or.inr ⟨h1, h2⟩⟩
            · obtain rfl : i = l.length := by omega
              exact Or.inr ⟨Lib.hid this, Or.inl h1⟩
          rcases key with ⟨hlt, hle⟩ | ⟨HNW, hex⟩
          · have ij : (i : Int) < (l.length : Int) := by omega
            rcases HC.out with h0 | ⟨g, off, rfl, hcell⟩
            · rw [h0] at hlt; simp at hlt
            obtain ⟨c0, c1, c2, c3, ⟨q0, q1, q2, q3⟩, hgx⟩ := GCells.at_ (GCells.only ht l hcell) i hlt
            obtain ⟨k9, t9, sp9, n9, m9, sq9, u9, v9, rfl, rfl, rfl, rfl⟩ := GIn.shape hgx
            have e9 : (⟨g, off, none⟩ : Addr).add (i * 4) = ⟨g, off + i * 4, none⟩ := add_at _ _ _
            have hnx := elemW_next (a := nameW n0 ns ns.length) hlt
            have C := Lib.hid (IH.out i hlt _ wr (parts - n) hgx (by omega) (by omega))
            unfold SmallIs at C
            obtain ⟨z, hz⟩ : ∃ z, z = weightG l[i] := ⟨_, rfl⟩
            rw [← hz] at hnx C
            obtain ⟨q, hq⟩ : ∃ q, q = parts - n := ⟨_, rfl⟩
            have hq0 : parts - n = q := hq.symm
            rw [hq0] at C
            have HQ := Lib.hid (And.intro hq (show (0 : Int) ≤ q ∧ q ≤ 200 from ⟨by omega, by omega⟩))
            have HX := Lib.hid hnx
            have HLE := Lib.hid hle
            clear hcell hnx ht hgx hz hq
            go_wp2_with (go_at_call 9; refine C.out.mono ?_; rintro r w3 ⟨⟨rr, rfl, hr0, hr1, hr2, hr3⟩, t3⟩; have HR := Lib.hid (And.intro hr2 hr3); have hsum : n + rr ≤ 200 + smallTop := (by have := HQ.out; omega); have hsum2 : n + rr ≤ 9223372036854775807 := (by unfold smallTop at hsum; omega); have H3 := Lib.hid t3; clear hr2 hr3 t3)
            go_roundw
            case rel => exact ⟨i + 1, n + rr, rfl, by push_cast; rfl, hlt, by omega, Lib.hid ⟨by have := HQ.out; omega, fun h => by
              have h1 := HF.out.2.1 HLE.out
              have h2 := HR.out.1 (by have := HQ.out; omega)
              have h3 := HX.out
              omega, fun h => by
              have h1 := HF.out.2.1 HLE.out
              have h3 := HX.out
              have h4 := (elemW_le (nameW n0 ns ns.length) l (i + 1)).2
              have h5 := HR.out.2 (by have := HQ.out; omega)
              have := HQ.out; omega⟩, HT.out.trans H3.out, H9.out.only H3.out⟩
            case measure => simp [intOf]; omega
          · rcases hex with hex | ⟨hex, hex2⟩
            all_goals
              go_wp2_with fail
              go_ret
              refine ⟨⟨n, rfl, hn, HF.out.1, fun h => ?_, fun h => ?_⟩, HT.out⟩
              · rw [HW.out]
                exact HNW.out h
              · rw [HW.out] at h
                exact HF.out.2.2 h

/-- the whole of Small -/
theorem small_any : ∀ (m : Nat) (x : GV) (v : Value) (w : World) (parts : Int), SizeOf.sizeOf x ≤ m → GIn w x v → Broad x → 0 ≤ parts → parts ≤ 200 → Calls Tryd.prog 9 #[v, .int .i64 parts] w (SmallIs x parts w)
  | 0, x, v, w, parts, hm, _, _, _, _ => by cases x; simp at hm
  | m + 1, .mk k t l ns, v, w, parts, hm, hx, hB, h0, h1 => by
    have hB' := hB
    unfold Broad at hB'
    refine small_step hx hB h0 h1 fun i hi v' w' q hv hq0 hq1 => small_any m l[i] v' w' q ?_ hv (hB'.2.2.2.2.at_ i hi) hq0 hq1
    have := List.sizeOf_lt_of_mem (List.getElem_mem hi)
    simp at hm
    omega
end Go.Proofs.YtdhkpkojnokjdaaDoor
