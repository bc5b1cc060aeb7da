/-
  PARTS: JSmall, JLight, JBackP.
-/
import Derived.Test.YtdhkpkojnokjdaaDoorJValIn
import Derived.Test.YtdhkpkojnokjdaaDoorGRd
/-
  Small: how large a value is, as far as it is looked into.
-/
namespace Go.Proofs.YtdhkpkojnokjdaaDoor
open Go.RowKit Go.Maps Go.WideMaps Go.Shelf
set_option linter.unusedVariables false
set_option linter.unusedSimpArgs false

mutual
/-- how large a value is -/
def weightG : GV → Nat
  | .mk k t l ns => 1 + (t.length + ns.length + l.length) / 20 + (ns.map fun s => 1 + s.length / 20).sum + weightL l
def weightL : List GV → Nat
  | [] => 0
  | x :: r => weightG x + weightL r
end
/-- the names ahead of j -/
def nameW (a : Nat) (ns : List (List UInt8)) (j : Nat) : Nat := a + ((ns.take j).map fun s => 1 + s.length / 20).sum
theorem nameW_next {a : Nat} {ns : List (List UInt8)} {j : Nat} (h : j < ns.length) : nameW a ns (j + 1) = nameW a ns j + 1 + ns[j].length / 20 := by
  unfold nameW
  rw [List.take_succ_eq_append_getElem h, List.map_append, List.sum_append]
  simp only [List.map_cons, List.map_nil, List.sum_cons, List.sum_nil]
  omega
def elemW (a : Nat) (l : List GV) (j : Nat) : Nat := a + weightL (l.take j)
theorem weightL_snoc (x : GV) : ∀ l : List GV, weightL (l ++ [x]) = weightL l + weightG x
  | [] => by simp [weightL]
  | y :: l => by rw [List.cons_append, weightL, weightL, weightL_snoc x l]; omega
theorem elemW_next {a : Nat} {l : List GV} {j : Nat} (h : j < l.length) : elemW a l (j + 1) = elemW a l j + weightG l[j] := by
  unfold elemW
  rw [List.take_succ_eq_append_getElem h, weightL_snoc]
  omega
theorem weight_is {k : Int} {t : List UInt8} {l : List GV} {ns : List (List UInt8)} : weightG (.mk k t l ns) = elemW (nameW (1 + (t.length + ns.length + l.length) / 20) ns ns.length) l l.length := by
  unfold weightG elemW nameW
  rw [List.take_length, List.take_length]

theorem nameW_le (a : Nat) (ns : List (List UInt8)) (j : Nat) : nameW a ns j ≤ nameW a ns ns.length := by
  unfold nameW
  rw [List.take_length]
  have : (ns.map fun s => 1 + s.length / 20).sum = ((ns.take j).map fun s => 1 + s.length / 20).sum + ((ns.drop j).map fun s => 1 + s.length / 20).sum := by
    rw [← List.sum_append, ← List.map_append, List.take_append_drop]
  omega
theorem weightL_append : ∀ l l' : List GV, weightL (l ++ l') = weightL l + weightL l'
  | [], l' => by simp [weightL]
  | y :: l, l' => by rw [List.cons_append, weightL, weightL, weightL_append l l']; omega
theorem elemW_le (a : Nat) (l : List GV) (j : Nat) : a ≤ elemW a l j ∧ elemW a l j ≤ elemW a l l.length := by
  unfold elemW
  rw [List.take_length]
  have := weightL_append (l.take j) (l.drop j)
  rw [List.take_append_drop] at this
  omega
/-- what Small answers -/
abbrev smallTop : Int := 70368744177664
def SmallIs (x : GV) (parts : Int) (w : World) (e : Ending) (w' : World) : Prop := (∃ r : Int, e = .returned (.int .i64 r) ∧ 0 ≤ r ∧ r ≤ parts + smallTop ∧ (r ≤ parts → r = (weightG x : Int)) ∧ ((weightG x : Int) ≤ parts → r ≤ parts)) ∧ Only w w'

set_option maxRecDepth 100000 in
set_option maxHeartbeats 3200000 in
theorem small_step {k : Int} {t : List UInt8} {l : List GV} {ns : List (List UInt8)} {v : Value} {w : World} {parts : Int} (hx : GIn w (.mk k t l ns) v) (hB : Broad (.mk k t l ns)) (hp0 : 0 ≤ parts) (hp1 : parts ≤ 200)
    (ih : ∀ i (h : i < l.length) (v : Value) (w' : World) (q : Int), GIn w' l[i] v → 0 ≤ q → q ≤ 200 → Calls Tryd.prog 9 #[v, .int .i64 q] w' (SmallIs l[i] q w')) :
    Calls Tryd.prog 9 #[v, .int .i64 parts] w (SmallIs (.mk k t l ns) parts w) := by
  unfold Broad at hB
  obtain ⟨b1, b2, b3, b4, -⟩ := hB
  unfold GIn at hx
  obtain ⟨L, N, rfl, ⟨sp, cap, rfl, hc⟩, hN⟩ := hx
  obtain ⟨sq, cq, rfl, hcq, hnm⟩ := hN
  have ha := (Only.refl w).alloc (.cells #[.int .i64 k, txt t, .slice sp l.length cap, .slice sq ns.length cq] 25)
  have O := Lib.hid (Own4.new w (.int .i64 k) (txt t) (.slice sp l.length cap) (.slice sq ns.length cq) 25)
  obtain ⟨⟨x0, x1, x2, x3⟩, -⟩ := O.out.all
  have HA := Lib.hid ha
  have HC := Lib.hid hc
  have HNM := Lib.hid hnm
  have IH := Lib.hid ih
  have HB4 := Lib.hid b4
  have hts : (⟨t.toArray⟩ : ByteArray).size = t.length := by rw [← data_len]
  have i1 : (t.length : Int) ≤ 140737488355328 := by unfold reachN at b1; omega
  have i2 : (l.length : Int) ≤ 140737488355328 := by unfold reachN at b2; omega
  have i3 : (ns.length : Int) ≤ 140737488355328 := by unfold reachN at b3; omega
  obtain ⟨n0, hn0⟩ : ∃ n0 : Nat, n0 = 1 + (t.length + ns.length + l.length) / 20 := ⟨_, rfl⟩
  have hW : weightG (.mk k t l ns) = elemW (nameW n0 ns ns.length) l l.length := by rw [hn0]; exact weight_is
  have HW := Lib.hid hW
  obtain ⟨d0, hd0⟩ : ∃ d0 : Nat, d0 = t.length + ns.length + l.length := ⟨_, rfl⟩
  have e1 : (t.length : Int) + (ns.length : Int) + (l.length : Int) = (d0 : Int) := by omega
  have e2 : Int.tdiv (d0 : Int) 20 = ((d0 / 20 : Nat) : Int) := by rw [Int.tdiv_eq_ediv_of_nonneg (by omega)]; omega
  have e3 : (1 : Int) + ((d0 / 20 : Nat) : Int) = (n0 : Int) := by rw [hn0, ← hd0]; push_cast; rfl
  have hn0b : (n0 : Int) ≤ smallTop := by unfold smallTop; omega
  have HN0 := Lib.hid hn0b
  clear hc hnm ih b1 b2 b3 b4 ha hn0 hW hd0 hcq hn0b
  go_enter Tryd.func9, Tryd.ntmps9
  go_wp2_with fail
  go_loopw [5, 6] (fun nv iv wx => ∃ (j : Nat) (n : Int), nv = .int .i64 n ∧ iv = .int .i64 (j : Int) ∧ j ≤ ns.length ∧ 0 ≤ n ∧ Hid (n ≤ parts + smallTop ∧ (n ≤ parts → n = (nameW n0 ns j : Int)) ∧ ((elemW (nameW n0 ns ns.length) l l.length : Int) ≤ parts → n ≤ parts)) ∧ Only w wx ∧ Own4 wx w.heap.size (.int .i64 k) (txt t) (.slice sp l.length cap) (.slice sq ns.length cq)) (fun _ iv _ => ns.length - (intOf iv).toNat)
  case atStart => exact ⟨0, n0, by congr 1, rfl, Nat.zero_le _, by omega, Lib.hid ⟨by have := HN0.out; omega, fun _ => by simp [nameW], fun h => by have a := nameW_le n0 ns 0; have b := elemW_le (nameW n0 ns ns.length) l 0; have c : nameW n0 ns 0 = n0 := (by simp [nameW]); omega⟩, HA.out, O.out⟩
  case round =>
    obtain ⟨j, n, rfl, rfl, hj, hn, HF, ht, o⟩ := hrel
    have H9 := Lib.hid o
    have HT := Lib.hid ht
    clear x0 x1 x2 x3
    obtain ⟨⟨x0, x1, x2, x3⟩, -⟩ := o.all
    clear o
    have key : (j < ns.length ∧ n ≤ parts) ∨ Hid (n ≤ parts → n = (nameW n0 ns ns.length : Int)) ∧ (¬ j < ns.length ∨ (j < ns.length ∧ ¬ n ≤ parts)) := by
      have := HF.out.2.1
      by_cases h1 : j < ns.length
      · by_cases h2 : n ≤ parts
        · exact Or.inl ⟨h1, h2⟩
        · exact Or.inr ⟨Lib.hid fun h => absurd h h2, Or.inr ⟨h1, h2⟩⟩
      · obtain rfl : j = ns.length := by omega
        exact Or.inr ⟨Lib.hid this, Or.inl h1⟩
    rcases key with ⟨hlt, hle⟩ | ⟨HNW, hex⟩
    · have ij : (j : Int) < (ns.length : Int) := by omega
      rcases HNM.out with h0 | ⟨g, off, rfl, hcell⟩
      · rw [h0] at hlt; simp at hlt
      have nc := cell_only (hcell j hlt) ht
      have e9 := add_at g off j
      obtain ⟨s, hs⟩ : ∃ s, s = ns[j] := ⟨_, rfl⟩
      rw [← hs] at nc
      have hsb : (s.length : Int) ≤ 140737488355328 := by have := HB4.out s (by rw [hs]; exact List.getElem_mem _); unfold reachN at this; omega
      have hss : (⟨s.toArray⟩ : ByteArray).size = s.length := by rw [← data_len]
      have hnx := nameW_next (a := n0) hlt
      rw [← hs] at hnx
      have g2 : Int.tdiv (s.length : Int) 20 = ((s.length / 20 : Nat) : Int) := by rw [Int.tdiv_eq_ediv_of_nonneg (by omega)]; omega
      obtain ⟨d, hd⟩ : ∃ d : Nat, d = s.length / 20 := ⟨_, rfl⟩
      have hdb : (d : Int) ≤ 7036874417766 := by omega
      rw [← hd] at g2 hnx
      have HX := Lib.hid hnx
      clear hcell hs hnx hd ht
      go_wp2_with fail
      go_roundw
      case rel => exact ⟨j + 1, n + 1 + d, by first | rfl | (congr 1; omega), by push_cast; rfl, hlt, by omega, Lib.hid ⟨by unfold smallTop; omega, fun _ => by have := HF.out.2.1 hle; have := HX.out; omega, fun h => by have := HF.out.2.1 hle; have := HX.out; have a := nameW_le n0 ns (j + 1); have b := elemW_le (nameW n0 ns ns.length) l 0; omega⟩, HT.out, H9.out⟩
      case measure => simp [intOf]; omega
    · rcases hex with hex | ⟨hex, hex2⟩
      all_goals
        go_wp2_with fail
        go_loopw [5, 7] (fun nv iv wx => ∃ (i : Nat) (n : Int), nv = .int .i64 n ∧ iv = .int .i64 (i : Int) ∧ i ≤ l.length ∧ 0 ≤ n ∧ Hid (n ≤ parts + smallTop ∧ (n ≤ parts → n = (elemW (nameW n0 ns ns.length) l i : Int)) ∧ ((elemW (nameW n0 ns ns.length) l l.length : Int) ≤ parts → n ≤ parts)) ∧ Only w wx ∧ Own4 wx w.heap.size (.int .i64 k) (txt t) (.slice sp l.length cap) (.slice sq ns.length cq)) (fun _ iv _ => l.length - (intOf iv).toNat)
        case atStart => exact ⟨0, n, rfl, rfl, Nat.zero_le _, hn, Lib.hid ⟨HF.out.1, fun h => by have := HNW.out h; simp [elemW, weightL]; exact this, HF.out.2.2⟩, HT.out, H9.out⟩
        case round =>
          clear x0 x1 x2 x3 HF HNW HT H9 hn ht hex
          obtain ⟨i, n, rfl, rfl, hi, hn, HF, ht, o⟩ := hrel
          have H9 := Lib.hid o
          have HT := Lib.hid ht
          obtain ⟨⟨x0, x1, x2, x3⟩, -⟩ := o.all
          clear o
          have key : (i < l.length ∧ n ≤ parts) ∨ Hid (n ≤ parts → n = (elemW (nameW n0 ns ns.length) l l.length : Int)) ∧ (¬ i < l.length ∨ (i < l.length ∧ ¬ n ≤ parts)) := by
            have := HF.out.2.1
            by_cases h1 : i < l.length
            · by_cases h2 : n ≤ parts
              · exact Or.inl ⟨h1, h2⟩
              · exact Or.inr ⟨Lib.hid fun h => absurd h h2, Or.inr ⟨h1, h2⟩⟩
            · obtain rfl : i = l.length := by omega
              exact Or.inr ⟨Lib.hid this, Or.inl h1⟩
          rcases key with ⟨hlt, hle⟩ | ⟨HNW, hex⟩
          · have ij : (i : Int) < (l.length : Int) := by omega
            rcases HC.out with h0 | ⟨g, off, rfl, hcell⟩
            · rw [h0] at hlt; simp at hlt
            obtain ⟨c0, c1, c2, c3, ⟨q0, q1, q2, q3⟩, hgx⟩ := GCells.at_ (GCells.only ht l hcell) i hlt
            obtain ⟨k9, t9, sp9, n9, m9, sq9, u9, v9, rfl, rfl, rfl, rfl⟩ := GIn.shape hgx
            have e9 : (⟨g, off, none⟩ : Addr).add (i * 4) = ⟨g, off + i * 4, none⟩ := add_at _ _ _
            have hnx := elemW_next (a := nameW n0 ns ns.length) hlt
            have C := Lib.hid (IH.out i hlt _ wr (parts - n) hgx (by omega) (by omega))
            unfold SmallIs at C
            obtain ⟨z, hz⟩ : ∃ z, z = weightG l[i] := ⟨_, rfl⟩
            rw [← hz] at hnx C
            obtain ⟨q, hq⟩ : ∃ q, q = parts - n := ⟨_, rfl⟩
            have hq0 : parts - n = q := hq.symm
            rw [hq0] at C
            have HQ := Lib.hid (And.intro hq (show (0 : Int) ≤ q ∧ q ≤ 200 from ⟨by omega, by omega⟩))
            have HX := Lib.hid hnx
            have HLE := Lib.hid hle
            clear hcell hnx ht hgx hz hq
            go_wp2_with (go_at_call 9; refine C.out.mono ?_; rintro r w3 ⟨⟨rr, rfl, hr0, hr1, hr2, hr3⟩, t3⟩; have HR := Lib.hid (And.intro hr2 hr3); have hsum : n + rr ≤ 200 + smallTop := (by have := HQ.out; omega); have hsum2 : n + rr ≤ 9223372036854775807 := (by unfold smallTop at hsum; omega); have H3 := Lib.hid t3; clear hr2 hr3 t3)
            go_roundw
            case rel => exact ⟨i + 1, n + rr, rfl, by push_cast; rfl, hlt, by omega, Lib.hid ⟨by have := HQ.out; omega, fun h => by
              have h1 := HF.out.2.1 HLE.out
              have h2 := HR.out.1 (by have := HQ.out; omega)
              have h3 := HX.out
              omega, fun h => by
              have h1 := HF.out.2.1 HLE.out
              have h3 := HX.out
              have h4 := (elemW_le (nameW n0 ns ns.length) l (i + 1)).2
              have h5 := HR.out.2 (by have := HQ.out; omega)
              have := HQ.out; omega⟩, HT.out.trans H3.out, H9.out.only H3.out⟩
            case measure => simp [intOf]; omega
          · rcases hex with hex | ⟨hex, hex2⟩
            all_goals
              go_wp2_with fail
              go_ret
              refine ⟨⟨n, rfl, hn, HF.out.1, fun h => ?_, fun h => ?_⟩, HT.out⟩
              · rw [HW.out]
                exact HNW.out h
              · rw [HW.out] at h
                exact HF.out.2.2 h

/-- the whole of Small -/
theorem small_any : ∀ (m : Nat) (x : GV) (v : Value) (w : World) (parts : Int), SizeOf.sizeOf x ≤ m → GIn w x v → Broad x → 0 ≤ parts → parts ≤ 200 → Calls Tryd.prog 9 #[v, .int .i64 parts] w (SmallIs x parts w)
  | 0, x, v, w, parts, hm, _, _, _, _ => by cases x; simp at hm
  | m + 1, .mk k t l ns, v, w, parts, hm, hx, hB, h0, h1 => by
    have hB' := hB
    unfold Broad at hB'
    refine small_step hx hB h0 h1 fun i hi v' w' q hv hq0 hq1 => small_any m l[i] v' w' q ?_ hv (hB'.2.2.2.2.at_ i hi) hq0 hq1
    have := List.sizeOf_lt_of_mem (List.getElem_mem hi)
    simp at hm
    omega
end Go.Proofs.YtdhkpkojnokjdaaDoor

/-
  A value that is not large: its lengths, its text's length.
-/
namespace Go.Proofs.YtdhkpkojnokjdaaDoor
open Go.RowKit Go.Shelf Sorted
set_option linter.unusedVariables false
set_option linter.unusedSimpArgs false

theorem sum_mem {α : Type} {f : α → Nat} : ∀ {l : List α} {x : α}, x ∈ l → f x ≤ (l.map f).sum
  | y :: l, x, h => by
    rcases List.mem_cons.1 h with rfl | h
    · simp
    · have := sum_mem (f := f) h
      simp only [List.map_cons, List.sum_cons]; omega
theorem sum_le {α : Type} {f g : α → Nat} {c : Nat} (h : ∀ x, f x ≤ c * g x) : ∀ l : List α, (l.map f).sum ≤ c * (l.map g).sum
  | [] => by simp
  | x :: l => by
    have := sum_le h l
    have := h x
    simp only [List.map_cons, List.sum_cons]
    rw [Nat.mul_add]; omega
theorem weightL_mem : ∀ {l : List GV} {x : GV}, x ∈ l → weightG x ≤ weightL l
  | y :: l, x, h => by
    rw [weightL]
    rcases List.mem_cons.1 h with rfl | h
    · omega
    · have := weightL_mem h; omega
theorem count_le (ns : List (List UInt8)) : ns.length ≤ (ns.map fun s => 1 + s.length / 20).sum := by
  induction ns with
  | nil => simp
  | cons s r ih => simp only [List.length_cons, List.map_cons, List.sum_cons]; omega
theorem pad_sum (ts : List (List UInt8)) : ∀ (n a : Nat), ((List.range' a n).map fun i => (ts.getD i []).length).sum ≤ ((ts.drop a).map List.length).sum
  | 0, a => by simp
  | n + 1, a => by
    have ih := pad_sum ts n (a + 1)
    rw [List.range'_succ, List.map_cons, List.sum_cons]
    by_cases h : a < ts.length
    · rw [List.drop_eq_getElem_cons h, List.map_cons, List.sum_cons, getD_in h]; omega
    · have e : ts.getD a [] = [] := by simp [List.getD, List.getElem?_eq_none (by omega : ts.length ≤ a)]
      rw [e]
      rw [List.drop_eq_nil_of_le (by omega : ts.length ≤ a + 1)] at ih
      simp only [List.map_nil, List.sum_nil] at ih
      simp only [List.length_nil]
      omega
theorem objG_len2 (l : List GV) (ns : List (List UInt8)) : (objG ordN l ns).length ≤ 2 + lenQ ns + lenT (textL ordN l) + ns.length := by
  have h1 := joinB_lenT ((ordN ns).map (memG ordN l ns))
  have h2 : lenT ((ordN ns).map (memG ordN l ns)) ≤ lenQ ns + lenT (textL ordN l) + ns.length := by
    have p := ((ordN_perm ns).map fun i => ((quoteB (ns.getD i [])).length + 1) + (((textL ordN l).getD i []).length + 1)).sum_nat
    unfold lenT
    rw [List.map_map]
    have e1 : (fun t : List UInt8 => t.length + 1) ∘ memG ordN l ns = fun i => ((quoteB (ns.getD i [])).length + 1) + (((textL ordN l).getD i []).length + 1) := by
      funext i
      simp only [Function.comp, memG, List.length_append, List.length_cons]
      omega
    rw [e1, p, sum_map_add, sum_map_add (fun i => ((textL ordN l).getD i []).length) (fun _ => 1)]
    have a1 : ((List.range' 0 ns.length).map fun i => (quoteB (ns.getD i [])).length + 1).sum = lenQ ns := by
      unfold lenQ
      have := congrArg (List.map fun t : List UInt8 => (quoteB t).length + 1) (map_range ns [])
      rw [List.map_map] at this
      rw [← this]
      rfl
    have a2 := pad_sum (textL ordN l) ns.length 0
    rw [List.drop_zero] at a2
    have a3 : ((textL ordN l).map List.length).sum ≤ ((textL ordN l).map fun t => t.length + 1).sum := by
      have := sum_le (f := List.length) (g := fun t : List UInt8 => t.length + 1) (c := 1) (fun x => by omega) (textL ordN l)
      omega
    have a4 : ((List.range' 0 ns.length).map fun _ => 1).sum = ns.length := by simp [List.map_const', List.sum_replicate_nat]
    omega
  unfold objG
  simp only [List.length_cons, List.length_append, List.length_nil]
  omega

mutual
theorem text_light : ∀ x : GV, (textG ordN x).length + 1 ≤ 200 * weightG x
  | .mk k t l ns => by
    have hW : weightG (.mk k t l ns) = 1 + (t.length + ns.length + l.length) / 20 + (ns.map fun s => 1 + s.length / 20).sum + weightL l := by rw [weightG]
    rw [hW]
    by_cases h1 : k = 1
    · subst h1; simp [textG]; omega
    by_cases h2 : k = 2
    · subst h2; simp [textG]; omega
    by_cases h3 : k = 3
    · subst h3; simp [textG]; omega
    by_cases h4 : k = 4
    · subst h4
      have := quoteB_len t
      simp [textG]; omega
    by_cases h5 : k = 5
    · subst h5
      have e : textG ordN (.mk 5 t l ns) = 91 :: (joinB (textL ordN l) ++ [93]) := by simp [textG]
      have a := joinB_lenT (textL ordN l)
      have b := texts_light l
      rw [e]
      simp only [List.length_cons, List.length_append, List.length_nil]
      omega
    by_cases h6 : k = 6
    · subst h6
      have e : textG ordN (.mk 6 t l ns) = objG ordN l ns := by rw [textG]; simp; rfl
      have a := objG_len2 l ns
      have b := texts_light l
      have c : lenQ ns ≤ 123 * (ns.map fun s => 1 + s.length / 20).sum := sum_le (fun s => by have := quoteB_len s; omega) ns
      have d := count_le ns
      rw [e]
      omega
    · simp [textG, h1, h2, h3, h4, h5, h6]; omega
theorem texts_light : ∀ l : List GV, lenT (textL ordN l) ≤ 200 * weightL l
  | [] => by simp [textL, lenT]
  | x :: r => by
    have a := text_light x
    have b := texts_light r
    rw [textL, weightL]
    unfold lenT at b ⊢
    rw [List.map_cons, List.sum_cons]
    omega
end
mutual
theorem fine_light : ∀ x : GV, weightG x ≤ 200 → Fine x ∧ Slim x
  | .mk k t l ns, h => by
    rw [weightG] at h
    have d := count_le ns
    have hn : ∀ s ∈ ns, s.length ≤ 1000000 := fun s hs => by
      have : 1 + s.length / 20 ≤ _ := sum_mem (f := fun s : List UInt8 => 1 + s.length / 20) hs
      omega
    obtain ⟨a, b⟩ := fines_light l (by omega)
    unfold Fine Slim
    exact ⟨⟨by omega, by omega, by omega, hn, a⟩, ⟨by omega, by omega, by omega, hn, b⟩⟩
theorem fines_light : ∀ l : List GV, weightL l ≤ 200 → FineL l ∧ SlimL l
  | [], _ => by unfold FineL SlimL; exact ⟨trivial, trivial⟩
  | x :: r, h => by
    rw [weightL] at h
    obtain ⟨a, b⟩ := fine_light x (by omega)
    obtain ⟨c, d⟩ := fines_light r (by omega)
    unfold FineL SlimL
    exact ⟨⟨a, c⟩, ⟨b, d⟩⟩
end
end Go.Proofs.YtdhkpkojnokjdaaDoor

/-
  Of the law of back and forth: Print and Parse where neither refuses; bytes compared; no value held against no value.
-/
namespace Go.Proofs.YtdhkpkojnokjdaaDoor
open Go.RowKit Go.Maps Go.WideMaps Go.Shelf
set_option linter.unusedVariables false
set_option linter.unusedSimpArgs false

theorem print_ok {x : GV} {v : Value} {w : World} (hx : GIn w x v) (hF : Fine x) (hT : Tb w) (he : errG (twG ordN) x 0 = 0) (hl : (textG ordN x).length ≤ 65536) :
    Calls Tryd.prog 10 #[v] w fun e w' => (∃ sp cap, e = .returned (.tuple #[.slice sp (textG ordN x).length cap, .int .i64 0]) ∧ BytesO w' w.heap.size (.slice sp (textG ordN x).length cap) (textG ordN x)) ∧ Only w w' := by
  refine (printN_any hx hF hT (by omega)).mono ?_
  have hz : printE ordN (twG ordN) x = 0 := by
    unfold printE
    rw [if_neg (by rw [he]; decide), if_neg (by omega)]
  rintro e w' ⟨⟨bv, rfl, h1, -⟩, t⟩
  have hb := h1 hz
  rw [hz]
  obtain ⟨sp, cap, rfl⟩ := hb.slice
  exact ⟨⟨sp, cap, rfl, hb⟩, t⟩
theorem print_bad {x : GV} {v : Value} {w : World} (hx : GIn w x v) (hF : Fine x) (hT : Tb w) (he : printE ordN (twG ordN) x ≠ 0) (hl : (textG ordN x).length ≤ 65536) :
    Calls Tryd.prog 10 #[v] w fun e w' => e = .returned (.tuple #[.slice none 0 0, .int .i64 (printE ordN (twG ordN) x)]) ∧ Only w w' := by
  refine (printN_any hx hF hT (by omega)).mono ?_
  rintro e w' ⟨⟨bv, rfl, -, h1⟩, t⟩
  rw [h1 he]
  exact ⟨rfl, t⟩
theorem parse_ok {v : Value} {l : List UInt8} {w : World} (hb : BytesIn w v l) (hlen : l.length ≤ 65536) (hT : Tb w) {y : JV} {q : Nat} (hp : parseE l = .ok y q) :
    Calls Tryd.prog 12 #[v] w fun e w' => (∃ (k : Int) (t : List UInt8) (sp : Option Addr) (n c : Nat) (sq : Option Addr) (m d : Nat), e = .returned (.tuple #[.agg #[.int .i64 k, txt t, .slice sp n c, .slice sq m d], .int .i64 0, .int .i64 0]) ∧ GIn w' (toG y) (.agg #[.int .i64 k, txt t, .slice sp n c, .slice sq m d])) ∧ Only w w' := by
  refine (parseN_any hb hlen hT).mono ?_
  rintro e w' ⟨t, h⟩
  rw [hp] at h
  obtain ⟨v, rfl, hv⟩ := h
  obtain ⟨kk, tt, La, Na, rfl, ⟨la1, la2, la3, rfl⟩, ⟨na1, na2, na3, rfl⟩⟩ := hv.form
  exact ⟨⟨_, _, _, _, _, _, _, _, rfl, hv.gin⟩, t⟩
theorem parse_bad {v : Value} {l : List UInt8} {w : World} (hb : BytesIn w v l) (hlen : l.length ≤ 65536) (hT : Tb w) {a b : Nat} (hp : parseE l = .bad a b) :
    Calls Tryd.prog 12 #[v] w fun e w' => (∃ a' : Int, e = .returned (.tuple #[.agg #[.int .i64 0, .string ⟨#[]⟩, .slice none 0 0, .slice none 0 0], .int .i64 a', .int .i64 (b : Int)])) ∧ Only w w' := by
  refine (parseN_any hb hlen hT).mono ?_
  rintro e w' ⟨t, h⟩
  rw [hp] at h
  obtain ⟨a', -, rfl⟩ := h
  exact ⟨⟨a', rfl⟩, t⟩

/-- a value and what its text is read as, compared -/
theorem same_back {x : GV} {a b : Value} {w : World} (he : errG (twG ordN) x 0 = 0) (ha : GIn w (toG (readG x)) a) (hb : GIn w x b) (s1 : Slim (toG (readG x))) (s2 : Slim x) :
    Calls Tryd.prog 13 #[a, b] w fun e w' => e = .returned (.bool true) ∧ Only w w' := by
  have h := same_any (SizeOf.sizeOf (toG (readG x)) + 1) (toG (readG x)) x w a b (Nat.lt_succ_self _) ha hb s1 s2
  rw [(same_read _ x 0 he).2] at h
  exact h
theorem same_forth {x : GV} {a b : Value} {w : World} (he : errG (twG ordN) x 0 = 0) (ha : GIn w x a) (hb : GIn w (toG (readG x)) b) (s1 : Slim x) (s2 : Slim (toG (readG x))) :
    Calls Tryd.prog 13 #[a, b] w fun e w' => e = .returned (.bool true) ∧ Only w w' := by
  have h := same_any (SizeOf.sizeOf x + 1) x (toG (readG x)) w a b (Nat.lt_succ_self _) ha hb s1 s2
  rw [(same_read _ x 0 he).1] at h
  exact h

/-- bytes in memory, read byte by byte -/
def BytesC (w : World) (v : Value) (l : List UInt8) : Prop := ∃ sp cap, v = .slice sp l.length cap ∧ (l = [] ∨ ∃ g, sp = some ⟨g, 0, none⟩ ∧ ∀ i (h : i < l.length), w.cell? ⟨g, i, none⟩ = some (.int .u8 (l[i].toNat : Int)))
theorem BytesO.c {w : World} {base : Nat} {v : Value} {l : List UInt8} (h : BytesO w base v l) : BytesC w v l := by
  rcases h.form with ⟨rfl, rfl⟩ | ⟨g, cap, rfl, -, hc⟩
  · exact ⟨none, 0, rfl, Or.inl rfl⟩
  · exact ⟨_, cap, rfl, Or.inr ⟨g, rfl, fun i hi => hc i _ (by simp [u8V, hi])⟩⟩
theorem BytesC.only {w w' : World} {v : Value} {l : List UInt8} (h : BytesC w v l) (t : Only w w') : BytesC w' v l := by
  obtain ⟨sp, cap, e, h⟩ := h
  refine ⟨sp, cap, e, ?_⟩
  rcases h with h | ⟨g, e2, hc⟩
  · exact Or.inl h
  · exact Or.inr ⟨g, e2, fun i hi => cell_only (hc i hi) t⟩

set_option maxRecDepth 100000 in
set_option maxHeartbeats 1600000 in
/-- the same bytes are the same -/
theorem sameBytes_self {a b : Value} {l : List UInt8} {w : World} (ha : BytesC w a l) (hb : BytesC w b l) (hl : l.length ≤ 1000000) : Calls Tryd.prog 14 #[a, b] w fun e w' => e = .returned (.bool true) ∧ Only w w' := by
  obtain ⟨sp, cap, rfl, hc⟩ := ha
  obtain ⟨sp2, cap2, rfl, hc2⟩ := hb
  have HC := Lib.hid hc
  have HC2 := Lib.hid hc2
  have il : (l.length : Int) ≤ 1000000 := by omega
  clear hc hc2
  go_enter Tryd.func14, Tryd.ntmps14
  go_wp2_with fail
  go_loopw [5] (fun iv wx => ∃ j : Nat, iv = .int .i64 (j : Int) ∧ j ≤ l.length ∧ Only w wx) (fun iv _ => l.length - (intOf iv).toNat)
  case atStart => exact ⟨0, rfl, Nat.zero_le _, Only.refl _⟩
  case round =>
    obtain ⟨j, rfl, hj, ht⟩ := hrel
    have HT := Lib.hid ht
    by_cases hlt : j < l.length
    · have ij : (j : Int) < (l.length : Int) := by omega
      rcases HC.out with h0 | ⟨g, rfl, hcell⟩
      · rw [h0] at hlt; simp at hlt
      rcases HC2.out with h0 | ⟨g2, rfl, hcell2⟩
      · rw [h0] at hlt; simp at hlt
      have c1 := cell_cone (cell_only (hcell j hlt) ht)
      have c2 := cell_cone (cell_only (hcell2 j hlt) ht)
      have e1 := add_at0 g j
      have e2 := add_at0 g2 j
      obtain ⟨z, hz⟩ : ∃ z, z = l[j].toNat := ⟨_, rfl⟩
      rw [← hz] at c1 c2
      clear hcell hcell2 hz ht
      go_wp2_with fail
      refine wp_region_cone (by kernel_rfl) (by kernel_rfl) ?_
      repeat (any_goals (first | go_big_quiet_step ((fail)) | quiet_step ((fail))))
      refine wpQuiet_nil ?_
      rintro w2 ⟨⟨_, t2⟩, rfl⟩
      have HT2 := Lib.hid (HT.out.trans t2)
      clear t2 c1 c2
      go_wp2_with fail
      go_roundw
      case rel => exact ⟨j + 1, by push_cast; rfl, hlt, HT2.out⟩
      case measure => simp [intOf]; omega
    · have ij : ¬ (j : Int) < (l.length : Int) := by omega
      go_wp2_with fail
      go_ret
      exact ⟨rfl, HT.out⟩

set_option maxRecDepth 100000 in
/-- no texts are no texts -/
theorem sameTexts_nil (w : World) : Calls Tryd.prog 28 #[.slice none 0 0, .slice none 0 0] w fun e w' => e = .returned (.bool true) ∧ Only w w' := by
  go_enter Tryd.func28, Tryd.ntmps28
  go_wp2_with fail
  go_loopw [5] (fun iv wx => iv = .int .i64 0 ∧ Only w wx) (fun iv _ => 0)
  case atStart => exact ⟨rfl, Only.refl _⟩
  case round =>
    obtain ⟨rfl, ht⟩ := hrel
    go_wp2_with fail
    go_ret
    exact ⟨rfl, ht⟩

abbrev zeroV : Value := .agg #[.int .i64 0, .string ⟨#[]⟩, .slice none 0 0, .slice none 0 0]
set_option maxRecDepth 100000 in
/-- no value is no value -/
theorem same_zero (w : World) : Calls Tryd.prog 15 #[zeroV, zeroV] w fun e w' => e = .returned (.bool true) ∧ Only w w' := by
  have SN := Lib.hid sameTexts_nil
  have O1 := Lib.hid ((Own4.new w (.int .i64 0) (.string ⟨#[]⟩) (.slice none 0 0) (.slice none 0 0) 25).only ((Only.refl _).alloc (.cells #[.int .i64 0, .string ⟨#[]⟩, .slice none 0 0, .slice none 0 0] 40)))
  have O2 : Own4 ((w.alloc (.cells #[.int .i64 0, .string ⟨#[]⟩, .slice none 0 0, .slice none 0 0] 25)).alloc (.cells #[.int .i64 0, .string ⟨#[]⟩, .slice none 0 0, .slice none 0 0] 40)) (w.heap.size + 1) (.int .i64 0) (.string ⟨#[]⟩) (.slice none 0 0) (.slice none 0 0) := by
    have := Own4.new (w.alloc (.cells #[.int .i64 0, .string ⟨#[]⟩, .slice none 0 0, .slice none 0 0] 25)) (.int .i64 0) (.string ⟨#[]⟩) (.slice none 0 0) (.slice none 0 0) 40
    simpa using this
  obtain ⟨⟨x0, x1, x2, x3⟩, -⟩ := O1.out.all
  obtain ⟨⟨y0, y1, y2, y3⟩, -⟩ := O2.all
  have HA := Lib.hid (((Only.refl w).alloc (.cells #[.int .i64 0, .string ⟨#[]⟩, .slice none 0 0, .slice none 0 0] 25)).alloc (.cells #[.int .i64 0, .string ⟨#[]⟩, .slice none 0 0, .slice none 0 0] 40))
  clear O2
  go_enter Tryd.func15, Tryd.ntmps15
  go_wp2_with (go_at_call 28; refine (SN.out _).mono ?_; rintro r w1 ⟨rfl, t1⟩)
  have H1 := Lib.hid (HA.out.trans t1)
  have o1 := Lib.hid (O1.out.only t1)
  clear t1 x0 x1 x2 x3 y0 y1 y2 y3
  go_loopw [5] (fun iv wx => iv = .int .i64 0 ∧ Only w1 wx) (fun iv _ => 0)
  case atStart => exact ⟨rfl, Only.refl _⟩
  case round =>
    obtain ⟨rfl, ht⟩ := hrel
    have o2 := o1.out.only ht
    obtain ⟨⟨x0, x1, x2, x3⟩, -⟩ := o2.all
    have H2 := Lib.hid (H1.out.trans ht)
    clear o2 ht
    go_wp2_with fail
    go_ret
    exact ⟨rfl, H2.out⟩
end Go.Proofs.YtdhkpkojnokjdaaDoor
