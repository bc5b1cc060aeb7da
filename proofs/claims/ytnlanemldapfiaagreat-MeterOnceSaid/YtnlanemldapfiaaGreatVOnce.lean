/-
  MeterOnce: the walk.
-/
import Derived.Test.YtnlanemldapfiaaGreatVOnceP
import Derived.BigQuiet
import Derived.Deep.CutBlock
import Derived.Deep.DeepCutAuto
namespace Go.Proofs.YtnlanemldapfiaaGreat.se
open Go.RowKit Go.Maps Go.WideMaps Go.Shelf Go.Sort Go.Proofs.YtnlanemldapfiaaGreat.Tb
set_option linter.unusedVariables false

theorem MetR.beside {w w' : World} {mp mp' rep rep' : Nat} {t t' : Tr Key Val} (h : MetR w mp t rep) (h' : MetR w mp' t' rep') (hne : mp ≠ mp') (ht : Turn (fun b => b = mp') w w') : MetR w' mp t rep := by
  obtain ⟨hz, root, ver, hv, hm, hr⟩ := h
  obtain ⟨_, _, _, _, hm', _⟩ := h'
  exact ⟨hz, root, ver, hv, hm.later ht hne, hr.turned ht hm'.noNode⟩

/-- two meters of one's own -/
structure Two (w wr : World) (A B : Nat) (ta tb : Tr Key Val) (ra rb : Nat) : Prop where
  a : MetR wr A ta ra
  b : MetR wr B tb rb
  ne : A ≠ B
  la : w.heap.size ≤ A
  lb : w.heap.size ≤ B
  turn : Turn (fun _ => False) w wr

theorem Two.later {w wr w' : World} {A B : Nat} {ta tb : Tr Key Val} {ra rb : Nat} (h : Two w wr A B ta tb ra rb) (ht : Turn (fun _ => False) wr w') : Two w w' A B ta tb ra rb :=
  ⟨h.a.later ht, h.b.later ht, h.ne, h.la, h.lb, h.turn.trans ht (fun _ _ q => q)⟩
theorem Two.ingA {w wr w' : World} {A B : Nat} {ta ta' tb : Tr Key Val} {ra ra' rb : Nat} (h : Two w wr A B ta tb ra rb) (ha : MetR w' A ta' ra') (ht : Turn (fun b => b = A) wr w') : Two w w' A B ta' tb ra' rb :=
  ⟨ha, h.b.beside h.a (fun e => h.ne e.symm) ht, h.ne, h.la, h.lb, turn_own h.turn h.la ht⟩
theorem Two.ingB {w wr w' : World} {A B : Nat} {ta tb tb' : Tr Key Val} {ra rb rb' : Nat} (h : Two w wr A B ta tb ra rb) (hb : MetR w' B tb' rb') (ht : Turn (fun b => b = B) wr w') : Two w w' A B ta tb' ra rb' :=
  ⟨h.a.beside h.b h.ne ht, hb, h.ne, h.la, h.lb, turn_own h.turn h.lb ht⟩

/-- it answers true and turns nothing -/
def Fine (w : World) (r : Ending) (w' : World) : Prop := r = .returned (.bool true) ∧ Turn (fun _ => False) w w'

theorem Short.evIn {x : Ev} (h : Short x) : EvIn x := ⟨by have := h.k; omega, by have := h.a; omega, by have := h.m; omega⟩

/-- the first k of them: no two unlike ones of one key -/
def Pairs (l : List Ev) (k : Nat) : Prop := ∀ i j x y, j < i → i < k → l[i]? = some x → l[j]? = some y → x.key = y.key → x = y
theorem pairs_zero (l : List Ev) : Pairs l 0 := fun i j x y _ h => absurd h (by omega)
theorem Pairs.alike {l : List Ev} (h : Pairs l l.length) : Alike l := by
  intro x hx y hy e
  obtain ⟨i, hi, rfl⟩ := List.getElem_of_mem hx
  obtain ⟨j, hj, rfl⟩ := List.getElem_of_mem hy
  rcases Nat.lt_trichotomy i j with h1 | h1 | h1
  · exact (h j i _ _ h1 hj (List.getElem?_eq_getElem hj) (List.getElem?_eq_getElem hi) e.symm).symm
  · subst h1; rfl
  · exact h i j _ _ h1 hi (List.getElem?_eq_getElem hi) (List.getElem?_eq_getElem hj) e
theorem Pairs.succ {l : List Ev} {k : Nat} {x : Ev} (h : Pairs l k) (hx : l[k]? = some x) (h2 : ∀ j y, j < k → l[j]? = some y → x.key = y.key → x = y) : Pairs l (k + 1) := by
  intro i j x' y hj hi hx' hy e
  rcases Nat.lt_succ_iff_lt_or_eq.1 hi with h3 | rfl
  · exact h i j x' y hj h3 hx' hy e
  · rw [hx] at hx'
    cases hx'
    exact h2 j y hj hy e

/-- a place within a list, whatever number comes -/
theorem rem_at (z : Int) {n : Nat} (hn : 0 < n) : ∃ q : Nat, q < n ∧ ∃ p : Int, Int.tmod z (n : Int) = p ∧ Int.tmod (p + (n : Int)) (n : Int) = (q : Int) ∧ -(n : Int) < p ∧ p < (n : Int) := by
  have h1 : -(n : Int) < Int.tmod z (n : Int) ∧ Int.tmod z (n : Int) < (n : Int) := by
    have := Int.natAbs_tmod z (n : Int)
    have h2 : z.natAbs % (n : Int).natAbs < (n : Int).natAbs := Nat.mod_lt _ (by omega)
    omega
  have h3 : 0 ≤ Int.tmod (Int.tmod z n + n) (n : Int) := Int.tmod_nonneg _ (by omega)
  have h4 : Int.tmod (Int.tmod z n + n) (n : Int) < (n : Int) := Int.tmod_lt_of_pos _ (by omega)
  exact ⟨(Int.tmod (Int.tmod z n + n) (n : Int)).toNat, by omega, _, rfl, by omega, h1.1, h1.2⟩

theorem EvsR.later {w w' : World} {v : Value} {l : List Ev} (h : EvsR w v l) (t : Turn (fun _ => False) w w') : EvsR w' v l := by
  obtain ⟨sp, cap, h1, h2⟩ := h
  refine ⟨sp, cap, h1, fun h0 => ?_⟩
  obtain ⟨b, o, e, h3⟩ := h2 h0
  exact ⟨b, o, e, fun i x hx => (h3 i x hx).later t⟩

set_option maxRecDepth 100000 in
set_option maxHeartbeats 8000000 in
theorem once_any {w : World} {v vi : Value} {l : List Ev} {zs : List Int} (hl : EvsR w v l) (hll : l.length ≤ 9223372036854775807) (hlb : ∀ x ∈ l, EvB x) (hz : IntsR w vi zs) (hzl : zs.length ≤ 9223372036854775807) (hzb : ∀ x ∈ zs, I64 x)
    (acc : List UInt8) (hacc : acc.length ≤ 9223372036854775807) (fr mid til : Int) (hfr : I64 fr) (hmid : I64 mid) (hto : I64 til) :
    Calls Tryz.prog 3 #[v, vi, strE acc, .int .i64 fr, .int .i64 mid, .int .i64 til] w (Fine w) := by
  have HFIRST := Lib.hid (first_any w)
  have HFEW := Lib.hid (fun w' (t : Turn (fun _ => False) w w') => few_any (hl.later t) hll hlb)
  obtain ⟨sp, cap, rfl, hc⟩ := hl
  obtain ⟨spi, capi, rfl, hci⟩ := hz
  have HC := Lib.hid hc
  have HCI := Lib.hid hci
  have HLB := Lib.hid hlb
  have HZB := Lib.hid hzb
  have HFR := Lib.hid hfr
  have HMID := Lib.hid hmid
  have HTO := Lib.hid hto
  clear hc hci hlb hzb hfr hmid hto
  go_enter Tryz.func3, Tryz.ntmps3
  go_wp2_with (go_at_call 6; refine HFIRST.out.mono ?_; rintro r w1 ⟨rfl, t1⟩)
  go_at_call 7
  refine (HFEW.out _ t1).mono ?_
  rintro r w2 ⟨b, rfl, hb, rfl⟩
  have early : ∀ (W : World), True := fun _ => trivial
  clear early HFIRST HFEW
  cases b with
  | false =>
    have T := t1
    clear hb t1
    go_wp2_with (go_at_call 8; refine (newM_any _).mono ?_; rintro r w9 ⟨rfl, m9, t9⟩; have T := T.trans t9 (fun _ _ q => q); clear m9 t9)
    go_ret
    exact ⟨rfl, T⟩
  | true =>
    obtain ⟨hl200, hsh⟩ := hb rfl
    have HSH := Lib.hid hsh
    clear hb hsh
    by_cases h100 : l.length ≤ 100
    · by_cases hz100 : zs.length ≤ 100
      · by_cases ha100 : acc.length ≤ 100
        · have T := t1
          have i1 : (l.length : Int) ≤ 100 := by omega
          have i2 : (zs.length : Int) ≤ 100 := by omega
          have i3 : decide (100 < (acc.length : Int)) = false := by simp; omega
          clear t1
          have HL1 := Lib.hid h100
          have HZ1 := Lib.hid hz100
          have HA1 := Lib.hid ha100
          clear hl200 h100 hz100 ha100 hacc
          go_wp2_with fail
          go_at_call 8
          refine (newM_any _).mono ?_
          rintro r w3 ⟨rfl, m3, t3⟩
          obtain ⟨A, hA⟩ : ∃ A, w2.heap.size = A := ⟨_, rfl⟩
          rw [hA] at m3 ⊢
          have hAw : w.heap.size ≤ A := by rw [← hA]; exact T.size
          have hA3 : A < w3.heap.size := by obtain ⟨_, _, _, _, hm, _⟩ := m3; exact (Array.getElem?_eq_some_iff.1 hm).1
          clear hA
          go_wp2_with fail
          go_at_call 8
          refine (newM_any _).mono ?_
          rintro r w4 ⟨rfl, m4, t4⟩
          obtain ⟨Bk, hB⟩ : ∃ Bk, w3.heap.size = Bk := ⟨_, rfl⟩
          rw [hB] at m4 ⊢
          have HTW := Lib.hid (show Two w w4 A Bk .nil .nil 0 0 from ⟨m3.later t4, m4, by omega, hAw, by omega, (T.trans t3 (fun _ _ q => q)).trans t4 (fun _ _ q => q)⟩)
          clear hB m3 m4 t3 t4 hAw hA3 T
          go_upto_block 0 with fail
          go_cut [17] (fun _ wc => ∃ (t : Tr Key Val) (rep : Nat), rep ≤ l.length ∧ Kept t l ∧ Two w wc A Bk t .nil rep 0)
          case first =>
            as_aux_lemma =>
              go_wp2_with fail
              go_loopw [17] (fun i wr => ∃ (k : Nat) (t : Tr Key Val) (rep : Nat), k ≤ l.length ∧ i = .int .i64 k ∧ rep ≤ k ∧ Kept t (l.take k) ∧ Two w wr A Bk t .nil rep 0) (fun i _ => l.length - (intOf i).toNat)
              case atStart => exact ⟨0, .nil, 0, Nat.zero_le _, rfl, Nat.le_refl _, kept_nil, HTW.out⟩
              case round =>
                obtain ⟨k, t, rep, hk, rfl, hrep, hkp, htw⟩ := hrel
                have i4 : (0 : Int) ≤ (k : Int) := by omega
                by_cases hlt : k < l.length
                · obtain ⟨b, o, e1, x1⟩ := HC.out (by omega)
                  subst e1
                  have hx := x1 k l[k] (List.getElem?_eq_getElem hlt)
                  obtain ⟨c0, c1, c2, c3, c4⟩ := hx.later htw.turn
                  have HSX := Lib.hid (HSH.out l[k] (List.getElem_mem hlt)).evIn
                  have HTK := Lib.hid (show l.take (k + 1) = l.take k ++ [l[k]] by rw [List.take_add_one, List.getElem?_eq_getElem hlt]; rfl)
                  have i5 : (k : Int) < (l.length : Int) := by omega
                  have HH := Lib.hid (show k < l.length ∧ k ≤ 100 ∧ rep ≤ k by have := HL1.out; omega)
                  have HKP := Lib.hid hkp
                  have HW := Lib.hid htw
                  clear hk hrep hkp htw hx x1 HTW
                  generalize l[k] = x at *
                  clear hlt
                  go_wp2_with fail
                  go_at_call 9
                  refine (ingest_any HW.out.a (by have := HH.out; omega) x HSX.out).mono ?_
                  rintro r w5 ⟨rfl, m5, t5⟩
                  have HW5 := Lib.hid (HW.out.ingA m5 t5)
                  have HKP5 := Lib.hid (HKP.out.ing (by have := HH.out; simp; omega) x)
                  obtain ⟨va, hva⟩ : ∃ va, ingA t x = va := ⟨_, rfl⟩
                  rw [hva]
                  have HR5 := Lib.hid (ingR_le t rep x)
                  clear hva m5 t5 c0 c1 c2 c3 c4
                  go_wp2_with fail
                  go_roundw
                  case rel => exact ⟨k + 1, ingT t x, ingR t rep x, HH.out.1, by go_num, by have := HR5.out; have := HH.out; omega, by rw [HTK.out]; exact HKP5.out, HW5.out⟩
                  case measure => have := HH.out; simp [intOf]; omega
                · have hk0 : k = l.length := by omega
                  subst hk0
                  rw [List.take_length] at hkp
                  have HKP := Lib.hid hkp
                  have HW := Lib.hid htw
                  have HRP := Lib.hid hrep
                  clear hlt hk hrep hkp htw HTW i4
                  go_wp2_with fail
                  go_meet
                  exact ⟨t, rep, HRP.out, HKP.out, HW.out⟩
          case rest =>
            obtain ⟨t1, rep1, hrep1, hkp1, htw1⟩ := hcut
            have HRP1 := Lib.hid hrep1
            have HKP1 := Lib.hid hkp1
            have HTW1 := Lib.hid htw1
            clear hrep1 hkp1 htw1 HTW
            go_upto_block 2 with fail
            go_cut [18] (fun _ wc => ∃ (t : Tr Key Val) (rep : Nat) (ys : List Ev), rep ≤ 200 ∧ ys.length ≤ 100 ∧ (∀ y ∈ ys, y ∈ l) ∧ Kept t (l ++ ys) ∧ Two w wc A Bk t .nil rep 0)
            case first =>
              as_aux_lemma =>
                go_wp2_with fail
                go_loopw [18] (fun i wr => ∃ (k : Nat) (t : Tr Key Val) (rep : Nat) (ys : List Ev), k ≤ zs.length ∧ i = .int .i64 k ∧ rep ≤ l.length + k ∧ ys.length ≤ k ∧ (∀ y ∈ ys, y ∈ l) ∧ Kept t (l ++ ys) ∧ Two w wr A Bk t .nil rep 0) (fun i _ => zs.length - (intOf i).toNat)
                case atStart => exact ⟨0, t1, rep1, [], Nat.zero_le _, rfl, HRP1.out, Nat.le_refl _, fun y hy => by simp at hy, by rw [List.append_nil]; exact HKP1.out, HTW1.out⟩
                case round =>
                  obtain ⟨k, t, rep, ys, hk, rfl, hrep, hyl, hys, hkp, htw⟩ := hrel
                  have i4 : (0 : Int) ≤ (k : Int) := by omega
                  have HKP := Lib.hid hkp
                  have HW := Lib.hid htw
                  have HYS := Lib.hid hys
                  have HH := Lib.hid (show k ≤ zs.length ∧ k ≤ 100 ∧ rep ≤ l.length + k ∧ ys.length ≤ k ∧ l.length ≤ 100 by have := HZ1.out; have := HL1.out; omega)
                  clear hrep hyl hys hkp htw HTW1 HKP1 HRP1
                  by_cases hlt : k < zs.length
                  · by_cases hl0 : 0 < l.length
                    · obtain ⟨bi, oi, e2, x2⟩ := HCI.out (by omega)
                      subst e2
                      have cz := turn_cell HW.out.turn (x2 k zs[k] (List.getElem?_eq_getElem hlt))
                      have hzr := HZB.out zs[k] (List.getElem_mem hlt)
                      obtain ⟨q, hq, p, hp, hpq, p1, p2⟩ := rem_at zs[k] hl0
                      generalize zs[k] = z at *
                      obtain ⟨b, o, e1, x1⟩ := HC.out hl0
                      subst e1
                      obtain ⟨c0, c1, c2, c3, c4⟩ := (x1 q l[q] (List.getElem?_eq_getElem hq)).later HW.out.turn
                      have HSX := Lib.hid (HSH.out l[q] (List.getElem_mem hq)).evIn
                      have HIN := Lib.hid (List.getElem_mem hq)
                      have i5 : (k : Int) < (zs.length : Int) := by omega
                      have i6 : (0 : Int) < (l.length : Int) := by omega
                      have HLT := Lib.hid hlt
                      have q0 : (0 : Int) ≤ (q : Int) := by omega
                      have q1 : (q : Int) < (l.length : Int) := by omega
                      obtain ⟨z0, z1⟩ := hzr
                      generalize l[q] = x at *
                      clear hlt hk hl0 x1 x2
                      go_wp2_with fail
                      go_at_call 9
                      refine (ingest_any HW.out.a (by have := HH.out; omega) x HSX.out).mono ?_
                      rintro r w5 ⟨rfl, m5, t5⟩
                      have HW5 := Lib.hid (HW.out.ingA m5 t5)
                      have HKP5 := Lib.hid (HKP.out.ing (by have := HH.out; simp; omega) x)
                      obtain ⟨va, hva⟩ : ∃ va, ingA t x = va := ⟨_, rfl⟩
                      rw [hva]
                      have HR5 := Lib.hid (ingR_le t rep x)
                      clear hva m5 t5 c0 c1 c2 c3 c4
                      go_wp2_with fail
                      go_roundw
                      case rel =>
                        refine ⟨k + 1, ingT t x, ingR t rep x, ys ++ [x], HLT.out, by go_num, by have := HR5.out; have := HH.out; omega, by have := HH.out; simp; omega, fun y hy => ?_, by rw [← List.append_assoc]; exact HKP5.out, HW5.out⟩
                        rcases List.mem_append.1 hy with hy | hy
                        · exact HYS.out y hy
                        · rw [List.mem_singleton.1 hy]; exact HIN.out
                      case measure => have := HLT.out; simp [intOf]; omega
                    · have i5 : (k : Int) < (zs.length : Int) := by omega
                      have i6 : ¬ ((0 : Int) < (l.length : Int)) := by omega
                      clear hlt hk hl0
                      go_wp2_with fail
                      go_meet
                      exact ⟨t, rep, ys, by have := HH.out; omega, by have := HH.out; omega, HYS.out, HKP.out, HW.out⟩
                  · have i5 : ¬ ((k : Int) < (zs.length : Int)) := by omega
                    clear hlt hk
                    go_wp2_with fail
                    go_meet
                    exact ⟨t, rep, ys, by have := HH.out; omega, by have := HH.out; omega, HYS.out, HKP.out, HW.out⟩
            case rest =>
              obtain ⟨t2, rep2, ys, hrep2, hyl, hys, hkp2, htw2⟩ := hcut
              have HRP2 := Lib.hid hrep2
              have HYS := Lib.hid (And.intro hyl hys)
              have HKP2 := Lib.hid hkp2
              have HTW2 := Lib.hid htw2
              clear hrep2 hyl hys hkp2 htw2 HTW1 HKP1 HRP1
              go_upto_block 4 with fail
              go_cut [19, 20, 21] (fun su _ _ wc => ∃ u : Bool, su = .bool u ∧ (u = false → Alike l) ∧ Two w wc A Bk t2 .nil rep2 0)
              case first =>
                as_aux_lemma =>
                  go_wp2_with fail
                  go_loopw [19, 20, 21] (fun su si _ wr => ∃ (k : Nat) (u : Bool), k ≤ l.length ∧ si = .int .i64 k ∧ su = .bool u ∧ (u = false → Pairs l k) ∧ Two w wr A Bk t2 .nil rep2 0) (fun _ si _ _ => l.length - (intOf si).toNat)
                  case atStart => exact ⟨0, false, Nat.zero_le _, rfl, rfl, fun _ => pairs_zero l, HTW2.out⟩
                  case round =>
                    obtain ⟨k, u, hk, rfl, rfl, hu, htw⟩ := hrel
                    have i4 : (0 : Int) ≤ (k : Int) := by omega
                    have HW := Lib.hid htw
                    have HU := Lib.hid hu
                    have HKK := Lib.hid (show k ≤ l.length ∧ l.length ≤ 100 by have := HL1.out; omega)
                    clear hu htw HTW2
                    by_cases hlt : k < l.length
                    · obtain ⟨b, o, e1, x1⟩ := HC.out (by omega)
                      subst e1
                      have HX1 := Lib.hid x1
                      have HXK := Lib.hid (List.getElem?_eq_getElem hlt)
                      have i5 : (k : Int) < (l.length : Int) := by omega
                      have HLT := Lib.hid hlt
                      generalize l[k] = x at *
                      clear hlt hk x1
                      go_wp2_with fail
                      go_loopw [19, 21] (fun su sk wr => ∃ (j : Nat) (u : Bool), j ≤ k ∧ sk = .int .i64 j ∧ su = .bool u ∧ (u = false → Pairs l k ∧ ∀ j' y, j' < j → l[j']? = some y → x.key = y.key → x = y) ∧ Two w wr A Bk t2 .nil rep2 0) (fun _ sk _ => k - (intOf sk).toNat)
                      case atStart => exact ⟨0, u, Nat.zero_le _, rfl, rfl, fun h => ⟨HU.out h, fun j' y h => absurd h (by omega)⟩, HW.out⟩
                      case round =>
                        obtain ⟨j, u2, hj, rfl, rfl, hu2, htw2⟩ := hrel
                        have j4 : (0 : Int) ≤ (j : Int) := by omega
                        have HW2 := Lib.hid htw2
                        have HU2 := Lib.hid hu2
                        clear hu2 htw2 HW HU
                        by_cases hjt : j < k
                        · have hjl : j < l.length := by have := HLT.out; omega
                          obtain ⟨c0, c1, c2, c3, c4⟩ := (HX1.out k x HXK.out).later HW2.out.turn
                          obtain ⟨d0, d1, d2, d3, d4⟩ := (HX1.out j l[j] (List.getElem?_eq_getElem hjl)).later HW2.out.turn
                          have HYJ := Lib.hid (List.getElem?_eq_getElem hjl)
                          generalize l[j] = y at *
                          have j5 : (j : Int) < (k : Int) := by omega
                          have j6 : (j : Int) < (l.length : Int) := by omega
                          have HJT := Lib.hid hjt
                          clear hjt hjl hj
                          cases u2 with
                          | true =>
                            go_wp2_with fail
                            go_quiet (fail)
                            go_wp2_with fail
                            go_roundw
                            case rel => exact ⟨j + 1, true, HJT.out, by go_num, rfl, fun h => by simp at h, HW2.out.later ((like_drewN wr _).turn _)⟩
                            case measure => have := HJT.out; simp [intOf]; omega
                          | false =>
                            have hu3 := HU2.out rfl
                            by_cases hkey : x.key = y.key
                            · have e1 : (x.key == y.key) = true := by simp [hkey]
                              have HU3 := Lib.hid hu3
                              clear hkey hu3
                              obtain ⟨nb, hnb⟩ : ∃ nb, decide (x ≠ y) = nb := ⟨_, rfl⟩
                              have hne := fun W => ev_neq x y W
                              rw [hnb] at hne
                              have HNB := Lib.hid hnb
                              clear hnb
                              go_wp2_with fail
                              go_quiet (fail)
                              go_wp2_with fail
                              go_roundw
                              case rel =>
                                refine ⟨j + 1, nb, HJT.out, by go_num, rfl, fun hf => ⟨HU3.out.1, fun j' z hz hzz he => ?_⟩, HW2.out.later ((like_drewN wr _).turn _)⟩
                                rcases Nat.lt_succ_iff_lt_or_eq.1 hz with h3 | rfl
                                · exact HU3.out.2 j' z h3 hzz he
                                · have e := HYJ.out.symm.trans hzz
                                  cases e
                                  have := HNB.out
                                  rw [hf] at this
                                  simpa using this
                              case measure => have := HJT.out; simp [intOf]; omega
                            · have e1 : (x.key == y.key) = false := by simp [hkey]
                              have HU3 := Lib.hid hu3
                              have HKY := Lib.hid hkey
                              clear hkey hu3
                              go_wp2_with fail
                              go_quiet (fail)
                              go_wp2_with fail
                              go_roundw
                              case rel =>
                                refine ⟨j + 1, false, HJT.out, by go_num, rfl, fun _ => ⟨HU3.out.1, fun j' z hz hzz he => ?_⟩, HW2.out.later ((like_drewN wr _).turn _)⟩
                                rcases Nat.lt_succ_iff_lt_or_eq.1 hz with h3 | rfl
                                · exact HU3.out.2 j' z h3 hzz he
                                · have e := HYJ.out.symm.trans hzz
                                  cases e
                                  exact absurd he HKY.out
                              case measure => have := HJT.out; simp [intOf]; omega
                        · have hj0 : j = k := by omega
                          subst hj0
                          have i6 : ¬ ((j : Int) < (j : Int)) := by omega
                          clear hjt hj
                          go_wp2_with fail
                          go_roundw
                          case rel => exact ⟨j + 1, u2, HLT.out, by go_num, rfl, fun h => (HU2.out h).1.succ HXK.out (HU2.out h).2, HW2.out⟩
                          case measure => have := HLT.out; simp [intOf]; omega
                    · have hk0 : k = l.length := by omega
                      subst hk0
                      clear hlt hk i4
                      go_wp2_with fail
                      go_meet
                      exact ⟨u, rfl, fun h => (HU.out h).alike, HW.out⟩
              case rest =>
                obtain ⟨u, rfl, hu, htw3⟩ := hcut
                have HU := Lib.hid hu
                have HTW3 := Lib.hid htw3
                clear hu htw3 HTW2
                go_upto_block 8 with fail
                go_cut [22] (fun _ wc => ∃ (tb : Tr Key Val) (rb : Nat), Kept tb l.reverse ∧ Two w wc A Bk t2 tb rep2 rb)
                case first =>
                  as_aux_lemma =>
                    go_wp2_with fail
                    go_loopw [22] (fun i wr => ∃ (k : Nat) (e : Int) (tb : Tr Key Val) (rb : Nat), k ≤ l.length ∧ e = (k : Int) - 1 ∧ i = .int .i64 e ∧ rb ≤ l.length - k ∧ Kept tb (l.drop k).reverse ∧ Two w wr A Bk t2 tb rep2 rb) (fun i _ => (intOf i + 1).toNat)
                    case atStart => exact ⟨l.length, _, .nil, 0, Nat.le_refl _, rfl, rfl, Nat.zero_le _, by rw [List.drop_length]; exact kept_nil, HTW3.out⟩
                    case round =>
                      obtain ⟨k, e, tb, rb, hk, he, rfl, hrb, hkp, htw⟩ := hrel
                      have HW := Lib.hid htw
                      have HKP := Lib.hid hkp
                      by_cases hk0 : k = 0
                      · subst hk0
                        rw [List.drop_zero] at hkp
                        have HKP2 := Lib.hid hkp
                        have i4 : ¬ ((0 : Int) ≤ e) := by omega
                        clear hk he hrb hkp htw HTW3
                        go_wp2_with fail
                        go_meet
                        exact ⟨tb, rb, HKP2.out, HW.out⟩
                      · obtain ⟨j, rfl⟩ : ∃ j, k = j + 1 := ⟨k - 1, by omega⟩
                        obtain rfl : e = (j : Int) := by omega
                        have hlt : j < l.length := by omega
                        obtain ⟨b, o, e1, x1⟩ := HC.out (by omega)
                        subst e1
                        obtain ⟨c0, c1, c2, c3, c4⟩ := (x1 j l[j] (List.getElem?_eq_getElem hlt)).later HW.out.turn
                        have HSX := Lib.hid (HSH.out l[j] (List.getElem_mem hlt)).evIn
                        have HTK := Lib.hid (show (l.drop j).reverse = (l.drop (j + 1)).reverse ++ [l[j]] by rw [List.drop_eq_getElem_cons hlt, List.reverse_cons])
                        have i4 : (0 : Int) ≤ (j : Int) := by omega
                        have i5 : (j : Int) < (l.length : Int) := by omega
                        have HH := Lib.hid (show j < l.length ∧ l.length ≤ 100 ∧ rb ≤ l.length - (j + 1) by have := HL1.out; omega)
                        clear hk hk0 he hrb hkp htw x1 HTW3
                        generalize l[j] = x at *
                        clear hlt
                        go_wp2_with fail
                        go_at_call 9
                        refine (ingest_any HW.out.b (by have := HH.out; omega) x HSX.out).mono ?_
                        rintro r w5 ⟨rfl, m5, t5⟩
                        have HW5 := Lib.hid (HW.out.ingB m5 t5)
                        have HKP5 := Lib.hid (HKP.out.ing (by have := HH.out; simp; omega) x)
                        obtain ⟨va, hva⟩ : ∃ va, ingA tb x = va := ⟨_, rfl⟩
                        rw [hva]
                        have HR5 := Lib.hid (ingR_le tb rb x)
                        clear hva m5 t5 c0 c1 c2 c3 c4
                        go_wp2_with fail
                        go_roundw
                        case rel => exact ⟨j, (j : Int) - 1, ingT tb x, ingR tb rb x, by have := HH.out; omega, rfl, by go_num, by have := HR5.out; have := HH.out; omega, by rw [HTK.out]; exact HKP5.out, HW5.out⟩
                        case measure => simp [intOf]
                case rest =>
                  obtain ⟨tb, rb, hkpb, htw4⟩ := hcut
                  have HKPB := Lib.hid hkpb
                  have HTW4 := Lib.hid htw4
                  have hin2 := kept_in HKP2.out HYS.out.2 (fun x hx => (HSH.out x hx).evIn)
                  have hcn2 : t2.count ≤ 200 := by have h1 := HKP2.out.count; have h2 := HYS.out.1; have h3 := HL1.out; rw [List.length_append] at h1; omega
                  have hinb : ∀ x ∈ tb.list.map Prod.snd, EvIn x := kept_in (ys := []) (by rw [List.append_nil]; exact hkpb) (fun y hy => by simp at hy) (fun x hx => (HSH.out x (List.mem_reverse.1 hx)).evIn)
                  have hcnb : tb.count ≤ 100 := by have h1 := hkpb.count; have h3 := HL1.out; rw [List.length_reverse] at h1; omega
                  have HTA := Lib.hid (fun (W : World) (p q : Int) (h : MetR W A t2 rep2) => totals_any h hin2 (by omega) acc (by have := HA1.out; omega) p q)
                  have HTB := Lib.hid (fun (W : World) (p q : Int) (h : MetR W Bk tb rb) => totals_any h hinb (by omega) acc (by have := HA1.out; omega) p q)
                  have HSAME := Lib.hid (fun h : u = false => tots_same HKP2.out HYS.out.2 hkpb (HU.out h) acc fr til)
                  have HSUM := Lib.hid (fun (k : Nat) (x : Tot) (h0 : faultE acc fr til = 0) (h1 : faultE acc fr mid = 0) (h2 : faultE acc mid til = 0) (hx : (totsOf t2 acc fr til)[k]? = some x) => once_sums HKP2.out (by have h2 := HYS.out.1; have h3 := HL1.out; rw [List.length_append]; omega) h0 h1 h2 hx)
                  have HFEW := Lib.hid (fun (h0 : faultE acc fr til = 0) (h1 : faultE acc fr mid = 0) (h2 : faultE acc mid til = 0) => once_fewer (t := t2) h0 h1 h2)
                  have HSM := Lib.hid (fun p q => nodup_small HKP2.out (by have h2 := HYS.out.1; have h3 := HL1.out; rw [List.length_append]; omega) acc p q)
                  have HSMB := Lib.hid (fun p q => nodup_small hkpb (by have h3 := HL1.out; rw [List.length_reverse]; omega) acc p q)
                  clear hkpb htw4 hin2 hcn2 hinb hcnb HTW3 HU HC HCI HSH HLB HZB HL1 HZ1 HKP2 HYS HKPB i1 i2 i3 hll hzl
                  go_wp2_with fail
                  go_at_call 10
                  refine (HTA.out _ fr til HTW4.out.a).mono ?_
                  rintro r w5 ⟨s5, cap5, rfl, hc5, t5⟩
                  have HW5 := Lib.hid (HTW4.out.later t5)
                  have HC5 := Lib.hid hc5
                  clear hc5 t5 HTW4
                  obtain ⟨T, hT⟩ : ∃ T, totsOf t2 acc fr til = T := ⟨_, rfl⟩
                  obtain ⟨c, hcc⟩ : ∃ c, faultE acc fr til = c := ⟨_, rfl⟩
                  have hTl := HSM.out fr til
                  rw [hT] at HC5 hTl HSAME HSUM HFEW ⊢
                  rw [hcc] at HSUM HFEW ⊢
                  have HTL := Lib.hid hTl
                  have HTT := Lib.hid hT
                  have HCC := Lib.hid hcc
                  clear hTl hT hcc
                  go_wp2_with fail
                  go_at_call 10
                  refine (HTB.out _ fr til HW5.out.b).mono ?_
                  rintro r w6 ⟨s6, cap6, rfl, hc6, t6⟩
                  have HW6 := Lib.hid (HW5.out.later t6)
                  have HC6 := Lib.hid hc6
                  have HC56 := Lib.hid (HC5.out.later t6)
                  clear hc6 t6 HW5 HC5
                  obtain ⟨U, hU⟩ : ∃ U, totsOf tb acc fr til = U := ⟨_, rfl⟩
                  have hUl := HSMB.out fr til
                  rw [hU] at HC6 hUl HSAME ⊢
                  rw [HCC.out]
                  have HUL := Lib.hid hUl
                  clear hUl hU
                  go_upto_if 187 with fail
                  go_cut [27] (fun _ wc => Two w wc A Bk t2 tb rep2 rb ∧ TotC wc s5 T)
                  case first =>
                    as_aux_lemma =>
                      cases u with
                      | true =>
                        go_wp2_with fail
                        go_meet
                        exact ⟨HW6.out, HC56.out⟩
                      | false =>
                        have hs := HSAME.out rfl
                        subst hs
                        have e1 : (c != c) = false := by simp
                        have e2 : ((T.length : Int) != (T.length : Int)) = false := by simp
                        go_wp2_with fail
                        go_loopw [27] (fun i wr => ∃ k : Nat, k ≤ T.length ∧ i = .int .i64 k ∧ Turn (fun _ => False) w6 wr) (fun i _ => T.length - (intOf i).toNat)
                        case atStart => exact ⟨0, Nat.zero_le _, rfl, Turn.refl _ _⟩
                        case round =>
                          obtain ⟨k, hk, rfl, tk⟩ := hrel
                          have i4 : (0 : Int) ≤ (k : Int) := by omega
                          have i6 : (k : Int) ≤ 1000 := by have := HTL.out; omega
                          by_cases hlt : k < T.length
                          · obtain ⟨g5, e5, x5⟩ := HC56.out (by omega)
                            obtain ⟨g6, e6, x6⟩ := HC6.out (by omega)
                            subst e5 e6
                            obtain ⟨c0, c1, c2⟩ := (x5 k T[k] (List.getElem?_eq_getElem hlt)).later tk
                            obtain ⟨d0, d1, d2⟩ := (x6 k T[k] (List.getElem?_eq_getElem hlt)).later tk
                            have i5 : (k : Int) < (T.length : Int) := by omega
                            have HLT := Lib.hid hlt
                            have HTK := Lib.hid tk
                            generalize T[k] = x at *
                            have hne := fun W => tot_neq x x W
                            have e3 : decide (x ≠ x) = false := by simp
                            rw [e3] at hne
                            clear hlt hk x5 x6 tk e3
                            go_wp2_with fail
                            go_quiet (fail)
                            go_wp2_with fail
                            go_roundw
                            case rel => exact ⟨k + 1, HLT.out, by go_num, HTK.out.trans ((like_drewN wr _).turn _) (fun _ _ q => q)⟩
                            case measure => have := HLT.out; simp [intOf]; omega
                          · have i5 : ¬ ((k : Int) < (T.length : Int)) := by omega
                            have HTK := Lib.hid tk
                            clear hlt hk tk
                            go_wp2_with fail
                            go_meet
                            exact ⟨HW6.out.later HTK.out, HC56.out.later HTK.out⟩
                  case rest =>
                    obtain ⟨hw7, hc7⟩ := hcut
                    have HW7 := Lib.hid hw7
                    have HC7 := Lib.hid hc7
                    clear hw7 hc7 HW6 HC56 HC6 HSAME HUL HTB HSMB
                    go_wp2_with fail
                    go_at_call 10
                    refine (HTA.out _ fr mid HW7.out.a).mono ?_
                    rintro r w8 ⟨s8, cap8, rfl, hc8, t8⟩
                    have HW8 := Lib.hid (HW7.out.later t8)
                    have HC8 := Lib.hid hc8
                    have HC78 := Lib.hid (HC7.out.later t8)
                    clear hc8 t8 HW7 HC7
                    obtain ⟨X, hX⟩ : ∃ X, totsOf t2 acc fr mid = X := ⟨_, rfl⟩
                    obtain ⟨cx, hcx⟩ : ∃ cx, faultE acc fr mid = cx := ⟨_, rfl⟩
                    have hXl := HSM.out fr mid
                    rw [hX] at HC8 hXl HSUM HFEW ⊢
                    rw [hcx] at HSUM HFEW ⊢
                    have HXL := Lib.hid hXl
                    clear hXl hX hcx
                    go_wp2_with fail
                    go_at_call 10
                    refine (HTA.out _ mid til HW8.out.a).mono ?_
                    rintro r w9 ⟨s9, cap9, rfl, hc9, t9⟩
                    have HTN := Lib.hid (HW8.out.turn.trans t9 (fun _ _ q => q))
                    have HC9 := Lib.hid hc9
                    have HC89 := Lib.hid (HC8.out.later t9)
                    have HC79 := Lib.hid (HC78.out.later t9)
                    clear hc9 t9 HW8 HC8 HC78 HTA
                    obtain ⟨Y, hY⟩ : ∃ Y, totsOf t2 acc mid til = Y := ⟨_, rfl⟩
                    obtain ⟨cy, hcy⟩ : ∃ cy, faultE acc mid til = cy := ⟨_, rfl⟩
                    have hYl := HSM.out mid til
                    rw [hY] at HC9 hYl HSUM HFEW ⊢
                    rw [hcy] at HSUM HFEW ⊢
                    have HYL := Lib.hid hYl
                    clear hYl hY hcy HSM
                    by_cases h0 : c = 0
                    · by_cases h1 : cx = 0
                      · by_cases h2 : cy = 0
                        · subst h0 h1 h2
                          have HSUM2 := Lib.hid (fun k x => HSUM.out k x rfl rfl rfl)
                          have HFEW2 := Lib.hid (HFEW.out rfl rfl rfl)
                          clear HSUM HFEW
                          go_wp2_with (go_at_call 11; refine (num_any _ _).mono ?_; rintro r w9 ⟨rfl, rfl⟩)
                          go_loopw [32] (fun si wr => ∃ k : Nat, k ≤ T.length ∧ si = .int .i64 k ∧ Turn (fun _ => False) w9 wr) (fun si _ => T.length - (intOf si).toNat)
                          case atStart => exact ⟨0, Nat.zero_le _, rfl, Turn.refl _ _⟩
                          case round =>
                            obtain ⟨k, hk, rfl, tk⟩ := hrel
                            have i4 : (0 : Int) ≤ (k : Int) := by omega
                            have i6 : (k : Int) ≤ 1000 := by have := HTL.out; omega
                            by_cases hlt : k < T.length
                            · obtain ⟨g5, e5, x5⟩ := HC79.out (by omega)
                              subst e5
                              have HXX := Lib.hid (x5 k T[k] (List.getElem?_eq_getElem hlt))
                              have HSX := Lib.hid (HSUM2.out k T[k] (List.getElem?_eq_getElem hlt))
                              have i5 : (k : Int) < (T.length : Int) := by omega
                              have HLT := Lib.hid hlt
                              have HTK := Lib.hid tk
                              generalize T[k] = x at *
                              clear hlt hk x5 tk
                              go_upto_block 14 with fail
                              go_cut [33, 34, 35] (fun sq sc _ wc => sq = .int .i64 (accQ X x.1 0) ∧ sc = .int .i64 (accC X x.1 0) ∧ Turn (fun _ => False) w9 wc)
                              case first =>
                                as_aux_lemma =>
                                  go_wp2_with fail
                                  go_loopw [33, 34, 35] (fun sq sc sj wr => ∃ j : Nat, j ≤ X.length ∧ sj = .int .i64 j ∧ sq = .int .i64 (accQ (X.take j) x.1 0) ∧ sc = .int .i64 (accC (X.take j) x.1 0) ∧ Turn (fun _ => False) w9 wr) (fun _ _ sj _ => X.length - (intOf sj).toNat)
                                  case atStart => exact ⟨0, Nat.zero_le _, rfl, rfl, rfl, HTK.out⟩
                                  case round =>
                                    obtain ⟨j, hj, rfl, rfl, rfl, tj⟩ := hrel
                                    have j4 : (0 : Int) ≤ (j : Int) := by omega
                                    have j6 : (j : Int) ≤ 1000 := by have := HXL.out; omega
                                    by_cases hjt : j < X.length
                                    · obtain ⟨g8, e8, x8⟩ := HC89.out (by omega)
                                      subst e8
                                      obtain ⟨c0, c1, c2⟩ := (x8 j X[j] (List.getElem?_eq_getElem hjt)).later tj
                                      obtain ⟨d0, d1, d2⟩ := HXX.out.later tj
                                      have HAQ := Lib.hid (accQ_succ (List.getElem?_eq_getElem hjt) x.1 0)
                                      have HAC := Lib.hid (accC_succ (List.getElem?_eq_getElem hjt) x.1 0)
                                      have j5 : (j : Int) < (X.length : Int) := by omega
                                      have HJT := Lib.hid hjt
                                      have HTJ := Lib.hid tj
                                      generalize X[j] = y at *
                                      clear hjt hj x8 tj
                                      generalize accQ (X.take j) x.1 0 = qa at *
                                      generalize accC (X.take j) x.1 0 = ca at *
                                      by_cases hm : y.1 = x.1
                                      · have e1 : (y.1 == x.1) = true := by simp [hm]
                                        have HM := Lib.hid hm
                                        clear hm
                                        go_wp2_with fail
                                        go_quiet (fail)
                                        have cy1 := turn_cell ((like_drewN wr nq).turn _) c1
                                        have cy2 := turn_cell ((like_drewN wr nq).turn _) c2
                                        have HTJ2 := Lib.hid (HTJ.out.trans ((like_drewN wr nq).turn _) (fun _ _ q => q))
                                        clear c0 c1 c2 d0 d1 d2 HTJ e1
                                        generalize wr.drewN nq = w10 at cy1 cy2 HTJ2 ⊢
                                        go_wp2_with fail
                                        go_roundw
                                        case rel => exact ⟨j + 1, HJT.out, by go_num, by rw [HAQ.out, if_pos HM.out], by rw [HAC.out, if_pos HM.out], HTJ2.out⟩
                                        case measure => have := HJT.out; simp [intOf]; omega
                                      · have e1 : (y.1 == x.1) = false := by simp [hm]
                                        have HM := Lib.hid hm
                                        clear hm
                                        go_wp2_with fail
                                        go_quiet (fail)
                                        go_wp2_with fail
                                        go_roundw
                                        case rel => exact ⟨j + 1, HJT.out, by go_num, by rw [HAQ.out, if_neg HM.out], by rw [HAC.out, if_neg HM.out], HTJ.out.trans ((like_drewN wr _).turn _) (fun _ _ q => q)⟩
                                        case measure => have := HJT.out; simp [intOf]; omega
                                    · have hj0 : j = X.length := by omega
                                      subst hj0
                                      rw [List.take_length]
                                      have j5 : ¬ ((X.length : Int) < (X.length : Int)) := by omega
                                      have HTJ := Lib.hid tj
                                      clear hjt hj tj
                                      go_wp2_with fail
                                      go_meet
                                      exact ⟨rfl, rfl, HTJ.out⟩
                              case rest =>
                                obtain ⟨rfl, rfl, tk2⟩ := hcut
                                have HTK := Lib.hid tk2
                                clear tk2
                                generalize accQ X x.1 0 = q0 at *
                                generalize accC X x.1 0 = cn0 at *
                                go_upto_block 16 with fail
                                go_cut [33, 34, 36] (fun sq sc _ wc => sq = .int .i64 (accQ Y x.1 q0) ∧ sc = .int .i64 (accC Y x.1 cn0) ∧ Turn (fun _ => False) w9 wc)
                                case first =>
                                  as_aux_lemma =>
                                    go_wp2_with fail
                                    go_loopw [33, 34, 36] (fun sq sc sj wr => ∃ j : Nat, j ≤ Y.length ∧ sj = .int .i64 j ∧ sq = .int .i64 (accQ (Y.take j) x.1 q0) ∧ sc = .int .i64 (accC (Y.take j) x.1 cn0) ∧ Turn (fun _ => False) w9 wr) (fun _ _ sj _ => Y.length - (intOf sj).toNat)
                                    case atStart => exact ⟨0, Nat.zero_le _, rfl, rfl, rfl, HTK.out⟩
                                    case round =>
                                      obtain ⟨j, hj, rfl, rfl, rfl, tj⟩ := hrel
                                      have j4 : (0 : Int) ≤ (j : Int) := by omega
                                      have j6 : (j : Int) ≤ 1000 := by have := HYL.out; omega
                                      by_cases hjt : j < Y.length
                                      · obtain ⟨g8, e8, x8⟩ := HC9.out (by omega)
                                        subst e8
                                        obtain ⟨c0, c1, c2⟩ := (x8 j Y[j] (List.getElem?_eq_getElem hjt)).later tj
                                        obtain ⟨d0, d1, d2⟩ := HXX.out.later tj
                                        have HAQ := Lib.hid (accQ_succ (List.getElem?_eq_getElem hjt) x.1 q0)
                                        have HAC := Lib.hid (accC_succ (List.getElem?_eq_getElem hjt) x.1 cn0)
                                        have j5 : (j : Int) < (Y.length : Int) := by omega
                                        have HJT := Lib.hid hjt
                                        have HTJ := Lib.hid tj
                                        generalize Y[j] = y at *
                                        clear hjt hj x8 tj
                                        generalize accQ (Y.take j) x.1 q0 = qa at *
                                        generalize accC (Y.take j) x.1 cn0 = ca at *
                                        by_cases hm : y.1 = x.1
                                        · have e1 : (y.1 == x.1) = true := by simp [hm]
                                          have HM := Lib.hid hm
                                          clear hm
                                          go_wp2_with fail
                                          go_quiet (fail)
                                          have cy1 := turn_cell ((like_drewN wr nq).turn _) c1
                                          have cy2 := turn_cell ((like_drewN wr nq).turn _) c2
                                          have HTJ2 := Lib.hid (HTJ.out.trans ((like_drewN wr nq).turn _) (fun _ _ q => q))
                                          clear c0 c1 c2 d0 d1 d2 HTJ e1
                                          generalize wr.drewN nq = w10 at cy1 cy2 HTJ2 ⊢
                                          go_wp2_with fail
                                          go_roundw
                                          case rel => exact ⟨j + 1, HJT.out, by go_num, by rw [HAQ.out, if_pos HM.out], by rw [HAC.out, if_pos HM.out], HTJ2.out⟩
                                          case measure => have := HJT.out; simp [intOf]; omega
                                        · have e1 : (y.1 == x.1) = false := by simp [hm]
                                          have HM := Lib.hid hm
                                          clear hm
                                          go_wp2_with fail
                                          go_quiet (fail)
                                          go_wp2_with fail
                                          go_roundw
                                          case rel => exact ⟨j + 1, HJT.out, by go_num, by rw [HAQ.out, if_neg HM.out], by rw [HAC.out, if_neg HM.out], HTJ.out.trans ((like_drewN wr _).turn _) (fun _ _ q => q)⟩
                                          case measure => have := HJT.out; simp [intOf]; omega
                                      · have hj0 : j = Y.length := by omega
                                        subst hj0
                                        rw [List.take_length]
                                        have j5 : ¬ ((Y.length : Int) < (Y.length : Int)) := by omega
                                        have HTJ := Lib.hid tj
                                        clear hjt hj tj
                                        go_wp2_with fail
                                        go_meet
                                        exact ⟨rfl, rfl, HTJ.out⟩
                                case rest =>
                                  obtain ⟨rfl, rfl, tk3⟩ := hcut
                                  rw [HSX.out.1, HSX.out.2]
                                  obtain ⟨d0, d1, d2⟩ := HXX.out.later tk3
                                  have e1 : (x.2.1 != x.2.1) = false := by simp
                                  have e2 : (x.2.2 != x.2.2) = false := by simp
                                  have HTK3 := Lib.hid tk3
                                  clear tk3
                                  go_wp2_with fail
                                  go_roundw
                                  case rel => exact ⟨k + 1, HLT.out, by go_num, HTK3.out⟩
                                  case measure => have := HLT.out; simp [intOf]; omega
                            · have hk0 : k = T.length := by omega
                              subst hk0
                              have i5 : ¬ ((T.length : Int) < (T.length : Int)) := by omega
                              have j1 : (X.length : Int) ≤ (T.length : Int) := by have := HFEW2.out; omega
                              have j2 : (Y.length : Int) ≤ (T.length : Int) := by have := HFEW2.out; omega
                              have HTE := Lib.hid (HTN.out.trans tk (fun _ _ q => q))
                              clear hlt hk tk
                              go_wp2_with fail
                              go_ret
                              exact ⟨rfl, HTE.out⟩
                        · have e2 : (cy != 0) = true := by simp [h2]
                          subst h0 h1
                          clear h2
                          go_wp2_with (go_at_call 11; refine (num_any _ _).mono ?_; rintro r w9 ⟨rfl, rfl⟩)
                          go_ret
                          exact ⟨rfl, HTN.out⟩
                      · have e2 : (cx != 0) = true := by simp [h1]
                        subst h0
                        clear h1
                        go_wp2_with (go_at_call 11; refine (num_any _ _).mono ?_; rintro r w9 ⟨rfl, rfl⟩)
                        go_ret
                        exact ⟨rfl, HTN.out⟩
                    · have e2 : (c != 0) = true := by simp [h0]
                      clear h0
                      go_wp2_with (go_at_call 11; refine (num_any _ _).mono ?_; rintro r w9 ⟨rfl, rfl⟩)
                      go_ret
                      exact ⟨rfl, HTN.out⟩
        · have T := t1
          have i1 : (l.length : Int) ≤ 100 := by omega
          have i2 : (zs.length : Int) ≤ 100 := by omega
          have i3 : decide (100 < (acc.length : Int)) = true := by simp; omega
          clear t1
          go_wp2_with (go_at_call 8; refine (newM_any _).mono ?_; rintro r w9 ⟨rfl, m9, t9⟩; have T := T.trans t9 (fun _ _ q => q); clear m9 t9)
          go_ret
          exact ⟨rfl, T⟩
      · have T := t1
        have i1 : (l.length : Int) ≤ 100 := by omega
        have i2 : decide ((zs.length : Int) ≤ 100) = false := by simp; omega
        clear t1
        go_wp2_with (go_at_call 8; refine (newM_any _).mono ?_; rintro r w9 ⟨rfl, m9, t9⟩; have T := T.trans t9 (fun _ _ q => q); clear m9 t9)
        go_ret
        exact ⟨rfl, T⟩
    · have T := t1
      have i1 : decide ((l.length : Int) ≤ 100) = false := by simp; omega
      clear t1
      go_wp2_with (go_at_call 8; refine (newM_any _).mono ?_; rintro r w9 ⟨rfl, m9, t9⟩; have T := T.trans t9 (fun _ _ q => q); clear m9 t9)
      go_ret
      exact ⟨rfl, T⟩
end Go.Proofs.YtnlanemldapfiaaGreat.se
