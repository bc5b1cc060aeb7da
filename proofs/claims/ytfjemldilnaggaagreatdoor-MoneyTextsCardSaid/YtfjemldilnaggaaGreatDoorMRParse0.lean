/-
  What a text is as an amount, by the document (exref6.Parse).
-/
import Derived.Test.YtfjemldilnaggaaGreatDoorMCut
import Derived.Test.YtfjemldilnaggaaGreatDoorMBigP
import Derived.Test.YtfjemldilnaggaaGreatDoorMRef2
import Derived.Test.YtfjemldilnaggaaGreatDoorMBackPl
import Derived.Deep.DeepCutAuto
namespace Go.Proofs.YtfjemldilnaggaaGreatDoor
open Go.RowKit Go.Maps Go.WideMaps Go.Shelf
set_option linter.unusedVariables false
set_option linter.unusedSimpArgs false

theorem lim_digitsK {t : List UInt8} (K : Nat) (h : digsB t = true) (hl : t.length ≤ 4 * K) : Lim (numOf t : Int) K := by
  have h1 := numOf_lt h
  unfold Lim
  rw [pow4]
  exact Nat.lt_of_lt_of_le (show (numOf t : Int).natAbs < 10 ^ t.length by simpa using h1) (Nat.pow_le_pow_right (by decide) hl)
theorem bd_nat {N : Nat} (h : ¬ 4611686018427387904 < N) : decide (Bd (N : Int)) = true := decide_eq_true (by unfold Bd; omega)
theorem bd_not {N : Nat} (h : 4611686018427387904 < N) : decide (Bd (N : Int)) = false := decide_eq_false (fun k => by have := k.2; omega)
theorem uI_nat {N : Nat} (h : ¬ 4611686018427387904 < N) : uI (N : Int) = (N : Int) := by unfold uI; rw [if_pos]; omega
theorem jN_of {N : Nat} (h : ¬ 4611686018427387904 < N) : (N : Int) ≤ 4611686018427387904 ∧ (0 : Int) ≤ (N : Int) := by omega
theorem list_tail_ext {G : ByteArray} (hGl : G.data.toList.length = G.size) : (G.extract 1 G.size).data.toList = G.data.toList.tail := by
  rw [Lib.extract_data, ← hGl]
  cases G.data.toList with
  | nil => simp
  | cons x r => simp

abbrev XCutIs (D : ByteArray) (d : Int) (P : List ByteArray) : Prop := ∀ W, Calls Tryz.prog 57 #[.string D, .int .u8 d] W fun e w' => ∃ v, e = .returned v ∧ TxR w' v P ∧ Only W w'
abbrev XDigIs (p : ByteArray) (z : Bool) : Prop := ∀ W, Calls Tryz.prog 58 #[.string p] W fun e w' => e = .returned (.bool z) ∧ w' = W
def Out (E n : Int) (S : ByteArray) (e m : Int) (c : ByteArray) : Prop := E = e ∧ n = m ∧ S = c
/-- what the end answers, of a number N -/
def EndOut (neg : Bool) (N : Nat) (C : ByteArray) (E n : Int) (S : ByteArray) : Prop :=
  if 4611686018427387904 < N then Out E n S 6 0 ⟨#[]⟩ else if neg = true ∧ N = 0 then Out E n S 10 0 ⟨#[]⟩ else Out E n S 0 (if neg then -(N : Int) else N) C

theorem TxR.cells {w : World} {sp : Option Addr} {n cap : Nat} {l : List ByteArray} (h : TxR w (.slice sp n cap) l) (h0 : 0 < l.length) : n = l.length ∧ ∃ g, sp = some ⟨g, 0, none⟩ ∧ ∀ (i : Nat) (x : ByteArray), l[i]? = some x → w.cell? ⟨g, i, none⟩ = some (.string x) := by
  obtain ⟨sp', cap', e, h2⟩ := h
  simp only [Value.slice.injEq] at e
  obtain ⟨rfl, rfl, rfl⟩ := e
  exact ⟨rfl, h2 h0⟩

set_option maxRecDepth 100000 in
theorem rparse_count {s : ByteArray} {P : List ByteArray} (C1 : XCutIs s 32 P) (hP : ((P.length : Int) != 2) = true) (hl : P.length ≤ 100001) : AnsIs 24 #[.string s] 0 ⟨#[]⟩ 10 := by
  intro w
  have C1 := Lib.hid C1
  have ht := (Only.refl w).alloc (.cells #[.int .i64 0, .string ⟨#[]⟩] 51)
  have o := Own2.new w (.int .i64 0) (.string ⟨#[]⟩) 51
  have il : (P.length : Int) ≤ 100001 := by omega
  have hP2 : ((P.length : Int) == 2) = false := by simpa using hP
  go_enter Tryz.func24, Tryz.ntmps24
  go_wp2_with fail
  go_at_call 57
  refine (C1.out _).mono ?_
  rintro r w1 ⟨v, rfl, ⟨sp, cap, rfl, -⟩, t1⟩
  replace ht := ht.trans t1
  obtain ⟨d1, d2, f1, f2, z1⟩ := (o.only t1).all
  clear o t1
  go_wp2_with fail
  simp [bodyPost, results, Tryz.results24, go_sem, World.cell?_setCell_other, d1, d2]
  exact (ht.set (by omega) 0 _).set (by omega) 1 _

set_option maxRecDepth 100000 in
set_option maxHeartbeats 6400000 in
theorem rparse_many {s A C T : ByteArray} {neg : Bool} {E n k : Int} {S : ByteArray} {P : List ByteArray} (C1 : XCutIs s 32 [A, C]) (iA : A.size ≤ 1000) (hA : (A.size = 0 ∧ neg = false) ∨ ∃ h : 0 < A.size, (((A[0]'h).toNat : Int) == 45) = neg)
    (hT : (if neg then A.extract 1 A.size else A) = T) (C2 : XCutIs T 46 P) (hP : 2 < P.length) (hl : P.length ≤ 100001) (hE : Out E n S 10 0 ⟨#[]⟩) : AnsIs 24 #[.string s] n S E := by
  intro w
  have C1 := Lib.hid C1
  have C2 := Lib.hid C2
  have HT := Lib.hid hT
  have HE := Lib.hid hE
  have il : (P.length : Int) ≤ 100001 := by omega
  have p1 : (2 : Int) < (P.length : Int) := by omega
  have p2 : decide (2 < P.length) = true := decide_eq_true hP
  have jA : (A.size : Int) ≤ 1000 := by omega
  have ht := (Only.refl w).alloc (.cells #[.int .i64 0, .string ⟨#[]⟩] 51)
  have o := Own2.new w (.int .i64 0) (.string ⟨#[]⟩) 51
  clear hT hE
  go_enter Tryz.func24, Tryz.ntmps24
  go_wp2_with fail
  go_at_call 57
  refine (C1.out _).mono ?_
  rintro r w1 ⟨v, rfl, R1, t1⟩
  replace ht := ht.trans t1
  replace o := o.only t1
  obtain ⟨sp1, cap1, rfl, hc1⟩ := R1
  obtain ⟨g1, rfl, hx1⟩ := hc1 (by simp)
  have a0 := hx1 0 A rfl
  have a1 := hx1 1 C rfl
  clear t1 hc1 hx1
  go_upto_region 5 with (fail)
  go_cut [6] (fun q wc => q = .bool neg ∧ w1 = wc)
  case first =>
    as_aux_lemma =>
      rcases hA with ⟨hz, rfl⟩ | ⟨hz, hq⟩
      · have q0 : decide (0 < A.size) = false := decide_eq_false (by omega)
        have q1 : decide ((0 : Int) < (A.size : Int)) = false := decide_eq_false (by omega)
        clear hz
        go_wp2_with fail
        go_meet
        exact ⟨rfl, rfl⟩
      · have q0 : decide (0 < A.size) = true := decide_eq_true hz
        have q1 : decide ((0 : Int) < (A.size : Int)) = true := decide_eq_true (by omega)
        have q2 : (0 : Int) < (A.size : Int) := by omega
        go_wp2_with fail
        go_meet
        exact ⟨rfl, rfl⟩
  case rest =>
   as_aux_lemma =>
    obtain ⟨rfl, rfl⟩ := hcut
    have HA1 : Hid (neg = true → 1 ≤ A.size) := Lib.hid (fun e => by rcases hA with ⟨-, h⟩ | ⟨h, -⟩; rw [h] at e; cases e; omega)
    clear hA
    go_upto_if 32 with (fail)
    go_cut [5] (fun d wc => d = .string T ∧ w1 = wc)
    case first =>
      as_aux_lemma =>
        cases neg
        · go_wp2_with fail
          go_meet
          exact ⟨by rw [← HT.out]; rfl, rfl⟩
        · have q3 : (1 : Int) ≤ (A.size : Int) := by have := HA1.out rfl; omega
          go_wp2_with fail
          go_meet
          exact ⟨by rw [← HT.out]; rfl, rfl⟩
    case rest =>
     as_aux_lemma =>
      obtain ⟨rfl, rfl⟩ := hcut
      go_wp2_with fail
      go_at_call 57
      refine (C2.out _).mono ?_
      rintro r w2 ⟨v, rfl, R2, t2⟩
      replace ht := ht.trans t2
      replace o := o.only t2
      replace a0 := t2.cellM a0
      replace a1 := t2.cellM a1
      clear t2
      obtain ⟨sp2, cap2, rfl, -⟩ := R2
      obtain ⟨d1, d2, f1, f2, z1⟩ := o.all
      obtain ⟨rfl, rfl, rfl⟩ := HE.out
      go_wp2_with fail
      simp [bodyPost, results, Tryz.results24, go_sem, World.cell?_setCell_other, d1, d2]
      exact (ht.set (by omega) 0 _).set (by omega) 1 _
end Go.Proofs.YtfjemldilnaggaaGreatDoor
