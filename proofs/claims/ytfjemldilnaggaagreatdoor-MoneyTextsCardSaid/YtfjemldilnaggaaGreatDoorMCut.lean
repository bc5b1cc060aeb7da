/-
  A text cut into its pieces (exref.Cut).
-/
import Derived.Test.YtfjemldilnaggaaGreatDoorMTx
namespace Go.Proofs.YtfjemldilnaggaaGreatDoor
open Go.RowKit Go.Maps Go.WideMaps Go.Shelf
set_option linter.unusedVariables false

/-- the pieces so far -/
def CutAt (D : ByteArray) (c : UInt8) (k f : Nat) (q : List ByteArray) : Prop :=
  (k ≤ D.size ∧ f ≤ k ∧ q ++ (pcs c ((D.data.toList.take k).drop f) (D.data.toList.drop k)).map mtxt = (pieces c D.data.toList).map mtxt) ∨ (k = D.size + 1 ∧ q = (pieces c D.data.toList).map mtxt)
def CutSays (D : ByteArray) (c : UInt8) (w : World) (e : Ending) (w' : World) : Prop := ∃ v, e = .returned v ∧ TxR w' v ((pieces c D.data.toList).map mtxt) ∧ Only w w'

theorem extract_cut (D : ByteArray) (f k : Nat) : D.extract f k = mtxt ((D.data.toList.take k).drop f) := by
  have h := Lib.extract_data D f k
  have e : (D.extract f k) = mtxt (D.extract f k).data.toList := rfl
  rw [e, h]
  congr 1
  rw [List.drop_take]

theorem CutAt.skip {D : ByteArray} {c : UInt8} {k f : Nat} {q : List ByteArray} (h : CutAt D c k f q) (hk : k < D.size) (hc : (D[k]'hk) ≠ c) : CutAt D c (k + 1) f q := by
  rcases h with ⟨h1, h2, h3⟩ | ⟨h1, -⟩
  · left
    refine ⟨hk, by omega, ?_⟩
    rw [← h3, drop_next hk, at_next hk h2]
    simp only [pcs, if_neg hc]
  · omega
theorem CutAt.cut {D : ByteArray} {c : UInt8} {k f : Nat} {q : List ByteArray} (h : CutAt D c k f q) (hk : k < D.size) (hc : (D[k]'hk) = c) : CutAt D c (k + 1) (k + 1) (q ++ [D.extract f k]) := by
  rcases h with ⟨h1, h2, h3⟩ | ⟨h1, -⟩
  · left
    refine ⟨hk, Nat.le_refl _, ?_⟩
    rw [← h3, drop_next hk, extract_cut]
    simp only [pcs, if_pos hc, List.map_cons, List.append_assoc, List.singleton_append]
    congr 3
    rw [List.drop_eq_nil_of_le (by rw [List.length_take]; omega)]
  · omega
theorem CutAt.last {D : ByteArray} {c : UInt8} {k f : Nat} {q : List ByteArray} (h : CutAt D c k f q) (hk : k = D.size) : CutAt D c (k + 1) (k + 1) (q ++ [D.extract f k]) := by
  have hl : D.data.toList.length = D.size := (Lib.size_eq D).symm
  rcases h with ⟨h1, h2, h3⟩ | ⟨h1, -⟩
  · right
    refine ⟨by omega, ?_⟩
    rw [← h3, extract_cut, hk, List.drop_eq_nil_of_le (by omega : D.data.toList.length ≤ D.size)]
    simp [pcs]
  · omega
theorem CutAt.len {D : ByteArray} {c : UInt8} {k f : Nat} {q : List ByteArray} (h : CutAt D c k f q) : q.length ≤ D.size + 1 := by
  have hl : D.data.toList.length = D.size := (Lib.size_eq D).symm
  have hp : (pieces c D.data.toList).length ≤ D.size + 1 := by
    unfold pieces
    rw [pcs_length]
    have := List.count_le_length (a := c) (l := D.data.toList)
    omega
  rcases h with ⟨-, -, h3⟩ | ⟨-, h3⟩
  · have := congrArg List.length h3
    rw [List.length_append, List.length_map, List.length_map] at this
    omega
  · rw [h3, List.length_map]; exact hp

set_option maxRecDepth 100000 in
set_option maxHeartbeats 3200000 in
theorem xcut_any (D : ByteArray) (c : UInt8) {d : Int} (hd : d = (c.toNat : Int)) (hl : D.size ≤ 100000) (w : World) : Calls Tryz.prog 57 #[.string D, .int .u8 d] w (CutSays D c w) := by
  have il : (D.size : Int) ≤ 100000 := by omega
  have HD := Lib.hid hd
  clear hd
  go_enter Tryz.func57, Tryz.ntmps57
  go_wp2_with fail
  go_loopw [5, 6, 7] (fun v f i wr => ∃ (k f0 : Nat) (q : List ByteArray) (sp : Option Addr) (cap : Nat), k ≤ D.size + 1 ∧ i = .int .i64 (k : Int) ∧ f = .int .i64 (f0 : Int) ∧ v = .slice sp q.length cap ∧ TxO wr w.heap.size (.slice sp q.length cap) q ∧ CutAt D c k f0 q ∧ Only w wr) (fun _ _ i _ => D.size + 1 - (intOf i).toNat)
  case atStart => exact ⟨0, 0, [], none, 0, by omega, rfl, rfl, rfl, TxO.nil _ _, Or.inl ⟨by omega, by omega, by simp [pieces]⟩, Only.refl _⟩
  case round =>
    obtain ⟨k, f0, q, sp, cap, hk, rfl, rfl, rfl, hO, hC, hT⟩ := hrel
    have hq := hC.len
    have iq : (q.length : Int) ≤ 100001 := by omega
    have HO := Lib.hid hO
    have HC := Lib.hid hC
    have HT := Lib.hid hT
    clear hO hC hT
    by_cases hlt : k < D.size
    · have t1 : decide ((k : Int) ≤ (D.size : Int)) = true := by simp; omega
      have t2 : ((k : Int) == (D.size : Int)) = false := by simp; omega
      have t2' : (k == D.size) = false := by simp; omega
      have il2 : (k : Int) < (D.size : Int) := by omega
      have hf : f0 ≤ k := by rcases HC.out with ⟨-, h, -⟩ | ⟨h, -⟩ <;> omega
      have if1 : (f0 : Int) ≤ (k : Int) := by omega
      obtain ⟨x, hx⟩ : ∃ x, x = (D[k]'hlt).toNat := ⟨_, rfl⟩
      have hx2 : (D[k]'hlt).toNat = x := hx.symm
      have HX := Lib.hid hx
      clear hx
      by_cases hc : (D[k]'hlt) = c
      · have e0 : (x : Int) = d := by rw [HD.out, ← hc, HX.out]
        have q1 : ((x : Int) == d) = true := by simpa using e0
        have HN := Lib.hid (HC.out.cut hlt hc)
        have hO2 := HO.out.only ((Only.refl wr).alloc (.cells #[.string (D.extract f0 k)] 9))
        have hT2 := HT.out.alloc (.cells #[.string (D.extract f0 k)] 9)
        have hsz := HT.out.size
        clear e0 hc
        go_wp2_with (at_builtin; refine append_tx rfl (.tmp 25) (.tmp 30) rfl (base := w.heap.size) (y := D.extract f0 k) (g := wr.heap.size) rfl rfl hO2 (by simp) (by omega) (by simp; omega) ?_; intro sp3 cap3 w3 hO3 hB3 hS3)
        have HO3 := Lib.hid hO3
        have HT3 := Lib.hid (show Only w w3 from Below.trans hT2 hB3)
        clear hO3 hB3 hO2 hT2
        go_roundw
        case rel => exact ⟨k + 1, k + 1, _, sp3, cap3, by omega, by go_num, by go_num, by simp, HO3.out, HN.out, HT3.out⟩
        case measure => simp [intOf]; omega
      · have e0 : (x : Int) ≠ d := by
          rw [HD.out, HX.out]
          intro e
          exact hc (UInt8.toNat_inj.1 (by omega))
        have q1 : ((x : Int) == d) = false := by simpa using e0
        have HN := Lib.hid (HC.out.skip hlt hc)
        clear e0 hc
        go_wp2_with fail
        go_roundw
        case rel => exact ⟨k + 1, f0, q, sp, cap, by omega, by go_num, rfl, rfl, HO.out, HN.out, HT.out⟩
        case measure => simp [intOf]; omega
    · by_cases heq : k = D.size
      · have t1 : decide ((k : Int) ≤ (D.size : Int)) = true := by simp; omega
        have t2 : ((k : Int) == (D.size : Int)) = true := by simp; omega
        have t2' : (k == D.size) = true := by simp; omega
        have hf : f0 ≤ k := by rcases HC.out with ⟨-, h, -⟩ | ⟨h, -⟩ <;> omega
        have if1 : (f0 : Int) ≤ (k : Int) := by omega
        have if2 : (k : Int) ≤ (D.size : Int) := by omega
        have HN := Lib.hid (HC.out.last heq)
        have hO2 := HO.out.only ((Only.refl wr).alloc (.cells #[.string (D.extract f0 k)] 9))
        have hT2 := HT.out.alloc (.cells #[.string (D.extract f0 k)] 9)
        have hsz := HT.out.size
        clear heq
        go_wp2_with (at_builtin; refine append_tx rfl (.tmp 25) (.tmp 30) rfl (base := w.heap.size) (y := D.extract f0 k) (g := wr.heap.size) rfl rfl hO2 (by simp) (by omega) (by simp; omega) ?_; intro sp3 cap3 w3 hO3 hB3 hS3)
        have HO3 := Lib.hid hO3
        have HT3 := Lib.hid (show Only w w3 from Below.trans hT2 hB3)
        clear hO3 hB3 hO2 hT2
        go_roundw
        case rel => exact ⟨k + 1, k + 1, _, sp3, cap3, by omega, by go_num, by go_num, by simp, HO3.out, HN.out, HT3.out⟩
        case measure => simp [intOf]; omega
      · have hk1 : k = D.size + 1 := by omega
        have t1 : decide ((k : Int) ≤ (D.size : Int)) = false := decide_eq_false (by omega)
        have t1n : decide (k ≤ D.size) = false := decide_eq_false (by omega)
        have t1m : decide (D.size < k) = true := decide_eq_true (by omega)
        have hR := HO.out.toR
        have hq2 : q = (pieces c D.data.toList).map mtxt := by
          rcases HC.out with ⟨h, -, -⟩ | ⟨-, h⟩
          · omega
          · exact h
        have HR := Lib.hid hR
        have HQ2 := Lib.hid hq2
        clear hR hq2 hk1 heq hlt
        go_wp2_with fail
        go_ret
        exact ⟨_, rfl, by rw [← HQ2.out]; exact HR.out, HT.out⟩
end Go.Proofs.YtfjemldilnaggaaGreatDoor
