/-
  Which currency a code is of: Currencies, the search, find.
-/
import Derived.Test.YtopklnaahdjafaaGreatDoorNBase
import Derived.Lib.Hide
import Derived.LoopTactic
namespace Go.Proofs.YtopklnaahdjafaaGreatDoor
open Go.RowKit Go.Shelf

/-- the cells of the six currencies -/
def curCells : Array Value := #[.string ⟨#[67, 72, 70]⟩, .int .i64 2, .string ⟨#[69, 85, 82]⟩, .int .i64 2, .string ⟨#[71, 66, 80]⟩, .int .i64 2, .string ⟨#[74, 80, 89]⟩, .int .i64 0, .string ⟨#[75, 87, 68]⟩, .int .i64 3, .string ⟨#[85, 83, 68]⟩, .int .i64 2]

def CurL (w : World) (b : Nat) : Prop := ∃ ty, w.heap[b]? = some (.cells curCells ty)
theorem CurL.lt {w : World} {b : Nat} (h : CurL w b) : b < w.heap.size := by
  obtain ⟨ty, h⟩ := h; exact (Array.getElem?_eq_some_iff.1 h).1
theorem CurL.only {w w' : World} {b : Nat} (h : CurL w b) (t : Only w w') : CurL w' b := by
  have := h.lt
  obtain ⟨ty, h⟩ := h
  exact ⟨ty, (t.block b this).trans h⟩
theorem CurL.cell {w : World} {b : Nat} (h : CurL w b) (j : Nat) (v : Value) (e : curCells[j]? = some v) : w.cell? ⟨b, j, none⟩ = some v := by
  obtain ⟨ty, h⟩ := h; simp [World.cell?, h, e]

theorem Only.cellM {w w' : World} (t : Only w w') {b j : Nat} {v : Value} (h : w.cell? ⟨b, j, none⟩ = some v) : w'.cell? ⟨b, j, none⟩ = some v :=
  (Below.cell t (p := ⟨b, j, none⟩) (World.block_lt_of_cell? w _ h)).trans h

theorem currencies_any (w : World) : Calls Tryz.prog 16 #[] w fun e w' => e = .returned (.slice (some ⟨w.heap.size, 0, none⟩) 6 6) ∧ CurL w' w.heap.size ∧ Only w w' := by
  go_enter Tryz.func16, Tryz.ntmps16
  go_wp2
  go_ret
  exact ⟨rfl, ⟨_, heap_alloc_new w _⟩, (Only.refl w).alloc _⟩

theorem find1_any (c s : ByteArray) (k : Int) (p : Nat) (w : World) (hp : w.cell? ⟨p, 0, none⟩ = some (.string s)) :
    Calls Tryz.prog 78 #[.agg #[.string c, .int .i64 k], .pointer (some ⟨p, 0, none⟩)] w fun e w' => e = .returned (.bool (c.toList == s.toList)) ∧ Only w w' := by
  have hlt := World.block_lt_of_cell? w _ hp
  have k1 := (cell_kept w p 0 (.cells #[.string c, .int .i64 k] 45) hlt).trans hp
  go_enter Tryz.func78, Tryz.ntmps78
  go_wp2
  go_ret
  exact ⟨rfl, (Only.refl w).alloc _⟩

/-- the place of the currency, by what the comparisons say; -1 if there is none -/
def idxQ (q0 q1 q2 q3 q4 q5 : Bool) : Int := if q0 then 0 else if q1 then 1 else if q2 then 2 else if q3 then 3 else if q4 then 4 else if q5 then 5 else -1

set_option maxHeartbeats 800000 in
theorem indexFunc_any {s : ByteArray} {b p : Nat} {q0 q1 q2 q3 q4 q5 : Bool} {w : World} (hL : CurL w b) (hp : w.cell? ⟨p, 0, none⟩ = some (.string s))
    (e0 : ((⟨#[67, 72, 70]⟩ : ByteArray).toList == s.toList) = q0) (e1 : ((⟨#[69, 85, 82]⟩ : ByteArray).toList == s.toList) = q1) (e2 : ((⟨#[71, 66, 80]⟩ : ByteArray).toList == s.toList) = q2)
    (e3 : ((⟨#[74, 80, 89]⟩ : ByteArray).toList == s.toList) = q3) (e4 : ((⟨#[75, 87, 68]⟩ : ByteArray).toList == s.toList) = q4) (e5 : ((⟨#[85, 83, 68]⟩ : ByteArray).toList == s.toList) = q5) :
    Calls Tryz.prog 77 #[.slice (some ⟨b, 0, none⟩) 6 6, .func (.func 78) #[] #[.pointer (some ⟨p, 0, none⟩)]] w fun e w' => e = .returned (.int .i64 (idxQ q0 q1 q2 q3 q4 q5)) ∧ Only w w' := by
  have hent : ∀ args w, (callFunc 78 args).run Tryz.prog w = .ok (.enter 78 args) w := fun _ _ => by kernel_rfl
  have E0 := Lib.hid e0
  have E1 := Lib.hid e1
  have E2 := Lib.hid e2
  have E3 := Lib.hid e3
  have E4 := Lib.hid e4
  have E5 := Lib.hid e5
  have HL := Lib.hid hL
  have HP := Lib.hid hp
  clear e0 e1 e2 e3 e4 e5 hL hp
  go_enter Tryz.func77, Tryz.ntmps77
  go_wp2
  go_loopw [8] (fun i wr => ∃ k : Int, 0 ≤ k ∧ k ≤ 6 ∧ i = .int .i64 k ∧ Only w wr ∧ (1 ≤ k → q0 = false) ∧ (2 ≤ k → q1 = false) ∧ (3 ≤ k → q2 = false) ∧ (4 ≤ k → q3 = false) ∧ (5 ≤ k → q4 = false) ∧ (6 ≤ k → q5 = false)) (fun i _ => 6 - (intOf i).toNat)
  case atStart => exact ⟨0, by omega, by omega, rfl, Only.refl w, by omega, by omega, by omega, by omega, by omega, by omega⟩
  case round =>
    obtain ⟨k, hk0, hk, rfl, ht, h1, h2, h3, h4, h5, h6⟩ := hrel
    have C := HL.out.only ht
    have HC := ht.cellM HP.out
    rcases (by omega : k = 0 ∨ k = 1 ∨ k = 2 ∨ k = 3 ∨ k = 4 ∨ k = 5 ∨ k = 6) with rfl | rfl | rfl | rfl | rfl | rfl | rfl
    · have c0 := C.cell 0 (.string ⟨#[67, 72, 70]⟩) rfl
      have c1 := C.cell 1 (.int .i64 2) rfl
      clear h1 h2 h3 h4 h5 h6 C hk0 hk
      go_wp2_with fail
      refine (find1_any _ s _ p _ HC).mono ?_
      rintro r w1 ⟨rfl, t1⟩
      rw [E0.out]
      have ht := ht.trans t1
      clear c0 c1 t1 HC
      cases q0
      · go_wp2
        go_roundw
        case rel => exact ⟨1, by omega, by omega, rfl, ht, by simp, by omega, by omega, by omega, by omega, by omega⟩
        case measure => simp [intOf]
      · go_wp2
        go_ret
        exact ⟨rfl, ht⟩
    · have c0 := C.cell 2 (.string ⟨#[69, 85, 82]⟩) rfl
      have c1 := C.cell 3 (.int .i64 2) rfl
      obtain rfl : q0 = false := h1 (by omega)
      clear h1 h2 h3 h4 h5 h6 C hk0 hk
      go_wp2_with fail
      refine (find1_any _ s _ p _ HC).mono ?_
      rintro r w1 ⟨rfl, t1⟩
      rw [E1.out]
      have ht := ht.trans t1
      clear c0 c1 t1 HC
      cases q1
      · go_wp2
        go_roundw
        case rel => exact ⟨2, by omega, by omega, rfl, ht, by simp, by simp, by omega, by omega, by omega, by omega⟩
        case measure => simp [intOf]
      · go_wp2
        go_ret
        exact ⟨rfl, ht⟩
    · have c0 := C.cell 4 (.string ⟨#[71, 66, 80]⟩) rfl
      have c1 := C.cell 5 (.int .i64 2) rfl
      obtain rfl : q0 = false := h1 (by omega)
      obtain rfl : q1 = false := h2 (by omega)
      clear h1 h2 h3 h4 h5 h6 C hk0 hk
      go_wp2_with fail
      refine (find1_any _ s _ p _ HC).mono ?_
      rintro r w1 ⟨rfl, t1⟩
      rw [E2.out]
      have ht := ht.trans t1
      clear c0 c1 t1 HC
      cases q2
      · go_wp2
        go_roundw
        case rel => exact ⟨3, by omega, by omega, rfl, ht, by simp, by simp, by simp, by omega, by omega, by omega⟩
        case measure => simp [intOf]
      · go_wp2
        go_ret
        exact ⟨rfl, ht⟩
    · have c0 := C.cell 6 (.string ⟨#[74, 80, 89]⟩) rfl
      have c1 := C.cell 7 (.int .i64 0) rfl
      obtain rfl : q0 = false := h1 (by omega)
      obtain rfl : q1 = false := h2 (by omega)
      obtain rfl : q2 = false := h3 (by omega)
      clear h1 h2 h3 h4 h5 h6 C hk0 hk
      go_wp2_with fail
      refine (find1_any _ s _ p _ HC).mono ?_
      rintro r w1 ⟨rfl, t1⟩
      rw [E3.out]
      have ht := ht.trans t1
      clear c0 c1 t1 HC
      cases q3
      · go_wp2
        go_roundw
        case rel => exact ⟨4, by omega, by omega, rfl, ht, by simp, by simp, by simp, by simp, by omega, by omega⟩
        case measure => simp [intOf]
      · go_wp2
        go_ret
        exact ⟨rfl, ht⟩
    · have c0 := C.cell 8 (.string ⟨#[75, 87, 68]⟩) rfl
      have c1 := C.cell 9 (.int .i64 3) rfl
      obtain rfl : q0 = false := h1 (by omega)
      obtain rfl : q1 = false := h2 (by omega)
      obtain rfl : q2 = false := h3 (by omega)
      obtain rfl : q3 = false := h4 (by omega)
      clear h1 h2 h3 h4 h5 h6 C hk0 hk
      go_wp2_with fail
      refine (find1_any _ s _ p _ HC).mono ?_
      rintro r w1 ⟨rfl, t1⟩
      rw [E4.out]
      have ht := ht.trans t1
      clear c0 c1 t1 HC
      cases q4
      · go_wp2
        go_roundw
        case rel => exact ⟨5, by omega, by omega, rfl, ht, by simp, by simp, by simp, by simp, by simp, by omega⟩
        case measure => simp [intOf]
      · go_wp2
        go_ret
        exact ⟨rfl, ht⟩
    · have c0 := C.cell 10 (.string ⟨#[85, 83, 68]⟩) rfl
      have c1 := C.cell 11 (.int .i64 2) rfl
      obtain rfl : q0 = false := h1 (by omega)
      obtain rfl : q1 = false := h2 (by omega)
      obtain rfl : q2 = false := h3 (by omega)
      obtain rfl : q3 = false := h4 (by omega)
      obtain rfl : q4 = false := h5 (by omega)
      clear h1 h2 h3 h4 h5 h6 C hk0 hk
      go_wp2_with fail
      refine (find1_any _ s _ p _ HC).mono ?_
      rintro r w1 ⟨rfl, t1⟩
      rw [E5.out]
      have ht := ht.trans t1
      clear c0 c1 t1 HC
      cases q5
      · go_wp2
        go_roundw
        case rel => exact ⟨6, by omega, by omega, rfl, ht, by simp, by simp, by simp, by simp, by simp, by simp⟩
        case measure => simp [intOf]
      · go_wp2
        go_ret
        exact ⟨rfl, ht⟩
    · obtain rfl : q0 = false := h1 (by omega)
      obtain rfl : q1 = false := h2 (by omega)
      obtain rfl : q2 = false := h3 (by omega)
      obtain rfl : q3 = false := h4 (by omega)
      obtain rfl : q4 = false := h5 (by omega)
      obtain rfl : q5 = false := h6 (by omega)
      clear h1 h2 h3 h4 h5 h6 C HC hk0 hk
      go_wp2
      go_ret
      exact ⟨rfl, ht⟩

set_option maxHeartbeats 800000 in
theorem find_0 {s : ByteArray} {q0 q1 q2 q3 q4 q5 : Bool} (hi : idxQ q0 q1 q2 q3 q4 q5 = 0)
    (e0 : ((⟨#[67, 72, 70]⟩ : ByteArray).toList == s.toList) = q0)
    (e1 : ((⟨#[69, 85, 82]⟩ : ByteArray).toList == s.toList) = q1)
    (e2 : ((⟨#[71, 66, 80]⟩ : ByteArray).toList == s.toList) = q2)
    (e3 : ((⟨#[74, 80, 89]⟩ : ByteArray).toList == s.toList) = q3)
    (e4 : ((⟨#[75, 87, 68]⟩ : ByteArray).toList == s.toList) = q4)
    (e5 : ((⟨#[85, 83, 68]⟩ : ByteArray).toList == s.toList) = q5) (w : World) :
    Calls Tryz.prog 43 #[.string s] w fun e w' => e = .returned (.tuple #[.agg #[.string ⟨#[67, 72, 70]⟩, .int .i64 2], .int .i64 0]) ∧ Only w w' := by
  have E0 := Lib.hid e0
  have E1 := Lib.hid e1
  have E2 := Lib.hid e2
  have E3 := Lib.hid e3
  have E4 := Lib.hid e4
  have E5 := Lib.hid e5
  have HI := Lib.hid hi
  clear e0 e1 e2 e3 e4 e5 hi
  have ht := ((Only.refl w).alloc (.cells #[.string s] 9)).alloc (.cells #[.string ⟨#[]⟩, .int .i64 0] 45)
  have o1 := Own2.new1 w (.cells #[.string s] 9) (.string ⟨#[]⟩) (.int .i64 0) 45
  have hp : ((w.alloc (.cells #[.string s] 9)).alloc (.cells #[.string ⟨#[]⟩, .int .i64 0] 45)).cell? ⟨w.heap.size, 0, none⟩ = some (.string s) := by simp
  go_enter Tryz.func43, Tryz.ntmps43
  go_wp2_with fail
  go_at_call 16
  refine (currencies_any _).mono ?_
  rintro r w1 ⟨rfl, L1, t1⟩
  replace L1 : CurL w1 (w.heap.size + 1 + 1) := by simpa using L1
  have o1 := o1.only t1
  have ht := ht.trans t1
  have hp := t1.cellM hp
  clear t1
  go_wp2_with fail
  go_at_call 77
  refine (indexFunc_any L1 hp E0.out E1.out E2.out E3.out E4.out E5.out).mono ?_
  rintro r w2 ⟨rfl, t2⟩
  rw [HI.out]
  have L2 := L1.only t2
  obtain ⟨d1, d2, f1, f2, z1⟩ := (o1.only t2).all
  have ht := ht.trans t2
  have c0 := L2.cell 0 (.string ⟨#[67, 72, 70]⟩) rfl
  have c1 := L2.cell 1 (.int .i64 2) rfl
  clear t2 hp L1 L2 o1
  go_wp2
  simp [bodyPost, results, Tryz.results43, go_sem, World.cell?_setCell_other, d1, d2]
  exact (ht.set (by omega) 0 _).set (by omega) 1 _

set_option maxHeartbeats 800000 in
theorem find_1 {s : ByteArray} {q0 q1 q2 q3 q4 q5 : Bool} (hi : idxQ q0 q1 q2 q3 q4 q5 = 1)
    (e0 : ((⟨#[67, 72, 70]⟩ : ByteArray).toList == s.toList) = q0)
    (e1 : ((⟨#[69, 85, 82]⟩ : ByteArray).toList == s.toList) = q1)
    (e2 : ((⟨#[71, 66, 80]⟩ : ByteArray).toList == s.toList) = q2)
    (e3 : ((⟨#[74, 80, 89]⟩ : ByteArray).toList == s.toList) = q3)
    (e4 : ((⟨#[75, 87, 68]⟩ : ByteArray).toList == s.toList) = q4)
    (e5 : ((⟨#[85, 83, 68]⟩ : ByteArray).toList == s.toList) = q5) (w : World) :
    Calls Tryz.prog 43 #[.string s] w fun e w' => e = .returned (.tuple #[.agg #[.string ⟨#[69, 85, 82]⟩, .int .i64 2], .int .i64 0]) ∧ Only w w' := by
  have E0 := Lib.hid e0
  have E1 := Lib.hid e1
  have E2 := Lib.hid e2
  have E3 := Lib.hid e3
  have E4 := Lib.hid e4
  have E5 := Lib.hid e5
  have HI := Lib.hid hi
  clear e0 e1 e2 e3 e4 e5 hi
  have ht := ((Only.refl w).alloc (.cells #[.string s] 9)).alloc (.cells #[.string ⟨#[]⟩, .int .i64 0] 45)
  have o1 := Own2.new1 w (.cells #[.string s] 9) (.string ⟨#[]⟩) (.int .i64 0) 45
  have hp : ((w.alloc (.cells #[.string s] 9)).alloc (.cells #[.string ⟨#[]⟩, .int .i64 0] 45)).cell? ⟨w.heap.size, 0, none⟩ = some (.string s) := by simp
  go_enter Tryz.func43, Tryz.ntmps43
  go_wp2_with fail
  go_at_call 16
  refine (currencies_any _).mono ?_
  rintro r w1 ⟨rfl, L1, t1⟩
  replace L1 : CurL w1 (w.heap.size + 1 + 1) := by simpa using L1
  have o1 := o1.only t1
  have ht := ht.trans t1
  have hp := t1.cellM hp
  clear t1
  go_wp2_with fail
  go_at_call 77
  refine (indexFunc_any L1 hp E0.out E1.out E2.out E3.out E4.out E5.out).mono ?_
  rintro r w2 ⟨rfl, t2⟩
  rw [HI.out]
  have L2 := L1.only t2
  obtain ⟨d1, d2, f1, f2, z1⟩ := (o1.only t2).all
  have ht := ht.trans t2
  have c0 := L2.cell 2 (.string ⟨#[69, 85, 82]⟩) rfl
  have c1 := L2.cell 3 (.int .i64 2) rfl
  clear t2 hp L1 L2 o1
  go_wp2
  simp [bodyPost, results, Tryz.results43, go_sem, World.cell?_setCell_other, d1, d2]
  exact (ht.set (by omega) 0 _).set (by omega) 1 _

set_option maxHeartbeats 800000 in
theorem find_2 {s : ByteArray} {q0 q1 q2 q3 q4 q5 : Bool} (hi : idxQ q0 q1 q2 q3 q4 q5 = 2)
    (e0 : ((⟨#[67, 72, 70]⟩ : ByteArray).toList == s.toList) = q0)
    (e1 : ((⟨#[69, 85, 82]⟩ : ByteArray).toList == s.toList) = q1)
    (e2 : ((⟨#[71, 66, 80]⟩ : ByteArray).toList == s.toList) = q2)
    (e3 : ((⟨#[74, 80, 89]⟩ : ByteArray).toList == s.toList) = q3)
    (e4 : ((⟨#[75, 87, 68]⟩ : ByteArray).toList == s.toList) = q4)
    (e5 : ((⟨#[85, 83, 68]⟩ : ByteArray).toList == s.toList) = q5) (w : World) :
    Calls Tryz.prog 43 #[.string s] w fun e w' => e = .returned (.tuple #[.agg #[.string ⟨#[71, 66, 80]⟩, .int .i64 2], .int .i64 0]) ∧ Only w w' := by
  have E0 := Lib.hid e0
  have E1 := Lib.hid e1
  have E2 := Lib.hid e2
  have E3 := Lib.hid e3
  have E4 := Lib.hid e4
  have E5 := Lib.hid e5
  have HI := Lib.hid hi
  clear e0 e1 e2 e3 e4 e5 hi
  have ht := ((Only.refl w).alloc (.cells #[.string s] 9)).alloc (.cells #[.string ⟨#[]⟩, .int .i64 0] 45)
  have o1 := Own2.new1 w (.cells #[.string s] 9) (.string ⟨#[]⟩) (.int .i64 0) 45
  have hp : ((w.alloc (.cells #[.string s] 9)).alloc (.cells #[.string ⟨#[]⟩, .int .i64 0] 45)).cell? ⟨w.heap.size, 0, none⟩ = some (.string s) := by simp
  go_enter Tryz.func43, Tryz.ntmps43
  go_wp2_with fail
  go_at_call 16
  refine (currencies_any _).mono ?_
  rintro r w1 ⟨rfl, L1, t1⟩
  replace L1 : CurL w1 (w.heap.size + 1 + 1) := by simpa using L1
  have o1 := o1.only t1
  have ht := ht.trans t1
  have hp := t1.cellM hp
  clear t1
  go_wp2_with fail
  go_at_call 77
  refine (indexFunc_any L1 hp E0.out E1.out E2.out E3.out E4.out E5.out).mono ?_
  rintro r w2 ⟨rfl, t2⟩
  rw [HI.out]
  have L2 := L1.only t2
  obtain ⟨d1, d2, f1, f2, z1⟩ := (o1.only t2).all
  have ht := ht.trans t2
  have c0 := L2.cell 4 (.string ⟨#[71, 66, 80]⟩) rfl
  have c1 := L2.cell 5 (.int .i64 2) rfl
  clear t2 hp L1 L2 o1
  go_wp2
  simp [bodyPost, results, Tryz.results43, go_sem, World.cell?_setCell_other, d1, d2]
  exact (ht.set (by omega) 0 _).set (by omega) 1 _

set_option maxHeartbeats 800000 in
theorem find_3 {s : ByteArray} {q0 q1 q2 q3 q4 q5 : Bool} (hi : idxQ q0 q1 q2 q3 q4 q5 = 3)
    (e0 : ((⟨#[67, 72, 70]⟩ : ByteArray).toList == s.toList) = q0)
    (e1 : ((⟨#[69, 85, 82]⟩ : ByteArray).toList == s.toList) = q1)
    (e2 : ((⟨#[71, 66, 80]⟩ : ByteArray).toList == s.toList) = q2)
    (e3 : ((⟨#[74, 80, 89]⟩ : ByteArray).toList == s.toList) = q3)
    (e4 : ((⟨#[75, 87, 68]⟩ : ByteArray).toList == s.toList) = q4)
    (e5 : ((⟨#[85, 83, 68]⟩ : ByteArray).toList == s.toList) = q5) (w : World) :
    Calls Tryz.prog 43 #[.string s] w fun e w' => e = .returned (.tuple #[.agg #[.string ⟨#[74, 80, 89]⟩, .int .i64 0], .int .i64 0]) ∧ Only w w' := by
  have E0 := Lib.hid e0
  have E1 := Lib.hid e1
  have E2 := Lib.hid e2
  have E3 := Lib.hid e3
  have E4 := Lib.hid e4
  have E5 := Lib.hid e5
  have HI := Lib.hid hi
  clear e0 e1 e2 e3 e4 e5 hi
  have ht := ((Only.refl w).alloc (.cells #[.string s] 9)).alloc (.cells #[.string ⟨#[]⟩, .int .i64 0] 45)
  have o1 := Own2.new1 w (.cells #[.string s] 9) (.string ⟨#[]⟩) (.int .i64 0) 45
  have hp : ((w.alloc (.cells #[.string s] 9)).alloc (.cells #[.string ⟨#[]⟩, .int .i64 0] 45)).cell? ⟨w.heap.size, 0, none⟩ = some (.string s) := by simp
  go_enter Tryz.func43, Tryz.ntmps43
  go_wp2_with fail
  go_at_call 16
  refine (currencies_any _).mono ?_
  rintro r w1 ⟨rfl, L1, t1⟩
  replace L1 : CurL w1 (w.heap.size + 1 + 1) := by simpa using L1
  have o1 := o1.only t1
  have ht := ht.trans t1
  have hp := t1.cellM hp
  clear t1
  go_wp2_with fail
  go_at_call 77
  refine (indexFunc_any L1 hp E0.out E1.out E2.out E3.out E4.out E5.out).mono ?_
  rintro r w2 ⟨rfl, t2⟩
  rw [HI.out]
  have L2 := L1.only t2
  obtain ⟨d1, d2, f1, f2, z1⟩ := (o1.only t2).all
  have ht := ht.trans t2
  have c0 := L2.cell 6 (.string ⟨#[74, 80, 89]⟩) rfl
  have c1 := L2.cell 7 (.int .i64 0) rfl
  clear t2 hp L1 L2 o1
  go_wp2
  simp [bodyPost, results, Tryz.results43, go_sem, World.cell?_setCell_other, d1, d2]
  exact (ht.set (by omega) 0 _).set (by omega) 1 _

set_option maxHeartbeats 800000 in
theorem find_4 {s : ByteArray} {q0 q1 q2 q3 q4 q5 : Bool} (hi : idxQ q0 q1 q2 q3 q4 q5 = 4)
    (e0 : ((⟨#[67, 72, 70]⟩ : ByteArray).toList == s.toList) = q0)
    (e1 : ((⟨#[69, 85, 82]⟩ : ByteArray).toList == s.toList) = q1)
    (e2 : ((⟨#[71, 66, 80]⟩ : ByteArray).toList == s.toList) = q2)
    (e3 : ((⟨#[74, 80, 89]⟩ : ByteArray).toList == s.toList) = q3)
    (e4 : ((⟨#[75, 87, 68]⟩ : ByteArray).toList == s.toList) = q4)
    (e5 : ((⟨#[85, 83, 68]⟩ : ByteArray).toList == s.toList) = q5) (w : World) :
    Calls Tryz.prog 43 #[.string s] w fun e w' => e = .returned (.tuple #[.agg #[.string ⟨#[75, 87, 68]⟩, .int .i64 3], .int .i64 0]) ∧ Only w w' := by
  have E0 := Lib.hid e0
  have E1 := Lib.hid e1
  have E2 := Lib.hid e2
  have E3 := Lib.hid e3
  have E4 := Lib.hid e4
  have E5 := Lib.hid e5
  have HI := Lib.hid hi
  clear e0 e1 e2 e3 e4 e5 hi
  have ht := ((Only.refl w).alloc (.cells #[.string s] 9)).alloc (.cells #[.string ⟨#[]⟩, .int .i64 0] 45)
  have o1 := Own2.new1 w (.cells #[.string s] 9) (.string ⟨#[]⟩) (.int .i64 0) 45
  have hp : ((w.alloc (.cells #[.string s] 9)).alloc (.cells #[.string ⟨#[]⟩, .int .i64 0] 45)).cell? ⟨w.heap.size, 0, none⟩ = some (.string s) := by simp
  go_enter Tryz.func43, Tryz.ntmps43
  go_wp2_with fail
  go_at_call 16
  refine (currencies_any _).mono ?_
  rintro r w1 ⟨rfl, L1, t1⟩
  replace L1 : CurL w1 (w.heap.size + 1 + 1) := by simpa using L1
  have o1 := o1.only t1
  have ht := ht.trans t1
  have hp := t1.cellM hp
  clear t1
  go_wp2_with fail
  go_at_call 77
  refine (indexFunc_any L1 hp E0.out E1.out E2.out E3.out E4.out E5.out).mono ?_
  rintro r w2 ⟨rfl, t2⟩
  rw [HI.out]
  have L2 := L1.only t2
  obtain ⟨d1, d2, f1, f2, z1⟩ := (o1.only t2).all
  have ht := ht.trans t2
  have c0 := L2.cell 8 (.string ⟨#[75, 87, 68]⟩) rfl
  have c1 := L2.cell 9 (.int .i64 3) rfl
  clear t2 hp L1 L2 o1
  go_wp2
  simp [bodyPost, results, Tryz.results43, go_sem, World.cell?_setCell_other, d1, d2]
  exact (ht.set (by omega) 0 _).set (by omega) 1 _

set_option maxHeartbeats 800000 in
theorem find_5 {s : ByteArray} {q0 q1 q2 q3 q4 q5 : Bool} (hi : idxQ q0 q1 q2 q3 q4 q5 = 5)
    (e0 : ((⟨#[67, 72, 70]⟩ : ByteArray).toList == s.toList) = q0)
    (e1 : ((⟨#[69, 85, 82]⟩ : ByteArray).toList == s.toList) = q1)
    (e2 : ((⟨#[71, 66, 80]⟩ : ByteArray).toList == s.toList) = q2)
    (e3 : ((⟨#[74, 80, 89]⟩ : ByteArray).toList == s.toList) = q3)
    (e4 : ((⟨#[75, 87, 68]⟩ : ByteArray).toList == s.toList) = q4)
    (e5 : ((⟨#[85, 83, 68]⟩ : ByteArray).toList == s.toList) = q5) (w : World) :
    Calls Tryz.prog 43 #[.string s] w fun e w' => e = .returned (.tuple #[.agg #[.string ⟨#[85, 83, 68]⟩, .int .i64 2], .int .i64 0]) ∧ Only w w' := by
  have E0 := Lib.hid e0
  have E1 := Lib.hid e1
  have E2 := Lib.hid e2
  have E3 := Lib.hid e3
  have E4 := Lib.hid e4
  have E5 := Lib.hid e5
  have HI := Lib.hid hi
  clear e0 e1 e2 e3 e4 e5 hi
  have ht := ((Only.refl w).alloc (.cells #[.string s] 9)).alloc (.cells #[.string ⟨#[]⟩, .int .i64 0] 45)
  have o1 := Own2.new1 w (.cells #[.string s] 9) (.string ⟨#[]⟩) (.int .i64 0) 45
  have hp : ((w.alloc (.cells #[.string s] 9)).alloc (.cells #[.string ⟨#[]⟩, .int .i64 0] 45)).cell? ⟨w.heap.size, 0, none⟩ = some (.string s) := by simp
  go_enter Tryz.func43, Tryz.ntmps43
  go_wp2_with fail
  go_at_call 16
  refine (currencies_any _).mono ?_
  rintro r w1 ⟨rfl, L1, t1⟩
  replace L1 : CurL w1 (w.heap.size + 1 + 1) := by simpa using L1
  have o1 := o1.only t1
  have ht := ht.trans t1
  have hp := t1.cellM hp
  clear t1
  go_wp2_with fail
  go_at_call 77
  refine (indexFunc_any L1 hp E0.out E1.out E2.out E3.out E4.out E5.out).mono ?_
  rintro r w2 ⟨rfl, t2⟩
  rw [HI.out]
  have L2 := L1.only t2
  obtain ⟨d1, d2, f1, f2, z1⟩ := (o1.only t2).all
  have ht := ht.trans t2
  have c0 := L2.cell 10 (.string ⟨#[85, 83, 68]⟩) rfl
  have c1 := L2.cell 11 (.int .i64 2) rfl
  clear t2 hp L1 L2 o1
  go_wp2
  simp [bodyPost, results, Tryz.results43, go_sem, World.cell?_setCell_other, d1, d2]
  exact (ht.set (by omega) 0 _).set (by omega) 1 _

set_option maxHeartbeats 800000 in
theorem find_none {s : ByteArray} {q0 q1 q2 q3 q4 q5 : Bool} (hi : idxQ q0 q1 q2 q3 q4 q5 = -1)
    (e0 : ((⟨#[67, 72, 70]⟩ : ByteArray).toList == s.toList) = q0)
    (e1 : ((⟨#[69, 85, 82]⟩ : ByteArray).toList == s.toList) = q1)
    (e2 : ((⟨#[71, 66, 80]⟩ : ByteArray).toList == s.toList) = q2)
    (e3 : ((⟨#[74, 80, 89]⟩ : ByteArray).toList == s.toList) = q3)
    (e4 : ((⟨#[75, 87, 68]⟩ : ByteArray).toList == s.toList) = q4)
    (e5 : ((⟨#[85, 83, 68]⟩ : ByteArray).toList == s.toList) = q5) (w : World) :
    Calls Tryz.prog 43 #[.string s] w fun e w' => e = .returned (.tuple #[.agg #[.string ⟨#[]⟩, .int .i64 0], .int .i64 18]) ∧ Only w w' := by
  have E0 := Lib.hid e0
  have E1 := Lib.hid e1
  have E2 := Lib.hid e2
  have E3 := Lib.hid e3
  have E4 := Lib.hid e4
  have E5 := Lib.hid e5
  have HI := Lib.hid hi
  clear e0 e1 e2 e3 e4 e5 hi
  have ht := ((Only.refl w).alloc (.cells #[.string s] 9)).alloc (.cells #[.string ⟨#[]⟩, .int .i64 0] 45)
  have o1 := Own2.new1 w (.cells #[.string s] 9) (.string ⟨#[]⟩) (.int .i64 0) 45
  have hp : ((w.alloc (.cells #[.string s] 9)).alloc (.cells #[.string ⟨#[]⟩, .int .i64 0] 45)).cell? ⟨w.heap.size, 0, none⟩ = some (.string s) := by simp
  go_enter Tryz.func43, Tryz.ntmps43
  go_wp2_with fail
  go_at_call 16
  refine (currencies_any _).mono ?_
  rintro r w1 ⟨rfl, L1, t1⟩
  replace L1 : CurL w1 (w.heap.size + 1 + 1) := by simpa using L1
  have o1 := o1.only t1
  have ht := ht.trans t1
  have hp := t1.cellM hp
  clear t1
  go_wp2_with fail
  go_at_call 77
  refine (indexFunc_any L1 hp E0.out E1.out E2.out E3.out E4.out E5.out).mono ?_
  rintro r w2 ⟨rfl, t2⟩
  rw [HI.out]
  have L2 := L1.only t2
  obtain ⟨d1, d2, f1, f2, z1⟩ := (o1.only t2).all
  have ht := ht.trans t2
  clear t2 hp L1 L2 o1
  go_wp2
  simp [bodyPost, results, Tryz.results43, go_sem, World.cell?_setCell_other, d1, d2]
  exact (ht.set (by omega) 0 _).set (by omega) 1 _
end Go.Proofs.YtopklnaahdjafaaGreatDoor
