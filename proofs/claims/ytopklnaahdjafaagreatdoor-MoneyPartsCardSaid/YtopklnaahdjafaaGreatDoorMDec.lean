/-
  A decimal's parts.
-/
import Derived.Test.YtopklnaahdjafaaGreatDoorMParse
namespace Go.Proofs.YtopklnaahdjafaaGreatDoor
open Go.RowKit Go.Shelf
set_option linter.unusedVariables false

/-- block b holds three cells -/
def Own3 (w : World) (b : Nat) (x y z : Value) : Prop := ∃ ty, w.heap[b]? = some (.cells #[x, y, z] ty)
theorem Own3.lt {w : World} {b : Nat} {x y z : Value} (h : Own3 w b x y z) : b < w.heap.size := by
  obtain ⟨ty, h⟩ := h; exact (Array.getElem?_eq_some_iff.1 h).1
theorem Own3.only {w w' : World} {b : Nat} {x y z : Value} (h : Own3 w b x y z) (t : Only w w') : Own3 w' b x y z := by
  have := h.lt
  obtain ⟨ty, h⟩ := h
  exact ⟨ty, (t.block b this).trans h⟩
theorem Own3.all {w : World} {b : Nat} {x y z : Value} (h : Own3 w b x y z) : w.cell? ⟨b, 0, none⟩ = some x ∧ w.cell? ⟨b, 1, none⟩ = some y ∧ w.cell? ⟨b, 2, none⟩ = some z ∧ w.frozen? ⟨b, 0, none⟩ = false ∧ w.frozen? ⟨b, 1, none⟩ = false ∧ w.frozen? ⟨b, 2, none⟩ = false ∧ b < w.heap.size := by
  have l := h.lt
  obtain ⟨ty, h⟩ := h
  refine ⟨?_, ?_, ?_, ?_, ?_, ?_, l⟩ <;> simp [World.cell?, World.frozen?, h]
theorem Own3.new (w : World) (x y z : Value) (ty : TypeId) : Own3 (w.alloc (.cells #[x, y, z] ty)) w.heap.size x y z := ⟨_, heap_alloc_new ..⟩
theorem Own3.new1 (w : World) (p : Obj) (x y z : Value) (ty : TypeId) : Own3 ((w.alloc p).alloc (.cells #[x, y, z] ty)) (w.heap.size + 1) x y z := by simpa using Own3.new (w.alloc p) x y z ty
theorem Own3.alloc {w : World} {b : Nat} {x y z : Value} (h : Own3 w b x y z) (o : Obj) : Own3 (w.alloc o) b x y z := h.only ((Only.refl w).alloc o)

abbrev CutPIs (s t : ByteArray) (b : Bool) : Prop := ∀ w, Calls Tryz.prog 61 #[.string s, .string ⟨#[45]⟩] w fun e w' => e = .returned (.tuple #[.string t, .bool b]) ∧ w' = w
abbrev CutIs (s : ByteArray) (c : UInt8) (t u : ByteArray) (p : Bool) : Prop := ∀ w, Calls Tryz.prog 52 #[.string s, .string ⟨#[c]⟩] w fun e w' => e = .returned (.tuple #[.string t, .string u, .bool p]) ∧ Only w w'
abbrev DigIs (s : ByteArray) (b : Bool) : Prop := ∀ w, Calls Tryz.prog 85 #[.string s] w fun e w' => e = .returned (.bool b) ∧ w' = w
abbrev DecIs (s : ByteArray) (b : Bool) (u f : ByteArray) (k : Bool) : Prop := ∀ w, Calls Tryz.prog 53 #[.string s] w fun e w' => e = .returned (.tuple #[.agg #[.bool b, .string u, .string f], .bool k]) ∧ Only w w'

theorem decimal_none {s t u f : ByteArray} {b p : Bool} (C1 : CutPIs s t b) (C2 : CutIs t 46 u f p) (D1 : DigIs u false) : DecIs s false ⟨#[]⟩ ⟨#[]⟩ false := by
  intro w
  have C1 := Lib.hid C1
  have C2 := Lib.hid C2
  have D1 := Lib.hid D1
  have ht := (Only.refl w).alloc (.cells #[.bool false, .string ⟨#[]⟩, .string ⟨#[]⟩] 96)
  have o := Own3.new w (.bool false) (.string ⟨#[]⟩) (.string ⟨#[]⟩) 96
  go_enter Tryz.func53, Tryz.ntmps53
  go_wp2_with fail
  go_at_call 61
  refine (C1.out _).mono ?_
  rintro r w1 ⟨rfl, rfl⟩
  go_wp2_with fail
  go_at_call 52
  refine (C2.out _).mono ?_
  rintro r w1 ⟨rfl, t1⟩
  obtain ⟨d0, d1, d2, f0, f1, f2, z1⟩ := (o.only t1).all
  have ht := ht.trans t1
  clear o t1
  go_wp2_with fail
  go_at_call 85
  refine (D1.out _).mono ?_
  rintro r w2 ⟨rfl, rfl⟩
  go_wp2
  simp [bodyPost, results, Tryz.results53, go_sem, World.cell?_setCell_other, d0, d1, d2]
  exact ((ht.set (by omega) 0 _).set (by omega) 1 _).set (by omega) 2 _

set_option maxHeartbeats 1600000 in
theorem decimal_some {s t u f : ByteArray} {b p z q d2 : Bool} (C1 : CutPIs s t b) (C2 : CutIs t 46 u f p) (D1 : DigIs u true) (D2 : DigIs f d2) (hu : 0 < u.size) (hz : (((u[0]'hu).toNat : Int) == 48) = z) (hq : (u.toList == [48]) = !q) :
    DecIs s (if z && q || p && !d2 then false else b) (if z && q || p && !d2 then ⟨#[]⟩ else u) (if z && q || p && !d2 then ⟨#[]⟩ else f) (!(z && q || p && !d2)) := by
  intro w
  have C1 := Lib.hid C1
  have C2 := Lib.hid C2
  have D1 := Lib.hid D1
  have D2 := Lib.hid D2
  have hu0 : (0 : Int) < (u.size : Int) := by omega
  have hq2 : (u.toList != [48]) = q := by simp [bne, hq]
  have ht := (Only.refl w).alloc (.cells #[.bool false, .string ⟨#[]⟩, .string ⟨#[]⟩] 96)
  have o := Own3.new w (.bool false) (.string ⟨#[]⟩) (.string ⟨#[]⟩) 96
  have HZ := Lib.hid hz
  have HQ := Lib.hid hq
  have HQ2 := Lib.hid hq2
  clear hz hq hq2
  go_enter Tryz.func53, Tryz.ntmps53
  go_wp2_with fail
  go_at_call 61
  refine (C1.out _).mono ?_
  rintro r w1 ⟨rfl, rfl⟩
  go_wp2_with fail
  go_at_call 52
  refine (C2.out _).mono ?_
  rintro r w1 ⟨rfl, t1⟩
  obtain ⟨c0, c1, c2, f0, f1, f2, z1⟩ := (o.only t1).all
  have ht := ht.trans t1
  clear o t1
  go_wp2_with fail
  go_at_call 85
  refine (D1.out _).mono ?_
  rintro r w2 ⟨rfl, rfl⟩
  have hz := HZ.out
  have hq := HQ.out
  have hq2 := HQ2.out
  cases z <;> cases q <;> cases p <;> cases d2
  all_goals
    go_wp2_with (go_at_call 85; refine (D2.out _).mono ?_; rintro r w1 ⟨rfl, rfl⟩)
    simp [bodyPost, results, Tryz.results53, go_sem, World.cell?_setCell_other, c0, c1, c2]
    exact ((ht.set (by omega) 0 _).set (by omega) 1 _).set (by omega) 2 _

/-! ### the parts, of any text -/
def dBelow (l : List UInt8) : Bool := Lib.hasPrefix l [45]
def dCut (l : List UInt8) : List UInt8 × List UInt8 × Bool := cutL 46 (Lib.trimPrefix l [45])
def dWhole (l : List UInt8) : List UInt8 := (dCut l).1
def dFrac (l : List UInt8) : List UInt8 := (dCut l).2.1
def dOk (l : List UInt8) : Bool := bodyB (dWhole l) && (!(dCut l).2.2 || (digsB (dFrac l) && !(dFrac l).isEmpty))

theorem cutL_len (c : UInt8) (l : List UInt8) : (cutL c l).1.length ≤ l.length ∧ (cutL c l).2.1.length ≤ l.length := by
  rcases cutL_index c l with ⟨-, h⟩ | ⟨i, -, hi, h⟩
  · rw [h]; simp
  · rw [h]; simp; omega
theorem trim_len (l p : List UInt8) : (Lib.trimPrefix l p).length ≤ l.length := by
  unfold Lib.trimPrefix; split
  · rw [List.length_drop]; omega
  · exact Nat.le_refl _
theorem mtxt_size (l : List UInt8) : (mtxt l).size = l.length := by rw [Lib.size_eq]
theorem mtxt_list (l : List UInt8) : (mtxt l).data.toList = l := rfl

theorem decimal_any (s : ByteArray) (hl : s.size ≤ 1000000) :
    DecIs s (dOk s.data.toList && dBelow s.data.toList) (mtxt (if dOk s.data.toList then dWhole s.data.toList else [])) (mtxt (if dOk s.data.toList then dFrac s.data.toList else [])) (dOk s.data.toList) := by
  have hlen : s.data.toList.length ≤ 1000000 := by rw [← Lib.size_eq]; exact hl
  obtain ⟨l, el⟩ : ∃ l, l = s.data.toList := ⟨_, rfl⟩
  have C1 : CutPIs s (mtxt (Lib.trimPrefix l [45])) (dBelow l) := fun w => by rw [el]; exact cutPrefix_any s ⟨#[45]⟩ w
  have L1 : (mtxt (Lib.trimPrefix l [45])).size ≤ 1000000 := by rw [mtxt_size]; have := trim_len l [45]; rw [el] at this ⊢; omega
  have C2 : CutIs (mtxt (Lib.trimPrefix l [45])) 46 (mtxt (dWhole l)) (mtxt (dFrac l)) (dCut l).2.2 := fun w => cut_any _ 46 w (by omega)
  have c1 := cutL_len 46 (Lib.trimPrefix l [45])
  rw [mtxt_size] at L1
  have D1 : DigIs (mtxt (dWhole l)) (digsB (dWhole l) && !(dWhole l).isEmpty) := fun w => areDigits_any (mtxt (dWhole l)) (by rw [mtxt_size]; exact Nat.le_trans c1.1 L1) w
  have D2 : DigIs (mtxt (dFrac l)) (digsB (dFrac l) && !(dFrac l).isEmpty) := fun w => areDigits_any (mtxt (dFrac l)) (by rw [mtxt_size]; exact Nat.le_trans c1.2 L1) w
  rw [← el]
  cases hd : (digsB (dWhole l) && !(dWhole l).isEmpty) with
  | false =>
    rw [hd] at D1
    have hk : dOk l = false := by unfold dOk bodyB; rw [hd]; simp
    rw [hk]
    exact decimal_none C1 C2 D1
  | true =>
    rw [hd] at D1
    have hne : (dWhole l).isEmpty = false := by
      cases h : (dWhole l).isEmpty
      · rfl
      · rw [h] at hd; simp at hd
    obtain ⟨x, r, hx⟩ : ∃ x r, dWhole l = x :: r := by
      cases h : dWhole l with
      | nil => rw [h] at hne; cases hne
      | cons x r => exact ⟨x, r, rfl⟩
    have hu : 0 < (mtxt (dWhole l)).size := by rw [mtxt_size, hx]; simp
    have hu0 : (mtxt (dWhole l))[0]'hu = x := by
      have e : (mtxt (dWhole l))[0]'hu = (dWhole l)[0]'(by rw [hx]; simp) := rfl
      rw [e]; simp [hx]
    have W := decimal_some C1 C2 D1 D2 hu (z := decide (x.toNat = 48)) (q := !((dWhole l) == [48])) (by rw [hu0, Bool.eq_iff_iff]; simp; omega) (by rw [Lib.toList_data, mtxt_list, Bool.not_not])
    have hk : dOk l = !(decide (x.toNat = 48) && !(dWhole l == [48]) || (dCut l).2.2 && !(digsB (dFrac l) && !(dFrac l).isEmpty)) := by
      unfold dOk bodyB
      rw [hd, hx]
      have e1 : (x == (48 : UInt8)) = decide (x.toNat = 48) := by
        rw [Bool.eq_iff_iff]; simp only [beq_iff_eq, decide_eq_true_eq, ← UInt8.toNat_inj]; rfl
      have e2 : ((x :: r) == [48]) = ((x == (48 : UInt8)) && r.isEmpty) := by cases r <;> simp
      rw [e2, ← e1]
      simp only [List.headD_cons]
      generalize (x == (48 : UInt8)) = g
      cases g <;> cases r <;> cases (dCut l).2.2 <;> cases (digsB (dFrac l)) <;> cases (dFrac l).isEmpty <;> simp
    generalize (decide (x.toNat = 48) && !(dWhole l == [48]) || (dCut l).2.2 && !(digsB (dFrac l) && !(dFrac l).isEmpty)) = g at W hk
    rw [hk]
    cases g
    · exact W
    · exact W
end Go.Proofs.YtopklnaahdjafaaGreatDoor
