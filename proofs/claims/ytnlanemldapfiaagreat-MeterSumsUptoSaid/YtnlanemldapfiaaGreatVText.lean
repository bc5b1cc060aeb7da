/-
  Names and keys: strings.ContainsFunc, Clone; registry.ValidName, isKey.
-/
import Derived.Test.YtnlanemldapfiaaGreatTBase
import Derived.Lib.Hide
import Derived.Shelf.Strconv.Clone
import Derived.Shelf.Strings.FuncGrows
import Derived.Shelf.Lay
namespace Go.Proofs
open Go.Shelf
def Tryz.laysM316_ren : Go.Shelf.Ren := ⟨fun | 316 => 83 | n => n, fun | 9 => 9 | 3 => 3 | 4 => 4 | 37 => 149 | 0 => 0 | 127 => 150 | 5 => 5 | n => n, fun | n => n⟩
theorem Tryz.laysM316 : Go.Proofs.LaysM.n316 Tryz.prog Tryz.laysM316_ren := {
  mixed := by kernel_rfl
  f316 := Tryz.func83.trans (congrArg some (by kernel_rfl))
  t0 := Tryz.underlying0
  a0 := Tryz.isAgg0
  z0 := Tryz.sizeOf0
  v0 := Tryz.zeroValue0
  t3 := Tryz.underlying3
  a3 := Tryz.isAgg3
  z3 := Tryz.sizeOf3
  v3 := Tryz.zeroValue3
  t4 := Tryz.underlying4
  a4 := Tryz.isAgg4
  z4 := Tryz.sizeOf4
  v4 := Tryz.zeroValue4
  t9 := Tryz.underlying9
  a9 := Tryz.isAgg9
  z9 := Tryz.sizeOf9
  v9 := Tryz.zeroValue9
  t37 := Tryz.underlying149
  a37 := Tryz.isAgg149
  z37 := Tryz.sizeOf149
  v37 := Tryz.zeroValue149
  t127 := Tryz.underlying150
  a127 := Tryz.isAgg150
  z127 := Tryz.sizeOf150
  v127 := Tryz.zeroValue150
  t5 := Tryz.underlying5
  a5 := Tryz.isAgg5
  z5 := Tryz.sizeOf5
  v5 := Tryz.zeroValue5
  i0 := by kernel_rfl
  i3 := by kernel_rfl
  i4 := by kernel_rfl
  i5 := by kernel_rfl
  i9 := by kernel_rfl
  i37 := by kernel_rfl
  i127 := by kernel_rfl }
def Tryz.laysGw17_ren : Go.Shelf.Ren := ⟨fun | 17 => 60 | 15 => 94 | 20 => 123 | n => n, fun | 9 => 9 | 23 => 118 | 4 => 4 | 3 => 3 | 0 => 0 | 21 => 21 | n => n, fun | n => n⟩
theorem Tryz.laysGw17 : Go.Proofs.LaysGw.n17 Tryz.prog Tryz.laysGw17_ren := {
  mixed := by kernel_rfl
  f15 := Tryz.func94.trans (congrArg some (by kernel_rfl))
  f17 := Tryz.func60.trans (congrArg some (by kernel_rfl))
  f20 := Tryz.func123.trans (congrArg some (by kernel_rfl))
  t0 := Tryz.underlying0
  a0 := Tryz.isAgg0
  z0 := Tryz.sizeOf0
  v0 := Tryz.zeroValue0
  i0 := by kernel_rfl
  t3 := Tryz.underlying3
  a3 := Tryz.isAgg3
  z3 := Tryz.sizeOf3
  v3 := Tryz.zeroValue3
  i3 := by kernel_rfl
  t4 := Tryz.underlying4
  a4 := Tryz.isAgg4
  z4 := Tryz.sizeOf4
  v4 := Tryz.zeroValue4
  i4 := by kernel_rfl
  t9 := Tryz.underlying9
  a9 := Tryz.isAgg9
  z9 := Tryz.sizeOf9
  v9 := Tryz.zeroValue9
  i9 := by kernel_rfl
  t21 := Tryz.underlying21
  a21 := Tryz.isAgg21
  z21 := Tryz.sizeOf21
  v21 := Tryz.zeroValue21
  i21 := by kernel_rfl
  t23 := Tryz.underlying118
  a23 := Tryz.isAgg118
  z23 := Tryz.sizeOf118
  v23 := Tryz.zeroValue118
  i23 := by kernel_rfl }
end Go.Proofs
namespace Go.Proofs.YtnlanemldapfiaaGreat
open Go.RowKit Go.Maps Go.WideMaps Go.Shelf

theorem sClone_any (s : ByteArray) (hs : s.size ≤ 281474976710656) (w : World) : Calls Tryz.prog 83 #[.string s] w fun r w' => r = .returned (.string s) ∧ Below w.heap.size w w' := Any.stringslite_Clone Tryz.laysM316 s w hs

theorem clone_any (s : ByteArray) (hs : s.size ≤ 281474976710656) (w : World) : Calls Tryz.prog 54 #[.string s] w fun r w' => r = .returned (.string s) ∧ Turn (fun _ => False) w w' := by
  go_enter Tryz.func54, Tryz.ntmps54
  go_wp2_with (go_at_call 83; refine (sClone_any s hs _).mono ?_; rintro r w' ⟨rfl, hb⟩)
  go_ret
  exact ⟨rfl, Below.turn hb _⟩

/-! ### a text's runes, where all that are no bytes are foreign -/
theorem decode_low (s : ByteArray) (i : Nat) (h : (s.get! i).toNat < 128) : Utf8.decode s i = ((s.get! i).toNat, 1) := by
  unfold Utf8.decode
  simp only [Nat.add_zero]
  rw [if_pos h]

theorem decode_high (s : ByteArray) (i : Nat) (h : ¬ (s.get! i).toNat < 128) : 128 ≤ (Utf8.decode s i).1 := by
  unfold Utf8.decode
  simp only [Nat.add_zero]
  rw [if_neg h]
  have e : Utf8.runeError = 65533 := rfl
  split
  · split
    · assumption
    · rw [e]; decide
  · split
    · split
      · rename_i h1; simp at h1; omega
      · rw [e]; decide
    · split
      · split
        · rename_i h1; simp at h1; omega
        · rw [e]; decide
      · rw [e]; decide

/-- some byte from a place on is foreign -/
def foreignFrom (p : Nat → Bool) (s : ByteArray) (i : Nat) : Bool := (s.data.toList.drop i).any (fun c => p c.toNat)

theorem get_list (s : ByteArray) (i : Nat) (h : i < s.size) : s.data.toList.drop i = s.get! i :: s.data.toList.drop (i + 1) := by
  have hl : i < s.data.toList.length := by simpa using h
  rw [List.drop_eq_getElem_cons hl]
  congr 1
  have h2 : i < s.data.size := h
  simp [ByteArray.get!]
  exact (getElem!_pos s.data i h2).symm

theorem idx_any (p : Nat → Bool) (hp : ∀ x, 128 ≤ x → p x = true) (s : ByteArray) : ∀ (f i : Nat), s.size ≤ i + f → decide (0 ≤ Lib.idxFuncFrom p true s f i) = foreignFrom p s i
  | 0, i, h => by
    unfold Lib.idxFuncFrom foreignFrom
    rw [List.drop_eq_nil_of_le (by simpa using h)]
    rfl
  | f + 1, i, h => by
    unfold Lib.idxFuncFrom
    by_cases hi : i < s.size
    · rw [if_pos hi]
      unfold foreignFrom
      rw [get_list s i hi, List.any_cons]
      by_cases hb : (s.get! i).toNat < 128
      · rw [decode_low s i hb]
        dsimp only
        by_cases hpb : p (s.get! i).toNat = true
        · rw [if_pos hpb, hpb]; simp
        · rw [if_neg hpb, idx_any p hp s f (i + 1) (by omega)]
          rw [Bool.not_eq_true] at hpb
          rw [hpb, Bool.false_or]; rfl
      · rw [if_pos (hp _ (decode_high s i hb)), hp _ (by omega)]; simp
    · rw [if_neg hi]
      unfold foreignFrom
      rw [List.drop_eq_nil_of_le (by simp; omega)]
      rfl

theorem contains_any (g : Nat) (eg : ∀ args w, (callFunc g args).run Tryz.prog w = .ok (.enter g args) w) (p : Nat → Bool) (h128 : ∀ x, 128 ≤ x → p x = true) (s : List UInt8) (w : World)
    (hp : ∀ (W : World) (x : Nat), x ≤ 1114111 → Calls Tryz.prog g #[.int .i32 (x : Nat)] W fun e w' => e = .returned (.bool (p x)) ∧ Below W.heap.size W w') :
    Calls Tryz.prog 60 #[.string ⟨s.toArray⟩, .func (.func g) #[] #[]] w fun r w' => r = .returned (.bool (s.any fun c => p c.toNat)) ∧ Turn (fun _ => False) w w' := by
  have h := Any.strings_ContainsFunc_grows Tryz.laysGw17 g #[] eg p ⟨s.toArray⟩ w (fun W x hx _ => hp W x hx)
  refine h.mono ?_
  rintro r w' ⟨rfl, hb⟩
  refine ⟨?_, Below.turn hb _⟩
  have e := idx_any p h128 ⟨s.toArray⟩ (ByteArray.size ⟨s.toArray⟩) 0 (by omega)
  unfold Lib.idxFunc
  rw [e]
  unfold foreignFrom
  simp
end Go.Proofs.YtnlanemldapfiaaGreat
