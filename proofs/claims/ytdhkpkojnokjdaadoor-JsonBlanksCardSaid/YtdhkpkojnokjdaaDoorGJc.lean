/-
  PARTS: JUtf, JChar, JQuo.
-/
import Derived.Test.YtdhkpkojnokjdaaDoorGJh
import Derived.Shelf.Unicode.DecodeAny
import Derived.Lib.QuoteLoop
import Derived.Lib.TrimU
/-
  UTF-8 in texts: a rune decoded; whether the end cuts one.
-/
namespace Go.Proofs
open Go.Shelf
def Tryd.lays197_ren : Go.Shelf.Ren := ⟨fun | 197 => 70 | 260 => 80 | n => n, fun | 9 => 9 | 21 => 21 | 3 => 3 | 4 => 4 | 5 => 5 | 105 => 95 | 119 => 100 | 0 => 0 | 46 => 76 | 139 => 103 | 138 => 102 | n => n, fun | 3 => 0 | 4 => 1 | n => n⟩
theorem Tryd.lays197 : Go.Proofs.Lays.n197 Tryd.prog Tryd.lays197_ren := {
  mixed := by kernel_rfl
  f197 := Tryd.func70.trans (congrArg some (by kernel_rfl))
  f260 := Tryd.func80.trans (congrArg some (by kernel_rfl))
  t0 := Tryd.underlying0
  a0 := Tryd.isAgg0
  z0 := Tryd.sizeOf0
  v0 := Tryd.zeroValue0
  t3 := Tryd.underlying3
  a3 := Tryd.isAgg3
  z3 := Tryd.sizeOf3
  v3 := Tryd.zeroValue3
  t4 := Tryd.underlying4
  a4 := Tryd.isAgg4
  z4 := Tryd.sizeOf4
  v4 := Tryd.zeroValue4
  t5 := Tryd.underlying5
  a5 := Tryd.isAgg5
  z5 := Tryd.sizeOf5
  v5 := Tryd.zeroValue5
  t9 := Tryd.underlying9
  a9 := Tryd.isAgg9
  z9 := Tryd.sizeOf9
  v9 := Tryd.zeroValue9
  t21 := Tryd.underlying21
  a21 := Tryd.isAgg21
  z21 := Tryd.sizeOf21
  v21 := Tryd.zeroValue21
  t46 := Tryd.underlying76
  a46 := Tryd.isAgg76
  z46 := Tryd.sizeOf76
  v46 := Tryd.zeroValue76
  t105 := Tryd.underlying95
  a105 := Tryd.isAgg95
  z105 := Tryd.sizeOf95
  v105 := Tryd.zeroValue95
  t119 := Tryd.underlying100
  a119 := Tryd.isAgg100
  z119 := Tryd.sizeOf100
  t138 := Tryd.underlying102
  a138 := Tryd.isAgg102
  z138 := Tryd.sizeOf102
  v138 := Tryd.zeroValue102
  t139 := Tryd.underlying103
  a139 := Tryd.isAgg103
  z139 := Tryd.sizeOf103
  v139 := Tryd.zeroValue103
  g3 := by kernel_rfl
  g4 := by kernel_rfl }
end Go.Proofs
namespace Go.Proofs.YtdhkpkojnokjdaaDoor
open Go.RowKit Go.Shelf
set_option linter.unusedVariables false
set_option linter.unusedSimpArgs false

/-- the tables of UTF-8 -/
abbrev Tb (w : World) : Prop := Lib.Utf8Tabs 0 1 w
theorem Tb.turn {w w' : World} (h : Tb w) {Q : Nat → Prop} (t : Turn Q w w') (h0 : ¬ Q 0) (h1 : ¬ Q 1) : Tb w' :=
  ⟨fun c hc => turned_cell (h.1 c hc) t h0, fun i hi => ⟨turned_cell (h.2 i hi).1 t h1, turned_cell (h.2 i hi).2 t h1⟩⟩
theorem Tb.only {w w' : World} (h : Tb w) (t : Only w w') : Tb w' := h.turn t.turn (fun q => q) (fun q => q)
theorem Tb.size {w : World} (h : Tb w) : 0 < w.heap.size ∧ 1 < w.heap.size := ⟨World.block_lt_of_cell? w _ (h.1 0 (by decide)), World.block_lt_of_cell? w _ (h.2 0 (by decide)).1⟩

/-- the rune that stands at the head of a text, and how many bytes it takes -/
def decL (l : List UInt8) : Nat × Nat := Lib.decodeGo ⟨l.toArray⟩
theorem decL_pos {l : List UInt8} (h : l ≠ []) : 1 ≤ (decL l).2 ∧ (decL l).2 ≤ l.length := by
  have hs : (⟨l.toArray⟩ : ByteArray).size = l.length := by rw [← data_len]
  have h0 : 0 < l.length := List.length_pos_iff.2 h
  unfold decL Lib.decodeGo
  rw [if_neg (by omega), Lib.decode_at]
  exact ⟨Lib.decodeN_ge1 _ _ _ _ _, by have := Lib.decodeN_width_le ((⟨l.toArray⟩ : ByteArray).size - 0) ((⟨l.toArray⟩ : ByteArray).get! 0).toNat ((⟨l.toArray⟩ : ByteArray).get! (0 + 1)).toNat ((⟨l.toArray⟩ : ByteArray).get! (0 + 2)).toNat ((⟨l.toArray⟩ : ByteArray).get! (0 + 3)).toNat (by omega); omega⟩
theorem decL_rune {l : List UInt8} : (decL l).1 ≤ 1114111 := by
  unfold decL Lib.decodeGo
  split
  · decide
  · exact Lib.rune_le _ _

theorem extract_drop (D : ByteArray) (p : Nat) : D.extract p D.size = ⟨(D.data.toList.drop p).toArray⟩ := by
  apply ByteArray.ext
  apply Array.toList_inj.mp
  have := Lib.extract_data D p D.size
  rw [this, List.take_of_length_le (by rw [List.length_drop, data_len]; exact Nat.le_refl _)]

theorem decode_is (l : List UInt8) {w : World} (hT : Tb w) : Calls Tryd.prog 70 #[.string ⟨l.toArray⟩] w fun e w' => e = .returned (.tuple #[.int .i32 ((decL l).1 : Int), .int .i64 ((decL l).2 : Int)]) ∧ Only w w' :=
  Any.utf8_DecodeRuneInString Tryd.lays197 ⟨l.toArray⟩ w hT

set_option maxRecDepth 100000 in
set_option maxHeartbeats 6400000 in
theorem full_2 {s : ByteArray} (h : 0 < s.size) {w : World} (hT : Tb w) {c : Nat} (hc2 : (s[0]'h).toNat = c) (f1 : w.cell? ⟨0, c, none⟩ = some (.int .u8 2)) : Calls Tryd.prog 71 #[.string s] w fun e w' => (∃ b, e = .returned (.bool b)) ∧ Only w w' := by
  have i0 : (0 : Int) < (s.size : Int) := by omega
  have n0 : ((s.size : Int) == 0) = false := by rw [Bool.eq_false_iff]; intro e; have := beq_iff_eq.1 e; omega
  have hc3 : c < 256 := by rw [← hc2]; exact (s[0]'h).toNat_lt
  have ic : (c : Int) < 256 := by omega
  have a1 : w.cell? ⟨1, 0, none⟩ = some (.int .u8 128) := (hT.2 0 (by decide)).1
  have a2 : w.cell? ⟨1, 1, none⟩ = some (.int .u8 191) := (hT.2 0 (by decide)).2
  have HT := Lib.hid hT
  clear hT
  by_cases hk : 2 ≤ s.size
  · have dk : decide ((2 : Int) ≤ (s.size : Int)) = true := decide_eq_true (by omega)
    go_enter Tryd.func71, Tryd.ntmps71
    go_wp2_with fail
    go_ret
    exact ⟨⟨_, rfl⟩, Only.refl _⟩
  have dk : decide ((2 : Int) ≤ (s.size : Int)) = false := decide_eq_false (by omega)
  by_cases h1 : s.size = 1
  · have e1 : decide ((1 : Int) < (s.size : Int)) = false := decide_eq_false (by omega)
    have e2 : decide ((2 : Int) < (s.size : Int)) = false := decide_eq_false (by omega)
    have o1 := Own2.new w (.int .u8 128) (.int .u8 191) 102
    have ht := (Only.refl w).alloc (.cells #[.int .u8 128, .int .u8 191] 102)
    go_enter Tryd.func71, Tryd.ntmps71
    go_wp2_with fail
    obtain ⟨k1, k2⟩ := o1.cone
    refine wp_region_cone (by kernel_rfl) (by kernel_rfl) ?_
    repeat (any_goals (first | go_big_quiet_step ((fail)) | quiet_step ((fail))))
    refine wpQuiet_nil ?_
    rintro w2 ⟨⟨_, t2⟩, rfl⟩
    replace ht := ht.trans t2
    clear k1 k2 o1 t2
    go_wp2_with fail
    go_ret
    exact ⟨⟨_, rfl⟩, ht⟩
  · exact absurd (by omega : 2 ≤ s.size) hk

set_option maxRecDepth 100000 in
set_option maxHeartbeats 6400000 in
theorem full_19 {s : ByteArray} (h : 0 < s.size) {w : World} (hT : Tb w) {c : Nat} (hc2 : (s[0]'h).toNat = c) (f1 : w.cell? ⟨0, c, none⟩ = some (.int .u8 19)) : Calls Tryd.prog 71 #[.string s] w fun e w' => (∃ b, e = .returned (.bool b)) ∧ Only w w' := by
  have i0 : (0 : Int) < (s.size : Int) := by omega
  have n0 : ((s.size : Int) == 0) = false := by rw [Bool.eq_false_iff]; intro e; have := beq_iff_eq.1 e; omega
  have hc3 : c < 256 := by rw [← hc2]; exact (s[0]'h).toNat_lt
  have ic : (c : Int) < 256 := by omega
  have a1 : w.cell? ⟨1, 2, none⟩ = some (.int .u8 160) := (hT.2 1 (by decide)).1
  have a2 : w.cell? ⟨1, 3, none⟩ = some (.int .u8 191) := (hT.2 1 (by decide)).2
  have HT := Lib.hid hT
  clear hT
  by_cases hk : 3 ≤ s.size
  · have dk : decide ((3 : Int) ≤ (s.size : Int)) = true := decide_eq_true (by omega)
    go_enter Tryd.func71, Tryd.ntmps71
    go_wp2_with fail
    go_ret
    exact ⟨⟨_, rfl⟩, Only.refl _⟩
  have dk : decide ((3 : Int) ≤ (s.size : Int)) = false := decide_eq_false (by omega)
  by_cases h1 : s.size = 1
  · have e1 : decide ((1 : Int) < (s.size : Int)) = false := decide_eq_false (by omega)
    have e2 : decide ((2 : Int) < (s.size : Int)) = false := decide_eq_false (by omega)
    have o1 := Own2.new w (.int .u8 160) (.int .u8 191) 102
    have ht := (Only.refl w).alloc (.cells #[.int .u8 160, .int .u8 191] 102)
    go_enter Tryd.func71, Tryd.ntmps71
    go_wp2_with fail
    obtain ⟨k1, k2⟩ := o1.cone
    refine wp_region_cone (by kernel_rfl) (by kernel_rfl) ?_
    repeat (any_goals (first | go_big_quiet_step ((fail)) | quiet_step ((fail))))
    refine wpQuiet_nil ?_
    rintro w2 ⟨⟨_, t2⟩, rfl⟩
    replace ht := ht.trans t2
    clear k1 k2 o1 t2
    go_wp2_with fail
    go_ret
    exact ⟨⟨_, rfl⟩, ht⟩
  have h2 : 1 < s.size := by omega
  have i1 : (1 : Int) < (s.size : Int) := by omega
  have e1 : decide ((1 : Int) < (s.size : Int)) = true := decide_eq_true (by omega)
  obtain ⟨y, hy⟩ : ∃ y, y = (s[1]'h2).toNat := ⟨_, rfl⟩
  have hy2 : (s[1]'h2).toNat = y := hy.symm
  clear hy
  rcases (by omega : y < 160 ∨ (160 ≤ y ∧ 191 < y) ∨ (160 ≤ y ∧ y ≤ 191)) with hy | hy | hy
  · have q1 : decide ((y : Int) < 160) = true := decide_eq_true (by omega)
    clear hy
    have o1 := Own2.new w (.int .u8 160) (.int .u8 191) 102
    have ht := (Only.refl w).alloc (.cells #[.int .u8 160, .int .u8 191] 102)
    go_enter Tryd.func71, Tryd.ntmps71
    go_wp2_with fail
    obtain ⟨k1, k2⟩ := o1.cone
    refine wp_region_cone (by kernel_rfl) (by kernel_rfl) ?_
    repeat (any_goals (first | go_big_quiet_step ((fail)) | quiet_step ((fail))))
    refine wpQuiet_nil ?_
    rintro w2 ⟨⟨_, t2⟩, rfl⟩
    replace ht := ht.trans t2
    clear k1 k2 o1 t2
    go_wp2_with fail
    go_ret
    exact ⟨⟨_, rfl⟩, ht⟩
  · have q1 : decide ((y : Int) < 160) = false := decide_eq_false (by omega)
    have q2 : decide ((191 : Int) < (y : Int)) = true := decide_eq_true (by omega)
    clear hy
    have o1 := Own2.new w (.int .u8 160) (.int .u8 191) 102
    have ht := (Only.refl w).alloc (.cells #[.int .u8 160, .int .u8 191] 102)
    go_enter Tryd.func71, Tryd.ntmps71
    go_wp2_with fail
    obtain ⟨k1, k2⟩ := o1.cone
    refine wp_region_cone (by kernel_rfl) (by kernel_rfl) ?_
    repeat (any_goals (first | go_big_quiet_step ((fail)) | quiet_step ((fail))))
    refine wpQuiet_nil ?_
    rintro w2 ⟨⟨_, t2⟩, rfl⟩
    replace ht := ht.trans t2
    clear k1 k2 o1 t2
    go_wp2_with fail
    go_ret
    exact ⟨⟨_, rfl⟩, ht⟩
  have q1 : decide ((y : Int) < 160) = false := decide_eq_false (by omega)
  have q2 : decide ((191 : Int) < (y : Int)) = false := decide_eq_false (by omega)
  clear hy
  · have e2 : decide ((2 : Int) < (s.size : Int)) = false := decide_eq_false (by omega)
    have o1 := Own2.new w (.int .u8 160) (.int .u8 191) 102
    have ht := (Only.refl w).alloc (.cells #[.int .u8 160, .int .u8 191] 102)
    go_enter Tryd.func71, Tryd.ntmps71
    go_wp2_with fail
    obtain ⟨k1, k2⟩ := o1.cone
    refine wp_region_cone (by kernel_rfl) (by kernel_rfl) ?_
    repeat (any_goals (first | go_big_quiet_step ((fail)) | quiet_step ((fail))))
    refine wpQuiet_nil ?_
    rintro w2 ⟨⟨_, t2⟩, rfl⟩
    replace ht := ht.trans t2
    clear k1 k2 o1 t2
    go_wp2_with fail
    go_ret
    exact ⟨⟨_, rfl⟩, ht⟩

set_option maxRecDepth 100000 in
set_option maxHeartbeats 6400000 in
theorem full_3 {s : ByteArray} (h : 0 < s.size) {w : World} (hT : Tb w) {c : Nat} (hc2 : (s[0]'h).toNat = c) (f1 : w.cell? ⟨0, c, none⟩ = some (.int .u8 3)) : Calls Tryd.prog 71 #[.string s] w fun e w' => (∃ b, e = .returned (.bool b)) ∧ Only w w' := by
  have i0 : (0 : Int) < (s.size : Int) := by omega
  have n0 : ((s.size : Int) == 0) = false := by rw [Bool.eq_false_iff]; intro e; have := beq_iff_eq.1 e; omega
  have hc3 : c < 256 := by rw [← hc2]; exact (s[0]'h).toNat_lt
  have ic : (c : Int) < 256 := by omega
  have a1 : w.cell? ⟨1, 0, none⟩ = some (.int .u8 128) := (hT.2 0 (by decide)).1
  have a2 : w.cell? ⟨1, 1, none⟩ = some (.int .u8 191) := (hT.2 0 (by decide)).2
  have HT := Lib.hid hT
  clear hT
  by_cases hk : 3 ≤ s.size
  · have dk : decide ((3 : Int) ≤ (s.size : Int)) = true := decide_eq_true (by omega)
    go_enter Tryd.func71, Tryd.ntmps71
    go_wp2_with fail
    go_ret
    exact ⟨⟨_, rfl⟩, Only.refl _⟩
  have dk : decide ((3 : Int) ≤ (s.size : Int)) = false := decide_eq_false (by omega)
  by_cases h1 : s.size = 1
  · have e1 : decide ((1 : Int) < (s.size : Int)) = false := decide_eq_false (by omega)
    have e2 : decide ((2 : Int) < (s.size : Int)) = false := decide_eq_false (by omega)
    have o1 := Own2.new w (.int .u8 128) (.int .u8 191) 102
    have ht := (Only.refl w).alloc (.cells #[.int .u8 128, .int .u8 191] 102)
    go_enter Tryd.func71, Tryd.ntmps71
    go_wp2_with fail
    obtain ⟨k1, k2⟩ := o1.cone
    refine wp_region_cone (by kernel_rfl) (by kernel_rfl) ?_
    repeat (any_goals (first | go_big_quiet_step ((fail)) | quiet_step ((fail))))
    refine wpQuiet_nil ?_
    rintro w2 ⟨⟨_, t2⟩, rfl⟩
    replace ht := ht.trans t2
    clear k1 k2 o1 t2
    go_wp2_with fail
    go_ret
    exact ⟨⟨_, rfl⟩, ht⟩
  have h2 : 1 < s.size := by omega
  have i1 : (1 : Int) < (s.size : Int) := by omega
  have e1 : decide ((1 : Int) < (s.size : Int)) = true := decide_eq_true (by omega)
  obtain ⟨y, hy⟩ : ∃ y, y = (s[1]'h2).toNat := ⟨_, rfl⟩
  have hy2 : (s[1]'h2).toNat = y := hy.symm
  clear hy
  rcases (by omega : y < 128 ∨ (128 ≤ y ∧ 191 < y) ∨ (128 ≤ y ∧ y ≤ 191)) with hy | hy | hy
  · have q1 : decide ((y : Int) < 128) = true := decide_eq_true (by omega)
    clear hy
    have o1 := Own2.new w (.int .u8 128) (.int .u8 191) 102
    have ht := (Only.refl w).alloc (.cells #[.int .u8 128, .int .u8 191] 102)
    go_enter Tryd.func71, Tryd.ntmps71
    go_wp2_with fail
    obtain ⟨k1, k2⟩ := o1.cone
    refine wp_region_cone (by kernel_rfl) (by kernel_rfl) ?_
    repeat (any_goals (first | go_big_quiet_step ((fail)) | quiet_step ((fail))))
    refine wpQuiet_nil ?_
    rintro w2 ⟨⟨_, t2⟩, rfl⟩
    replace ht := ht.trans t2
    clear k1 k2 o1 t2
    go_wp2_with fail
    go_ret
    exact ⟨⟨_, rfl⟩, ht⟩
  · have q1 : decide ((y : Int) < 128) = false := decide_eq_false (by omega)
    have q2 : decide ((191 : Int) < (y : Int)) = true := decide_eq_true (by omega)
    clear hy
    have o1 := Own2.new w (.int .u8 128) (.int .u8 191) 102
    have ht := (Only.refl w).alloc (.cells #[.int .u8 128, .int .u8 191] 102)
    go_enter Tryd.func71, Tryd.ntmps71
    go_wp2_with fail
    obtain ⟨k1, k2⟩ := o1.cone
    refine wp_region_cone (by kernel_rfl) (by kernel_rfl) ?_
    repeat (any_goals (first | go_big_quiet_step ((fail)) | quiet_step ((fail))))
    refine wpQuiet_nil ?_
    rintro w2 ⟨⟨_, t2⟩, rfl⟩
    replace ht := ht.trans t2
    clear k1 k2 o1 t2
    go_wp2_with fail
    go_ret
    exact ⟨⟨_, rfl⟩, ht⟩
  have q1 : decide ((y : Int) < 128) = false := decide_eq_false (by omega)
  have q2 : decide ((191 : Int) < (y : Int)) = false := decide_eq_false (by omega)
  clear hy
  · have e2 : decide ((2 : Int) < (s.size : Int)) = false := decide_eq_false (by omega)
    have o1 := Own2.new w (.int .u8 128) (.int .u8 191) 102
    have ht := (Only.refl w).alloc (.cells #[.int .u8 128, .int .u8 191] 102)
    go_enter Tryd.func71, Tryd.ntmps71
    go_wp2_with fail
    obtain ⟨k1, k2⟩ := o1.cone
    refine wp_region_cone (by kernel_rfl) (by kernel_rfl) ?_
    repeat (any_goals (first | go_big_quiet_step ((fail)) | quiet_step ((fail))))
    refine wpQuiet_nil ?_
    rintro w2 ⟨⟨_, t2⟩, rfl⟩
    replace ht := ht.trans t2
    clear k1 k2 o1 t2
    go_wp2_with fail
    go_ret
    exact ⟨⟨_, rfl⟩, ht⟩

set_option maxRecDepth 100000 in
set_option maxHeartbeats 6400000 in
theorem full_35 {s : ByteArray} (h : 0 < s.size) {w : World} (hT : Tb w) {c : Nat} (hc2 : (s[0]'h).toNat = c) (f1 : w.cell? ⟨0, c, none⟩ = some (.int .u8 35)) : Calls Tryd.prog 71 #[.string s] w fun e w' => (∃ b, e = .returned (.bool b)) ∧ Only w w' := by
  have i0 : (0 : Int) < (s.size : Int) := by omega
  have n0 : ((s.size : Int) == 0) = false := by rw [Bool.eq_false_iff]; intro e; have := beq_iff_eq.1 e; omega
  have hc3 : c < 256 := by rw [← hc2]; exact (s[0]'h).toNat_lt
  have ic : (c : Int) < 256 := by omega
  have a1 : w.cell? ⟨1, 4, none⟩ = some (.int .u8 128) := (hT.2 2 (by decide)).1
  have a2 : w.cell? ⟨1, 5, none⟩ = some (.int .u8 159) := (hT.2 2 (by decide)).2
  have HT := Lib.hid hT
  clear hT
  by_cases hk : 3 ≤ s.size
  · have dk : decide ((3 : Int) ≤ (s.size : Int)) = true := decide_eq_true (by omega)
    go_enter Tryd.func71, Tryd.ntmps71
    go_wp2_with fail
    go_ret
    exact ⟨⟨_, rfl⟩, Only.refl _⟩
  have dk : decide ((3 : Int) ≤ (s.size : Int)) = false := decide_eq_false (by omega)
  by_cases h1 : s.size = 1
  · have e1 : decide ((1 : Int) < (s.size : Int)) = false := decide_eq_false (by omega)
    have e2 : decide ((2 : Int) < (s.size : Int)) = false := decide_eq_false (by omega)
    have o1 := Own2.new w (.int .u8 128) (.int .u8 159) 102
    have ht := (Only.refl w).alloc (.cells #[.int .u8 128, .int .u8 159] 102)
    go_enter Tryd.func71, Tryd.ntmps71
    go_wp2_with fail
    obtain ⟨k1, k2⟩ := o1.cone
    refine wp_region_cone (by kernel_rfl) (by kernel_rfl) ?_
    repeat (any_goals (first | go_big_quiet_step ((fail)) | quiet_step ((fail))))
    refine wpQuiet_nil ?_
    rintro w2 ⟨⟨_, t2⟩, rfl⟩
    replace ht := ht.trans t2
    clear k1 k2 o1 t2
    go_wp2_with fail
    go_ret
    exact ⟨⟨_, rfl⟩, ht⟩
  have h2 : 1 < s.size := by omega
  have i1 : (1 : Int) < (s.size : Int) := by omega
  have e1 : decide ((1 : Int) < (s.size : Int)) = true := decide_eq_true (by omega)
  obtain ⟨y, hy⟩ : ∃ y, y = (s[1]'h2).toNat := ⟨_, rfl⟩
  have hy2 : (s[1]'h2).toNat = y := hy.symm
  clear hy
  rcases (by omega : y < 128 ∨ (128 ≤ y ∧ 159 < y) ∨ (128 ≤ y ∧ y ≤ 159)) with hy | hy | hy
  · have q1 : decide ((y : Int) < 128) = true := decide_eq_true (by omega)
    clear hy
    have o1 := Own2.new w (.int .u8 128) (.int .u8 159) 102
    have ht := (Only.refl w).alloc (.cells #[.int .u8 128, .int .u8 159] 102)
    go_enter Tryd.func71, Tryd.ntmps71
    go_wp2_with fail
    obtain ⟨k1, k2⟩ := o1.cone
    refine wp_region_cone (by kernel_rfl) (by kernel_rfl) ?_
    repeat (any_goals (first | go_big_quiet_step ((fail)) | quiet_step ((fail))))
    refine wpQuiet_nil ?_
    rintro w2 ⟨⟨_, t2⟩, rfl⟩
    replace ht := ht.trans t2
    clear k1 k2 o1 t2
    go_wp2_with fail
    go_ret
    exact ⟨⟨_, rfl⟩, ht⟩
  · have q1 : decide ((y : Int) < 128) = false := decide_eq_false (by omega)
    have q2 : decide ((159 : Int) < (y : Int)) = true := decide_eq_true (by omega)
    clear hy
    have o1 := Own2.new w (.int .u8 128) (.int .u8 159) 102
    have ht := (Only.refl w).alloc (.cells #[.int .u8 128, .int .u8 159] 102)
    go_enter Tryd.func71, Tryd.ntmps71
    go_wp2_with fail
    obtain ⟨k1, k2⟩ := o1.cone
    refine wp_region_cone (by kernel_rfl) (by kernel_rfl) ?_
    repeat (any_goals (first | go_big_quiet_step ((fail)) | quiet_step ((fail))))
    refine wpQuiet_nil ?_
    rintro w2 ⟨⟨_, t2⟩, rfl⟩
    replace ht := ht.trans t2
    clear k1 k2 o1 t2
    go_wp2_with fail
    go_ret
    exact ⟨⟨_, rfl⟩, ht⟩
  have q1 : decide ((y : Int) < 128) = false := decide_eq_false (by omega)
  have q2 : decide ((159 : Int) < (y : Int)) = false := decide_eq_false (by omega)
  clear hy
  · have e2 : decide ((2 : Int) < (s.size : Int)) = false := decide_eq_false (by omega)
    have o1 := Own2.new w (.int .u8 128) (.int .u8 159) 102
    have ht := (Only.refl w).alloc (.cells #[.int .u8 128, .int .u8 159] 102)
    go_enter Tryd.func71, Tryd.ntmps71
    go_wp2_with fail
    obtain ⟨k1, k2⟩ := o1.cone
    refine wp_region_cone (by kernel_rfl) (by kernel_rfl) ?_
    repeat (any_goals (first | go_big_quiet_step ((fail)) | quiet_step ((fail))))
    refine wpQuiet_nil ?_
    rintro w2 ⟨⟨_, t2⟩, rfl⟩
    replace ht := ht.trans t2
    clear k1 k2 o1 t2
    go_wp2_with fail
    go_ret
    exact ⟨⟨_, rfl⟩, ht⟩

set_option maxRecDepth 100000 in
set_option maxHeartbeats 6400000 in
theorem full_52 {s : ByteArray} (h : 0 < s.size) {w : World} (hT : Tb w) {c : Nat} (hc2 : (s[0]'h).toNat = c) (f1 : w.cell? ⟨0, c, none⟩ = some (.int .u8 52)) : Calls Tryd.prog 71 #[.string s] w fun e w' => (∃ b, e = .returned (.bool b)) ∧ Only w w' := by
  have i0 : (0 : Int) < (s.size : Int) := by omega
  have n0 : ((s.size : Int) == 0) = false := by rw [Bool.eq_false_iff]; intro e; have := beq_iff_eq.1 e; omega
  have hc3 : c < 256 := by rw [← hc2]; exact (s[0]'h).toNat_lt
  have ic : (c : Int) < 256 := by omega
  have a1 : w.cell? ⟨1, 6, none⟩ = some (.int .u8 144) := (hT.2 3 (by decide)).1
  have a2 : w.cell? ⟨1, 7, none⟩ = some (.int .u8 191) := (hT.2 3 (by decide)).2
  have HT := Lib.hid hT
  clear hT
  by_cases hk : 4 ≤ s.size
  · have dk : decide ((4 : Int) ≤ (s.size : Int)) = true := decide_eq_true (by omega)
    go_enter Tryd.func71, Tryd.ntmps71
    go_wp2_with fail
    go_ret
    exact ⟨⟨_, rfl⟩, Only.refl _⟩
  have dk : decide ((4 : Int) ≤ (s.size : Int)) = false := decide_eq_false (by omega)
  by_cases h1 : s.size = 1
  · have e1 : decide ((1 : Int) < (s.size : Int)) = false := decide_eq_false (by omega)
    have e2 : decide ((2 : Int) < (s.size : Int)) = false := decide_eq_false (by omega)
    have o1 := Own2.new w (.int .u8 144) (.int .u8 191) 102
    have ht := (Only.refl w).alloc (.cells #[.int .u8 144, .int .u8 191] 102)
    go_enter Tryd.func71, Tryd.ntmps71
    go_wp2_with fail
    obtain ⟨k1, k2⟩ := o1.cone
    refine wp_region_cone (by kernel_rfl) (by kernel_rfl) ?_
    repeat (any_goals (first | go_big_quiet_step ((fail)) | quiet_step ((fail))))
    refine wpQuiet_nil ?_
    rintro w2 ⟨⟨_, t2⟩, rfl⟩
    replace ht := ht.trans t2
    clear k1 k2 o1 t2
    go_wp2_with fail
    go_ret
    exact ⟨⟨_, rfl⟩, ht⟩
  have h2 : 1 < s.size := by omega
  have i1 : (1 : Int) < (s.size : Int) := by omega
  have e1 : decide ((1 : Int) < (s.size : Int)) = true := decide_eq_true (by omega)
  obtain ⟨y, hy⟩ : ∃ y, y = (s[1]'h2).toNat := ⟨_, rfl⟩
  have hy2 : (s[1]'h2).toNat = y := hy.symm
  clear hy
  rcases (by omega : y < 144 ∨ (144 ≤ y ∧ 191 < y) ∨ (144 ≤ y ∧ y ≤ 191)) with hy | hy | hy
  · have q1 : decide ((y : Int) < 144) = true := decide_eq_true (by omega)
    clear hy
    have o1 := Own2.new w (.int .u8 144) (.int .u8 191) 102
    have ht := (Only.refl w).alloc (.cells #[.int .u8 144, .int .u8 191] 102)
    go_enter Tryd.func71, Tryd.ntmps71
    go_wp2_with fail
    obtain ⟨k1, k2⟩ := o1.cone
    refine wp_region_cone (by kernel_rfl) (by kernel_rfl) ?_
    repeat (any_goals (first | go_big_quiet_step ((fail)) | quiet_step ((fail))))
    refine wpQuiet_nil ?_
    rintro w2 ⟨⟨_, t2⟩, rfl⟩
    replace ht := ht.trans t2
    clear k1 k2 o1 t2
    go_wp2_with fail
    go_ret
    exact ⟨⟨_, rfl⟩, ht⟩
  · have q1 : decide ((y : Int) < 144) = false := decide_eq_false (by omega)
    have q2 : decide ((191 : Int) < (y : Int)) = true := decide_eq_true (by omega)
    clear hy
    have o1 := Own2.new w (.int .u8 144) (.int .u8 191) 102
    have ht := (Only.refl w).alloc (.cells #[.int .u8 144, .int .u8 191] 102)
    go_enter Tryd.func71, Tryd.ntmps71
    go_wp2_with fail
    obtain ⟨k1, k2⟩ := o1.cone
    refine wp_region_cone (by kernel_rfl) (by kernel_rfl) ?_
    repeat (any_goals (first | go_big_quiet_step ((fail)) | quiet_step ((fail))))
    refine wpQuiet_nil ?_
    rintro w2 ⟨⟨_, t2⟩, rfl⟩
    replace ht := ht.trans t2
    clear k1 k2 o1 t2
    go_wp2_with fail
    go_ret
    exact ⟨⟨_, rfl⟩, ht⟩
  have q1 : decide ((y : Int) < 144) = false := decide_eq_false (by omega)
  have q2 : decide ((191 : Int) < (y : Int)) = false := decide_eq_false (by omega)
  clear hy
  by_cases h3 : s.size = 2
  · have e2 : decide ((2 : Int) < (s.size : Int)) = false := decide_eq_false (by omega)
    have o1 := Own2.new w (.int .u8 144) (.int .u8 191) 102
    have ht := (Only.refl w).alloc (.cells #[.int .u8 144, .int .u8 191] 102)
    go_enter Tryd.func71, Tryd.ntmps71
    go_wp2_with fail
    obtain ⟨k1, k2⟩ := o1.cone
    refine wp_region_cone (by kernel_rfl) (by kernel_rfl) ?_
    repeat (any_goals (first | go_big_quiet_step ((fail)) | quiet_step ((fail))))
    refine wpQuiet_nil ?_
    rintro w2 ⟨⟨_, t2⟩, rfl⟩
    replace ht := ht.trans t2
    clear k1 k2 o1 t2
    go_wp2_with fail
    go_ret
    exact ⟨⟨_, rfl⟩, ht⟩
  have h4 : 2 < s.size := by omega
  have i2 : (2 : Int) < (s.size : Int) := by omega
  have e2 : decide ((2 : Int) < (s.size : Int)) = true := decide_eq_true (by omega)
  obtain ⟨z, hz⟩ : ∃ z, z = (s[2]'h4).toNat := ⟨_, rfl⟩
  have hz2 : (s[2]'h4).toNat = z := hz.symm
  clear hz
  rcases (by omega : z < 128 ∨ (128 ≤ z ∧ 191 < z) ∨ (128 ≤ z ∧ z ≤ 191)) with hz | hz | hz
  · have r1 : decide ((z : Int) < 128) = true := decide_eq_true (by omega)
    clear hz
    have o1 := Own2.new w (.int .u8 144) (.int .u8 191) 102
    have ht := (Only.refl w).alloc (.cells #[.int .u8 144, .int .u8 191] 102)
    go_enter Tryd.func71, Tryd.ntmps71
    go_wp2_with fail
    obtain ⟨k1, k2⟩ := o1.cone
    refine wp_region_cone (by kernel_rfl) (by kernel_rfl) ?_
    repeat (any_goals (first | go_big_quiet_step ((fail)) | quiet_step ((fail))))
    refine wpQuiet_nil ?_
    rintro w2 ⟨⟨_, t2⟩, rfl⟩
    replace ht := ht.trans t2
    clear k1 k2 o1 t2
    go_wp2_with fail
    go_ret
    exact ⟨⟨_, rfl⟩, ht⟩
  · have r1 : decide ((z : Int) < 128) = false := decide_eq_false (by omega)
    have r2 : decide ((191 : Int) < (z : Int)) = true := decide_eq_true (by omega)
    clear hz
    have o1 := Own2.new w (.int .u8 144) (.int .u8 191) 102
    have ht := (Only.refl w).alloc (.cells #[.int .u8 144, .int .u8 191] 102)
    go_enter Tryd.func71, Tryd.ntmps71
    go_wp2_with fail
    obtain ⟨k1, k2⟩ := o1.cone
    refine wp_region_cone (by kernel_rfl) (by kernel_rfl) ?_
    repeat (any_goals (first | go_big_quiet_step ((fail)) | quiet_step ((fail))))
    refine wpQuiet_nil ?_
    rintro w2 ⟨⟨_, t2⟩, rfl⟩
    replace ht := ht.trans t2
    clear k1 k2 o1 t2
    go_wp2_with fail
    go_ret
    exact ⟨⟨_, rfl⟩, ht⟩
  · have r1 : decide ((z : Int) < 128) = false := decide_eq_false (by omega)
    have r2 : decide ((191 : Int) < (z : Int)) = false := decide_eq_false (by omega)
    clear hz
    have o1 := Own2.new w (.int .u8 144) (.int .u8 191) 102
    have ht := (Only.refl w).alloc (.cells #[.int .u8 144, .int .u8 191] 102)
    go_enter Tryd.func71, Tryd.ntmps71
    go_wp2_with fail
    obtain ⟨k1, k2⟩ := o1.cone
    refine wp_region_cone (by kernel_rfl) (by kernel_rfl) ?_
    repeat (any_goals (first | go_big_quiet_step ((fail)) | quiet_step ((fail))))
    refine wpQuiet_nil ?_
    rintro w2 ⟨⟨_, t2⟩, rfl⟩
    replace ht := ht.trans t2
    clear k1 k2 o1 t2
    go_wp2_with fail
    go_ret
    exact ⟨⟨_, rfl⟩, ht⟩

set_option maxRecDepth 100000 in
set_option maxHeartbeats 6400000 in
theorem full_4 {s : ByteArray} (h : 0 < s.size) {w : World} (hT : Tb w) {c : Nat} (hc2 : (s[0]'h).toNat = c) (f1 : w.cell? ⟨0, c, none⟩ = some (.int .u8 4)) : Calls Tryd.prog 71 #[.string s] w fun e w' => (∃ b, e = .returned (.bool b)) ∧ Only w w' := by
  have i0 : (0 : Int) < (s.size : Int) := by omega
  have n0 : ((s.size : Int) == 0) = false := by rw [Bool.eq_false_iff]; intro e; have := beq_iff_eq.1 e; omega
  have hc3 : c < 256 := by rw [← hc2]; exact (s[0]'h).toNat_lt
  have ic : (c : Int) < 256 := by omega
  have a1 : w.cell? ⟨1, 0, none⟩ = some (.int .u8 128) := (hT.2 0 (by decide)).1
  have a2 : w.cell? ⟨1, 1, none⟩ = some (.int .u8 191) := (hT.2 0 (by decide)).2
  have HT := Lib.hid hT
  clear hT
  by_cases hk : 4 ≤ s.size
  · have dk : decide ((4 : Int) ≤ (s.size : Int)) = true := decide_eq_true (by omega)
    go_enter Tryd.func71, Tryd.ntmps71
    go_wp2_with fail
    go_ret
    exact ⟨⟨_, rfl⟩, Only.refl _⟩
  have dk : decide ((4 : Int) ≤ (s.size : Int)) = false := decide_eq_false (by omega)
  by_cases h1 : s.size = 1
  · have e1 : decide ((1 : Int) < (s.size : Int)) = false := decide_eq_false (by omega)
    have e2 : decide ((2 : Int) < (s.size : Int)) = false := decide_eq_false (by omega)
    have o1 := Own2.new w (.int .u8 128) (.int .u8 191) 102
    have ht := (Only.refl w).alloc (.cells #[.int .u8 128, .int .u8 191] 102)
    go_enter Tryd.func71, Tryd.ntmps71
    go_wp2_with fail
    obtain ⟨k1, k2⟩ := o1.cone
    refine wp_region_cone (by kernel_rfl) (by kernel_rfl) ?_
    repeat (any_goals (first | go_big_quiet_step ((fail)) | quiet_step ((fail))))
    refine wpQuiet_nil ?_
    rintro w2 ⟨⟨_, t2⟩, rfl⟩
    replace ht := ht.trans t2
    clear k1 k2 o1 t2
    go_wp2_with fail
    go_ret
    exact ⟨⟨_, rfl⟩, ht⟩
  have h2 : 1 < s.size := by omega
  have i1 : (1 : Int) < (s.size : Int) := by omega
  have e1 : decide ((1 : Int) < (s.size : Int)) = true := decide_eq_true (by omega)
  obtain ⟨y, hy⟩ : ∃ y, y = (s[1]'h2).toNat := ⟨_, rfl⟩
  have hy2 : (s[1]'h2).toNat = y := hy.symm
  clear hy
  rcases (by omega : y < 128 ∨ (128 ≤ y ∧ 191 < y) ∨ (128 ≤ y ∧ y ≤ 191)) with hy | hy | hy
  · have q1 : decide ((y : Int) < 128) = true := decide_eq_true (by omega)
    clear hy
    have o1 := Own2.new w (.int .u8 128) (.int .u8 191) 102
    have ht := (Only.refl w).alloc (.cells #[.int .u8 128, .int .u8 191] 102)
    go_enter Tryd.func71, Tryd.ntmps71
    go_wp2_with fail
    obtain ⟨k1, k2⟩ := o1.cone
    refine wp_region_cone (by kernel_rfl) (by kernel_rfl) ?_
    repeat (any_goals (first | go_big_quiet_step ((fail)) | quiet_step ((fail))))
    refine wpQuiet_nil ?_
    rintro w2 ⟨⟨_, t2⟩, rfl⟩
    replace ht := ht.trans t2
    clear k1 k2 o1 t2
    go_wp2_with fail
    go_ret
    exact ⟨⟨_, rfl⟩, ht⟩
  · have q1 : decide ((y : Int) < 128) = false := decide_eq_false (by omega)
    have q2 : decide ((191 : Int) < (y : Int)) = true := decide_eq_true (by omega)
    clear hy
    have o1 := Own2.new w (.int .u8 128) (.int .u8 191) 102
    have ht := (Only.refl w).alloc (.cells #[.int .u8 128, .int .u8 191] 102)
    go_enter Tryd.func71, Tryd.ntmps71
    go_wp2_with fail
    obtain ⟨k1, k2⟩ := o1.cone
    refine wp_region_cone (by kernel_rfl) (by kernel_rfl) ?_
    repeat (any_goals (first | go_big_quiet_step ((fail)) | quiet_step ((fail))))
    refine wpQuiet_nil ?_
    rintro w2 ⟨⟨_, t2⟩, rfl⟩
    replace ht := ht.trans t2
    clear k1 k2 o1 t2
    go_wp2_with fail
    go_ret
    exact ⟨⟨_, rfl⟩, ht⟩
  have q1 : decide ((y : Int) < 128) = false := decide_eq_false (by omega)
  have q2 : decide ((191 : Int) < (y : Int)) = false := decide_eq_false (by omega)
  clear hy
  by_cases h3 : s.size = 2
  · have e2 : decide ((2 : Int) < (s.size : Int)) = false := decide_eq_false (by omega)
    have o1 := Own2.new w (.int .u8 128) (.int .u8 191) 102
    have ht := (Only.refl w).alloc (.cells #[.int .u8 128, .int .u8 191] 102)
    go_enter Tryd.func71, Tryd.ntmps71
    go_wp2_with fail
    obtain ⟨k1, k2⟩ := o1.cone
    refine wp_region_cone (by kernel_rfl) (by kernel_rfl) ?_
    repeat (any_goals (first | go_big_quiet_step ((fail)) | quiet_step ((fail))))
    refine wpQuiet_nil ?_
    rintro w2 ⟨⟨_, t2⟩, rfl⟩
    replace ht := ht.trans t2
    clear k1 k2 o1 t2
    go_wp2_with fail
    go_ret
    exact ⟨⟨_, rfl⟩, ht⟩
  have h4 : 2 < s.size := by omega
  have i2 : (2 : Int) < (s.size : Int) := by omega
  have e2 : decide ((2 : Int) < (s.size : Int)) = true := decide_eq_true (by omega)
  obtain ⟨z, hz⟩ : ∃ z, z = (s[2]'h4).toNat := ⟨_, rfl⟩
  have hz2 : (s[2]'h4).toNat = z := hz.symm
  clear hz
  rcases (by omega : z < 128 ∨ (128 ≤ z ∧ 191 < z) ∨ (128 ≤ z ∧ z ≤ 191)) with hz | hz | hz
  · have r1 : decide ((z : Int) < 128) = true := decide_eq_true (by omega)
    clear hz
    have o1 := Own2.new w (.int .u8 128) (.int .u8 191) 102
    have ht := (Only.refl w).alloc (.cells #[.int .u8 128, .int .u8 191] 102)
    go_enter Tryd.func71, Tryd.ntmps71
    go_wp2_with fail
    obtain ⟨k1, k2⟩ := o1.cone
    refine wp_region_cone (by kernel_rfl) (by kernel_rfl) ?_
    repeat (any_goals (first | go_big_quiet_step ((fail)) | quiet_step ((fail))))
    refine wpQuiet_nil ?_
    rintro w2 ⟨⟨_, t2⟩, rfl⟩
    replace ht := ht.trans t2
    clear k1 k2 o1 t2
    go_wp2_with fail
    go_ret
    exact ⟨⟨_, rfl⟩, ht⟩
  · have r1 : decide ((z : Int) < 128) = false := decide_eq_false (by omega)
    have r2 : decide ((191 : Int) < (z : Int)) = true := decide_eq_true (by omega)
    clear hz
    have o1 := Own2.new w (.int .u8 128) (.int .u8 191) 102
    have ht := (Only.refl w).alloc (.cells #[.int .u8 128, .int .u8 191] 102)
    go_enter Tryd.func71, Tryd.ntmps71
    go_wp2_with fail
    obtain ⟨k1, k2⟩ := o1.cone
    refine wp_region_cone (by kernel_rfl) (by kernel_rfl) ?_
    repeat (any_goals (first | go_big_quiet_step ((fail)) | quiet_step ((fail))))
    refine wpQuiet_nil ?_
    rintro w2 ⟨⟨_, t2⟩, rfl⟩
    replace ht := ht.trans t2
    clear k1 k2 o1 t2
    go_wp2_with fail
    go_ret
    exact ⟨⟨_, rfl⟩, ht⟩
  · have r1 : decide ((z : Int) < 128) = false := decide_eq_false (by omega)
    have r2 : decide ((191 : Int) < (z : Int)) = false := decide_eq_false (by omega)
    clear hz
    have o1 := Own2.new w (.int .u8 128) (.int .u8 191) 102
    have ht := (Only.refl w).alloc (.cells #[.int .u8 128, .int .u8 191] 102)
    go_enter Tryd.func71, Tryd.ntmps71
    go_wp2_with fail
    obtain ⟨k1, k2⟩ := o1.cone
    refine wp_region_cone (by kernel_rfl) (by kernel_rfl) ?_
    repeat (any_goals (first | go_big_quiet_step ((fail)) | quiet_step ((fail))))
    refine wpQuiet_nil ?_
    rintro w2 ⟨⟨_, t2⟩, rfl⟩
    replace ht := ht.trans t2
    clear k1 k2 o1 t2
    go_wp2_with fail
    go_ret
    exact ⟨⟨_, rfl⟩, ht⟩

set_option maxRecDepth 100000 in
set_option maxHeartbeats 6400000 in
theorem full_68 {s : ByteArray} (h : 0 < s.size) {w : World} (hT : Tb w) {c : Nat} (hc2 : (s[0]'h).toNat = c) (f1 : w.cell? ⟨0, c, none⟩ = some (.int .u8 68)) : Calls Tryd.prog 71 #[.string s] w fun e w' => (∃ b, e = .returned (.bool b)) ∧ Only w w' := by
  have i0 : (0 : Int) < (s.size : Int) := by omega
  have n0 : ((s.size : Int) == 0) = false := by rw [Bool.eq_false_iff]; intro e; have := beq_iff_eq.1 e; omega
  have hc3 : c < 256 := by rw [← hc2]; exact (s[0]'h).toNat_lt
  have ic : (c : Int) < 256 := by omega
  have a1 : w.cell? ⟨1, 8, none⟩ = some (.int .u8 128) := (hT.2 4 (by decide)).1
  have a2 : w.cell? ⟨1, 9, none⟩ = some (.int .u8 143) := (hT.2 4 (by decide)).2
  have HT := Lib.hid hT
  clear hT
  by_cases hk : 4 ≤ s.size
  · have dk : decide ((4 : Int) ≤ (s.size : Int)) = true := decide_eq_true (by omega)
    go_enter Tryd.func71, Tryd.ntmps71
    go_wp2_with fail
    go_ret
    exact ⟨⟨_, rfl⟩, Only.refl _⟩
  have dk : decide ((4 : Int) ≤ (s.size : Int)) = false := decide_eq_false (by omega)
  by_cases h1 : s.size = 1
  · have e1 : decide ((1 : Int) < (s.size : Int)) = false := decide_eq_false (by omega)
    have e2 : decide ((2 : Int) < (s.size : Int)) = false := decide_eq_false (by omega)
    have o1 := Own2.new w (.int .u8 128) (.int .u8 143) 102
    have ht := (Only.refl w).alloc (.cells #[.int .u8 128, .int .u8 143] 102)
    go_enter Tryd.func71, Tryd.ntmps71
    go_wp2_with fail
    obtain ⟨k1, k2⟩ := o1.cone
    refine wp_region_cone (by kernel_rfl) (by kernel_rfl) ?_
    repeat (any_goals (first | go_big_quiet_step ((fail)) | quiet_step ((fail))))
    refine wpQuiet_nil ?_
    rintro w2 ⟨⟨_, t2⟩, rfl⟩
    replace ht := ht.trans t2
    clear k1 k2 o1 t2
    go_wp2_with fail
    go_ret
    exact ⟨⟨_, rfl⟩, ht⟩
  have h2 : 1 < s.size := by omega
  have i1 : (1 : Int) < (s.size : Int) := by omega
  have e1 : decide ((1 : Int) < (s.size : Int)) = true := decide_eq_true (by omega)
  obtain ⟨y, hy⟩ : ∃ y, y = (s[1]'h2).toNat := ⟨_, rfl⟩
  have hy2 : (s[1]'h2).toNat = y := hy.symm
  clear hy
  rcases (by omega : y < 128 ∨ (128 ≤ y ∧ 143 < y) ∨ (128 ≤ y ∧ y ≤ 143)) with hy | hy | hy
  · have q1 : decide ((y : Int) < 128) = true := decide_eq_true (by omega)
    clear hy
    have o1 := Own2.new w (.int .u8 128) (.int .u8 143) 102
    have ht := (Only.refl w).alloc (.cells #[.int .u8 128, .int .u8 143] 102)
    go_enter Tryd.func71, Tryd.ntmps71
    go_wp2_with fail
    obtain ⟨k1, k2⟩ := o1.cone
    refine wp_region_cone (by kernel_rfl) (by kernel_rfl) ?_
    repeat (any_goals (first | go_big_quiet_step ((fail)) | quiet_step ((fail))))
    refine wpQuiet_nil ?_
    rintro w2 ⟨⟨_, t2⟩, rfl⟩
    replace ht := ht.trans t2
    clear k1 k2 o1 t2
    go_wp2_with fail
    go_ret
    exact ⟨⟨_, rfl⟩, ht⟩
  · have q1 : decide ((y : Int) < 128) = false := decide_eq_false (by omega)
    have q2 : decide ((143 : Int) < (y : Int)) = true := decide_eq_true (by omega)
    clear hy
    have o1 := Own2.new w (.int .u8 128) (.int .u8 143) 102
    have ht := (Only.refl w).alloc (.cells #[.int .u8 128, .int .u8 143] 102)
    go_enter Tryd.func71, Tryd.ntmps71
    go_wp2_with fail
    obtain ⟨k1, k2⟩ := o1.cone
    refine wp_region_cone (by kernel_rfl) (by kernel_rfl) ?_
    repeat (any_goals (first | go_big_quiet_step ((fail)) | quiet_step ((fail))))
    refine wpQuiet_nil ?_
    rintro w2 ⟨⟨_, t2⟩, rfl⟩
    replace ht := ht.trans t2
    clear k1 k2 o1 t2
    go_wp2_with fail
    go_ret
    exact ⟨⟨_, rfl⟩, ht⟩
  have q1 : decide ((y : Int) < 128) = false := decide_eq_false (by omega)
  have q2 : decide ((143 : Int) < (y : Int)) = false := decide_eq_false (by omega)
  clear hy
  by_cases h3 : s.size = 2
  · have e2 : decide ((2 : Int) < (s.size : Int)) = false := decide_eq_false (by omega)
    have o1 := Own2.new w (.int .u8 128) (.int .u8 143) 102
    have ht := (Only.refl w).alloc (.cells #[.int .u8 128, .int .u8 143] 102)
    go_enter Tryd.func71, Tryd.ntmps71
    go_wp2_with fail
    obtain ⟨k1, k2⟩ := o1.cone
    refine wp_region_cone (by kernel_rfl) (by kernel_rfl) ?_
    repeat (any_goals (first | go_big_quiet_step ((fail)) | quiet_step ((fail))))
    refine wpQuiet_nil ?_
    rintro w2 ⟨⟨_, t2⟩, rfl⟩
    replace ht := ht.trans t2
    clear k1 k2 o1 t2
    go_wp2_with fail
    go_ret
    exact ⟨⟨_, rfl⟩, ht⟩
  have h4 : 2 < s.size := by omega
  have i2 : (2 : Int) < (s.size : Int) := by omega
  have e2 : decide ((2 : Int) < (s.size : Int)) = true := decide_eq_true (by omega)
  obtain ⟨z, hz⟩ : ∃ z, z = (s[2]'h4).toNat := ⟨_, rfl⟩
  have hz2 : (s[2]'h4).toNat = z := hz.symm
  clear hz
  rcases (by omega : z < 128 ∨ (128 ≤ z ∧ 191 < z) ∨ (128 ≤ z ∧ z ≤ 191)) with hz | hz | hz
  · have r1 : decide ((z : Int) < 128) = true := decide_eq_true (by omega)
    clear hz
    have o1 := Own2.new w (.int .u8 128) (.int .u8 143) 102
    have ht := (Only.refl w).alloc (.cells #[.int .u8 128, .int .u8 143] 102)
    go_enter Tryd.func71, Tryd.ntmps71
    go_wp2_with fail
    obtain ⟨k1, k2⟩ := o1.cone
    refine wp_region_cone (by kernel_rfl) (by kernel_rfl) ?_
    repeat (any_goals (first | go_big_quiet_step ((fail)) | quiet_step ((fail))))
    refine wpQuiet_nil ?_
    rintro w2 ⟨⟨_, t2⟩, rfl⟩
    replace ht := ht.trans t2
    clear k1 k2 o1 t2
    go_wp2_with fail
    go_ret
    exact ⟨⟨_, rfl⟩, ht⟩
  · have r1 : decide ((z : Int) < 128) = false := decide_eq_false (by omega)
    have r2 : decide ((191 : Int) < (z : Int)) = true := decide_eq_true (by omega)
    clear hz
    have o1 := Own2.new w (.int .u8 128) (.int .u8 143) 102
    have ht := (Only.refl w).alloc (.cells #[.int .u8 128, .int .u8 143] 102)
    go_enter Tryd.func71, Tryd.ntmps71
    go_wp2_with fail
    obtain ⟨k1, k2⟩ := o1.cone
    refine wp_region_cone (by kernel_rfl) (by kernel_rfl) ?_
    repeat (any_goals (first | go_big_quiet_step ((fail)) | quiet_step ((fail))))
    refine wpQuiet_nil ?_
    rintro w2 ⟨⟨_, t2⟩, rfl⟩
    replace ht := ht.trans t2
    clear k1 k2 o1 t2
    go_wp2_with fail
    go_ret
    exact ⟨⟨_, rfl⟩, ht⟩
  · have r1 : decide ((z : Int) < 128) = false := decide_eq_false (by omega)
    have r2 : decide ((191 : Int) < (z : Int)) = false := decide_eq_false (by omega)
    clear hz
    have o1 := Own2.new w (.int .u8 128) (.int .u8 143) 102
    have ht := (Only.refl w).alloc (.cells #[.int .u8 128, .int .u8 143] 102)
    go_enter Tryd.func71, Tryd.ntmps71
    go_wp2_with fail
    obtain ⟨k1, k2⟩ := o1.cone
    refine wp_region_cone (by kernel_rfl) (by kernel_rfl) ?_
    repeat (any_goals (first | go_big_quiet_step ((fail)) | quiet_step ((fail))))
    refine wpQuiet_nil ?_
    rintro w2 ⟨⟨_, t2⟩, rfl⟩
    replace ht := ht.trans t2
    clear k1 k2 o1 t2
    go_wp2_with fail
    go_ret
    exact ⟨⟨_, rfl⟩, ht⟩

set_option maxRecDepth 100000 in
set_option maxHeartbeats 6400000 in
theorem full_any (s : ByteArray) (h : 0 < s.size) {w : World} (hT : Tb w) : Calls Tryd.prog 71 #[.string s] w fun e w' => (∃ b, e = .returned (.bool b)) ∧ Only w w' := by
  have i0 : (0 : Int) < (s.size : Int) := by omega
  have n0 : ((s.size : Int) == 0) = false := by rw [Bool.eq_false_iff]; intro e; have := beq_iff_eq.1 e; omega
  obtain ⟨c, hc⟩ : ∃ c, c = (s[0]'h).toNat := ⟨_, rfl⟩
  have hc2 : (s[0]'h).toNat = c := hc.symm
  have hc3 : c < 256 := by rw [hc]; exact (s[0]'h).toNat_lt
  have f1 := hT.1 c hc3
  have ic : (c : Int) < 256 := by omega
  obtain ⟨x, hx⟩ : ∃ x, x = Lib.firstT c := ⟨_, rfl⟩
  have hcs := Lib.firstT_cases c
  rw [← hx] at f1 hcs
  clear hx hc
  rcases hcs with rfl | rfl | rfl | rfl | rfl | rfl | rfl | rfl | rfl
  · go_enter Tryd.func71, Tryd.ntmps71
    go_wp2_with fail
    go_ret
    exact ⟨⟨_, rfl⟩, Only.refl _⟩
  · have i1 : decide ((1 : Int) ≤ (s.size : Int)) = true := decide_eq_true (by omega)
    go_enter Tryd.func71, Tryd.ntmps71
    go_wp2_with fail
    go_ret
    exact ⟨⟨_, rfl⟩, Only.refl _⟩
  · exact full_2 h hT hc2 f1
  · exact full_19 h hT hc2 f1
  · exact full_3 h hT hc2 f1
  · exact full_35 h hT hc2 f1
  · exact full_52 h hT hc2 f1
  · exact full_4 h hT hc2 f1
  · exact full_68 h hT hc2 f1
end Go.Proofs.YtdhkpkojnokjdaaDoor

/-
  A character read as it stands; a string read.
-/
namespace Go.Proofs.YtdhkpkojnokjdaaDoor
open Go.RowKit Go.Shelf
set_option linter.unusedVariables false
set_option linter.unusedSimpArgs false

def charE (s : List UInt8) (p : Nat) : Rs (List UInt8) :=
  if (decL (s.drop p)).1 = 65533 ∧ (decL (s.drop p)).2 = 1 then .bad p 11 else .ok ((s.drop p).take (decL (s.drop p)).2) (p + (decL (s.drop p)).2)

set_option maxRecDepth 100000 in
set_option maxHeartbeats 6400000 in
theorem character_any {D : ByteArray} {R p base : Nat} {v : Value} {l : List UInt8} {w : World} (h : RdAt w R D p) (hp : p < D.size) (hl : D.size ≤ 1000000) (hT : Tb w) (hb : BytesO w base v l) (hR : R < base) (hbase : base ≤ w.heap.size) (hn : l.length ≤ 10000000) :
    Calls Tryd.prog 55 #[.pointer (some ⟨R, 0, none⟩), v] w (PostO w R base D (fun y v' w' => BytesO w' base v' (l ++ y)) (charE D.data.toList p)) := by
  have hv : charE D.data.toList p = if (decL (D.data.toList.drop p)).1 = 65533 ∧ (decL (D.data.toList.drop p)).2 = 1 then .bad p 11 else .ok ((D.data.toList.drop p).take (decL (D.data.toList.drop p)).2) (p + (decL (D.data.toList.drop p)).2) := rfl
  have hne : D.data.toList.drop p ≠ [] := by
    intro e
    have := congrArg List.length e
    rw [List.length_drop, data_len] at this
    simp at this; omega
  obtain ⟨d1, d2⟩ := decL_pos hne
  have hru := decL_rune (l := D.data.toList.drop p)
  have hx := extract_drop D p
  have hlen : (D.data.toList.drop p).length = D.size - p := by rw [List.length_drop, data_len]
  obtain ⟨T, hTT⟩ : ∃ T, T = D.data.toList.drop p := ⟨_, rfl⟩
  rw [← hTT] at hv hne d1 d2 hru hx hlen
  have DC := fun W (hW : Tb W) => decode_is T hW
  obtain ⟨r, hr⟩ : ∃ r, r = (decL T).1 := ⟨_, rfl⟩
  obtain ⟨n, hn2⟩ : ∃ n, n = (decL T).2 := ⟨_, rfl⟩
  rw [← hr, ← hn2] at hv DC
  rw [← hr] at hru
  rw [← hn2] at d1 d2
  have hTs : (⟨T.toArray⟩ : ByteArray).size = T.length := by rw [← data_len]
  have FU := fun W (hW : Tb W) => full_any (⟨T.toArray⟩ : ByteArray) (by omega) hW
  obtain ⟨k1, k2⟩ := h.cone
  have H := Lib.hid h
  have HB := Lib.hid hb
  have HT := Lib.hid hT
  have DC := Lib.hid DC
  have FU := Lib.hid FU
  have ip : (p : Int) ≤ (D.size : Int) := by omega
  have HX := Lib.hid hx
  have HLN := Lib.hid hlen
  have HTS := Lib.hid hTs
  clear h hb hT hr hn2 hTT hne
  go_enter Tryd.func55, Tryd.ntmps55
  go_wp2_with fail
  refine wp_region_cone (by kernel_rfl) (by kernel_rfl) ?_
  repeat (any_goals (first | go_big_quiet_step ((fail)) | quiet_step ((fail))))
  refine wpQuiet_nil ?_
  rintro w1 ⟨⟨_, t1⟩, rfl⟩
  have r1 := H.out.only t1
  have b1 := HB.out.only t1
  have T1 := HT.out.only t1
  have HT1 := Lib.hid t1
  clear k1 k2
  obtain ⟨y1, y2, y3, y4, y5⟩ := r1.all
  have HR1 := Lib.hid r1
  have HB1 := Lib.hid b1
  have HTB := Lib.hid T1
  have hgt := t1.size
  have iTn : (n : Int) ≤ (⟨T.toArray⟩ : ByteArray).size := by omega
  clear r1 b1 t1 T1
  by_cases hbad : r = 65533 ∧ n = 1
  · have HK := Lib.hid (hv.trans (if_pos hbad))
    obtain ⟨rfl, rfl⟩ := hbad
    clear hv y1 y2 y3 y4 y5
    go_upto_if 30 with (first | (go_at_call 70; refine (DC.out _ HTB.out).mono ?_; rintro e w2 ⟨rfl, t2⟩; have HR2 := Lib.hid (HR1.out.only t2); have HTB2 := Lib.hid (HTB.out.only t2); have HT2 := Lib.hid (HT1.out.trans t2); clear t2) | (go_at_call 71; refine (FU.out _ HTB2.out).mono ?_; rintro e w3 ⟨⟨b, rfl⟩, t3⟩; have HR3 := Lib.hid (HR2.out.only t3); have HT3 := Lib.hid (HT2.out.trans t3); clear t3))
    obtain ⟨y1, y2, y3, y4, y5⟩ := HR3.out.all
    cases b
    · go_wp2_with fail
      simp [bodyPost]
      exact postO_syn HK.out ((HT3.out.but R).own base)
    · go_wp2_with fail
      simp [bodyPost]
      exact postO_syn HK.out ((HT3.out.but R).own base)
  · have HK := Lib.hid (hv.trans (if_neg hbad))
    have key : (((r : Int) == 65533) = false) ∨ (((r : Int) == 65533) = true ∧ ((n : Int) == 1) = false) := by
      by_cases hr1 : r = 65533
      · right
        refine ⟨by simp [hr1], ?_⟩
        rw [Bool.eq_false_iff]; intro e; have := beq_iff_eq.1 e; omega
      · left
        rw [Bool.eq_false_iff]; intro e; have := beq_iff_eq.1 e; omega
    have hy : ((⟨T.toArray⟩ : ByteArray).extract 0 n).data.toList = T.take n := by rw [Lib.extract_data]; simp
    have HY := Lib.hid hy
    have hysz : ((⟨T.toArray⟩ : ByteArray).extract 0 n).size = n := by rw [← data_len, hy, List.length_take]; omega
    have HYS := Lib.hid hysz
    have iq1 : (p : Int) < 1000000 := by omega
    have iq2 : (n : Int) ≤ 1000000 := by omega
    clear hv y1 y2 y3 y4 y5 hbad hy hysz
    rcases key with e1 | ⟨e1, e2⟩
    all_goals
      go_upto_region 7 with (go_at_call 70; refine (DC.out _ HTB.out).mono ?_; rintro e w2 ⟨rfl, t2⟩; have hr2 := HR1.out.only t2; have HR2 := Lib.hid hr2; have HB2 := Lib.hid (HB1.out.only t2); have HT2 := Lib.hid (HT1.out.trans t2); clear t2; obtain ⟨y1, y2, y3, y4, y5⟩ := hr2.all; clear hr2)
      go_upto_region 8 with (fail)
      refine wp_name (fun W => RdAt W R D (p + n) ∧ But R w W ∧ BytesO W base v l) ⟨HR2.out.put1 _, (HT2.out.but R).then_ (but_set _ _ _ _), HB2.out.but (but_set _ _ _ _) hR⟩ ?_
      rintro w4 ⟨r4, t4, b4⟩
      clear y1 y2 y3 y4 y5
      have hs4 := t4.size
      have HR4 := Lib.hid r4
      have HT4 := Lib.hid t4
      have HB4 := Lib.hid b4
      clear r4 t4 b4
      go_wp2_with (at_builtin; refine append_text rfl (.tmp 52) (.tmp 55) rfl (base := base) _ rfl rfl HB4.out (by rw [HYS.out]; omega) (by omega) ?_)
      intro v5 w5 hb5 hbl hs5
      have HB5 := Lib.hid hb5
      have HR5 := Lib.hid (HR4.out.below hbl hR)
      have HT5 := Lib.hid ((HT4.out.own base).then_ (Below.own hbl hs5))
      clear hb5 hbl hs5
      go_wp2
      go_ret
      exact postO_ok HK.out HT5.out (by have := HLN.out; omega) HB5.out HR5.out

/-- bytes of our own, as a text -/
theorem bytes_string {w : World} {base : Nat} {v : Value} {l : List UInt8} (h : BytesO w base v l) : (convert 26 9 v).run Tryd.prog w = .ok (.string ⟨l.toArray⟩) w := by
  rcases h.form with ⟨rfl, rfl⟩ | ⟨g, cap, rfl, hg, hc⟩
  · rw [run_convert_bytes_string w 26 9 5 none 0 0 (by kernel_rfl) (by kernel_rfl) (by kernel_rfl)]
    rfl
  · rw [run_convert_bytes_string w 26 9 5 _ _ _ (by kernel_rfl) (by kernel_rfl) (by kernel_rfl)]
    have hl : (loadCells ⟨g, 0, none⟩ l.length).run Tryd.prog w = .ok ((l.map fun c => (c.toNat : Int)).map (Value.int .u8)).toArray w := by
      have := run_loadCells_list (P := Tryd.prog) (w := w) ⟨g, 0, none⟩ (l.map u8V) (fun j v hj => by have := hc j v hj; by_cases e : j = 0 <;> simp_all [Addr.add])
      simp only [List.length_map] at this
      rw [this, List.map_map]; rfl
    rw [run_bytesToString w _ _ _ _ hl]
    congr 2
    have : ∀ (l : List UInt8) (s : ByteArray), (l.map fun c => (c.toNat : Int)).foldl (fun r n => r.push (UInt8.ofNat n.toNat)) s = ⟨s.data ++ l.toArray⟩ := by
      intro l
      induction l with
      | nil => intro s; simp
      | cons c l ih => intro s; simp only [List.map_cons, List.foldl_cons, ih]; simp [ByteArray.push]
    rw [this]; simp

/-- a string's bytes from a place on, behind those that are read -/
def qE (s : List UInt8) : Nat → Nat → List UInt8 → Rs (List UInt8)
  | 0, p, _ => .bad p 11
  | n + 1, p, acc => (byteE s p).bind fun c _ =>
    if c = 34 then .ok acc (p + 1) else if c = 92 then (escE s p).bind fun y q => qE s n q (acc ++ y) else if c < 32 then .bad p 11 else (charE s p).bind fun y q => qE s n q (acc ++ y)
def quotedE (s : List UInt8) (p : Nat) : Rs (List UInt8) := qE s (s.length + 1) (p + 1) []

theorem encodeRune_len (r : Int) : (Lib.encodeRune r).length ≤ 4 := by
  unfold Lib.encodeRune
  rw [List.length_map]
  unfold Lib.encodeRuneZ
  repeat' split
  all_goals simp

theorem unitE_at {s : List UInt8} {f : Nat} : ∀ {k p acc c q : Nat}, unitE s f k p acc = .ok c q → q = p + k
  | 0, p, acc, c, q, h => by simp only [unitE, Rs.ok.injEq] at h; omega
  | k + 1, p, acc, c, q, h => by
    unfold unitE byteE at h
    cases hs : s[p]? with
    | none => rw [hs] at h; simp [Rs.bind] at h
    | some x =>
      rw [hs] at h
      simp only [Rs.bind] at h
      cases hx : hexV x.toNat with
      | none => rw [hx] at h; simp at h
      | some n =>
        rw [hx] at h
        have h1 := unitE_at h
        omega

theorem cpE_at {s : List UInt8} {f p c q : Nat} (h : cpE s f p = .ok c q) : p ≤ q := by
  unfold cpE at h
  cases h1 : unitE s f 4 p 0 with
  | bad a b => rw [h1] at h; simp [Rs.bind] at h
  | ok x y =>
    have hx := unitE_at h1
    rw [h1] at h
    simp only [Rs.bind] at h
    split at h
    · simp at h; omega
    · split at h
      · simp at h
      · unfold fstE at h
        cases h2 : byteE s y with
        | bad a b => rw [h2] at h; simp [Rs.bind] at h
        | ok a b =>
          rw [h2] at h
          simp only [Rs.bind] at h
          split at h
          · unfold sndE at h
            cases h3 : byteE s (y + 1) with
            | bad a b => rw [h3] at h; simp [Rs.bind] at h
            | ok a b =>
              rw [h3] at h
              simp only [Rs.bind] at h
              split at h
              · unfold lowE at h
                cases h4 : unitE s f 4 (y + 1 + 1) 0 with
                | bad a b => rw [h4] at h; simp [Rs.bind] at h
                | ok a b =>
                  have hz := unitE_at h4
                  rw [h4] at h
                  simp only [Rs.bind] at h
                  split at h
                  · simp at h; omega
                  · simp at h
              · simp at h
          · simp at h

theorem escE_at {s : List UInt8} {p q : Nat} {y : List UInt8} (h : escE s p = .ok y q) : p + 2 ≤ q ∧ y.length ≤ 4 := by
  unfold escE at h
  cases h2 : byteE s (p + 1) with
  | bad a b => rw [h2] at h; simp [Rs.bind] at h
  | ok c b =>
    rw [h2] at h
    simp only [Rs.bind] at h
    unfold escOf at h
    cases hv : escV c with
    | some x => rw [hv] at h; simp at h; obtain ⟨rfl, rfl⟩ := h; simp
    | none =>
      rw [hv] at h
      simp only at h
      split at h
      · cases hc : cpE s p (p + 2) with
        | bad a b => rw [hc] at h; simp [Rs.bind] at h
        | ok r q' =>
          rw [hc] at h
          simp only [Rs.bind, Rs.ok.injEq] at h
          obtain ⟨rfl, rfl⟩ := h
          exact ⟨cpE_at hc, encodeRune_len _⟩
      · simp at h
theorem charE_at {s : List UInt8} {p q : Nat} {y : List UInt8} (hp : p < s.length) (h : charE s p = .ok y q) : p + 1 ≤ q ∧ y.length + p = q := by
  have hne : s.drop p ≠ [] := by
    intro e
    have := congrArg List.length e
    rw [List.length_drop] at this
    simp at this; omega
  obtain ⟨d1, d2⟩ := decL_pos hne
  unfold charE at h
  split at h
  · simp at h
  · simp only [Rs.ok.injEq] at h
    obtain ⟨rfl, rfl⟩ := h
    rw [List.length_take]
    omega
end Go.Proofs.YtdhkpkojnokjdaaDoor

/-
  A string read, its quotes too.
-/
namespace Go.Proofs.YtdhkpkojnokjdaaDoor
open Go.RowKit Go.Shelf
set_option linter.unusedVariables false
set_option linter.unusedSimpArgs false

set_option maxRecDepth 100000 in
set_option maxHeartbeats 6400000 in
theorem quoted_any {D : ByteArray} {R p : Nat} {w : World} (h : RdAt w R D p) (hp : p < D.size) (hl : D.size ≤ 1000000) (hT : Tb w) (hR0 : R ≠ 0) (hR1 : R ≠ 1) :
    Calls Tryd.prog 41 #[.pointer (some ⟨R, 0, none⟩)] w (Post w R D (fun y v _ => v = .string ⟨y.toArray⟩) (quotedE D.data.toList p)) := by
  obtain ⟨B, hB⟩ : ∃ B, B = w.heap.size := ⟨_, rfl⟩
  have hR : R < B := by rw [hB]; exact h.lt
  have hBle : B ≤ w.heap.size := by omega
  have hBge : w.heap.size ≤ B := by omega
  obtain ⟨g0, g1⟩ := hT.size
  obtain ⟨y1, y2, y3, y4, y5⟩ := h.all
  have H := Lib.hid h
  have HT := Lib.hid hT
  have HB0 := Lib.hid hB
  have ip : (p : Int) < 1000000 := by omega
  have hv : quotedE D.data.toList p = qE D.data.toList (D.size + 1) (p + 1) [] := by unfold quotedE; rw [data_len]
  have HV := Lib.hid hv
  rw [← hB] at g0 g1
  have G0 := Lib.hid (And.intro g0 g1)
  have hb0 : BytesO (w.setCell ⟨R, 1, none⟩ (.int .i64 ((p : Int) + 1))) B (.slice none 0 0) [] := BytesO.nil _ _
  clear h hT hv hB g0 g1
  go_enter Tryd.func41, Tryd.ntmps41
  go_wp2_with fail
  go_loopg [3] (D.size + 1) (fun g v wr => ∃ (n q : Nat) (l : List UInt8), BytesO wr B v l ∧ q ≤ D.size ∧ n ≤ g ∧ D.size - q < n ∧ l.length ≤ 4 * q ∧ RdAt wr R D q ∧ ButO R B w wr ∧ quotedE D.data.toList p = qE D.data.toList n q l)
  case atStart => exact ⟨D.size + 1, p + 1, [], hb0, hp, Nat.le_refl _, by omega, by simp, H.out.put1 _, (but_set _ _ _ _).own B, HV.out⟩
  case round =>
    obtain ⟨n, q, l, hb, hq, hg, hn, hll, hr, ht, hu⟩ := hrel
    obtain ⟨m, rfl⟩ : ∃ m, n = m + 1 := ⟨n - 1, by omega⟩
    have hsz := ht.size
    have hTb : Tb wr := HT.out.turn ht (by have := G0.out; omega) (by have := G0.out; omega)
    have hu2 : quotedE D.data.toList p = (byteE D.data.toList q).bind fun c _ =>
      if c = 34 then .ok l (q + 1) else if c = 92 then (escE D.data.toList q).bind fun y q => qE D.data.toList m q (l ++ y) else if c < 32 then .bad q 11 else (charE D.data.toList q).bind fun y q => qE D.data.toList m q (l ++ y) := hu
    have HG := Lib.hid (And.intro hg (And.intro hn hll))
    clear hu
    rcases byteE_cases D q with ⟨hlt, hbb⟩ | ⟨hge, hbb⟩
    · rw [hbb] at hu2
      have HE := here_in hr hlt
      obtain ⟨c, hc⟩ : ∃ c, c = (D[q]'hlt).toNat := ⟨_, rfl⟩
      rw [← hc] at HE hu2
      simp only [Rs.bind] at hu2
      have iq : (q : Int) < 1000000 := by omega
      have HR := Lib.hid hr
      have HB := Lib.hid hb
      have HTT := Lib.hid ht
      have HTB := Lib.hid hTb
      clear hbb hc hr hb ht hTb
      by_cases h34 : c = 34
      · have HK := Lib.hid (hu2.trans (if_pos h34))
        subst h34
        clear hu2
        go_upto_region 6 with (go_at_call 51; refine HE.mono ?_; rintro r w2 ⟨rfl, t2⟩; have hr := HR.out.only t2; obtain ⟨y1, y2, y3, y4, y5⟩ := hr.all; have HR2 := Lib.hid hr; have HB2 := Lib.hid (HB.out.only t2); have HT2 := Lib.hid (HTT.out.then_ ((t2.but R).own B)); clear hr t2)
        go_upto_region 7 with (fail)
        have hb3 := HB2.out.but (but_set R _ 1 (.int .i64 ((q : Int) + 1))) hR
        have cv := bytes_string hb3
        have HR3 := Lib.hid (HR2.out.put1 (.int .i64 ((q : Int) + 1)))
        have HT3 := Lib.hid (HT2.out.then_ ((but_set R _ 1 (.int .i64 ((q : Int) + 1))).own B))
        clear hb3 y1 y2 y3 y4 y5
        go_wp2_with fail
        go_ret
        exact post_ok HK.out (HT3.out.but hBge) hlt rfl HR3.out
      · have n1 : ((c : Int) == 34) = false := by rw [Bool.eq_false_iff]; intro e; have := beq_iff_eq.1 e; omega
        have hu3 := hu2.trans (if_neg h34)
        clear hu2 h34
        by_cases h92 : c = 92
        · have hu4 := hu3.trans (if_pos h92)
          subst h92
          have hat : ∀ y q', escE D.data.toList q = .ok y q' → q + 2 ≤ q' ∧ y.length ≤ 4 := fun y q' h => escE_at h
          have EC := fun W (a : RdAt W R D q) v (b : BytesO W B v l) (c : B ≤ W.heap.size) => escape_any a hlt hl b hR c (by have := HG.out; omega)
          obtain ⟨u, hu⟩ : ∃ u, u = escE D.data.toList q := ⟨_, rfl⟩
          rw [← hu] at hu4 hat EC
          have HU := Lib.hid hu4
          have HAT := Lib.hid hat
          have EC := Lib.hid EC
          clear hu hu3 hu4 hat
          go_wp2_with (go_at_call 51; refine HE.mono ?_; rintro r w2 ⟨rfl, t2⟩; have hs2 := t2.size; have HR2 := Lib.hid (HR.out.only t2); have HB2 := Lib.hid (HB.out.only t2); have HT2 := Lib.hid (HTT.out.then_ ((t2.but R).own B)); clear t2)
          go_at_call 54
          refine (EC.out _ HR2.out _ HB2.out (by omega)).mono ?_
          intro e w3 hP
          rcases hP.cases with ⟨y, q3, v3, rfl, hq3, rfl, b3, r3, t3⟩ | ⟨a, b, a', rfl, rfl, hk, t3⟩
          · have HK := Lib.hid (HU.out.trans rfl)
            have ha := HAT.out y q3 rfl
            have HAA := Lib.hid ha
            have HR3 := Lib.hid r3
            have HB3 := Lib.hid b3
            have HT3 := Lib.hid (HT2.out.then_ t3)
            clear HU HAT hP r3 b3 t3 ha EC
            go_wp2_with fail
            go_roundg m
            case measure => have := HG.out; omega
            case rel => exact ⟨m, q3, l ++ y, HB3.out, hq3, Nat.le_refl _, by have := HG.out; have := HAA.out; omega, by have := HG.out; have := HAA.out; rw [List.length_append]; omega, HR3.out, HT3.out, HK.out⟩
          · have HK := Lib.hid (HU.out.trans rfl)
            have HT3 := Lib.hid (HT2.out.then_ t3)
            clear HU HAT hP t3 EC
            go_wp2_with fail
            simp [bodyPost]
            exact post_on HK.out (HT3.out.but hBge) hk
        · have n2 : ((c : Int) == 92) = false := by rw [Bool.eq_false_iff]; intro e; have := beq_iff_eq.1 e; omega
          have hu4 := hu3.trans (if_neg h92)
          clear hu3 h92
          by_cases h32 : c < 32
          · have n3 : decide ((c : Int) < 32) = true := decide_eq_true (by omega)
            have HK := Lib.hid (hu4.trans (if_pos h32))
            clear hu4 h32
            go_wp2_with (go_at_call 51; refine HE.mono ?_; rintro r w2 ⟨rfl, t2⟩; have hr := HR.out.only t2; obtain ⟨y1, y2, y3, y4, y5⟩ := hr.all; have HT2 := Lib.hid (HTT.out.then_ ((t2.but R).own B)); clear hr t2)
            simp [bodyPost]
            exact post_bad HK.out (HT2.out.but hBge)
          · have n3 : decide ((c : Int) < 32) = false := decide_eq_false (by omega)
            have hu5 := hu4.trans (if_neg h32)
            have hat : ∀ y q', charE D.data.toList q = .ok y q' → q + 1 ≤ q' ∧ y.length + q = q' := fun y q' h => charE_at (by rw [data_len]; exact hlt) h
            have EC := fun W (a : RdAt W R D q) v (t : Tb W) (b : BytesO W B v l) (c : B ≤ W.heap.size) => character_any a hlt hl t b hR c (by have := HG.out; omega)
            obtain ⟨u, hu⟩ : ∃ u, u = charE D.data.toList q := ⟨_, rfl⟩
            rw [← hu] at hu5 hat EC
            have HU := Lib.hid hu5
            have HAT := Lib.hid hat
            have EC := Lib.hid EC
            clear hu hu4 hu5 hat h32
            go_wp2_with (go_at_call 51; refine HE.mono ?_; rintro r w2 ⟨rfl, t2⟩; have hs2 := t2.size; have HR2 := Lib.hid (HR.out.only t2); have HB2 := Lib.hid (HB.out.only t2); have HTB2 := Lib.hid (HTB.out.only t2); have HT2 := Lib.hid (HTT.out.then_ ((t2.but R).own B)); clear t2)
            go_at_call 55
            refine (EC.out _ HR2.out _ HTB2.out HB2.out (by omega)).mono ?_
            intro e w3 hP
            rcases hP.cases with ⟨y, q3, v3, rfl, hq3, rfl, b3, r3, t3⟩ | ⟨a, b, a', rfl, rfl, hk, t3⟩
            · have HK := Lib.hid (HU.out.trans rfl)
              have ha := HAT.out y q3 rfl
              have HAA := Lib.hid ha
              have HR3 := Lib.hid r3
              have HB3 := Lib.hid b3
              have HT3 := Lib.hid (HT2.out.then_ t3)
              clear HU HAT hP r3 b3 t3 ha EC
              go_wp2_with fail
              go_roundg m
              case measure => have := HG.out; omega
              case rel => exact ⟨m, q3, l ++ y, HB3.out, hq3, Nat.le_refl _, by have := HG.out; have := HAA.out; omega, by have := HG.out; have := HAA.out; rw [List.length_append]; omega, HR3.out, HT3.out, HK.out⟩
            · have HK := Lib.hid (HU.out.trans rfl)
              have HT3 := Lib.hid (HT2.out.then_ t3)
              clear HU HAT hP t3 EC
              go_wp2_with fail
              simp [bodyPost]
              exact post_on HK.out (HT3.out.but hBge) hk
    · rw [hbb] at hu2
      have HK := Lib.hid (hu2.trans rfl)
      have HE := here_out hr hge
      have HTT := Lib.hid ht
      clear hu2 hbb hr hb ht hTb
      go_wp2_with (go_at_call 51; refine HE.mono ?_; rintro r w2 ⟨rfl, t2⟩; have HT2 := Lib.hid (HTT.out.then_ ((t2.but R).own B)); clear t2)
      simp [bodyPost]
      exact post_bad HK.out (HT2.out.but hBge)
end Go.Proofs.YtdhkpkojnokjdaaDoor
