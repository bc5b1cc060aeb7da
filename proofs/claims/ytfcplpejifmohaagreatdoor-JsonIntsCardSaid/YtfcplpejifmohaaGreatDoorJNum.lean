/-
  OfInt; isWhole; Int of an int's own text.
-/
import Derived.Test.YtfcplpejifmohaaGreatDoorJEx
import Derived.Test.YtfcplpejifmohaaGreatDoorGPl
import Derived.Shelf.Strings.Prefix
import Derived.Shelf.Strconv.Itoa3
import Derived.Shelf.Strconv.AtoiAll
import Derived.Lib.LaidTab
import Derived.Lib.SmallJoins
namespace Go.Proofs
open Go.Shelf
def Tryz.lays101_ren : Go.Shelf.Ren := ⟨fun | 101 => 56 | 208 => 75 | 206 => 101 | n => n, fun | 9 => 9 | 4 => 4 | 3 => 3 | n => n, fun | n => n⟩
theorem Tryz.lays101 : Go.Proofs.Lays.n101 Tryz.prog Tryz.lays101_ren := {
  mixed := by kernel_rfl
  f101 := Tryz.func56.trans (congrArg some (by kernel_rfl))
  f206 := Tryz.func101.trans (congrArg some (by kernel_rfl))
  f208 := Tryz.func75.trans (congrArg some (by kernel_rfl))
  t3 := Tryz.underlying3
  a3 := Tryz.isAgg3
  z3 := Tryz.sizeOf3
  v3 := Tryz.zeroValue3
  t4 := Tryz.underlying4
  a4 := Tryz.isAgg4
  z4 := Tryz.sizeOf4
  v4 := Tryz.zeroValue4
  t9 := Tryz.underlying9
  a9 := Tryz.isAgg9
  z9 := Tryz.sizeOf9
  v9 := Tryz.zeroValue9 }
def Tryz.laysM171_ren : Go.Shelf.Ren := ⟨fun | 171 => 37 | 243 => 60 | 246 => 81 | 283 => 104 | 284 => 105 | 285 => 106 | 286 => 107 | 129 => 122 | 317 => 121 | 318 => 123 | 319 => 124 | 320 => 125 | 337 => 133 | 338 => 134 | n => n, fun | 3 => 3 | 9 => 9 | 2 => 2 | 4 => 4 | 171 => 137 | 0 => 0 | 53 => 131 | 37 => 32 | 5 => 5 | 173 => 140 | 212 => 159 | 51 => 160 | 20 => 20 | 213 => 161 | 46 => 94 | 232 => 167 | 233 => 168 | n => n, fun | 17 => 4 | 18 => 6 | 19 => 7 | n => n⟩
theorem Tryz.laysM171 : Go.Proofs.LaysM.n171 Tryz.prog Tryz.laysM171_ren := {
  mixed := by kernel_rfl
  f129 := Tryz.func122.trans (congrArg some (by kernel_rfl))
  f171 := Tryz.func37.trans (congrArg some (by kernel_rfl))
  f243 := Tryz.func60.trans (congrArg some (by kernel_rfl))
  f246 := Tryz.func81.trans (congrArg some (by kernel_rfl))
  f283 := Tryz.func104.trans (congrArg some (by kernel_rfl))
  f284 := Tryz.func105.trans (congrArg some (by kernel_rfl))
  f285 := Tryz.func106.trans (congrArg some (by kernel_rfl))
  f286 := Tryz.func107.trans (congrArg some (by kernel_rfl))
  f317 := Tryz.func121.trans (congrArg some (by kernel_rfl))
  f318 := Tryz.func123.trans (congrArg some (by kernel_rfl))
  f319 := Tryz.func124.trans (congrArg some (by kernel_rfl))
  f320 := Tryz.func125.trans (congrArg some (by kernel_rfl))
  f337 := Tryz.func133.trans (congrArg some (by kernel_rfl))
  f338 := Tryz.func134.trans (congrArg some (by kernel_rfl))
  t0 := Tryz.underlying0
  a0 := Tryz.isAgg0
  z0 := Tryz.sizeOf0
  v0 := Tryz.zeroValue0
  t2 := Tryz.underlying2
  a2 := Tryz.isAgg2
  z2 := Tryz.sizeOf2
  v2 := Tryz.zeroValue2
  t3 := Tryz.underlying3
  a3 := Tryz.isAgg3
  z3 := Tryz.sizeOf3
  v3 := Tryz.zeroValue3
  t4 := Tryz.underlying4
  a4 := Tryz.isAgg4
  z4 := Tryz.sizeOf4
  v4 := Tryz.zeroValue4
  t5 := Tryz.underlying5
  a5 := Tryz.isAgg5
  z5 := Tryz.sizeOf5
  v5 := Tryz.zeroValue5
  t9 := Tryz.underlying9
  a9 := Tryz.isAgg9
  z9 := Tryz.sizeOf9
  v9 := Tryz.zeroValue9
  t20 := Tryz.underlying20
  a20 := Tryz.isAgg20
  z20 := Tryz.sizeOf20
  v20 := Tryz.zeroValue20
  t37 := Tryz.underlying32
  a37 := Tryz.isAgg32
  z37 := Tryz.sizeOf32
  v37 := Tryz.zeroValue32
  t46 := Tryz.underlying94
  a46 := Tryz.isAgg94
  z46 := Tryz.sizeOf94
  v46 := Tryz.zeroValue94
  t51 := Tryz.underlying160
  a51 := Tryz.isAgg160
  z51 := Tryz.sizeOf160
  v51 := Tryz.zeroValue160
  t53 := Tryz.underlying131
  a53 := Tryz.isAgg131
  z53 := Tryz.sizeOf131
  v53 := Tryz.zeroValue131
  t171 := Tryz.underlying137
  a171 := Tryz.isAgg137
  z171 := Tryz.sizeOf137
  v171 := Tryz.zeroValue137
  t173 := Tryz.underlying140
  a173 := Tryz.isAgg140
  z173 := Tryz.sizeOf140
  v173 := Tryz.zeroValue140
  t212 := Tryz.underlying159
  a212 := Tryz.isAgg159
  z212 := Tryz.sizeOf159
  v212 := Tryz.zeroValue159
  t213 := Tryz.underlying161
  a213 := Tryz.isAgg161
  z213 := Tryz.sizeOf161
  t232 := Tryz.underlying167
  a232 := Tryz.isAgg167
  z232 := Tryz.sizeOf167
  v232 := Tryz.zeroValue167
  t233 := Tryz.underlying168
  a233 := Tryz.isAgg168
  z233 := Tryz.sizeOf168
  v233 := Tryz.zeroValue168
  g17 := by kernel_rfl
  g18 := by kernel_rfl
  g19 := by kernel_rfl
  i0 := by kernel_rfl
  i2 := by kernel_rfl
  i3 := by kernel_rfl
  i4 := by kernel_rfl
  i5 := by kernel_rfl
  i9 := by kernel_rfl
  i20 := by kernel_rfl
  i37 := by kernel_rfl
  i46 := by kernel_rfl
  i51 := by kernel_rfl
  i53 := by kernel_rfl
  i171 := by kernel_rfl
  i173 := by kernel_rfl
  i212 := by kernel_rfl
  i232 := by kernel_rfl
  i233 := by kernel_rfl
  m17 := by kernel_rfl
  m18 := by kernel_rfl
  m19 := by kernel_rfl }
def Tryz.laysC172_ren : Go.Shelf.Ren := ⟨fun | 172 => 33 | 244 => 58 | 245 => 59 | 247 => 76 | 279 => 77 | 280 => 78 | 281 => 79 | 282 => 80 | 287 => 102 | 316 => 61 | 171 => 37 | 205 => 103 | 321 => 119 | 322 => 120 | 243 => 60 | 246 => 81 | 283 => 104 | 284 => 105 | 285 => 106 | 286 => 107 | 129 => 122 | 317 => 121 | 318 => 123 | 319 => 124 | 320 => 125 | 337 => 133 | 338 => 134 | n => n, fun | 9 => 9 | 3 => 3 | 75 => 71 | 76 => 72 | 4 => 4 | 5 => 5 | 167 => 110 | 37 => 32 | 0 => 0 | 85 => 111 | 2 => 2 | 168 => 113 | 53 => 131 | 175 => 132 | 46 => 94 | 210 => 135 | 127 => 117 | 145 => 156 | 143 => 154 | 21 => 21 | 171 => 137 | 173 => 140 | 212 => 159 | 51 => 160 | 20 => 20 | 213 => 161 | 232 => 167 | 233 => 168 | 80 => 100 | n => n, fun | 15 => 0 | 16 => 1 | 17 => 4 | 18 => 6 | 19 => 7 | n => n⟩
theorem Tryz.laysC172 : Go.Proofs.LaysC.n172 Tryz.prog Tryz.laysC172_ren := {
  mixed := by kernel_rfl
  f129 := Tryz.func122.trans (congrArg some (by kernel_rfl))
  f171 := Tryz.func37.trans (congrArg some (by kernel_rfl))
  f172 := Tryz.func33.trans (congrArg some (by kernel_rfl))
  f205 := Tryz.func103.trans (congrArg some (by kernel_rfl))
  f243 := Tryz.func60.trans (congrArg some (by kernel_rfl))
  f244 := Tryz.func58.trans (congrArg some (by kernel_rfl))
  f245 := Tryz.func59.trans (congrArg some (by kernel_rfl))
  f246 := Tryz.func81.trans (congrArg some (by kernel_rfl))
  f247 := Tryz.func76.trans (congrArg some (by kernel_rfl))
  f279 := Tryz.func77.trans (congrArg some (by kernel_rfl))
  f280 := Tryz.func78.trans (congrArg some (by kernel_rfl))
  f281 := Tryz.func79.trans (congrArg some (by kernel_rfl))
  f282 := Tryz.func80.trans (congrArg some (by kernel_rfl))
  f283 := Tryz.func104.trans (congrArg some (by kernel_rfl))
  f284 := Tryz.func105.trans (congrArg some (by kernel_rfl))
  f285 := Tryz.func106.trans (congrArg some (by kernel_rfl))
  f286 := Tryz.func107.trans (congrArg some (by kernel_rfl))
  f287 := Tryz.func102.trans (congrArg some (by kernel_rfl))
  f316 := Tryz.func61.trans (congrArg some (by kernel_rfl))
  f317 := Tryz.func121.trans (congrArg some (by kernel_rfl))
  f318 := Tryz.func123.trans (congrArg some (by kernel_rfl))
  f319 := Tryz.func124.trans (congrArg some (by kernel_rfl))
  f320 := Tryz.func125.trans (congrArg some (by kernel_rfl))
  f321 := Tryz.func119.trans (congrArg some (by kernel_rfl))
  f322 := Tryz.func120.trans (congrArg some (by kernel_rfl))
  f337 := Tryz.func133.trans (congrArg some (by kernel_rfl))
  f338 := Tryz.func134.trans (congrArg some (by kernel_rfl))
  t0 := Tryz.underlying0
  a0 := Tryz.isAgg0
  z0 := Tryz.sizeOf0
  v0 := Tryz.zeroValue0
  t2 := Tryz.underlying2
  a2 := Tryz.isAgg2
  z2 := Tryz.sizeOf2
  v2 := Tryz.zeroValue2
  t3 := Tryz.underlying3
  a3 := Tryz.isAgg3
  z3 := Tryz.sizeOf3
  v3 := Tryz.zeroValue3
  t4 := Tryz.underlying4
  a4 := Tryz.isAgg4
  z4 := Tryz.sizeOf4
  v4 := Tryz.zeroValue4
  t5 := Tryz.underlying5
  a5 := Tryz.isAgg5
  z5 := Tryz.sizeOf5
  v5 := Tryz.zeroValue5
  t9 := Tryz.underlying9
  a9 := Tryz.isAgg9
  z9 := Tryz.sizeOf9
  v9 := Tryz.zeroValue9
  t20 := Tryz.underlying20
  a20 := Tryz.isAgg20
  z20 := Tryz.sizeOf20
  v20 := Tryz.zeroValue20
  t21 := Tryz.underlying21
  a21 := Tryz.isAgg21
  z21 := Tryz.sizeOf21
  v21 := Tryz.zeroValue21
  t37 := Tryz.underlying32
  a37 := Tryz.isAgg32
  z37 := Tryz.sizeOf32
  v37 := Tryz.zeroValue32
  t46 := Tryz.underlying94
  a46 := Tryz.isAgg94
  z46 := Tryz.sizeOf94
  v46 := Tryz.zeroValue94
  t51 := Tryz.underlying160
  a51 := Tryz.isAgg160
  z51 := Tryz.sizeOf160
  v51 := Tryz.zeroValue160
  t53 := Tryz.underlying131
  a53 := Tryz.isAgg131
  z53 := Tryz.sizeOf131
  v53 := Tryz.zeroValue131
  t75 := Tryz.underlying71
  a75 := Tryz.isAgg71
  z75 := Tryz.sizeOf71
  v75 := Tryz.zeroValue71
  t76 := Tryz.underlying72
  a76 := Tryz.isAgg72
  z76 := Tryz.sizeOf72
  v76 := Tryz.zeroValue72
  t85 := Tryz.underlying111
  a85 := Tryz.isAgg111
  z85 := Tryz.sizeOf111
  v85 := Tryz.zeroValue111
  t127 := Tryz.underlying117
  a127 := Tryz.isAgg117
  z127 := Tryz.sizeOf117
  v127 := Tryz.zeroValue117
  t143 := Tryz.underlying154
  a143 := Tryz.isAgg154
  z143 := Tryz.sizeOf154
  v143 := Tryz.zeroValue154
  t145 := Tryz.underlying156
  a145 := Tryz.isAgg156
  z145 := Tryz.sizeOf156
  v145 := Tryz.zeroValue156
  t167 := Tryz.underlying110
  a167 := Tryz.isAgg110
  z167 := Tryz.sizeOf110
  v167 := Tryz.zeroValue110
  t168 := Tryz.underlying113
  a168 := Tryz.isAgg113
  z168 := Tryz.sizeOf113
  v168 := Tryz.zeroValue113
  t171 := Tryz.underlying137
  a171 := Tryz.isAgg137
  z171 := Tryz.sizeOf137
  v171 := Tryz.zeroValue137
  t173 := Tryz.underlying140
  a173 := Tryz.isAgg140
  z173 := Tryz.sizeOf140
  v173 := Tryz.zeroValue140
  t175 := Tryz.underlying132
  a175 := Tryz.isAgg132
  z175 := Tryz.sizeOf132
  v175 := Tryz.zeroValue132
  t210 := Tryz.underlying135
  a210 := Tryz.isAgg135
  z210 := Tryz.sizeOf135
  v210 := Tryz.zeroValue135
  t212 := Tryz.underlying159
  a212 := Tryz.isAgg159
  z212 := Tryz.sizeOf159
  v212 := Tryz.zeroValue159
  t213 := Tryz.underlying161
  a213 := Tryz.isAgg161
  z213 := Tryz.sizeOf161
  t232 := Tryz.underlying167
  a232 := Tryz.isAgg167
  z232 := Tryz.sizeOf167
  v232 := Tryz.zeroValue167
  t233 := Tryz.underlying168
  a233 := Tryz.isAgg168
  z233 := Tryz.sizeOf168
  v233 := Tryz.zeroValue168
  g15 := by kernel_rfl
  g16 := by kernel_rfl
  g17 := by kernel_rfl
  g18 := by kernel_rfl
  g19 := by kernel_rfl
  t80 := Tryz.underlying100
  a80 := Tryz.isAgg100
  z80 := Tryz.sizeOf100
  v80 := Tryz.zeroValue100
  i0 := by kernel_rfl
  i2 := by kernel_rfl
  i3 := by kernel_rfl
  i4 := by kernel_rfl
  i5 := by kernel_rfl
  i9 := by kernel_rfl
  i20 := by kernel_rfl
  i21 := by kernel_rfl
  i37 := by kernel_rfl
  i46 := by kernel_rfl
  i51 := by kernel_rfl
  i53 := by kernel_rfl
  i75 := by kernel_rfl
  i76 := by kernel_rfl
  i80 := by kernel_rfl
  i85 := by kernel_rfl
  i127 := by kernel_rfl
  i143 := by kernel_rfl
  i145 := by kernel_rfl
  i167 := by kernel_rfl
  i168 := by kernel_rfl
  i171 := by kernel_rfl
  i173 := by kernel_rfl
  i175 := by kernel_rfl
  i210 := by kernel_rfl
  i212 := by kernel_rfl
  i232 := by kernel_rfl
  i233 := by kernel_rfl
  m15 := by kernel_rfl
  m16 := by kernel_rfl
  m17 := by kernel_rfl
  m18 := by kernel_rfl
  m19 := by kernel_rfl
  c0 := by kernel_rfl
  c2 := by kernel_rfl
  c3 := by kernel_rfl
  c4 := by kernel_rfl
  c5 := by kernel_rfl
  c9 := by kernel_rfl
  c20 := by kernel_rfl
  c21 := by kernel_rfl
  c37 := by kernel_rfl
  c46 := by kernel_rfl
  c51 := by kernel_rfl
  c53 := by kernel_rfl
  c75 := by kernel_rfl
  c76 := by kernel_rfl
  c80 := by kernel_rfl
  c85 := by kernel_rfl
  c127 := by kernel_rfl
  c143 := by kernel_rfl
  c145 := by kernel_rfl
  c167 := by kernel_rfl
  c168 := by kernel_rfl
  c171 := by kernel_rfl
  c173 := by kernel_rfl
  c175 := by kernel_rfl
  c210 := by kernel_rfl
  c212 := by kernel_rfl
  c213 := by kernel_rfl
  c232 := by kernel_rfl
  c233 := by kernel_rfl }
end Go.Proofs
namespace Go.Proofs.YtfcplpejifmohaaGreatDoor
open Go.RowKit Go.Maps Go.WideMaps Go.Shelf
set_option linter.unusedVariables false
set_option linter.unusedSimpArgs false

/-- the library's table of powers lies where it lay -/
def PowJ (w : World) : Prop := Lib.TabIs Tryz.prog w "internal/strconv.uint64pow10" .u64 Lib.pow10Tab
theorem gPowJ : Tryz.prog.globalNamed "internal/strconv.uint64pow10" = some 4 := by kernel_rfl
theorem PowJ.only {w w' : World} (h : PowJ w) (t : Only w w') : PowJ w' := Joins.tab_stays gPowJ h t (Nat.le_refl _)
theorem grow_onlyJ (w : World) (k : Nat) (os : Array Obj) : Only w (Go.Sort.grow (w.drewN k) os) :=
  Turn.only ⟨rfl, rfl, rfl, by simp [Go.Sort.grow, World.drewN], fun i hi _ => by simp [Go.Sort.grow, World.drewN, Array.getElem?_append, hi]⟩

theorem itoaJ_any (n : Int) (hn : -9223372036854775808 ≤ n ∧ n ≤ 9223372036854775807) {w : World} (hP : PowJ w) : Calls Tryz.prog 37 #[.int .i64 n] w fun r w' => r = .returned (txt (Lib.itoa n)) ∧ Only w w' :=
  (Any.strconv_Itoa Tryz.laysM171 n hn.1 hn.2 w hP).mono fun r w' h => ⟨h.1, by obtain ⟨k, os, e⟩ := h.2; rw [e]; exact grow_onlyJ w k os⟩
theorem trimPrefixJ_any (s p : ByteArray) (w : World) : Calls Tryz.prog 56 #[.string s, .string p] w fun r w' => r = .returned (txt (Lib.trimPrefix s.data.toList p.data.toList)) ∧ w' = w := Any.strings_TrimPrefix Tryz.lays101 s p w
theorem bytesWorld_only (w : World) (t : TypeId) (s : ByteArray) : Only w (Lib.bytesWorld w t s) :=
  Turn.only ⟨rfl, rfl, rfl, by rw [Lib.bytesWorld_size]; omega, fun i hi _ => Lib.bytesWorld_at_old w t s i hi⟩
theorem atoiJ_ok (s : ByteArray) (hs : s.size ≤ 1000000) (v : Int) (h : Lib.atoiAll s.data.toList = .ok v) (w : World) : Calls Tryz.prog 33 #[.string s] w fun e w' => e = .returned (.tuple #[.int .i64 v, .nilIface]) ∧ Only w w' :=
  (Any.strconv_Atoi_ok Tryz.laysC172 s (by omega) v h w).mono fun e w' ⟨h1, h2⟩ => ⟨h1, by
    rcases h2 with rfl | ⟨t, rfl⟩
    · exact Only.refl _
    · exact bytesWorld_only _ _ _⟩

set_option maxHeartbeats 1600000 in
theorem ofInt_any (n : Int) (hn : -9223372036854775808 ≤ n ∧ n ≤ 9223372036854775807) {w : World} (hP : PowJ w) : Calls Tryz.prog 17 #[.int .i64 n] w fun e w' => e = .returned (.agg #[.int .i64 3, txt (Lib.itoa n), .slice none 0 0, .slice none 0 0]) ∧ Only w w' := by
  have ha := (Only.refl w).alloc (.cells #[.int .i64 0, .string ⟨#[]⟩, .slice none 0 0, .slice none 0 0] 25)
  have C := itoaJ_any n hn (hP.only ha)
  have O := Own4.new w (.int .i64 0) (.string ⟨#[]⟩) (.slice none 0 0) (.slice none 0 0) 25
  have HA := Lib.hid ha
  have HO := Lib.hid O
  clear ha O
  go_enter Tryz.func17, Tryz.ntmps17
  go_wp2_with (go_at_call 37; refine C.mono ?_; rintro r w2 ⟨rfl, t2⟩; have o2 := HO.out.only t2; obtain ⟨⟨c1, c2, c3, c4⟩, f1, f2, f3, f4⟩ := o2.all)
  simp [bodyPost, results, Tryz.results17, go_sem, World.cell?_setCell_other, c1, c2, c3, c4]
  exact (((((HA.out.trans t2).set (Nat.le_refl _) 0 _).set (Nat.le_refl _) 1 _).set (Nat.le_refl _) 2 _).set (Nat.le_refl _) 3 _)

/-! ### the text of an int -/
theorem lowDigitsJ_snoc (m k : Nat) : lowDigits m (k + 1) = lowDigits (m / 10) k ++ [dig1 m] := by
  induction k with
  | zero => simp [lowDigits]
  | succ k ih =>
    rw [lowDigits, ih]
    have e : m / 10 ^ (k + 1) = m / 10 / 10 ^ k := by rw [Nat.pow_succ, Nat.mul_comm, Nat.div_div_eq_div_mul]
    rw [e]; rfl
theorem decJ_text (n : Nat) : Lib.decDigits n = natText n := by
  induction n using Nat.strongRecOn with
  | _ n ih =>
    rw [Lib.decDigits]
    unfold natText
    rw [dlen]
    split
    · rename_i h
      simp [lowDigits, dig1, Nat.mod_eq_of_lt h]
    · rename_i h
      rw [ih (n / 10) (by omega), lowDigitsJ_snoc]
      rfl
theorem itoaJ_text (n : Int) : Lib.itoa n = intText n := by
  unfold Lib.itoa intText
  split
  · rw [decJ_text]; rfl
  · rw [decJ_text, List.nil_append]; congr 1; omega

theorem trimJ_text (u : Int) : Lib.trimPrefix (intText u) [45] = natText u.natAbs := by
  unfold Lib.trimPrefix Lib.hasPrefix intText
  by_cases h : u < 0
  · rw [if_pos h]; simp
  · rw [if_neg h, List.nil_append]
    obtain ⟨r, hr⟩ := natText_head u.natAbs
    have h1 := natText_first u.natAbs
    rw [hr] at h1 ⊢
    have e : ([45] : List UInt8).isPrefixOf (dig1 (u.natAbs / 10 ^ (dlen u.natAbs - 1)) :: r) = false := by
      simp only [List.headD_cons] at h1
      simp [List.isPrefixOf, Ne.symm h1]
    rw [e]; simp

theorem digit_in {c : UInt8} (h : 48 ≤ c.toNat ∧ c.toNat ≤ 57) : digitL.contains c = true := by
  have e : c = UInt8.ofNat c.toNat := by simp
  have : c.toNat = 48 ∨ c.toNat = 49 ∨ c.toNat = 50 ∨ c.toNat = 51 ∨ c.toNat = 52 ∨ c.toNat = 53 ∨ c.toNat = 54 ∨ c.toNat = 55 ∨ c.toNat = 56 ∨ c.toNat = 57 := by omega
  rcases this with k | k | k | k | k | k | k | k | k | k <;> (rw [e, k]; decide)
theorem takeWhile_all {p : UInt8 → Bool} : ∀ {l : List UInt8}, (∀ c ∈ l, p c = true) → l.takeWhile p = l
  | [], _ => rfl
  | x :: l, h => by rw [List.takeWhile_cons_of_pos (h x (by simp)), takeWhile_all fun c hc => h c (by simp [hc])]
theorem nat_digits (m : Nat) : ∀ c ∈ natText m, 48 ≤ c.toNat ∧ c.toNat ≤ 57 := by
  have h := bodyB_text m
  unfold bodyB at h
  simp only [Bool.and_eq_true] at h
  exact fun c hc => digsB_at h.1.1 hc
theorem skip_nat (g : List UInt8) (m : Nat) : skipE digitL (g ++ natText m) g.length = (g ++ natText m).length := by
  unfold skipE
  rw [List.drop_left, takeWhile_all fun c hc => digit_in (nat_digits m c hc), List.length_append]

/-- the sign of an int's text -/
def sgnT (n : Int) : List UInt8 := if n < 0 then [45] else []
theorem intText_eq (n : Int) : intText n = sgnT n ++ natText n.natAbs := rfl

theorem litE_int (n : Int) : litE (intText n) 0 = ((intText n).length, true) := by
  rw [intText_eq]
  obtain ⟨r, hr⟩ := natText_head n.natAbs
  have hz := natText_first n.natAbs
  have h48 : hasAt [48] (sgnT n ++ natText n.natAbs) (sgnT n).length = true → (natText n.natAbs).length = 1 := by
    intro h
    have hb := bodyB_text n.natAbs
    unfold bodyB at hb
    simp only [Bool.and_eq_true, Bool.or_eq_true, decide_eq_true_eq] at hb
    rcases hb.2 with k | k
    · have := List.length_pos_iff.2 (natText_ne n.natAbs); omega
    · unfold hasAt at h
      rw [List.getElem?_append_right (Nat.le_refl _), Nat.sub_self] at h
      rw [hr] at h k
      simp at h k
      exact absurd h k
  have ha : (if hasAt [45] (sgnT n ++ natText n.natAbs) 0 = true then 0 + 1 else 0) = (sgnT n).length := by
    unfold sgnT
    by_cases h : n < 0
    · rw [if_pos h, if_pos (by simp [hasAt])]; rfl
    · rw [if_neg h, List.nil_append, if_neg]
      · rfl
      · rw [hr] at hz ⊢
        simp only [List.headD_cons] at hz
        simp [hasAt, hz]
  have hsk := skip_nat (sgnT n) n.natAbs
  have hlen : 0 < (natText n.natAbs).length := List.length_pos_iff.2 (natText_ne _)
  have hout : ∀ b, hasAt b (sgnT n ++ natText n.natAbs) (sgnT n ++ natText n.natAbs).length = false := fun b => by
    unfold hasAt; rw [List.getElem?_eq_none (Nat.le_refl _)]; rfl
  have hint : litInt (sgnT n ++ natText n.natAbs) (sgnT n).length = (sgnT n ++ natText n.natAbs).length := by
    unfold litInt
    rw [hsk]
    split
    · rename_i h
      simp only [Bool.and_eq_true] at h
      have := h48 h.2
      rw [List.length_append]; omega
    · rfl
  unfold litE
  simp only
  rw [ha, hint, if_neg (by rw [List.length_append]; omega)]
  have hf : litFrac (sgnT n ++ natText n.natAbs) (sgnT n ++ natText n.natAbs).length = ((sgnT n ++ natText n.natAbs).length, true) := by
    unfold litFrac; rw [if_neg (by rw [hout]; decide)]
  rw [hf, if_pos rfl]
  unfold litExp
  rw [if_neg (by rw [hout]; decide)]

theorem int_short {n : Int} (hn : -9223372036854775808 ≤ n ∧ n ≤ 9223372036854775807) : (intText n).length ≤ 20 ∧ (natText n.natAbs).length ≤ 19 := by
  have h := dlen_lim (m := n.natAbs) (K := 19) (by omega) (by decide)
  have := intText_length n
  rw [natText_length]
  omega

/-- an int's text is read as that number -/
theorem parse_int {n : Int} (hn : -9223372036854775808 ≤ n ∧ n ≤ 9223372036854775807) : ∃ q, parseE (intText n) = .ok (.num (intText n)) q := by
  have hl := (int_short hn).1
  have hlit := litE_int n
  obtain ⟨r, hr⟩ := natText_head n.natAbs
  have hd := nat_digits n.natAbs
  obtain ⟨c, t, hct, hc⟩ : ∃ c t, intText n = c :: t ∧ (c = 45 ∨ (48 ≤ c.toNat ∧ c.toNat ≤ 57)) := by
    rw [intText_eq]
    unfold sgnT
    split
    · exact ⟨45, _, rfl, Or.inl rfl⟩
    · rw [hr]
      exact ⟨_, _, rfl, Or.inr (hd _ (by rw [hr]; simp))⟩
  obtain ⟨s, hs⟩ : ∃ s, s = intText n := ⟨_, rfl⟩
  rw [← hs] at hl hlit hct ⊢
  have h0 : 0 < s.length := by rw [hct]; simp
  have hnb : blankL.contains c = false := by
    rcases hc with rfl | hc
    · decide
    · have e : c = UInt8.ofNat c.toNat := by simp
      have : c.toNat = 48 ∨ c.toNat = 49 ∨ c.toNat = 50 ∨ c.toNat = 51 ∨ c.toNat = 52 ∨ c.toNat = 53 ∨ c.toNat = 54 ∨ c.toNat = 55 ∨ c.toNat = 56 ∨ c.toNat = 57 := by omega
      rcases this with k | k | k | k | k | k | k | k | k | k <;> (rw [e, k]; decide)
  have hsk : skipE blankL s 0 = 0 := skipE_stop h0 (by simp only [hct, List.getElem_cons_zero]; exact hnb)
  have hk : kindE s 0 = .ok 3 0 := by
    unfold kindE
    rw [hsk]
    have hb : byteE s 0 = .ok c.toNat 0 := by unfold byteE; rw [hct]; rfl
    rw [hb]
    show kindOf c.toNat 0 = _
    unfold kindOf
    have h1 : c.toNat = 45 ∨ (48 ≤ c.toNat ∧ c.toNat ≤ 57) := by
      rcases hc with rfl | hc
      · exact Or.inl rfl
      · exact Or.inr hc
    rw [if_neg (by omega), if_neg (by omega), if_neg (by omega), if_neg (by omega), if_neg (by omega), if_neg (by omega), if_pos h1]
  have hlim : limE s 0 3 0 0 = .ok () 0 := by
    have hlb : longB s 0 = false := by
      unfold longB; rw [hlit]; simp; omega
    unfold limE
    rw [hlb]; simp
  have hle : literalE s 0 = .ok s s.length := by
    unfold literalE
    rw [hlit, if_pos rfl]
    simp
  refine ⟨s.length, ?_⟩
  have hv : valueE s (2 * s.length + 10) 0 0 0 = .ok (.num s) s.length := by
    rw [show 2 * s.length + 10 = (2 * s.length + 9) + 1 by omega]
    unfold valueE
    rw [hk]
    simp only [Rs.bind]
    rw [hlim]
    simp only
    rw [if_neg (by omega), if_neg (by omega), if_neg (by omega), if_pos trivial, hle]
  unfold parseE
  rw [hv]
  simp only [Rs.bind]
  rw [skipE_end (Nat.le_refl _), if_neg (Nat.lt_irrefl _)]

/-- it is printed as it stands -/
theorem print_int {n : Int} (hn : -9223372036854775808 ≤ n ∧ n ≤ 9223372036854775807) : textG ordN (.mk 3 (intText n) [] []) = intText n ∧ printE ordN (twG ordN) (.mk 3 (intText n) [] []) = 0 := by
  have hl := (int_short hn).1
  have hlit := litE_int n
  have e1 : textG ordN (.mk 3 (intText n) [] []) = intText n := by rw [textG]; rfl
  refine ⟨e1, ?_⟩
  have hf : isLitB (intText n) = true := by unfold isLitB; rw [hlit]; simp; omega
  have e2 : errG (twG ordN) (.mk 3 (intText n) [] []) 0 = 0 := by
    rw [errG]
    have : ownE (twG ordN) 3 (intText n) ([] : List GV).length [] 0 = 0 := by
      unfold ownE formG
      rw [if_pos (rfl : (3 : Int) = 3), hf]; simp
    rw [this]; simp
  unfold printE
  rw [e2, if_neg (by simp), e1, if_neg (by omega)]

theorem uint_digits : ∀ (l : List UInt8) (acc : Nat), (∀ c ∈ l, 48 ≤ c.toNat ∧ c.toNat ≤ 57) → acc * 10 ^ l.length + numOf l < 18446744073709551616 → Lib.parseUint10 acc l = .ok (acc * 10 ^ l.length + numOf l)
  | [], acc, _, _ => by simp [Lib.parseUint10, numOf]
  | c :: l, acc, hd, hm => by
    have hc := hd c (by simp)
    rw [List.length_cons, numOf_cons] at hm
    have e : acc * 10 ^ (l.length + 1) + ((c.toNat - 48) * 10 ^ l.length + numOf l) = (acc * 10 + (c.toNat - 48)) * 10 ^ l.length + numOf l := by
      rw [Nat.pow_succ, Nat.add_mul]; rw [show acc * (10 ^ l.length * 10) = acc * 10 * 10 ^ l.length by rw [Nat.mul_assoc, Nat.mul_comm 10]]; omega
    rw [e] at hm
    have hp : 1 ≤ 10 ^ l.length := Nat.pow_pos (by decide)
    have hb : acc * 10 + (c.toNat - 48) < 18446744073709551616 := by
      have : (acc * 10 + (c.toNat - 48)) * 1 ≤ (acc * 10 + (c.toNat - 48)) * 10 ^ l.length := Nat.mul_le_mul_left _ hp
      omega
    unfold Lib.parseUint10
    rw [if_pos hc, if_neg (by omega), if_neg (by omega), uint_digits l _ (fun x hx => hd x (by simp [hx])) hm, List.length_cons, numOf_cons, e]

/-- Atoi of an int's text -/
theorem atoi_text {n : Int} (hn : -9223372036854775808 ≤ n ∧ n ≤ 9223372036854775807) : Lib.atoiAll (intText n) = .ok n := by
  have hm : Lib.parseMag (natText n.natAbs) = .ok n.natAbs := by
    unfold Lib.parseMag
    rw [if_neg (natText_ne _), uint_digits _ 0 (nat_digits _) (by rw [numOf_text]; omega), numOf_text]
    simp
  obtain ⟨r, hr⟩ := natText_head n.natAbs
  have hz := nat_digits n.natAbs (dig1 (n.natAbs / 10 ^ (dlen n.natAbs - 1))) (by rw [hr]; simp)
  rw [intText_eq]
  unfold sgnT
  by_cases h : n < 0
  · rw [if_pos h]
    show Lib.atoiAll (45 :: natText n.natAbs) = _
    rw [Lib.atoiAll_minus, hm]
    unfold Lib.signed
    simp only
    rw [if_neg (by omega)]
    congr 1; omega
  · rw [if_neg h, List.nil_append]
    rw [hr] at hm ⊢
    rw [Lib.atoiAll_plain _ _ (by omega) (by omega), hm]
    unfold Lib.signless
    simp only
    rw [if_neg (by omega)]
    congr 1; omega

set_option maxRecDepth 100000 in
set_option maxHeartbeats 1600000 in
theorem isWhole_int {n : Int} (hn : -9223372036854775808 ≤ n ∧ n ≤ 9223372036854775807) (w : World) : Calls Tryz.prog 32 #[txt (intText n)] w fun e w' => e = .returned (.bool true) ∧ w' = w := by
  obtain ⟨D, hD⟩ : ∃ D : ByteArray, D = ⟨(natText n.natAbs).toArray⟩ := ⟨_, rfl⟩
  have hDl : D.data.toList = natText n.natAbs := by rw [hD]
  have hDs : D.size = (natText n.natAbs).length := by rw [← data_len, hDl]
  have T : ∀ W, Calls Tryz.prog 56 #[txt (intText n), .string ⟨#[45]⟩] W fun r w' => r = .returned (.string D) ∧ w' = W := fun W => by
    have := trimPrefixJ_any ⟨(intText n).toArray⟩ ⟨#[45]⟩ W
    rw [show (⟨(intText n).toArray⟩ : ByteArray).data.toList = intText n from rfl, show (⟨#[45]⟩ : ByteArray).data.toList = [45] from rfl, trimJ_text] at this
    rw [hD]; exact this
  have hsz := (int_short hn).2
  have DE := fun W => digitsEnd_any (D := D) (p := 0) (Nat.zero_le _) (by omega) W
  have hsk : skipE digitL D.data.toList 0 = D.size := by
    rw [hDl, hDs]; exact skip_nat [] n.natAbs
  rw [hsk] at DE
  have hpos : 0 < D.size := by rw [hDs]; exact List.length_pos_iff.2 (natText_ne _)
  have i1 : (0 : Int) < (D.size : Int) := by omega
  have i2 : ¬ D = ⟨#[]⟩ := fun e => by rw [e] at hpos; exact absurd hpos (by decide)
  have i3 : (D.toList == []) = false := by
    rw [Lib.toList_data, hDl]
    have := natText_ne n.natAbs
    cases hq : natText n.natAbs with
    | nil => exact absurd hq this
    | cons a b => rfl
  have hcase : (((D[0]).toNat : Int) != 48) = true ∨ ((((D[0]).toNat : Int) != 48) = false ∧ intText n = [48]) := by
    have hb := bodyB_text n.natAbs
    unfold bodyB at hb
    simp only [Bool.and_eq_true, Bool.or_eq_true, decide_eq_true_eq] at hb
    have h0 : D[0] = (natText n.natAbs)[0]'(by omega) := by
      rw [← data_at hpos]; simp only [hDl]
    obtain ⟨r, hr⟩ := natText_head n.natAbs
    by_cases h48 : D[0] = 48
    · right
      refine ⟨by rw [h48]; rfl, ?_⟩
      rw [h0] at h48
      simp only [hr, List.getElem_cons_zero] at h48
      have hl1 : (natText n.natAbs).length ≤ 1 := by
        rcases hb.2 with k | k
        · exact k
        · rw [hr] at k; simp [h48] at k
      rw [hr] at hl1
      have hr0 : r = [] := List.length_eq_zero_iff.1 (by simp at hl1; exact List.length_eq_zero_iff.2 hl1)
      have hz : natText n.natAbs = [48] := by rw [hr, hr0, h48]
      have h1 := text_zero hz
      rw [intText_eq, hz]
      unfold sgnT
      rw [if_neg (by omega)]; rfl
    · left
      rw [bne_iff_ne]
      intro e
      exact h48 (UInt8.toNat_inj.1 (by have : (48 : UInt8).toNat = 48 := rfl; omega))
  have HT := Lib.hid T
  have HDE := Lib.hid DE
  clear T DE hDl hDs hsk hD i2
  rcases hcase with k | ⟨k, e⟩
  · go_enter Tryz.func32, Tryz.ntmps32
    go_wp2_with (first | (go_at_call 56; refine (HT.out _).mono ?_; rintro r w' ⟨rfl, rfl⟩) | (go_at_call 57; refine (HDE.out _).mono ?_; rintro r w' ⟨rfl, rfl⟩))
    go_ret
    exact ⟨rfl, rfl⟩
  · rw [e] at HT ⊢
    go_enter Tryz.func32, Tryz.ntmps32
    go_wp2_with (first | (go_at_call 56; refine (HT.out _).mono ?_; rintro r w' ⟨rfl, rfl⟩) | (go_at_call 57; refine (HDE.out _).mono ?_; rintro r w' ⟨rfl, rfl⟩))
    go_ret
    exact ⟨rfl, rfl⟩

set_option maxRecDepth 100000 in
set_option maxHeartbeats 1600000 in
theorem int_own {n : Int} (hn : -9223372036854775808 ≤ n ∧ n ≤ 9223372036854775807) (sa : Option Addr) (na ca : Nat) (sb : Option Addr) (nb cb : Nat) (w : World) : Calls Tryz.prog 12 #[.agg #[.int .i64 3, txt (intText n), .slice sa na ca, .slice sb nb cb]] w fun e w' => e = .returned (.tuple #[.int .i64 n, .int .i64 0]) ∧ Only w w' := by
  have IW := Lib.hid (fun W => isWhole_int hn W)
  have hl := (int_short hn).1
  have AT := Lib.hid (fun W => atoiJ_ok ⟨(intText n).toArray⟩ (by rw [← data_len]; show (intText n).length ≤ _; omega) n (atoi_text hn) W)
  have O := Lib.hid (Own4.new w (.int .i64 3) (txt (intText n)) (.slice sa na ca) (.slice sb nb cb) 25)
  have HA := Lib.hid ((Only.refl w).alloc (.cells #[.int .i64 3, txt (intText n), .slice sa na ca, .slice sb nb cb] 25))
  obtain ⟨⟨c1, c2, c3, c4⟩, -⟩ := O.out.all
  clear hl
  go_enter Tryz.func12, Tryz.ntmps12
  go_wp2_with (first | (go_at_call 32; refine (IW.out _).mono ?_; rintro r w' ⟨rfl, rfl⟩) | (go_at_call 33; refine (AT.out _).mono ?_; rintro r w2 ⟨rfl, t2⟩))
  go_ret2
  exact ⟨rfl, HA.out.trans t2⟩
end Go.Proofs.YtfcplpejifmohaaGreatDoor
