/-
  Of the law of back and forth: Print and Parse where neither refuses; bytes compared; no value held against no value.
-/
import Derived.Test.YtdhkpkojnokjdaaDoorJLight
import Derived.Test.YtdhkpkojnokjdaaDoorGRd
namespace Go.Proofs.YtdhkpkojnokjdaaDoor
open Go.RowKit Go.Maps Go.WideMaps Go.Shelf
set_option linter.unusedVariables false
set_option linter.unusedSimpArgs false

theorem print_ok {x : GV} {v : Value} {w : World} (hx : GIn w x v) (hF : Fine x) (hT : Tb w) (he : errG (twG ordN) x 0 = 0) (hl : (textG ordN x).length ≤ 65536) :
    Calls Tryd.prog 10 #[v] w fun e w' => (∃ sp cap, e = .returned (.tuple #[.slice sp (textG ordN x).length cap, .int .i64 0]) ∧ BytesO w' w.heap.size (.slice sp (textG ordN x).length cap) (textG ordN x)) ∧ Only w w' := by
  refine (printN_any hx hF hT (by omega)).mono ?_
  have hz : printE ordN (twG ordN) x = 0 := by
    unfold printE
    rw [if_neg (by rw [he]; decide), if_neg (by omega)]
  rintro e w' ⟨⟨bv, rfl, h1, -⟩, t⟩
  have hb := h1 hz
  rw [hz]
  obtain ⟨sp, cap, rfl⟩ := hb.slice
  exact ⟨⟨sp, cap, rfl, hb⟩, t⟩
theorem print_bad {x : GV} {v : Value} {w : World} (hx : GIn w x v) (hF : Fine x) (hT : Tb w) (he : printE ordN (twG ordN) x ≠ 0) (hl : (textG ordN x).length ≤ 65536) :
    Calls Tryd.prog 10 #[v] w fun e w' => e = .returned (.tuple #[.slice none 0 0, .int .i64 (printE ordN (twG ordN) x)]) ∧ Only w w' := by
  refine (printN_any hx hF hT (by omega)).mono ?_
  rintro e w' ⟨⟨bv, rfl, -, h1⟩, t⟩
  rw [h1 he]
  exact ⟨rfl, t⟩
theorem parse_ok {v : Value} {l : List UInt8} {w : World} (hb : BytesIn w v l) (hlen : l.length ≤ 65536) (hT : Tb w) {y : JV} {q : Nat} (hp : parseE l = .ok y q) :
    Calls Tryd.prog 12 #[v] w fun e w' => (∃ (k : Int) (t : List UInt8) (sp : Option Addr) (n c : Nat) (sq : Option Addr) (m d : Nat), e = .returned (.tuple #[.agg #[.int .i64 k, txt t, .slice sp n c, .slice sq m d], .int .i64 0, .int .i64 0]) ∧ GIn w' (toG y) (.agg #[.int .i64 k, txt t, .slice sp n c, .slice sq m d])) ∧ Only w w' := by
  refine (parseN_any hb hlen hT).mono ?_
  rintro e w' ⟨t, h⟩
  rw [hp] at h
  obtain ⟨v, rfl, hv⟩ := h
  obtain ⟨kk, tt, La, Na, rfl, ⟨la1, la2, la3, rfl⟩, ⟨na1, na2, na3, rfl⟩⟩ := hv.form
  exact ⟨⟨_, _, _, _, _, _, _, _, rfl, hv.gin⟩, t⟩
theorem parse_bad {v : Value} {l : List UInt8} {w : World} (hb : BytesIn w v l) (hlen : l.length ≤ 65536) (hT : Tb w) {a b : Nat} (hp : parseE l = .bad a b) :
    Calls Tryd.prog 12 #[v] w fun e w' => (∃ a' : Int, e = .returned (.tuple #[.agg #[.int .i64 0, .string ⟨#[]⟩, .slice none 0 0, .slice none 0 0], .int .i64 a', .int .i64 (b : Int)])) ∧ Only w w' := by
  refine (parseN_any hb hlen hT).mono ?_
  rintro e w' ⟨t, h⟩
  rw [hp] at h
  obtain ⟨a', -, rfl⟩ := h
  exact ⟨⟨a', rfl⟩, t⟩

/-- a value and what its text is read as, compared -/
theorem same_back {x : GV} {a b : Value} {w : World} (he : errG (twG ordN) x 0 = 0) (ha : GIn w (toG (readG x)) a) (hb : GIn w x b) (s1 : Slim (toG (readG x))) (s2 : Slim x) :
    Calls Tryd.prog 13 #[a, b] w fun e w' => e = .returned (.bool true) ∧ Only w w' := by
  have h := same_any (SizeOf.sizeOf (toG (readG x)) + 1) (toG (readG x)) x w a b (Nat.lt_succ_self _) ha hb s1 s2
  rw [(same_read _ x 0 he).2] at h
  exact h
theorem same_forth {x : GV} {a b : Value} {w : World} (he : errG (twG ordN) x 0 = 0) (ha : GIn w x a) (hb : GIn w (toG (readG x)) b) (s1 : Slim x) (s2 : Slim (toG (readG x))) :
    Calls Tryd.prog 13 #[a, b] w fun e w' => e = .returned (.bool true) ∧ Only w w' := by
  have h := same_any (SizeOf.sizeOf x + 1) x (toG (readG x)) w a b (Nat.lt_succ_self _) ha hb s1 s2
  rw [(same_read _ x 0 he).1] at h
  exact h

/-- bytes in memory, read byte by byte -/
def BytesC (w : World) (v : Value) (l : List UInt8) : Prop := ∃ sp cap, v = .slice sp l.length cap ∧ (l = [] ∨ ∃ g, sp = some ⟨g, 0, none⟩ ∧ ∀ i (h : i < l.length), w.cell? ⟨g, i, none⟩ = some (.int .u8 (l[i].toNat : Int)))
theorem BytesO.c {w : World} {base : Nat} {v : Value} {l : List UInt8} (h : BytesO w base v l) : BytesC w v l := by
  rcases h.form with ⟨rfl, rfl⟩ | ⟨g, cap, rfl, -, hc⟩
  · exact ⟨none, 0, rfl, Or.inl rfl⟩
  · exact ⟨_, cap, rfl, Or.inr ⟨g, rfl, fun i hi => hc i _ (by simp [u8V, hi])⟩⟩
theorem BytesC.only {w w' : World} {v : Value} {l : List UInt8} (h : BytesC w v l) (t : Only w w') : BytesC w' v l := by
  obtain ⟨sp, cap, e, h⟩ := h
  refine ⟨sp, cap, e, ?_⟩
  rcases h with h | ⟨g, e2, hc⟩
  · exact Or.inl h
  · exact Or.inr ⟨g, e2, fun i hi => cell_only (hc i hi) t⟩

set_option maxRecDepth 100000 in
set_option maxHeartbeats 1600000 in
/-- the same bytes are the same -/
theorem sameBytes_self {a b : Value} {l : List UInt8} {w : World} (ha : BytesC w a l) (hb : BytesC w b l) (hl : l.length ≤ 1000000) : Calls Tryd.prog 14 #[a, b] w fun e w' => e = .returned (.bool true) ∧ Only w w' := by
  obtain ⟨sp, cap, rfl, hc⟩ := ha
  obtain ⟨sp2, cap2, rfl, hc2⟩ := hb
  have HC := Lib.hid hc
  have HC2 := Lib.hid hc2
  have il : (l.length : Int) ≤ 1000000 := by omega
  clear hc hc2
  go_enter Tryd.func14, Tryd.ntmps14
  go_wp2_with fail
  go_loopw [5] (fun iv wx => ∃ j : Nat, iv = .int .i64 (j : Int) ∧ j ≤ l.length ∧ Only w wx) (fun iv _ => l.length - (intOf iv).toNat)
  case atStart => exact ⟨0, rfl, Nat.zero_le _, Only.refl _⟩
  case round =>
    obtain ⟨j, rfl, hj, ht⟩ := hrel
    have HT := Lib.hid ht
    by_cases hlt : j < l.length
    · have ij : (j : Int) < (l.length : Int) := by omega
      rcases HC.out with h0 | ⟨g, rfl, hcell⟩
      · rw [h0] at hlt; simp at hlt
      rcases HC2.out with h0 | ⟨g2, rfl, hcell2⟩
      · rw [h0] at hlt; simp at hlt
      have c1 := cell_cone (cell_only (hcell j hlt) ht)
      have c2 := cell_cone (cell_only (hcell2 j hlt) ht)
      have e1 := add_at0 g j
      have e2 := add_at0 g2 j
      obtain ⟨z, hz⟩ : ∃ z, z = l[j].toNat := ⟨_, rfl⟩
      rw [← hz] at c1 c2
      clear hcell hcell2 hz ht
      go_wp2_with fail
      refine wp_region_cone (by kernel_rfl) (by kernel_rfl) ?_
      repeat (any_goals (first | go_big_quiet_step ((fail)) | quiet_step ((fail))))
      refine wpQuiet_nil ?_
      rintro w2 ⟨⟨_, t2⟩, rfl⟩
      have HT2 := Lib.hid (HT.out.trans t2)
      clear t2 c1 c2
      go_wp2_with fail
      go_roundw
      case rel => exact ⟨j + 1, by push_cast; rfl, hlt, HT2.out⟩
      case measure => simp [intOf]; omega
    · have ij : ¬ (j : Int) < (l.length : Int) := by omega
      go_wp2_with fail
      go_ret
      exact ⟨rfl, HT.out⟩

set_option maxRecDepth 100000 in
/-- no texts are no texts -/
theorem sameTexts_nil (w : World) : Calls Tryd.prog 28 #[.slice none 0 0, .slice none 0 0] w fun e w' => e = .returned (.bool true) ∧ Only w w' := by
  go_enter Tryd.func28, Tryd.ntmps28
  go_wp2_with fail
  go_loopw [5] (fun iv wx => iv = .int .i64 0 ∧ Only w wx) (fun iv _ => 0)
  case atStart => exact ⟨rfl, Only.refl _⟩
  case round =>
    obtain ⟨rfl, ht⟩ := hrel
    go_wp2_with fail
    go_ret
    exact ⟨rfl, ht⟩

abbrev zeroV : Value := .agg #[.int .i64 0, .string ⟨#[]⟩, .slice none 0 0, .slice none 0 0]
set_option maxRecDepth 100000 in
/-- no value is no value -/
theorem same_zero (w : World) : Calls Tryd.prog 15 #[zeroV, zeroV] w fun e w' => e = .returned (.bool true) ∧ Only w w' := by
  have SN := Lib.hid sameTexts_nil
  have O1 := Lib.hid ((Own4.new w (.int .i64 0) (.string ⟨#[]⟩) (.slice none 0 0) (.slice none 0 0) 25).only ((Only.refl _).alloc (.cells #[.int .i64 0, .string ⟨#[]⟩, .slice none 0 0, .slice none 0 0] 40)))
  have O2 : Own4 ((w.alloc (.cells #[.int .i64 0, .string ⟨#[]⟩, .slice none 0 0, .slice none 0 0] 25)).alloc (.cells #[.int .i64 0, .string ⟨#[]⟩, .slice none 0 0, .slice none 0 0] 40)) (w.heap.size + 1) (.int .i64 0) (.string ⟨#[]⟩) (.slice none 0 0) (.slice none 0 0) := by
    have := Own4.new (w.alloc (.cells #[.int .i64 0, .string ⟨#[]⟩, .slice none 0 0, .slice none 0 0] 25)) (.int .i64 0) (.string ⟨#[]⟩) (.slice none 0 0) (.slice none 0 0) 40
    simpa using this
  obtain ⟨⟨x0, x1, x2, x3⟩, -⟩ := O1.out.all
  obtain ⟨⟨y0, y1, y2, y3⟩, -⟩ := O2.all
  have HA := Lib.hid (((Only.refl w).alloc (.cells #[.int .i64 0, .string ⟨#[]⟩, .slice none 0 0, .slice none 0 0] 25)).alloc (.cells #[.int .i64 0, .string ⟨#[]⟩, .slice none 0 0, .slice none 0 0] 40))
  clear O2
  go_enter Tryd.func15, Tryd.ntmps15
  go_wp2_with (go_at_call 28; refine (SN.out _).mono ?_; rintro r w1 ⟨rfl, t1⟩)
  have H1 := Lib.hid (HA.out.trans t1)
  have o1 := Lib.hid (O1.out.only t1)
  clear t1 x0 x1 x2 x3 y0 y1 y2 y3
  go_loopw [5] (fun iv wx => iv = .int .i64 0 ∧ Only w1 wx) (fun iv _ => 0)
  case atStart => exact ⟨rfl, Only.refl _⟩
  case round =>
    obtain ⟨rfl, ht⟩ := hrel
    have o2 := o1.out.only ht
    obtain ⟨⟨x0, x1, x2, x3⟩, -⟩ := o2.all
    have H2 := Lib.hid (H1.out.trans ht)
    clear o2 ht
    go_wp2_with fail
    go_ret
    exact ⟨rfl, H2.out⟩
end Go.Proofs.YtdhkpkojnokjdaaDoor
