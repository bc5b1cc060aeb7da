/-
  JsonMembers where nothing is asked: too long, or refused.
-/
import Derived.Test.YtfcplpejifmohaaDoorJEx
import Derived.Test.YtfcplpejifmohaaDoorJBox
namespace Go.Proofs.YtfcplpejifmohaaDoor
open Go.RowKit Go.Maps Go.WideMaps Go.Shelf
set_option linter.unusedVariables false
set_option linter.unusedSimpArgs false

theorem BytesIn.only' {w w' : World} {v : Value} {l : List UInt8} (h : BytesIn w v l) (t : Only w w') : BytesIn w' v l := ⟨h.1, fun W hW => h.2 W (t.trans hW)⟩

set_option maxRecDepth 100000 in
set_option maxHeartbeats 3200000 in
theorem members_long {b : List UInt8} {bv : Value} {t : List UInt8} (hl : 4000 < b.length ∨ 4000 < t.length) {w : World} (hb : BytesIn w bv b) (hT : Tb w) : Calls Tryd.prog 7 #[bv, txt t] w fun e w' => e = .returned (.bool true) ∧ Only w w' := by
  obtain ⟨⟨sp, cap, rfl⟩, -⟩ := hb
  have HT := Lib.hid hT
  have FI := Lib.hid (fun W (h : Tb W) => first7_any h)
  clear hT
  by_cases h1 : 4000 < b.length
  · have i1 : (4000 : Int) < (b.length : Int) := by omega
    have d1 : decide ((4000 : Int) < (b.length : Int)) = true := decide_eq_true i1
    go_enter Tryd.func7, Tryd.ntmps7
    go_wp2_with fail
    refine (FI.out _ HT.out).mono ?_
    rintro r w1 ⟨rfl, t1⟩
    have H1 := Lib.hid t1
    clear t1
    go_wp2_with fail
    go_ret
    exact ⟨rfl, H1.out⟩
  · have i1 : ¬ (4000 : Int) < (b.length : Int) := by omega
    have i2 : (4000 : Int) < (t.length : Int) := by omega
    have d1 : decide ((4000 : Int) < (b.length : Int)) = false := decide_eq_false i1
    have d2 : decide ((4000 : Int) < (t.length : Int)) = true := decide_eq_true i2
    go_enter Tryd.func7, Tryd.ntmps7
    go_wp2_with fail
    refine (FI.out _ HT.out).mono ?_
    rintro r w1 ⟨rfl, t1⟩
    have H1 := Lib.hid t1
    clear t1
    go_wp2_with fail
    go_ret
    exact ⟨rfl, H1.out⟩

set_option maxRecDepth 100000 in
set_option maxHeartbeats 3200000 in
theorem members_bad {b : List UInt8} {bv : Value} {t : List UInt8} {x y : Nat} (h1 : b.length ≤ 4000) (h2 : t.length ≤ 4000) (hp : parseE b = .bad x y) {w : World} (hb : BytesIn w bv b) (hT : Tb w) : Calls Tryd.prog 7 #[bv, txt t] w fun e w' => e = .returned (.bool true) ∧ Only w w' := by
  have hy := parseE_err hp
  have hy2 : (y : Int) ≠ 0 := by omega
  have hy3 : ((y : Int) != 0) = true := by rw [bne_iff_ne]; exact hy2
  have hy4 : ((y : Int) == 0) = false := by rw [beq_eq_false_iff_ne]; exact hy2
  have HB := Lib.hid hb
  obtain ⟨⟨sp, cap, rfl⟩, -⟩ := hb
  have HT := Lib.hid hT
  have NM := Lib.hid numJ_any
  have FI := Lib.hid (fun W (h : Tb W) => first7_any h)
  have PA := Lib.hid (fun (W : World) (v : Value) (hb : BytesIn W v b) (h : Tb W) => parseN_any hb (by omega) h)
  rw [hp] at PA
  have i1 : ¬ (4000 : Int) < (b.length : Int) := by omega
  have i2 : ¬ (4000 : Int) < (t.length : Int) := by omega
  have d1 : decide ((4000 : Int) < (b.length : Int)) = false := decide_eq_false i1
  have d2 : decide ((4000 : Int) < (t.length : Int)) = false := decide_eq_false i2
  clear hT hp hy
  go_enter Tryd.func7, Tryd.ntmps7
  go_wp2_with fail
  refine (FI.out _ HT.out).mono ?_
  rintro r w1 ⟨rfl, t1⟩
  have H1 := Lib.hid t1
  clear t1
  go_wp2_with fail
  refine (PA.out _ _ (HB.out.only' H1.out) (HT.out.only H1.out)).mono ?_
  rintro r w2 ⟨t2, a', -, rfl⟩
  have H2 := Lib.hid ((H1.out.trans t2).alloc (.cells #[.int .i64 0, .string ⟨#[]⟩, .slice none 0 0, .slice none 0 0] 25))
  clear t2
  go_wp2_with (go_at_call 11; refine (NM.out _ _).mono ?_; rintro r w'' ⟨rfl, rfl⟩)
  go_ret
  exact ⟨rfl, H2.out⟩
end Go.Proofs.YtfcplpejifmohaaDoor
