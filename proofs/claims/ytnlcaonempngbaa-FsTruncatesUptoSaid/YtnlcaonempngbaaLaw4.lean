/-
  OF THE LAWS: SameBytes; crashes by a boxed number.
-/
import Derived.Test.YtnlcaonempngbaaLaw3
namespace Go.Proofs.Ytnlcaonempngbaa
open Go.RowKit Go.Maps Go.WideMaps

section
variable {w w' : World} {p : Nat} {S S' : Fsp.Fs} {c c' : Bool} {Q : Nat → Prop} {mo : Option Nat} {pl : List UInt8 → Pl}

theorem SliceR.like {v : Value} {d : List UInt8} (h : SliceR w v d) (k : Like w w') : SliceR w' v d := by
  obtain ⟨sp, cap, hv, hc⟩ := h
  exact ⟨sp, cap, hv, fun h0 => by obtain ⟨ad, e, hx⟩ := hc h0; exact ⟨ad, e, fun j x hj => k.cell (hx j x hj)⟩⟩

theorem SliceR.turned {v : Value} {d : List UInt8} (h : SliceR w v d) (ht : Turn (fun _ => False) w w') : SliceR w' v d := by
  obtain ⟨sp, cap, hv, hc⟩ := h
  exact ⟨sp, cap, hv, fun h0 => by obtain ⟨ad, e, hx⟩ := hc h0; exact ⟨ad, e, fun j x hj => turn_cell ht (hx j x hj)⟩⟩

theorem sameAt {da db : List UInt8} (hl : da.length = db.length) : da = db ↔ ∀ j (h1 : j < da.length) (h2 : j < db.length), da[j] = db[j] := by
  constructor
  · intro e; subst e; intros; rfl
  · intro h; exact List.ext_getElem hl h

theorem take_eq_snoc {da db : List UInt8} {k : Nat} (h1 : k < da.length) (h2 : k < db.length) (h : da.take k = db.take k) (e : da[k] = db[k]) : da.take (k + 1) = db.take (k + 1) := by
  rw [List.take_succ_eq_append_getElem h1, List.take_succ_eq_append_getElem h2, h, e]

set_option maxRecDepth 100000 in
set_option maxHeartbeats 1000000 in
theorem same_any {va vb : Value} {da db : List UInt8} (ha : SliceR w va da) (hb : SliceR w vb db) (hla : da.length ≤ maxLen) (hlb : db.length ≤ maxLen) :
    Calls Try.prog 22 #[va, vb] w fun r w' => r = .returned (.bool (decide (da = db))) ∧ Like w w' := by
  obtain ⟨sa, ca, rfl, hca⟩ := ha
  obtain ⟨sb, cb, rfl, hcb⟩ := hb
  unfold maxLen at hla hlb
  have HA := Lib.hid hca
  have HB := Lib.hid hcb
  clear hca hcb
  by_cases hl : da.length = db.length
  · have b1 : ((da.length : Int) != (db.length : Int)) = false := by rw [hl]; simp
    have HL := Lib.hid hl
    clear hl
    go_enter Try.func22, Try.ntmps22
    go_wp2_with fail
    go_loopw [5] (fun i wr => ∃ k : Nat, k ≤ da.length ∧ i = .int .i64 k ∧ da.take k = db.take k ∧ Like w wr) (fun i _ => da.length - (intOf i).toNat)
    case atStart => exact ⟨0, Nat.zero_le _, rfl, rfl, ⟨rfl, rfl, rfl, rfl⟩⟩
    case round =>
      obtain ⟨k, hk, rfl, htk, hlk⟩ := hrel
      have HK := Lib.hid htk
      have HW := Lib.hid hlk
      clear htk hlk
      by_cases hlt : k < da.length
      · have hlt2 : k < db.length := by have := HL.out; omega
        obtain ⟨aa, e1, x1⟩ := HA.out (by omega)
        obtain ⟨ab, e2, x2⟩ := HB.out (by omega)
        subst e1; subst e2
        have ca' := HW.out.cell (x1 k da[k] (List.getElem?_eq_getElem hlt))
        have cb' := HW.out.cell (x2 k db[k] (List.getElem?_eq_getElem hlt2))
        have i0 : (0 : Int) ≤ (k : Int) := by omega
        have i1 : (k : Int) < (da.length : Int) := by omega
        have i2 : (k : Int) < (db.length : Int) := by omega
        clear x1 x2
        by_cases he : da[k] = db[k]
        · have HE := Lib.hid he
          have b2 : (((da[k].toNat : Nat) : Int) != ((db[k].toNat : Nat) : Int)) = false := by rw [he]; simp
          clear he
          go_wp2_with fail
          go_quiet (fail)
          go_wp2
          go_roundw
          case rel => exact ⟨k + 1, by omega, by go_num, take_eq_snoc hlt hlt2 HK.out HE.out, HW.out.trans (like_drewN _ _)⟩
          case measure => simp [intOf]; omega
        · have b2 : (((da[k].toNat : Nat) : Int) != ((db[k].toNat : Nat) : Int)) = true := by
            rw [bne_iff_ne]; intro e; exact he (UInt8.toNat_inj.1 (by omega))
          have hd : decide (da = db) = false := by
            rw [decide_eq_false_iff_not]; intro e; exact he (by simp only [e])
          have HD := Lib.hid hd
          clear he hd
          go_wp2_with fail
          go_quiet (fail)
          go_wp2
          go_ret
          exact ⟨ret_bool HD.out.symm, HW.out.trans (like_drewN _ _)⟩
      · have hk0 : k = da.length := by omega
        subst hk0
        have hd : decide (da = db) = true := by
          rw [decide_eq_true_iff]
          have h1 := HK.out
          rw [List.take_length, HL.out, List.take_length] at h1
          exact h1
        have HD := Lib.hid hd
        clear hd
        go_wp2
        go_ret
        exact ⟨ret_bool HD.out.symm, HW.out⟩
  · have b1 : ((da.length : Int) != (db.length : Int)) = true := by rw [bne_iff_ne]; omega
    have hd : decide (da = db) = false := by
      rw [decide_eq_false_iff_not]; intro e; exact hl (by rw [e])
    rw [hd]
    clear hd hl
    go_enter Try.func22, Try.ntmps22
    go_wp2
    go_ret
    exact ⟨rfl, ⟨rfl, rfl, rfl, rfl⟩⟩

end
end Go.Proofs.Ytnlcaonempngbaa
