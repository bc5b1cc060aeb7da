/-
  KeysBack: keys there and back, and their fronts.
-/
import Derived.Test.YtipcdbdlopmdoaaDoorKFirst
namespace Go.Proofs.YtipcdbdlopmdoaaDoor
open Go.RowKit Go.Maps Go.WideMaps Go.Shelf
set_option linter.unusedVariables false
set_option linter.unusedSimpArgs false

theorem encP_mem : ∀ {l : List KP} {p : KP}, p ∈ l → (encP p).length ≤ (encL l).length
  | q :: l, p, h => by
    simp only [encL, List.length_append]
    rcases List.mem_cons.1 h with rfl | h
    · omega
    · have := encP_mem h; omega

theorem decE_ok {key : List UInt8} {l : List KP} (h : decE key = some l) : ∀ p ∈ l, KOk p := fun p hp => by
  obtain ⟨h1, h2, h3, h4, h5, h6, h7⟩ := decE_some h
  have hk := List.all_eq_true.1 h6 p hp
  have hn := h3 p hp
  have hpl : plainP p = p := by
    obtain ⟨i, hi, rfl⟩ := List.getElem_of_mem hp
    have : (l.map plainP)[i]'(by simpa using hi) = l[i] := by simp [h7]
    simpa using this
  have hl : (encP p).length ≤ 200 := by have := encP_mem hp; rw [h1] at this; omega
  rcases kind_of hk with e | e
  · refine ⟨by rw [e]; decide, by rw [e]; decide, hn, ?_⟩
    unfold plainP at hpl
    rw [if_pos e] at hpl
    rw [← hpl]; simp
  · refine ⟨by rw [e]; decide, by rw [e]; decide, hn, ?_⟩
    rw [encP_2 e, esc_length] at hl
    omega

theorem PartsR.front {w : World} {l : List KP} {sp : Option Addr} {cap i : Nat} (h : PartsR w (.slice sp l.length cap) l) (hi : i ≤ l.length) : PartsR w (.slice sp i cap) (l.take i) := by
  obtain ⟨sq, cq, e, hc⟩ := h
  simp only [Value.slice.injEq] at e
  obtain ⟨rfl, -, rfl⟩ := e
  have hl : (l.take i).length = i := by simp; omega
  refine ⟨sp, cap, by rw [hl], fun h0 => ?_⟩
  rw [hl] at h0
  obtain ⟨g, o, e, hat⟩ := hc (by omega)
  refine ⟨g, o, e, fun j hj => ?_⟩
  have hj2 : j < l.length := by rw [hl] at hj; omega
  have := hat j hj2
  rwa [← List.getElem_take (h := hj)] at this

theorem PartsO.cap_le {w : World} {base : Nat} {l : List KP} {sp : Option Addr} {cap : Nat} (h : PartsO w base (.slice sp l.length cap) l) : l.length ≤ cap ∧ (sp = none → l.length = 0) := by
  rcases h.2 with ⟨hv, hn⟩ | ⟨g, cap', cur, hv, hg, hh, h1, h2, h3, h4⟩
  · simp only [Value.slice.injEq] at hv
    obtain ⟨h1, h2, h3⟩ := hv
    exact ⟨by omega, fun _ => h2⟩
  · simp only [Value.slice.injEq] at hv
    obtain ⟨e1, -, rfl⟩ := hv
    exact ⟨h1, fun e => by rw [e] at e1; cases e1⟩

set_option maxRecDepth 100000 in
set_option maxHeartbeats 6400000 in
theorem keysBack_any {key : ByteArray} (hs : key.size ≤ 9223372036854775807) {w : World} (hm : MaxAt w) : Calls Tryd.prog 6 #[.string key] w fun e w' => e = .returned (.bool true) ∧ Only w w' := by
  have F := first8_any hm
  have HM := Lib.hid hm
  clear hm
  by_cases h2000 : key.size ≤ 2000
  · have i1 : decide ((2000 : Int) < (key.size : Int)) = false := by simp; omega
    have D := fun (W : World) (h : MaxAt W) => decode_any (D := key) (by omega) h
    obtain ⟨o, ho⟩ : ∃ o, o = decE key.data.toList := ⟨_, rfl⟩
    rw [← ho] at D
    have hkd : key.data.toList.length = key.size := by simp
    cases o with
    | none =>
      have D := Lib.hid D
      clear ho hkd
      go_enter Tryd.func6, Tryd.ntmps6
      go_wp2_with (first | (go_at_call 7; refine F.mono ?_; rintro r w1 ⟨rfl, t1⟩) | (go_at_call 12; refine (D.out _ (HM.out.only t1)).mono ?_; rintro r w2 ⟨t2, rfl⟩) | (go_at_call 10; refine (num8_any _ _).mono ?_; rintro r w7 ⟨rfl, rfl⟩))
      go_ret
      exact ⟨rfl, t1.trans t2⟩
    | some l =>
      obtain ⟨h1, h2, h3, h4, h5, h6, h7⟩ := decE_some ho.symm
      have hok := decE_ok ho.symm
      have hke : ktxt (keyE l) = key := by unfold keyE; rw [if_pos h2, h1]
      have EN := fun (W : World) (v : Value) (hv : PartsR W v l) (h : MaxAt W) => encode_any hv (by omega) hok h
      rw [hke, h2] at EN
      have EF := fun (W : World) (v : Value) (i : Nat) (hv : PartsR W v (l.take i)) (h : MaxAt W) => encode_any hv (by simp; omega) (fun x hx => hok x (List.mem_of_mem_take hx)) h
      have ef : ∀ i, errE (l.take i) = 0 := fun i => errE_take h2 i
      have kf : ∀ i, keyE (l.take i) = encL (l.take i) := fun i => by unfold keyE; rw [if_pos (ef i)]
      have bg : ∀ i W, Calls Tryd.prog 18 #[.string key, .string (ktxt (encL (l.take i)))] W fun r w' => r = .returned (.bool true) ∧ w' = W := fun i W => by
        refine (begins8_any key (ktxt (encL (l.take i))) W).mono fun r w' h => ⟨?_, h.2.symm⟩
        rw [h.1]
        congr 2
        rw [List.isPrefixOf_iff_prefix]
        exact ⟨encL (l.drop i), by rw [← h1]; exact (encL_take l i).symm⟩
      simp only [ef, kf] at EF
      have D := Lib.hid D
      have EN := Lib.hid EN
      have EF := Lib.hid EF
      have BG := Lib.hid bg
      have il : (l.length : Int) ≤ 8 := by omega
      have i2 : decide ((200 : Int) < (key.size : Int)) = false := by simp; omega
      have i3 : decide ((8 : Int) < (l.length : Int)) = false := by simp; omega
      clear ho h1 h2 h3 h4 h6 h7 hok hke ef kf bg hkd
      go_enter Tryd.func6, Tryd.ntmps6
      go_wp2_with (first | (go_at_call 7; refine F.mono ?_; rintro r w1 ⟨rfl, t1⟩) | (go_at_call 12; refine (D.out _ (HM.out.only t1)).mono ?_; rintro r w2 ⟨t2, v, rfl, hv⟩; obtain ⟨sp, cap, rfl⟩ := hv.form; have HV := Lib.hid hv; have T2 := Lib.hid (t1.trans t2); clear hv t1 t2) | (go_at_call 9; refine (EN.out _ _ HV.out.toR (HM.out.only T2.out)).mono ?_; rintro r w3 ⟨rfl, t3⟩; have HV3 := Lib.hid (HV.out.toR.only t3); have T3 := Lib.hid (T2.out.trans t3); clear t3) | (go_at_call 10; refine (num8_any _ _).mono ?_; rintro r w7 ⟨rfl, rfl⟩))
      obtain ⟨hcap, hnil⟩ := HV.out.cap_le
      go_loopw [8, 9, 10] (fun i _ _ x => ∃ k : Nat, k ≤ l.length + 1 ∧ i = .int .i64 k ∧ Only w7 x) (fun i _ _ _ => l.length + 1 - (intOf i).toNat)
      case atStart => exact ⟨0, by omega, rfl, Only.refl _⟩
      case round =>
        obtain ⟨k, hk, rfl, ht⟩ := hrel
        by_cases hlt : k ≤ l.length
        · have j1 : (k : Int) ≤ (l.length : Int) := by omega
          have j2 : (0 : Int) ≤ (k : Int) := by omega
          have j3 : (k : Int) ≤ (cap : Int) := by omega
          have j4 : k ≤ cap := by omega
          have hk1 : k + 1 ≤ l.length + 1 := by omega
          have HT := Lib.hid ht
          have HF := Lib.hid ((HV3.out.front hlt).only ht)
          clear ht hk hlt
          go_wp2_with fail
          refine (EF.out _ _ k HF.out (HM.out.only (T3.out.trans HT.out))).mono ?_
          rintro r w8 ⟨rfl, t8⟩
          have T8 := Lib.hid (HT.out.trans t8)
          clear t8
          go_wp2_with (first | (go_at_call 10; refine (num8_any _ _).mono ?_; rintro r w9 ⟨rfl, rfl⟩) | (go_at_call 18; refine (BG.out _ _).mono ?_; rintro r w9 ⟨rfl, rfl⟩))
          go_roundw
          case rel => exact ⟨k + 1, hk1, by push_cast; rfl, T8.out⟩
          case measure => simp [intOf]; omega
        · have hk0 : k = l.length + 1 := by omega
          subst hk0
          have j1 : decide (((l.length + 1 : Nat) : Int) ≤ (l.length : Int)) = false := by simp; omega
          have HT := Lib.hid ht
          clear ht hk hlt
          go_wp2_with fail
          go_ret
          exact ⟨rfl, T3.out.trans HT.out⟩
  · have i1 : decide ((2000 : Int) < (key.size : Int)) = true := by simp; omega
    go_enter Tryd.func6, Tryd.ntmps6
    go_wp2_with (first | (go_at_call 7; refine F.mono ?_; rintro r w1 ⟨rfl, t1⟩))
    go_ret
    exact ⟨rfl, t1⟩
end Go.Proofs.YtipcdbdlopmdoaaDoor
