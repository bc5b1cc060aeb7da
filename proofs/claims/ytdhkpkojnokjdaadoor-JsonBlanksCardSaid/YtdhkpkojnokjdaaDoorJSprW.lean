/-
  spread: blanks round each mark (made by gen_sprw.py).
-/
import Derived.Test.YtdhkpkojnokjdaaDoorGSp
import Derived.Test.YtdhkpkojnokjdaaDoorJOpen
namespace Go.Proofs.YtdhkpkojnokjdaaDoor
open Go.RowKit Go.Maps Go.WideMaps Go.Shelf
set_option linter.unusedVariables false
set_option linter.unusedSimpArgs false

/-- bytes in memory, wherever their row begins -/
def BytesX (w : World) (v : Value) (l : List UInt8) : Prop := ∃ sp cap, v = .slice sp l.length cap ∧ (l = [] ∨ ∃ g off, sp = some ⟨g, off, none⟩ ∧ ∀ i (h : i < l.length), w.cell? ⟨g, off + i, none⟩ = some (.int .u8 (l[i].toNat : Int)))

theorem five_bytes (w : World) {e : Int} {c : UInt8} (h : e = (c.toNat : Int)) : ∀ j u, (([32, 9, c, 10, 13] : List UInt8).map u8V)[j]? = some u → (w.alloc (.cells #[.int .u8 32, .int .u8 9, .int .u8 e, .int .u8 10, .int .u8 13] 5)).cell? ⟨w.heap.size, j, none⟩ = some u := by
  intro j u hj
  rw [cell_new, h]
  rw [← hj]
  match j with
  | 0 => rfl
  | 1 => rfl
  | 2 => rfl
  | 3 => rfl
  | 4 => rfl
  | j + 5 => rfl

/-- where the loop stands -/
def SprAt (w wx : World) (b : List UInt8) (v : Value) (bw : Bool) (j : Nat) : Prop := ∃ o, BytesO wx w.heap.size v o ∧ spr false b = o ++ spr bw (b.drop j) ∧ o.length ≤ 5 * j ∧ Only w wx

set_option maxRecDepth 100000 in
set_option maxHeartbeats 12800000 in
theorem spread_any {b : List UInt8} {v : Value} {w : World} (hb : BytesX w v b) (hl : b.length ≤ 4000) : Calls Tryd.prog 16 #[v] w fun e w' => (∃ sp cap, e = .returned (.slice sp (spr false b).length cap) ∧ BytesO w' w.heap.size (.slice sp (spr false b).length cap) (spr false b)) ∧ Only w w' := by
  obtain ⟨sp, cap, rfl, hc⟩ := hb
  have HC := Lib.hid hc
  have il : (b.length : Int) ≤ 4000 := by omega
  clear hc
  have S0 := Lib.hid (show SprAt w w b (.slice none 0 0) false 0 from ⟨[], BytesO.nil _ _, by simp, by simp, Only.refl _⟩)
  go_enter Tryd.func16, Tryd.ntmps16
  go_wp2_with fail
  go_loopw [3, 4, 5, 6] (fun ov bv iv _ wx => ∃ (j : Nat) (bw : Bool), bv = .bool bw ∧ iv = .int .i64 (j : Int) ∧ j ≤ b.length ∧ Hid (SprAt w wx b ov bw j)) (fun _ _ iv _ _ => b.length - (intOf iv).toNat)
  case atStart => exact ⟨0, false, rfl, rfl, Nat.zero_le _, S0.out⟩
  case round =>
    obtain ⟨j, bw, rfl, rfl, hj, HS⟩ := hrel
    have hs := HS.out
    unfold SprAt at hs
    obtain ⟨o, ho, he, hol, ht⟩ := hs
    have HO := Lib.hid ho
    have HE := Lib.hid he
    have HT := Lib.hid ht
    have HOL := Lib.hid hol
    have hsz := ht.size
    obtain ⟨spo, capo, hov⟩ := ho.slice
    subst hov
    clear HS he hol ho
    by_cases hlt : j < b.length
    · have ij : (j : Int) < (b.length : Int) := by omega
      rcases HC.out with h0 | ⟨g, off, rfl, hcell⟩
      · rw [h0] at hlt; simp at hlt
      have c1 := cell_only (hcell j hlt) ht
      have e1 := add_at g off j
      obtain ⟨c, hcc⟩ : ∃ c, c = b[j] := ⟨_, rfl⟩
      have hdr : b.drop j = c :: b.drop (j + 1) := by rw [hcc]; exact List.drop_eq_getElem_cons hlt
      rw [← hcc] at c1
      have HDR := Lib.hid hdr
      have HCL := Lib.hid hcell
      clear hcc hdr hcell ht
      cases bw with
      | true =>
        by_cases h92 : c = 92
        · subst h92
          by_cases hn : j + 1 < b.length
          · have in1 : (j : Int) + 1 < (b.length : Int) := by omega
            obtain ⟨d, hdd⟩ : ∃ d, d = b[j + 1] := ⟨_, rfl⟩
            have d1 := HCL.out (j + 1) hn
            rw [← hdd] at d1
            have DC := Lib.hid d1
            have hdr2 : b.drop (j + 1) = d :: b.drop (j + 2) := by rw [hdd]; exact List.drop_eq_getElem_cons hn
            have HDR2 := Lib.hid hdr2
            have e2 : (⟨g, off, none⟩ : Addr).add (j + 1) = ⟨g, off + (j + 1), none⟩ := add_at _ _ _
            clear hdd hdr2 d1
            go_wp2_with (at_builtin; refine append_byte rfl (.tmp 18) (.tmp 20) rfl [92] rfl rfl (HO.out.only ((Only.refl wr).alloc _)) (one_byte wr rfl) (by have := HOL.out; (try simp at this); simp; omega) (by simp; omega) ?_)
            intro v5 w5 hb5 hbel5 hsz5
            obtain ⟨sp5, cp5, hv5⟩ := hb5.slice
            obtain ⟨n5, hn5⟩ : ∃ n, n = (o ++ [92]).length := ⟨_, rfl⟩
            rw [← hn5] at hv5
            subst hv5
            have HB5 := Lib.hid hb5
            have HT5 := Lib.hid (Below.trans (Only.alloc HT.out _) hbel5 : Only w w5)
            have HOL5 : Hid ((o ++ [92]).length ≤ 5 * (j + 1)) := Lib.hid (by have := HOL.out; simp; omega)
            have hsw5 := HT5.out.size
            clear hb5 hbel5 hsz5 hn5
            have d5 := cell_only DC.out HT5.out
            obtain ⟨o2, ho2⟩ : ∃ o2, o2 = o ++ [92] := ⟨_, rfl⟩
            rw [← ho2] at HB5 HOL5
            have HO2 := Lib.hid ho2
            clear ho2
            go_wp2_with (at_builtin; refine append_byte rfl (.tmp 33) (.tmp 38) rfl [d] rfl rfl (HB5.out.only ((Only.refl w5).alloc _)) (one_byte w5 rfl) (by have := HOL5.out; (try simp at this); simp; omega) (by simp; omega) ?_)
            intro v6 w6 hb6 hbel6 hsz6
            obtain ⟨sp6, cp6, hv6⟩ := hb6.slice
            obtain ⟨n6, hn6⟩ : ∃ n, n = (o2 ++ [d]).length := ⟨_, rfl⟩
            rw [← hn6] at hv6
            subst hv6
            have HB6 := Lib.hid hb6
            have HT6 := Lib.hid (Below.trans (Only.alloc HT5.out _) hbel6 : Only w w6)
            have HOL6 : Hid ((o2 ++ [d]).length ≤ 5 * (j + 2)) := Lib.hid (by have := HOL5.out; simp; omega)
            have hsw6 := HT6.out.size
            clear hb6 hbel6 hsz6 hn6
            go_wp2_with fail
            go_roundw
            case rel => exact ⟨j + 2, true, rfl, by push_cast; first | rfl | (congr 1; omega), by omega, Lib.hid ⟨o2 ++ [d], HB6.out, by rw [HE.out, HDR.out, HDR2.out, spr_esc, HO2.out]; simp, by have := HOL6.out; omega, HT6.out⟩⟩
            case measure => simp [intOf]; omega
          · have in1 : ¬ (j : Int) + 1 < (b.length : Int) := by omega
            have hnil : b.drop (j + 1) = [] := List.drop_eq_nil_of_le (by omega)
            have HNIL := Lib.hid hnil
            clear hnil
            go_wp2_with (at_builtin; refine append_byte rfl (.tmp 18) (.tmp 20) rfl [92] rfl rfl (HO.out.only ((Only.refl wr).alloc _)) (one_byte wr rfl) (by have := HOL.out; (try simp at this); simp; omega) (by simp; omega) ?_)
            intro v5 w5 hb5 hbel5 hsz5
            obtain ⟨sp5, cp5, hv5⟩ := hb5.slice
            obtain ⟨n5, hn5⟩ : ∃ n, n = (o ++ [92]).length := ⟨_, rfl⟩
            rw [← hn5] at hv5
            subst hv5
            have HB5 := Lib.hid hb5
            have HT5 := Lib.hid (Below.trans (Only.alloc HT.out _) hbel5 : Only w w5)
            have HOL5 : Hid ((o ++ [92]).length ≤ 5 * (j + 1)) := Lib.hid (by have := HOL.out; simp; omega)
            have hsw5 := HT5.out.size
            clear hb5 hbel5 hsz5 hn5
            go_wp2_with fail
            go_roundw
            case rel => exact ⟨j + 1, true, rfl, by push_cast; first | rfl | (congr 1; omega), by omega, Lib.hid ⟨o ++ [92], HB5.out, by rw [HE.out, HDR.out, HNIL.out, spr_nil, show spr true [92] = [92] from rfl]; simp, by have := HOL5.out; omega, HT5.out⟩⟩
            case measure => simp [intOf]; omega
        by_cases h34 : c = 34
        · subst h34
          go_wp2_with (at_builtin; refine append_byte rfl (.tmp 18) (.tmp 20) rfl [34] rfl rfl (HO.out.only ((Only.refl wr).alloc _)) (one_byte wr rfl) (by have := HOL.out; (try simp at this); simp; omega) (by simp; omega) ?_)
          intro v5 w5 hb5 hbel5 hsz5
          obtain ⟨sp5, cp5, hv5⟩ := hb5.slice
          obtain ⟨n5, hn5⟩ : ∃ n, n = (o ++ [34]).length := ⟨_, rfl⟩
          rw [← hn5] at hv5
          subst hv5
          have HB5 := Lib.hid hb5
          have HT5 := Lib.hid (Below.trans (Only.alloc HT.out _) hbel5 : Only w w5)
          have HOL5 : Hid ((o ++ [34]).length ≤ 5 * (j + 1)) := Lib.hid (by have := HOL.out; simp; omega)
          have hsw5 := HT5.out.size
          clear hb5 hbel5 hsz5 hn5
          go_wp2_with fail
          go_roundw
          case rel => exact ⟨j + 1, false, rfl, by push_cast; first | rfl | (congr 1; omega), by omega, Lib.hid ⟨o ++ [34], HB5.out, by rw [HE.out, HDR.out, spr_quote]; simp, by have := HOL5.out; omega, HT5.out⟩⟩
          case measure => simp [intOf]; omega
        · have t1 : ((c.toNat : Int) == 92) = false := by rw [beq_eq_false_iff_ne]; intro e; exact h92 (UInt8.toNat_inj.1 (by have : (92 : UInt8).toNat = 92 := rfl; omega))
          have t2 : ((c.toNat : Int) == 34) = false := by rw [beq_eq_false_iff_ne]; intro e; exact h34 (UInt8.toNat_inj.1 (by have : (34 : UInt8).toNat = 34 := rfl; omega))
          go_wp2_with (at_builtin; refine append_byte rfl (.tmp 18) (.tmp 20) rfl [c] rfl rfl (HO.out.only ((Only.refl wr).alloc _)) (one_byte wr rfl) (by have := HOL.out; (try simp at this); simp; omega) (by simp; omega) ?_)
          intro v5 w5 hb5 hbel5 hsz5
          obtain ⟨sp5, cp5, hv5⟩ := hb5.slice
          obtain ⟨n5, hn5⟩ : ∃ n, n = (o ++ [c]).length := ⟨_, rfl⟩
          rw [← hn5] at hv5
          subst hv5
          have HB5 := Lib.hid hb5
          have HT5 := Lib.hid (Below.trans (Only.alloc HT.out _) hbel5 : Only w w5)
          have HOL5 : Hid ((o ++ [c]).length ≤ 5 * (j + 1)) := Lib.hid (by have := HOL.out; simp; omega)
          have hsw5 := HT5.out.size
          clear hb5 hbel5 hsz5 hn5
          go_wp2_with fail
          go_roundw
          case rel => exact ⟨j + 1, true, rfl, by push_cast; first | rfl | (congr 1; omega), by omega, Lib.hid ⟨o ++ [c], HB5.out, by rw [HE.out, HDR.out, spr_in h92 h34]; simp, by have := HOL5.out; omega, HT5.out⟩⟩
          case measure => simp [intOf]; omega
      | false =>
        by_cases h34 : c = 34
        · subst h34
          go_wp2_with (at_builtin; refine append_byte rfl (.tmp 49) (.tmp 51) rfl [34] rfl rfl (HO.out.only ((Only.refl wr).alloc _)) (one_byte wr rfl) (by have := HOL.out; (try simp at this); simp; omega) (by simp; omega) ?_)
          intro v5 w5 hb5 hbel5 hsz5
          obtain ⟨sp5, cp5, hv5⟩ := hb5.slice
          obtain ⟨n5, hn5⟩ : ∃ n, n = (o ++ [34]).length := ⟨_, rfl⟩
          rw [← hn5] at hv5
          subst hv5
          have HB5 := Lib.hid hb5
          have HT5 := Lib.hid (Below.trans (Only.alloc HT.out _) hbel5 : Only w w5)
          have HOL5 : Hid ((o ++ [34]).length ≤ 5 * (j + 1)) := Lib.hid (by have := HOL.out; simp; omega)
          have hsw5 := HT5.out.size
          clear hb5 hbel5 hsz5 hn5
          go_wp2_with fail
          go_roundw
          case rel => exact ⟨j + 1, true, rfl, by push_cast; first | rfl | (congr 1; omega), by omega, Lib.hid ⟨o ++ [34], HB5.out, by rw [HE.out, HDR.out, spr_open]; simp, by have := HOL5.out; omega, HT5.out⟩⟩
          case measure => simp [intOf]; omega
        by_cases hm : markB c = true
        · have hm6 := List.contains_iff_mem.1 hm
          simp only [List.mem_cons, List.not_mem_nil, or_false] at hm6
          clear h34
          rcases hm6 with rfl | rfl | rfl | rfl | rfl | rfl
          · go_wp2_with (at_builtin; refine append_byte rfl (.tmp 60) (.tmp 62) rfl [32, 9, 123, 10, 13] rfl rfl (HO.out.only ((Only.refl wr).alloc _)) (five_bytes wr rfl) (by have := HOL.out; (try simp at this); simp; omega) (by simp; omega) ?_)
            intro v5 w5 hb5 hbel5 hsz5
            obtain ⟨sp5, cp5, hv5⟩ := hb5.slice
            obtain ⟨n5, hn5⟩ : ∃ n, n = (o ++ [32, 9, 123, 10, 13]).length := ⟨_, rfl⟩
            rw [← hn5] at hv5
            subst hv5
            have HB5 := Lib.hid hb5
            have HT5 := Lib.hid (Below.trans (Only.alloc HT.out _) hbel5 : Only w w5)
            have HOL5 : Hid ((o ++ [32, 9, 123, 10, 13]).length ≤ 5 * (j + 1)) := Lib.hid (by have := HOL.out; simp; omega)
            have hsw5 := HT5.out.size
            clear hb5 hbel5 hsz5 hn5
            go_wp2_with fail
            go_roundw
            case rel => exact ⟨j + 1, false, rfl, by push_cast; first | rfl | (congr 1; omega), by omega, Lib.hid ⟨o ++ [32, 9, 123, 10, 13], HB5.out, by rw [HE.out, HDR.out, spr_mark hm]; simp, by have := HOL5.out; omega, HT5.out⟩⟩
            case measure => simp [intOf]; omega
          · go_wp2_with (at_builtin; refine append_byte rfl (.tmp 60) (.tmp 62) rfl [32, 9, 125, 10, 13] rfl rfl (HO.out.only ((Only.refl wr).alloc _)) (five_bytes wr rfl) (by have := HOL.out; (try simp at this); simp; omega) (by simp; omega) ?_)
            intro v5 w5 hb5 hbel5 hsz5
            obtain ⟨sp5, cp5, hv5⟩ := hb5.slice
            obtain ⟨n5, hn5⟩ : ∃ n, n = (o ++ [32, 9, 125, 10, 13]).length := ⟨_, rfl⟩
            rw [← hn5] at hv5
            subst hv5
            have HB5 := Lib.hid hb5
            have HT5 := Lib.hid (Below.trans (Only.alloc HT.out _) hbel5 : Only w w5)
            have HOL5 : Hid ((o ++ [32, 9, 125, 10, 13]).length ≤ 5 * (j + 1)) := Lib.hid (by have := HOL.out; simp; omega)
            have hsw5 := HT5.out.size
            clear hb5 hbel5 hsz5 hn5
            go_wp2_with fail
            go_roundw
            case rel => exact ⟨j + 1, false, rfl, by push_cast; first | rfl | (congr 1; omega), by omega, Lib.hid ⟨o ++ [32, 9, 125, 10, 13], HB5.out, by rw [HE.out, HDR.out, spr_mark hm]; simp, by have := HOL5.out; omega, HT5.out⟩⟩
            case measure => simp [intOf]; omega
          · go_wp2_with (at_builtin; refine append_byte rfl (.tmp 60) (.tmp 62) rfl [32, 9, 91, 10, 13] rfl rfl (HO.out.only ((Only.refl wr).alloc _)) (five_bytes wr rfl) (by have := HOL.out; (try simp at this); simp; omega) (by simp; omega) ?_)
            intro v5 w5 hb5 hbel5 hsz5
            obtain ⟨sp5, cp5, hv5⟩ := hb5.slice
            obtain ⟨n5, hn5⟩ : ∃ n, n = (o ++ [32, 9, 91, 10, 13]).length := ⟨_, rfl⟩
            rw [← hn5] at hv5
            subst hv5
            have HB5 := Lib.hid hb5
            have HT5 := Lib.hid (Below.trans (Only.alloc HT.out _) hbel5 : Only w w5)
            have HOL5 : Hid ((o ++ [32, 9, 91, 10, 13]).length ≤ 5 * (j + 1)) := Lib.hid (by have := HOL.out; simp; omega)
            have hsw5 := HT5.out.size
            clear hb5 hbel5 hsz5 hn5
            go_wp2_with fail
            go_roundw
            case rel => exact ⟨j + 1, false, rfl, by push_cast; first | rfl | (congr 1; omega), by omega, Lib.hid ⟨o ++ [32, 9, 91, 10, 13], HB5.out, by rw [HE.out, HDR.out, spr_mark hm]; simp, by have := HOL5.out; omega, HT5.out⟩⟩
            case measure => simp [intOf]; omega
          · go_wp2_with (at_builtin; refine append_byte rfl (.tmp 60) (.tmp 62) rfl [32, 9, 93, 10, 13] rfl rfl (HO.out.only ((Only.refl wr).alloc _)) (five_bytes wr rfl) (by have := HOL.out; (try simp at this); simp; omega) (by simp; omega) ?_)
            intro v5 w5 hb5 hbel5 hsz5
            obtain ⟨sp5, cp5, hv5⟩ := hb5.slice
            obtain ⟨n5, hn5⟩ : ∃ n, n = (o ++ [32, 9, 93, 10, 13]).length := ⟨_, rfl⟩
            rw [← hn5] at hv5
            subst hv5
            have HB5 := Lib.hid hb5
            have HT5 := Lib.hid (Below.trans (Only.alloc HT.out _) hbel5 : Only w w5)
            have HOL5 : Hid ((o ++ [32, 9, 93, 10, 13]).length ≤ 5 * (j + 1)) := Lib.hid (by have := HOL.out; simp; omega)
            have hsw5 := HT5.out.size
            clear hb5 hbel5 hsz5 hn5
            go_wp2_with fail
            go_roundw
            case rel => exact ⟨j + 1, false, rfl, by push_cast; first | rfl | (congr 1; omega), by omega, Lib.hid ⟨o ++ [32, 9, 93, 10, 13], HB5.out, by rw [HE.out, HDR.out, spr_mark hm]; simp, by have := HOL5.out; omega, HT5.out⟩⟩
            case measure => simp [intOf]; omega
          · go_wp2_with (at_builtin; refine append_byte rfl (.tmp 60) (.tmp 62) rfl [32, 9, 44, 10, 13] rfl rfl (HO.out.only ((Only.refl wr).alloc _)) (five_bytes wr rfl) (by have := HOL.out; (try simp at this); simp; omega) (by simp; omega) ?_)
            intro v5 w5 hb5 hbel5 hsz5
            obtain ⟨sp5, cp5, hv5⟩ := hb5.slice
            obtain ⟨n5, hn5⟩ : ∃ n, n = (o ++ [32, 9, 44, 10, 13]).length := ⟨_, rfl⟩
            rw [← hn5] at hv5
            subst hv5
            have HB5 := Lib.hid hb5
            have HT5 := Lib.hid (Below.trans (Only.alloc HT.out _) hbel5 : Only w w5)
            have HOL5 : Hid ((o ++ [32, 9, 44, 10, 13]).length ≤ 5 * (j + 1)) := Lib.hid (by have := HOL.out; simp; omega)
            have hsw5 := HT5.out.size
            clear hb5 hbel5 hsz5 hn5
            go_wp2_with fail
            go_roundw
            case rel => exact ⟨j + 1, false, rfl, by push_cast; first | rfl | (congr 1; omega), by omega, Lib.hid ⟨o ++ [32, 9, 44, 10, 13], HB5.out, by rw [HE.out, HDR.out, spr_mark hm]; simp, by have := HOL5.out; omega, HT5.out⟩⟩
            case measure => simp [intOf]; omega
          · go_wp2_with (at_builtin; refine append_byte rfl (.tmp 60) (.tmp 62) rfl [32, 9, 58, 10, 13] rfl rfl (HO.out.only ((Only.refl wr).alloc _)) (five_bytes wr rfl) (by have := HOL.out; (try simp at this); simp; omega) (by simp; omega) ?_)
            intro v5 w5 hb5 hbel5 hsz5
            obtain ⟨sp5, cp5, hv5⟩ := hb5.slice
            obtain ⟨n5, hn5⟩ : ∃ n, n = (o ++ [32, 9, 58, 10, 13]).length := ⟨_, rfl⟩
            rw [← hn5] at hv5
            subst hv5
            have HB5 := Lib.hid hb5
            have HT5 := Lib.hid (Below.trans (Only.alloc HT.out _) hbel5 : Only w w5)
            have HOL5 : Hid ((o ++ [32, 9, 58, 10, 13]).length ≤ 5 * (j + 1)) := Lib.hid (by have := HOL.out; simp; omega)
            have hsw5 := HT5.out.size
            clear hb5 hbel5 hsz5 hn5
            go_wp2_with fail
            go_roundw
            case rel => exact ⟨j + 1, false, rfl, by push_cast; first | rfl | (congr 1; omega), by omega, Lib.hid ⟨o ++ [32, 9, 58, 10, 13], HB5.out, by rw [HE.out, HDR.out, spr_mark hm]; simp, by have := HOL5.out; omega, HT5.out⟩⟩
            case measure => simp [intOf]; omega
        · have hm2 : markB c = false := by simpa using hm
          have ne : ∀ x : UInt8, c ≠ x → ((c.toNat : Int) == (x.toNat : Int)) = false := fun x h => by rw [beq_eq_false_iff_ne]; intro e; exact h (UInt8.toNat_inj.1 (by omega))
          have t34 : ((c.toNat : Int) == 34) = false := ne 34 (by rintro rfl; revert h34; decide)
          have t123 : ((c.toNat : Int) == 123) = false := ne 123 (by rintro rfl; revert hm2; decide)
          have t125 : ((c.toNat : Int) == 125) = false := ne 125 (by rintro rfl; revert hm2; decide)
          have t91 : ((c.toNat : Int) == 91) = false := ne 91 (by rintro rfl; revert hm2; decide)
          have t93 : ((c.toNat : Int) == 93) = false := ne 93 (by rintro rfl; revert hm2; decide)
          have t44 : ((c.toNat : Int) == 44) = false := ne 44 (by rintro rfl; revert hm2; decide)
          have t58 : ((c.toNat : Int) == 58) = false := ne 58 (by rintro rfl; revert hm2; decide)
          have HM2 := Lib.hid (And.intro h34 hm2)
          clear ne hm hm2 h34
          go_wp2_with (at_builtin; refine append_byte rfl (.tmp 43) (.tmp 45) rfl [c] rfl rfl (HO.out.only ((Only.refl wr).alloc _)) (one_byte wr rfl) (by have := HOL.out; (try simp at this); simp; omega) (by simp; omega) ?_)
          intro v5 w5 hb5 hbel5 hsz5
          obtain ⟨sp5, cp5, hv5⟩ := hb5.slice
          obtain ⟨n5, hn5⟩ : ∃ n, n = (o ++ [c]).length := ⟨_, rfl⟩
          rw [← hn5] at hv5
          subst hv5
          have HB5 := Lib.hid hb5
          have HT5 := Lib.hid (Below.trans (Only.alloc HT.out _) hbel5 : Only w w5)
          have HOL5 : Hid ((o ++ [c]).length ≤ 5 * (j + 1)) := Lib.hid (by have := HOL.out; simp; omega)
          have hsw5 := HT5.out.size
          clear hb5 hbel5 hsz5 hn5
          go_wp2_with fail
          go_roundw
          case rel => exact ⟨j + 1, false, rfl, by push_cast; first | rfl | (congr 1; omega), by omega, Lib.hid ⟨o ++ [c], HB5.out, by rw [HE.out, HDR.out, spr_out HM2.out.1 HM2.out.2]; simp, by have := HOL5.out; omega, HT5.out⟩⟩
          case measure => simp [intOf]; omega
    · have ij : ¬ (j : Int) < (b.length : Int) := by omega
      have hje : j = b.length := by omega
      have hfin : spr false b = o := by
        have h := HE.out
        rw [hje, List.drop_length, spr_nil, List.append_nil] at h
        exact h
      have HF := Lib.hid hfin
      clear hfin ht hje
      go_wp2_with fail
      go_ret
      refine ⟨⟨spo, capo, ?_, ?_⟩, HT.out⟩
      · rw [HF.out]; rfl
      · rw [HF.out]; exact HO.out
end Go.Proofs.YtdhkpkojnokjdaaDoor
