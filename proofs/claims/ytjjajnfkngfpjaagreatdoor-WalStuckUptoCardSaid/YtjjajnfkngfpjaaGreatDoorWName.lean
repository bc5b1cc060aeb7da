/-
  Itoa, Repeat off the shelf; SegmentName; segmentNumber.
-/
import Derived.Test.YtjjajnfkngfpjaaGreatDoorWBase
import Derived.Test.YtjjajnfkngfpjaaGreatDoorWNames
import Derived.Shelf.Lay
import Derived.Shelf.Strconv.Itoa3
import Derived.Shelf.Strings.Repeat
namespace Go.Proofs
open Go.Shelf
shelf_lay LaysM.n171 Nm 171 at Tryz as Tryz.laysM171
shelf_lay Lays.n105 Nm 105 at Tryz as Tryz.lays105
theorem Tryz.builderExtra105 : Builder.Extra Tryz.prog Tryz.lays105_ren where
  sizeBuilder := by kernel_rfl
  liesBuilder := by kernel_rfl
  t5 := Tryz.underlying5
  a5 := Tryz.isAgg5
  z5 := Tryz.sizeOf5
  v5 := Tryz.zeroValue5
  infoByte := by kernel_rfl
  cellsByte := by kernel_rfl
  sizeByte := by kernel_rfl
  neB5 := by decide
end Go.Proofs
namespace Go.Proofs.YtjjajnfkngfpjaaGreatDoor
open Go.RowKit Go.Maps Go.WideMaps

section
variable {w w' : World} {p : Nat} {S S' : Fsp.Fs} {c c' : Bool} {Q : Nat → Prop} {mo : Option Nat} {pl : List UInt8 → Pl}

/-- a text of these bytes -/
abbrev txt (l : List UInt8) : ByteArray := ⟨l.toArray⟩
theorem txt_list (l : List UInt8) : (txt l).data.toList = l := rfl
theorem txt_data (s : ByteArray) : txt s.data.toList = s := rfl

theorem itoa_any (n : Nat) (hn : n < 100) (t : ByteArray) (ht : t = txt (Lib.decDigits n)) (w : World) : Calls Tryz.prog 61 #[.int .i64 n] w fun r w' => r = .returned (.string t) ∧ Turn (fun _ => False) w w' :=
  (Any.strconv_Itoa_small { Tryz.laysM171 with } n hn w).mono fun r w' h => ⟨by rw [h.1, ht], by rw [h.2]; exact Turn.refl _ _⟩

theorem repeat_one (k : Nat) : Lib.repeatL [48] k = List.replicate k 48 := by
  induction k with
  | zero => rfl
  | succ k ih => rw [List.replicate_succ, Lib.repeatL, ih]; rfl

theorem repeat_any (k : Nat) (hk : k ≤ 8) (t : ByteArray) (ht : t = txt (List.replicate k 48)) (w : World) : Calls Tryz.prog 62 #[.string ⟨#[48]⟩, .int .i64 k] w fun r w' => r = .returned (.string t) ∧ Turn (fun _ => False) w w' :=
  (Any.strings_Repeat Tryz.lays105 Tryz.builderExtra105 ⟨#[48]⟩ k w (by omega) (by show 1 * k ≤ _; omega)).mono fun r w' h => ⟨by rw [h.1, ht, show (⟨#[48]⟩ : ByteArray).data.toList = [48] from rfl, repeat_one], Below.turn h.2 _⟩

/-- the name of a segment -/
def segName (s : ByteArray) (n : Nat) : ByteArray := txt (Walp.seg s.data.toList n)
theorem segName_list (s : ByteArray) (n : Nat) : (segName s n).data.toList = Walp.seg s.data.toList n := rfl

set_option maxRecDepth 100000 in
set_option maxHeartbeats 1000000 in
theorem name_core (s : ByteArray) (hs : s.size ≤ 1000) (n : Nat) (h1 : 1 ≤ n) (h2 : n < 100000000) (w : World)
    (hI : ∀ t, t = txt (Lib.decDigits n) → Calls Tryz.prog 61 #[.int .i64 n] w fun r w' => r = .returned (.string t) ∧ Turn (fun _ => False) w w') :
    Calls Tryz.prog 29 #[.string s, .int .i64 n] w fun r w' => r = .returned (.string (segName s n)) ∧ Turn (fun _ => False) w w' := by
  obtain ⟨hd, hk⟩ := Walp.dig_dec 8 n (by omega) (by decide)
  obtain ⟨t, ht⟩ : ∃ t, t = txt (Lib.decDigits n) := ⟨_, rfl⟩
  have hsz : t.size = (Lib.decDigits n).length := by rw [ht]; simp [txt, Lib.size_eq]
  obtain ⟨k, hkk⟩ : ∃ k, k = 8 - t.size := ⟨_, rfl⟩
  have e8 : (8 : Int) - (t.size : Int) = (k : Int) := by omega
  obtain ⟨u, hu⟩ : ∃ u, u = txt (List.replicate k 48) := ⟨_, rfl⟩
  have i1 : (1 : Int) ≤ (n : Int) := by omega
  have i2 : (n : Int) ≤ 99999999 := by omega
  have HT := Lib.hid ht
  have HI := Lib.hid hI
  have HU := Lib.hid hu
  have hfin : s ++ (⟨#[47]⟩ : ByteArray) ++ u ++ t = segName s n := by
    apply ByteArray.ext
    apply Array.ext'
    rw [ByteArray.data_append, ByteArray.data_append, ByteArray.data_append, Array.toList_append, Array.toList_append, Array.toList_append, hu, ht, hkk, hsz]
    show _ = Walp.seg s.data.toList n
    unfold Walp.seg
    rw [hd]
    simp
  have hus : u.size = k := by rw [hu]; simp [txt, Lib.size_eq]
  have b1 : ¬ 9223372036854775807 < s.size + 1 + u.size := by omega
  have b2 : ¬ 9223372036854775807 < s.size + 1 + u.size + t.size := by omega
  have HF := Lib.hid hfin
  have i3 : (t.size : Int) ≤ 8 := by omega
  have i4 : (n : Int) ≤ 99999999 := by omega
  clear hI ht hu hd hk hsz hkk hfin hus
  go_enter Tryz.func29, Tryz.ntmps29
  go_wp2_with (first | (go_at_call 61; refine (HI.out t HT.out).mono ?_; rintro r w1 ⟨rfl, t1⟩) | (go_at_call 62; refine (repeat_any k (by omega) u HU.out _).mono ?_; rintro r w2 ⟨rfl, t2⟩))
  go_ret
  exact ⟨by rw [HF.out]; rfl, t1.trans t2 (fun _ _ q => q)⟩

theorem name_any (s : ByteArray) (hs : s.size ≤ 1000) (n : Nat) (h1 : 1 ≤ n) (h2 : n < 100) (w : World) :
    Calls Tryz.prog 29 #[.string s, .int .i64 n] w fun r w' => r = .returned (.string (segName s n)) ∧ Turn (fun _ => False) w w' :=
  name_core s hs n h1 (by omega) w fun t ht => itoa_any n h2 t ht w

theorem grow_turn (w : World) (k : Nat) (os : Array Obj) (Q : Nat → Prop) : Turn Q w (Go.Sort.grow (w.drewN k) os) :=
  ⟨rfl, rfl, rfl, by simp [Go.Sort.grow, World.drewN], fun i hi _ => by simp [Go.Sort.grow, World.drewN, Array.getElem?_append, hi]⟩

/-- any number's name, where the library's table lies -/
theorem name_tab (s : ByteArray) (hs : s.size ≤ 1000) (n : Nat) (h1 : 1 ≤ n) (h2 : n < 100000000) (w : World) (htab : Lib.TabIs Tryz.prog w "internal/strconv.uint64pow10" .u64 Lib.pow10Tab) :
    Calls Tryz.prog 29 #[.string s, .int .i64 n] w fun r w' => r = .returned (.string (segName s n)) ∧ Turn (fun _ => False) w w' :=
  name_core s hs n h1 h2 w fun t ht => (Any.strconv_Itoa Tryz.laysM171 n (by omega) (by omega) w htab).mono fun r w' h => ⟨by
      rw [h.1, ht]
      have : Lib.itoa (n : Int) = Lib.decDigits n := by unfold Lib.itoa; rw [if_neg (by omega), Int.toNat_natCast]
      rw [this], by obtain ⟨k, os, e⟩ := h.2; rw [e]; exact grow_turn w k os _⟩

theorem isDig_int (c : UInt8) : Walp.isDig c = true ↔ 48 ≤ (c.toNat : Int) ∧ (c.toNat : Int) ≤ 57 := by
  rw [Walp.isDig_iff]; omega

theorem val_take {l : List UInt8} {k : Nat} (h : k < l.length) : Walp.val (l.take (k + 1)) = Walp.val (l.take k) * 10 + (l[k].toNat - 48) := by
  rw [List.take_succ_eq_append_getElem h, Walp.val_snoc]

set_option maxRecDepth 100000 in
set_option maxHeartbeats 1000000 in
theorem number_any (s : ByteArray) (w : World) : Calls Tryz.prog 71 #[.string s] w fun r w' => r = .returned (.int .i64 (Walp.segNum s.data.toList : Nat)) ∧ w = w' := by
  have hl : s.data.toList.length = s.size := (Lib.size_eq s).symm
  by_cases h8 : s.size = 8
  · have b1 : ((s.size : Int) != 8) = false := by rw [h8]; rfl
    go_enter Tryz.func71, Tryz.ntmps71
    have H8 := Lib.hid h8
    have HL := Lib.hid hl
    clear h8 hl
    go_wp2_with fail
    go_loop [3, 9] (fun n i => ∃ k : Nat, k ≤ 8 ∧ i = .int .i64 k ∧ (s.data.toList.take k).all Walp.isDig = true ∧ n = .int .i64 (Walp.val (s.data.toList.take k) : Nat)) (fun _ i => 8 - (intOf i).toNat)
    case atStart => exact ⟨0, by omega, rfl, rfl, rfl⟩
    case round =>
      obtain ⟨k, hk, rfl, hall, rfl⟩ := hrel
      by_cases hlt : k < 8
      · have hks : k < s.size := by have := H8.out; omega
        have hkl : k < s.data.toList.length := by have := HL.out; omega
        have hv := (Walp.dig_val hall).2
        rw [List.length_take] at hv
        have hv2 : Walp.val (s.data.toList.take k) < 10 ^ 8 := Nat.lt_of_lt_of_le hv (Nat.pow_le_pow_right (by decide) (by omega))
        have hvt := val_take hkl
        have e : s.data.toList[k] = s[k] := rfl
        rw [e] at hvt
        have i0 : (0 : Int) ≤ (k : Int) := by omega
        have i1 : (k : Int) < (s.size : Int) := by omega
        have HA := Lib.hid hall
        clear hall hv
        have hc := s[k].toNat_lt
        cases hd : Walp.isDig s[k] with
        | true =>
          have hdd := (isDig_int _).1 hd
          have hall' : (s.data.toList.take (k + 1)).all Walp.isDig = true := by
            rw [List.take_succ_eq_append_getElem hkl, List.all_append, HA.out]
            simp only [List.all_cons, List.all_nil, Bool.and_true, Bool.true_and]
            exact hd
          have HV := Lib.hid hvt
          have HA' := Lib.hid hall'
          obtain ⟨d1, d2⟩ := hdd
          clear hvt hall' hd e
          generalize Walp.val (s.data.toList.take k) = x at *
          go_wp2
          go_round
          case rel => exact ⟨k + 1, by omega, by go_num, HA'.out, by rw [HV.out]; congr 1; omega⟩
          case measure => simp [intOf]; omega
        | false =>
          have hz : Walp.segNum s.data.toList = 0 := by
            unfold Walp.segNum
            rw [if_neg]
            rintro ⟨_, h2⟩
            rw [List.all_eq_true] at h2
            have := h2 s.data.toList[k] (List.getElem_mem hkl)
            rw [e, hd] at this; cases this
          have hdd : (s[k].toNat : Int) < 48 ∨ 57 < (s[k].toNat : Int) := by
            have h1 := (isDig_int s[k])
            rw [hd] at h1
            have h2 : ¬ (48 ≤ (s[k].toNat : Int) ∧ (s[k].toNat : Int) ≤ 57) := fun q => by have := h1.2 q; cases this
            omega
          have HZ := Lib.hid hz
          clear hvt hd e hz
          rcases hdd with d1 | d1
          all_goals
            go_wp2
            go_ret
            exact ⟨ret_int (by rw [HZ.out]; rfl), rfl⟩
      · have hk0 : k = 8 := by omega
        subst hk0
        have hz : Walp.segNum s.data.toList = Walp.val (s.data.toList.take 8) := by
          have h8l : s.data.toList.length = 8 := by have := HL.out; have := H8.out; omega
          rw [List.take_of_length_le (by omega)] at hall ⊢
          unfold Walp.segNum
          rw [if_pos ⟨h8l, hall⟩]
        have HZ := Lib.hid hz
        clear hz hall
        go_wp2
        go_ret
        exact ⟨ret_int (by rw [HZ.out]), rfl⟩
  · have b1 : ((s.size : Int) != 8) = true := by rw [bne_iff_ne]; omega
    have hz : Walp.segNum s.data.toList = 0 := by
      unfold Walp.segNum
      rw [if_neg]
      rintro ⟨h1, _⟩; omega
    rw [hz]
    go_enter Tryz.func71, Tryz.ntmps71
    go_wp2
    go_ret
    exact ⟨rfl, rfl⟩

end
end Go.Proofs.YtjjajnfkngfpjaaGreatDoor
