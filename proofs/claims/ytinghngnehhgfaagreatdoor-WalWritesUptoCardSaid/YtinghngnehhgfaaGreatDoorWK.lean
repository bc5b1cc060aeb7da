/-
  PARTS: WRef, WRef2.
-/
import Derived.Test.YtinghngnehhgfaaGreatDoorWC
/-
  The document's own sum (exref2).
-/
namespace Go.Proofs.YtinghngnehhgfaaGreatDoor
open Go.RowKit Go.Maps Go.WideMaps

section
variable {w w' : World}

/-- so many single steps -/
def bitsN : Nat → Nat → Nat
  | 0, s => s
  | k + 1, s => Walp.bitS (bitsN k s)

theorem bitsN_lt (k : Nat) {s : Nat} (h : s < 4294967296) : bitsN k s < 4294967296 := by
  induction k with
  | zero => exact h
  | succ k ih => exact Walp.bitS_lt ih

theorem bitsN_8 (s : Nat) : bitsN 8 s = Walp.half (Walp.half s) := by
  rw [Walp.half_eq, Walp.half_eq]; rfl

set_option maxRecDepth 100000 in
set_option maxHeartbeats 1000000 in
theorem refSum_any {v : Value} {b : List UInt8} (hb : SliceR w v b) (hl : b.length ≤ 1073741824) : Calls Tryz.prog 31 #[v] w fun r w' => r = .returned (.int .u32 (Walp.sum b : Nat)) ∧ w = w' := by
  obtain ⟨sp, cap, rfl, hc⟩ := hb
  have HC := Lib.hid hc
  clear hc
  go_enter Tryz.func31, Tryz.ntmps31
  go_wp2_with fail
  go_loop [3, 4] (fun c i => ∃ k : Nat, k ≤ b.length ∧ i = .int .i64 k ∧ c = .int .u32 (Walp.run (b.take k) : Nat)) (fun _ i => b.length - (intOf i).toNat)
  case atStart => exact ⟨0, Nat.zero_le _, rfl, rfl⟩
  case round =>
    obtain ⟨k, hk, rfl, rfl⟩ := hrel
    by_cases hlt : k < b.length
    · obtain ⟨ad, e1, x1⟩ := HC.out (by omega)
      subst e1
      have cx := x1 k b[k] (List.getElem?_eq_getElem hlt)
      have i0 : (0 : Int) ≤ (k : Int) := by omega
      have i1 : (k : Int) < (b.length : Int) := by omega
      have hrun := Walp.run_lt (b.take k)
      have hsn : Walp.run (b.take (k + 1)) = Walp.byteS (Walp.run (b.take k)) b[k] := by
        rw [List.take_succ_eq_append_getElem hlt, Walp.run_snoc]
      have HS := Lib.hid hsn
      clear hsn x1
      obtain ⟨s, hs⟩ : ∃ s, s = Walp.run (b.take k) := ⟨_, rfl⟩
      obtain ⟨y, hy⟩ : ∃ y, y = b[k] := ⟨_, rfl⟩
      rw [← hs] at hrun HS ⊢
      rw [← hy] at cx HS
      have hyl := y.toNat_lt
      obtain ⟨z, hz⟩ : ∃ x, x = s ^^^ y.toNat := ⟨_, rfl⟩
      have hzl : z < 4294967296 := by rw [hz]; exact Walp.byte_xor_lt hrun y
      have e1 : bits .xor .u32 (s : Int) (y.toNat : Int) = (z : Int) := by rw [hz]; exact xor_u32 _ _ hrun (by omega)
      have HX : Hid (bitsN 8 z = Walp.byteS s y) := by rw [bitsN_8, hz]; exact Lib.hid rfl
      clear hz hs hy
      unfold byteV at cx
      go_wp2_with fail
      go_loop [3, 5] (fun c i => ∃ j : Nat, j ≤ 8 ∧ i = .int .i64 j ∧ c = .int .u32 (bitsN j z : Nat)) (fun _ i => 8 - (intOf i).toNat)
      case atStart => exact ⟨0, Nat.zero_le _, rfl, rfl⟩
      case round =>
        obtain ⟨j, hj, rfl, rfl⟩ := hrel
        have hxl := bitsN_lt j hzl
        have hst : bitsN (j + 1) z = Walp.bitS (bitsN j z) := rfl
        by_cases hj8 : j < 8
        · have HST := Lib.hid hst
          obtain ⟨x, hx⟩ : ∃ x, x = bitsN j z := ⟨_, rfl⟩
          rw [← hx] at hxl HST ⊢
          obtain ⟨q, hq⟩ : ∃ q, q = x / 2 := ⟨_, rfl⟩
          have q1 : (x : Int) / 2 = (q : Int) := by omega
          have q2 : (x : Int).tdiv 2 = (q : Int) := by rw [Int.tdiv_eq_ediv_of_nonneg (by omega)]; omega
          have ql : q < 4294967296 := by omega
          by_cases hlow : x % 2 = 1
          · have l1 : ((x : Int) % 2 == 1) = true := by rw [beq_iff_eq]; omega
            have l2 : ((x : Int).tmod 2 == 1) = true := by rw [beq_iff_eq, Int.tmod_eq_emod_of_nonneg (by omega)]; omega
            obtain ⟨n, hn⟩ : ∃ n, n = q ^^^ 3988292384 := ⟨_, rfl⟩
            have e3 : bits .xor .u32 (q : Int) 3988292384 = (n : Int) := by rw [hn]; exact xor_u32 _ 3988292384 ql (by decide)
            have HB : Hid (Walp.bitS x = n) := by unfold Walp.bitS; rw [if_pos hlow, ← hq, ← hn]; exact Lib.hid rfl
            clear hst hx hq hlow hn
            go_wp2
            go_round
            case rel => exact ⟨j + 1, by omega, by go_num, by rw [HST.out, HB.out]⟩
            case measure => simp [intOf]; omega
          · have l1 : ((x : Int) % 2 == 1) = false := by rw [beq_eq_false_iff_ne]; omega
            have l2 : ((x : Int).tmod 2 == 1) = false := by rw [beq_eq_false_iff_ne, Int.tmod_eq_emod_of_nonneg (by omega)]; omega
            have HB : Hid (Walp.bitS x = q) := by unfold Walp.bitS; rw [if_neg hlow, ← hq]; exact Lib.hid rfl
            clear hst hx hq hlow
            go_wp2
            go_round
            case rel => exact ⟨j + 1, by omega, by go_num, by rw [HST.out, HB.out]⟩
            case measure => simp [intOf]; omega
        · have hj0 : j = 8 := by omega
          subst hj0
          rw [HX.out] at hxl ⊢
          rw [← HS.out] at hxl ⊢
          clear hst
          go_wp2
          go_round
          case rel => exact ⟨k + 1, by omega, by go_num, rfl⟩
          case measure => simp [intOf]; omega
    · have hk0 : k = b.length := by omega
      subst hk0
      have hrun := Walp.run_lt (b.take b.length)
      have e1 := not_u32 _ hrun
      rw [List.take_length] at e1 ⊢
      clear hrun
      have HE := Lib.hid e1
      clear e1
      go_wp2
      go_ret
      exact ⟨ret_int HE.out, rfl⟩

theorem num_drop {b : List UInt8} {k : Nat} (h : k < b.length) : Walp.num (b.drop k) = b[k].toNat + 256 * Walp.num (b.drop (k + 1)) := by
  rw [List.drop_eq_getElem_cons h]; rfl



end
end Go.Proofs.YtinghngnehhgfaaGreatDoor

/-
  The document's own bytes (exref2's Low, Frame).
-/
namespace Go.Proofs.YtinghngnehhgfaaGreatDoor
open Go.RowKit Go.Maps Go.WideMaps

section
variable {w w' : World}

theorem low_byte (x k : Nat) {v : Int} (h : ((x / 256 ^ k % 256 : Nat) : Int) = v) : byteV (UInt8.ofNat (x / 256 ^ k)) = .int .u8 v := by
  rw [byteV_ofNat, h]

theorem low_div (x k : Nat) : x / 256 ^ k / 256 = x / 256 ^ (k + 1) := by
  rw [Nat.div_div_eq_div_mul, Nat.pow_succ]

set_option maxRecDepth 100000 in
set_option maxHeartbeats 1000000 in
theorem low_any (x : Nat) (hx : x ≤ 4611686018427387904) (w : World) : Calls Tryz.prog 30 #[.int .i64 (x : Int), .int .i64 4] w fun r w' => ∃ sp cap, r = .returned (.slice sp 4 cap) ∧ w'.ownsRow w.heap.size 5 1 (.slice sp 4 cap) 4 ((Walp.le4 x).map byteV) ∧ Turn (fun _ => False) w w' := by
  obtain ⟨i0, hi, hz0, hz1, hz2⟩ := info_parts Tryz.infoU8
  go_enter Tryz.func30, Tryz.ntmps30
  go_wp2_with fail
  go_loopw [0, 5, 6] (fun n out i wr => ∃ (k y : Nat), k ≤ 4 ∧ i = .int .i64 k ∧ n = .int .i64 y ∧ y = x / 256 ^ k ∧ wr.ownsRow w.heap.size 5 1 out k ((Walp.le x k).map byteV) ∧ Turn (fun _ => False) w wr) (fun _ _ i _ => 4 - (intOf i).toNat)
  case atStart => exact ⟨0, x, Nat.zero_le _, rfl, rfl, by simp, World.ownsRow_nil _ _ _ _, Turn.refl _ _⟩
  case round =>
    obtain ⟨k, y, hk, rfl, rfl, hy, hrow, ht⟩ := hrel
    have hyx : y ≤ 4611686018427387904 := by
      rw [hy]; exact Nat.le_trans (Nat.div_le_self _ _) hx
    have HY := Lib.hid hy
    have HR := Lib.hid hrow
    have HT := Lib.hid ht
    have hsz := ht.size
    have HS := Lib.hid hsz
    clear hy hrow ht hsz
    by_cases hlt : k < 4
    · have i1 : (k : Int) < 4 := by omega
      obtain ⟨b, hb⟩ : ∃ b, b = UInt8.ofNat y := ⟨_, rfl⟩
      have hbv : ((y % 256 : Nat) : Int) = (b.toNat : Int) := by rw [hb, UInt8.toNat_ofNat']
      obtain ⟨q, hq⟩ : ∃ q, q = y / 256 := ⟨_, rfl⟩
      have q1 : (y : Int) / 256 = (q : Int) := by omega
      have q2 : (y : Int).tdiv 256 = (q : Int) := by rw [Int.tdiv_eq_ediv_of_nonneg (by omega)]; omega
      have hql : q ≤ 4611686018427387904 := by omega
      have HQ := Lib.hid hq
      have HB := Lib.hid hb
      have HV := Lib.hid hbv
      have v1 : (y : Int) % 256 = (b.toNat : Int) := by omega
      clear hq hb hbv hlt
      go_wp2_with (at_builtin; refine wpList_append_own _ rfl _ _ 33 rfl w.heap.size 5 i0 (.int .u8 0) 1 1 Tryz.underlying33 hi hz0 hz1 hz2 rfl (by decide) _ _ _ rfl (HR.out.alloc _) ⟨wr.heap.size, 0, none⟩ 1 1 [.int .u8 (b.toNat : Int)] rfl rfl (cell_one_new _ _ _) (by simp [Value.oneCell']) (by unfold maxLen; omega) (by omega) (by have := HS.out; simp; omega) ?_; intro v' w3 hown' hg3 hnil3; go_frame)
      go_roundw
      case rel =>
        refine ⟨k + 1, q, by omega, by go_num, rfl, by rw [HQ.out, HY.out, low_div], ?_, ?_⟩
        · have e : (Walp.le x (k + 1)).map byteV = (Walp.le x k).map byteV ++ [.int .u8 (b.toNat : Int)] := by
            rw [le_snoc, List.map_append, List.map_cons, List.map_nil, ← HY.out, ← HB.out]
          rw [e]; exact hown'
        · exact (HT.out.alloc _).grown hg3 (fun j hj => Or.inr (HR.out.lt j hj).1)
      case measure => simp [intOf]; omega
    · have hk0 : k = 4 := by omega
      subst hk0
      obtain ⟨sp, cap, e1, _⟩ := own_slice HR.out
      subst e1
      go_wp2
      go_ret
      exact ⟨sp, cap, rfl, HR.out, HT.out⟩

/-- an own row, read as bytes -/
theorem own_sliceB {base n : Nat} {v : Value} {l : List UInt8} (h : w.ownsRow base 5 1 v n (l.map byteV)) (hn : l.length = n) : SliceB w v l := by
  subst hn
  obtain ⟨sp, cap, hv, _, _, h0⟩ := own_slice h
  cases sp with
  | none =>
    obtain ⟨h1, h2⟩ := h0 rfl
    exact Or.inl ⟨by rw [hv, h1, h2], List.length_eq_zero_iff.1 h1⟩
  | some ad =>
    refine Or.inr ⟨ad, cap, hv, fun j x hj => ?_⟩
    obtain ⟨sp', cap', hv', hc⟩ := SliceR.of_own h
    rw [hv] at hv'
    simp only [Value.slice.injEq] at hv'
    obtain ⟨rfl, _, rfl⟩ := hv'
    obtain ⟨ad', e, hx⟩ := hc (by have := (List.getElem?_eq_some_iff.1 hj).1; omega)
    cases e
    exact hx j x hj

set_option maxRecDepth 100000 in
set_option maxHeartbeats 1000000 in
theorem refFrame_any {u : Value} {b : List UInt8} (h : SliceR w u b) (hb : SliceB w u b) (hl : b.length ≤ 1073741824) :
    Calls Tryz.prog 11 #[u] w fun r w' => ∃ sp cap, r = .returned (.slice sp (Walp.frame b).length cap) ∧ w'.ownsRow w.heap.size 5 1 (.slice sp (Walp.frame b).length cap) (Walp.frame b).length ((Walp.frame b).map byteV) ∧ Turn (fun _ => False) w w' := by
  have hR := h
  obtain ⟨sp, cap, rfl, _⟩ := h
  have HR := Lib.hid hR
  have HB := Lib.hid hb
  clear hR hb
  have hsum := Walp.sum_lt b
  go_enter Tryz.func11, Tryz.ntmps11
  go_wp2_with fail
  go_at_call 30
  refine (low_any b.length (by omega) _).mono ?_
  rintro r w2 ⟨sp2, cap2, rfl, hown2, t2⟩
  have O2 := Lib.hid hown2
  have T2 := Lib.hid t2
  clear hown2 t2
  go_wp2_with fail
  go_at_call 31
  refine (refSum_any (HR.out.turned T2.out) hl).mono ?_
  rintro r w' ⟨rfl, rfl⟩
  go_wp2_with fail
  go_at_call 30
  refine (low_any (Walp.sum b) (by omega) _).mono ?_
  rintro r w3 ⟨sp3, cap3, rfl, hown3, t3⟩
  have hb2 : w3.ownsRow w.heap.size 5 1 (.slice sp2 4 cap2) (Walp.le4 b.length).length ((Walp.le4 b.length).map byteV) := by
    rw [Walp.le_length]; exact ownsRow_turned O2.out t3 (fun _ _ q => q)
  have hb3 : SliceB w3 (.slice sp3 4 cap3) (Walp.le4 (Walp.sum b)) := own_sliceB hown3 (Walp.le_length _ _)
  have B2 := Lib.hid hb2
  have B3 := Lib.hid hb3
  have T3 := Lib.hid (T2.out.trans t3 (fun _ _ q => q))
  have hsz := T3.out.size
  have HS := Lib.hid hsz
  clear hb2 hb3 hown3 t3 hsz O2 T2
  go_wp2_with (at_builtin; refine append_bytes rfl (.tmp 6) (.tmp 10) rfl (base := w.heap.size) rfl rfl B2.out B3.out (by rw [Walp.le_length, Walp.le_length]; omega) HS.out ?_)
  intro sp4 cap4 w4 hown4 ht4
  have hLL : (Walp.le4 b.length ++ Walp.le4 (Walp.sum b)).length = 8 := by simp [Walp.le_length]
  have hLF : Walp.le4 b.length ++ Walp.le4 (Walp.sum b) ++ b = Walp.frame b := by unfold Walp.frame; rw [List.append_assoc]
  have e8 : (Walp.le4 b.length).length + (Walp.le4 (Walp.sum b)).length = 8 := by rw [Walp.le_length, Walp.le_length]
  have hown4' : w4.ownsRow w.heap.size 5 1 (.slice sp4 8 cap4) (Walp.le4 b.length ++ Walp.le4 (Walp.sum b)).length ((Walp.le4 b.length ++ Walp.le4 (Walp.sum b)).map byteV) := by
    rw [hLL, List.map_append, ← e8]; exact hown4
  rw [e8]
  clear hown4 e8
  generalize Walp.le4 b.length ++ Walp.le4 (Walp.sum b) = L at hown4' hLL hLF
  have HLL := Lib.hid hLL
  have HLF := Lib.hid hLF
  have O4 := Lib.hid hown4'
  have hq : ∀ i, i < w.heap.size → (Value.slice sp2 4 cap2).ownBlock = some i → False := fun i hi e => by
    have := (B2.out.lt i e).1; omega
  have T4 := Lib.hid (T3.out.trans ht4 hq)
  have hb4 := HB.out.later T4.out
  have HB4 := Lib.hid hb4
  have hsz := T4.out.size
  have HS4 := Lib.hid hsz
  have hfl := Walp.frame_length b
  have HFL := Lib.hid hfl
  clear hown4' ht4 hq hb4 hsz hLL hLF hfl
  go_wp2_with (at_builtin; refine append_bytes rfl (.tmp 12) (.tmp 13) rfl (base := w.heap.size) rfl rfl O4.out HB4.out (by have := HLL.out; omega) HS4.out ?_)
  intro sp5 cap5 w5 hown5 ht5
  have hown5' : w5.ownsRow w.heap.size 5 1 (.slice sp5 (L.length + b.length) cap5) (L.length + b.length) ((L ++ b).map byteV) := by rw [List.map_append]; exact hown5
  rw [HLL.out, HLF.out] at hown5'
  rw [HLL.out]
  have hq : ∀ i, i < w.heap.size → (Value.slice sp4 8 cap4).ownBlock = some i → False := fun i hi e => by
    have := (O4.out.lt i e).1; omega
  have T5 := Lib.hid (T4.out.trans ht5 hq)
  have O5 := Lib.hid hown5'
  clear hown5 hown5' ht5 hq
  go_wp2
  go_ret
  exact ⟨sp5, cap5, by rw [HFL.out]; rfl, by rw [HFL.out]; exact O5.out, T5.out⟩

end
end Go.Proofs.YtinghngnehhgfaaGreatDoor
