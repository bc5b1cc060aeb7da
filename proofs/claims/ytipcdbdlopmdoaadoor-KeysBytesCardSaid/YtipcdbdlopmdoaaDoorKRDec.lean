/-
  The document's Decode, of any key of at most 2000 bytes.
-/
import Derived.Test.YtipcdbdlopmdoaaDoorKREnc
import Derived.Test.YtipcdbdlopmdoaaDoorKTake
namespace Go.Proofs.YtipcdbdlopmdoaaDoor
open Go.RowKit Go.Maps Go.WideMaps Go.Shelf
set_option linter.unusedVariables false
set_option linter.unusedSimpArgs false

/-- parts read so far, and what is behind them -/
def decA (acc : List KP) (r : List UInt8) : Option (List KP) := (decL r.length r).map (acc ++ ·)
theorem decA_nil (acc : List KP) : decA acc [] = some acc := by simp [decA, decL]
theorem decA_none {acc : List KP} {b : UInt8} {r : List UInt8} (h : takeE (b :: r) = none) : decA acc (b :: r) = none := by
  have : decL (b :: r).length (b :: r) = (takeE (b :: r)).bind fun x => (decL r.length x.2).map (x.1 :: ·) := rfl
  unfold decA
  rw [this, h]; rfl
theorem decA_some {acc : List KP} {b : UInt8} {r : List UInt8} {x : KP × List UInt8} (h : takeE (b :: r) = some x) : decA acc (b :: r) = decA (acc ++ [x.1]) x.2 := by
  have e : decL (b :: r).length (b :: r) = (takeE (b :: r)).bind fun x => (decL r.length x.2).map (x.1 :: ·) := rfl
  have hs := takeE_shorter h
  simp only [List.length_cons] at hs
  unfold decA
  rw [e, h, Option.bind_some, decL_fuel r.length x.2 (by omega) x.2.length (Nat.le_refl _)]
  cases decL x.2.length x.2 with
  | none => rfl
  | some m => simp [List.append_assoc]

theorem mem_le : ∀ (l : List KP), (∀ p ∈ l, p.kind = 1 → p.s = []) → ∀ p ∈ l, p.s.length ≤ (encL l).length
  | [], _, p, hp => by simp at hp
  | q :: l, h, p, hp => by
    rw [encL, List.length_append]
    rcases List.mem_cons.1 hp with rfl | hp
    · by_cases e : p.kind = 1
      · rw [h p (by simp) e]; simp
      · have h0 : (encP p).length = (esc p.s).length + 3 := by simp [encP, bodyP, e]
        have := esc_length p.s
        omega
    · have := mem_le l (fun x hx => h x (by simp [hx])) p hp
      omega

/-- what a key's parts keep -/
theorem decA_all {L : List UInt8} {l : List KP} (h : decA [] L = some l) (hL : L.length ≤ 2000) : encL l = L ∧ l.all kindOk = true ∧ (∀ p ∈ l, ROk p) := by
  have h' : decL L.length L = some l := by
    unfold decA at h
    cases e : decL L.length L with
    | none => rw [e] at h; simp at h
    | some m => rw [e] at h; simpa using h
  obtain ⟨e1, e2, e3, e4⟩ := enc_decL _ _ _ h'
  refine ⟨e1.symm, e2, fun p hp => ?_⟩
  have hk := kind_of ((List.all_eq_true.1 e2) p hp)
  refine ⟨by omega, by omega, e3 p hp, ?_⟩
  have h1 := mem_le l (fun q hq e => by
    have : plainP q = q := by
      have := List.map_inj_left.1 (show l.map plainP = l.map id by simpa using e4) q hq
      simpa using this
    rw [← this]; simp [plainP, e]) p hp
  rw [← e1] at h1
  omega

theorem decE_decA {L : List UInt8} {l : List KP} (h : decA [] L = some l) : decE L = if errE l = 0 then some l else none := by
  have h' : decL L.length L = some l := by
    unfold decA at h
    cases e : decL L.length L with
    | none => rw [e] at h; simp at h
    | some m => rw [e] at h; simpa using h
  obtain ⟨e1, e2, e3, e4⟩ := enc_decL _ _ _ h'
  unfold decE
  rw [h', Option.bind_some]
  unfold errE
  rw [← e1]
  by_cases a : 8 < l.length
  · simp [a]
  · by_cases b : 200 < L.length
    · simp [a, b, e2]
    · simp [a, b, e2]
theorem decE_none {L : List UInt8} (h : decA [] L = none) : decE L = none := by
  unfold decE
  split
  · rfl
  · have : decL L.length L = none := by
      unfold decA at h
      cases e : decL L.length L with
      | none => rfl
      | some m => rw [e] at h; simp at h
    rw [this]; rfl

theorem data_drop {D : ByteArray} {k : Nat} (h : k < D.size) : D.data.toList.drop k = D[k] :: D.data.toList.drop (k + 1) := by
  rw [List.drop_eq_getElem_cons (by simpa using h)]
  simp
  rfl

theorem take_at {D : ByteArray} {a j : Nat} (h : a + j < D.size) (hj : 1 ≤ j) : (D.data.toList.drop (a + 1)).take j = (D.data.toList.drop (a + 1)).take (j - 1) ++ [D[a + j]] := by
  obtain ⟨i, rfl⟩ : ∃ i, j = i + 1 := ⟨j - 1, by omega⟩
  have hi : i < (D.data.toList.drop (a + 1)).length := by simp; omega
  rw [List.take_add_one, List.getElem?_eq_getElem hi, Nat.add_sub_cancel]
  simp only [List.getElem_drop, Option.toList]
  congr 1
  have e : a + 1 + i = a + (i + 1) := by omega
  simp only [e]
  rfl

theorem sub_low {n : Nat} (h : n < 18446744073709551616) : wrap64 (IntKind.u64.wrap ((n : Int) - 9223372036854775808)) = (n : Int) - 9223372036854775808 := by
  rw [IntKind.wrap_u64]
  unfold wrap64
  omega

theorem scan_few {r : List UInt8} (h : r.length ≤ 1) : scan r = none := by
  match r, h with
  | [], _ => rw [scan]
  | [x], _ => rw [scan]
  | _ :: _ :: _, h => simp at h

/-- the answer of Decode -/
def DecR (w w' : World) (e : Ending) : Option (List KP) → Prop
  | none => e = .returned (.tuple #[.slice none 0 0, .int .i64 10])
  | some l => ∃ v', e = .returned (.tuple #[v', .int .i64 0]) ∧ RPartsO w' w.heap.size v' l

set_option maxRecDepth 100000 in
set_option maxHeartbeats 9600000 in
theorem rdecode_any {D : ByteArray} (hd : D.size ≤ 2000) (w : World) :
    Calls Tryd.prog 15 #[.string D] w fun e w' => DecR w w' e (decE D.data.toList) ∧ Only w w' := by
  have hds : D.data.toList.length = D.size := by simp
  obtain ⟨R, hR⟩ : ∃ R, R = decE D.data.toList := ⟨_, rfl⟩
  rw [← hR]
  obtain ⟨L, hL⟩ : ∃ L, L = D.data.toList := ⟨_, rfl⟩
  rw [← hL] at hR hds
  have HR := Lib.hid hR
  have HDS := Lib.hid hds
  have HL := Lib.hid hL
  clear hR hds hL
  go_enter Tryd.func15, Tryd.ntmps15
  go_wp2_with fail
  go_loopw [4, 5, 6, 7, 8] (fun ov i _ _ _ x => ∃ (a : Nat) (acc : List KP), a ≤ D.size ∧ acc.length ≤ a ∧ i = .int .i64 a ∧ RPartsO x w.heap.size ov acc ∧ Hid (decA [] L = decA acc (L.drop a)) ∧ Only w x) (fun _ i _ _ _ _ => D.size - (intOf i).toNat)
  case atStart => exact ⟨0, [], Nat.zero_le _, Nat.zero_le _, rfl, RPartsO.nil _ _, Lib.hid (by simp), Only.refl _⟩
  case round =>
    obtain ⟨a, acc, ha, hacc, rfl, hp, hdec, ht⟩ := hrel
    by_cases hlt : a < D.size
    · have j1 : (a : Int) < (D.size : Int) := by omega
      have j2 : (0 : Int) ≤ (a : Int) := by omega
      have j3 : (D.size : Int) ≤ 2000 := by omega
      have hdr : L.drop a = D[a] :: L.drop (a + 1) := by rw [HL.out]; exact data_drop hlt
      rw [hdr] at hdec
      by_cases hk1 : D[a] = 1
      · have n1 : ((D[a].toNat : Int) == 1) = true := by rw [hk1]; rfl
        by_cases h9 : D.size < a + 9
        · have eR : R = none := by
            rw [HR.out]
            refine decE_none ?_
            rw [hdec.out]
            refine decA_none ?_
            have : (L.drop (a + 1)).length < 8 := by rw [List.length_drop, HDS.out]; omega
            simp only [takeE, hk1, if_true, if_pos this]
          subst eR
          have i4 : decide ((D.size : Int) - (a : Int) < 9) = true := by simp; omega
          have HT := Lib.hid ht
          clear ht hp hdec hk1 HR hdr h9
          go_wp2_with fail
          go_ret2
          exact ⟨rfl, HT.out⟩
        · have i4 : decide ((D.size : Int) - (a : Int) < 9) = false := by simp; omega
          obtain ⟨M, hM⟩ : ∃ M, M = L.drop (a + 1) := ⟨_, rfl⟩
          have hml : M.length = D.size - (a + 1) := by rw [hM, List.length_drop, HDS.out]
          have HP := Lib.hid hp
          have HT := Lib.hid ht
          have HDEC := Lib.hid hdec
          have HDR := Lib.hid hdr
          have HML := Lib.hid hml
          have HM := Lib.hid hM
          have HK := Lib.hid hk1
          have HA := Lib.hid hacc
          clear hp ht hdec hdr hml hM hk1 hacc
          go_wp2_with fail
          go_loopw [6, 7] (fun nv i x => ∃ (j n : Nat), 1 ≤ j ∧ j ≤ 9 ∧ i = .int .i64 j ∧ nv = .int .u64 n ∧ n = num 0 (M.take (j - 1)) ∧ Only wr x) (fun _ i _ => 9 - (intOf i).toNat)
          case atStart => exact ⟨1, 0, by omega, by omega, rfl, rfl, by simp [num], Only.refl _⟩
          case round =>
            obtain ⟨j, n, hj1, hj9, rfl, rfl, hn, htx⟩ := hrel
            by_cases hl8 : j < 9
            · have k1 : (j : Int) < 9 := by omega
              have k2 : (a : Int) + (j : Int) < (D.size : Int) := by omega
              have k3 : (0 : Int) ≤ (a : Int) + (j : Int) := by omega
              have k4 : a + j < D.size := by omega
              have hmj : M.take j = M.take (j - 1) ++ [D[a + j]'k4] := by
                rw [HM.out, HL.out]
                exact take_at k4 hj1
              have hb : n < 72057594037927936 := by
                obtain ⟨-, h2⟩ := num_split (M.take (j - 1)) 0
                have hl : (M.take (j - 1)).length = j - 1 := by rw [List.length_take, HML.out]; omega
                rw [hl, ← hn] at h2
                have : (256 : Nat) ^ (j - 1) ≤ 256 ^ 7 := Nat.pow_le_pow_right (by omega) (by omega)
                omega
              have hs : n * 256 + (D[a + j]'k4).toNat = num 0 (M.take j) := by rw [hmj, num_snoc, hn]
              obtain ⟨c, hc⟩ : ∃ c : Nat, c = (D[a + j]'k4).toNat := ⟨_, rfl⟩
              have hc1 : c < 256 := by rw [hc]; exact (D[a + j]'k4).toNat_lt
              have OB := or_byte hb hc1
              have hc2 : ((D[a + j]'k4).toNat : Int) = (c : Int) := by rw [hc]
              rw [← hc] at hs
              have HS := Lib.hid hs
              have HTX := Lib.hid htx
              clear htx hn hs hb hc hc1 hmj
              go_wp2_with fail
              refine ⟨⟨j + 1, n * 256 + c, by omega, by omega, by push_cast; rfl, by push_cast; rfl, by simpa using HS.out, HTX.out⟩, ?_⟩
              simp [intOf]; omega
            · have hk8 : j = 9 := by omega
              subst hk8
              have hb : num 0 (M.take 8) < 18446744073709551616 := by
                obtain ⟨-, h2⟩ := num_split (M.take 8) 0
                have hl : (M.take 8).length = 8 := by rw [List.length_take, HML.out]; omega
                rw [hl] at h2
                omega
              have X := sub_low hb
              have hn8 : n = num 0 (M.take 8) := hn
              rw [← hn8] at X
              have hdn := decA_some (acc := acc) (b := D[a]) (r := L.drop (a + 1)) (x := (⟨1, wrap64 (IntKind.u64.wrap ((n : Int) - 9223372036854775808)), []⟩, (L.drop (a + 1)).drop 8)) (by
                rw [← HM.out, HK.out, takeE, if_pos rfl, if_neg (by rw [HML.out]; omega), X, hn8])
              rw [← HDEC.out, List.drop_drop] at hdn
              have HDN := Lib.hid hdn
              have HO := Lib.hid (show Only w wr from HT.out.trans htx)
              have t3 := (Only.refl wr).alloc (.cells #[.int .i64 1, .int .i64 (wrap64 (IntKind.u64.wrap ((n : Int) - 9223372036854775808))), .string ⟨#[]⟩] 41)
              have HP3 := Lib.hid ((HP.out.only htx).only t3)
              have N3 := Own3.new wr (.int .i64 1) (.int .i64 (wrap64 (IntKind.u64.wrap ((n : Int) - 9223372036854775808)))) (.string ⟨#[]⟩) 41
              have N0 := Lib.hid N3.c0
              have N1 := Lib.hid N3.c1
              have N2 := Lib.hid N3.c2
              clear htx hdn hb hn hn8 X t3 N3
              go_wp2_with (at_builtin; refine append_rpart (y := ⟨1, wrap64 (IntKind.u64.wrap ((n : Int) - 9223372036854775808)), []⟩) rfl (.tmp 37) (.tmp 42) rfl (base := w.heap.size) rfl rfl HP3.out N0.out N1.out N2.out (by have := HA.out; omega) (by have := HO.out.size; simp; omega) ?_; intro sp3 cap3 w3 hp3 ht3 hs3)
              go_roundw
              case rel => exact ⟨a + 9, acc ++ [⟨1, wrap64 (IntKind.u64.wrap ((n : Int) - 9223372036854775808)), []⟩], by omega, by simp; have := HA.out; omega, by push_cast; rfl, (by rw [List.length_append] at hp3; exact hp3), Lib.hid (by rw [HDN.out]), Below.trans (HO.out.alloc _) ht3⟩
              case measure => simp [intOf]; omega
      · by_cases hk2 : D[a] = 2
        · have n1 : ((D[a].toNat : Int) == 1) = false := by rw [hk2]; rfl
          have n2 : ((D[a].toNat : Int) != 2) = false := by rw [hk2]; rfl
          have HP := Lib.hid hp
          have HT := Lib.hid ht
          have HDEC := Lib.hid hdec
          have HK := Lib.hid hk2
          have HA := Lib.hid hacc
          clear hp ht hdec hdr hk1 hk2 hacc
          go_wp2_with fail
          go_loopw [5, 8] (fun i bv x => ∃ (c : Nat) (bs : List UInt8), a + 1 ≤ c ∧ c ≤ D.size ∧ i = .int .i64 c ∧ BytesO x wr.heap.size bv bs ∧ bs.length ≤ c ∧ Hid (scan (L.drop (a + 1)) = (scan (L.drop c)).map (fun x => (bs ++ x.1, x.2))) ∧ Only wr x) (fun i _ _ => D.size - (intOf i).toNat)
          case atStart => exact ⟨a + 1, [], by omega, by omega, by push_cast; rfl, BytesO.nil _ _, by simp, Lib.hid (by simp), Only.refl _⟩
          case round =>
            obtain ⟨c, bs, hc1, hc2, rfl, hb, hbl, hsc, htx⟩ := hrel
            have k0 : (0 : Int) ≤ (c : Int) := by omega
            by_cases hin : c + 1 < D.size
            · have k1 : decide ((c : Int) + 1 < (D.size : Int)) = true := by simp; omega
              have k2 : (c : Int) + 1 < (D.size : Int) := by omega
              have k3 : (c : Int) < (D.size : Int) := by omega
              have k4 : decide ((D.size : Int) ≤ (c : Int) + 1) = false := by simp; omega
              have k5 : c < D.size := by omega
              have hd3 : L.drop (c + 1) = D[c + 1] :: L.drop (c + 2) := by rw [HL.out]; exact data_drop hin
              have hd2 : L.drop c = D[c] :: D[c + 1] :: L.drop (c + 2) := by rw [← hd3, HL.out]; exact data_drop k5
              by_cases hz : D[c] = 0
              · have m1 : ((D[c].toNat : Int) != 0) = false := by rw [hz]; rfl
                have m2 : ((D[c].toNat : Int) == 0) = true := by rw [hz]; rfl
                by_cases hz2 : D[c + 1] = 255
                · have m3 : ((D[c + 1].toNat : Int) == 255) = true := by rw [hz2]; rfl
                  have HSC := Lib.hid (show scan (L.drop (a + 1)) = (scan (L.drop (c + 2))).map (fun x => ((bs ++ [D[c]]) ++ x.1, x.2)) by rw [hsc.out, hd2, scan, if_pos hz, if_pos hz2, Option.map_map]; congr 1; funext x; simp [hz])
                  have t3 := (Only.refl wr).alloc (.cells #[.int .u8 (D[c].toNat : Int)] 5)
                  have HO := Lib.hid (htx.alloc (.cells #[.int .u8 (D[c].toNat : Int)] 5))
                  have HC := Lib.hid (byte_new (w := wr) (c := D[c]) rfl)
                  have HB1 := Lib.hid (hb.only t3)
                  have HBL := Lib.hid hbl
                  clear hb htx t3 hsc hd2 hd3 hz HR hbl hz2
                  go_wp2_with (at_builtin; refine append_byte rfl (.tmp 70) (.tmp 74) rfl [D[c]] rfl rfl HB1.out HC.out (by have := HBL.out; simp; omega) (by have := HO.out.size; simp at this ⊢; omega) ?_; intro v4 w4 hb4 ht4 hs4)
                  go_roundw
                  case rel => exact ⟨c + 2, bs ++ [D[c]], by omega, by omega, by push_cast; first | rfl | (congr 1; omega), hb4, by have := HBL.out; simp; omega, HSC, Below.trans HO.out ht4⟩
                  case measure => simp [intOf]; omega
                · have m3 : ((D[c + 1].toNat : Int) == 255) = false := by
                    rw [beq_eq_false_iff_ne]; intro h
                    exact hz2 (UInt8.toNat_inj.mp (by simpa using (by omega : D[c + 1].toNat = 255)))
                  by_cases hz1 : D[c + 1] = 1
                  · have m4 : ((D[c + 1].toNat : Int) != 1) = false := by rw [hz1]; rfl
                    have cv := bytes_string hb
                    have hdn := decA_some (acc := acc) (b := D[a]) (r := L.drop (a + 1)) (x := (⟨2, 0, bs⟩, L.drop (c + 2))) (by
                      rw [takeE, HK.out, if_neg (by decide), if_pos rfl, hsc.out, hd2, scan, if_pos hz, if_neg hz2, if_pos hz1]
                      simp)
                    rw [← HDEC.out] at hdn
                    have HDN := Lib.hid hdn
                    have HO := Lib.hid (show Only w wr from HT.out.trans htx)
                    have t3 := (Only.refl wr).alloc (.cells #[.int .i64 2, .int .i64 0, .string (ktxt bs)] 41)
                    have HP3 := Lib.hid ((HP.out.only htx).only t3)
                    have N3 := Own3.new wr (.int .i64 2) (.int .i64 0) (.string (ktxt bs)) 41
                    have N0 := Lib.hid N3.c0
                    have N1 := Lib.hid N3.c1
                    have N2 := Lib.hid N3.c2
                    clear htx hdn t3 N3 hb hsc hz hz1 hz2 hd2 hd3 HR
                    go_wp2_with (at_builtin; refine append_rpart (y := ⟨2, 0, bs⟩) rfl (.tmp 98) (.tmp 102) rfl (base := w.heap.size) rfl rfl HP3.out N0.out N1.out N2.out (by have := HA.out; omega) (by have := HO.out.size; simp; omega) ?_; intro sp3 cap3 w3 hp3 ht3 hs3)
                    go_roundw
                    case rel => exact ⟨c + 2, acc ++ [⟨2, 0, bs⟩], by omega, by simp; have := HA.out; omega, by push_cast; rfl, (by rw [List.length_append] at hp3; exact hp3), Lib.hid (by rw [HDN.out]), Below.trans (HO.out.alloc _) ht3⟩
                    case measure => simp [intOf]; omega
                  · have m4 : ((D[c + 1].toNat : Int) != 1) = true := by
                      rw [bne_iff_ne]; intro h
                      exact hz1 (UInt8.toNat_inj.mp (by simpa using (by omega : D[c + 1].toNat = 1)))
                    have eR : R = none := by
                      rw [HR.out]
                      refine decE_none ?_
                      rw [HDEC.out]
                      refine decA_none ?_
                      have e0 : scan (L.drop (a + 1)) = none := by
                        rw [hsc.out, hd2, scan, if_pos hz, if_neg hz2, if_neg hz1]; rfl
                      rw [takeE, HK.out, if_neg (by decide), if_pos rfl, e0]; rfl
                    have HO := Lib.hid (HT.out.trans htx)
                    subst eR
                    clear hb htx hsc HR HDEC hd2 hd3 hz hz1 hz2
                    go_wp2_with fail
                    go_ret2
                    exact ⟨rfl, HO.out⟩
              · have m1 : ((D[c].toNat : Int) != 0) = true := by
                  rw [bne_iff_ne]; intro h
                  exact hz (UInt8.toNat_inj.mp (by simpa using (by omega : D[c].toNat = 0)))
                have m2 : ((D[c].toNat : Int) == 0) = false := by
                  rw [beq_eq_false_iff_ne]; intro h
                  exact hz (UInt8.toNat_inj.mp (by simpa using (by omega : D[c].toNat = 0)))
                have HSC := Lib.hid (show scan (L.drop (a + 1)) = (scan (L.drop (c + 1))).map (fun x => ((bs ++ [D[c]]) ++ x.1, x.2)) by rw [hsc.out, hd2, scan, if_neg hz, Option.map_map, ← hd3]; congr 1; funext x; simp)
                have t3 := (Only.refl wr).alloc (.cells #[.int .u8 (D[c].toNat : Int)] 5)
                have HO := Lib.hid (htx.alloc (.cells #[.int .u8 (D[c].toNat : Int)] 5))
                have HC := Lib.hid (byte_new (w := wr) (c := D[c]) rfl)
                have HB1 := Lib.hid (hb.only t3)
                have HBL := Lib.hid hbl
                clear hb htx t3 hsc hd2 hd3 hz HR hbl
                go_wp2_with (at_builtin; refine append_byte rfl (.tmp 70) (.tmp 74) rfl [D[c]] rfl rfl HB1.out HC.out (by have := HBL.out; simp; omega) (by have := HO.out.size; simp at this ⊢; omega) ?_; intro v4 w4 hb4 ht4 hs4)
                go_roundw
                case rel => exact ⟨c + 1, bs ++ [D[c]], by omega, by omega, by push_cast; first | rfl | (congr 1; omega), hb4, by have := HBL.out; simp; omega, HSC, Below.trans HO.out ht4⟩
                case measure => simp [intOf]; omega
            · have k1 : decide ((c : Int) + 1 < (D.size : Int)) = false := by simp; omega
              have k4 : decide ((D.size : Int) ≤ (c : Int) + 1) = true := by simp; omega
              have eR : R = none := by
                rw [HR.out]
                refine decE_none ?_
                rw [HDEC.out]
                refine decA_none ?_
                have e0 : scan (L.drop (a + 1)) = none := by
                  rw [hsc.out, scan_few (by rw [List.length_drop, HDS.out]; omega)]; rfl
                rw [takeE, HK.out, if_neg (by decide), if_pos rfl, e0]; rfl
              have HO := Lib.hid (HT.out.trans htx)
              subst eR
              clear hb htx hsc HR HDEC hin
              go_wp2_with fail
              go_ret2
              exact ⟨rfl, HO.out⟩
        · have n1 : ((D[a].toNat : Int) == 1) = false := by
            rw [beq_eq_false_iff_ne]; intro h
            exact hk1 (UInt8.toNat_inj.mp (by simpa using (by omega : D[a].toNat = 1)))
          have n2 : ((D[a].toNat : Int) != 2) = true := by
            rw [bne_iff_ne]; intro h
            exact hk2 (UInt8.toNat_inj.mp (by simpa using (by omega : D[a].toNat = 2)))
          have eR : R = none := by
            rw [HR.out]
            refine decE_none ?_
            rw [hdec.out]
            refine decA_none ?_
            simp [takeE, hk1, hk2]
          subst eR
          have HT := Lib.hid ht
          clear ht hp hdec hk1 hk2 HR hdr
          go_wp2_with fail
          go_ret2
          exact ⟨rfl, HT.out⟩
    · have hk0 : a = D.size := by omega
      subst hk0
      rw [List.drop_eq_nil_of_le (by rw [HDS.out]; omega), decA_nil] at hdec
      obtain ⟨q1, q2, q3⟩ := decA_all hdec.out (by rw [HDS.out]; omega)
      have q4 := decE_decA hdec.out
      obtain ⟨sp, cap, rfl⟩ := hp.form
      have EN := fun (W : World) (x : Only wr W) => rencode_any (hp.only x).toR (by omega) q3
      have HP := Lib.hid hp
      have HT := Lib.hid ht
      by_cases he : errE acc = 0
      · have eR : R = some acc := by rw [HR.out, q4, if_pos he]
        subst eR
        have ek : ktxt (keyE acc) = D := by unfold keyE; rw [if_pos he, q1, HL.out]
        rw [he, ek] at EN
        have EN := Lib.hid EN
        clear hp ht hdec hlt ha q1 q2 q3 q4 ek HR
        go_wp2_with (go_at_call 13; refine (EN.out _ (Only.refl _)).mono ?_; rintro r w1 ⟨rfl, t2⟩; have HP2 := Lib.hid (HP.out.only t2); have HT2 := Lib.hid (HT.out.trans t2); clear t2)
        go_ret2
        exact ⟨⟨_, rfl, HP2.out⟩, HT2.out⟩
      · have eR : R = none := by rw [HR.out, q4, if_neg he]
        subst eR
        obtain ⟨E, hE⟩ : ∃ E, E = errE acc := ⟨_, rfl⟩
        obtain ⟨S, hS⟩ : ∃ S, S = ktxt (keyE acc) := ⟨_, rfl⟩
        rw [← hE, ← hS] at EN
        rw [← hE] at he
        have he1 : (E == 0) = false := by rw [beq_eq_false_iff_ne]; exact he
        have he2 : (E != 0) = true := by rw [bne_iff_ne]; exact he
        have EN := Lib.hid EN
        clear hp ht hdec hlt ha q1 q2 q3 q4 HR hE hS
        go_wp2_with (go_at_call 13; refine (EN.out _ (Only.refl _)).mono ?_; rintro r w1 ⟨rfl, t2⟩; have HT2 := Lib.hid (HT.out.trans t2); clear t2)
        go_ret2
        exact ⟨rfl, HT2.out⟩
end Go.Proofs.YtipcdbdlopmdoaaDoor
