/-
  Encode, of any parts.
-/
import Derived.Test.YtipcdbdlopmdoaaDoorKParts
import Derived.OwnWalk
import Derived.Deep.RegionHeld3
import Derived.Laws.EntriesVeiled
namespace Go.Proofs.YtipcdbdlopmdoaaDoor
open Go.RowKit Go.Maps Go.WideMaps Go.Shelf
set_option linter.unusedVariables false
set_option linter.unusedSimpArgs false

theorem putInt_is {p : KP} (hn : numOk p) (hk : p.kind = 1) : ∀ (B : Nat) (W : World) (v : Value) (l : List UInt8), BytesO W B v l → B ≤ W.heap.size → l.length ≤ 1000000 → MaxAt W →
    Calls Tryd.prog 28 #[v, .agg #[.int .i64 1, .int .i64 p.n, .string (ktxt p.s)]] W fun e w' => ∃ v', e = .returned v' ∧ BytesO w' B v' (l ++ be 8 (low p.n)) ∧ Grew W v w' v' := fun B W v l h1 h2 h3 _ => by
  have := putInt_any hn h1 h2 h3
  unfold pv at this
  rw [hk] at this
  exact this
theorem putText_is {p : KP} (hs : p.s.length ≤ 1000000) (hk : p.kind = 2) : ∀ (B : Nat) (W : World) (v : Value) (l : List UInt8), BytesO W B v l → B ≤ W.heap.size → l.length ≤ 1000000 → MaxAt W →
    Calls Tryd.prog 32 #[v, .agg #[.int .i64 2, .int .i64 p.n, .string (ktxt p.s)]] W fun e w' => ∃ v', e = .returned v' ∧ BytesO w' B v' (l ++ (esc p.s ++ [0, 1])) ∧ Grew W v w' v' := fun B W v l h1 h2 h3 h4 => by
  have := putText_any hs h4 h1 h2 h3
  unfold pv at this
  rw [hk] at this
  exact this
theorem only_grew {y a b : World} {B : Nat} {v v' : Value} {l : List UInt8} (h : Only y a) (hb : BytesO a B v l) (hB : B = y.heap.size) (g : Grew a v b v') : Only y b := by
  subst hB
  exact Below.trans h (g.below hb h.size)

/-- what a region reads of a part's box and of the kinds -/
theorem keepS1 {W : World} {xb mb : Nat} {n : Int} {s : List UInt8} (o : Own3 W xb (.int .i64 1) (.int .i64 n) (.string (ktxt s))) (k : KindsAt W mb) :
    W.cell? ⟨xb, 0, none⟩ = some (.int .i64 1) ∧ W.cell? ⟨xb, 1, none⟩ = some (.int .i64 n) ∧ W.cell? ⟨xb, 2, none⟩ = some (.string (ktxt s)) ∧ (Instr.lookup 50 (.map (some mb)) (.int .i64 1) false).run Tryd.prog W = .ok (.agg #[.func (.func 26) #[] #[], .func (.func 27) #[] #[], .func (.func 28) #[] #[], .func (.func 29) #[] #[]]) W :=
  ⟨o.c0, o.c1, o.c2, pick_kind k (by decide)⟩
theorem keepS2 {W : World} {xb mb : Nat} {n : Int} {s : List UInt8} (o : Own3 W xb (.int .i64 2) (.int .i64 n) (.string (ktxt s))) (k : KindsAt W mb) :
    W.cell? ⟨xb, 0, none⟩ = some (.int .i64 2) ∧ W.cell? ⟨xb, 1, none⟩ = some (.int .i64 n) ∧ W.cell? ⟨xb, 2, none⟩ = some (.string (ktxt s)) ∧ (Instr.lookup 50 (.map (some mb)) (.int .i64 2) false).run Tryd.prog W = .ok (.agg #[.func (.func 30) #[] #[], .func (.func 31) #[] #[], .func (.func 32) #[] #[], .func (.func 33) #[] #[]]) W :=
  ⟨o.c0, o.c1, o.c2, pick_kind k (by decide)⟩

set_option maxRecDepth 100000 in
set_option maxHeartbeats 6400000 in
theorem encode_any {w : World} {v : Value} {l : List KP} (h : PartsR w v l) (hl : l.length ≤ 1000000) (hk : ∀ x ∈ l, KOk x) (hm : MaxAt w) :
    Calls Tryd.prog 9 #[v] w fun e w' => e = .returned (.tuple #[.string (ktxt (keyE l)), .int .i64 (errE l)]) ∧ Only w w' := by
  obtain ⟨sp, cap, rfl, hcells⟩ := h
  by_cases h8 : 8 < l.length
  · have e1 : errE l = 9 := by unfold errE; rw [if_pos h8]
    have e2 : keyE l = [] := by unfold keyE; rw [e1]; rfl
    rw [e1, e2]
    have i1 : decide ((8 : Int) < (l.length : Int)) = true := by simp; omega
    clear hcells hk e1 e2
    go_enter Tryd.func9, Tryd.ntmps9
    go_wp2_with fail
    go_ret2
    exact ⟨rfl, Only.refl _⟩
  · have i1 : decide ((8 : Int) < (l.length : Int)) = false := by simp; omega
    have KK := kinds_any w
    have HC := Lib.hid hcells
    have HK := Lib.hid hk
    have HM := Lib.hid hm
    obtain ⟨E, hE⟩ : ∃ E, E = errE l := ⟨_, rfl⟩
    obtain ⟨S, hS⟩ : ∃ S, S = ktxt (keyE l) := ⟨_, rfl⟩
    rw [← hE, ← hS]
    have HE := Lib.hid hE
    have HS := Lib.hid hS
    have i2 : (l.length : Int) ≤ 8 := by omega
    clear hcells hk hm hE hS hl
    go_enter Tryd.func9, Tryd.ntmps9
    go_wp2_with (go_at_call 21; refine KK.mono ?_; rintro r w1 ⟨rfl, t1, kd⟩)
    go_loopw [5, 7, 8, 9, 19] (fun sz _ _ _ i wr => ∃ k : Nat, k ≤ l.length ∧ i = .int .i64 k ∧ sz = .int .i64 ((encL (l.take k)).length : Nat) ∧ (l.take k).all kindOk = true ∧ Only w1 wr) (fun _ _ _ _ i _ => l.length - (intOf i).toNat)
    case atStart => exact ⟨0, Nat.zero_le _, rfl, by simp [encL], rfl, Only.refl _⟩
    case round =>
      obtain ⟨k, hk, rfl, rfl, ha, ht⟩ := hrel
      by_cases hlt : k < l.length
      · have j1 : (k : Int) < (l.length : Int) := by omega
        obtain ⟨g, o, hsp, hat⟩ := HC.out (by omega)
        subst hsp
        obtain ⟨c0, c1, c2⟩ := (hat k hlt).only (t1.trans ht)
        have ok := HK.out _ (List.getElem_mem hlt)
        have hsn := encL_snoc l k hlt
        have han := all_snoc l k hlt
        have hle := encL_le (l.take k) (fun p hp => HK.out p (List.mem_of_mem_take hp))
        have hle2 : (encL (l.take k)).length ≤ 20000 := by
          have h0 : (l.take k).length ≤ k := by simp; omega
          omega
        obtain ⟨p, hp⟩ : ∃ p, p = l[k] := ⟨_, rfl⟩
        rw [← hp] at c0 c1 c2 ok hsn han
        have HAT := Lib.hid hat
        have HP := Lib.hid hp
        have HSN := Lib.hid hsn
        have HAN := Lib.hid han
        have HA := Lib.hid ha
        have HT := Lib.hid ht
        have KW := Lib.hid ((kd.only ht).only ((Only.refl wr).alloc (.cells #[.int .i64 p.kind, .int .i64 p.n, .string (ktxt p.s)] 40)))
        have OK := Lib.hid ok
        have hkn : k + 1 ≤ l.length := hlt
        obtain ⟨z, hz⟩ : ∃ z, z = (encL (l.take k)).length := ⟨_, rfl⟩
        rw [← hz] at hle2
        rw [← hz]
        have HZ := Lib.hid hz
        clear hat hp hsn han ha ht hle hz hk ok
        by_cases hk1 : p.kind = 1
        · have LK := look_kind (k := p.kind) KW.out (kind_wf OK.out.k1 OK.out.k2)
          have SI := sizeInt_any p
          unfold pv at SI
          have SI := Lib.hid SI
          rw [hk1] at LK
          have HK1 := Lib.hid hk1
          rw [kindOf_1] at LK
          unfold kindI at LK
          rw [hk1] at c0 SI
          have hs9 : (encL (l.take (k + 1))).length = z + 9 := by rw [HSN.out, List.length_append, encP_1 hk1, HZ.out]
          have ha9 : (l.take (k + 1)).all kindOk = true := by rw [HAN.out, HA.out]; simp [kindOk, hk1]
          have HS9 := Lib.hid hs9
          have HA9 := Lib.hid ha9
          clear hk1 hs9 ha9
          go_wp2_with (go_at_call 27; refine (SI.out _).mono ?_; rintro r w3 ⟨rfl, t3⟩)
          go_roundw
          case rel => exact ⟨k + 1, hkn, by push_cast; rfl, congrArg (Value.int .i64) (by rw [HS9.out]; omega), HA9.out, (((HT.out).alloc _).alloc _).trans t3⟩
          case measure => simp [intOf]; omega
        · by_cases hk2 : p.kind = 2
          · have LK := look_kind (k := p.kind) KW.out (kind_wf OK.out.k1 OK.out.k2)
            have ST := sizeText_any p (Nat.le_trans OK.out.s (by omega))
            have hle3 : (esc p.s).length ≤ 2100 := by have := encP_le OK.out; rw [encP_2 hk2] at this; omega
            unfold pv at ST
            rw [hk2] at LK
            rw [kindOf_2] at LK
            unfold kindT at LK
            rw [hk2] at c0 ST
            obtain ⟨q, hq⟩ : ∃ q, q = (esc p.s).length + 2 := ⟨_, rfl⟩
            rw [← hq] at ST
            have ST := Lib.hid ST
            have hs9 : (encL (l.take (k + 1))).length = z + (1 + q) := by rw [HSN.out, List.length_append, encP_2 hk2, HZ.out, hq]; omega
            have ha9 : (l.take (k + 1)).all kindOk = true := by rw [HAN.out, HA.out]; simp [kindOk, hk2]
            have HS9 := Lib.hid hs9
            have HA9 := Lib.hid ha9
            have hq2 : q ≤ 2200 := by omega
            clear hk1 hk2 hs9 ha9 hq hle3
            go_wp2_with (go_at_call 31; refine (ST.out _).mono ?_; rintro r w3 ⟨rfl, t3⟩)
            go_roundw
            case rel => exact ⟨k + 1, hkn, by push_cast; rfl, congrArg (Value.int .i64) (by rw [HS9.out]; omega), HA9.out, (((HT.out).alloc _).alloc _).trans t3⟩
            case measure => simp [intOf]; omega
          · have hz : (p.kind == 1 || p.kind == 2) = false := by simp [hk1, hk2]
            have LK := look_kind (k := p.kind) KW.out (kind_wf OK.out.k1 OK.out.k2)
            rw [hz, kindOf_n hz] at LK
            unfold kindZ at LK
            have eE : E = 7 := by
              rw [HE.out]
              have h3 : kindOk p = false := hz
              have h4 : l.all kindOk = false := by
                rw [List.all_eq_false]
                exact ⟨l[k], List.getElem_mem _, by rw [← HP.out, h3]; simp⟩
              unfold errE
              rw [if_neg h8, if_pos h4]
            have eS : S = ⟨#[]⟩ := by rw [HS.out]; unfold keyE; rw [← HE.out, eE]; rfl
            have EE := Lib.hid eE
            have ES := Lib.hid eS
            clear eE eS hz hk1 hk2
            go_wp2_with fail
            go_ret2
            exact ⟨by rw [EE.out, ES.out]; rfl, (t1.trans HT.out).alloc _ |>.alloc _⟩
      · have hk0 : k = l.length := by omega
        subst hk0
        rw [List.take_length] at ha ⊢
        have hle := encL_le l HK.out
        have hle2 : (encL l).length ≤ 20000 := by omega
        obtain ⟨z, hz⟩ : ∃ z, z = (encL l).length := ⟨_, rfl⟩
        rw [← hz] at hle2 ⊢
        have HT := Lib.hid ht
        by_cases h200 : 200 < z
        · have eE : E = 8 := by
            rw [HE.out]; unfold errE
            rw [if_neg h8, if_neg (by simp [ha]), if_pos (by omega)]
          have eS : S = ⟨#[]⟩ := by rw [HS.out]; unfold keyE; rw [← HE.out, eE]; rfl
          have EE := Lib.hid eE
          have ES := Lib.hid eS
          have i3 : decide ((200 : Int) < (z : Int)) = true := by simp; omega
          clear eE eS ha hle hz ht hlt hk
          go_wp2_with fail
          go_ret2
          exact ⟨by rw [EE.out, ES.out]; rfl, t1.trans HT.out⟩
        · have eE : E = 0 := by
            rw [HE.out]; unfold errE
            rw [if_neg h8, if_neg (by simp [ha]), if_neg (by omega)]
          have eS : S = ktxt (encL l) := by rw [HS.out]; unfold keyE; rw [← HE.out, eE]; rfl
          have EE := Lib.hid eE
          have ES := Lib.hid eS
          have HA := Lib.hid ha
          have HZ := Lib.hid hz
          have i3 : decide ((200 : Int) < (z : Int)) = false := by simp; omega
          have KD := Lib.hid (kd.only ht)
          obtain ⟨iU, hiU, hz0, hz1, hz2⟩ := infoU8_parts
          clear eE eS ha hle hz ht hlt hk kd
          go_wp2_with (at_make; refine wpList_make_own _ rfl _ _ 59 rfl wr.heap.size 5 iU (.int .u8 0) 1 Tryd.underlying59 hiU hz0 hz1 _ _ _ z rfl rfl rfl ?b1 ?b2 ?b3 ?_)
          case b1 => rw [hz2]; omega
          case b2 => unfold maxLen; omega
          case b3 => omega
          intro w2 hown hgrow
          have hb2 : BytesO w2 wr.heap.size (.slice (some ⟨wr.heap.size, 0, none⟩) 0 z) [] := hown
          have ht2 : Only wr w2 := Below.grown (Below.refl _ _) hgrow (Nat.le_refl _) (fun k e => by cases e)
          obtain ⟨y, rfl⟩ : ∃ y, y = wr := ⟨_, rfl⟩
          obtain ⟨B, hB⟩ : ∃ B, B = y.heap.size := ⟨_, rfl⟩
          obtain ⟨mb, hmb⟩ : ∃ mb, mb = w.heap.size := ⟨_, rfl⟩
          rw [← hB] at hb2 ⊢
          rw [← hmb] at KD ⊢
          have HB0 := Lib.hid hB
          have HB2 := Lib.hid hb2
          have HT2 := Lib.hid ht2
          have TW := Lib.hid (t1.trans HT.out)
          clear hB hmb hb2 ht2 hown hgrow hz0 hz1 hz2 hiU t1 KK
          go_wp2_with fail
          go_loopw [10, 12, 46] (fun kv _ i x => ∃ k : Nat, k ≤ l.length ∧ i = .int .i64 k ∧ BytesO x B kv (encL (l.take k)) ∧ Only y x) (fun _ _ i _ => l.length - (intOf i).toNat)
          case atStart => exact ⟨0, Nat.zero_le _, rfl, HB2.out, HT2.out⟩
          case round =>
            obtain ⟨k, hk, rfl, hb, ht⟩ := hrel
            by_cases hlt : k < l.length
            · have j1 : (k : Int) < (l.length : Int) := by omega
              obtain ⟨g, o, hsp, hat⟩ := HC.out (by omega)
              subst hsp
              obtain ⟨c0, c1, c2⟩ := (hat k hlt).only (TW.out.trans ht)
              have ok := HK.out _ (List.getElem_mem hlt)
              have hsn := encL_snoc l k hlt
              have hkd := List.all_eq_true.1 HA.out _ (List.getElem_mem hlt)
              obtain ⟨p, hp⟩ : ∃ p, p = l[k] := ⟨_, rfl⟩
              rw [← hp] at c0 c1 c2 ok hsn hkd
              have HAT := Lib.hid hat
              have HP := Lib.hid hp
              have HSN := Lib.hid hsn
              have OK := Lib.hid ok
              have hkn : k + 1 ≤ l.length := hlt
              have MY := Lib.hid (HM.out.only TW.out)
              clear hat hp hsn hk ok
              rcases kind_of hkd with hk1 | hk2
              · have KX := Lib.hid ((KD.out.only ht).only ((Only.refl wr).alloc (.cells #[.int .i64 1, .int .i64 p.n, .string (ktxt p.s)] 40)))
                have BX := Lib.hid (hb.only ((Only.refl wr).alloc (.cells #[.int .i64 1, .int .i64 p.n, .string (ktxt p.s)] 40)))
                have hen : encL (l.take (k + 1)) = encL (l.take k) ++ ([1] ++ be 8 (low p.n)) := by rw [HSN.out]; simp [encP, bodyP, hk1]
                have nx : u10.ownBlock ≠ some wr.heap.size := fun e => absurd (hb.lt e) (Nat.lt_irrefl _)
                have nm : u10.ownBlock ≠ some mb := fun e => by have h1 := hb.own _ e; have h2 := KD.out.lt; have h3 := HB0.out; omega
                have HEN := Lib.hid hen
                have OX := Lib.hid ht
                have HNX := Lib.hid nx
                have HNM := Lib.hid nm
                obtain ⟨L, hL⟩ : ∃ L, L = encL (l.take k) := ⟨_, rfl⟩
                rw [← hL] at hb BX
                have HL := Lib.hid hL
                have hLl : L.length ≤ 20000 := by rw [hL]; have := encL_le (l.take k) (fun q hq => HK.out q (List.mem_of_mem_take hq)); have h0 : (l.take k).length ≤ k := (List.length_take_le k l); omega
                have HLL := Lib.hid hLl
                have PT := Lib.hid (show _ from putInt_is OK.out.n hk1)
                rw [hk1] at c0
                clear hb ht hen nx nm hL hLl
                go_wp2_with fail
                refine wp_name (fun W => Own3 W wr.heap.size (.int .i64 1) (.int .i64 p.n) (.string (ktxt p.s)) ∧ KindsAt W mb ∧ BytesO W B u10 L ∧ Only y W ∧ B ≤ wr.heap.size) ⟨Own3.new _ _ _ _ _, KX.out, BX.out, OX.out.alloc _, by rw [HB0.out]; exact OX.out.size⟩ ?_
                rintro wx ⟨o1, k1, b1, t3, hxb⟩
                have o0 := o1.drew
                have k0 : KindsAt wx.drew mb := k1
                have o2 := (o1.alloc (.cells #[.int .u8 (IntKind.u8.wrap 1)] 5)).drew
                have k2 : KindsAt (wx.alloc (.cells #[.int .u8 (IntKind.u8.wrap 1)] 5)).drew mb := k1.only (((Only.refl wx).alloc _).drew)
                have B2 := Lib.hid (b1.only (Only.drew ((Only.refl wx).alloc (.cells #[.int .u8 (IntKind.u8.wrap 1)] 5))))
                have C2 := Lib.hid (byte_new (w := wx) (c := 1) (z := IntKind.u8.wrap 1) (by decide))
                have T3 := Lib.hid (Only.drew (t3.alloc (.cells #[.int .u8 (IntKind.u8.wrap 1)] 5)))
                have LB := Lib.hid (show B ≤ wx.heap.size from Nat.le_trans hxb (Nat.le_of_lt o1.lt))
                have XL := Lib.hid (show wr.heap.size < (wx.alloc (.cells #[.int .u8 (IntKind.u8.wrap 1)] 5)).drew.heap.size from (o1.alloc _).lt)
                have KL := Lib.hid (show mb < (wx.alloc (.cells #[.int .u8 (IntKind.u8.wrap 1)] 5)).drew.heap.size from k2.lt)
                clear o1 k1 b1 t3 hxb
                have FD : ∀ W, (Instr.field 57 (.agg #[.func (.func 26) #[] #[], .func (.func 27) #[] #[], .func (.func 28) #[] #[], .func (.func 29) #[] #[]]) 2).run Tryd.prog W = .ok (.func (.func 28) #[] #[]) W := fun _ => by kernel_rfl
                go_region_held3 (fun W => W.cell? ⟨wr.heap.size, 0, none⟩ = some (.int .i64 1) ∧ W.cell? ⟨wr.heap.size, 1, none⟩ = some (.int .i64 p.n) ∧ W.cell? ⟨wr.heap.size, 2, none⟩ = some (.string (ktxt p.s)) ∧ (Instr.lookup 50 (.map (some mb)) (.int .i64 1) false).run Tryd.prog W = .ok (.agg #[.func (.func 26) #[] #[], .func (.func 27) #[] #[], .func (.func 28) #[] #[], .func (.func 29) #[] #[]]) W) (first | with_reducible exact keepS1 o0 k0 | with_reducible exact keepS1 o2 k2 | with_reducible exact keepS1 o4 k4 | with_reducible exact keepS1 o5 k5 | fail) (first | (refine step_bytesG (base := B) rfl (.tmp 55) (.tmp 59) rfl [1] ?_ ?_ rfl B2.out C2.out ?_ ?_ ?_; rfl; rfl; (have := HLL.out; simp; omega); (have := LB.out; simp; omega); intro v4 w4 hb4 hg4; have o4 := o2.grew hg4 HNX.out; have k4 := k2.grew hg4 HNM.out) | (go_at_call 28; refine (PT.out _ _ _ _ hb4 (by have := LB.out; have := hg4.size; simp at this; omega) (by have := HLL.out; simp; omega) (MY.out.only (only_grew T3.out B2.out HB0.out hg4))).mono ?_; rintro r w5 ⟨v5, rfl, hb5, hg5⟩; have o5 := o4.grew hg5 (hg4.apart HNX.out XL.out); have k5 := k4.grew hg5 (hg4.apart HNM.out KL.out)))
                all_goals
                  have ho5 := only_grew (only_grew T3.out B2.out HB0.out hg4) hb4 HB0.out hg5
                  have HB5 := Lib.hid hb5
                  have HO5 := Lib.hid ho5
                  clear hb4 hg4 hb5 hg5 o5 k5 o4 k4 o2 k2 o0 k0 ho5
                  go_wp2_with fail
                  go_roundw
                  case rel => exact ⟨k + 1, hkn, by push_cast; rfl, by rw [HEN.out, ← HL.out, ← List.append_assoc]; exact HB5.out, HO5.out⟩
                  case measure => simp [intOf]; omega
              · have KX := Lib.hid ((KD.out.only ht).only ((Only.refl wr).alloc (.cells #[.int .i64 2, .int .i64 p.n, .string (ktxt p.s)] 40)))
                have BX := Lib.hid (hb.only ((Only.refl wr).alloc (.cells #[.int .i64 2, .int .i64 p.n, .string (ktxt p.s)] 40)))
                have hen : encL (l.take (k + 1)) = encL (l.take k) ++ ([2] ++ (esc p.s ++ [0, 1])) := by rw [HSN.out]; simp [encP, bodyP, hk2]
                have nx : u10.ownBlock ≠ some wr.heap.size := fun e => absurd (hb.lt e) (Nat.lt_irrefl _)
                have nm : u10.ownBlock ≠ some mb := fun e => by have h1 := hb.own _ e; have h2 := KD.out.lt; have h3 := HB0.out; omega
                have HEN := Lib.hid hen
                have OX := Lib.hid ht
                have HNX := Lib.hid nx
                have HNM := Lib.hid nm
                obtain ⟨L, hL⟩ : ∃ L, L = encL (l.take k) := ⟨_, rfl⟩
                rw [← hL] at hb BX
                have HL := Lib.hid hL
                have hLl : L.length ≤ 20000 := by rw [hL]; have := encL_le (l.take k) (fun q hq => HK.out q (List.mem_of_mem_take hq)); have h0 : (l.take k).length ≤ k := (List.length_take_le k l); omega
                have HLL := Lib.hid hLl
                have PT := Lib.hid (show _ from putText_is (Nat.le_trans OK.out.s (by omega)) hk2)
                rw [hk2] at c0
                clear hb ht hen nx nm hL hLl
                go_wp2_with fail
                refine wp_name (fun W => Own3 W wr.heap.size (.int .i64 2) (.int .i64 p.n) (.string (ktxt p.s)) ∧ KindsAt W mb ∧ BytesO W B u10 L ∧ Only y W ∧ B ≤ wr.heap.size) ⟨Own3.new _ _ _ _ _, KX.out, BX.out, OX.out.alloc _, by rw [HB0.out]; exact OX.out.size⟩ ?_
                rintro wx ⟨o1, k1, b1, t3, hxb⟩
                have o0 := o1.drew
                have k0 : KindsAt wx.drew mb := k1
                have o2 := (o1.alloc (.cells #[.int .u8 (IntKind.u8.wrap 2)] 5)).drew
                have k2 : KindsAt (wx.alloc (.cells #[.int .u8 (IntKind.u8.wrap 2)] 5)).drew mb := k1.only (((Only.refl wx).alloc _).drew)
                have B2 := Lib.hid (b1.only (Only.drew ((Only.refl wx).alloc (.cells #[.int .u8 (IntKind.u8.wrap 2)] 5))))
                have C2 := Lib.hid (byte_new (w := wx) (c := 2) (z := IntKind.u8.wrap 2) (by decide))
                have T3 := Lib.hid (Only.drew (t3.alloc (.cells #[.int .u8 (IntKind.u8.wrap 2)] 5)))
                have LB := Lib.hid (show B ≤ wx.heap.size from Nat.le_trans hxb (Nat.le_of_lt o1.lt))
                have XL := Lib.hid (show wr.heap.size < (wx.alloc (.cells #[.int .u8 (IntKind.u8.wrap 2)] 5)).drew.heap.size from (o1.alloc _).lt)
                have KL := Lib.hid (show mb < (wx.alloc (.cells #[.int .u8 (IntKind.u8.wrap 2)] 5)).drew.heap.size from k2.lt)
                clear o1 k1 b1 t3 hxb
                have FD : ∀ W, (Instr.field 57 (.agg #[.func (.func 30) #[] #[], .func (.func 31) #[] #[], .func (.func 32) #[] #[], .func (.func 33) #[] #[]]) 2).run Tryd.prog W = .ok (.func (.func 32) #[] #[]) W := fun _ => by kernel_rfl
                go_region_held3 (fun W => W.cell? ⟨wr.heap.size, 0, none⟩ = some (.int .i64 2) ∧ W.cell? ⟨wr.heap.size, 1, none⟩ = some (.int .i64 p.n) ∧ W.cell? ⟨wr.heap.size, 2, none⟩ = some (.string (ktxt p.s)) ∧ (Instr.lookup 50 (.map (some mb)) (.int .i64 2) false).run Tryd.prog W = .ok (.agg #[.func (.func 30) #[] #[], .func (.func 31) #[] #[], .func (.func 32) #[] #[], .func (.func 33) #[] #[]]) W) (first | with_reducible exact keepS2 o0 k0 | with_reducible exact keepS2 o2 k2 | with_reducible exact keepS2 o4 k4 | with_reducible exact keepS2 o5 k5 | fail) (first | (refine step_bytesG (base := B) rfl (.tmp 55) (.tmp 59) rfl [2] ?_ ?_ rfl B2.out C2.out ?_ ?_ ?_; rfl; rfl; (have := HLL.out; simp; omega); (have := LB.out; simp; omega); intro v4 w4 hb4 hg4; have o4 := o2.grew hg4 HNX.out; have k4 := k2.grew hg4 HNM.out) | (go_at_call 32; refine (PT.out _ _ _ _ hb4 (by have := LB.out; have := hg4.size; simp at this; omega) (by have := HLL.out; simp; omega) (MY.out.only (only_grew T3.out B2.out HB0.out hg4))).mono ?_; rintro r w5 ⟨v5, rfl, hb5, hg5⟩; have o5 := o4.grew hg5 (hg4.apart HNX.out XL.out); have k5 := k4.grew hg5 (hg4.apart HNM.out KL.out)))
                all_goals
                  have ho5 := only_grew (only_grew T3.out B2.out HB0.out hg4) hb4 HB0.out hg5
                  have HB5 := Lib.hid hb5
                  have HO5 := Lib.hid ho5
                  clear hb4 hg4 hb5 hg5 o5 k5 o4 k4 o2 k2 o0 k0 ho5
                  go_wp2_with fail
                  go_roundw
                  case rel => exact ⟨k + 1, hkn, by push_cast; rfl, by rw [HEN.out, ← HL.out, ← List.append_assoc]; exact HB5.out, HO5.out⟩
                  case measure => simp [intOf]; omega
            · have hk0 : k = l.length := by omega
              subst hk0
              rw [List.take_length] at hb
              have cv := bytes_string hb
              have OX := Lib.hid ht
              have hS2 : S = ktxt (encL l) := ES.out
              clear hb ht hk hlt
              go_wp2_with fail
              go_ret2
              exact ⟨by rw [EE.out, hS2]; rfl, TW.out.trans OX.out⟩
end Go.Proofs.YtipcdbdlopmdoaaDoor
