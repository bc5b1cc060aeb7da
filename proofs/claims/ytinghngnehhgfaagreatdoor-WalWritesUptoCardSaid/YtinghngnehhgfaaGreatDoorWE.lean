/-
  PARTS: WIter, WScan.
-/
import Derived.RangeFuncNested
import Derived.RangeFuncBound
import Derived.RangeFuncCalls
import Derived.RangeFuncLeaves
import Derived.Shelf.Abstract
import Derived.Shelf.RegionOpen
import Derived.OwnWalkIn
import Derived.TacticsInMore
import Derived.LoopNIn
import Derived.LoopIn
import Derived.Test.YtinghngnehhgfaaGreatDoorWC
import Derived.Test.YtinghngnehhgfaaGreatDoorWA
import Derived.Test.YtinghngnehhgfaaGreatDoorWB
import Derived.Scope
/-
  frames, and the iterator that it hands back.
-/
namespace Go.Proofs.YtinghngnehhgfaaGreatDoor
open Go.RowKit Go.Maps Go.WideMaps Go.Shelf
attribute [local go_sem] Oper.semAt_some

section
variable {w w' : World}

/-- what a round is handed: a sum, bytes that lie in w -/
structure Fr (w : World) where
  sum : Nat
  q : List UInt8
  sp : Option Addr
  cap : Nat
  lt : sum < 4294967296
  rd : SliceR w (.slice sp q.length cap) q
  len : q.length ≤ 281474976710656

def Fr.pair (x : Fr w) : Nat × List UInt8 := (x.sum, x.q)
abbrev Fr.encs (x : Fr w) : Array Value := #[.int .u32 (x.sum : Int), .slice x.sp x.q.length x.cap]

def sliceLen : Value → Nat
  | .slice _ n _ => n
  | _ => 0

/-- a slice of bytes, with its room -/
def SliceC (w : World) (v : Value) (b : List UInt8) : Prop := ∃ sp cap, v = .slice sp b.length cap ∧ b.length ≤ cap ∧ (b.length ≤ 281474976710656 ∧ cap ≤ 9223372036854775807) ∧ (0 < b.length → ∃ g off, sp = some ⟨g, off, none⟩ ∧ ∀ j x, b[j]? = some x → w.cell? ⟨g, off + j, none⟩ = some (byteV x))

theorem SliceC.toR {v : Value} {b : List UInt8} (h : SliceC w v b) : SliceR w v b := by
  obtain ⟨sp, cap, hv, _, _, hc⟩ := h
  refine ⟨sp, cap, hv, fun h0 => ?_⟩
  obtain ⟨g, off, e, hx⟩ := hc h0
  refine ⟨_, e, fun j x hj => ?_⟩
  have e2 : (⟨g, off, none⟩ : Addr).add j = ⟨g, off + j, none⟩ := by unfold Addr.add; split <;> simp_all
  rw [e2]; exact hx j x hj

theorem SliceC.turned {v : Value} {b : List UInt8} (h : SliceC w v b) (ht : Turn (fun _ => False) w w') : SliceC w' v b := by
  obtain ⟨sp, cap, hv, h1, h2, hc⟩ := h
  refine ⟨sp, cap, hv, h1, h2, fun h0 => ?_⟩
  obtain ⟨g, off, e, hx⟩ := hc h0
  exact ⟨g, off, e, fun j x hj => turn_cell ht (hx j x hj)⟩

set_option maxHeartbeats 1000000 in
theorem frames_any (sp : Option Addr) (n cap : Nat) (w : World) : Calls Tryz.prog 61 #[.slice sp n cap] w fun r w' => r = .returned (.func (.func 80) #[] #[.pointer (some ⟨w.heap.size, 0, none⟩)]) ∧ w.alloc (.cells #[.slice sp n cap] 33) = w' := by
  go_enter Tryz.func61, Tryz.ntmps61
  go_wp2
  go_ret
  exact ⟨rfl, rfl⟩

/-- how a round may go -/
def Went (w0 : World) (J Jx : List (Fr w0) → World → Prop) (pre : List (Fr w0)) (W : World) (c : Bool) (W' : World) : Prop := (c = true → J pre W' ∧ Below w0.heap.size W W') ∧ (c = false → Jx pre W')

/-- a piece of a slice -/
theorem sub_slice {g off cap k e : Nat} {b : List UInt8} (h : ∀ j x, b[j]? = some x → w.cell? ⟨g, off + j, none⟩ = some (byteV x)) (hk : k ≤ e) (he : e ≤ b.length) (hc : b.length ≤ cap) (hm : b.length ≤ 281474976710656 ∧ cap ≤ 9223372036854775807) (o : Nat) (ho : o = if cap = k then off else off + k) :
    SliceC w (.slice (some ⟨g, o, none⟩) (e - k) (cap - k)) ((b.take e).drop k) := by
  have hl : ((b.take e).drop k).length = e - k := by simp; omega
  refine ⟨_, cap - k, by rw [hl], by rw [hl]; omega, ⟨by rw [hl]; omega, by omega⟩, fun h0 => ⟨g, o, rfl, fun j x hj => ?_⟩⟩
  rw [hl] at h0
  rw [if_neg (by omega)] at ho
  subst ho
  have hjl : j < e - k := by rw [← hl]; exact (List.getElem?_eq_some_iff.1 hj).1
  rw [List.getElem?_drop, List.getElem?_take_of_lt (by omega)] at hj
  rw [Nat.add_assoc]; exact h _ _ hj

theorem raw1_is {rest : List UInt8} {m : Nat} (h8 : ¬ rest.length < 8) (hm : m = Walp.num (rest.take 4)) (hd : ¬ rest.length - 8 < m) : Walp.raw1 rest = some (Walp.num ((rest.drop 4).take 4), (rest.drop 8).take m) := by
  unfold Walp.raw1; rw [if_neg h8, if_neg (by rw [← hm]; exact hd), hm]

theorem drop_take_swap (b : List UInt8) (k m : Nat) : (b.take (k + m)).drop k = (b.drop k).take m := by
  rw [List.drop_take, Nat.add_sub_cancel_left]

set_option maxRecDepth 100000 in
set_option maxHeartbeats 2000000 in
theorem iter_in (w0 : World) (n : Nat) (l Bs : Nat) (v : Value) (b : List UInt8) (hb : SliceC w0 v b) (J Jx : List (Fr w0) → World → Prop) (hJL : ∀ pre W W', J pre W → Like W W' → J pre W')
    (hY : ∀ pre x W, J pre W → pre.length < (Walp.raw b).length → YieldAt Fence.wide (n - 1) Tryz.prog l x.encs W (fun e W' => ∃ c : Bool, e = .returned (.bool c) ∧ Went w0 J Jx (pre ++ [x]) W c W'))
    (W : World) (hW : Below w0.heap.size w0 W) (hBs : W.cell? ⟨Bs, 0, none⟩ = some v) (h0 : J [] W) :
    CallsIn Fence.wide n Tryz.prog 80 #[.func (.yield l) #[] #[], .pointer (some ⟨Bs, 0, none⟩)] W fun e W' => (∃ v, e = .returned v) ∧
      ((∃ ys : List (Fr w0), ys.map Fr.pair = Walp.raw b ∧ J ys W') ∨ (∃ pre : List (Fr w0), pre.map Fr.pair <+: Walp.raw b ∧ Jx pre W')) := by
  refine callsIn_of_wp Tryz.func80 rfl trivial ?_ rfl
  simp only [Tryz.ntmps80, List.size_toArray, List.length_cons, List.length_nil, Nat.reduceAdd, Nat.reduceSub, Array.replicate_succ, Array.replicate_zero, List.push_toArray, List.append_toArray, List.nil_append, List.cons_append]
  have HY := Lib.hid hY
  have HJ := Lib.hid hJL
  clear hY hJL
  gi_wp2
  gi_loopw [3] (fun v wr => ∃ (pre : List (Fr w0)) (rest : List UInt8), SliceC w0 v rest ∧ Walp.raw b = pre.map Fr.pair ++ Walp.raw rest ∧ J pre wr ∧ Below w0.heap.size w0 wr) (fun v _ => sliceLen v)
  case atStart => exact ⟨[], b, hb, rfl, h0, hW⟩
  case round =>
    obtain ⟨pre, rest, hrest, hraw, hj, hbw⟩ := hrel
    have hR := hrest.turned (Below.turn hbw _)
    obtain ⟨sp, cap, rfl, hlc, hcm, hcell⟩ := hrest
    by_cases h8 : rest.length < 8
    · have i0 : (rest.length : Int) < 8 := by omega
      gi_wp2
      go_end0
      have : Walp.raw1 rest = none := by unfold Walp.raw1; rw [if_pos h8]
      rw [Walp.raw_none this, List.append_nil] at hraw
      exact ⟨⟨_, rfl⟩, .inl ⟨pre, hraw.symm, hj⟩⟩
    · have i0 : (8 : Int) ≤ (rest.length : Int) := by omega
      obtain ⟨m, hm⟩ : ∃ m, m = Walp.num (rest.take 4) := ⟨_, rfl⟩
      have hw1 := word_any hR.toR (by unfold maxLen; omega) (by omega)
      rw [← hm] at hw1
      have hml : m < 4294967296 := by
        have h1 := Walp.num_lt (rest.take 4)
        rw [show (rest.take 4).length = 4 by simp; omega] at h1
        rw [hm]; exact h1
      have HW1 := Lib.hid hw1
      have i1 : (m : Int) < 4294967296 := by omega
      obtain ⟨g, off, rfl, hcl⟩ := hcell (by omega)
      have HC := Lib.hid hcl
      clear hw1 hcell hcl
      by_cases hlt : rest.length - 8 < m
      · have i2 : (rest.length : Int) - 8 < (m : Int) := by omega
        have hn1 : Walp.raw1 rest = none := by unfold Walp.raw1; rw [if_neg h8, if_pos (by rw [← hm]; exact hlt)]
        rw [Walp.raw_none hn1, List.append_nil] at hraw
        have HRW := Lib.hid hraw
        clear hraw hm hn1 hlt
        gi_wp2_with (refine ⟨trivial, fun h => (by cases h), ?_⟩; gi_at_call 81; refine (callsIn_wide.2 HW1.out).mono ?_; rintro e w2 ⟨rfl, hk2⟩)
        refine bodyPost_ret (results_none rfl _ _ _) rfl ?_
        exact ⟨⟨_, rfl⟩, .inl ⟨pre, HRW.out.symm, HJ.out _ _ _ hj hk2⟩⟩
      · obtain ⟨d, hd⟩ : ∃ d, d = rest.length - 8 := ⟨_, rfl⟩
        have i2 : (rest.length : Int) - 8 = (d : Int) := by omega
        have i2' : ¬ (d : Int) < (m : Int) := by omega
        have i2'' : ¬ d < m := by omega
        have HD := Lib.hid hd
        clear hd
        have hmx : Tryz.prog.follows .mixedOrders = true := by kernel_rfl
        have HRW := Lib.hid hraw
        have HM := Lib.hid hm
        have HMX := Lib.hid hmx
        clear hraw hm hmx hlt
        have hdm : ¬ rest.length - 8 < m := by have := HD.out; omega
        have h1 := raw1_is h8 HM.out hdm
        have hx := Walp.raw1_some h1
        simp only at hx
        have hql : ((rest.drop 8).take m).length = m := by simp; omega
        rw [Walp.raw_some h1] at HRW
        simp only [hql] at HRW
        obtain ⟨s, hs⟩ : ∃ s, s = Walp.num ((rest.drop 4).take 4) := ⟨_, rfl⟩
        obtain ⟨q, hq⟩ : ∃ q, q = (rest.drop 8).take m := ⟨_, rfl⟩
        obtain ⟨o, ho⟩ : ∃ o, o = if cap = 8 then off else off + 8 := ⟨_, rfl⟩
        rw [← hq] at hql HRW
        rw [← hs] at HRW
        have hsl : s < 4294967296 := by rw [hs]; exact hx.2.2.2.2.2
        have hsub := sub_slice HC.out (k := 8) (e := 8 + m) (by omega) (by omega) hlc hcm o ho
        rw [drop_take_swap, ← hq, Nat.add_sub_cancel_left] at hsub
        have hsub' : SliceR w0 (.slice (some ⟨g, o, none⟩) q.length (cap - 8)) q := by rw [hql]; exact hsub.toR
        obtain ⟨x, hxe⟩ : ∃ x : Fr w0, x = ⟨s, q, some ⟨g, o, none⟩, cap - 8, hsl, hsub', by rw [hql]; omega⟩ := ⟨_, rfl⟩
        have hpair : x.pair = (s, q) := by rw [hxe]; rfl
        have henc : x.encs = #[.int .u32 (s : Int), .slice (some ⟨g, o, none⟩) m (cap - 8)] := by rw [hxe]; simp only [Fr.encs, hql]
        have hlen : pre.length < (Walp.raw b).length := by rw [HRW.out]; simp
        have hyy : ∀ W', J pre W' → YieldAt Fence.wide (n - 1) Tryz.prog l #[.int .u32 (s : Int), .slice (some ⟨g, o, none⟩) m (cap - 8)] W' (fun e W2 => ∃ c : Bool, e = .returned (.bool c) ∧ Went w0 J Jx (pre ++ [x]) W' c W2) := fun W' hj' => by rw [← henc]; exact HY.out pre x W' hj' hlen
        have HP := Lib.hid hpair
        have HS := Lib.hid hs
        have HO := Lib.hid ho
        obtain ⟨e, he⟩ : ∃ e, e = 8 + m := ⟨_, rfl⟩
        have ie : (8 : Int) + (m : Int) = (e : Int) := by omega
        have HE := Lib.hid he
        have hem : m = e - 8 := by omega
        have hyy : ∀ W', J pre W' → YieldAt Fence.wide (n - 1) Tryz.prog l #[.int .u32 (s : Int), .slice (some ⟨g, o, none⟩) (e - 8) (cap - 8)] W' (fun e W2 => ∃ c : Bool, e = .returned (.bool c) ∧ Went w0 J Jx (pre ++ [x]) W' c W2) := by rw [← hem]; exact hyy
        have HYY := Lib.hid hyy
        clear he hem
        have hrs := sub_slice HC.out (k := 8 + m) (e := rest.length) (by omega) (Nat.le_refl _) hlc hcm _ rfl
        rw [List.take_length] at hrs
        have HRS := Lib.hid hrs
        clear hx h1 hql hs hq ho hsub hsub' hpair henc hlen hyy hxe hdm hrs
        gi_wp2_with (refine ⟨trivial, fun h => (by cases h), ?_⟩; gi_at_call 81; refine (callsIn_wide.2 HW1.out).mono ?_; rintro e w2 ⟨rfl, hk2⟩)
        have i3 : (8 : Int) ≤ (e : Int) := by have := HE.out; omega
        have i3' : 8 ≤ e := by have := HE.out; omega
        have i4 : (e : Int) ≤ (cap : Int) := by have := HD.out; have := HE.out; omega
        have i4' : e ≤ cap := by omega
        have i5 : (4 : Int) ≤ (rest.length : Int) := by omega
        have i6 : (8 : Int) ≤ (cap : Int) := by omega
        have i7 : (rest.length : Int) ≤ (cap : Int) := by omega
        have hw4 : ∀ W', Like wr W' → Calls Tryz.prog 81 #[.slice (some ⟨g, off + 4, none⟩) (rest.length - 4) (cap - 4)] W' fun r w' => r = .returned (.int .u32 (s : Int)) ∧ Like W' w' := by
          intro W' hk
          have h1 := sub_slice HC.out (k := 4) (e := rest.length) (by omega) (Nat.le_refl _) hlc hcm (off + 4) (by rw [if_neg (by omega)])
          rw [List.take_length] at h1
          have h2 : SliceR W' (.slice (some ⟨g, off + 4, none⟩) (rest.drop 4).length (cap - 4)) (rest.drop 4) := by
            rw [List.length_drop]
            exact ((h1.turned (Below.turn hbw _)).toR).like hk
          have := word_any h2 (by rw [List.length_drop]; unfold maxLen; omega) (by rw [List.length_drop]; omega)
          rw [List.length_drop, ← HS.out] at this
          exact this
        have hkd : Like wr w2.drew := hk2.trans ⟨rfl, rfl, rfl, rfl⟩
        have HW4 := Lib.hid (hw4 _ hkd)
        have HKD := Lib.hid hkd
        clear hw4 hkd
        have j1 : ¬ cap = 4 := by omega
        have H88 := Lib.hid h8
        clear h8
        have hfin : ∀ w5, Below w0.heap.size wr w5 → Below w0.heap.size w0 w5 := fun w5 h => hbw.trans h
        have HFIN := Lib.hid hfin
        have hbk : ∀ w3, Like w2.drew w3 → Below w0.heap.size wr w3 := fun w3 hk => by
          have k := HKD.out.trans hk
          exact ⟨k.os, k.tape, k.output, by rw [k.heap]; exact Nat.le_refl _, fun i _ => by rw [k.heap]⟩
        have HBK := Lib.hid hbk
        have hgo : ∀ w3 w5, Like w2.drew w3 → Went w0 J Jx (pre ++ [x]) w3 true w5 → ∀ o2 : Nat, o2 = (if cap = 8 + m then off else off + (8 + m)) → (∃ (pre : List (Fr w0)) (rest' : List UInt8), SliceC w0 (.slice (some ⟨g, o2, none⟩) (rest.length - e) (cap - e)) rest' ∧ Walp.raw b = pre.map Fr.pair ++ Walp.raw rest' ∧ J pre w5 ∧ Below w0.heap.size w0 w5) := by
          intro w3 w5 hk hw o2 ho2
          obtain ⟨h1, h2⟩ := hw.1 rfl
          refine ⟨pre ++ [x], rest.drop (8 + m), ?_, ?_, h1, HFIN.out _ ((HBK.out _ hk).trans h2)⟩
          · have := HRS.out
            rw [← ho2, ← HE.out] at this
            rw [HE.out]; rw [HE.out] at this; exact this
          · rw [HRW.out, List.map_append, List.append_assoc]
            congr 1
            simp only [List.map_cons, List.map_nil, HP.out, List.singleton_append]
        have HGO := Lib.hid hgo
        have hno : ∀ w3 w5, Went w0 J Jx (pre ++ [x]) w3 false w5 → (∃ pre : List (Fr w0), pre.map Fr.pair <+: Walp.raw b ∧ Jx pre w5) := by
          intro w3 w5 hw
          refine ⟨pre ++ [x], ?_, hw.2 rfl⟩
          rw [HRW.out, List.map_append]
          simp only [List.map_cons, List.map_nil, HP.out]
          exact ⟨Walp.raw (rest.drop (8 + m)), by rw [List.append_assoc, List.singleton_append]⟩
        have HNO := Lib.hid hno
        clear hfin hbk hgo hno
        have hcases : (cap = 8 ∧ cap = e) ∨ (¬ cap = 8 ∧ cap = e) ∨ (¬ cap = 8 ∧ ¬ cap = e) := by have := HE.out; have := HD.out; omega
        rcases hcases with ⟨hc8, hce⟩ | ⟨hc8, hce⟩ | ⟨hc8, hce⟩
        · have ho : o = off := by rw [HO.out, if_pos hc8]
          have HCE := Lib.hid hce
          have j2 : (cap = 8) = True := eq_true hc8
          have j3 : (cap = e) = True := eq_true hce
          clear hc8 hce
          subst ho
          gi_region_with (first | (refine ⟨trivial, fun h => (by cases h), ?_⟩; gi_at_call 81; (with_reducible refine (callsIn_wide.2 HW4.out).mono ?_); rintro e w3 ⟨rfl, hk3⟩; obtain ⟨fn, tmps, assign, body, hy, hRR⟩ := HYY.out w3 (HJ.out _ _ _ hj (HKD.out.trans hk3))) | (refine ⟨fun h => (by cases h), ?_⟩; refine hRR.mono ?_; rintro e w5 ⟨c, rfl, hwent⟩))
          cases c with
          | false =>
            have HX := Lib.hid (HNO.out _ _ hwent)
            clear hwent hy hRR hk3 hk2 i0 i1 i2 i2' i2'' i3 i3' i4 i4' i5 i6 i7 ie j1 j2 j3 hlc hcm
            gi_wp2
            refine bodyPost_ret (results_none rfl _ _ _) rfl ?_
            exact ⟨⟨_, rfl⟩, .inr HX.out⟩
          | true =>
            have HX := Lib.hid (HGO.out _ _ hk3 hwent _ (by have := HE.out; rw [if_pos (by have := HCE.out; omega)]))
            have hl2 : (e : Int) ≤ (rest.length : Int) := by have := HD.out; have := HE.out; omega
            have k1 : e ≤ rest.length := by omega
            have hms : rest.length - e < rest.length := by omega
            have HMS := Lib.hid hms
            clear hwent hy hRR hk3 hk2 hms i0 i1 i2 i2' i2'' i3 i3' i5 i6 i7 ie j1 hcm j2
            gi_wp2
            go_roundw
            case rel => exact HX.out
            case measure => exact HMS.out
        · have ho : o = off + 8 := by rw [HO.out, if_neg hc8]
          have HCE := Lib.hid hce
          have j2 := hc8
          have j3 : (cap = e) = True := eq_true hce
          clear hc8 hce
          subst ho
          gi_region_with (first | (refine ⟨trivial, fun h => (by cases h), ?_⟩; gi_at_call 81; (with_reducible refine (callsIn_wide.2 HW4.out).mono ?_); rintro e w3 ⟨rfl, hk3⟩; obtain ⟨fn, tmps, assign, body, hy, hRR⟩ := HYY.out w3 (HJ.out _ _ _ hj (HKD.out.trans hk3))) | (refine ⟨fun h => (by cases h), ?_⟩; refine hRR.mono ?_; rintro e w5 ⟨c, rfl, hwent⟩))
          cases c with
          | false =>
            have HX := Lib.hid (HNO.out _ _ hwent)
            clear hwent hy hRR hk3 hk2 i0 i1 i2 i2' i2'' i3 i3' i4 i4' i5 i6 i7 ie j1 j2 j3 hlc hcm
            gi_wp2
            refine bodyPost_ret (results_none rfl _ _ _) rfl ?_
            exact ⟨⟨_, rfl⟩, .inr HX.out⟩
          | true =>
            have HX := Lib.hid (HGO.out _ _ hk3 hwent off (by have := HE.out; rw [if_pos (by have := HCE.out; omega)]))
            have hl2 : (e : Int) ≤ (rest.length : Int) := by have := HD.out; have := HE.out; omega
            have k1 : e ≤ rest.length := by omega
            have hms : rest.length - e < rest.length := by omega
            have HMS := Lib.hid hms
            clear hwent hy hRR hk3 hk2 hms i0 i1 i2 i2' i2'' i3 i3' i5 i6 i7 ie j1 hcm j2
            gi_wp2
            go_roundw
            case rel => exact HX.out
            case measure => exact HMS.out
        · have ho : o = off + 8 := by rw [HO.out, if_neg hc8]
          have HCE := Lib.hid hce
          have j2 := hc8
          have j3 := hce
          clear hc8 hce
          subst ho
          gi_region_with (first | (refine ⟨trivial, fun h => (by cases h), ?_⟩; gi_at_call 81; (with_reducible refine (callsIn_wide.2 HW4.out).mono ?_); rintro e w3 ⟨rfl, hk3⟩; obtain ⟨fn, tmps, assign, body, hy, hRR⟩ := HYY.out w3 (HJ.out _ _ _ hj (HKD.out.trans hk3))) | (refine ⟨fun h => (by cases h), ?_⟩; refine hRR.mono ?_; rintro e w5 ⟨c, rfl, hwent⟩))
          cases c with
          | false =>
            have HX := Lib.hid (HNO.out _ _ hwent)
            clear hwent hy hRR hk3 hk2 i0 i1 i2 i2' i2'' i3 i3' i4 i4' i5 i6 i7 ie j1 j2 j3 hlc hcm
            gi_wp2
            refine bodyPost_ret (results_none rfl _ _ _) rfl ?_
            exact ⟨⟨_, rfl⟩, .inr HX.out⟩
          | true =>
            have HX := Lib.hid (HGO.out _ _ hk3 hwent (off + e) (by have := HE.out; rw [if_neg (by have := HCE.out; omega)]; omega))
            have hl2 : (e : Int) ≤ (rest.length : Int) := by have := HD.out; have := HE.out; omega
            have k1 : e ≤ rest.length := by omega
            have hms : rest.length - e < rest.length := by omega
            have HMS := Lib.hid hms
            clear hwent hy hRR hk3 hk2 hms i0 i1 i2 i2' i2'' i3 i3' i5 i6 i7 ie j1 hcm j2
            gi_wp2
            go_roundw
            case rel => exact HX.out
            case measure => exact HMS.out

end
end Go.Proofs.YtinghngnehhgfaaGreatDoor

/-
  Scan.
-/
namespace Go.Proofs.YtinghngnehhgfaaGreatDoor
open Go.RowKit Go.Maps Go.WideMaps Go.Shelf
attribute [local go_sem] Oper.semAt_some

section
variable {w w' : World} {Q : Nat → Prop}

theorem infoBytes : (Tryz.prog.info? 33).map (fun i => (i.zero, i.size, i.bytes)) = some (some (.slice none 0 0), 1, 24) := by kernel_rfl

/-- frames hands back what goes over them -/
theorem iter_stops (w0 ww : World) (hb0 : Below w0.heap.size w0 ww) (n : Nat) (Bs : Nat) (v : Value) (b : List UInt8) (hb : SliceC w0 v b) (hBs : ww.cell? ⟨Bs, 0, none⟩ = some v) (hl : Bs < ww.heap.size) :
    SeqStopsK Fence.wide n Tryz.prog 80 #[.pointer (some ⟨Bs, 0, none⟩)] (Fr.encs (w := w0)) (Below w0.heap.size) (fun ys => ys.map Fr.pair = Walp.raw b) (fun pre => pre.map Fr.pair <+: Walp.raw b) (Walp.raw b).length ww := by
  intro l J Jx W hW hJ hJx hY h0
  refine iter_in w0 n l Bs v b hb J Jx (fun pre W1 W2 hj hk => hJ pre W1 W2 none hj ⟨hk.os, hk.tape, hk.output, by rw [hk.heap]; exact Nat.le_refl _, fun i _ _ => by rw [hk.heap]⟩ (fun r e => by cases e)) (fun pre x W1 hj hlen => ?_) W (hb0.trans (hW.mono hb0.size)) ((hW.cell (p := ⟨Bs, 0, none⟩) hl).trans hBs) h0
  obtain ⟨fn, tmps, assign, body, hy, hR⟩ := hY pre x W1 hj hlen
  refine ⟨fn, tmps, assign, body, hy, hR.mono ?_⟩
  rintro e W2 (⟨rfl, hj2, hk2⟩ | ⟨rfl, hj2⟩)
  · exact ⟨true, rfl, (fun _ => ⟨hj2, hk2⟩), (fun h => by cases h)⟩
  · exact ⟨false, rfl, (fun h => by cases h), fun _ => hj2⟩

/-- between two rounds -/
def Rounds (w : World) (pre : List (Fr w)) (W : World) : Prop :=
  (∃ v, Boxed W w.heap.size 22 v ∧ ListsO W (w.heap.size + 2) v (pre.map Fr.q)) ∧ Boxed W (w.heap.size + 1) 3 (.int .i64 ((Walp.frames (pre.map Fr.q)).length : Nat)) ∧ (pre.map Fr.pair).all Walp.sound = true ∧ Below w.heap.size w W

theorem stepIn_append {F : Fence} {n : Nat} {P : Program} {w : World} {ops : Array Oper} {o : Oper} {a : Act} {K : Act → World → Prop} {Q : Exit → Act → World → Prop} {E : Prop} (hgd : o.guard = none) (s x : Operand) (t : TypeId)
    (hop : o.op = Op.call { callee := Callee.builtin Builtin.append, args := #[s, x], argTypes := #[t, t] })
    (base : Nat) (e : TypeId) (i : TypeInfo) (z : Value) (size bytes : Nat) (h1 : P.underlying t = some (.slice e)) (h2 : P.info? e = some i) (h3 : i.zero = some z) (h4 : i.size = size) (h5 : i.bytes = bytes) (h6 : z.cells.size = size) (h7 : 0 < size)
    (v : Value) (k : Nat) (xs : List Value) (hs : a.eval s = v) (hown : w.ownsRow base e size v k xs) (ad : Addr) (m c : Nat) (news : List Value) (hx : a.eval x = .slice (some ad) m c) (hn : news.length = m * size)
    (hc : ∀ j u, news[j]? = some u → w.cell? (ad.add j) = some u) (h1c : ∀ u ∈ news, u.oneCell' = true) (b1 : k + m ≤ maxLen) (b2 : (k + m) * bytes ≤ 140737488355328) (b3 : base ≤ w.heap.size)
    (hK : ∀ v' w', w'.ownsRow base e size v' (k + m) (xs ++ news) → w.grownBy w' v.ownBlock → K (a.put o.dst v') w') :
    if Region.wanted o (yielded ops a.tmps) = true then Oper.wpIn F n P o a w K Q else E := by
  have hw : Region.wanted o (yielded ops a.tmps) = true := by simp [Region.wanted, hgd]
  rw [if_pos hw]
  obtain ⟨v', w', hrun, r1, r2, _⟩ := run_append_own (P := P) w base t o.type e i z size bytes h1 h2 h3 h4 h5 h6 h7 v k xs hown ad m c news hn hc h1c b1 b2 b3
  unfold Oper.wpIn
  refine ⟨?_, ?_⟩
  · simp [Oper.about, hop, resolve, Target.leads, Sem.run_pure]
  · rw [Oper.semAt_plain F _ _ (by rw [hop]; intro c hc'; cases hc')]
    simp [execOp, hop, resolve, invoke, builtin, hs, hx, hrun, Result.andThen]
    exact hK _ _ r1 r2

theorem sound_frames {l : List (Nat × List UInt8)} (h : l.all Walp.sound = true) : (Walp.frames (l.map (·.2))).length ≤ l.length * 1048584 := by
  induction l with
  | nil => simp [Walp.frames]
  | cons x r ih =>
    rw [List.all_cons, Bool.and_eq_true] at h
    have h2 := ih h.2
    have h1 := h.1
    unfold Walp.sound at h1
    simp only [Bool.and_eq_true, decide_eq_true_eq] at h1
    rw [List.map_cons, Walp.frames_cons, List.length_append, Walp.frame_length, List.length_cons]
    omega

theorem pair_q (l : List (Fr w)) : (l.map Fr.pair).map (·.2) = l.map Fr.q := by rw [List.map_map]; rfl

theorem own_mono {base base' : Nat} {e : TypeId} {n : Nat} {u : Value} {xs : List Value} (k : w.ownsRow base e 1 u n xs) (hb : base' ≤ base) : w.ownsRow base' e 1 u n xs := by
  refine ⟨k.1, ?_⟩
  rcases k.2 with k | ⟨g, cap, cur, e1, hg, r⟩
  · exact Or.inl k
  · exact Or.inr ⟨g, cap, cur, e1, Nat.le_trans hb hg, r⟩

theorem box_kept {W w3 w4 : World} {B base t : Nat} {u v : Value} {o : Obj} {k : Nat} {xs : List Value} (h : Boxed W B t u) (ht : Turn (fun _ => False) W w3) (hg : (w3.alloc o).grownBy w4 v.ownBlock) (hr : W.ownsRow base 33 1 v k xs) (hB : B < base) : Boxed w4 B t u := by
  have h3 : Boxed w3 B t u := (ht.block B h.lt (fun q => q)).trans h
  refine (h3.alloc o).kept hg (fun e => ?_)
  have := (own_block hr e.symm).1
  omega

theorem box_turned {W W' : World} {B t : Nat} {u : Value} (h : Boxed W B t u) (ht : Turn Q W W') (hq : ¬ Q B) : Boxed W' B t u := (ht.block B h.lt hq).trans h

theorem box_own {W W' : World} {B t : Nat} {u : Value} {row : Option Nat} {B0 : Nat} (h : Boxed W B t u) (hg : W.grownBy W' row) (hr : ∀ r, row = some r → B0 ≤ r ∧ ∃ o : Obj, W.heap[r]? = some o ∧ o.isCells = false) : Boxed W' B t u :=
  h.kept hg (fun e => by
    obtain ⟨_, o, ho, hn⟩ := hr B e.symm
    have h' : W.heap[B]? = some (.cells #[u] t (0, 0)) := h
    rw [h'] at ho; cases ho; cases hn)

theorem rounds_own (w : World) {B0 : Nat} (hB : w.heap.size ≤ B0) : OwnFrom B0 (Rounds w) := by
  rintro pre W W' row ⟨⟨v, hv, hl⟩, he, hs, hb⟩ hg hr
  exact ⟨⟨v, box_own hv hg hr, lists_own _ B0 W W' row v _ hl hg hr⟩, box_own he hg hr, hs, hb.grown hg hb.size (fun k e => Nat.le_trans hB (hr k e).1)⟩

/-- a round more -/
theorem rounds_step {w W w3 w4 : World} {pre : List (Fr w)} {x : Fr w} {v v' u : Value} {E : Nat} {xs : List Value} {base : Nat} (hk : Rounds w pre W) (hs : Walp.sound x.pair = true)
    (hv : Boxed W w.heap.size 22 v) (he : Boxed W (w.heap.size + 1) 3 (.int .i64 (E : Int))) (hE : (Walp.frames (pre.map Fr.q)).length = E)
    (hx1 : W.ownsRow (w.heap.size + 2) 33 1 v (pre.map Fr.q).length xs) (hx2 : xs.length = (pre.map Fr.q).length) (hx3 : ∀ (j : Nat) (q : List UInt8), (pre.map Fr.q)[j]? = some q → ∃ u, xs[j]? = some u ∧ W.ownsRow (w.heap.size + 2) 5 1 u q.length (q.map byteV))
    (ht : Turn (fun _ => False) W w3) (hu : w3.ownsRow base 5 1 u x.q.length (x.q.map byteV)) (hbase : W.heap.size ≤ base) {o : Obj} (hg : (w3.alloc o).grownBy w4 v.ownBlock)
    (h4 : w4.ownsRow (w.heap.size + 2) 33 1 v' ((pre.map Fr.q).length + 1) (xs ++ [u])) {z : Int} (hz : z = (E : Int) + (8 + (x.q.length : Int))) :
    KeepsOthers W ((w4.setCell ⟨w.heap.size, 0, none⟩ v').setCell ⟨w.heap.size + 1, 0, none⟩ (.int .i64 z)) ∧ Below w.heap.size W ((w4.setCell ⟨w.heap.size, 0, none⟩ v').setCell ⟨w.heap.size + 1, 0, none⟩ (.int .i64 z)) ∧
      Rounds w (pre ++ [x]) ((w4.setCell ⟨w.heap.size, 0, none⟩ v').setCell ⟨w.heap.size + 1, 0, none⟩ (.int .i64 z)) := by
  obtain ⟨_, _, hsd, hb⟩ := hk
  have hle := he.lt
  have hvb : ∀ r, v.ownBlock = some r → w.heap.size + 2 ≤ r := fun r hr => (own_block hx1 hr).1
  have t4 : Turn (fun b => v.ownBlock = some b) W w4 := ((ht.mono (fun _ q => q.elim)).alloc o).grown hg (fun k e => Or.inl e)
  have t5 : Turn (fun b => b = w.heap.size ∨ b = w.heap.size + 1) w4 ((w4.setCell ⟨w.heap.size, 0, none⟩ v').setCell ⟨w.heap.size + 1, 0, none⟩ (.int .i64 z)) := ((Turn.refl _ w4).set w.heap.size 0 (Or.inl (Or.inl rfl)) _).set (w.heap.size + 1) 0 (Or.inl (Or.inr rfl)) _
  have t6 : Turn (fun b => b = w.heap.size ∨ b = w.heap.size + 1 ∨ v.ownBlock = some b) W ((w4.setCell ⟨w.heap.size, 0, none⟩ v').setCell ⟨w.heap.size + 1, 0, none⟩ (.int .i64 z)) :=
    (t4.mono (fun _ e => Or.inr (Or.inr e))).trans t5 (fun i _ q => q.elim Or.inl (fun e => Or.inr (Or.inl e)))
  have v4 : Boxed w4 w.heap.size 22 v := box_turned hv t4 (fun e => by have := hvb _ e; omega)
  have e4 : Boxed w4 (w.heap.size + 1) 3 (.int .i64 (E : Int)) := box_turned he t4 (fun e => by have := hvb _ e; omega)
  refine ⟨⟨t6.size, fun k ob hk hn => ?_⟩, ⟨t6.os, t6.tape, t6.output, t6.size, fun k hk => t6.block k (by omega) (fun q => ?_)⟩, ⟨v', ?_, ?_⟩, ?_, ?_, ?_⟩
  · refine (t6.block k (Array.getElem?_eq_some_iff.1 hk).1 (fun q => ?_)).trans hk
    rcases q with e | e | e
    · subst e; have h' : W.heap[w.heap.size]? = some (.cells #[v] 22 (0, 0)) := hv
      rw [h'] at hk; cases hk; cases hn
    · subst e; have h' : W.heap[w.heap.size + 1]? = some (.cells #[.int .i64 (E : Int)] 3 (0, 0)) := he
      rw [h'] at hk; cases hk; cases hn
    · obtain ⟨_, _, cur, hc⟩ := own_block hx1 e
      rw [hc] at hk; cases hk; cases hn
  · rcases q with e | e | e
    · omega
    · omega
    · have := hvb _ e; omega
  · have h5 := v4.set v'
    exact box_turned h5 (turnP _ (w.heap.size + 1) 0 _) (by omega)
  · rw [List.map_append]
    have h2 : w.heap.size + 2 ≤ W.heap.size := by omega
    refine ListsO.turned (w := w4) (lists_snoc h4 hx2 (fun j q hj => ?_) ?_) t5 (fun b cs t fr q hb2 => by omega)
    · obtain ⟨y, e, ho⟩ := hx3 j q hj
      refine ⟨y, e, ownsRow_turned ho t4 (fun r hr e2 => ?_)⟩
      obtain ⟨_, _, cur, hc⟩ := own_block hx1 e2
      obtain ⟨_, _, cur2, hc2⟩ := own_block ho hr
      rw [hc] at hc2; cases hc2
    · have h3 : w3.ownsRow (w.heap.size + 2) 5 1 u x.q.length (x.q.map byteV) := own_mono hu (by omega)
      have t3 : Turn (fun b => v.ownBlock = some b) w3 w4 := ((Turn.refl _ w3).alloc o).grown hg (fun k e => Or.inl e)
      refine ownsRow_turned h3 t3 (fun r hr e2 => ?_)
      obtain ⟨_, hrl, cur, hc⟩ := own_block hx1 e2
      have hbr := (own_block hu hr).1
      omega
  · rw [List.map_append, List.map_cons, List.map_nil, Walp.frames_snoc_length, hE]
    have h5 : Boxed (w4.setCell ⟨w.heap.size, 0, none⟩ v') (w.heap.size + 1) 3 (.int .i64 (E : Int)) := box_turned e4 (turnP _ w.heap.size 0 _) (by omega)
    have h6 := h5.set (.int .i64 z)
    have ez : z = ((E + (8 + x.q.length) : Nat) : Int) := by omega
    rw [← ez]; exact h6
  · rw [List.map_append, List.all_append, hsd]
    simp only [List.map_cons, List.map_nil, List.all_cons, List.all_nil, hs, Bool.and_true]
  · refine hb.trans ⟨t6.os, t6.tape, t6.output, t6.size, fun k hk => t6.block k (by omega) (fun q => ?_)⟩
    rcases q with e | e | e
    · omega
    · omega
    · have := hvb _ e; omega

theorem scan_end {W : World} {v : Value} {l : List (List UInt8)} {b : List UInt8} {D nq : Nat} {o : Obj} (hls : ListsO W (w.heap.size + 2) v l) (hB : Below w.heap.size w W) (hD : w.heap.size ≤ D) (hK : W.heap[D]? = some (.deferred (some []))) :
    (∃ u, Ending.returned (.tuple #[v, .int .i64 ((Walp.frames l).length : Nat), .bool (((Walp.frames l).length : Int) == (b.length : Int))]) = .returned (.tuple #[u, .int .i64 ((Walp.frames l).length : Nat), .bool (decide ((Walp.frames l).length = b.length))]) ∧ ListsO ((W.drewN nq).putObj D o) w.heap.size u l) ∧ Turn (fun _ => False) w ((W.drewN nq).putObj D o) := by
  have hg := grownBy_putObj' (W.drewN nq) D o
  have hls2 : ListsO (W.drewN nq) (w.heap.size + 2) v l := hls.new (like_drewN W nq).turn
  have hb1 : Below w.heap.size w (W.drewN nq) := ⟨hB.os, hB.tape, hB.output, hB.size, hB.block⟩
  have hb2 : Below w.heap.size w ((W.drewN nq).putObj D o) := hb1.grown hg hB.size (fun k e => by cases e; exact hD)
  refine ⟨⟨v, ?_, ?_⟩, Below.turn hb2 _⟩
  · have e : (((Walp.frames l).length : Int) == (b.length : Int)) = decide ((Walp.frames l).length = b.length) := by
      rw [Bool.eq_iff_iff]; simp; omega
    rw [e]
  · exact (lists_own _ 0 _ _ _ v l hls2 hg (fun r e => by cases e; exact ⟨Nat.zero_le _, _, hK, rfl⟩)).mono (by omega)

set_option maxRecDepth 100000 in
set_option maxHeartbeats 2000000 in
theorem scan_any {v : Value} {b : List UInt8} (hT : SumTab w) (hb : SliceC w v b) (hl : b.length ≤ 1073741824) :
    Calls Tryz.prog 45 #[v] w fun r w' => (∃ u, r = .returned (.tuple #[u, .int .i64 ((Walp.frames (Walp.scan b)).length : Nat), .bool (decide ((Walp.frames (Walp.scan b)).length = b.length))]) ∧ ListsO w' w.heap.size u (Walp.scan b)) ∧ Turn (fun _ => False) w w' := by
  have hC := hb
  obtain ⟨i0, hi, hz0, hz1, hz2⟩ := info_parts infoBytes
  obtain ⟨sp, cap, rfl, hlc, hcm, hcell⟩ := hb
  have HC := Lib.hid hC
  have HT := Lib.hid hT
  clear hC hcell hT
  refine (callsIn_wide (n := 10)).1 ?_
  refine callsIn_of_wp_marks Tryz.func45 rfl trivial ?_ rfl
  simp only [Tryz.ntmps45, List.size_toArray, List.length_cons, List.length_nil, Nat.reduceAdd, Nat.reduceSub, Array.replicate_succ, Array.replicate_zero, List.push_toArray, List.append_toArray, List.nil_append, List.cons_append]
  gi_wp2
  refine wpIn_wide.2 (wp_scope_straight ((wpIn_wide (n := 10)).1 ?_))
  gi_wp2
  refine wpIn_label ?_
  have h1c : ∀ W : World, Calls Tryz.prog 61 #[.slice sp b.length cap] W fun r w' => r = .returned (.func (.func 80) #[] #[.pointer (some ⟨W.heap.size, 0, none⟩)]) ∧ W.alloc (.cells #[.slice sp b.length cap] 33) = w' := fun W => frames_any sp b.length cap W
  have H1C := Lib.hid h1c
  clear h1c
  gi_wp2_with (refine ⟨trivial, ?_⟩; gi_at_call 61; refine (callsIn_wide.2 (H1C.out _)).mono ?_; rintro e w1 ⟨rfl, rfl⟩)
  have bR := Boxed.new w 22 (.slice none 0 0)
  have bE := Boxed.new (w.alloc (.cells #[.slice none 0 0] 22)) 3 (.int .i64 0)
  have bF := Boxed.new ((w.alloc (.cells #[.slice none 0 0] 22)).alloc (.cells #[.int .i64 0] 3)) 33 (.slice sp b.length cap)
  have hB0 : Below w.heap.size w (((w.alloc (.cells #[.slice none 0 0] 22)).alloc (.cells #[.int .i64 0] 3)).alloc (.cells #[.slice sp b.length cap] 33)) := (((Below.refl _ w).alloc (Nat.le_refl _) _).alloc (by simp) _).alloc (by simp; omega) _
  simp only [World.size_alloc, Nat.add_assoc, Nat.reduceAdd] at bE bF ⊢
  have bR1 := (bR.alloc (.cells #[.int .i64 0] 3)).alloc (.cells #[.slice sp b.length cap] 33)
  have bE1 := bE.alloc (.cells #[.slice sp b.length cap] 33)
  have hsz : (((w.alloc (.cells #[.slice none 0 0] 22)).alloc (.cells #[.int .i64 0] 3)).alloc (.cells #[.slice sp b.length cap] 33)).heap.size = w.heap.size + 3 := by simp
  obtain ⟨ww, hww⟩ : ∃ ww, ((w.alloc (.cells #[.slice none 0 0] 22)).alloc (.cells #[.int .i64 0] 3)).alloc (.cells #[.slice sp b.length cap] 33) = ww := ⟨_, rfl⟩
  rw [hww] at bR1 bE1 bF hB0 hsz ⊢
  clear bR bE hww
  refine wpIn_rangeFunc_ownF rfl (by decide) (gf := 80) (lb := #[.pointer (some ⟨w.heap.size + 2, 0, none⟩)]) rfl trivial (enters_of Tryz.func80 (by kernel_rfl) rfl)
    (iter_stops w ww hB0 _ (w.heap.size + 2) _ b HC.out bF.cell (by omega)) belowK_t (belowK_b (by omega)) (Below.refl _ _) (fun _ => rfl)
    (Rounds w) (fun c pre W => c = .exit 0 ∧ ∃ pre' x, pre = pre' ++ [x] ∧ Walp.sound x.pair = false ∧ Rounds w pre' W) ?hI ?hIx ?h0
    (fun x => { tmps := #[.slice sp b.length cap, undef, .slice none 0 0, .int .i64 0, .bool false, .pointer (some ⟨w.heap.size, 0, none⟩), .pointer (some ⟨w.heap.size + 1, 0, none⟩), .int .u32 (x.sum : Int), .slice x.sp x.q.length x.cap, .slice sp b.length cap, .func (.func 80) #[] #[.pointer (some ⟨w.heap.size + 2, 0, none⟩)], .int .u32 (x.sum : Int), .slice x.sp x.q.length x.cap, undef, undef, undef, undef, undef, undef, undef, undef, undef, undef, undef, undef, undef, undef, undef, undef, undef, undef, undef, undef, undef, undef, undef, undef, undef], defers := [] }) ?assign ?body ?done ?stop
  case hI => exact rounds_own w (by omega)
  case hIx =>
    rintro c pre A B row ⟨hc, pre', x, e, hs, hr⟩ hg hrow
    exact ⟨hc, pre', x, e, hs, rounds_own w (by omega) pre' A B row hr hg hrow⟩
  case h0 =>
    refine ⟨⟨_, bR1, ListsO.nil _ _⟩, bE1, rfl, hB0⟩
  case assign =>
    intro l x W K hK
    gi_wp2
    exact hK
  case body =>
    rintro l pre x W ⟨⟨v, hv, hls⟩, he, hsd, hB⟩ hlt
    have HT3 := Lib.hid (HT.out.turned (Below.turn hB _))
    have hq := x.rd.turned (Below.turn hB _)
    have HQ := Lib.hid hq
    clear hq
    have hkeep : Rounds w pre W := ⟨⟨v, hv, hls⟩, he, hsd, hB⟩
    have HK := Lib.hid hkeep
    clear hkeep
    by_cases hlong : 1048576 < x.q.length
    · have i1 : (1048576 : Int) < (x.q.length : Int) := by omega
      have hns : Walp.sound x.pair = false := by unfold Walp.sound Fr.pair; simp; intro; omega
      have HNS := Lib.hid hns
      clear hns hlong
      gi_wp2
      refine ⟨trivial, ?_⟩
      gi_wp2
      exact ⟨KeepsOthers.refl _, rfl, pre, x, rfl, HNS.out, HK.out⟩
    · have i1 : (x.q.length : Int) ≤ 1048576 := by omega
      by_cases hsum : Walp.sum x.q = x.sum
      · have b1 : (((Walp.sum x.q : Nat) : Int) != (x.sum : Int)) = false := by rw [hsum]; simp
        have hs : Walp.sound x.pair = true := by unfold Walp.sound Fr.pair; simp [hsum]; omega
        have HS := Lib.hid hs
        have hc := hv.cell
        have hcop := wCopied_any HQ.out x.len
        have HCOP := Lib.hid hcop
        clear hs hlong hsum hcop
        gi_wp2_with (refine ⟨trivial, ?_⟩; gi_at_call 51; refine (CallsIn.inRound l (callsIn_wide.2 (sum_any HT3.out HQ.out x.len))).mono ?_; rintro e w' ⟨rfl, rfl⟩)
        have hcop' := wCopied_any (w := W.drew) (HQ.out.like ⟨rfl, rfl, rfl, rfl⟩) x.len
        have HCOP' := Lib.hid hcop'
        clear hcop'
        obtain ⟨xs, hx1, hx2, hx3⟩ := hls
        have hpl : (pre.map Fr.q).length < 134217728 := by
          have h1 := Walp.raw_length b
          simp; omega
        have hE : (Walp.frames (pre.map Fr.q)).length ≤ 281474976710656 := by
          have h1 := sound_frames hsd
          rw [pair_q, List.length_map] at h1
          have h2 : pre.length < 134217728 := by simpa using hpl
          omega
        have hE2 : ((Walp.frames (pre.map Fr.q)).length : Int) ≤ 281474976710656 := by omega
        have HX1 := Lib.hid hx1
        have HX2 := Lib.hid hx2
        have HX3 := Lib.hid hx3
        clear hx2 hx3
        have HPL := Lib.hid hpl
        have HBB := Lib.hid hB
        have HVB := Lib.hid hv
        have HEB := Lib.hid he
        have hc6 := he.cell
        have hf6 := he.frozen
        clear hx1 hpl hE he hv
        generalize hEE : (Walp.frames (pre.map Fr.q)).length = E at hE2 hc6
        have HEE := Lib.hid hEE
        clear hEE
        refine wpIn_region_any (by kernel_rfl) ?_
        try (change wpAnyIn _ _ _ _ _ _ _ _ _ (World.drew _))
        refine wpAnyIn_ready (rs := [0, 1]) (by kernel_rfl) (by simp) ?_
        refine AllReadyIn.cons rfl (fun K hK => ?_) (AllReadyIn.cons rfl (fun K hK => ?_) AllReadyIn.nil)
        · (go_simp; refine hK _ _ ?_; clear hK K)
          refine wpAnyIn_ready (rs := [1]) (by kernel_rfl) (by simp) ?_
          refine AllReadyIn.cons rfl (fun K hK => ?_) AllReadyIn.nil
          (go_simp; refine hK _ _ ?_; clear hK K)
          refine wpAnyIn_ready (rs := [2]) (by kernel_rfl) (by simp) ?_
          refine AllReadyIn.cons rfl (fun K hK => ?_) AllReadyIn.nil
          (go_simp; gi_wp2_with (refine ⟨trivial, ?_⟩; gi_at_call 62; refine (CallsIn.inRound l (callsIn_wide.2 HCOP'.out)).mono ?_; rintro e w3 ⟨g, rfl, hown3, ht3⟩; have hc3 := turn_cell ht3 (show W.drew.cell? ⟨w.heap.size, 0, none⟩ = some v from hc); have hc3a := cell_alloc hc3 (.cells #[.slice (some ⟨g, 0, none⟩) x.q.length x.q.length] 33); have HT7 := Lib.hid ((Turn.refl (fun _ => False) W).drew.trans ht3 (fun _ _ q => q)); have HROW := Lib.hid (ownsRow_turned HX1.out HT7.out (fun _ _ q => q)); have HO3 := Lib.hid hown3; clear hown3 ht3))
          refine wpAnyIn_ready (rs := [3]) (by kernel_rfl) (by simp) ?_
          refine AllReadyIn.cons rfl (fun K hK => ?_) AllReadyIn.nil
          (go_simp; refine hK _ _ ?_; clear hK K)
          refine wpAnyIn_ready (rs := [4]) (by kernel_rfl) (by simp) ?_
          refine AllReadyIn.cons rfl (fun K hK => ?_) AllReadyIn.nil
          refine stepIn_append rfl (.tmp 22) (.tmp 25) 22 rfl (w.heap.size + 2) 33 i0 (.slice none 0 0) 1 24 Tryz.underlying22 hi hz0 hz1 hz2 rfl (by decide) v _ _ (by rfl) (HROW.out.alloc _) ⟨w3.heap.size, 0, none⟩ 1 1 [.slice (some ⟨g, 0, none⟩) x.q.length x.q.length] (by rfl) rfl (cell_one_new _ _ _) (by simp [Value.oneCell']) (by have := HPL.out; unfold maxLen; omega) (by have := HPL.out; omega) (by have h1 := HBB.out.size; have h2 := HT7.out.size; have h3 := HVB.out.lt; have h4 := HEB.out.lt; simp; omega) ?_
          intro v' w4 hown4 hgrow4
          obtain ⟨g', cap', rfl⟩ := ownsRow_succ hown4
          have HO4 := Lib.hid hown4
          have HG4 := Lib.hid hgrow4
          have hv4 := box_kept HVB.out HT7.out hgrow4 HX1.out (by omega)
          have he4 := box_kept HEB.out HT7.out hgrow4 HX1.out (by omega)
          have hc4 := hv4.cell
          have hf4 := hv4.frozen
          have hc5 := he4.cell
          have hf5 := he4.frozen
          rw [HEE.out] at hc5
          clear hown4 hgrow4 hv4 he4
          refine hK _ _ ?_
          clear hK K
          refine wpAnyIn_ready (rs := [5]) (by kernel_rfl) (by simp) ?_
          refine AllReadyIn.cons rfl (fun K hK => ?_) AllReadyIn.nil
          (go_simp; refine hK _ _ ?_; clear hK K)
          refine wpAnyIn_done (by kernel_rfl) ?_ _
          gi_wp2
          have hfin := rounds_step HK.out HS.out HVB.out (by rw [← HEE.out]; exact HEB.out) HEE.out HX1.out HX2.out HX3.out HT7.out HO3.out (Nat.le_refl _) HG4.out HO4.out rfl; simp only [List.length_map] at hfin; exact hfin
        · (go_simp; refine hK _ _ ?_; clear hK K)
          refine wpAnyIn_ready (rs := [0, 2]) (by kernel_rfl) (by simp) ?_
          refine AllReadyIn.cons rfl (fun K hK => ?_) (AllReadyIn.cons rfl (fun K hK => ?_) AllReadyIn.nil)
          · (go_simp; refine hK _ _ ?_; clear hK K)
            refine wpAnyIn_ready (rs := [2]) (by kernel_rfl) (by simp) ?_
            refine AllReadyIn.cons rfl (fun K hK => ?_) AllReadyIn.nil
            (go_simp; gi_wp2_with (refine ⟨trivial, ?_⟩; gi_at_call 62; refine (CallsIn.inRound l (callsIn_wide.2 HCOP'.out)).mono ?_; rintro e w3 ⟨g, rfl, hown3, ht3⟩; have hc3 := turn_cell ht3 (show W.drew.cell? ⟨w.heap.size, 0, none⟩ = some v from hc); have hc3a := cell_alloc hc3 (.cells #[.slice (some ⟨g, 0, none⟩) x.q.length x.q.length] 33); have HT7 := Lib.hid ((Turn.refl (fun _ => False) W).drew.trans ht3 (fun _ _ q => q)); have HROW := Lib.hid (ownsRow_turned HX1.out HT7.out (fun _ _ q => q)); have HO3 := Lib.hid hown3; clear hown3 ht3))
            refine wpAnyIn_ready (rs := [3]) (by kernel_rfl) (by simp) ?_
            refine AllReadyIn.cons rfl (fun K hK => ?_) AllReadyIn.nil
            (go_simp; refine hK _ _ ?_; clear hK K)
            refine wpAnyIn_ready (rs := [4]) (by kernel_rfl) (by simp) ?_
            refine AllReadyIn.cons rfl (fun K hK => ?_) AllReadyIn.nil
            refine stepIn_append rfl (.tmp 22) (.tmp 25) 22 rfl (w.heap.size + 2) 33 i0 (.slice none 0 0) 1 24 Tryz.underlying22 hi hz0 hz1 hz2 rfl (by decide) v _ _ (by rfl) (HROW.out.alloc _) ⟨w3.heap.size, 0, none⟩ 1 1 [.slice (some ⟨g, 0, none⟩) x.q.length x.q.length] (by rfl) rfl (cell_one_new _ _ _) (by simp [Value.oneCell']) (by have := HPL.out; unfold maxLen; omega) (by have := HPL.out; omega) (by have h1 := HBB.out.size; have h2 := HT7.out.size; have h3 := HVB.out.lt; have h4 := HEB.out.lt; simp; omega) ?_
            intro v' w4 hown4 hgrow4
            obtain ⟨g', cap', rfl⟩ := ownsRow_succ hown4
            have HO4 := Lib.hid hown4
            have HG4 := Lib.hid hgrow4
            have hv4 := box_kept HVB.out HT7.out hgrow4 HX1.out (by omega)
            have he4 := box_kept HEB.out HT7.out hgrow4 HX1.out (by omega)
            have hc4 := hv4.cell
            have hf4 := hv4.frozen
            have hc5 := he4.cell
            have hf5 := he4.frozen
            rw [HEE.out] at hc5
            clear hown4 hgrow4 hv4 he4
            refine hK _ _ ?_
            clear hK K
            refine wpAnyIn_ready (rs := [5]) (by kernel_rfl) (by simp) ?_
            refine AllReadyIn.cons rfl (fun K hK => ?_) AllReadyIn.nil
            (go_simp; refine hK _ _ ?_; clear hK K)
            refine wpAnyIn_done (by kernel_rfl) ?_ _
            gi_wp2
            have hfin := rounds_step HK.out HS.out HVB.out (by rw [← HEE.out]; exact HEB.out) HEE.out HX1.out HX2.out HX3.out HT7.out HO3.out (Nat.le_refl _) HG4.out HO4.out rfl; simp only [List.length_map] at hfin; exact hfin
          · (go_simp; gi_wp2_with (refine ⟨trivial, ?_⟩; gi_at_call 62; refine (CallsIn.inRound l (callsIn_wide.2 HCOP'.out)).mono ?_; rintro e w3 ⟨g, rfl, hown3, ht3⟩; have hc3 := turn_cell ht3 (show W.drew.cell? ⟨w.heap.size, 0, none⟩ = some v from hc); have hc3a := cell_alloc hc3 (.cells #[.slice (some ⟨g, 0, none⟩) x.q.length x.q.length] 33); have HT7 := Lib.hid ((Turn.refl (fun _ => False) W).drew.trans ht3 (fun _ _ q => q)); have HROW := Lib.hid (ownsRow_turned HX1.out HT7.out (fun _ _ q => q)); have HO3 := Lib.hid hown3; clear hown3 ht3))
            refine wpAnyIn_ready (rs := [0, 3]) (by kernel_rfl) (by simp) ?_
            refine AllReadyIn.cons rfl (fun K hK => ?_) (AllReadyIn.cons rfl (fun K hK => ?_) AllReadyIn.nil)
            · (go_simp; refine hK _ _ ?_; clear hK K)
              refine wpAnyIn_ready (rs := [3]) (by kernel_rfl) (by simp) ?_
              refine AllReadyIn.cons rfl (fun K hK => ?_) AllReadyIn.nil
              (go_simp; refine hK _ _ ?_; clear hK K)
              refine wpAnyIn_ready (rs := [4]) (by kernel_rfl) (by simp) ?_
              refine AllReadyIn.cons rfl (fun K hK => ?_) AllReadyIn.nil
              refine stepIn_append rfl (.tmp 22) (.tmp 25) 22 rfl (w.heap.size + 2) 33 i0 (.slice none 0 0) 1 24 Tryz.underlying22 hi hz0 hz1 hz2 rfl (by decide) v _ _ (by rfl) (HROW.out.alloc _) ⟨w3.heap.size, 0, none⟩ 1 1 [.slice (some ⟨g, 0, none⟩) x.q.length x.q.length] (by rfl) rfl (cell_one_new _ _ _) (by simp [Value.oneCell']) (by have := HPL.out; unfold maxLen; omega) (by have := HPL.out; omega) (by have h1 := HBB.out.size; have h2 := HT7.out.size; have h3 := HVB.out.lt; have h4 := HEB.out.lt; simp; omega) ?_
              intro v' w4 hown4 hgrow4
              obtain ⟨g', cap', rfl⟩ := ownsRow_succ hown4
              have HO4 := Lib.hid hown4
              have HG4 := Lib.hid hgrow4
              have hv4 := box_kept HVB.out HT7.out hgrow4 HX1.out (by omega)
              have he4 := box_kept HEB.out HT7.out hgrow4 HX1.out (by omega)
              have hc4 := hv4.cell
              have hf4 := hv4.frozen
              have hc5 := he4.cell
              have hf5 := he4.frozen
              rw [HEE.out] at hc5
              clear hown4 hgrow4 hv4 he4
              refine hK _ _ ?_
              clear hK K
              refine wpAnyIn_ready (rs := [5]) (by kernel_rfl) (by simp) ?_
              refine AllReadyIn.cons rfl (fun K hK => ?_) AllReadyIn.nil
              (go_simp; refine hK _ _ ?_; clear hK K)
              refine wpAnyIn_done (by kernel_rfl) ?_ _
              gi_wp2
              have hfin := rounds_step HK.out HS.out HVB.out (by rw [← HEE.out]; exact HEB.out) HEE.out HX1.out HX2.out HX3.out HT7.out HO3.out (Nat.le_refl _) HG4.out HO4.out rfl; simp only [List.length_map] at hfin; exact hfin
            · (go_simp; refine hK _ _ ?_; clear hK K)
              refine wpAnyIn_ready (rs := [0]) (by kernel_rfl) (by simp) ?_
              refine AllReadyIn.cons rfl (fun K hK => ?_) AllReadyIn.nil
              (go_simp; refine hK _ _ ?_; clear hK K)
              refine wpAnyIn_ready (rs := [4]) (by kernel_rfl) (by simp) ?_
              refine AllReadyIn.cons rfl (fun K hK => ?_) AllReadyIn.nil
              refine stepIn_append rfl (.tmp 22) (.tmp 25) 22 rfl (w.heap.size + 2) 33 i0 (.slice none 0 0) 1 24 Tryz.underlying22 hi hz0 hz1 hz2 rfl (by decide) v _ _ (by rfl) (HROW.out.alloc _) ⟨w3.heap.size, 0, none⟩ 1 1 [.slice (some ⟨g, 0, none⟩) x.q.length x.q.length] (by rfl) rfl (cell_one_new _ _ _) (by simp [Value.oneCell']) (by have := HPL.out; unfold maxLen; omega) (by have := HPL.out; omega) (by have h1 := HBB.out.size; have h2 := HT7.out.size; have h3 := HVB.out.lt; have h4 := HEB.out.lt; simp; omega) ?_
              intro v' w4 hown4 hgrow4
              obtain ⟨g', cap', rfl⟩ := ownsRow_succ hown4
              have HO4 := Lib.hid hown4
              have HG4 := Lib.hid hgrow4
              have hv4 := box_kept HVB.out HT7.out hgrow4 HX1.out (by omega)
              have he4 := box_kept HEB.out HT7.out hgrow4 HX1.out (by omega)
              have hc4 := hv4.cell
              have hf4 := hv4.frozen
              have hc5 := he4.cell
              have hf5 := he4.frozen
              rw [HEE.out] at hc5
              clear hown4 hgrow4 hv4 he4
              refine hK _ _ ?_
              clear hK K
              refine wpAnyIn_ready (rs := [5]) (by kernel_rfl) (by simp) ?_
              refine AllReadyIn.cons rfl (fun K hK => ?_) AllReadyIn.nil
              (go_simp; refine hK _ _ ?_; clear hK K)
              refine wpAnyIn_done (by kernel_rfl) ?_ _
              gi_wp2
              have hfin := rounds_step HK.out HS.out HVB.out (by rw [← HEE.out]; exact HEB.out) HEE.out HX1.out HX2.out HX3.out HT7.out HO3.out (Nat.le_refl _) HG4.out HO4.out rfl; simp only [List.length_map] at hfin; exact hfin
      · have b1 : (((Walp.sum x.q : Nat) : Int) != (x.sum : Int)) = true := by rw [bne_iff_ne]; omega
        have hns : Walp.sound x.pair = false := by unfold Walp.sound Fr.pair; simp [hsum]
        have HNS := Lib.hid hns
        clear hns hlong hsum
        gi_wp2_with (refine ⟨trivial, ?_⟩; gi_at_call 51; refine (CallsIn.inRound l (callsIn_wide.2 (sum_any HT3.out HQ.out x.len))).mono ?_; rintro e w' ⟨rfl, rfl⟩)
        exact ⟨KeepsOthers.refl _, rfl, pre, x, rfl, HNS.out, HK.out⟩
  case done =>
    rintro D ys W hD hS ⟨⟨v, hv, hls⟩, he, hsd, hB⟩ hK
    have c5 := hv.cell
    have c6 := he.cell
    gi_wp2
    refine wpIn_wide.2 ?_
    go_quiet (fail)
    gi_wp2
    rw [Exit.noGoto_ret]
    have hsc : Walp.scan b = ys.map Fr.q := by
      rw [Walp.scan_raw, ← hS, Walp.takeWhile_all hsd, pair_q]
    refine ⟨by simp, .inl ⟨_, _, rfl, run_takeDeferred (w := W.drewN nq) hK, ?_⟩⟩
    refine ⟨.tuple #[v, .int .i64 ((Walp.frames (ys.map Fr.q)).length : Nat), .bool (((Walp.frames (ys.map Fr.q)).length : Int) == (b.length : Int))], by simp [results, Tryz.f45, go_sem], ?_⟩
    rw [hsc]
    exact scan_end hls hB (by omega) hK
  case stop =>
    rintro D c pre W hD hS ⟨rfl, pre', x, rfl, hns, ⟨v, hv, hls⟩, he, hsd, hB⟩ hK
    have c5 := hv.cell
    have c6 := he.cell
    gi_wp2
    refine wpIn_wide.2 ?_
    go_quiet (fail)
    gi_wp2
    rw [Exit.noGoto_ret]
    have hsc : Walp.scan b = pre'.map Fr.q := by
      rw [List.map_append] at hS
      rw [Walp.scan_raw, Walp.takeWhile_stop hsd hns hS, pair_q]
    refine ⟨by simp, .inl ⟨_, _, rfl, run_takeDeferred (w := W.drewN nq) hK, ?_⟩⟩
    refine ⟨.tuple #[v, .int .i64 ((Walp.frames (pre'.map Fr.q)).length : Nat), .bool (((Walp.frames (pre'.map Fr.q)).length : Int) == (b.length : Int))], by simp [results, Tryz.f45, go_sem], ?_⟩
    rw [hsc]
    exact scan_end hls hB (by omega) hK

end
end Go.Proofs.YtinghngnehhgfaaGreatDoor
