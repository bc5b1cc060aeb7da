/-
  frames, and the iterator that it hands back.
-/
import Derived.RangeFuncNested
import Derived.RangeFuncBound
import Derived.RangeFuncCalls
import Derived.RangeFuncLeaves
import Derived.Shelf.Abstract
import Derived.Shelf.RegionOpen
import Derived.OwnWalkIn
import Derived.TacticsInMore
import Derived.LoopNIn
import Derived.LoopIn
import Derived.Test.YtjjajnfkngfpjaaGreatDoorWFrame
import Derived.Test.YtjjajnfkngfpjaaGreatDoorWRaw
import Derived.Test.YtjjajnfkngfpjaaGreatDoorWLists
namespace Go.Proofs.YtjjajnfkngfpjaaGreatDoor
open Go.RowKit Go.Maps Go.WideMaps Go.Shelf
attribute [local go_sem] Oper.semAt_some

section
variable {w w' : World}

/-- what a round is handed: a sum, bytes that lie in w -/
structure Fr (w : World) where
  sum : Nat
  q : List UInt8
  sp : Option Addr
  cap : Nat
  lt : sum < 4294967296
  rd : SliceR w (.slice sp q.length cap) q
  len : q.length ≤ 281474976710656

def Fr.pair (x : Fr w) : Nat × List UInt8 := (x.sum, x.q)
abbrev Fr.encs (x : Fr w) : Array Value := #[.int .u32 (x.sum : Int), .slice x.sp x.q.length x.cap]

def sliceLen : Value → Nat
  | .slice _ n _ => n
  | _ => 0

/-- a slice of bytes, with its room -/
def SliceC (w : World) (v : Value) (b : List UInt8) : Prop := ∃ sp cap, v = .slice sp b.length cap ∧ b.length ≤ cap ∧ cap ≤ 281474976710656 ∧ (0 < b.length → ∃ g off, sp = some ⟨g, off, none⟩ ∧ ∀ j x, b[j]? = some x → w.cell? ⟨g, off + j, none⟩ = some (byteV x))

theorem SliceC.toR {v : Value} {b : List UInt8} (h : SliceC w v b) : SliceR w v b := by
  obtain ⟨sp, cap, hv, _, _, hc⟩ := h
  refine ⟨sp, cap, hv, fun h0 => ?_⟩
  obtain ⟨g, off, e, hx⟩ := hc h0
  refine ⟨_, e, fun j x hj => ?_⟩
  have e2 : (⟨g, off, none⟩ : Addr).add j = ⟨g, off + j, none⟩ := by unfold Addr.add; split <;> simp_all
  rw [e2]; exact hx j x hj

theorem SliceC.turned {v : Value} {b : List UInt8} (h : SliceC w v b) (ht : Turn (fun _ => False) w w') : SliceC w' v b := by
  obtain ⟨sp, cap, hv, h1, h2, hc⟩ := h
  refine ⟨sp, cap, hv, h1, h2, fun h0 => ?_⟩
  obtain ⟨g, off, e, hx⟩ := hc h0
  exact ⟨g, off, e, fun j x hj => turn_cell ht (hx j x hj)⟩

set_option maxHeartbeats 1000000 in
theorem frames_any (sp : Option Addr) (n cap : Nat) (w : World) : Calls Tryz.prog 56 #[.slice sp n cap] w fun r w' => r = .returned (.func (.func 76) #[] #[.pointer (some ⟨w.heap.size, 0, none⟩)]) ∧ w.alloc (.cells #[.slice sp n cap] 37) = w' := by
  go_enter Tryz.func56, Tryz.ntmps56
  go_wp2
  go_ret
  exact ⟨rfl, rfl⟩

/-- how a round may go -/
def Went (w0 : World) (J Jx : List (Fr w0) → World → Prop) (pre : List (Fr w0)) (W : World) (c : Bool) (W' : World) : Prop := (c = true → J pre W' ∧ Below w0.heap.size W W') ∧ (c = false → Jx pre W')

/-- a piece of a slice -/
theorem sub_slice {g off cap k e : Nat} {b : List UInt8} (h : ∀ j x, b[j]? = some x → w.cell? ⟨g, off + j, none⟩ = some (byteV x)) (hk : k ≤ e) (he : e ≤ b.length) (hc : b.length ≤ cap) (hm : cap ≤ 281474976710656) (o : Nat) (ho : o = if cap = k then off else off + k) :
    SliceC w (.slice (some ⟨g, o, none⟩) (e - k) (cap - k)) ((b.take e).drop k) := by
  have hl : ((b.take e).drop k).length = e - k := by simp; omega
  refine ⟨_, cap - k, by rw [hl], by rw [hl]; omega, by omega, fun h0 => ⟨g, o, rfl, fun j x hj => ?_⟩⟩
  rw [hl] at h0
  rw [if_neg (by omega)] at ho
  subst ho
  have hjl : j < e - k := by rw [← hl]; exact (List.getElem?_eq_some_iff.1 hj).1
  rw [List.getElem?_drop, List.getElem?_take_of_lt (by omega)] at hj
  rw [Nat.add_assoc]; exact h _ _ hj

theorem raw1_is {rest : List UInt8} {m : Nat} (h8 : ¬ rest.length < 8) (hm : m = Walp.num (rest.take 4)) (hd : ¬ rest.length - 8 < m) : Walp.raw1 rest = some (Walp.num ((rest.drop 4).take 4), (rest.drop 8).take m) := by
  unfold Walp.raw1; rw [if_neg h8, if_neg (by rw [← hm]; exact hd), hm]

theorem drop_take_swap (b : List UInt8) (k m : Nat) : (b.take (k + m)).drop k = (b.drop k).take m := by
  rw [List.drop_take, Nat.add_sub_cancel_left]

set_option maxRecDepth 100000 in
set_option maxHeartbeats 2000000 in
theorem iter_in (w0 : World) (n : Nat) (l Bs : Nat) (v : Value) (b : List UInt8) (hb : SliceC w0 v b) (J Jx : List (Fr w0) → World → Prop) (hJL : ∀ pre W W', J pre W → Like W W' → J pre W')
    (hY : ∀ pre x W, J pre W → pre.length < (Walp.raw b).length → YieldAt Fence.wide (n - 1) Tryz.prog l x.encs W (fun e W' => ∃ c : Bool, e = .returned (.bool c) ∧ Went w0 J Jx (pre ++ [x]) W c W'))
    (W : World) (hW : Below w0.heap.size w0 W) (hBs : W.cell? ⟨Bs, 0, none⟩ = some v) (h0 : J [] W) :
    CallsIn Fence.wide n Tryz.prog 76 #[.func (.yield l) #[] #[], .pointer (some ⟨Bs, 0, none⟩)] W fun e W' => (∃ v, e = .returned v) ∧
      ((∃ ys : List (Fr w0), ys.map Fr.pair = Walp.raw b ∧ J ys W') ∨ (∃ pre : List (Fr w0), pre.map Fr.pair <+: Walp.raw b ∧ Jx pre W')) := by
  refine callsIn_of_wp Tryz.func76 rfl trivial ?_ rfl
  simp only [Tryz.ntmps76, List.size_toArray, List.length_cons, List.length_nil, Nat.reduceAdd, Nat.reduceSub, Array.replicate_succ, Array.replicate_zero, List.push_toArray, List.append_toArray, List.nil_append, List.cons_append]
  have HY := Lib.hid hY
  have HJ := Lib.hid hJL
  clear hY hJL
  gi_wp2
  gi_loopw [3] (fun v wr => ∃ (pre : List (Fr w0)) (rest : List UInt8), SliceC w0 v rest ∧ Walp.raw b = pre.map Fr.pair ++ Walp.raw rest ∧ J pre wr ∧ Below w0.heap.size w0 wr) (fun v _ => sliceLen v)
  case atStart => exact ⟨[], b, hb, rfl, h0, hW⟩
  case round =>
    obtain ⟨pre, rest, hrest, hraw, hj, hbw⟩ := hrel
    have hR := hrest.turned (Below.turn hbw _)
    obtain ⟨sp, cap, rfl, hlc, hcm, hcell⟩ := hrest
    by_cases h8 : rest.length < 8
    · have i0 : (rest.length : Int) < 8 := by omega
      gi_wp2
      go_end0
      have : Walp.raw1 rest = none := by unfold Walp.raw1; rw [if_pos h8]
      rw [Walp.raw_none this, List.append_nil] at hraw
      exact ⟨⟨_, rfl⟩, .inl ⟨pre, hraw.symm, hj⟩⟩
    · have i0 : (8 : Int) ≤ (rest.length : Int) := by omega
      obtain ⟨m, hm⟩ : ∃ m, m = Walp.num (rest.take 4) := ⟨_, rfl⟩
      have hw1 := word_any hR.toR (by unfold maxLen; omega) (by omega)
      rw [← hm] at hw1
      have hml : m < 4294967296 := by
        have h1 := Walp.num_lt (rest.take 4)
        rw [show (rest.take 4).length = 4 by simp; omega] at h1
        rw [hm]; exact h1
      have HW1 := Lib.hid hw1
      have i1 : (m : Int) < 4294967296 := by omega
      obtain ⟨g, off, rfl, hcl⟩ := hcell (by omega)
      have HC := Lib.hid hcl
      clear hw1 hcell hcl
      by_cases hlt : rest.length - 8 < m
      · have i2 : (rest.length : Int) - 8 < (m : Int) := by omega
        have hn1 : Walp.raw1 rest = none := by unfold Walp.raw1; rw [if_neg h8, if_pos (by rw [← hm]; exact hlt)]
        rw [Walp.raw_none hn1, List.append_nil] at hraw
        have HRW := Lib.hid hraw
        clear hraw hm hn1 hlt
        gi_wp2_with (refine ⟨trivial, fun h => (by cases h), ?_⟩; gi_at_call 77; refine (callsIn_wide.2 HW1.out).mono ?_; rintro e w2 ⟨rfl, hk2⟩)
        refine bodyPost_ret (results_none rfl _ _ _) rfl ?_
        exact ⟨⟨_, rfl⟩, .inl ⟨pre, HRW.out.symm, HJ.out _ _ _ hj hk2⟩⟩
      · obtain ⟨d, hd⟩ : ∃ d, d = rest.length - 8 := ⟨_, rfl⟩
        have i2 : (rest.length : Int) - 8 = (d : Int) := by omega
        have i2' : ¬ (d : Int) < (m : Int) := by omega
        have i2'' : ¬ d < m := by omega
        have HD := Lib.hid hd
        clear hd
        have hmx : Tryz.prog.follows .mixedOrders = true := by kernel_rfl
        have HRW := Lib.hid hraw
        have HM := Lib.hid hm
        have HMX := Lib.hid hmx
        clear hraw hm hmx hlt
        have hdm : ¬ rest.length - 8 < m := by have := HD.out; omega
        have h1 := raw1_is h8 HM.out hdm
        have hx := Walp.raw1_some h1
        simp only at hx
        have hql : ((rest.drop 8).take m).length = m := by simp; omega
        rw [Walp.raw_some h1] at HRW
        simp only [hql] at HRW
        obtain ⟨s, hs⟩ : ∃ s, s = Walp.num ((rest.drop 4).take 4) := ⟨_, rfl⟩
        obtain ⟨q, hq⟩ : ∃ q, q = (rest.drop 8).take m := ⟨_, rfl⟩
        obtain ⟨o, ho⟩ : ∃ o, o = if cap = 8 then off else off + 8 := ⟨_, rfl⟩
        rw [← hq] at hql HRW
        rw [← hs] at HRW
        have hsl : s < 4294967296 := by rw [hs]; exact hx.2.2.2.2.2
        have hsub := sub_slice HC.out (k := 8) (e := 8 + m) (by omega) (by omega) hlc hcm o ho
        rw [drop_take_swap, ← hq, Nat.add_sub_cancel_left] at hsub
        have hsub' : SliceR w0 (.slice (some ⟨g, o, none⟩) q.length (cap - 8)) q := by rw [hql]; exact hsub.toR
        obtain ⟨x, hxe⟩ : ∃ x : Fr w0, x = ⟨s, q, some ⟨g, o, none⟩, cap - 8, hsl, hsub', by rw [hql]; omega⟩ := ⟨_, rfl⟩
        have hpair : x.pair = (s, q) := by rw [hxe]; rfl
        have henc : x.encs = #[.int .u32 (s : Int), .slice (some ⟨g, o, none⟩) m (cap - 8)] := by rw [hxe]; simp only [Fr.encs, hql]
        have hlen : pre.length < (Walp.raw b).length := by rw [HRW.out]; simp
        have hyy : ∀ W', J pre W' → YieldAt Fence.wide (n - 1) Tryz.prog l #[.int .u32 (s : Int), .slice (some ⟨g, o, none⟩) m (cap - 8)] W' (fun e W2 => ∃ c : Bool, e = .returned (.bool c) ∧ Went w0 J Jx (pre ++ [x]) W' c W2) := fun W' hj' => by rw [← henc]; exact HY.out pre x W' hj' hlen
        have HP := Lib.hid hpair
        have HS := Lib.hid hs
        have HO := Lib.hid ho
        obtain ⟨e, he⟩ : ∃ e, e = 8 + m := ⟨_, rfl⟩
        have ie : (8 : Int) + (m : Int) = (e : Int) := by omega
        have HE := Lib.hid he
        have hem : m = e - 8 := by omega
        have hyy : ∀ W', J pre W' → YieldAt Fence.wide (n - 1) Tryz.prog l #[.int .u32 (s : Int), .slice (some ⟨g, o, none⟩) (e - 8) (cap - 8)] W' (fun e W2 => ∃ c : Bool, e = .returned (.bool c) ∧ Went w0 J Jx (pre ++ [x]) W' c W2) := by rw [← hem]; exact hyy
        have HYY := Lib.hid hyy
        clear he hem
        have hrs := sub_slice HC.out (k := 8 + m) (e := rest.length) (by omega) (Nat.le_refl _) hlc hcm _ rfl
        rw [List.take_length] at hrs
        have HRS := Lib.hid hrs
        clear hx h1 hql hs hq ho hsub hsub' hpair henc hlen hyy hxe hdm hrs
        gi_wp2_with (refine ⟨trivial, fun h => (by cases h), ?_⟩; gi_at_call 77; refine (callsIn_wide.2 HW1.out).mono ?_; rintro e w2 ⟨rfl, hk2⟩)
        have i3 : (8 : Int) ≤ (e : Int) := by have := HE.out; omega
        have i3' : 8 ≤ e := by have := HE.out; omega
        have i4 : (e : Int) ≤ (cap : Int) := by have := HD.out; have := HE.out; omega
        have i4' : e ≤ cap := by omega
        have i5 : (4 : Int) ≤ (rest.length : Int) := by omega
        have i6 : (8 : Int) ≤ (cap : Int) := by omega
        have i7 : (rest.length : Int) ≤ (cap : Int) := by omega
        have hw4 : ∀ W', Like wr W' → Calls Tryz.prog 77 #[.slice (some ⟨g, off + 4, none⟩) (rest.length - 4) (cap - 4)] W' fun r w' => r = .returned (.int .u32 (s : Int)) ∧ Like W' w' := by
          intro W' hk
          have h1 := sub_slice HC.out (k := 4) (e := rest.length) (by omega) (Nat.le_refl _) hlc hcm (off + 4) (by rw [if_neg (by omega)])
          rw [List.take_length] at h1
          have h2 : SliceR W' (.slice (some ⟨g, off + 4, none⟩) (rest.drop 4).length (cap - 4)) (rest.drop 4) := by
            rw [List.length_drop]
            exact ((h1.turned (Below.turn hbw _)).toR).like hk
          have := word_any h2 (by rw [List.length_drop]; unfold maxLen; omega) (by rw [List.length_drop]; omega)
          rw [List.length_drop, ← HS.out] at this
          exact this
        have hkd : Like wr w2.drew := hk2.trans ⟨rfl, rfl, rfl, rfl⟩
        have HW4 := Lib.hid (hw4 _ hkd)
        have HKD := Lib.hid hkd
        clear hw4 hkd
        have j1 : ¬ cap = 4 := by omega
        have H88 := Lib.hid h8
        clear h8
        have hfin : ∀ w5, Below w0.heap.size wr w5 → Below w0.heap.size w0 w5 := fun w5 h => hbw.trans h
        have HFIN := Lib.hid hfin
        have hbk : ∀ w3, Like w2.drew w3 → Below w0.heap.size wr w3 := fun w3 hk => by
          have k := HKD.out.trans hk
          exact ⟨k.os, k.tape, k.output, by rw [k.heap]; exact Nat.le_refl _, fun i _ => by rw [k.heap]⟩
        have HBK := Lib.hid hbk
        have hgo : ∀ w3 w5, Like w2.drew w3 → Went w0 J Jx (pre ++ [x]) w3 true w5 → ∀ o2 : Nat, o2 = (if cap = 8 + m then off else off + (8 + m)) → (∃ (pre : List (Fr w0)) (rest' : List UInt8), SliceC w0 (.slice (some ⟨g, o2, none⟩) (rest.length - e) (cap - e)) rest' ∧ Walp.raw b = pre.map Fr.pair ++ Walp.raw rest' ∧ J pre w5 ∧ Below w0.heap.size w0 w5) := by
          intro w3 w5 hk hw o2 ho2
          obtain ⟨h1, h2⟩ := hw.1 rfl
          refine ⟨pre ++ [x], rest.drop (8 + m), ?_, ?_, h1, HFIN.out _ ((HBK.out _ hk).trans h2)⟩
          · have := HRS.out
            rw [← ho2, ← HE.out] at this
            rw [HE.out]; rw [HE.out] at this; exact this
          · rw [HRW.out, List.map_append, List.append_assoc]
            congr 1
            simp only [List.map_cons, List.map_nil, HP.out, List.singleton_append]
        have HGO := Lib.hid hgo
        have hno : ∀ w3 w5, Went w0 J Jx (pre ++ [x]) w3 false w5 → (∃ pre : List (Fr w0), pre.map Fr.pair <+: Walp.raw b ∧ Jx pre w5) := by
          intro w3 w5 hw
          refine ⟨pre ++ [x], ?_, hw.2 rfl⟩
          rw [HRW.out, List.map_append]
          simp only [List.map_cons, List.map_nil, HP.out]
          exact ⟨Walp.raw (rest.drop (8 + m)), by rw [List.append_assoc, List.singleton_append]⟩
        have HNO := Lib.hid hno
        clear hfin hbk hgo hno
        have hcases : (cap = 8 ∧ cap = e) ∨ (¬ cap = 8 ∧ cap = e) ∨ (¬ cap = 8 ∧ ¬ cap = e) := by have := HE.out; have := HD.out; omega
        rcases hcases with ⟨hc8, hce⟩ | ⟨hc8, hce⟩ | ⟨hc8, hce⟩
        · have ho : o = off := by rw [HO.out, if_pos hc8]
          have HCE := Lib.hid hce
          have j2 : (cap = 8) = True := eq_true hc8
          have j3 : (cap = e) = True := eq_true hce
          clear hc8 hce
          subst ho
          gi_region_with (first | (refine ⟨trivial, fun h => (by cases h), ?_⟩; gi_at_call 77; (with_reducible refine (callsIn_wide.2 HW4.out).mono ?_); rintro e w3 ⟨rfl, hk3⟩; obtain ⟨fn, tmps, assign, body, hy, hRR⟩ := HYY.out w3 (HJ.out _ _ _ hj (HKD.out.trans hk3))) | (refine ⟨fun h => (by cases h), ?_⟩; refine hRR.mono ?_; rintro e w5 ⟨c, rfl, hwent⟩))
          cases c with
          | false =>
            have HX := Lib.hid (HNO.out _ _ hwent)
            clear hwent hy hRR hk3 hk2 i0 i1 i2 i2' i2'' i3 i3' i4 i4' i5 i6 i7 ie j1 j2 j3 hlc hcm
            gi_wp2
            refine bodyPost_ret (results_none rfl _ _ _) rfl ?_
            exact ⟨⟨_, rfl⟩, .inr HX.out⟩
          | true =>
            have HX := Lib.hid (HGO.out _ _ hk3 hwent _ (by have := HE.out; rw [if_pos (by have := HCE.out; omega)]))
            have hl2 : (e : Int) ≤ (rest.length : Int) := by have := HD.out; have := HE.out; omega
            have k1 : e ≤ rest.length := by omega
            have hms : rest.length - e < rest.length := by omega
            have HMS := Lib.hid hms
            clear hwent hy hRR hk3 hk2 hms i0 i1 i2 i2' i2'' i3 i3' i5 i6 i7 ie j1 hcm j2
            gi_wp2
            go_roundw
            case rel => exact HX.out
            case measure => exact HMS.out
        · have ho : o = off + 8 := by rw [HO.out, if_neg hc8]
          have HCE := Lib.hid hce
          have j2 := hc8
          have j3 : (cap = e) = True := eq_true hce
          clear hc8 hce
          subst ho
          gi_region_with (first | (refine ⟨trivial, fun h => (by cases h), ?_⟩; gi_at_call 77; (with_reducible refine (callsIn_wide.2 HW4.out).mono ?_); rintro e w3 ⟨rfl, hk3⟩; obtain ⟨fn, tmps, assign, body, hy, hRR⟩ := HYY.out w3 (HJ.out _ _ _ hj (HKD.out.trans hk3))) | (refine ⟨fun h => (by cases h), ?_⟩; refine hRR.mono ?_; rintro e w5 ⟨c, rfl, hwent⟩))
          cases c with
          | false =>
            have HX := Lib.hid (HNO.out _ _ hwent)
            clear hwent hy hRR hk3 hk2 i0 i1 i2 i2' i2'' i3 i3' i4 i4' i5 i6 i7 ie j1 j2 j3 hlc hcm
            gi_wp2
            refine bodyPost_ret (results_none rfl _ _ _) rfl ?_
            exact ⟨⟨_, rfl⟩, .inr HX.out⟩
          | true =>
            have HX := Lib.hid (HGO.out _ _ hk3 hwent off (by have := HE.out; rw [if_pos (by have := HCE.out; omega)]))
            have hl2 : (e : Int) ≤ (rest.length : Int) := by have := HD.out; have := HE.out; omega
            have k1 : e ≤ rest.length := by omega
            have hms : rest.length - e < rest.length := by omega
            have HMS := Lib.hid hms
            clear hwent hy hRR hk3 hk2 hms i0 i1 i2 i2' i2'' i3 i3' i5 i6 i7 ie j1 hcm j2
            gi_wp2
            go_roundw
            case rel => exact HX.out
            case measure => exact HMS.out
        · have ho : o = off + 8 := by rw [HO.out, if_neg hc8]
          have HCE := Lib.hid hce
          have j2 := hc8
          have j3 := hce
          clear hc8 hce
          subst ho
          gi_region_with (first | (refine ⟨trivial, fun h => (by cases h), ?_⟩; gi_at_call 77; (with_reducible refine (callsIn_wide.2 HW4.out).mono ?_); rintro e w3 ⟨rfl, hk3⟩; obtain ⟨fn, tmps, assign, body, hy, hRR⟩ := HYY.out w3 (HJ.out _ _ _ hj (HKD.out.trans hk3))) | (refine ⟨fun h => (by cases h), ?_⟩; refine hRR.mono ?_; rintro e w5 ⟨c, rfl, hwent⟩))
          cases c with
          | false =>
            have HX := Lib.hid (HNO.out _ _ hwent)
            clear hwent hy hRR hk3 hk2 i0 i1 i2 i2' i2'' i3 i3' i4 i4' i5 i6 i7 ie j1 j2 j3 hlc hcm
            gi_wp2
            refine bodyPost_ret (results_none rfl _ _ _) rfl ?_
            exact ⟨⟨_, rfl⟩, .inr HX.out⟩
          | true =>
            have HX := Lib.hid (HGO.out _ _ hk3 hwent (off + e) (by have := HE.out; rw [if_neg (by have := HCE.out; omega)]; omega))
            have hl2 : (e : Int) ≤ (rest.length : Int) := by have := HD.out; have := HE.out; omega
            have k1 : e ≤ rest.length := by omega
            have hms : rest.length - e < rest.length := by omega
            have HMS := Lib.hid hms
            clear hwent hy hRR hk3 hk2 hms i0 i1 i2 i2' i2'' i3 i3' i5 i6 i7 ie j1 hcm j2
            gi_wp2
            go_roundw
            case rel => exact HX.out
            case measure => exact HMS.out

end
end Go.Proofs.YtjjajnfkngfpjaaGreatDoor
