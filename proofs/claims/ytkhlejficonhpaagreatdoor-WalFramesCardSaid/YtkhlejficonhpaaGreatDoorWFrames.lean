/-
  WalFrames: the walk.
-/
import Derived.Test.YtkhlejficonhpaaGreatDoorWScrib
import Derived.Test.YtkhlejficonhpaaGreatDoorWJ
import Derived.Lib.LaidTab
import Derived.Lib.AppendIntMem
namespace Go.Proofs.YtkhlejficonhpaaGreatDoor
open Go.RowKit Go.Maps Go.WideMaps

section
variable {w w' : World}

theorem scan_len20 {b : List UInt8} (h : b.length ≤ 20000) : (Walp.scan b).length ≤ maxLen := by
  have := scan_le b
  unfold maxLen; omega

theorem scan_each20 {b : List UInt8} : ∀ q, q ∈ Walp.scan b → q.length ≤ maxLen := fun q hq => by
  have h := Walp.scan_short b q hq
  unfold Walp.maxRec at h
  unfold maxLen; omega

theorem remN (n : Int) : ∃ N : Nat, 1 ≤ N ∧ N < 100000000 ∧ Int.tmod n 99999999 % 99999999 + 1 = (N : Int) ∧ -99999999 < Int.tmod n 99999999 ∧ Int.tmod n 99999999 < 99999999 ∧ 0 ≤ Int.tmod (Int.tmod n 99999999 + 99999999) 99999999 ∧ Int.tmod (Int.tmod n 99999999 + 99999999) 99999999 < 99999999 := by
  have h1 := Int.lt_tmod_of_pos n (show (0 : Int) < 99999999 by decide)
  have h2 := Int.tmod_lt_of_pos n (show (0 : Int) < 99999999 by decide)
  have h3 := Int.tmod_nonneg (a := Int.tmod n 99999999 + 99999999) 99999999 (by omega)
  have h4 := Int.tmod_lt_of_pos (Int.tmod n 99999999 + 99999999) (show (0 : Int) < 99999999 by decide)
  exact ⟨(Int.tmod n 99999999 % 99999999 + 1).toNat, by omega, by omega, by omega, h1, h2, h3, h4⟩

/-- what the two loops keep: the list has records of the same lengths; nothing turned but what came since B -/
def Scrib (w0 wr : World) (B : Nat) (v : Value) (sc : List (List UInt8)) : Prop := (∃ l, SameShape sc l ∧ ListsO wr B v l) ∧ Turn (fun g => B ≤ g) w0 wr

/-- the record in front of a write -/
theorem Scrib.at_ {w0 wr : World} {B : Nat} {v : Value} {sc : List (List UInt8)} (h : Scrib w0 wr B v sc) {i : Nat} (hi : i < sc.length) :
    ∃ ad cap u, v = .slice (some ad) sc.length cap ∧ wr.cell? (ad.add i) = some u ∧ ∃ sp c, u = .slice sp sc[i].length c ∧
      ∀ k, k < sc[i].length → ∃ g y, sp = some ⟨g, 0, none⟩ ∧ wr.cell? ⟨g, k, none⟩ = some (byteV y) ∧ wr.frozen? ⟨g, k, none⟩ = false ∧ Scrib w0 (wr.setCell ⟨g, k, none⟩ (.int .u8 1)) B v sc := by
  obtain ⟨⟨l, hs, xs, h1, h2, h3⟩, ht⟩ := h
  have hll : l.length = sc.length := by have := congrArg List.length hs; simpa using this
  obtain ⟨q, hq, hql⟩ := hs.at_ (List.getElem?_eq_getElem hi)
  obtain ⟨u, hu, ho⟩ := h3 i q hq
  obtain ⟨sp, cap, rfl, hc⟩ := own_cell h1 h2
  obtain ⟨ad, rfl, hx⟩ := hc (by omega)
  refine ⟨ad, cap, u, by rw [hll], hx i u hu, ?_⟩
  have hO := ho
  obtain ⟨hlen, ho2⟩ := ho
  rcases ho2 with ⟨rfl, hn⟩ | ⟨g, c, cur, rfl, hb, hh, hcc, hm, hsz, hxx⟩
  · exact ⟨none, 0, by rw [← hql, hn], fun k hk => by omega⟩
  · refine ⟨some ⟨g, 0, none⟩, c, by rw [← hql], fun k hk => ?_⟩
    have hkq : k < q.length := by omega
    have hck : cur[k]? = some (byteV q[k]) := by
      have h5 : (q.map byteV)[k]? = some (byteV q[k]) := by rw [List.getElem?_map, List.getElem?_eq_getElem hkq]; rfl
      rw [← hxx, List.getElem?_take_of_lt (by omega)] at h5
      simpa using h5
    refine ⟨g, q[k], rfl, by unfold World.cell?; rw [hh]; simpa using hck, by unfold World.frozen?; rw [hh]; simp, ?_, ht.trans (turnP wr g k _) (fun i hi e => by
      have e' : i = g := e
      omega)⟩
    obtain ⟨l', hs', hl'⟩ := ListsO.scribble (k := k) (x := 1) (v := .slice (some ad) l.length cap) ⟨xs, h1, h2, h3⟩ hh
    exact ⟨l', by unfold SameShape at *; rw [hs', hs], hl'⟩

set_option maxRecDepth 100000 in
set_option maxHeartbeats 8000000 in
theorem frames_walk (hT : SumTab w) (hP : Lib.TabIs Tryz.prog w "internal/strconv.uint64pow10" .u64 Lib.pow10Tab) {vp vb : Value} {p b : List UInt8} (hp : BytesIn w vp p) (hb : BytesIn w vb b) (n : Int) :
    Calls Tryz.prog 4 #[vp, vb, .int .i64 n] w fun r w' => r = .returned (.bool true) ∧ Turn (fun _ => False) w w' := by
  obtain ⟨N, hN1, hN2, hN3, hN4, hN5, hN6, hN7⟩ := remN n
  have HN12 := Lib.hid (show 1 ≤ N ∧ N < 100000000 from ⟨hN1, hN2⟩)
  clear hN1 hN2
  have hpc := hp.c
  have hbc := hb.c
  have hpl := hp.len
  have hbl := hb.len
  obtain ⟨spp, capp, rfl, _⟩ := hpc
  obtain ⟨spb, capb, rfl, _⟩ := hbc
  have HT := Lib.hid hT
  have HPW := Lib.hid hP
  have HP := Lib.hid hp
  have HB := Lib.hid hb
  clear hT hP hp hb
  unfold maxLen at hpl hbl
  by_cases hlp : p.length ≤ 20000
  · have ip : (p.length : Int) ≤ 20000 := by omega
    have dp : decide ((20000 : Int) < (p.length : Int)) = false := by simp; omega
    by_cases hlb : b.length ≤ 20000
    · have ib : (b.length : Int) ≤ 20000 := by omega
      have db : decide ((20000 : Int) < (b.length : Int)) = false := by simp; omega
      go_enter Tryz.func4, Tryz.ntmps4
      go_wp2_with fail
      go_at_call 10
      refine (first_any HT.out).mono ?_
      rintro r w1 ⟨rfl, t1⟩
      have T1 := Lib.hid t1
      clear t1
      go_wp2_with fail
      go_at_call 21
      refine (lent_any (HB.out.turned T1.out).b (HB.out.turned T1.out).c.toR hlb).mono ?_
      rintro r w2 ⟨⟨v, rfl, hlent⟩, t2⟩
      have HLENT := Lib.hid hlent
      have T2 := Lib.hid (T1.out.trans t2 (fun _ _ q => q))
      clear hlent t2 T1
      obtain ⟨sc, hsc⟩ : ∃ sc, sc = Walp.scan b := ⟨_, rfl⟩
      obtain ⟨F, hF⟩ : ∃ F, F = (Walp.frames sc).length := ⟨_, rfl⟩
      obtain ⟨D, hD⟩ : ∃ D, D = decide (F = b.length) := ⟨_, rfl⟩
      have hsn := scan_any (HT.out.turned T2.out) (HLENT.out.c hlb) (by omega)
      rw [← hsc, ← hF, ← hD] at hsn
      have HSN := Lib.hid hsn
      have hrs := fun (W : World) (hW : Turn (fun _ => False) w W) => refScan_any (w := W) (HB.out.turned hW).c (by omega)
      rw [← hsc, ← hF, ← hD] at hrs
      have HRS := Lib.hid hrs
      have hscl : sc.length ≤ maxLen := by rw [hsc]; exact scan_len20 hlb
      have hscl2 : sc.length ≤ 20000 := by rw [hsc]; have := scan_le b; omega
      have hsce : ∀ q, q ∈ sc → q.length ≤ maxLen := by rw [hsc]; exact scan_each20
      have HSL := Lib.hid hscl
      have HSE := Lib.hid hsce
      clear hsn hrs hscl hsce hsc hF hD
      go_wp2_with fail
      go_at_call 22
      refine HSN.out.mono ?_
      rintro r w3 ⟨⟨u1, rfl, hls3⟩, t3⟩
      have L3 := Lib.hid hls3
      have T3 := Lib.hid t3
      have T03 := Lib.hid (T2.out.trans t3 (fun _ _ q => q))
      clear hls3 t3 HSN
      go_wp2_with fail
      go_at_call 23
      refine (HRS.out _ T03.out).mono ?_
      rintro r w4 ⟨⟨u2, rfl, hls4⟩, t4⟩
      have L4 := Lib.hid hls4.toR
      have L34 := Lib.hid (L3.out.new t4)
      have T04 := Lib.hid (T03.out.trans t4 (fun _ _ q => q))
      have T24 := Lib.hid (T3.out.trans t4 (fun _ _ q => q))
      clear hls4 t4 HRS L3 T3 T03
      go_wp2_with fail
      go_at_call 20
      refine (sameLists_any L34.out.toR L4.out HSL.out HSL.out HSE.out HSE.out).mono ?_
      rintro r w5 ⟨rfl, hlk⟩
      rw [decide_eq_true rfl]
      have L5 := Lib.hid (L34.out.new hlk.turn)
      have T05 := Lib.hid (Turn.like T04.out hlk)
      have T25 := Lib.hid (Turn.like T24.out hlk)
      clear hlk L4 L34 T04 T24
      obtain ⟨sp1, cap1, rfl, _⟩ := L5.out.toR
      have hscrib : Scrib w5 w5 w2.heap.size (.slice sp1 sc.length cap1) sc := ⟨⟨sc, rfl, L5.out⟩, Turn.refl _ _⟩
      have HSC := Lib.hid hscrib
      clear hscrib L5
      have isc : (sc.length : Int) ≤ 20000 := by omega
      go_wp2_with fail
      go_loopw [16] (fun i wr => ∃ k : Nat, k ≤ sc.length ∧ i = .int .i64 k ∧ Scrib w5 wr w2.heap.size (.slice sp1 sc.length cap1) sc) (fun i _ => sc.length - (intOf i).toNat)
      case atStart => exact ⟨0, Nat.zero_le _, rfl, HSC.out⟩
      case round =>
        obtain ⟨k, hk, rfl, hs0⟩ := hrel
        have HS0 := Lib.hid hs0
        clear hs0
        by_cases hlt : k < sc.length
        · have i0 : (0 : Int) ≤ (k : Int) := by omega
          have i1 : (k : Int) < (sc.length : Int) := by omega
          obtain ⟨len, hlen⟩ : ∃ len, len = sc[k].length := ⟨_, rfl⟩
          have hat : ∀ wx, Scrib w5 wx w2.heap.size (.slice sp1 sc.length cap1) sc → ∃ ad cap u, Value.slice sp1 sc.length cap1 = .slice (some ad) sc.length cap ∧ wx.cell? (ad.add k) = some u ∧ ∃ sp c, u = .slice sp len c ∧
              ∀ j, j < len → ∃ g y, sp = some ⟨g, 0, none⟩ ∧ wx.cell? ⟨g, j, none⟩ = some (byteV y) ∧ wx.frozen? ⟨g, j, none⟩ = false ∧ Scrib w5 (wx.setCell ⟨g, j, none⟩ (.int .u8 1)) w2.heap.size (.slice sp1 sc.length cap1) sc := fun wx hx => by
            rw [hlen]; exact hx.at_ hlt
          have hll : len ≤ maxLen := by rw [hlen]; exact HSE.out _ (List.getElem_mem hlt)
          unfold maxLen at hll
          have HAT := Lib.hid hat
          clear hat hlen hlt
          go_wp2_with fail
          go_loopw [17] (fun j wx => ∃ m : Nat, m ≤ len ∧ j = .int .i64 m ∧ Scrib w5 wx w2.heap.size (.slice sp1 sc.length cap1) sc) (fun j _ => len - (intOf j).toNat)
          case atStart => exact ⟨0, Nat.zero_le _, rfl, HS0.out⟩
          case round =>
            obtain ⟨m, hm, rfl, hs1⟩ := hrel
            obtain ⟨ad, cap', u, hv, hcu, sp, c, rfl, hst⟩ := HAT.out _ hs1
            simp only [Value.slice.injEq] at hv
            obtain ⟨rfl, _, rfl⟩ := hv
            have HS1 := Lib.hid hs1
            clear hs1
            by_cases hlt2 : m < len
            · obtain ⟨g, y, rfl, hcy, hfy, hs2⟩ := hst m hlt2
              have HS2 := Lib.hid hs2
              have j0 : (0 : Int) ≤ (m : Int) := by omega
              have j1 : (m : Int) < (len : Int) := by omega
              clear hst hs2 hlt2
              unfold byteV at hcy
              go_wp2_with fail
              go_roundw
              case rel => exact ⟨m + 1, by omega, by go_num, HS2.out⟩
              case measure => simp [intOf]; omega
            · have hm0 : m = len := by omega
              subst hm0
              clear hst hlt2
              go_wp2_with fail
              go_roundw
              case rel => exact ⟨k + 1, by omega, by go_num, HS1.out⟩
              case measure => simp [intOf]; omega
        · have hk0 : k = sc.length := by omega
          subst hk0
          have htw : Turn (fun _ => False) w wr := T05.out.trans HS0.out.2 (fun i hi q => by have := T2.out.size; omega)
          have T6 := Lib.hid htw
          have hlent6 : LentAt wr w1.heap.size v b := HLENT.out.turned (T25.out.mono (fun _ q => q.elim)) (fun _ _ q => q) |>.turned HS0.out.2 (fun g hg q => by
            obtain ⟨g', cap, rfl, _, _, _, cur, hh, _⟩ := HLENT.out
            simp only [Value.ownBlock, Option.some.injEq] at hg
            have := (Array.getElem?_eq_some_iff.1 hh).1
            omega)
          have HL6 := Lib.hid hlent6
          have hname : ∀ W, Turn (fun _ => False) w W → Calls Tryz.prog 29 #[.string ⟨#[119]⟩, .int .i64 (N : Int)] W fun r w' => r = .returned (.string (segName ⟨#[119]⟩ N)) ∧ Turn (fun _ => False) W w' := fun W hW =>
            name_tab ⟨#[119]⟩ (by decide) N HN12.out.1 HN12.out.2 W (Lib.tabBelow_of_tabIs HPW.out W ⟨hW.os, hW.tape, hW.output, hW.size, fun k hk => hW.block k hk (fun q => q)⟩)
          have hname2 : ∀ W, Calls Tryz.prog 30 #[.string ⟨#[119]⟩, .int .i64 (N : Int)] W fun r w' => r = .returned (.string (segName ⟨#[119]⟩ N)) ∧ Turn (fun _ => False) W w' := fun W => refName_any ⟨#[119]⟩ (by decide) N HN12.out.2 W
          generalize segName ⟨#[119]⟩ N = nm at hname hname2
          have HNA := Lib.hid hname
          have HNB := Lib.hid hname2
          have hfl := Walp.frame_length p
          have HFL := Lib.hid hfl
          clear htw hlent6 hname hname2 hfl HS0 hlt hk
          go_wp2_with fail
          go_at_call 25
          refine (frame_any (HT.out.turned T6.out) (HP.out.turned T6.out).c.toR (by omega)).mono ?_
          rintro r w7 ⟨g7, rfl, hown7, t7⟩
          rw [← HFL.out] at hown7 ⊢
          have T7 := Lib.hid (T6.out.trans t7 (fun _ _ q => q))
          have T67 := Lib.hid t7
          have O7 := Lib.hid hown7
          clear t7 hown7
          go_wp2_with fail
          go_at_call 26
          refine (refFrame_any (HP.out.turned T7.out).c.toR (HP.out.turned T7.out).b (by omega)).mono ?_
          rintro r w8 ⟨sp8, cap8, rfl, hown8, t8⟩
          have R7 := Lib.hid (SliceR.of_own (ownsRow_turned O7.out t8 (fun _ _ q => q)))
          have R8 := Lib.hid (SliceR.of_own hown8)
          have T8 := Lib.hid (T7.out.trans t8 (fun _ _ q => q))
          have T68 := Lib.hid (T67.out.trans t8 (fun _ _ q => q))
          have HFM := Lib.hid (show (Walp.frame p).length ≤ maxLen by rw [HFL.out]; unfold maxLen; omega)
          clear t8 hown8 O7 T67 T7
          go_wp2_with fail
          go_at_call 24
          refine (same_any R7.out R8.out HFM.out HFM.out).mono ?_
          rintro r w9 ⟨rfl, hlk9⟩
          rw [decide_eq_true rfl]
          have T9 := Lib.hid (Turn.like T8.out hlk9)
          have T69 := Lib.hid (Turn.like T68.out hlk9)
          clear hlk9 T8 T68 R7 R8
          go_wp2_with fail
          go_at_call 27
          refine (sum_any (HT.out.turned T9.out) (HP.out.turned T9.out).c.toR (by omega)).mono ?_
          rintro r w' ⟨rfl, rfl⟩
          go_wp2_with fail
          go_at_call 28
          refine (refSum_any (HP.out.turned T9.out).c.toR (by omega)).mono ?_
          rintro r w' ⟨rfl, rfl⟩
          go_wp2_with fail
          go_at_call 29
          refine (HNA.out _ T9.out).mono ?_
          rintro r w10 ⟨rfl, t10⟩
          have T10 := Lib.hid (T9.out.trans t10 (fun _ _ q => q))
          have T610 := Lib.hid (T69.out.trans t10 (fun _ _ q => q))
          clear t10
          go_wp2_with fail
          go_at_call 30
          refine (HNB.out _).mono ?_
          rintro r w11 ⟨rfl, t11⟩
          have T11 := Lib.hid (T10.out.trans t11 (fun _ _ q => q))
          have L11 := Lib.hid (HL6.out.turned (T610.out.trans t11 (fun _ _ q => q)) (fun _ _ q => q))
          clear t11
          go_wp2_with fail
          go_at_call 31
          refine (kept_any L11.out (HB.out.turned T11.out).c.toR hlb).mono ?_
          rintro r w12 ⟨rfl, hlk12⟩
          go_wp2_with fail
          go_ret
          exact ⟨rfl, Turn.like T11.out hlk12⟩
    · have ib : (20000 : Int) < (b.length : Int) := by omega
      go_enter Tryz.func4, Tryz.ntmps4
      go_wp2_with fail
      go_at_call 10
      refine (first_any HT.out).mono ?_
      rintro r w1 ⟨rfl, t1⟩
      go_wp2_with fail
      go_ret
      exact ⟨rfl, t1⟩
  · have ip : (20000 : Int) < (p.length : Int) := by omega
    go_enter Tryz.func4, Tryz.ntmps4
    go_wp2_with fail
    go_at_call 10
    refine (first_any HT.out).mono ?_
    rintro r w1 ⟨rfl, t1⟩
    go_wp2_with fail
    go_ret
    exact ⟨rfl, t1⟩

end
end Go.Proofs.YtkhlejficonhpaaGreatDoor
