/-
  WalWrites: the walk.
-/
import Derived.Test.YtinghngnehhgfaaGreatDoorWLate
import Derived.Test.YtinghngnehhgfaaGreatDoorWIntsP
import Derived.Test.YtinghngnehhgfaaGreatDoorWFirst
import Derived.Test.YtinghngnehhgfaaGreatDoorWK
import Derived.Test.YtinghngnehhgfaaGreatDoorWRefN
import Derived.ArgAppend
namespace Go.Proofs.YtinghngnehhgfaaGreatDoor
open Go.RowKit Go.Maps Go.WideMaps
set_option linter.unusedVariables false
set_option linter.unusedSimpArgs false

theorem open_range {w : World} (p : Nat) (d : List UInt8) (hv : Fsp.valid (Walp.seg d 1) = true) (sz : Int) (hz : sz < 16 ∨ 1048576 < sz) :
    Calls Tryz.prog 7 #[.pointer (some ⟨p, 0, none⟩), .string (txt d), .int .i64 sz] w fun r w' => r = .returned (.tuple #[.pointer none, .slice none 0 0, .int .i64 6]) ∧ Turn (fun _ => False) w w' := by
  have hdl : d.length ≤ 1000 := by
    have h := valid_size hv
    rw [Walp.seg_length] at h; omega
  have HV := Lib.hid hv
  have HDL := Lib.hid hdl
  clear hv hdl
  by_cases h1 : sz < 16
  · have i1 : ¬ ((16 : Int) ≤ sz) := by omega
    clear hz
    go_enter Tryz.func7, Tryz.ntmps7
    go_wp2_with (first | (go_at_call 21; refine (name_any (txt d) (txt_size _ HDL.out) 1 (by decide) (by decide) _).mono ?_; rintro r w2 ⟨rfl, t2⟩; have HT2 := Lib.hid t2; clear t2) | (go_at_call 20; refine (valid_seg1 d HDL.out HV.out _).mono ?_; rintro r w3 ⟨rfl, rfl⟩))
    go_ret3
    exact ⟨rfl, HT2.out⟩
  · have i2 : (1048576 : Int) < sz := by omega
    have i3 : ¬ (sz ≤ 1048576) := by omega
    clear hz
    go_enter Tryz.func7, Tryz.ntmps7
    go_wp2_with (first | (go_at_call 21; refine (name_any (txt d) (txt_size _ HDL.out) 1 (by decide) (by decide) _).mono ?_; rintro r w2 ⟨rfl, t2⟩; have HT2 := Lib.hid t2; clear t2) | (go_at_call 20; refine (valid_seg1 d HDL.out HV.out _).mono ?_; rintro r w3 ⟨rfl, rfl⟩))
    go_ret3
    exact ⟨rfl, HT2.out⟩

theorem rem5 (n : Int) : ∃ K : Nat, K < 5 ∧ Int.tmod (Int.tmod n 5 + 5) 5 = (K : Int) ∧ -5 < Int.tmod n 5 ∧ Int.tmod n 5 < 5 := by
  have h1 := Int.lt_tmod_of_pos n (show (0 : Int) < 5 by decide)
  have h2 := Int.tmod_lt_of_pos n (show (0 : Int) < 5 by decide)
  have h3 := Int.tmod_nonneg (a := Int.tmod n 5 + 5) 5 (by omega)
  have h4 := Int.tmod_lt_of_pos (Int.tmod n 5 + 5) (show (0 : Int) < 5 by decide)
  exact ⟨(Int.tmod (Int.tmod n 5 + 5) 5).toNat, by omega, by omega, h1, h2⟩
theorem addTo_frames {ls : List (List (List UInt8))} (h : 0 < ls.length) (b : List UInt8) : ∃ d, (ls.map Walp.frames)[ls.length - 1]? = some d ∧ d = Walp.frames (ls.getLastD []) ∧ (Walp.addTo ls b).map Walp.frames = (ls.map Walp.frames).set (ls.length - 1) (d ++ Walp.frame b) := by
  obtain ⟨init, rs, rfl⟩ := Walp.snoc_of h
  refine ⟨Walp.frames rs, ?_, ?_, ?_⟩
  · rw [List.map_append, List.length_append, List.getElem?_append_right (by simp)]; simp
  · simp
  · rw [Walp.addTo_snoc, List.map_append, List.map_append, List.length_append, List.set_append, if_neg (by simp)]
    simp [Walp.frames_append, Walp.frames_one]
theorem only_cell {w w' : World} {a : Addr} {v : Value} (t : Only w w') (h : w.cell? a = some v) : w'.cell? a = some v := (World.cell?_of_block (t.block _ (World.block_lt_of_cell? w _ h))).trans h
theorem frame_cells {w : World} {base gf n cp : Nat} {xs : List UInt8} (h : w.ownsRow base 5 1 (.slice (some ⟨gf, 0, none⟩) n cp) n (xs.map byteV)) : ∀ j u, (xs.map byteV)[j]? = some u → w.cell? ((⟨gf, 0, none⟩ : Addr).add j) = some u := fun j u hj => by
  have hl := h.1
  have hlt := (List.getElem?_eq_some_iff.1 hj).1
  rw [add_head, h.cellAt j (by omega), hj]
section
variable {w w1 w2 w' : World} {p lp : Nat} {S S' : Fsp.Fs} {Q : Nat → Prop}
set_option maxRecDepth 100000 in
set_option maxHeartbeats 40000000 in
theorem writes_walk (hT : SumTab w) {v kv : Value} {l : List (List UInt8)} {ks : List Int} (hL : ListsIn w v l) (hbl : ∀ q ∈ l, q.length ≤ 1048576) (hK : IntsIn w kv ks) (size : Int) (hsz : -9223372036854775808 ≤ size ∧ size ≤ 9223372036854775807) :
    Calls Tryz.prog 3 #[.int .i64 size, v, kv] w fun r w' => r = .returned (.bool true) ∧ Turn (fun _ => False) w w' := by
  obtain ⟨sp, cap, rfl, hml, hcc⟩ := hL
  have HL : Hid (ListsIn w (.slice sp l.length cap) l) := Lib.hid ⟨sp, cap, rfl, hml, hcc⟩
  have HT := Lib.hid hT
  have HBL := Lib.hid hbl
  obtain ⟨sk, ck, rfl, hkm, hkc⟩ := hK
  have HK := Lib.hid hkc
  obtain ⟨iB, hiB, hzB0, hzB1, hzB2⟩ := info_parts infoBytes
  clear hcc hT hbl hkc
  unfold maxLen at hml hkm
  go_enter Tryz.func3, Tryz.ntmps3
  go_wp2_with fail
  go_at_call 4
  refine (first_any HT.out).mono ?_
  rintro r w1 ⟨rfl, t1⟩
  have T1 := Lib.hid t1
  clear t1
  go_wp2_with fail
  go_at_call 5
  refine (wFew_any (HL.out.turned T1.out)).mono ?_
  rintro r w2 ⟨small, rfl, hsm, hlk⟩
  have T2 := Lib.hid (Turn.like T1.out hlk)
  clear hlk T1
  cases small with
  | false =>
    go_wp2
    go_ret
    exact ⟨rfl, T2.out⟩
  | true =>
    have h60 := hsm rfl
    have H60 := Lib.hid h60
    clear hsm h60
    go_wp2_with fail
    go_at_call 6
    refine (new_any 67108864 _).mono ?_
    rintro r w3 ⟨rfl, hr3, ht3⟩
    have T3 := Lib.hid (T2.out.trans ht3 (fun _ _ q => q))
    have HR3 := Lib.hid hr3
    have hsz2 := T2.out.size
    have HS2 := Lib.hid hsz2
    clear ht3 hr3 hsz2
    by_cases hbad : size < 16 ∨ 1048576 < size
    · have OR := Lib.hid (open_range (w := w3) w2.heap.size [119] (by rfl) size hbad)
      by_cases hb1 : size < 16
      all_goals
        try have hb2 : (1048576 : Int) < size := by omega
        clear hbad
        go_wp2_with fail
        go_at_call 7
        refine OR.out.mono ?_
        rintro r w4 ⟨rfl, t4⟩
        have T4 := Lib.hid (T3.out.trans t4 (fun _ _ q => q))
        clear t4
        go_wp2_with (go_at_call 8; refine (num_any _ _).mono ?_; rintro r w' ⟨rfl, rfl⟩)
        go_ret
        exact ⟨rfl, T4.out⟩
    · have hz1 : 16 ≤ size := by omega
      have hz2 : size ≤ 1048576 := by omega
      obtain ⟨sz, rfl⟩ : ∃ sz : Nat, size = (sz : Int) := ⟨size.toNat, by omega⟩
      have hop := open_new (w0 := w) HT.out HR3.out (fun i q => Nat.le_trans HS2.out q.1) T3.out [119] (by rfl) sz (by omega) (by omega) rfl rfl (by decide) (fun n _ _ => rfl) (by decide)
      have HOP := Lib.hid hop
      have hs1 : ¬ ((sz : Int) < 16) := by omega
      have hs2 : ¬ ((1048576 : Int) < (sz : Int)) := by omega
      clear hop hbad hsz
      go_wp2_with fail
      go_at_call 7
      refine HOP.out.mono ?_
      rintro r w4 ⟨lp, sp4, cap4, Q4, rfl, hx4, hl4, -⟩
      have hseg4 : Walp.AllSegs { Fsp.new 67108864 with armed := 0, steps := (Fsp.new 67108864).steps + 1, L := Fsp.put (Fsp.new 67108864).L (Walp.seg [119] 1) ⟨[], 0⟩ } [119] := fun x hx => by
        rcases Fsp.mem_put hx with rfl | hx
        · exact ⟨1, by decide, by decide, rfl⟩
        · cases hx
      have hI4 : LogI w w4 w2.heap.size lp sz 0 _ _ [[]] Q4 := ⟨hx4, hl4, rfl, rfl, hseg4, rfl, rfl, by decide, by show 1 ≤ 0 + 1; decide, by show 1 ≤ 100 * 0 + 1; decide⟩
      have I4 := Lib.hid (hI4.later (((Turn.refl (fun _ => False) w4).alloc (.cells #[] 5)).alloc (.cells #[.slice (some ⟨w4.heap.size, 0, none⟩) 0 0] 33)))
      have hR4 : RowI w ((w4.alloc (.cells #[] 5)).alloc (.cells #[.slice (some ⟨w4.heap.size, 0, none⟩) 0 0] 33)) lp Q4 (w4.heap.size + 1) 0 1 [.slice (some ⟨w4.heap.size, 0, none⟩) 0 0] ([[]].map Walp.frames) := ⟨segs_lit w4, fun b hb => by
        have hlp := hx4.log.lt
        have hq : ∀ b, Q4 b → b < w4.heap.size := fun b q => by obtain ⟨mo, pl, hr⟩ := hx4.rep; exact hr.lt b q
        have hsz0 := hx4.turn.size
        have hge : w4.heap.size ≤ b := by
          rcases hb with rfl | ⟨i, u, hu, hr⟩
          · exact Nat.le_succ _
          · have hi : i = 0 := by have := (List.getElem?_eq_some_iff.1 hu).1; simp at this; exact this
            subst hi
            simp at hu
            subst hu
            simp [Value.ownBlock] at hr
            omega
        exact ⟨fun q => by have := hq b q; omega, by omega, by omega⟩⟩
      have R4 := Lib.hid hR4
      clear hx4 hl4 HOP HR3 hI4 hR4
      go_wp2_with (go_at_call 8; refine (num_any _ _).mono ?_; rintro r w' ⟨rfl, rfl⟩)
      go_loopw [13, 14, 15] (fun f1 sv i wr => ∃ (k : Nat) (S : Fsp.Fs) (lg : Walp.Lg) (ls : List (List (List UInt8))) (Q : Nat → Prop) (g off cp : Nat) (us : List Value), k ≤ l.length ∧ f1 = .int .i64 (lg.first : Int) ∧ sv = .slice (some ⟨g, off, none⟩) ls.length cp ∧ i = .int .i64 (k : Int) ∧ LogI w wr w2.heap.size lp sz k S lg ls Q ∧ RowI w wr lp Q g off cp us (ls.map Walp.frames)) (fun _ _ i _ => l.length - (intOf i).toNat)
      case atStart => exact ⟨0, _, _, [[]], Q4, _, _, _, _, Nat.zero_le _, rfl, rfl, rfl, I4.out, R4.out⟩
      case round =>
        obtain ⟨k, S, lg, ls, Q, g, off, cap2, us, hk, rfl, rfl, rfl, hI, hR⟩ := hrel
        have HI := Lib.hid hI
        have HR := Lib.hid hR
        clear hI hR
        by_cases hlt : k < l.length
        · obtain ⟨sp', cap', hv, _, hcc⟩ := HL.out
          simp only [Value.slice.injEq] at hv
          obtain ⟨rfl, _, rfl⟩ := hv
          obtain ⟨a, u, hsp, hat, hok⟩ := hcc k _ (List.getElem?_eq_getElem hlt)
          subst hsp
          have htw := HI.out.hx.turn
          have c2 := turn_cell htw hat
          have hbl := HBL.out _ (List.getElem_mem hlt)
          obtain ⟨b, hb⟩ : ∃ b, b = l[k] := ⟨_, rfl⟩
          rw [← hb] at hok hbl
          obtain ⟨spu, capu, hu4, -⟩ := hok.c
          subst hu4
          have HOK := Lib.hid hok
          have HBB := Lib.hid hbl
          have HAT := Lib.hid hat
          have i0 : (0 : Int) ≤ (k : Int) := by omega
          have i1 : (k : Int) < (l.length : Int) := by omega
          have k60 : k < 60 := by have := H60.out; omega
          have hlast0 := HI.out.live.last
          obtain ⟨-, hf0, hls0, -⟩ := HI.out.len
          have hany := HI.out.live.any
          have hlim := HI.out.last
          have hC := HR.out.rows.nc
          simp only [List.length_map] at hC
          have HCAP := Lib.hid hC
          clear hb hok hbl hat hcc hC
          by_cases hkk : k < ks.length
          · have x1 : (k : Int) < (ks.length : Int) := by omega
            obtain ⟨⟨ak, hsk, hck⟩, hx1, hx2⟩ := HK.out k _ (List.getElem?_eq_getElem hkk)
            subst hsk
            have c3 := turn_cell htw hck
            obtain ⟨x, hx⟩ : ∃ x, x = ks[k] := ⟨_, rfl⟩
            rw [← hx] at c3 hx1 hx2
            obtain ⟨K, hK5, hKe, hm1, hm2⟩ := rem5 x
            clear hck hx htw
            by_cases h3 : K = 3
            · subst h3
              have hrn := HR.out.rows.nc
              have hrm := HR.out.rows.mc
              have hnu := HR.out.rows.nu
              simp only [List.length_map] at hrn hnu
              have tb := turnBox wr (.cells #[.slice none 0 0] 33)
              have RB := Lib.hid (HR.out.later tb)
              have IB := Lib.hid (HI.out.later tb)
              have HLO := Lib.hid (show us.length = ls.length * 1 by rw [Nat.mul_one]; exact hnu)
              have HOLD := Lib.hid (RB.out.rows.olds)
              have hcap := HCAP.out
              by_cases hroom : ls.length < cap2
              · have hsp := RB.out.rows.spare (by simp only [List.length_map]; omega)
                simp only [List.length_map] at hsp
                have HSPF : Hid (ls.length + 1 ≤ cap2 → ∀ j, j < ([.slice none 0 0] : List Value).length → ((wr.alloc (.cells #[.slice none 0 0] 33)).cell? ⟨g, off + ls.length * 1 + j, none⟩).isSome = true ∧ (wr.alloc (.cells #[.slice none 0 0] 33)).frozen? ⟨g, off + ls.length * 1 + j, none⟩ = false) := Lib.hid (fun _ j hj => by
                  have hj0 : j = 0 := by simpa using hj
                  subst hj0
                  simpa using hsp)
                have RG := Lib.hid (RB.out.rows.room (by simpa using hroom))
                have hout : ∀ b, b = g → ¬ Q b ∧ b ≠ lp ∧ w.heap.size ≤ b := fun b e => HR.out.sep b (Or.inl e)
                have t2 := turnP (wr.alloc (.cells #[.slice none 0 0] 33)) g (off + ls.length) (.slice none 0 0)
                have IG := Lib.hid (IB.out.besides t2 hout)
                have RG2 : Hid (RowI w ((wr.alloc (.cells #[.slice none 0 0] 33)).setCell ⟨g, off + ls.length, none⟩ (.slice none 0 0)) lp Q g off cap2 (us ++ [.slice none 0 0]) ((ls ++ [[]]).map Walp.frames)) := Lib.hid ⟨by have := RG.out; simpa [Walp.frames_nil] using this, fun b hb => HR.out.sep b hb.snoc⟩
                clear hsp hout t2 tb hnu RG HR HI IB RB
                go_upto_region 28 with (fail)
                go_wp2_with (at_builtin; refine wpList_append_arg _ rfl _ _ 22 rfl 33 iB (.slice none 0 0) 1 24 Tryz.underlying22 hiB hzB0 hzB1 hzB2 rfl (by decide) g off ls.length cap2 us rfl HLO.out HOLD.out ⟨wr.heap.size, 0, none⟩ 1 1 [.slice none 0 0] rfl rfl (cell_one_new _ _ _) (by simp [Value.oneCell']) HSPF.out (by unfold maxLen at hrm ⊢; omega) (by omega) (fun _ => ?_) (fun h => absurd h (by omega)); simp only [World.setCells, Nat.mul_one]; go_frame)
                have hn9 : (ls ++ [[]]).length = ls.length + 1 := by simp
                obtain ⟨n9, hn9e⟩ : ∃ n9, n9 = ls.length + 1 := ⟨_, rfl⟩
                have HN9 : Hid ((ls ++ [[]]).length = n9) := Lib.hid (by rw [hn9e]; exact hn9)
                clear hn9
                go_at_call 9
                refine (rotate_I IG.out k60 RG2.out).mono ?_

                rintro r w9 ⟨rfl, S9, l9, Q9, hI9, hf9, hR9⟩

                have hl9 := hI9.live.last
                have hlen9 := HN9.out
                rw [hlen9] at hl9
                have b9 : ((l9.last : Int) != ((lg.first : Int)) + ((ls.length : Int) + 1) - 1) = false := by
                  rw [bne_eq_false_iff_eq]; omega
                have b10 : ((l9.first : Int) != ((lg.first : Int))) = false := by
                  rw [bne_eq_false_iff_eq]; omega
                have I9 := Lib.hid hI9
                have R9 := Lib.hid hR9
                have SG := Lib.hid (segment_is hI9.hx)
                have FO := Lib.hid (first_is hI9.hx)
                have F9 := Lib.hid hf9
                clear hI9 hR9 hl9 hlen9 hf9
                go_wp2_with (first | (go_at_call 8; refine (num_any _ _).mono ?_; rintro r w' ⟨rfl, rfl⟩) | (go_at_call 13; refine SG.out.mono ?_; rintro r w' ⟨rfl, rfl⟩) | (go_at_call 14; refine FO.out.mono ?_; rintro r w' ⟨rfl, rfl⟩))
                exact ⟨⟨k + 1, S9, l9, ls ++ [[]], Q9, g, off, cap2, _, by omega, by rw [F9.out], by simp, by go_num, I9.out, R9.out⟩, by simp [intOf]; omega⟩
              · clear hnu tb
                go_upto_region 28 with (fail)
                go_wp2_with (at_builtin; refine wpList_append_arg _ rfl _ _ 22 rfl 33 iB (.slice none 0 0) 1 24 Tryz.underlying22 hiB hzB0 hzB1 hzB2 rfl (by decide) g off ls.length cap2 us rfl HLO.out HOLD.out ⟨wr.heap.size, 0, none⟩ 1 1 [.slice none 0 0] rfl rfl (cell_one_new _ _ _) (by simp [Value.oneCell']) (fun h => absurd h (by omega)) (by unfold maxLen at hrm ⊢; omega) (by omega) (fun h => absurd h (by omega)) (fun _ v' w' ho' hg' => ?_); go_frame)
                have t9 : Turn (fun _ => False) (wr.alloc (.cells #[.slice none 0 0] 33)) w' := (Turn.refl _ _).grown hg' (fun k e => by cases e)
                obtain ⟨g2, cap3, hv2, hB2, hS2⟩ := RB.out.rows.grow t9 (Nat.le_refl _) (by simpa using ho')
                simp only [List.length_map] at hv2
                subst hv2
                have hQlt : ∀ b, Q b → b < wr.heap.size := fun b q => by obtain ⟨mo, pl, hr⟩ := HI.out.hx.rep; exact hr.lt b q
                have hlplt := HI.out.hx.log.lt
                have hwlt := HI.out.hx.turn.size
                simp only [World.size_alloc] at hB2
                have RG2 : Hid (RowI w w' lp Q g2 0 cap3 (us ++ [.slice none 0 0]) ((ls ++ [[]]).map Walp.frames)) := Lib.hid ⟨by simpa [Walp.frames_nil] using hS2, fun b hb => by
                  rcases hb with rfl | hb
                  · exact ⟨fun q => by have := hQlt b q; omega, by omega, by omega⟩
                  · exact HR.out.sep b (SegB.snoc (Or.inr hb))⟩
                have IG := Lib.hid (IB.out.later t9)
                clear hQlt hlplt hwlt hB2 hS2 t9 ho' hg' RB IB HR HI

                have hn9 : (ls ++ [[]]).length = ls.length + 1 := by simp
                obtain ⟨n9, hn9e⟩ : ∃ n9, n9 = ls.length + 1 := ⟨_, rfl⟩
                have HN9 : Hid ((ls ++ [[]]).length = n9) := Lib.hid (by rw [hn9e]; exact hn9)
                clear hn9
                go_at_call 9
                refine (rotate_I IG.out k60 RG2.out).mono ?_

                rintro r w9 ⟨rfl, S9, l9, Q9, hI9, hf9, hR9⟩

                have hl9 := hI9.live.last
                have hlen9 := HN9.out
                rw [hlen9] at hl9
                have b9 : ((l9.last : Int) != ((lg.first : Int)) + ((ls.length : Int) + 1) - 1) = false := by
                  rw [bne_eq_false_iff_eq]; omega
                have b10 : ((l9.first : Int) != ((lg.first : Int))) = false := by
                  rw [bne_eq_false_iff_eq]; omega
                have I9 := Lib.hid hI9
                have R9 := Lib.hid hR9
                have SG := Lib.hid (segment_is hI9.hx)
                have FO := Lib.hid (first_is hI9.hx)
                have F9 := Lib.hid hf9
                clear hI9 hR9 hl9 hlen9 hf9
                go_wp2_with (first | (go_at_call 8; refine (num_any _ _).mono ?_; rintro r w' ⟨rfl, rfl⟩) | (go_at_call 13; refine SG.out.mono ?_; rintro r w' ⟨rfl, rfl⟩) | (go_at_call 14; refine FO.out.mono ?_; rintro r w' ⟨rfl, rfl⟩))
                exact ⟨⟨k + 1, S9, l9, ls ++ [[]], Q9, g2, 0, cap3, _, by omega, by rw [F9.out], by simp, by go_num, I9.out, R9.out⟩, by simp [intOf]; omega⟩
            · have b3 : ((K : Int) == 3) = false := by rw [beq_eq_false_iff_ne]; omega
              by_cases h4 : K = 4
              · subst h4
                obtain ⟨j, hjv⟩ : ∃ j, j = b.length % (ls.length + 2) := ⟨_, rfl⟩
                have hj2 : Int.tmod (b.length : Int) ((ls.length : Int) + 2) = (j : Int) := by
                  rw [hjv, show ((ls.length : Int) + 2) = ((ls.length + 2 : Nat) : Int) by omega]
                  exact (Int.ofNat_tmod _ _).symm
                have hj3 : j < ls.length + 2 := by rw [hjv]; exact Nat.mod_lt _ (by omega)
                have hj4 : (((ls.length : Int) + 2) == 0) = false := by rw [beq_eq_false_iff_ne]; omega
                have hb20 : b.length ≤ 1048576 := HBB.out
                clear hjv
                by_cases hj : j < ls.length
                · have hj5 : ¬ ((lg.first : Int) + ((ls.length : Int) - 1) < (lg.first : Int) + (j : Int)) := by omega
                  have hcj1 : ¬ cap2 = j := by have := HCAP.out; omega
                  have hcj2 : ¬ cap2 ≤ j := by have := HCAP.out; omega
                  have hcj3 : ¬ cap2 - j = 0 := by omega
                  go_wp2_with fail
                  go_at_call 10
                  refine (drop_I HI.out k60 HR.out j hj).mono ?_
                  have hn9 : (ls.drop j).length = ls.length - j := by simp
                  obtain ⟨n9, hn9e⟩ : ∃ n9, n9 = ls.length - j := ⟨_, rfl⟩
                  have HN9 : Hid ((ls.drop j).length = n9) := Lib.hid (by rw [hn9e]; exact hn9)
                  clear hn9

                  rintro r w9 ⟨rfl, S9, l9, Q9, hI9, hf9, hR9⟩

                  have hl9 := hI9.live.last
                  have hlen9 := HN9.out
                  rw [hlen9] at hl9
                  have b9 : ((l9.last : Int) != ((lg.first : Int) + (j : Int)) + ((ls.length - j : Nat) : Int) - 1) = false := by
                    rw [bne_eq_false_iff_eq]; omega
                  have b10 : ((l9.first : Int) != ((lg.first : Int) + (j : Int))) = false := by
                    rw [bne_eq_false_iff_eq]; omega
                  have I9 := Lib.hid hI9
                  have R9 := Lib.hid hR9
                  have SG := Lib.hid (segment_is hI9.hx)
                  have FO := Lib.hid (first_is hI9.hx)
                  have F9 := Lib.hid hf9
                  clear hI9 hR9 hl9 hlen9 hf9
                  go_wp2_with (first | (go_at_call 8; refine (num_any _ _).mono ?_; rintro r w' ⟨rfl, rfl⟩) | (go_at_call 13; refine SG.out.mono ?_; rintro r w' ⟨rfl, rfl⟩) | (go_at_call 14; refine FO.out.mono ?_; rintro r w' ⟨rfl, rfl⟩))
                  exact ⟨⟨k + 1, S9, l9, ls.drop j, Q9, g, (off + j), (cap2 - j), _, by omega, by rw [F9.out]; push_cast; rfl, by simp, by go_num, I9.out, ⟨by have h0 := R9.out.rows.drop (k := j) (by simp only [List.length_map]; omega); simpa [List.map_drop] using h0, fun b hb => R9.out.sep b hb.drop⟩⟩, by simp [intOf]; omega⟩
                · have hj5 : ((lg.first : Int) + ((ls.length : Int) - 1) < (lg.first : Int) + (j : Int)) := by omega
                  have DR := Lib.hid (drop_range HI.out.hx HI.out.live.free ((lg.first : Int) + (j : Int)) (by omega))
                  have SG := Lib.hid (segment_is HI.out.hx)
                  have FO := Lib.hid (first_is HI.out.hx)
                  have b9 : ((lg.last : Int) != (lg.first : Int) + (ls.length : Int) - 1) = false := by
                    rw [bne_eq_false_iff_eq]; omega
                  go_wp2_with fail
                  go_at_call 10
                  refine DR.out.mono ?_
                  rintro r w9 ⟨rfl, rfl⟩
                  go_wp2_with (first | (go_at_call 8; refine (num_any _ _).mono ?_; rintro r w' ⟨rfl, rfl⟩) | (go_at_call 13; refine SG.out.mono ?_; rintro r w' ⟨rfl, rfl⟩) | (go_at_call 14; refine FO.out.mono ?_; rintro r w' ⟨rfl, rfl⟩))
                  exact ⟨⟨k + 1, S, lg, ls, Q, g, off, cap2, us, by omega, rfl, rfl, by go_num, HI.out.up, HR.out⟩, by simp [intOf]; omega⟩
              · have b4 : ((K : Int) == 4) = false := by rw [beq_eq_false_iff_ne]; omega
                obtain ⟨m, hm⟩ : ∃ m, ls.length = m + 1 := ⟨ls.length - 1, by omega⟩
                obtain ⟨d, hd1, hd2, hd3⟩ := addTo_frames hany b
                obtain ⟨u, hu, cu, -, ru⟩ := HR.out.rows.at hd1
                obtain ⟨su, cpu, hv, -⟩ := own_cell ru (by simp)
                subst hv
                rw [hm] at cu
                simp only [Nat.add_sub_cancel] at cu
                rw [show ls.length - 1 = m by omega] at hd1 hd3 hu
                have HD3 := Lib.hid hd3
                have hfu : Walp.rot sz ls = if sz ≤ d.length then ls ++ [[]] else ls := by unfold Walp.rot; rw [← hd2]
                have HD1 := Lib.hid hd1
                have HD2 := Lib.hid hd2
                have HU := Lib.hid hu
                have HRU := Lib.hid ru
                have HDL : Hid (d.length ≤ 67108864) := Lib.hid (by
                  obtain ⟨init, rs, hls⟩ := Walp.snoc_of hany
                  have hlf := HI.out.live
                  rw [hls] at hlf
                  have h1 := Fsp.used_find hlf.lastIs.2
                  have h2 := HI.out.hx.sorted.2.1
                  have h3 := HI.out.room
                  have h4 : d = (Walp.whole rs).data := by rw [hd2, hls]; simp [Walp.whole]
                  rw [h4]; omega)
                obtain ⟨i8, h8, z80, z81, z82⟩ := info_parts Tryz.infoU8
                have HM := Lib.hid hm
                have TW : Hid (Turn (fun _ => False) w wr) := Lib.hid HI.out.hx.turn
                obtain ⟨n, hn⟩ : ∃ n, ls.length = n := ⟨_, rfl⟩
                rw [hn]
                have HN := Lib.hid hn
                have m0 : (0 : Int) ≤ (m : Int) := by omega
                have m1 : (m : Int) ≤ 61 := by omega
                have mn : (m : Int) < (n : Int) := by omega
                have en : (n : Int) - 1 = (m : Int) := by omega
                have en2 : (m : Int) + 1 = (n : Int) := by omega
                have fb0 : (0 : Int) ≤ (lg.first : Int) := by omega
                have fb1 : (lg.first : Int) ≤ 61 := by omega
                have nb0 : (0 : Int) ≤ (n : Int) := by omega
                have nb1 : (n : Int) ≤ 61 := by omega
                clear hm hn hd1 hd2 hd3 hu ru
                by_cases hfull : sz ≤ d.length
                · have hf1 : ((sz : Int) ≤ (d.length : Int)) := by omega
                  rw [if_pos hfull] at hfu
                  have HFU := Lib.hid hfu
                  clear hfu hfull hlast0 hf0 hls0 hlim
                  have hrn := HR.out.rows.nc
                  have hrm := HR.out.rows.mc
                  have hnu := HR.out.rows.nu
                  simp only [List.length_map] at hrn hnu
                  rw [HN.out] at hrn hnu
                  have HNU := Lib.hid hnu
                  have tb := turnBox wr (.cells #[.slice none 0 0] 33)
                  have RB := Lib.hid (HR.out.later tb)
                  have IB := Lib.hid (HI.out.later tb)
                  have HLO := Lib.hid (show us.length = n * 1 by rw [Nat.mul_one]; exact hnu)
                  have HOLD := Lib.hid (RB.out.rows.olds)
                  have hcap := HCAP.out
                  rw [HN.out] at hcap
                  by_cases hroom : n < cap2
                  · have hsp := RB.out.rows.spare (by simp only [List.length_map]; rw [HN.out]; omega)
                    simp only [List.length_map] at hsp
                    rw [HN.out] at hsp
                    have HSPF : Hid (n + 1 ≤ cap2 → ∀ j, j < ([.slice none 0 0] : List Value).length → ((wr.alloc (.cells #[.slice none 0 0] 33)).cell? ⟨g, off + n * 1 + j, none⟩).isSome = true ∧ (wr.alloc (.cells #[.slice none 0 0] 33)).frozen? ⟨g, off + n * 1 + j, none⟩ = false) := Lib.hid (fun _ j hj => by
                      have hj0 : j = 0 := by simpa using hj
                      subst hj0
                      simpa using hsp)
                    have RG := Lib.hid (RB.out.rows.room (by simp only [List.length_map]; rw [HN.out]; exact hroom))
                    have hout : ∀ b, b = g → ¬ Q b ∧ b ≠ lp ∧ w.heap.size ≤ b := fun b e => HR.out.sep b (Or.inl e)
                    have t2 := turnP (wr.alloc (.cells #[.slice none 0 0] 33)) g (off + n) (.slice none 0 0)
                    have IG := Lib.hid (IB.out.besides t2 hout)
                    have RG2 : Hid (RowI w ((wr.alloc (.cells #[.slice none 0 0] 33)).setCell ⟨g, off + n, none⟩ (.slice none 0 0)) lp Q g off cap2 (us ++ [.slice none 0 0]) ((ls ++ [[]]).map Walp.frames)) := Lib.hid ⟨by have h0 := RG.out; rw [List.length_map, HN.out] at h0; simpa [Walp.frames_nil] using h0, fun b hb => HR.out.sep b hb.snoc⟩
                    clear hsp hout t2 tb hnu HRU HD1 HD3 HU RG HR HI IB RB
                    go_upto_region 22 with (fail)
                    go_wp2_with (at_builtin; refine wpList_append_arg _ rfl _ _ 22 rfl 33 iB (.slice none 0 0) 1 24 Tryz.underlying22 hiB hzB0 hzB1 hzB2 rfl (by decide) g off n cap2 us rfl HLO.out HOLD.out ⟨wr.heap.size, 0, none⟩ 1 1 [.slice none 0 0] rfl rfl (cell_one_new _ _ _) (by simp [Value.oneCell']) HSPF.out (by unfold maxLen at hrm ⊢; omega) (by omega) (fun _ => ?_) (fun h => absurd h (by omega)); simp only [World.setCells, Nat.mul_one]; go_frame)
                    obtain ⟨wc, hwc⟩ : ∃ wc, wc = (wr.alloc (.cells #[.slice none 0 0] 33)).setCell ⟨g, off + n, none⟩ (.slice none 0 0) := ⟨_, rfl⟩
                    rw [← hwc] at IG RG2
                    rw [← hwc]
                    clear hwc

                    obtain ⟨n1, hn1⟩ : ∃ n1, n + 1 = n1 := ⟨_, rfl⟩
                    rw [hn1]
                    have HN1 := Lib.hid hn1
                    have nn1 : (n : Int) < (n1 : Int) := by omega
                    have nb2 : (n1 : Int) ≤ 62 := by omega
                    have nb3 : (0 : Int) ≤ (n1 : Int) := by omega
                    obtain ⟨d9, hd1, hd2, hd3⟩ := addTo_frames (ls := ls ++ [[]]) (by simp) b
                    have hd9 : d9 = [] := by rw [hd2]; simp [Walp.frames_nil]
                    subst hd9
                    have e9 : (ls ++ [([] : List (List UInt8))]).length - 1 = n := by
                      have hn0 := HN.out
                      simp only [List.length_append, List.length_cons, List.length_nil]; omega
                    rw [e9] at hd1 hd3
                    have HD1 := Lib.hid hd1
                    have HD3 := Lib.hid hd3
                    have HU : Hid ((us ++ [Value.slice none 0 0])[n]? = some (.slice none 0 0)) := Lib.hid (by rw [List.getElem?_append_right (by rw [HNU.out]; exact Nat.le_refl _), HNU.out, Nat.sub_self]; rfl)
                    have hat9 := RG2.out.rows.at hd1
                    obtain ⟨u9, hu9, cu9, -, ru9⟩ := hat9
                    try rw [Nat.zero_add] at cu9
                    obtain rfl : u9 = .slice none 0 0 := Option.some.inj (hu9.symm.trans HU.out)
                    have QU := Lib.hid cu9
                    have HRU := Lib.hid ru9
                    have TW := Lib.hid IG.out.hx.turn
                    have QL := Lib.hid (turn_cell IG.out.hx.turn HAT.out)
                    have HLM : Hid (0 + (Walp.frame b).length ≤ maxLen) := Lib.hid (by rw [Walp.frame_length]; have h1 := HBB.out; unfold maxLen; omega)
                    have HLM2 : Hid ((0 + (Walp.frame b).length) * 1 ≤ 140737488355328) := Lib.hid (by rw [Walp.frame_length]; have h1 := HBB.out; omega)
                    clear hn1 hd1 hd2 hd3 hu9 cu9 ru9

                    have FR : Hid (∀ W, Turn (fun _ => False) wc W → Calls Tryz.prog 11 #[.slice spu b.length capu] W fun r w' => ∃ gf cap, r = .returned (.slice (some ⟨gf, 0, none⟩) (Walp.frame b).length cap) ∧ w'.ownsRow W.heap.size 5 1 (.slice (some ⟨gf, 0, none⟩) (Walp.frame b).length cap) (Walp.frame b).length ((Walp.frame b).map byteV) ∧ Turn (fun _ => False) W w') := Lib.hid (fun W t => by
                      have hk := (HOK.out.turned TW.out).turned t
                      refine (refFrame_any hk.c.toR hk.b (by have := HBB.out; omega)).mono ?_
                      rintro r w' ⟨spf, cpf, rfl, hof, tf⟩
                      rcases hof.2 with ⟨_, e⟩ | ⟨gf, cf, cur, e, _⟩
                      · rw [Walp.frame_length] at e; omega
                      · simp only [Value.slice.injEq] at e
                        obtain ⟨rfl, -, -⟩ := e
                        exact ⟨gf, cpf, rfl, hof, tf⟩)
                    have FRS : Hid (∀ (v : Value) (w w' : World), Only w w' → (∃ gf cpf, v = .slice (some ⟨gf, 0, none⟩) (Walp.frame b).length cpf ∧ w.ownsRow 0 5 1 (.slice (some ⟨gf, 0, none⟩) (Walp.frame b).length cpf) (Walp.frame b).length ((Walp.frame b).map byteV)) → (∃ gf cpf, v = .slice (some ⟨gf, 0, none⟩) (Walp.frame b).length cpf ∧ w'.ownsRow 0 5 1 (.slice (some ⟨gf, 0, none⟩) (Walp.frame b).length cpf) (Walp.frame b).length ((Walp.frame b).map byteV))) := Lib.hid (fun v w w' t ⟨gf, cpf, e, h⟩ => ⟨gf, cpf, e, ownsRow_turned h t.turn (fun _ _ e => e)⟩)
                    have q1 := QU.out
                    have q2 := QL.out
                    go_upto_region 24 with (fail)
                    refine wp_region_rich_tailT 12 (saidV [pVal (.slice (some ⟨g, off, none⟩) n1 cap2), pVal (.int .i64 (n : Int)), pVal (.slice (some ⟨g, off, none⟩) n1 cap2), pVal (.int .i64 (n : Int)), pVal (.pointer (some ⟨g, off + n, none⟩)), pVal (.slice none 0 0), pVal (.slice (some a) l.length cap), pVal (.int .i64 (k : Int)), pVal (.pointer (some (a.add k))), pVal (.slice spu b.length capu), fun _ _ _ => True, fun _ _ _ => True]) (F := ?F24b) (by kernel_rfl) (by kernel_rfl) (by kernel_rfl) (by kernel_rfl) (by kernel_rfl) (by kernel_rfl) (by kernel_rfl) ?hF24b (fun _ _ => True) (LateX wc (fun v w => ∃ gf cpf, v = .slice (some ⟨gf, 0, none⟩) (Walp.frame b).length cpf ∧ w.ownsRow 0 5 1 (.slice (some ⟨gf, 0, none⟩) (Walp.frame b).length cpf) (Walp.frame b).length ((Walp.frame b).map byteV)) (fun v w => RowB w v ([] ++ Walp.frame b) ∧ Turn (fun r => (.slice none 0 0 : Value).ownBlock = some r) wc w ∧ (v.ownBlock = (.slice none 0 0 : Value).ownBlock ∨ ∃ b, v.ownBlock = some b ∧ wc.heap.size ≤ b))) ?hV24b ?h024b ?hst24b ?hend24b
                    case hF24b =>
                      intro vs
                      simp only [List.take_succ_cons, List.take_zero, fills]
                      go_simp
                      exact rfl
                    case hV24b =>
                      intro i v ds W W' _ h
                      unfold saidV at *
                      rcases i with _ | _ | _ | _ | _ | _ | _ | _ | _ | _ | _ | _ | i <;> first | exact h | trivial
                    case h024b => exact fun vs => LateX.start vs (Only.refl _).drew
                    case hst24b =>
                      intro i o ho L vs W hL hX hi hcl hgot hdl hga K hK
                      have anc : L.getD 11 false = true → L.getD 2 false = true ∧ L.getD 3 false = true ∧ L.getD 4 false = true ∧ L.getD 5 false = true ∧ L.getD 6 false = true ∧ L.getD 7 false = true ∧ L.getD 8 false = true ∧ L.getD 9 false = true ∧ L.getD 10 false = true := fun h11 => by
                        have a5 := hcl 11 _ rfl h11 5 (by simp [depsOf, Region.binds, List.filter_cons])
                        have a10 := hcl 11 _ rfl h11 10 (by simp [depsOf, Region.binds, List.filter_cons])
                        have a4 := hcl 5 _ rfl a5 4 (by simp [depsOf, Region.binds, List.filter_cons])
                        have a2 := hcl 4 _ rfl a4 2 (by simp [depsOf, Region.binds, List.filter_cons])
                        have a3 := hcl 4 _ rfl a4 3 (by simp [depsOf, Region.binds, List.filter_cons])
                        have a9 := hcl 10 _ rfl a10 9 (by simp [depsOf, Region.binds, List.filter_cons])
                        have a8 := hcl 9 _ rfl a9 8 (by simp [depsOf, Region.binds, List.filter_cons])
                        have a6 := hcl 8 _ rfl a8 6 (by simp [depsOf, Region.binds, List.filter_cons])
                        have a7 := hcl 8 _ rfl a8 7 (by simp [depsOf, Region.binds, List.filter_cons])
                        exact ⟨a2, a3, a4, a5, a6, a7, a8, a9, a10⟩
                      rcases i with _ | _ | _ | _ | _ | _ | _ | _ | _ | _ | _ | _ | i
                      · simp only [List.take_succ_cons, List.take_zero, List.getElem?_cons_succ, List.getElem?_cons_zero, Option.some.injEq] at ho
                        subst ho
                        simp [depsOf, Region.binds, List.filter_cons, GotAll, saidV, pVal] at hga
                        unfold RichAt
                        go_simp
                        exact hK _ _ trivial rfl (hX.same (by decide))
                      · simp only [List.take_succ_cons, List.take_zero, List.getElem?_cons_succ, List.getElem?_cons_zero, Option.some.injEq] at ho
                        subst ho
                        simp [depsOf, Region.binds, List.filter_cons, GotAll, saidV, pVal] at hga
                        unfold RichAt
                        go_simp
                        exact hK _ _ trivial rfl (hX.same (by decide))
                      · simp only [List.take_succ_cons, List.take_zero, List.getElem?_cons_succ, List.getElem?_cons_zero, Option.some.injEq] at ho
                        subst ho
                        have hz' : L.getD 11 false = false := by
                          cases hz : L.getD 11 false with
                          | false => rfl
                          | true => have h9 := anc hz; rw [h9.1] at hi; cases hi
                        have hO := (hX.1 hz').1
                        have n1 := hO.cellM q1
                        have n2 := only_cell hO q2
                        simp [depsOf, Region.binds, List.filter_cons, GotAll, saidV, pVal] at hga
                        unfold RichAt
                        go_simp
                        exact hK _ _ trivial rfl (hX.low (by decide) hz' (Only.refl _) FRS.out)
                      · simp only [List.take_succ_cons, List.take_zero, List.getElem?_cons_succ, List.getElem?_cons_zero, Option.some.injEq] at ho
                        subst ho
                        have hz' : L.getD 11 false = false := by
                          cases hz : L.getD 11 false with
                          | false => rfl
                          | true => have h9 := anc hz; rw [h9.2.1] at hi; cases hi
                        have hO := (hX.1 hz').1
                        have n1 := hO.cellM q1
                        have n2 := only_cell hO q2
                        simp [depsOf, Region.binds, List.filter_cons, GotAll, saidV, pVal] at hga
                        unfold RichAt
                        go_simp
                        exact hK _ _ trivial rfl (hX.low (by decide) hz' (Only.refl _) FRS.out)
                      · simp only [List.take_succ_cons, List.take_zero, List.getElem?_cons_succ, List.getElem?_cons_zero, Option.some.injEq] at ho
                        subst ho
                        have hz' : L.getD 11 false = false := by
                          cases hz : L.getD 11 false with
                          | false => rfl
                          | true => have h9 := anc hz; rw [h9.2.2.1] at hi; cases hi
                        have hO := (hX.1 hz').1
                        have n1 := hO.cellM q1
                        have n2 := only_cell hO q2
                        simp [depsOf, Region.binds, List.filter_cons, GotAll, saidV, pVal] at hga
                        unfold RichAt
                        go_simp
                        exact hK _ _ trivial rfl (hX.low (by decide) hz' (Only.refl _) FRS.out)
                      · simp only [List.take_succ_cons, List.take_zero, List.getElem?_cons_succ, List.getElem?_cons_zero, Option.some.injEq] at ho
                        subst ho
                        have hz' : L.getD 11 false = false := by
                          cases hz : L.getD 11 false with
                          | false => rfl
                          | true => have h9 := anc hz; rw [h9.2.2.2.1] at hi; cases hi
                        have hO := (hX.1 hz').1
                        have n1 := hO.cellM q1
                        have n2 := only_cell hO q2
                        simp [depsOf, Region.binds, List.filter_cons, GotAll, saidV, pVal] at hga
                        unfold RichAt
                        go_simp
                        exact hK _ _ trivial rfl (hX.low (by decide) hz' (Only.refl _) FRS.out)
                      · simp only [List.take_succ_cons, List.take_zero, List.getElem?_cons_succ, List.getElem?_cons_zero, Option.some.injEq] at ho
                        subst ho
                        have hz' : L.getD 11 false = false := by
                          cases hz : L.getD 11 false with
                          | false => rfl
                          | true => have h9 := anc hz; rw [h9.2.2.2.2.1] at hi; cases hi
                        have hO := (hX.1 hz').1
                        have n1 := hO.cellM q1
                        have n2 := only_cell hO q2
                        simp [depsOf, Region.binds, List.filter_cons, GotAll, saidV, pVal] at hga
                        unfold RichAt
                        go_simp
                        exact hK _ _ trivial rfl (hX.low (by decide) hz' (Only.refl _) FRS.out)
                      · simp only [List.take_succ_cons, List.take_zero, List.getElem?_cons_succ, List.getElem?_cons_zero, Option.some.injEq] at ho
                        subst ho
                        have hz' : L.getD 11 false = false := by
                          cases hz : L.getD 11 false with
                          | false => rfl
                          | true => have h9 := anc hz; rw [h9.2.2.2.2.2.1] at hi; cases hi
                        have hO := (hX.1 hz').1
                        have n1 := hO.cellM q1
                        have n2 := only_cell hO q2
                        simp [depsOf, Region.binds, List.filter_cons, GotAll, saidV, pVal] at hga
                        unfold RichAt
                        go_simp
                        exact hK _ _ trivial rfl (hX.low (by decide) hz' (Only.refl _) FRS.out)
                      · simp only [List.take_succ_cons, List.take_zero, List.getElem?_cons_succ, List.getElem?_cons_zero, Option.some.injEq] at ho
                        subst ho
                        have hz' : L.getD 11 false = false := by
                          cases hz : L.getD 11 false with
                          | false => rfl
                          | true => have h9 := anc hz; rw [h9.2.2.2.2.2.2.1] at hi; cases hi
                        have hO := (hX.1 hz').1
                        have n1 := hO.cellM q1
                        have n2 := only_cell hO q2
                        simp [depsOf, Region.binds, List.filter_cons, GotAll, saidV, pVal] at hga
                        unfold RichAt
                        go_simp
                        exact hK _ _ trivial rfl (hX.low (by decide) hz' (Only.refl _) FRS.out)
                      · simp only [List.take_succ_cons, List.take_zero, List.getElem?_cons_succ, List.getElem?_cons_zero, Option.some.injEq] at ho
                        subst ho
                        have hz' : L.getD 11 false = false := by
                          cases hz : L.getD 11 false with
                          | false => rfl
                          | true => have h9 := anc hz; rw [h9.2.2.2.2.2.2.2.1] at hi; cases hi
                        have hO := (hX.1 hz').1
                        have n1 := hO.cellM q1
                        have n2 := only_cell hO q2
                        simp [depsOf, Region.binds, List.filter_cons, GotAll, saidV, pVal] at hga
                        unfold RichAt
                        go_simp
                        exact hK _ _ trivial rfl (hX.low (by decide) hz' (Only.refl _) FRS.out)
                      · simp only [List.take_succ_cons, List.take_zero, List.getElem?_cons_succ, List.getElem?_cons_zero, Option.some.injEq] at ho
                        subst ho
                        have hz' : L.getD 11 false = false := by
                          cases hz : L.getD 11 false with
                          | false => rfl
                          | true => have h9 := anc hz; rw [h9.2.2.2.2.2.2.2.2] at hi; cases hi
                        have hO := (hX.1 hz').1
                        simp [depsOf, Region.binds, List.filter_cons, GotAll, saidV, pVal] at hga
                        unfold RichAt
                        go_simp
                        refine (FR.out _ hO.turn).mono ?_
                        rintro e w' ⟨gf, cpf, rfl, hof, tf⟩
                        exact ⟨_, rfl, hK _ _ trivial trivial (hX.frm hz' tf.only ⟨gf, cpf, rfl, own_zero hof⟩)⟩
                      · simp only [List.take_succ_cons, List.take_zero, List.getElem?_cons_succ, List.getElem?_cons_zero, Option.some.injEq] at ho
                        subst ho
                        have hz' : L.getD 11 false = false := hi
                        have hO := (hX.1 hz').1
                        obtain ⟨gf, cpf, e10, hof⟩ := (hX.1 hz').2 (hdl 10 (by simp [depsOf, Region.binds, List.filter_cons]))
                        simp [depsOf, Region.binds, List.filter_cons, GotAll, saidV, pVal] at hga
                        have hru := ownsRow_turned HRU.out hO.turn (fun _ _ e => e)
                        rw [if_pos (by rfl)]
                        refine rich_append W _ _ 33 rfl 0 5 i8 (.int .u8 0) 1 1 Tryz.underlying33 h8 z80 z81 z82 rfl (by decide) (.slice none 0 0) 0 [] ?_ hru ⟨gf, 0, none⟩ (Walp.frame b).length cpf ((Walp.frame b).map byteV) ?_ (by simp) (frame_cells hof) (fun x hx => by obtain ⟨z, _, rfl⟩ := List.mem_map.1 hx; rfl) HLM.out HLM2.out (Nat.zero_le _) ?_
                        · first | (go_simp; done) | (go_simp; simp [hga])
                        · first | (go_simp; done) | (go_simp; simp [e10])
                        intro v' w' hown' hg' hb'
                        refine hK _ _ trivial trivial (LateX.fin hL ⟨?_, hO.turn.mono (fun _ e => e.elim) |>.trans ((Turn.refl (fun r => (.slice none 0 0 : Value).ownBlock = some r) W).grown hg' (fun k e => Or.inl e)) (fun _ _ e => e), ?_⟩)
                        · simpa [RowB] using hown'
                        · exact hb'.imp id (fun e => ⟨_, e, hO.size⟩)
                      · simp at ho
                    case hend24b =>
                      intro vs W hX hga
                      have hfin := hX.2 (by rfl)
                      simp [List.range_succ, depsOf, Region.binds, List.filter_cons, GotAll, saidV, pVal] at hga
                      obtain ⟨e0, e1, e2, e3, e4, e5, e6, e7, e8, e9⟩ := hga
                      obtain ⟨hr5, ht5, hb5⟩ := hfin
                      obtain ⟨v5, hv5⟩ : ∃ v5, vs 11 = v5 := ⟨_, rfl⟩
                      rw [hv5] at hr5 hb5
                      obtain ⟨s5, cp5, hf5, -⟩ := own_cell hr5 (by simp)
                      subst hf5
                      obtain ⟨n5, hn5⟩ : ∃ n5, ([] ++ Walp.frame b).length = n5 := ⟨_, rfl⟩
                      rw [hn5] at hr5 hb5 hv5
                      clear hn5
                      have hug : ¬ (.slice none 0 0 : Value).ownBlock = some g := fun e => RG2.out.rows.apart HU.out e rfl
                      have q5 := turned_cell q1 ht5 hug
                      have hfz : W.frozen? ⟨g, off + n, none⟩ = false := by
                        obtain ⟨cur, hc, -⟩ := RG2.out.rows.row
                        have hc2 := (ht5.block g RG2.out.rows.gz hug).trans hc
                        simp [World.frozen?, hc2]
                      have tP := (ht5.mono (Q' := fun b => (.slice none 0 0 : Value).ownBlock = some b ∨ b = g) (fun _ e => Or.inl e)).set g (off + n) (Or.inl (Or.inr rfl)) (.slice s5 n5 cp5)
                      have IS := Lib.hid (IG.out.besides tP (fun b hb => by
                        rcases hb with hb | rfl
                        · exact RG2.out.sep b (Or.inr ⟨n, _, HU.out, hb⟩)
                        · exact RG2.out.sep _ (Or.inl rfl)))
                      have RS := RG2.out.rows.setAt HU.out HD1.out ht5 hr5 hb5
                      rw [← HD3.out] at RS
                      have hQlt : ∀ b, Q b → b < (wc).heap.size := fun b q => by obtain ⟨mo, pl, hr⟩ := IG.out.hx.rep; exact hr.lt b q
                      have hlplt := IG.out.hx.log.lt
                      have hwlt := IG.out.hx.turn.size
                      have RS2 : Hid (RowI w _ lp Q g off cap2 _ _) := Lib.hid ⟨RS, fun b hb => (SegB.setAt HU.out hb5 hb).elim (RG2.out.sep b) (fun h => ⟨fun q => by have := hQlt b q; omega, by omega, by omega⟩)⟩
                      have c7 := turn_cell IS.out.hx.turn HAT.out
                      have HN9 : Hid ((Walp.addTo (ls ++ [[]]) b).length = n1) := Lib.hid (by rw [Walp.addTo_length (by simp)]; rw [List.length_append, HN.out]; exact HN1.out)
                      clear hQlt hlplt hwlt RS tP hb5 ht5 hr5 hug hX q2
                      simp only [List.drop_succ_cons, List.drop_zero]
                      go_wp2_with fail
                      go_at_call 12
                      refine (append_I HT.out IS.out k60 HOK.out HBB.out RS2.out).mono ?_
                      rintro r w9 ⟨rfl, S9, l9, Q9, hI9, hf9, hR9⟩
                      rw [HFU.out] at hI9
                      have hl9 := hI9.live.last
                      have hlen9 := HN9.out
                      rw [hlen9] at hl9
                      have b9 : ((l9.last : Int) != ((lg.first : Int)) + (n1 : Int) - 1) = false := by
                        rw [bne_eq_false_iff_eq]; omega
                      have b10 : ((l9.first : Int) != ((lg.first : Int))) = false := by
                        rw [bne_eq_false_iff_eq]; omega
                      have I9 := Lib.hid hI9
                      have R9 := Lib.hid hR9
                      have SG := Lib.hid (segment_is hI9.hx)
                      have FO := Lib.hid (first_is hI9.hx)
                      have F9 := Lib.hid hf9
                      clear hI9 hR9 hl9 hlen9 hf9
                      go_wp2_with (first | (go_at_call 8; refine (num_any _ _).mono ?_; rintro r w' ⟨rfl, rfl⟩) | (go_at_call 13; refine SG.out.mono ?_; rintro r w' ⟨rfl, rfl⟩) | (go_at_call 14; refine FO.out.mono ?_; rintro r w' ⟨rfl, rfl⟩))
                      exact ⟨⟨k + 1, S9, l9, Walp.addTo (ls ++ [[]]) b, Q9, g, off, cap2, _, by omega, by rw [F9.out], by exact congrArg (fun x => Value.slice _ x _) HN9.out.symm, by go_num, I9.out, R9.out⟩, by simp [intOf]; omega⟩
                  · clear hnu tb HRU HD1 HD3 HU
                    go_upto_region 22 with (fail)
                    go_wp2_with (at_builtin; refine wpList_append_arg _ rfl _ _ 22 rfl 33 iB (.slice none 0 0) 1 24 Tryz.underlying22 hiB hzB0 hzB1 hzB2 rfl (by decide) g off n cap2 us rfl HLO.out HOLD.out ⟨wr.heap.size, 0, none⟩ 1 1 [.slice none 0 0] rfl rfl (cell_one_new _ _ _) (by simp [Value.oneCell']) (fun h => absurd h (by omega)) (by unfold maxLen at hrm ⊢; omega) (by omega) (fun h => absurd h (by omega)) (fun _ v' w' ho' hg' => ?_); go_frame)
                    have t9 : Turn (fun _ => False) (wr.alloc (.cells #[.slice none 0 0] 33)) w' := (Turn.refl _ _).grown hg' (fun k e => by cases e)
                    obtain ⟨g2, cap3, hv2, hB2, hS2⟩ := RB.out.rows.grow t9 (Nat.le_refl _) (by rw [List.length_map, HN.out]; exact ho')
                    rw [List.length_map, HN.out] at hv2
                    subst hv2
                    have hQlt : ∀ b, Q b → b < wr.heap.size := fun b q => by obtain ⟨mo, pl, hr⟩ := HI.out.hx.rep; exact hr.lt b q
                    have hlplt := HI.out.hx.log.lt
                    have hwlt := HI.out.hx.turn.size
                    simp only [World.size_alloc] at hB2
                    have RG2 : Hid (RowI w w' lp Q g2 0 cap3 (us ++ [.slice none 0 0]) ((ls ++ [[]]).map Walp.frames)) := Lib.hid ⟨by simpa [Walp.frames_nil] using hS2, fun b hb => by
                      rcases hb with rfl | hb
                      · exact ⟨fun q => by have := hQlt b q; omega, by omega, by omega⟩
                      · exact HR.out.sep b (SegB.snoc (Or.inr hb))⟩
                    have IG := Lib.hid (IB.out.later t9)
                    clear hQlt hlplt hwlt hB2 hS2 t9 ho' hg' RB IB HR HI

                    obtain ⟨n1, hn1⟩ : ∃ n1, n + 1 = n1 := ⟨_, rfl⟩
                    rw [hn1]
                    have HN1 := Lib.hid hn1
                    have nn1 : (n : Int) < (n1 : Int) := by omega
                    have nb2 : (n1 : Int) ≤ 62 := by omega
                    have nb3 : (0 : Int) ≤ (n1 : Int) := by omega
                    obtain ⟨d9, hd1, hd2, hd3⟩ := addTo_frames (ls := ls ++ [[]]) (by simp) b
                    have hd9 : d9 = [] := by rw [hd2]; simp [Walp.frames_nil]
                    subst hd9
                    have e9 : (ls ++ [([] : List (List UInt8))]).length - 1 = n := by
                      have hn0 := HN.out
                      simp only [List.length_append, List.length_cons, List.length_nil]; omega
                    rw [e9] at hd1 hd3
                    have HD1 := Lib.hid hd1
                    have HD3 := Lib.hid hd3
                    have HU : Hid ((us ++ [Value.slice none 0 0])[n]? = some (.slice none 0 0)) := Lib.hid (by rw [List.getElem?_append_right (by rw [HNU.out]; exact Nat.le_refl _), HNU.out, Nat.sub_self]; rfl)
                    have hat9 := RG2.out.rows.at hd1
                    obtain ⟨u9, hu9, cu9, -, ru9⟩ := hat9
                    try rw [Nat.zero_add] at cu9
                    obtain rfl : u9 = .slice none 0 0 := Option.some.inj (hu9.symm.trans HU.out)
                    have QU := Lib.hid cu9
                    have HRU := Lib.hid ru9
                    have TW := Lib.hid IG.out.hx.turn
                    have QL := Lib.hid (turn_cell IG.out.hx.turn HAT.out)
                    have HLM : Hid (0 + (Walp.frame b).length ≤ maxLen) := Lib.hid (by rw [Walp.frame_length]; have h1 := HBB.out; unfold maxLen; omega)
                    have HLM2 : Hid ((0 + (Walp.frame b).length) * 1 ≤ 140737488355328) := Lib.hid (by rw [Walp.frame_length]; have h1 := HBB.out; omega)
                    clear hn1 hd1 hd2 hd3 hu9 cu9 ru9

                    have FR : Hid (∀ W, Turn (fun _ => False) w' W → Calls Tryz.prog 11 #[.slice spu b.length capu] W fun r w' => ∃ gf cap, r = .returned (.slice (some ⟨gf, 0, none⟩) (Walp.frame b).length cap) ∧ w'.ownsRow W.heap.size 5 1 (.slice (some ⟨gf, 0, none⟩) (Walp.frame b).length cap) (Walp.frame b).length ((Walp.frame b).map byteV) ∧ Turn (fun _ => False) W w') := Lib.hid (fun W t => by
                      have hk := (HOK.out.turned TW.out).turned t
                      refine (refFrame_any hk.c.toR hk.b (by have := HBB.out; omega)).mono ?_
                      rintro r w' ⟨spf, cpf, rfl, hof, tf⟩
                      rcases hof.2 with ⟨_, e⟩ | ⟨gf, cf, cur, e, _⟩
                      · rw [Walp.frame_length] at e; omega
                      · simp only [Value.slice.injEq] at e
                        obtain ⟨rfl, -, -⟩ := e
                        exact ⟨gf, cpf, rfl, hof, tf⟩)
                    have FRS : Hid (∀ (v : Value) (w w' : World), Only w w' → (∃ gf cpf, v = .slice (some ⟨gf, 0, none⟩) (Walp.frame b).length cpf ∧ w.ownsRow 0 5 1 (.slice (some ⟨gf, 0, none⟩) (Walp.frame b).length cpf) (Walp.frame b).length ((Walp.frame b).map byteV)) → (∃ gf cpf, v = .slice (some ⟨gf, 0, none⟩) (Walp.frame b).length cpf ∧ w'.ownsRow 0 5 1 (.slice (some ⟨gf, 0, none⟩) (Walp.frame b).length cpf) (Walp.frame b).length ((Walp.frame b).map byteV))) := Lib.hid (fun v w w' t ⟨gf, cpf, e, h⟩ => ⟨gf, cpf, e, ownsRow_turned h t.turn (fun _ _ e => e)⟩)
                    have q1 := QU.out
                    have q2 := QL.out
                    go_upto_region 24 with (fail)
                    refine wp_region_rich_tailT 12 (saidV [pVal (.slice (some ⟨g2, 0, none⟩) n1 cap3), pVal (.int .i64 (n : Int)), pVal (.slice (some ⟨g2, 0, none⟩) n1 cap3), pVal (.int .i64 (n : Int)), pVal (.pointer (some ⟨g2, n, none⟩)), pVal (.slice none 0 0), pVal (.slice (some a) l.length cap), pVal (.int .i64 (k : Int)), pVal (.pointer (some (a.add k))), pVal (.slice spu b.length capu), fun _ _ _ => True, fun _ _ _ => True]) (F := ?F24c) (by kernel_rfl) (by kernel_rfl) (by kernel_rfl) (by kernel_rfl) (by kernel_rfl) (by kernel_rfl) (by kernel_rfl) ?hF24c (fun _ _ => True) (LateX w' (fun v w => ∃ gf cpf, v = .slice (some ⟨gf, 0, none⟩) (Walp.frame b).length cpf ∧ w.ownsRow 0 5 1 (.slice (some ⟨gf, 0, none⟩) (Walp.frame b).length cpf) (Walp.frame b).length ((Walp.frame b).map byteV)) (fun v w => RowB w v ([] ++ Walp.frame b) ∧ Turn (fun r => (.slice none 0 0 : Value).ownBlock = some r) w' w ∧ (v.ownBlock = (.slice none 0 0 : Value).ownBlock ∨ ∃ b, v.ownBlock = some b ∧ w'.heap.size ≤ b))) ?hV24c ?h024c ?hst24c ?hend24c
                    case hF24c =>
                      intro vs
                      simp only [List.take_succ_cons, List.take_zero, fills]
                      go_simp
                      exact rfl
                    case hV24c =>
                      intro i v ds W W' _ h
                      unfold saidV at *
                      rcases i with _ | _ | _ | _ | _ | _ | _ | _ | _ | _ | _ | _ | i <;> first | exact h | trivial
                    case h024c => exact fun vs => LateX.start vs (Only.refl _).drew
                    case hst24c =>
                      intro i o ho L vs W hL hX hi hcl hgot hdl hga K hK
                      have anc : L.getD 11 false = true → L.getD 2 false = true ∧ L.getD 3 false = true ∧ L.getD 4 false = true ∧ L.getD 5 false = true ∧ L.getD 6 false = true ∧ L.getD 7 false = true ∧ L.getD 8 false = true ∧ L.getD 9 false = true ∧ L.getD 10 false = true := fun h11 => by
                        have a5 := hcl 11 _ rfl h11 5 (by simp [depsOf, Region.binds, List.filter_cons])
                        have a10 := hcl 11 _ rfl h11 10 (by simp [depsOf, Region.binds, List.filter_cons])
                        have a4 := hcl 5 _ rfl a5 4 (by simp [depsOf, Region.binds, List.filter_cons])
                        have a2 := hcl 4 _ rfl a4 2 (by simp [depsOf, Region.binds, List.filter_cons])
                        have a3 := hcl 4 _ rfl a4 3 (by simp [depsOf, Region.binds, List.filter_cons])
                        have a9 := hcl 10 _ rfl a10 9 (by simp [depsOf, Region.binds, List.filter_cons])
                        have a8 := hcl 9 _ rfl a9 8 (by simp [depsOf, Region.binds, List.filter_cons])
                        have a6 := hcl 8 _ rfl a8 6 (by simp [depsOf, Region.binds, List.filter_cons])
                        have a7 := hcl 8 _ rfl a8 7 (by simp [depsOf, Region.binds, List.filter_cons])
                        exact ⟨a2, a3, a4, a5, a6, a7, a8, a9, a10⟩
                      rcases i with _ | _ | _ | _ | _ | _ | _ | _ | _ | _ | _ | _ | i
                      · simp only [List.take_succ_cons, List.take_zero, List.getElem?_cons_succ, List.getElem?_cons_zero, Option.some.injEq] at ho
                        subst ho
                        simp [depsOf, Region.binds, List.filter_cons, GotAll, saidV, pVal] at hga
                        unfold RichAt
                        go_simp
                        exact hK _ _ trivial rfl (hX.same (by decide))
                      · simp only [List.take_succ_cons, List.take_zero, List.getElem?_cons_succ, List.getElem?_cons_zero, Option.some.injEq] at ho
                        subst ho
                        simp [depsOf, Region.binds, List.filter_cons, GotAll, saidV, pVal] at hga
                        unfold RichAt
                        go_simp
                        exact hK _ _ trivial rfl (hX.same (by decide))
                      · simp only [List.take_succ_cons, List.take_zero, List.getElem?_cons_succ, List.getElem?_cons_zero, Option.some.injEq] at ho
                        subst ho
                        have hz' : L.getD 11 false = false := by
                          cases hz : L.getD 11 false with
                          | false => rfl
                          | true => have h9 := anc hz; rw [h9.1] at hi; cases hi
                        have hO := (hX.1 hz').1
                        have n1 := hO.cellM q1
                        have n2 := only_cell hO q2
                        simp [depsOf, Region.binds, List.filter_cons, GotAll, saidV, pVal] at hga
                        unfold RichAt
                        go_simp
                        exact hK _ _ trivial rfl (hX.low (by decide) hz' (Only.refl _) FRS.out)
                      · simp only [List.take_succ_cons, List.take_zero, List.getElem?_cons_succ, List.getElem?_cons_zero, Option.some.injEq] at ho
                        subst ho
                        have hz' : L.getD 11 false = false := by
                          cases hz : L.getD 11 false with
                          | false => rfl
                          | true => have h9 := anc hz; rw [h9.2.1] at hi; cases hi
                        have hO := (hX.1 hz').1
                        have n1 := hO.cellM q1
                        have n2 := only_cell hO q2
                        simp [depsOf, Region.binds, List.filter_cons, GotAll, saidV, pVal] at hga
                        unfold RichAt
                        go_simp
                        exact hK _ _ trivial rfl (hX.low (by decide) hz' (Only.refl _) FRS.out)
                      · simp only [List.take_succ_cons, List.take_zero, List.getElem?_cons_succ, List.getElem?_cons_zero, Option.some.injEq] at ho
                        subst ho
                        have hz' : L.getD 11 false = false := by
                          cases hz : L.getD 11 false with
                          | false => rfl
                          | true => have h9 := anc hz; rw [h9.2.2.1] at hi; cases hi
                        have hO := (hX.1 hz').1
                        have n1 := hO.cellM q1
                        have n2 := only_cell hO q2
                        simp [depsOf, Region.binds, List.filter_cons, GotAll, saidV, pVal] at hga
                        unfold RichAt
                        go_simp
                        exact hK _ _ trivial rfl (hX.low (by decide) hz' (Only.refl _) FRS.out)
                      · simp only [List.take_succ_cons, List.take_zero, List.getElem?_cons_succ, List.getElem?_cons_zero, Option.some.injEq] at ho
                        subst ho
                        have hz' : L.getD 11 false = false := by
                          cases hz : L.getD 11 false with
                          | false => rfl
                          | true => have h9 := anc hz; rw [h9.2.2.2.1] at hi; cases hi
                        have hO := (hX.1 hz').1
                        have n1 := hO.cellM q1
                        have n2 := only_cell hO q2
                        simp [depsOf, Region.binds, List.filter_cons, GotAll, saidV, pVal] at hga
                        unfold RichAt
                        go_simp
                        exact hK _ _ trivial rfl (hX.low (by decide) hz' (Only.refl _) FRS.out)
                      · simp only [List.take_succ_cons, List.take_zero, List.getElem?_cons_succ, List.getElem?_cons_zero, Option.some.injEq] at ho
                        subst ho
                        have hz' : L.getD 11 false = false := by
                          cases hz : L.getD 11 false with
                          | false => rfl
                          | true => have h9 := anc hz; rw [h9.2.2.2.2.1] at hi; cases hi
                        have hO := (hX.1 hz').1
                        have n1 := hO.cellM q1
                        have n2 := only_cell hO q2
                        simp [depsOf, Region.binds, List.filter_cons, GotAll, saidV, pVal] at hga
                        unfold RichAt
                        go_simp
                        exact hK _ _ trivial rfl (hX.low (by decide) hz' (Only.refl _) FRS.out)
                      · simp only [List.take_succ_cons, List.take_zero, List.getElem?_cons_succ, List.getElem?_cons_zero, Option.some.injEq] at ho
                        subst ho
                        have hz' : L.getD 11 false = false := by
                          cases hz : L.getD 11 false with
                          | false => rfl
                          | true => have h9 := anc hz; rw [h9.2.2.2.2.2.1] at hi; cases hi
                        have hO := (hX.1 hz').1
                        have n1 := hO.cellM q1
                        have n2 := only_cell hO q2
                        simp [depsOf, Region.binds, List.filter_cons, GotAll, saidV, pVal] at hga
                        unfold RichAt
                        go_simp
                        exact hK _ _ trivial rfl (hX.low (by decide) hz' (Only.refl _) FRS.out)
                      · simp only [List.take_succ_cons, List.take_zero, List.getElem?_cons_succ, List.getElem?_cons_zero, Option.some.injEq] at ho
                        subst ho
                        have hz' : L.getD 11 false = false := by
                          cases hz : L.getD 11 false with
                          | false => rfl
                          | true => have h9 := anc hz; rw [h9.2.2.2.2.2.2.1] at hi; cases hi
                        have hO := (hX.1 hz').1
                        have n1 := hO.cellM q1
                        have n2 := only_cell hO q2
                        simp [depsOf, Region.binds, List.filter_cons, GotAll, saidV, pVal] at hga
                        unfold RichAt
                        go_simp
                        exact hK _ _ trivial rfl (hX.low (by decide) hz' (Only.refl _) FRS.out)
                      · simp only [List.take_succ_cons, List.take_zero, List.getElem?_cons_succ, List.getElem?_cons_zero, Option.some.injEq] at ho
                        subst ho
                        have hz' : L.getD 11 false = false := by
                          cases hz : L.getD 11 false with
                          | false => rfl
                          | true => have h9 := anc hz; rw [h9.2.2.2.2.2.2.2.1] at hi; cases hi
                        have hO := (hX.1 hz').1
                        have n1 := hO.cellM q1
                        have n2 := only_cell hO q2
                        simp [depsOf, Region.binds, List.filter_cons, GotAll, saidV, pVal] at hga
                        unfold RichAt
                        go_simp
                        exact hK _ _ trivial rfl (hX.low (by decide) hz' (Only.refl _) FRS.out)
                      · simp only [List.take_succ_cons, List.take_zero, List.getElem?_cons_succ, List.getElem?_cons_zero, Option.some.injEq] at ho
                        subst ho
                        have hz' : L.getD 11 false = false := by
                          cases hz : L.getD 11 false with
                          | false => rfl
                          | true => have h9 := anc hz; rw [h9.2.2.2.2.2.2.2.2] at hi; cases hi
                        have hO := (hX.1 hz').1
                        simp [depsOf, Region.binds, List.filter_cons, GotAll, saidV, pVal] at hga
                        unfold RichAt
                        go_simp
                        refine (FR.out _ hO.turn).mono ?_
                        rintro e w' ⟨gf, cpf, rfl, hof, tf⟩
                        exact ⟨_, rfl, hK _ _ trivial trivial (hX.frm hz' tf.only ⟨gf, cpf, rfl, own_zero hof⟩)⟩
                      · simp only [List.take_succ_cons, List.take_zero, List.getElem?_cons_succ, List.getElem?_cons_zero, Option.some.injEq] at ho
                        subst ho
                        have hz' : L.getD 11 false = false := hi
                        have hO := (hX.1 hz').1
                        obtain ⟨gf, cpf, e10, hof⟩ := (hX.1 hz').2 (hdl 10 (by simp [depsOf, Region.binds, List.filter_cons]))
                        simp [depsOf, Region.binds, List.filter_cons, GotAll, saidV, pVal] at hga
                        have hru := ownsRow_turned HRU.out hO.turn (fun _ _ e => e)
                        rw [if_pos (by rfl)]
                        refine rich_append W _ _ 33 rfl 0 5 i8 (.int .u8 0) 1 1 Tryz.underlying33 h8 z80 z81 z82 rfl (by decide) (.slice none 0 0) 0 [] ?_ hru ⟨gf, 0, none⟩ (Walp.frame b).length cpf ((Walp.frame b).map byteV) ?_ (by simp) (frame_cells hof) (fun x hx => by obtain ⟨z, _, rfl⟩ := List.mem_map.1 hx; rfl) HLM.out HLM2.out (Nat.zero_le _) ?_
                        · first | (go_simp; done) | (go_simp; simp [hga])
                        · first | (go_simp; done) | (go_simp; simp [e10])
                        intro v' w' hown' hg' hb'
                        refine hK _ _ trivial trivial (LateX.fin hL ⟨?_, hO.turn.mono (fun _ e => e.elim) |>.trans ((Turn.refl (fun r => (.slice none 0 0 : Value).ownBlock = some r) W).grown hg' (fun k e => Or.inl e)) (fun _ _ e => e), ?_⟩)
                        · simpa [RowB] using hown'
                        · exact hb'.imp id (fun e => ⟨_, e, hO.size⟩)
                      · simp at ho
                    case hend24c =>
                      intro vs W hX hga
                      have hfin := hX.2 (by rfl)
                      simp [List.range_succ, depsOf, Region.binds, List.filter_cons, GotAll, saidV, pVal] at hga
                      obtain ⟨e0, e1, e2, e3, e4, e5, e6, e7, e8, e9⟩ := hga
                      obtain ⟨hr5, ht5, hb5⟩ := hfin
                      obtain ⟨v5, hv5⟩ : ∃ v5, vs 11 = v5 := ⟨_, rfl⟩
                      rw [hv5] at hr5 hb5
                      obtain ⟨s5, cp5, hf5, -⟩ := own_cell hr5 (by simp)
                      subst hf5
                      obtain ⟨n5, hn5⟩ : ∃ n5, ([] ++ Walp.frame b).length = n5 := ⟨_, rfl⟩
                      rw [hn5] at hr5 hb5 hv5
                      clear hn5
                      have hug : ¬ (.slice none 0 0 : Value).ownBlock = some g2 := fun e => RG2.out.rows.apart HU.out e rfl
                      have q5 := turned_cell q1 ht5 hug
                      have hfz : W.frozen? ⟨g2, n, none⟩ = false := by
                        obtain ⟨cur, hc, -⟩ := RG2.out.rows.row
                        have hc2 := (ht5.block g2 RG2.out.rows.gz hug).trans hc
                        simp [World.frozen?, hc2]
                      have tP := (ht5.mono (Q' := fun b => (.slice none 0 0 : Value).ownBlock = some b ∨ b = g2) (fun _ e => Or.inl e)).set g2 n (Or.inl (Or.inr rfl)) (.slice s5 n5 cp5)
                      have IS := Lib.hid (IG.out.besides tP (fun b hb => by
                        rcases hb with hb | rfl
                        · exact RG2.out.sep b (Or.inr ⟨n, _, HU.out, hb⟩)
                        · exact RG2.out.sep _ (Or.inl rfl)))
                      have RS := RG2.out.rows.setAt HU.out HD1.out ht5 hr5 hb5
                      rw [← HD3.out, Nat.zero_add] at RS
                      have hQlt : ∀ b, Q b → b < (w').heap.size := fun b q => by obtain ⟨mo, pl, hr⟩ := IG.out.hx.rep; exact hr.lt b q
                      have hlplt := IG.out.hx.log.lt
                      have hwlt := IG.out.hx.turn.size
                      have RS2 : Hid (RowI w _ lp Q g2 0 cap3 _ _) := Lib.hid ⟨RS, fun b hb => (SegB.setAt HU.out hb5 hb).elim (RG2.out.sep b) (fun h => ⟨fun q => by have := hQlt b q; omega, by omega, by omega⟩)⟩
                      have c7 := turn_cell IS.out.hx.turn HAT.out
                      have HN9 : Hid ((Walp.addTo (ls ++ [[]]) b).length = n1) := Lib.hid (by rw [Walp.addTo_length (by simp)]; rw [List.length_append, HN.out]; exact HN1.out)
                      clear hQlt hlplt hwlt RS tP hb5 ht5 hr5 hug hX q2
                      simp only [List.drop_succ_cons, List.drop_zero]
                      go_wp2_with fail
                      go_at_call 12
                      refine (append_I HT.out IS.out k60 HOK.out HBB.out RS2.out).mono ?_
                      rintro r w9 ⟨rfl, S9, l9, Q9, hI9, hf9, hR9⟩
                      rw [HFU.out] at hI9
                      have hl9 := hI9.live.last
                      have hlen9 := HN9.out
                      rw [hlen9] at hl9
                      have b9 : ((l9.last : Int) != ((lg.first : Int)) + (n1 : Int) - 1) = false := by
                        rw [bne_eq_false_iff_eq]; omega
                      have b10 : ((l9.first : Int) != ((lg.first : Int))) = false := by
                        rw [bne_eq_false_iff_eq]; omega
                      have I9 := Lib.hid hI9
                      have R9 := Lib.hid hR9
                      have SG := Lib.hid (segment_is hI9.hx)
                      have FO := Lib.hid (first_is hI9.hx)
                      have F9 := Lib.hid hf9
                      clear hI9 hR9 hl9 hlen9 hf9
                      go_wp2_with (first | (go_at_call 8; refine (num_any _ _).mono ?_; rintro r w' ⟨rfl, rfl⟩) | (go_at_call 13; refine SG.out.mono ?_; rintro r w' ⟨rfl, rfl⟩) | (go_at_call 14; refine FO.out.mono ?_; rintro r w' ⟨rfl, rfl⟩))
                      exact ⟨⟨k + 1, S9, l9, Walp.addTo (ls ++ [[]]) b, Q9, g2, 0, cap3, _, by omega, by rw [F9.out], by exact congrArg (fun x => Value.slice _ x _) HN9.out.symm, by go_num, I9.out, R9.out⟩, by simp [intOf]; omega⟩
                · have hf1 : ¬ ((sz : Int) ≤ (d.length : Int)) := by omega
                  rw [if_neg hfull] at hfu
                  have HFU := Lib.hid hfu
                  have QU := Lib.hid cu
                  have QL := Lib.hid c2
                  have HLM : Hid (d.length + (Walp.frame b).length ≤ maxLen) := Lib.hid (by rw [Walp.frame_length]; have h1 := HBB.out; have h2 := HDL.out; unfold maxLen; omega)
                  have HLM2 : Hid ((d.length + (Walp.frame b).length) * 1 ≤ 140737488355328) := Lib.hid (by rw [Walp.frame_length]; have h1 := HBB.out; have h2 := HDL.out; omega)
                  clear hfu hfull hlast0 hf0 hls0 hlim
                  have FR : Hid (∀ W, Turn (fun _ => False) wr W → Calls Tryz.prog 11 #[.slice spu b.length capu] W fun r w' => ∃ gf cap, r = .returned (.slice (some ⟨gf, 0, none⟩) (Walp.frame b).length cap) ∧ w'.ownsRow W.heap.size 5 1 (.slice (some ⟨gf, 0, none⟩) (Walp.frame b).length cap) (Walp.frame b).length ((Walp.frame b).map byteV) ∧ Turn (fun _ => False) W w') := Lib.hid (fun W t => by
                    have hk := (HOK.out.turned TW.out).turned t
                    refine (refFrame_any hk.c.toR hk.b (by have := HBB.out; omega)).mono ?_
                    rintro r w' ⟨spf, cpf, rfl, hof, tf⟩
                    rcases hof.2 with ⟨_, e⟩ | ⟨gf, cf, cur, e, _⟩
                    · rw [Walp.frame_length] at e; omega
                    · simp only [Value.slice.injEq] at e
                      obtain ⟨rfl, -, -⟩ := e
                      exact ⟨gf, cpf, rfl, hof, tf⟩)
                  have FRS : Hid (∀ (v : Value) (w w' : World), Only w w' → (∃ gf cpf, v = .slice (some ⟨gf, 0, none⟩) (Walp.frame b).length cpf ∧ w.ownsRow 0 5 1 (.slice (some ⟨gf, 0, none⟩) (Walp.frame b).length cpf) (Walp.frame b).length ((Walp.frame b).map byteV)) → (∃ gf cpf, v = .slice (some ⟨gf, 0, none⟩) (Walp.frame b).length cpf ∧ w'.ownsRow 0 5 1 (.slice (some ⟨gf, 0, none⟩) (Walp.frame b).length cpf) (Walp.frame b).length ((Walp.frame b).map byteV))) := Lib.hid (fun v w w' t ⟨gf, cpf, e, h⟩ => ⟨gf, cpf, e, ownsRow_turned h t.turn (fun _ _ e => e)⟩)
                  have q1 := QU.out
                  have q2 := QL.out
                  go_upto_region 24 with (fail)
                  refine wp_region_rich_tailT 12 (saidV [pVal (.slice (some ⟨g, off, none⟩) n cap2), pVal (.int .i64 (m : Int)), pVal (.slice (some ⟨g, off, none⟩) n cap2), pVal (.int .i64 (m : Int)), pVal (.pointer (some ⟨g, off + m, none⟩)), pVal (.slice su d.length cpu), pVal (.slice (some a) l.length cap), pVal (.int .i64 (k : Int)), pVal (.pointer (some (a.add k))), pVal (.slice spu b.length capu), fun _ _ _ => True, fun _ _ _ => True]) (F := ?F24d) (by kernel_rfl) (by kernel_rfl) (by kernel_rfl) (by kernel_rfl) (by kernel_rfl) (by kernel_rfl) (by kernel_rfl) ?hF24d (fun _ _ => True) (LateX wr (fun v w => ∃ gf cpf, v = .slice (some ⟨gf, 0, none⟩) (Walp.frame b).length cpf ∧ w.ownsRow 0 5 1 (.slice (some ⟨gf, 0, none⟩) (Walp.frame b).length cpf) (Walp.frame b).length ((Walp.frame b).map byteV)) (fun v w => RowB w v (d ++ Walp.frame b) ∧ Turn (fun r => (.slice su d.length cpu : Value).ownBlock = some r) wr w ∧ (v.ownBlock = (.slice su d.length cpu : Value).ownBlock ∨ ∃ b, v.ownBlock = some b ∧ wr.heap.size ≤ b))) ?hV24d ?h024d ?hst24d ?hend24d
                  case hF24d =>
                    intro vs
                    simp only [List.take_succ_cons, List.take_zero, fills]
                    go_simp
                    exact rfl
                  case hV24d =>
                    intro i v ds W W' _ h
                    unfold saidV at *
                    rcases i with _ | _ | _ | _ | _ | _ | _ | _ | _ | _ | _ | _ | i <;> first | exact h | trivial
                  case h024d => exact fun vs => LateX.start vs (Only.refl _).drew
                  case hst24d =>
                    intro i o ho L vs W hL hX hi hcl hgot hdl hga K hK
                    have anc : L.getD 11 false = true → L.getD 2 false = true ∧ L.getD 3 false = true ∧ L.getD 4 false = true ∧ L.getD 5 false = true ∧ L.getD 6 false = true ∧ L.getD 7 false = true ∧ L.getD 8 false = true ∧ L.getD 9 false = true ∧ L.getD 10 false = true := fun h11 => by
                      have a5 := hcl 11 _ rfl h11 5 (by simp [depsOf, Region.binds, List.filter_cons])
                      have a10 := hcl 11 _ rfl h11 10 (by simp [depsOf, Region.binds, List.filter_cons])
                      have a4 := hcl 5 _ rfl a5 4 (by simp [depsOf, Region.binds, List.filter_cons])
                      have a2 := hcl 4 _ rfl a4 2 (by simp [depsOf, Region.binds, List.filter_cons])
                      have a3 := hcl 4 _ rfl a4 3 (by simp [depsOf, Region.binds, List.filter_cons])
                      have a9 := hcl 10 _ rfl a10 9 (by simp [depsOf, Region.binds, List.filter_cons])
                      have a8 := hcl 9 _ rfl a9 8 (by simp [depsOf, Region.binds, List.filter_cons])
                      have a6 := hcl 8 _ rfl a8 6 (by simp [depsOf, Region.binds, List.filter_cons])
                      have a7 := hcl 8 _ rfl a8 7 (by simp [depsOf, Region.binds, List.filter_cons])
                      exact ⟨a2, a3, a4, a5, a6, a7, a8, a9, a10⟩
                    rcases i with _ | _ | _ | _ | _ | _ | _ | _ | _ | _ | _ | _ | i
                    · simp only [List.take_succ_cons, List.take_zero, List.getElem?_cons_succ, List.getElem?_cons_zero, Option.some.injEq] at ho
                      subst ho
                      simp [depsOf, Region.binds, List.filter_cons, GotAll, saidV, pVal] at hga
                      unfold RichAt
                      go_simp
                      exact hK _ _ trivial rfl (hX.same (by decide))
                    · simp only [List.take_succ_cons, List.take_zero, List.getElem?_cons_succ, List.getElem?_cons_zero, Option.some.injEq] at ho
                      subst ho
                      simp [depsOf, Region.binds, List.filter_cons, GotAll, saidV, pVal] at hga
                      unfold RichAt
                      go_simp
                      exact hK _ _ trivial rfl (hX.same (by decide))
                    · simp only [List.take_succ_cons, List.take_zero, List.getElem?_cons_succ, List.getElem?_cons_zero, Option.some.injEq] at ho
                      subst ho
                      have hz' : L.getD 11 false = false := by
                        cases hz : L.getD 11 false with
                        | false => rfl
                        | true => have h9 := anc hz; rw [h9.1] at hi; cases hi
                      have hO := (hX.1 hz').1
                      have n1 := hO.cellM q1
                      have n2 := only_cell hO q2
                      simp [depsOf, Region.binds, List.filter_cons, GotAll, saidV, pVal] at hga
                      unfold RichAt
                      go_simp
                      exact hK _ _ trivial rfl (hX.low (by decide) hz' (Only.refl _) FRS.out)
                    · simp only [List.take_succ_cons, List.take_zero, List.getElem?_cons_succ, List.getElem?_cons_zero, Option.some.injEq] at ho
                      subst ho
                      have hz' : L.getD 11 false = false := by
                        cases hz : L.getD 11 false with
                        | false => rfl
                        | true => have h9 := anc hz; rw [h9.2.1] at hi; cases hi
                      have hO := (hX.1 hz').1
                      have n1 := hO.cellM q1
                      have n2 := only_cell hO q2
                      simp [depsOf, Region.binds, List.filter_cons, GotAll, saidV, pVal] at hga
                      unfold RichAt
                      go_simp
                      exact hK _ _ trivial rfl (hX.low (by decide) hz' (Only.refl _) FRS.out)
                    · simp only [List.take_succ_cons, List.take_zero, List.getElem?_cons_succ, List.getElem?_cons_zero, Option.some.injEq] at ho
                      subst ho
                      have hz' : L.getD 11 false = false := by
                        cases hz : L.getD 11 false with
                        | false => rfl
                        | true => have h9 := anc hz; rw [h9.2.2.1] at hi; cases hi
                      have hO := (hX.1 hz').1
                      have n1 := hO.cellM q1
                      have n2 := only_cell hO q2
                      simp [depsOf, Region.binds, List.filter_cons, GotAll, saidV, pVal] at hga
                      unfold RichAt
                      go_simp
                      exact hK _ _ trivial rfl (hX.low (by decide) hz' (Only.refl _) FRS.out)
                    · simp only [List.take_succ_cons, List.take_zero, List.getElem?_cons_succ, List.getElem?_cons_zero, Option.some.injEq] at ho
                      subst ho
                      have hz' : L.getD 11 false = false := by
                        cases hz : L.getD 11 false with
                        | false => rfl
                        | true => have h9 := anc hz; rw [h9.2.2.2.1] at hi; cases hi
                      have hO := (hX.1 hz').1
                      have n1 := hO.cellM q1
                      have n2 := only_cell hO q2
                      simp [depsOf, Region.binds, List.filter_cons, GotAll, saidV, pVal] at hga
                      unfold RichAt
                      go_simp
                      exact hK _ _ trivial rfl (hX.low (by decide) hz' (Only.refl _) FRS.out)
                    · simp only [List.take_succ_cons, List.take_zero, List.getElem?_cons_succ, List.getElem?_cons_zero, Option.some.injEq] at ho
                      subst ho
                      have hz' : L.getD 11 false = false := by
                        cases hz : L.getD 11 false with
                        | false => rfl
                        | true => have h9 := anc hz; rw [h9.2.2.2.2.1] at hi; cases hi
                      have hO := (hX.1 hz').1
                      have n1 := hO.cellM q1
                      have n2 := only_cell hO q2
                      simp [depsOf, Region.binds, List.filter_cons, GotAll, saidV, pVal] at hga
                      unfold RichAt
                      go_simp
                      exact hK _ _ trivial rfl (hX.low (by decide) hz' (Only.refl _) FRS.out)
                    · simp only [List.take_succ_cons, List.take_zero, List.getElem?_cons_succ, List.getElem?_cons_zero, Option.some.injEq] at ho
                      subst ho
                      have hz' : L.getD 11 false = false := by
                        cases hz : L.getD 11 false with
                        | false => rfl
                        | true => have h9 := anc hz; rw [h9.2.2.2.2.2.1] at hi; cases hi
                      have hO := (hX.1 hz').1
                      have n1 := hO.cellM q1
                      have n2 := only_cell hO q2
                      simp [depsOf, Region.binds, List.filter_cons, GotAll, saidV, pVal] at hga
                      unfold RichAt
                      go_simp
                      exact hK _ _ trivial rfl (hX.low (by decide) hz' (Only.refl _) FRS.out)
                    · simp only [List.take_succ_cons, List.take_zero, List.getElem?_cons_succ, List.getElem?_cons_zero, Option.some.injEq] at ho
                      subst ho
                      have hz' : L.getD 11 false = false := by
                        cases hz : L.getD 11 false with
                        | false => rfl
                        | true => have h9 := anc hz; rw [h9.2.2.2.2.2.2.1] at hi; cases hi
                      have hO := (hX.1 hz').1
                      have n1 := hO.cellM q1
                      have n2 := only_cell hO q2
                      simp [depsOf, Region.binds, List.filter_cons, GotAll, saidV, pVal] at hga
                      unfold RichAt
                      go_simp
                      exact hK _ _ trivial rfl (hX.low (by decide) hz' (Only.refl _) FRS.out)
                    · simp only [List.take_succ_cons, List.take_zero, List.getElem?_cons_succ, List.getElem?_cons_zero, Option.some.injEq] at ho
                      subst ho
                      have hz' : L.getD 11 false = false := by
                        cases hz : L.getD 11 false with
                        | false => rfl
                        | true => have h9 := anc hz; rw [h9.2.2.2.2.2.2.2.1] at hi; cases hi
                      have hO := (hX.1 hz').1
                      have n1 := hO.cellM q1
                      have n2 := only_cell hO q2
                      simp [depsOf, Region.binds, List.filter_cons, GotAll, saidV, pVal] at hga
                      unfold RichAt
                      go_simp
                      exact hK _ _ trivial rfl (hX.low (by decide) hz' (Only.refl _) FRS.out)
                    · simp only [List.take_succ_cons, List.take_zero, List.getElem?_cons_succ, List.getElem?_cons_zero, Option.some.injEq] at ho
                      subst ho
                      have hz' : L.getD 11 false = false := by
                        cases hz : L.getD 11 false with
                        | false => rfl
                        | true => have h9 := anc hz; rw [h9.2.2.2.2.2.2.2.2] at hi; cases hi
                      have hO := (hX.1 hz').1
                      simp [depsOf, Region.binds, List.filter_cons, GotAll, saidV, pVal] at hga
                      unfold RichAt
                      go_simp
                      refine (FR.out _ hO.turn).mono ?_
                      rintro e w' ⟨gf, cpf, rfl, hof, tf⟩
                      exact ⟨_, rfl, hK _ _ trivial trivial (hX.frm hz' tf.only ⟨gf, cpf, rfl, own_zero hof⟩)⟩
                    · simp only [List.take_succ_cons, List.take_zero, List.getElem?_cons_succ, List.getElem?_cons_zero, Option.some.injEq] at ho
                      subst ho
                      have hz' : L.getD 11 false = false := hi
                      have hO := (hX.1 hz').1
                      obtain ⟨gf, cpf, e10, hof⟩ := (hX.1 hz').2 (hdl 10 (by simp [depsOf, Region.binds, List.filter_cons]))
                      simp [depsOf, Region.binds, List.filter_cons, GotAll, saidV, pVal] at hga
                      have hru := ownsRow_turned HRU.out hO.turn (fun _ _ e => e)
                      rw [if_pos (by rfl)]
                      refine rich_append W _ _ 33 rfl 0 5 i8 (.int .u8 0) 1 1 Tryz.underlying33 h8 z80 z81 z82 rfl (by decide) (.slice su d.length cpu) d.length (d.map byteV) ?_ hru ⟨gf, 0, none⟩ (Walp.frame b).length cpf ((Walp.frame b).map byteV) ?_ (by simp) (frame_cells hof) (fun x hx => by obtain ⟨z, _, rfl⟩ := List.mem_map.1 hx; rfl) HLM.out HLM2.out (Nat.zero_le _) ?_
                      · first | (go_simp; done) | (go_simp; simp [hga])
                      · first | (go_simp; done) | (go_simp; simp [e10])
                      intro v' w' hown' hg' hb'
                      refine hK _ _ trivial trivial (LateX.fin hL ⟨?_, hO.turn.mono (fun _ e => e.elim) |>.trans ((Turn.refl (fun r => (.slice su d.length cpu : Value).ownBlock = some r) W).grown hg' (fun k e => Or.inl e)) (fun _ _ e => e), ?_⟩)
                      · simpa [RowB] using hown'
                      · exact hb'.imp id (fun e => ⟨_, e, hO.size⟩)
                    · simp at ho
                  case hend24d =>
                    intro vs W hX hga
                    have hfin := hX.2 (by rfl)
                    simp [List.range_succ, depsOf, Region.binds, List.filter_cons, GotAll, saidV, pVal] at hga
                    obtain ⟨e0, e1, e2, e3, e4, e5, e6, e7, e8, e9⟩ := hga
                    obtain ⟨hr5, ht5, hb5⟩ := hfin
                    obtain ⟨v5, hv5⟩ : ∃ v5, vs 11 = v5 := ⟨_, rfl⟩
                    rw [hv5] at hr5 hb5
                    obtain ⟨s5, cp5, hf5, -⟩ := own_cell hr5 (by simp)
                    subst hf5
                    obtain ⟨n5, hn5⟩ : ∃ n5, (d ++ Walp.frame b).length = n5 := ⟨_, rfl⟩
                    rw [hn5] at hr5 hb5 hv5
                    clear hn5
                    have hug : ¬ (.slice su d.length cpu : Value).ownBlock = some g := fun e => HR.out.rows.apart HU.out e rfl
                    have q5 := turned_cell q1 ht5 hug
                    have hfz : W.frozen? ⟨g, off + m, none⟩ = false := by
                      obtain ⟨cur, hc, -⟩ := HR.out.rows.row
                      have hc2 := (ht5.block g HR.out.rows.gz hug).trans hc
                      simp [World.frozen?, hc2]
                    have tP := (ht5.mono (Q' := fun b => (.slice su d.length cpu : Value).ownBlock = some b ∨ b = g) (fun _ e => Or.inl e)).set g (off + m) (Or.inl (Or.inr rfl)) (.slice s5 n5 cp5)
                    have IS := Lib.hid (HI.out.besides tP (fun b hb => by
                      rcases hb with hb | rfl
                      · exact HR.out.sep b (Or.inr ⟨m, _, HU.out, hb⟩)
                      · exact HR.out.sep _ (Or.inl rfl)))
                    have RS := HR.out.rows.setAt HU.out HD1.out ht5 hr5 hb5
                    rw [← HD3.out] at RS
                    have hQlt : ∀ b, Q b → b < (wr).heap.size := fun b q => by obtain ⟨mo, pl, hr⟩ := HI.out.hx.rep; exact hr.lt b q
                    have hlplt := HI.out.hx.log.lt
                    have hwlt := HI.out.hx.turn.size
                    have RS2 : Hid (RowI w _ lp Q g off cap2 _ _) := Lib.hid ⟨RS, fun b hb => (SegB.setAt HU.out hb5 hb).elim (HR.out.sep b) (fun h => ⟨fun q => by have := hQlt b q; omega, by omega, by omega⟩)⟩
                    have c7 := turn_cell IS.out.hx.turn HAT.out
                    have HN9 : Hid ((Walp.addTo (ls) b).length = n) := Lib.hid (by rw [Walp.addTo_length (by exact HI.out.live.any)]; exact HN.out)
                    clear hQlt hlplt hwlt RS tP hb5 ht5 hr5 hug hX q2
                    simp only [List.drop_succ_cons, List.drop_zero]
                    go_wp2_with fail
                    go_at_call 12
                    refine (append_I HT.out IS.out k60 HOK.out HBB.out RS2.out).mono ?_
                    rintro r w9 ⟨rfl, S9, l9, Q9, hI9, hf9, hR9⟩
                    rw [HFU.out] at hI9
                    have hl9 := hI9.live.last
                    have hlen9 := HN9.out
                    rw [hlen9] at hl9
                    have b9 : ((l9.last : Int) != ((lg.first : Int)) + (n : Int) - 1) = false := by
                      rw [bne_eq_false_iff_eq]; omega
                    have b10 : ((l9.first : Int) != ((lg.first : Int))) = false := by
                      rw [bne_eq_false_iff_eq]; omega
                    have I9 := Lib.hid hI9
                    have R9 := Lib.hid hR9
                    have SG := Lib.hid (segment_is hI9.hx)
                    have FO := Lib.hid (first_is hI9.hx)
                    have F9 := Lib.hid hf9
                    clear hI9 hR9 hl9 hlen9 hf9
                    go_wp2_with (first | (go_at_call 8; refine (num_any _ _).mono ?_; rintro r w' ⟨rfl, rfl⟩) | (go_at_call 13; refine SG.out.mono ?_; rintro r w' ⟨rfl, rfl⟩) | (go_at_call 14; refine FO.out.mono ?_; rintro r w' ⟨rfl, rfl⟩))
                    exact ⟨⟨k + 1, S9, l9, Walp.addTo (ls) b, Q9, g, off, cap2, _, by omega, by rw [F9.out], by exact congrArg (fun x => Value.slice _ x _) HN9.out.symm, by go_num, I9.out, R9.out⟩, by simp [intOf]; omega⟩
          · have x1 : ¬ ((k : Int) < (ks.length : Int)) := by omega
            obtain ⟨m, hm⟩ : ∃ m, ls.length = m + 1 := ⟨ls.length - 1, by omega⟩
            obtain ⟨d, hd1, hd2, hd3⟩ := addTo_frames hany b
            obtain ⟨u, hu, cu, -, ru⟩ := HR.out.rows.at hd1
            obtain ⟨su, cpu, hv, -⟩ := own_cell ru (by simp)
            subst hv
            rw [hm] at cu
            simp only [Nat.add_sub_cancel] at cu
            rw [show ls.length - 1 = m by omega] at hd1 hd3 hu
            have HD3 := Lib.hid hd3
            have hfu : Walp.rot sz ls = if sz ≤ d.length then ls ++ [[]] else ls := by unfold Walp.rot; rw [← hd2]
            have HD1 := Lib.hid hd1
            have HD2 := Lib.hid hd2
            have HU := Lib.hid hu
            have HRU := Lib.hid ru
            have HDL : Hid (d.length ≤ 67108864) := Lib.hid (by
              obtain ⟨init, rs, hls⟩ := Walp.snoc_of hany
              have hlf := HI.out.live
              rw [hls] at hlf
              have h1 := Fsp.used_find hlf.lastIs.2
              have h2 := HI.out.hx.sorted.2.1
              have h3 := HI.out.room
              have h4 : d = (Walp.whole rs).data := by rw [hd2, hls]; simp [Walp.whole]
              rw [h4]; omega)
            obtain ⟨i8, h8, z80, z81, z82⟩ := info_parts Tryz.infoU8
            have HM := Lib.hid hm
            have TW : Hid (Turn (fun _ => False) w wr) := Lib.hid HI.out.hx.turn
            obtain ⟨n, hn⟩ : ∃ n, ls.length = n := ⟨_, rfl⟩
            rw [hn]
            have HN := Lib.hid hn
            have m0 : (0 : Int) ≤ (m : Int) := by omega
            have m1 : (m : Int) ≤ 61 := by omega
            have mn : (m : Int) < (n : Int) := by omega
            have en : (n : Int) - 1 = (m : Int) := by omega
            have en2 : (m : Int) + 1 = (n : Int) := by omega
            have fb0 : (0 : Int) ≤ (lg.first : Int) := by omega
            have fb1 : (lg.first : Int) ≤ 61 := by omega
            have nb0 : (0 : Int) ≤ (n : Int) := by omega
            have nb1 : (n : Int) ≤ 61 := by omega
            clear hm hn hd1 hd2 hd3 hu ru
            by_cases hfull : sz ≤ d.length
            · have hf1 : ((sz : Int) ≤ (d.length : Int)) := by omega
              rw [if_pos hfull] at hfu
              have HFU := Lib.hid hfu
              clear hfu hfull hlast0 hf0 hls0 hlim
              have hrn := HR.out.rows.nc
              have hrm := HR.out.rows.mc
              have hnu := HR.out.rows.nu
              simp only [List.length_map] at hrn hnu
              rw [HN.out] at hrn hnu
              have HNU := Lib.hid hnu
              have tb := turnBox wr (.cells #[.slice none 0 0] 33)
              have RB := Lib.hid (HR.out.later tb)
              have IB := Lib.hid (HI.out.later tb)
              have HLO := Lib.hid (show us.length = n * 1 by rw [Nat.mul_one]; exact hnu)
              have HOLD := Lib.hid (RB.out.rows.olds)
              have hcap := HCAP.out
              rw [HN.out] at hcap
              by_cases hroom : n < cap2
              · have hsp := RB.out.rows.spare (by simp only [List.length_map]; rw [HN.out]; omega)
                simp only [List.length_map] at hsp
                rw [HN.out] at hsp
                have HSPF : Hid (n + 1 ≤ cap2 → ∀ j, j < ([.slice none 0 0] : List Value).length → ((wr.alloc (.cells #[.slice none 0 0] 33)).cell? ⟨g, off + n * 1 + j, none⟩).isSome = true ∧ (wr.alloc (.cells #[.slice none 0 0] 33)).frozen? ⟨g, off + n * 1 + j, none⟩ = false) := Lib.hid (fun _ j hj => by
                  have hj0 : j = 0 := by simpa using hj
                  subst hj0
                  simpa using hsp)
                have RG := Lib.hid (RB.out.rows.room (by simp only [List.length_map]; rw [HN.out]; exact hroom))
                have hout : ∀ b, b = g → ¬ Q b ∧ b ≠ lp ∧ w.heap.size ≤ b := fun b e => HR.out.sep b (Or.inl e)
                have t2 := turnP (wr.alloc (.cells #[.slice none 0 0] 33)) g (off + n) (.slice none 0 0)
                have IG := Lib.hid (IB.out.besides t2 hout)
                have RG2 : Hid (RowI w ((wr.alloc (.cells #[.slice none 0 0] 33)).setCell ⟨g, off + n, none⟩ (.slice none 0 0)) lp Q g off cap2 (us ++ [.slice none 0 0]) ((ls ++ [[]]).map Walp.frames)) := Lib.hid ⟨by have h0 := RG.out; rw [List.length_map, HN.out] at h0; simpa [Walp.frames_nil] using h0, fun b hb => HR.out.sep b hb.snoc⟩
                clear hsp hout t2 tb hnu HRU HD1 HD3 HU RG HR HI IB RB
                go_upto_region 22 with (fail)
                go_wp2_with (at_builtin; refine wpList_append_arg _ rfl _ _ 22 rfl 33 iB (.slice none 0 0) 1 24 Tryz.underlying22 hiB hzB0 hzB1 hzB2 rfl (by decide) g off n cap2 us rfl HLO.out HOLD.out ⟨wr.heap.size, 0, none⟩ 1 1 [.slice none 0 0] rfl rfl (cell_one_new _ _ _) (by simp [Value.oneCell']) HSPF.out (by unfold maxLen at hrm ⊢; omega) (by omega) (fun _ => ?_) (fun h => absurd h (by omega)); simp only [World.setCells, Nat.mul_one]; go_frame)
                obtain ⟨wc, hwc⟩ : ∃ wc, wc = (wr.alloc (.cells #[.slice none 0 0] 33)).setCell ⟨g, off + n, none⟩ (.slice none 0 0) := ⟨_, rfl⟩
                rw [← hwc] at IG RG2
                rw [← hwc]
                clear hwc

                obtain ⟨n1, hn1⟩ : ∃ n1, n + 1 = n1 := ⟨_, rfl⟩
                rw [hn1]
                have HN1 := Lib.hid hn1
                have nn1 : (n : Int) < (n1 : Int) := by omega
                have nb2 : (n1 : Int) ≤ 62 := by omega
                have nb3 : (0 : Int) ≤ (n1 : Int) := by omega
                obtain ⟨d9, hd1, hd2, hd3⟩ := addTo_frames (ls := ls ++ [[]]) (by simp) b
                have hd9 : d9 = [] := by rw [hd2]; simp [Walp.frames_nil]
                subst hd9
                have e9 : (ls ++ [([] : List (List UInt8))]).length - 1 = n := by
                  have hn0 := HN.out
                  simp only [List.length_append, List.length_cons, List.length_nil]; omega
                rw [e9] at hd1 hd3
                have HD1 := Lib.hid hd1
                have HD3 := Lib.hid hd3
                have HU : Hid ((us ++ [Value.slice none 0 0])[n]? = some (.slice none 0 0)) := Lib.hid (by rw [List.getElem?_append_right (by rw [HNU.out]; exact Nat.le_refl _), HNU.out, Nat.sub_self]; rfl)
                have hat9 := RG2.out.rows.at hd1
                obtain ⟨u9, hu9, cu9, -, ru9⟩ := hat9
                try rw [Nat.zero_add] at cu9
                obtain rfl : u9 = .slice none 0 0 := Option.some.inj (hu9.symm.trans HU.out)
                have QU := Lib.hid cu9
                have HRU := Lib.hid ru9
                have TW := Lib.hid IG.out.hx.turn
                have QL := Lib.hid (turn_cell IG.out.hx.turn HAT.out)
                have HLM : Hid (0 + (Walp.frame b).length ≤ maxLen) := Lib.hid (by rw [Walp.frame_length]; have h1 := HBB.out; unfold maxLen; omega)
                have HLM2 : Hid ((0 + (Walp.frame b).length) * 1 ≤ 140737488355328) := Lib.hid (by rw [Walp.frame_length]; have h1 := HBB.out; omega)
                clear hn1 hd1 hd2 hd3 hu9 cu9 ru9

                have FR : Hid (∀ W, Turn (fun _ => False) wc W → Calls Tryz.prog 11 #[.slice spu b.length capu] W fun r w' => ∃ gf cap, r = .returned (.slice (some ⟨gf, 0, none⟩) (Walp.frame b).length cap) ∧ w'.ownsRow W.heap.size 5 1 (.slice (some ⟨gf, 0, none⟩) (Walp.frame b).length cap) (Walp.frame b).length ((Walp.frame b).map byteV) ∧ Turn (fun _ => False) W w') := Lib.hid (fun W t => by
                  have hk := (HOK.out.turned TW.out).turned t
                  refine (refFrame_any hk.c.toR hk.b (by have := HBB.out; omega)).mono ?_
                  rintro r w' ⟨spf, cpf, rfl, hof, tf⟩
                  rcases hof.2 with ⟨_, e⟩ | ⟨gf, cf, cur, e, _⟩
                  · rw [Walp.frame_length] at e; omega
                  · simp only [Value.slice.injEq] at e
                    obtain ⟨rfl, -, -⟩ := e
                    exact ⟨gf, cpf, rfl, hof, tf⟩)
                have FRS : Hid (∀ (v : Value) (w w' : World), Only w w' → (∃ gf cpf, v = .slice (some ⟨gf, 0, none⟩) (Walp.frame b).length cpf ∧ w.ownsRow 0 5 1 (.slice (some ⟨gf, 0, none⟩) (Walp.frame b).length cpf) (Walp.frame b).length ((Walp.frame b).map byteV)) → (∃ gf cpf, v = .slice (some ⟨gf, 0, none⟩) (Walp.frame b).length cpf ∧ w'.ownsRow 0 5 1 (.slice (some ⟨gf, 0, none⟩) (Walp.frame b).length cpf) (Walp.frame b).length ((Walp.frame b).map byteV))) := Lib.hid (fun v w w' t ⟨gf, cpf, e, h⟩ => ⟨gf, cpf, e, ownsRow_turned h t.turn (fun _ _ e => e)⟩)
                have q1 := QU.out
                have q2 := QL.out
                go_upto_region 24 with (fail)
                refine wp_region_rich_tailT 12 (saidV [pVal (.slice (some ⟨g, off, none⟩) n1 cap2), pVal (.int .i64 (n : Int)), pVal (.slice (some ⟨g, off, none⟩) n1 cap2), pVal (.int .i64 (n : Int)), pVal (.pointer (some ⟨g, off + n, none⟩)), pVal (.slice none 0 0), pVal (.slice (some a) l.length cap), pVal (.int .i64 (k : Int)), pVal (.pointer (some (a.add k))), pVal (.slice spu b.length capu), fun _ _ _ => True, fun _ _ _ => True]) (F := ?F24e) (by kernel_rfl) (by kernel_rfl) (by kernel_rfl) (by kernel_rfl) (by kernel_rfl) (by kernel_rfl) (by kernel_rfl) ?hF24e (fun _ _ => True) (LateX wc (fun v w => ∃ gf cpf, v = .slice (some ⟨gf, 0, none⟩) (Walp.frame b).length cpf ∧ w.ownsRow 0 5 1 (.slice (some ⟨gf, 0, none⟩) (Walp.frame b).length cpf) (Walp.frame b).length ((Walp.frame b).map byteV)) (fun v w => RowB w v ([] ++ Walp.frame b) ∧ Turn (fun r => (.slice none 0 0 : Value).ownBlock = some r) wc w ∧ (v.ownBlock = (.slice none 0 0 : Value).ownBlock ∨ ∃ b, v.ownBlock = some b ∧ wc.heap.size ≤ b))) ?hV24e ?h024e ?hst24e ?hend24e
                case hF24e =>
                  intro vs
                  simp only [List.take_succ_cons, List.take_zero, fills]
                  go_simp
                  exact rfl
                case hV24e =>
                  intro i v ds W W' _ h
                  unfold saidV at *
                  rcases i with _ | _ | _ | _ | _ | _ | _ | _ | _ | _ | _ | _ | i <;> first | exact h | trivial
                case h024e => exact fun vs => LateX.start vs (Only.refl _).drew
                case hst24e =>
                  intro i o ho L vs W hL hX hi hcl hgot hdl hga K hK
                  have anc : L.getD 11 false = true → L.getD 2 false = true ∧ L.getD 3 false = true ∧ L.getD 4 false = true ∧ L.getD 5 false = true ∧ L.getD 6 false = true ∧ L.getD 7 false = true ∧ L.getD 8 false = true ∧ L.getD 9 false = true ∧ L.getD 10 false = true := fun h11 => by
                    have a5 := hcl 11 _ rfl h11 5 (by simp [depsOf, Region.binds, List.filter_cons])
                    have a10 := hcl 11 _ rfl h11 10 (by simp [depsOf, Region.binds, List.filter_cons])
                    have a4 := hcl 5 _ rfl a5 4 (by simp [depsOf, Region.binds, List.filter_cons])
                    have a2 := hcl 4 _ rfl a4 2 (by simp [depsOf, Region.binds, List.filter_cons])
                    have a3 := hcl 4 _ rfl a4 3 (by simp [depsOf, Region.binds, List.filter_cons])
                    have a9 := hcl 10 _ rfl a10 9 (by simp [depsOf, Region.binds, List.filter_cons])
                    have a8 := hcl 9 _ rfl a9 8 (by simp [depsOf, Region.binds, List.filter_cons])
                    have a6 := hcl 8 _ rfl a8 6 (by simp [depsOf, Region.binds, List.filter_cons])
                    have a7 := hcl 8 _ rfl a8 7 (by simp [depsOf, Region.binds, List.filter_cons])
                    exact ⟨a2, a3, a4, a5, a6, a7, a8, a9, a10⟩
                  rcases i with _ | _ | _ | _ | _ | _ | _ | _ | _ | _ | _ | _ | i
                  · simp only [List.take_succ_cons, List.take_zero, List.getElem?_cons_succ, List.getElem?_cons_zero, Option.some.injEq] at ho
                    subst ho
                    simp [depsOf, Region.binds, List.filter_cons, GotAll, saidV, pVal] at hga
                    unfold RichAt
                    go_simp
                    exact hK _ _ trivial rfl (hX.same (by decide))
                  · simp only [List.take_succ_cons, List.take_zero, List.getElem?_cons_succ, List.getElem?_cons_zero, Option.some.injEq] at ho
                    subst ho
                    simp [depsOf, Region.binds, List.filter_cons, GotAll, saidV, pVal] at hga
                    unfold RichAt
                    go_simp
                    exact hK _ _ trivial rfl (hX.same (by decide))
                  · simp only [List.take_succ_cons, List.take_zero, List.getElem?_cons_succ, List.getElem?_cons_zero, Option.some.injEq] at ho
                    subst ho
                    have hz' : L.getD 11 false = false := by
                      cases hz : L.getD 11 false with
                      | false => rfl
                      | true => have h9 := anc hz; rw [h9.1] at hi; cases hi
                    have hO := (hX.1 hz').1
                    have n1 := hO.cellM q1
                    have n2 := only_cell hO q2
                    simp [depsOf, Region.binds, List.filter_cons, GotAll, saidV, pVal] at hga
                    unfold RichAt
                    go_simp
                    exact hK _ _ trivial rfl (hX.low (by decide) hz' (Only.refl _) FRS.out)
                  · simp only [List.take_succ_cons, List.take_zero, List.getElem?_cons_succ, List.getElem?_cons_zero, Option.some.injEq] at ho
                    subst ho
                    have hz' : L.getD 11 false = false := by
                      cases hz : L.getD 11 false with
                      | false => rfl
                      | true => have h9 := anc hz; rw [h9.2.1] at hi; cases hi
                    have hO := (hX.1 hz').1
                    have n1 := hO.cellM q1
                    have n2 := only_cell hO q2
                    simp [depsOf, Region.binds, List.filter_cons, GotAll, saidV, pVal] at hga
                    unfold RichAt
                    go_simp
                    exact hK _ _ trivial rfl (hX.low (by decide) hz' (Only.refl _) FRS.out)
                  · simp only [List.take_succ_cons, List.take_zero, List.getElem?_cons_succ, List.getElem?_cons_zero, Option.some.injEq] at ho
                    subst ho
                    have hz' : L.getD 11 false = false := by
                      cases hz : L.getD 11 false with
                      | false => rfl
                      | true => have h9 := anc hz; rw [h9.2.2.1] at hi; cases hi
                    have hO := (hX.1 hz').1
                    have n1 := hO.cellM q1
                    have n2 := only_cell hO q2
                    simp [depsOf, Region.binds, List.filter_cons, GotAll, saidV, pVal] at hga
                    unfold RichAt
                    go_simp
                    exact hK _ _ trivial rfl (hX.low (by decide) hz' (Only.refl _) FRS.out)
                  · simp only [List.take_succ_cons, List.take_zero, List.getElem?_cons_succ, List.getElem?_cons_zero, Option.some.injEq] at ho
                    subst ho
                    have hz' : L.getD 11 false = false := by
                      cases hz : L.getD 11 false with
                      | false => rfl
                      | true => have h9 := anc hz; rw [h9.2.2.2.1] at hi; cases hi
                    have hO := (hX.1 hz').1
                    have n1 := hO.cellM q1
                    have n2 := only_cell hO q2
                    simp [depsOf, Region.binds, List.filter_cons, GotAll, saidV, pVal] at hga
                    unfold RichAt
                    go_simp
                    exact hK _ _ trivial rfl (hX.low (by decide) hz' (Only.refl _) FRS.out)
                  · simp only [List.take_succ_cons, List.take_zero, List.getElem?_cons_succ, List.getElem?_cons_zero, Option.some.injEq] at ho
                    subst ho
                    have hz' : L.getD 11 false = false := by
                      cases hz : L.getD 11 false with
                      | false => rfl
                      | true => have h9 := anc hz; rw [h9.2.2.2.2.1] at hi; cases hi
                    have hO := (hX.1 hz').1
                    have n1 := hO.cellM q1
                    have n2 := only_cell hO q2
                    simp [depsOf, Region.binds, List.filter_cons, GotAll, saidV, pVal] at hga
                    unfold RichAt
                    go_simp
                    exact hK _ _ trivial rfl (hX.low (by decide) hz' (Only.refl _) FRS.out)
                  · simp only [List.take_succ_cons, List.take_zero, List.getElem?_cons_succ, List.getElem?_cons_zero, Option.some.injEq] at ho
                    subst ho
                    have hz' : L.getD 11 false = false := by
                      cases hz : L.getD 11 false with
                      | false => rfl
                      | true => have h9 := anc hz; rw [h9.2.2.2.2.2.1] at hi; cases hi
                    have hO := (hX.1 hz').1
                    have n1 := hO.cellM q1
                    have n2 := only_cell hO q2
                    simp [depsOf, Region.binds, List.filter_cons, GotAll, saidV, pVal] at hga
                    unfold RichAt
                    go_simp
                    exact hK _ _ trivial rfl (hX.low (by decide) hz' (Only.refl _) FRS.out)
                  · simp only [List.take_succ_cons, List.take_zero, List.getElem?_cons_succ, List.getElem?_cons_zero, Option.some.injEq] at ho
                    subst ho
                    have hz' : L.getD 11 false = false := by
                      cases hz : L.getD 11 false with
                      | false => rfl
                      | true => have h9 := anc hz; rw [h9.2.2.2.2.2.2.1] at hi; cases hi
                    have hO := (hX.1 hz').1
                    have n1 := hO.cellM q1
                    have n2 := only_cell hO q2
                    simp [depsOf, Region.binds, List.filter_cons, GotAll, saidV, pVal] at hga
                    unfold RichAt
                    go_simp
                    exact hK _ _ trivial rfl (hX.low (by decide) hz' (Only.refl _) FRS.out)
                  · simp only [List.take_succ_cons, List.take_zero, List.getElem?_cons_succ, List.getElem?_cons_zero, Option.some.injEq] at ho
                    subst ho
                    have hz' : L.getD 11 false = false := by
                      cases hz : L.getD 11 false with
                      | false => rfl
                      | true => have h9 := anc hz; rw [h9.2.2.2.2.2.2.2.1] at hi; cases hi
                    have hO := (hX.1 hz').1
                    have n1 := hO.cellM q1
                    have n2 := only_cell hO q2
                    simp [depsOf, Region.binds, List.filter_cons, GotAll, saidV, pVal] at hga
                    unfold RichAt
                    go_simp
                    exact hK _ _ trivial rfl (hX.low (by decide) hz' (Only.refl _) FRS.out)
                  · simp only [List.take_succ_cons, List.take_zero, List.getElem?_cons_succ, List.getElem?_cons_zero, Option.some.injEq] at ho
                    subst ho
                    have hz' : L.getD 11 false = false := by
                      cases hz : L.getD 11 false with
                      | false => rfl
                      | true => have h9 := anc hz; rw [h9.2.2.2.2.2.2.2.2] at hi; cases hi
                    have hO := (hX.1 hz').1
                    simp [depsOf, Region.binds, List.filter_cons, GotAll, saidV, pVal] at hga
                    unfold RichAt
                    go_simp
                    refine (FR.out _ hO.turn).mono ?_
                    rintro e w' ⟨gf, cpf, rfl, hof, tf⟩
                    exact ⟨_, rfl, hK _ _ trivial trivial (hX.frm hz' tf.only ⟨gf, cpf, rfl, own_zero hof⟩)⟩
                  · simp only [List.take_succ_cons, List.take_zero, List.getElem?_cons_succ, List.getElem?_cons_zero, Option.some.injEq] at ho
                    subst ho
                    have hz' : L.getD 11 false = false := hi
                    have hO := (hX.1 hz').1
                    obtain ⟨gf, cpf, e10, hof⟩ := (hX.1 hz').2 (hdl 10 (by simp [depsOf, Region.binds, List.filter_cons]))
                    simp [depsOf, Region.binds, List.filter_cons, GotAll, saidV, pVal] at hga
                    have hru := ownsRow_turned HRU.out hO.turn (fun _ _ e => e)
                    rw [if_pos (by rfl)]
                    refine rich_append W _ _ 33 rfl 0 5 i8 (.int .u8 0) 1 1 Tryz.underlying33 h8 z80 z81 z82 rfl (by decide) (.slice none 0 0) 0 [] ?_ hru ⟨gf, 0, none⟩ (Walp.frame b).length cpf ((Walp.frame b).map byteV) ?_ (by simp) (frame_cells hof) (fun x hx => by obtain ⟨z, _, rfl⟩ := List.mem_map.1 hx; rfl) HLM.out HLM2.out (Nat.zero_le _) ?_
                    · first | (go_simp; done) | (go_simp; simp [hga])
                    · first | (go_simp; done) | (go_simp; simp [e10])
                    intro v' w' hown' hg' hb'
                    refine hK _ _ trivial trivial (LateX.fin hL ⟨?_, hO.turn.mono (fun _ e => e.elim) |>.trans ((Turn.refl (fun r => (.slice none 0 0 : Value).ownBlock = some r) W).grown hg' (fun k e => Or.inl e)) (fun _ _ e => e), ?_⟩)
                    · simpa [RowB] using hown'
                    · exact hb'.imp id (fun e => ⟨_, e, hO.size⟩)
                  · simp at ho
                case hend24e =>
                  intro vs W hX hga
                  have hfin := hX.2 (by rfl)
                  simp [List.range_succ, depsOf, Region.binds, List.filter_cons, GotAll, saidV, pVal] at hga
                  obtain ⟨e0, e1, e2, e3, e4, e5, e6, e7, e8, e9⟩ := hga
                  obtain ⟨hr5, ht5, hb5⟩ := hfin
                  obtain ⟨v5, hv5⟩ : ∃ v5, vs 11 = v5 := ⟨_, rfl⟩
                  rw [hv5] at hr5 hb5
                  obtain ⟨s5, cp5, hf5, -⟩ := own_cell hr5 (by simp)
                  subst hf5
                  obtain ⟨n5, hn5⟩ : ∃ n5, ([] ++ Walp.frame b).length = n5 := ⟨_, rfl⟩
                  rw [hn5] at hr5 hb5 hv5
                  clear hn5
                  have hug : ¬ (.slice none 0 0 : Value).ownBlock = some g := fun e => RG2.out.rows.apart HU.out e rfl
                  have q5 := turned_cell q1 ht5 hug
                  have hfz : W.frozen? ⟨g, off + n, none⟩ = false := by
                    obtain ⟨cur, hc, -⟩ := RG2.out.rows.row
                    have hc2 := (ht5.block g RG2.out.rows.gz hug).trans hc
                    simp [World.frozen?, hc2]
                  have tP := (ht5.mono (Q' := fun b => (.slice none 0 0 : Value).ownBlock = some b ∨ b = g) (fun _ e => Or.inl e)).set g (off + n) (Or.inl (Or.inr rfl)) (.slice s5 n5 cp5)
                  have IS := Lib.hid (IG.out.besides tP (fun b hb => by
                    rcases hb with hb | rfl
                    · exact RG2.out.sep b (Or.inr ⟨n, _, HU.out, hb⟩)
                    · exact RG2.out.sep _ (Or.inl rfl)))
                  have RS := RG2.out.rows.setAt HU.out HD1.out ht5 hr5 hb5
                  rw [← HD3.out] at RS
                  have hQlt : ∀ b, Q b → b < (wc).heap.size := fun b q => by obtain ⟨mo, pl, hr⟩ := IG.out.hx.rep; exact hr.lt b q
                  have hlplt := IG.out.hx.log.lt
                  have hwlt := IG.out.hx.turn.size
                  have RS2 : Hid (RowI w _ lp Q g off cap2 _ _) := Lib.hid ⟨RS, fun b hb => (SegB.setAt HU.out hb5 hb).elim (RG2.out.sep b) (fun h => ⟨fun q => by have := hQlt b q; omega, by omega, by omega⟩)⟩
                  have c7 := turn_cell IS.out.hx.turn HAT.out
                  have HN9 : Hid ((Walp.addTo (ls ++ [[]]) b).length = n1) := Lib.hid (by rw [Walp.addTo_length (by simp)]; rw [List.length_append, HN.out]; exact HN1.out)
                  clear hQlt hlplt hwlt RS tP hb5 ht5 hr5 hug hX q2
                  simp only [List.drop_succ_cons, List.drop_zero]
                  go_wp2_with fail
                  go_at_call 12
                  refine (append_I HT.out IS.out k60 HOK.out HBB.out RS2.out).mono ?_
                  rintro r w9 ⟨rfl, S9, l9, Q9, hI9, hf9, hR9⟩
                  rw [HFU.out] at hI9
                  have hl9 := hI9.live.last
                  have hlen9 := HN9.out
                  rw [hlen9] at hl9
                  have b9 : ((l9.last : Int) != ((lg.first : Int)) + (n1 : Int) - 1) = false := by
                    rw [bne_eq_false_iff_eq]; omega
                  have b10 : ((l9.first : Int) != ((lg.first : Int))) = false := by
                    rw [bne_eq_false_iff_eq]; omega
                  have I9 := Lib.hid hI9
                  have R9 := Lib.hid hR9
                  have SG := Lib.hid (segment_is hI9.hx)
                  have FO := Lib.hid (first_is hI9.hx)
                  have F9 := Lib.hid hf9
                  clear hI9 hR9 hl9 hlen9 hf9
                  go_wp2_with (first | (go_at_call 8; refine (num_any _ _).mono ?_; rintro r w' ⟨rfl, rfl⟩) | (go_at_call 13; refine SG.out.mono ?_; rintro r w' ⟨rfl, rfl⟩) | (go_at_call 14; refine FO.out.mono ?_; rintro r w' ⟨rfl, rfl⟩))
                  exact ⟨⟨k + 1, S9, l9, Walp.addTo (ls ++ [[]]) b, Q9, g, off, cap2, _, by omega, by rw [F9.out], by exact congrArg (fun x => Value.slice _ x _) HN9.out.symm, by go_num, I9.out, R9.out⟩, by simp [intOf]; omega⟩
              · clear hnu tb HRU HD1 HD3 HU
                go_upto_region 22 with (fail)
                go_wp2_with (at_builtin; refine wpList_append_arg _ rfl _ _ 22 rfl 33 iB (.slice none 0 0) 1 24 Tryz.underlying22 hiB hzB0 hzB1 hzB2 rfl (by decide) g off n cap2 us rfl HLO.out HOLD.out ⟨wr.heap.size, 0, none⟩ 1 1 [.slice none 0 0] rfl rfl (cell_one_new _ _ _) (by simp [Value.oneCell']) (fun h => absurd h (by omega)) (by unfold maxLen at hrm ⊢; omega) (by omega) (fun h => absurd h (by omega)) (fun _ v' w' ho' hg' => ?_); go_frame)
                have t9 : Turn (fun _ => False) (wr.alloc (.cells #[.slice none 0 0] 33)) w' := (Turn.refl _ _).grown hg' (fun k e => by cases e)
                obtain ⟨g2, cap3, hv2, hB2, hS2⟩ := RB.out.rows.grow t9 (Nat.le_refl _) (by rw [List.length_map, HN.out]; exact ho')
                rw [List.length_map, HN.out] at hv2
                subst hv2
                have hQlt : ∀ b, Q b → b < wr.heap.size := fun b q => by obtain ⟨mo, pl, hr⟩ := HI.out.hx.rep; exact hr.lt b q
                have hlplt := HI.out.hx.log.lt
                have hwlt := HI.out.hx.turn.size
                simp only [World.size_alloc] at hB2
                have RG2 : Hid (RowI w w' lp Q g2 0 cap3 (us ++ [.slice none 0 0]) ((ls ++ [[]]).map Walp.frames)) := Lib.hid ⟨by simpa [Walp.frames_nil] using hS2, fun b hb => by
                  rcases hb with rfl | hb
                  · exact ⟨fun q => by have := hQlt b q; omega, by omega, by omega⟩
                  · exact HR.out.sep b (SegB.snoc (Or.inr hb))⟩
                have IG := Lib.hid (IB.out.later t9)
                clear hQlt hlplt hwlt hB2 hS2 t9 ho' hg' RB IB HR HI

                obtain ⟨n1, hn1⟩ : ∃ n1, n + 1 = n1 := ⟨_, rfl⟩
                rw [hn1]
                have HN1 := Lib.hid hn1
                have nn1 : (n : Int) < (n1 : Int) := by omega
                have nb2 : (n1 : Int) ≤ 62 := by omega
                have nb3 : (0 : Int) ≤ (n1 : Int) := by omega
                obtain ⟨d9, hd1, hd2, hd3⟩ := addTo_frames (ls := ls ++ [[]]) (by simp) b
                have hd9 : d9 = [] := by rw [hd2]; simp [Walp.frames_nil]
                subst hd9
                have e9 : (ls ++ [([] : List (List UInt8))]).length - 1 = n := by
                  have hn0 := HN.out
                  simp only [List.length_append, List.length_cons, List.length_nil]; omega
                rw [e9] at hd1 hd3
                have HD1 := Lib.hid hd1
                have HD3 := Lib.hid hd3
                have HU : Hid ((us ++ [Value.slice none 0 0])[n]? = some (.slice none 0 0)) := Lib.hid (by rw [List.getElem?_append_right (by rw [HNU.out]; exact Nat.le_refl _), HNU.out, Nat.sub_self]; rfl)
                have hat9 := RG2.out.rows.at hd1
                obtain ⟨u9, hu9, cu9, -, ru9⟩ := hat9
                try rw [Nat.zero_add] at cu9
                obtain rfl : u9 = .slice none 0 0 := Option.some.inj (hu9.symm.trans HU.out)
                have QU := Lib.hid cu9
                have HRU := Lib.hid ru9
                have TW := Lib.hid IG.out.hx.turn
                have QL := Lib.hid (turn_cell IG.out.hx.turn HAT.out)
                have HLM : Hid (0 + (Walp.frame b).length ≤ maxLen) := Lib.hid (by rw [Walp.frame_length]; have h1 := HBB.out; unfold maxLen; omega)
                have HLM2 : Hid ((0 + (Walp.frame b).length) * 1 ≤ 140737488355328) := Lib.hid (by rw [Walp.frame_length]; have h1 := HBB.out; omega)
                clear hn1 hd1 hd2 hd3 hu9 cu9 ru9

                have FR : Hid (∀ W, Turn (fun _ => False) w' W → Calls Tryz.prog 11 #[.slice spu b.length capu] W fun r w' => ∃ gf cap, r = .returned (.slice (some ⟨gf, 0, none⟩) (Walp.frame b).length cap) ∧ w'.ownsRow W.heap.size 5 1 (.slice (some ⟨gf, 0, none⟩) (Walp.frame b).length cap) (Walp.frame b).length ((Walp.frame b).map byteV) ∧ Turn (fun _ => False) W w') := Lib.hid (fun W t => by
                  have hk := (HOK.out.turned TW.out).turned t
                  refine (refFrame_any hk.c.toR hk.b (by have := HBB.out; omega)).mono ?_
                  rintro r w' ⟨spf, cpf, rfl, hof, tf⟩
                  rcases hof.2 with ⟨_, e⟩ | ⟨gf, cf, cur, e, _⟩
                  · rw [Walp.frame_length] at e; omega
                  · simp only [Value.slice.injEq] at e
                    obtain ⟨rfl, -, -⟩ := e
                    exact ⟨gf, cpf, rfl, hof, tf⟩)
                have FRS : Hid (∀ (v : Value) (w w' : World), Only w w' → (∃ gf cpf, v = .slice (some ⟨gf, 0, none⟩) (Walp.frame b).length cpf ∧ w.ownsRow 0 5 1 (.slice (some ⟨gf, 0, none⟩) (Walp.frame b).length cpf) (Walp.frame b).length ((Walp.frame b).map byteV)) → (∃ gf cpf, v = .slice (some ⟨gf, 0, none⟩) (Walp.frame b).length cpf ∧ w'.ownsRow 0 5 1 (.slice (some ⟨gf, 0, none⟩) (Walp.frame b).length cpf) (Walp.frame b).length ((Walp.frame b).map byteV))) := Lib.hid (fun v w w' t ⟨gf, cpf, e, h⟩ => ⟨gf, cpf, e, ownsRow_turned h t.turn (fun _ _ e => e)⟩)
                have q1 := QU.out
                have q2 := QL.out
                go_upto_region 24 with (fail)
                refine wp_region_rich_tailT 12 (saidV [pVal (.slice (some ⟨g2, 0, none⟩) n1 cap3), pVal (.int .i64 (n : Int)), pVal (.slice (some ⟨g2, 0, none⟩) n1 cap3), pVal (.int .i64 (n : Int)), pVal (.pointer (some ⟨g2, n, none⟩)), pVal (.slice none 0 0), pVal (.slice (some a) l.length cap), pVal (.int .i64 (k : Int)), pVal (.pointer (some (a.add k))), pVal (.slice spu b.length capu), fun _ _ _ => True, fun _ _ _ => True]) (F := ?F24f) (by kernel_rfl) (by kernel_rfl) (by kernel_rfl) (by kernel_rfl) (by kernel_rfl) (by kernel_rfl) (by kernel_rfl) ?hF24f (fun _ _ => True) (LateX w' (fun v w => ∃ gf cpf, v = .slice (some ⟨gf, 0, none⟩) (Walp.frame b).length cpf ∧ w.ownsRow 0 5 1 (.slice (some ⟨gf, 0, none⟩) (Walp.frame b).length cpf) (Walp.frame b).length ((Walp.frame b).map byteV)) (fun v w => RowB w v ([] ++ Walp.frame b) ∧ Turn (fun r => (.slice none 0 0 : Value).ownBlock = some r) w' w ∧ (v.ownBlock = (.slice none 0 0 : Value).ownBlock ∨ ∃ b, v.ownBlock = some b ∧ w'.heap.size ≤ b))) ?hV24f ?h024f ?hst24f ?hend24f
                case hF24f =>
                  intro vs
                  simp only [List.take_succ_cons, List.take_zero, fills]
                  go_simp
                  exact rfl
                case hV24f =>
                  intro i v ds W W' _ h
                  unfold saidV at *
                  rcases i with _ | _ | _ | _ | _ | _ | _ | _ | _ | _ | _ | _ | i <;> first | exact h | trivial
                case h024f => exact fun vs => LateX.start vs (Only.refl _).drew
                case hst24f =>
                  intro i o ho L vs W hL hX hi hcl hgot hdl hga K hK
                  have anc : L.getD 11 false = true → L.getD 2 false = true ∧ L.getD 3 false = true ∧ L.getD 4 false = true ∧ L.getD 5 false = true ∧ L.getD 6 false = true ∧ L.getD 7 false = true ∧ L.getD 8 false = true ∧ L.getD 9 false = true ∧ L.getD 10 false = true := fun h11 => by
                    have a5 := hcl 11 _ rfl h11 5 (by simp [depsOf, Region.binds, List.filter_cons])
                    have a10 := hcl 11 _ rfl h11 10 (by simp [depsOf, Region.binds, List.filter_cons])
                    have a4 := hcl 5 _ rfl a5 4 (by simp [depsOf, Region.binds, List.filter_cons])
                    have a2 := hcl 4 _ rfl a4 2 (by simp [depsOf, Region.binds, List.filter_cons])
                    have a3 := hcl 4 _ rfl a4 3 (by simp [depsOf, Region.binds, List.filter_cons])
                    have a9 := hcl 10 _ rfl a10 9 (by simp [depsOf, Region.binds, List.filter_cons])
                    have a8 := hcl 9 _ rfl a9 8 (by simp [depsOf, Region.binds, List.filter_cons])
                    have a6 := hcl 8 _ rfl a8 6 (by simp [depsOf, Region.binds, List.filter_cons])
                    have a7 := hcl 8 _ rfl a8 7 (by simp [depsOf, Region.binds, List.filter_cons])
                    exact ⟨a2, a3, a4, a5, a6, a7, a8, a9, a10⟩
                  rcases i with _ | _ | _ | _ | _ | _ | _ | _ | _ | _ | _ | _ | i
                  · simp only [List.take_succ_cons, List.take_zero, List.getElem?_cons_succ, List.getElem?_cons_zero, Option.some.injEq] at ho
                    subst ho
                    simp [depsOf, Region.binds, List.filter_cons, GotAll, saidV, pVal] at hga
                    unfold RichAt
                    go_simp
                    exact hK _ _ trivial rfl (hX.same (by decide))
                  · simp only [List.take_succ_cons, List.take_zero, List.getElem?_cons_succ, List.getElem?_cons_zero, Option.some.injEq] at ho
                    subst ho
                    simp [depsOf, Region.binds, List.filter_cons, GotAll, saidV, pVal] at hga
                    unfold RichAt
                    go_simp
                    exact hK _ _ trivial rfl (hX.same (by decide))
                  · simp only [List.take_succ_cons, List.take_zero, List.getElem?_cons_succ, List.getElem?_cons_zero, Option.some.injEq] at ho
                    subst ho
                    have hz' : L.getD 11 false = false := by
                      cases hz : L.getD 11 false with
                      | false => rfl
                      | true => have h9 := anc hz; rw [h9.1] at hi; cases hi
                    have hO := (hX.1 hz').1
                    have n1 := hO.cellM q1
                    have n2 := only_cell hO q2
                    simp [depsOf, Region.binds, List.filter_cons, GotAll, saidV, pVal] at hga
                    unfold RichAt
                    go_simp
                    exact hK _ _ trivial rfl (hX.low (by decide) hz' (Only.refl _) FRS.out)
                  · simp only [List.take_succ_cons, List.take_zero, List.getElem?_cons_succ, List.getElem?_cons_zero, Option.some.injEq] at ho
                    subst ho
                    have hz' : L.getD 11 false = false := by
                      cases hz : L.getD 11 false with
                      | false => rfl
                      | true => have h9 := anc hz; rw [h9.2.1] at hi; cases hi
                    have hO := (hX.1 hz').1
                    have n1 := hO.cellM q1
                    have n2 := only_cell hO q2
                    simp [depsOf, Region.binds, List.filter_cons, GotAll, saidV, pVal] at hga
                    unfold RichAt
                    go_simp
                    exact hK _ _ trivial rfl (hX.low (by decide) hz' (Only.refl _) FRS.out)
                  · simp only [List.take_succ_cons, List.take_zero, List.getElem?_cons_succ, List.getElem?_cons_zero, Option.some.injEq] at ho
                    subst ho
                    have hz' : L.getD 11 false = false := by
                      cases hz : L.getD 11 false with
                      | false => rfl
                      | true => have h9 := anc hz; rw [h9.2.2.1] at hi; cases hi
                    have hO := (hX.1 hz').1
                    have n1 := hO.cellM q1
                    have n2 := only_cell hO q2
                    simp [depsOf, Region.binds, List.filter_cons, GotAll, saidV, pVal] at hga
                    unfold RichAt
                    go_simp
                    exact hK _ _ trivial rfl (hX.low (by decide) hz' (Only.refl _) FRS.out)
                  · simp only [List.take_succ_cons, List.take_zero, List.getElem?_cons_succ, List.getElem?_cons_zero, Option.some.injEq] at ho
                    subst ho
                    have hz' : L.getD 11 false = false := by
                      cases hz : L.getD 11 false with
                      | false => rfl
                      | true => have h9 := anc hz; rw [h9.2.2.2.1] at hi; cases hi
                    have hO := (hX.1 hz').1
                    have n1 := hO.cellM q1
                    have n2 := only_cell hO q2
                    simp [depsOf, Region.binds, List.filter_cons, GotAll, saidV, pVal] at hga
                    unfold RichAt
                    go_simp
                    exact hK _ _ trivial rfl (hX.low (by decide) hz' (Only.refl _) FRS.out)
                  · simp only [List.take_succ_cons, List.take_zero, List.getElem?_cons_succ, List.getElem?_cons_zero, Option.some.injEq] at ho
                    subst ho
                    have hz' : L.getD 11 false = false := by
                      cases hz : L.getD 11 false with
                      | false => rfl
                      | true => have h9 := anc hz; rw [h9.2.2.2.2.1] at hi; cases hi
                    have hO := (hX.1 hz').1
                    have n1 := hO.cellM q1
                    have n2 := only_cell hO q2
                    simp [depsOf, Region.binds, List.filter_cons, GotAll, saidV, pVal] at hga
                    unfold RichAt
                    go_simp
                    exact hK _ _ trivial rfl (hX.low (by decide) hz' (Only.refl _) FRS.out)
                  · simp only [List.take_succ_cons, List.take_zero, List.getElem?_cons_succ, List.getElem?_cons_zero, Option.some.injEq] at ho
                    subst ho
                    have hz' : L.getD 11 false = false := by
                      cases hz : L.getD 11 false with
                      | false => rfl
                      | true => have h9 := anc hz; rw [h9.2.2.2.2.2.1] at hi; cases hi
                    have hO := (hX.1 hz').1
                    have n1 := hO.cellM q1
                    have n2 := only_cell hO q2
                    simp [depsOf, Region.binds, List.filter_cons, GotAll, saidV, pVal] at hga
                    unfold RichAt
                    go_simp
                    exact hK _ _ trivial rfl (hX.low (by decide) hz' (Only.refl _) FRS.out)
                  · simp only [List.take_succ_cons, List.take_zero, List.getElem?_cons_succ, List.getElem?_cons_zero, Option.some.injEq] at ho
                    subst ho
                    have hz' : L.getD 11 false = false := by
                      cases hz : L.getD 11 false with
                      | false => rfl
                      | true => have h9 := anc hz; rw [h9.2.2.2.2.2.2.1] at hi; cases hi
                    have hO := (hX.1 hz').1
                    have n1 := hO.cellM q1
                    have n2 := only_cell hO q2
                    simp [depsOf, Region.binds, List.filter_cons, GotAll, saidV, pVal] at hga
                    unfold RichAt
                    go_simp
                    exact hK _ _ trivial rfl (hX.low (by decide) hz' (Only.refl _) FRS.out)
                  · simp only [List.take_succ_cons, List.take_zero, List.getElem?_cons_succ, List.getElem?_cons_zero, Option.some.injEq] at ho
                    subst ho
                    have hz' : L.getD 11 false = false := by
                      cases hz : L.getD 11 false with
                      | false => rfl
                      | true => have h9 := anc hz; rw [h9.2.2.2.2.2.2.2.1] at hi; cases hi
                    have hO := (hX.1 hz').1
                    have n1 := hO.cellM q1
                    have n2 := only_cell hO q2
                    simp [depsOf, Region.binds, List.filter_cons, GotAll, saidV, pVal] at hga
                    unfold RichAt
                    go_simp
                    exact hK _ _ trivial rfl (hX.low (by decide) hz' (Only.refl _) FRS.out)
                  · simp only [List.take_succ_cons, List.take_zero, List.getElem?_cons_succ, List.getElem?_cons_zero, Option.some.injEq] at ho
                    subst ho
                    have hz' : L.getD 11 false = false := by
                      cases hz : L.getD 11 false with
                      | false => rfl
                      | true => have h9 := anc hz; rw [h9.2.2.2.2.2.2.2.2] at hi; cases hi
                    have hO := (hX.1 hz').1
                    simp [depsOf, Region.binds, List.filter_cons, GotAll, saidV, pVal] at hga
                    unfold RichAt
                    go_simp
                    refine (FR.out _ hO.turn).mono ?_
                    rintro e w' ⟨gf, cpf, rfl, hof, tf⟩
                    exact ⟨_, rfl, hK _ _ trivial trivial (hX.frm hz' tf.only ⟨gf, cpf, rfl, own_zero hof⟩)⟩
                  · simp only [List.take_succ_cons, List.take_zero, List.getElem?_cons_succ, List.getElem?_cons_zero, Option.some.injEq] at ho
                    subst ho
                    have hz' : L.getD 11 false = false := hi
                    have hO := (hX.1 hz').1
                    obtain ⟨gf, cpf, e10, hof⟩ := (hX.1 hz').2 (hdl 10 (by simp [depsOf, Region.binds, List.filter_cons]))
                    simp [depsOf, Region.binds, List.filter_cons, GotAll, saidV, pVal] at hga
                    have hru := ownsRow_turned HRU.out hO.turn (fun _ _ e => e)
                    rw [if_pos (by rfl)]
                    refine rich_append W _ _ 33 rfl 0 5 i8 (.int .u8 0) 1 1 Tryz.underlying33 h8 z80 z81 z82 rfl (by decide) (.slice none 0 0) 0 [] ?_ hru ⟨gf, 0, none⟩ (Walp.frame b).length cpf ((Walp.frame b).map byteV) ?_ (by simp) (frame_cells hof) (fun x hx => by obtain ⟨z, _, rfl⟩ := List.mem_map.1 hx; rfl) HLM.out HLM2.out (Nat.zero_le _) ?_
                    · first | (go_simp; done) | (go_simp; simp [hga])
                    · first | (go_simp; done) | (go_simp; simp [e10])
                    intro v' w' hown' hg' hb'
                    refine hK _ _ trivial trivial (LateX.fin hL ⟨?_, hO.turn.mono (fun _ e => e.elim) |>.trans ((Turn.refl (fun r => (.slice none 0 0 : Value).ownBlock = some r) W).grown hg' (fun k e => Or.inl e)) (fun _ _ e => e), ?_⟩)
                    · simpa [RowB] using hown'
                    · exact hb'.imp id (fun e => ⟨_, e, hO.size⟩)
                  · simp at ho
                case hend24f =>
                  intro vs W hX hga
                  have hfin := hX.2 (by rfl)
                  simp [List.range_succ, depsOf, Region.binds, List.filter_cons, GotAll, saidV, pVal] at hga
                  obtain ⟨e0, e1, e2, e3, e4, e5, e6, e7, e8, e9⟩ := hga
                  obtain ⟨hr5, ht5, hb5⟩ := hfin
                  obtain ⟨v5, hv5⟩ : ∃ v5, vs 11 = v5 := ⟨_, rfl⟩
                  rw [hv5] at hr5 hb5
                  obtain ⟨s5, cp5, hf5, -⟩ := own_cell hr5 (by simp)
                  subst hf5
                  obtain ⟨n5, hn5⟩ : ∃ n5, ([] ++ Walp.frame b).length = n5 := ⟨_, rfl⟩
                  rw [hn5] at hr5 hb5 hv5
                  clear hn5
                  have hug : ¬ (.slice none 0 0 : Value).ownBlock = some g2 := fun e => RG2.out.rows.apart HU.out e rfl
                  have q5 := turned_cell q1 ht5 hug
                  have hfz : W.frozen? ⟨g2, n, none⟩ = false := by
                    obtain ⟨cur, hc, -⟩ := RG2.out.rows.row
                    have hc2 := (ht5.block g2 RG2.out.rows.gz hug).trans hc
                    simp [World.frozen?, hc2]
                  have tP := (ht5.mono (Q' := fun b => (.slice none 0 0 : Value).ownBlock = some b ∨ b = g2) (fun _ e => Or.inl e)).set g2 n (Or.inl (Or.inr rfl)) (.slice s5 n5 cp5)
                  have IS := Lib.hid (IG.out.besides tP (fun b hb => by
                    rcases hb with hb | rfl
                    · exact RG2.out.sep b (Or.inr ⟨n, _, HU.out, hb⟩)
                    · exact RG2.out.sep _ (Or.inl rfl)))
                  have RS := RG2.out.rows.setAt HU.out HD1.out ht5 hr5 hb5
                  rw [← HD3.out, Nat.zero_add] at RS
                  have hQlt : ∀ b, Q b → b < (w').heap.size := fun b q => by obtain ⟨mo, pl, hr⟩ := IG.out.hx.rep; exact hr.lt b q
                  have hlplt := IG.out.hx.log.lt
                  have hwlt := IG.out.hx.turn.size
                  have RS2 : Hid (RowI w _ lp Q g2 0 cap3 _ _) := Lib.hid ⟨RS, fun b hb => (SegB.setAt HU.out hb5 hb).elim (RG2.out.sep b) (fun h => ⟨fun q => by have := hQlt b q; omega, by omega, by omega⟩)⟩
                  have c7 := turn_cell IS.out.hx.turn HAT.out
                  have HN9 : Hid ((Walp.addTo (ls ++ [[]]) b).length = n1) := Lib.hid (by rw [Walp.addTo_length (by simp)]; rw [List.length_append, HN.out]; exact HN1.out)
                  clear hQlt hlplt hwlt RS tP hb5 ht5 hr5 hug hX q2
                  simp only [List.drop_succ_cons, List.drop_zero]
                  go_wp2_with fail
                  go_at_call 12
                  refine (append_I HT.out IS.out k60 HOK.out HBB.out RS2.out).mono ?_
                  rintro r w9 ⟨rfl, S9, l9, Q9, hI9, hf9, hR9⟩
                  rw [HFU.out] at hI9
                  have hl9 := hI9.live.last
                  have hlen9 := HN9.out
                  rw [hlen9] at hl9
                  have b9 : ((l9.last : Int) != ((lg.first : Int)) + (n1 : Int) - 1) = false := by
                    rw [bne_eq_false_iff_eq]; omega
                  have b10 : ((l9.first : Int) != ((lg.first : Int))) = false := by
                    rw [bne_eq_false_iff_eq]; omega
                  have I9 := Lib.hid hI9
                  have R9 := Lib.hid hR9
                  have SG := Lib.hid (segment_is hI9.hx)
                  have FO := Lib.hid (first_is hI9.hx)
                  have F9 := Lib.hid hf9
                  clear hI9 hR9 hl9 hlen9 hf9
                  go_wp2_with (first | (go_at_call 8; refine (num_any _ _).mono ?_; rintro r w' ⟨rfl, rfl⟩) | (go_at_call 13; refine SG.out.mono ?_; rintro r w' ⟨rfl, rfl⟩) | (go_at_call 14; refine FO.out.mono ?_; rintro r w' ⟨rfl, rfl⟩))
                  exact ⟨⟨k + 1, S9, l9, Walp.addTo (ls ++ [[]]) b, Q9, g2, 0, cap3, _, by omega, by rw [F9.out], by exact congrArg (fun x => Value.slice _ x _) HN9.out.symm, by go_num, I9.out, R9.out⟩, by simp [intOf]; omega⟩
            · have hf1 : ¬ ((sz : Int) ≤ (d.length : Int)) := by omega
              rw [if_neg hfull] at hfu
              have HFU := Lib.hid hfu
              have QU := Lib.hid cu
              have QL := Lib.hid c2
              have HLM : Hid (d.length + (Walp.frame b).length ≤ maxLen) := Lib.hid (by rw [Walp.frame_length]; have h1 := HBB.out; have h2 := HDL.out; unfold maxLen; omega)
              have HLM2 : Hid ((d.length + (Walp.frame b).length) * 1 ≤ 140737488355328) := Lib.hid (by rw [Walp.frame_length]; have h1 := HBB.out; have h2 := HDL.out; omega)
              clear hfu hfull hlast0 hf0 hls0 hlim
              have FR : Hid (∀ W, Turn (fun _ => False) wr W → Calls Tryz.prog 11 #[.slice spu b.length capu] W fun r w' => ∃ gf cap, r = .returned (.slice (some ⟨gf, 0, none⟩) (Walp.frame b).length cap) ∧ w'.ownsRow W.heap.size 5 1 (.slice (some ⟨gf, 0, none⟩) (Walp.frame b).length cap) (Walp.frame b).length ((Walp.frame b).map byteV) ∧ Turn (fun _ => False) W w') := Lib.hid (fun W t => by
                have hk := (HOK.out.turned TW.out).turned t
                refine (refFrame_any hk.c.toR hk.b (by have := HBB.out; omega)).mono ?_
                rintro r w' ⟨spf, cpf, rfl, hof, tf⟩
                rcases hof.2 with ⟨_, e⟩ | ⟨gf, cf, cur, e, _⟩
                · rw [Walp.frame_length] at e; omega
                · simp only [Value.slice.injEq] at e
                  obtain ⟨rfl, -, -⟩ := e
                  exact ⟨gf, cpf, rfl, hof, tf⟩)
              have FRS : Hid (∀ (v : Value) (w w' : World), Only w w' → (∃ gf cpf, v = .slice (some ⟨gf, 0, none⟩) (Walp.frame b).length cpf ∧ w.ownsRow 0 5 1 (.slice (some ⟨gf, 0, none⟩) (Walp.frame b).length cpf) (Walp.frame b).length ((Walp.frame b).map byteV)) → (∃ gf cpf, v = .slice (some ⟨gf, 0, none⟩) (Walp.frame b).length cpf ∧ w'.ownsRow 0 5 1 (.slice (some ⟨gf, 0, none⟩) (Walp.frame b).length cpf) (Walp.frame b).length ((Walp.frame b).map byteV))) := Lib.hid (fun v w w' t ⟨gf, cpf, e, h⟩ => ⟨gf, cpf, e, ownsRow_turned h t.turn (fun _ _ e => e)⟩)
              have q1 := QU.out
              have q2 := QL.out
              go_upto_region 24 with (fail)
              refine wp_region_rich_tailT 12 (saidV [pVal (.slice (some ⟨g, off, none⟩) n cap2), pVal (.int .i64 (m : Int)), pVal (.slice (some ⟨g, off, none⟩) n cap2), pVal (.int .i64 (m : Int)), pVal (.pointer (some ⟨g, off + m, none⟩)), pVal (.slice su d.length cpu), pVal (.slice (some a) l.length cap), pVal (.int .i64 (k : Int)), pVal (.pointer (some (a.add k))), pVal (.slice spu b.length capu), fun _ _ _ => True, fun _ _ _ => True]) (F := ?F24g) (by kernel_rfl) (by kernel_rfl) (by kernel_rfl) (by kernel_rfl) (by kernel_rfl) (by kernel_rfl) (by kernel_rfl) ?hF24g (fun _ _ => True) (LateX wr (fun v w => ∃ gf cpf, v = .slice (some ⟨gf, 0, none⟩) (Walp.frame b).length cpf ∧ w.ownsRow 0 5 1 (.slice (some ⟨gf, 0, none⟩) (Walp.frame b).length cpf) (Walp.frame b).length ((Walp.frame b).map byteV)) (fun v w => RowB w v (d ++ Walp.frame b) ∧ Turn (fun r => (.slice su d.length cpu : Value).ownBlock = some r) wr w ∧ (v.ownBlock = (.slice su d.length cpu : Value).ownBlock ∨ ∃ b, v.ownBlock = some b ∧ wr.heap.size ≤ b))) ?hV24g ?h024g ?hst24g ?hend24g
              case hF24g =>
                intro vs
                simp only [List.take_succ_cons, List.take_zero, fills]
                go_simp
                exact rfl
              case hV24g =>
                intro i v ds W W' _ h
                unfold saidV at *
                rcases i with _ | _ | _ | _ | _ | _ | _ | _ | _ | _ | _ | _ | i <;> first | exact h | trivial
              case h024g => exact fun vs => LateX.start vs (Only.refl _).drew
              case hst24g =>
                intro i o ho L vs W hL hX hi hcl hgot hdl hga K hK
                have anc : L.getD 11 false = true → L.getD 2 false = true ∧ L.getD 3 false = true ∧ L.getD 4 false = true ∧ L.getD 5 false = true ∧ L.getD 6 false = true ∧ L.getD 7 false = true ∧ L.getD 8 false = true ∧ L.getD 9 false = true ∧ L.getD 10 false = true := fun h11 => by
                  have a5 := hcl 11 _ rfl h11 5 (by simp [depsOf, Region.binds, List.filter_cons])
                  have a10 := hcl 11 _ rfl h11 10 (by simp [depsOf, Region.binds, List.filter_cons])
                  have a4 := hcl 5 _ rfl a5 4 (by simp [depsOf, Region.binds, List.filter_cons])
                  have a2 := hcl 4 _ rfl a4 2 (by simp [depsOf, Region.binds, List.filter_cons])
                  have a3 := hcl 4 _ rfl a4 3 (by simp [depsOf, Region.binds, List.filter_cons])
                  have a9 := hcl 10 _ rfl a10 9 (by simp [depsOf, Region.binds, List.filter_cons])
                  have a8 := hcl 9 _ rfl a9 8 (by simp [depsOf, Region.binds, List.filter_cons])
                  have a6 := hcl 8 _ rfl a8 6 (by simp [depsOf, Region.binds, List.filter_cons])
                  have a7 := hcl 8 _ rfl a8 7 (by simp [depsOf, Region.binds, List.filter_cons])
                  exact ⟨a2, a3, a4, a5, a6, a7, a8, a9, a10⟩
                rcases i with _ | _ | _ | _ | _ | _ | _ | _ | _ | _ | _ | _ | i
                · simp only [List.take_succ_cons, List.take_zero, List.getElem?_cons_succ, List.getElem?_cons_zero, Option.some.injEq] at ho
                  subst ho
                  simp [depsOf, Region.binds, List.filter_cons, GotAll, saidV, pVal] at hga
                  unfold RichAt
                  go_simp
                  exact hK _ _ trivial rfl (hX.same (by decide))
                · simp only [List.take_succ_cons, List.take_zero, List.getElem?_cons_succ, List.getElem?_cons_zero, Option.some.injEq] at ho
                  subst ho
                  simp [depsOf, Region.binds, List.filter_cons, GotAll, saidV, pVal] at hga
                  unfold RichAt
                  go_simp
                  exact hK _ _ trivial rfl (hX.same (by decide))
                · simp only [List.take_succ_cons, List.take_zero, List.getElem?_cons_succ, List.getElem?_cons_zero, Option.some.injEq] at ho
                  subst ho
                  have hz' : L.getD 11 false = false := by
                    cases hz : L.getD 11 false with
                    | false => rfl
                    | true => have h9 := anc hz; rw [h9.1] at hi; cases hi
                  have hO := (hX.1 hz').1
                  have n1 := hO.cellM q1
                  have n2 := only_cell hO q2
                  simp [depsOf, Region.binds, List.filter_cons, GotAll, saidV, pVal] at hga
                  unfold RichAt
                  go_simp
                  exact hK _ _ trivial rfl (hX.low (by decide) hz' (Only.refl _) FRS.out)
                · simp only [List.take_succ_cons, List.take_zero, List.getElem?_cons_succ, List.getElem?_cons_zero, Option.some.injEq] at ho
                  subst ho
                  have hz' : L.getD 11 false = false := by
                    cases hz : L.getD 11 false with
                    | false => rfl
                    | true => have h9 := anc hz; rw [h9.2.1] at hi; cases hi
                  have hO := (hX.1 hz').1
                  have n1 := hO.cellM q1
                  have n2 := only_cell hO q2
                  simp [depsOf, Region.binds, List.filter_cons, GotAll, saidV, pVal] at hga
                  unfold RichAt
                  go_simp
                  exact hK _ _ trivial rfl (hX.low (by decide) hz' (Only.refl _) FRS.out)
                · simp only [List.take_succ_cons, List.take_zero, List.getElem?_cons_succ, List.getElem?_cons_zero, Option.some.injEq] at ho
                  subst ho
                  have hz' : L.getD 11 false = false := by
                    cases hz : L.getD 11 false with
                    | false => rfl
                    | true => have h9 := anc hz; rw [h9.2.2.1] at hi; cases hi
                  have hO := (hX.1 hz').1
                  have n1 := hO.cellM q1
                  have n2 := only_cell hO q2
                  simp [depsOf, Region.binds, List.filter_cons, GotAll, saidV, pVal] at hga
                  unfold RichAt
                  go_simp
                  exact hK _ _ trivial rfl (hX.low (by decide) hz' (Only.refl _) FRS.out)
                · simp only [List.take_succ_cons, List.take_zero, List.getElem?_cons_succ, List.getElem?_cons_zero, Option.some.injEq] at ho
                  subst ho
                  have hz' : L.getD 11 false = false := by
                    cases hz : L.getD 11 false with
                    | false => rfl
                    | true => have h9 := anc hz; rw [h9.2.2.2.1] at hi; cases hi
                  have hO := (hX.1 hz').1
                  have n1 := hO.cellM q1
                  have n2 := only_cell hO q2
                  simp [depsOf, Region.binds, List.filter_cons, GotAll, saidV, pVal] at hga
                  unfold RichAt
                  go_simp
                  exact hK _ _ trivial rfl (hX.low (by decide) hz' (Only.refl _) FRS.out)
                · simp only [List.take_succ_cons, List.take_zero, List.getElem?_cons_succ, List.getElem?_cons_zero, Option.some.injEq] at ho
                  subst ho
                  have hz' : L.getD 11 false = false := by
                    cases hz : L.getD 11 false with
                    | false => rfl
                    | true => have h9 := anc hz; rw [h9.2.2.2.2.1] at hi; cases hi
                  have hO := (hX.1 hz').1
                  have n1 := hO.cellM q1
                  have n2 := only_cell hO q2
                  simp [depsOf, Region.binds, List.filter_cons, GotAll, saidV, pVal] at hga
                  unfold RichAt
                  go_simp
                  exact hK _ _ trivial rfl (hX.low (by decide) hz' (Only.refl _) FRS.out)
                · simp only [List.take_succ_cons, List.take_zero, List.getElem?_cons_succ, List.getElem?_cons_zero, Option.some.injEq] at ho
                  subst ho
                  have hz' : L.getD 11 false = false := by
                    cases hz : L.getD 11 false with
                    | false => rfl
                    | true => have h9 := anc hz; rw [h9.2.2.2.2.2.1] at hi; cases hi
                  have hO := (hX.1 hz').1
                  have n1 := hO.cellM q1
                  have n2 := only_cell hO q2
                  simp [depsOf, Region.binds, List.filter_cons, GotAll, saidV, pVal] at hga
                  unfold RichAt
                  go_simp
                  exact hK _ _ trivial rfl (hX.low (by decide) hz' (Only.refl _) FRS.out)
                · simp only [List.take_succ_cons, List.take_zero, List.getElem?_cons_succ, List.getElem?_cons_zero, Option.some.injEq] at ho
                  subst ho
                  have hz' : L.getD 11 false = false := by
                    cases hz : L.getD 11 false with
                    | false => rfl
                    | true => have h9 := anc hz; rw [h9.2.2.2.2.2.2.1] at hi; cases hi
                  have hO := (hX.1 hz').1
                  have n1 := hO.cellM q1
                  have n2 := only_cell hO q2
                  simp [depsOf, Region.binds, List.filter_cons, GotAll, saidV, pVal] at hga
                  unfold RichAt
                  go_simp
                  exact hK _ _ trivial rfl (hX.low (by decide) hz' (Only.refl _) FRS.out)
                · simp only [List.take_succ_cons, List.take_zero, List.getElem?_cons_succ, List.getElem?_cons_zero, Option.some.injEq] at ho
                  subst ho
                  have hz' : L.getD 11 false = false := by
                    cases hz : L.getD 11 false with
                    | false => rfl
                    | true => have h9 := anc hz; rw [h9.2.2.2.2.2.2.2.1] at hi; cases hi
                  have hO := (hX.1 hz').1
                  have n1 := hO.cellM q1
                  have n2 := only_cell hO q2
                  simp [depsOf, Region.binds, List.filter_cons, GotAll, saidV, pVal] at hga
                  unfold RichAt
                  go_simp
                  exact hK _ _ trivial rfl (hX.low (by decide) hz' (Only.refl _) FRS.out)
                · simp only [List.take_succ_cons, List.take_zero, List.getElem?_cons_succ, List.getElem?_cons_zero, Option.some.injEq] at ho
                  subst ho
                  have hz' : L.getD 11 false = false := by
                    cases hz : L.getD 11 false with
                    | false => rfl
                    | true => have h9 := anc hz; rw [h9.2.2.2.2.2.2.2.2] at hi; cases hi
                  have hO := (hX.1 hz').1
                  simp [depsOf, Region.binds, List.filter_cons, GotAll, saidV, pVal] at hga
                  unfold RichAt
                  go_simp
                  refine (FR.out _ hO.turn).mono ?_
                  rintro e w' ⟨gf, cpf, rfl, hof, tf⟩
                  exact ⟨_, rfl, hK _ _ trivial trivial (hX.frm hz' tf.only ⟨gf, cpf, rfl, own_zero hof⟩)⟩
                · simp only [List.take_succ_cons, List.take_zero, List.getElem?_cons_succ, List.getElem?_cons_zero, Option.some.injEq] at ho
                  subst ho
                  have hz' : L.getD 11 false = false := hi
                  have hO := (hX.1 hz').1
                  obtain ⟨gf, cpf, e10, hof⟩ := (hX.1 hz').2 (hdl 10 (by simp [depsOf, Region.binds, List.filter_cons]))
                  simp [depsOf, Region.binds, List.filter_cons, GotAll, saidV, pVal] at hga
                  have hru := ownsRow_turned HRU.out hO.turn (fun _ _ e => e)
                  rw [if_pos (by rfl)]
                  refine rich_append W _ _ 33 rfl 0 5 i8 (.int .u8 0) 1 1 Tryz.underlying33 h8 z80 z81 z82 rfl (by decide) (.slice su d.length cpu) d.length (d.map byteV) ?_ hru ⟨gf, 0, none⟩ (Walp.frame b).length cpf ((Walp.frame b).map byteV) ?_ (by simp) (frame_cells hof) (fun x hx => by obtain ⟨z, _, rfl⟩ := List.mem_map.1 hx; rfl) HLM.out HLM2.out (Nat.zero_le _) ?_
                  · first | (go_simp; done) | (go_simp; simp [hga])
                  · first | (go_simp; done) | (go_simp; simp [e10])
                  intro v' w' hown' hg' hb'
                  refine hK _ _ trivial trivial (LateX.fin hL ⟨?_, hO.turn.mono (fun _ e => e.elim) |>.trans ((Turn.refl (fun r => (.slice su d.length cpu : Value).ownBlock = some r) W).grown hg' (fun k e => Or.inl e)) (fun _ _ e => e), ?_⟩)
                  · simpa [RowB] using hown'
                  · exact hb'.imp id (fun e => ⟨_, e, hO.size⟩)
                · simp at ho
              case hend24g =>
                intro vs W hX hga
                have hfin := hX.2 (by rfl)
                simp [List.range_succ, depsOf, Region.binds, List.filter_cons, GotAll, saidV, pVal] at hga
                obtain ⟨e0, e1, e2, e3, e4, e5, e6, e7, e8, e9⟩ := hga
                obtain ⟨hr5, ht5, hb5⟩ := hfin
                obtain ⟨v5, hv5⟩ : ∃ v5, vs 11 = v5 := ⟨_, rfl⟩
                rw [hv5] at hr5 hb5
                obtain ⟨s5, cp5, hf5, -⟩ := own_cell hr5 (by simp)
                subst hf5
                obtain ⟨n5, hn5⟩ : ∃ n5, (d ++ Walp.frame b).length = n5 := ⟨_, rfl⟩
                rw [hn5] at hr5 hb5 hv5
                clear hn5
                have hug : ¬ (.slice su d.length cpu : Value).ownBlock = some g := fun e => HR.out.rows.apart HU.out e rfl
                have q5 := turned_cell q1 ht5 hug
                have hfz : W.frozen? ⟨g, off + m, none⟩ = false := by
                  obtain ⟨cur, hc, -⟩ := HR.out.rows.row
                  have hc2 := (ht5.block g HR.out.rows.gz hug).trans hc
                  simp [World.frozen?, hc2]
                have tP := (ht5.mono (Q' := fun b => (.slice su d.length cpu : Value).ownBlock = some b ∨ b = g) (fun _ e => Or.inl e)).set g (off + m) (Or.inl (Or.inr rfl)) (.slice s5 n5 cp5)
                have IS := Lib.hid (HI.out.besides tP (fun b hb => by
                  rcases hb with hb | rfl
                  · exact HR.out.sep b (Or.inr ⟨m, _, HU.out, hb⟩)
                  · exact HR.out.sep _ (Or.inl rfl)))
                have RS := HR.out.rows.setAt HU.out HD1.out ht5 hr5 hb5
                rw [← HD3.out] at RS
                have hQlt : ∀ b, Q b → b < (wr).heap.size := fun b q => by obtain ⟨mo, pl, hr⟩ := HI.out.hx.rep; exact hr.lt b q
                have hlplt := HI.out.hx.log.lt
                have hwlt := HI.out.hx.turn.size
                have RS2 : Hid (RowI w _ lp Q g off cap2 _ _) := Lib.hid ⟨RS, fun b hb => (SegB.setAt HU.out hb5 hb).elim (HR.out.sep b) (fun h => ⟨fun q => by have := hQlt b q; omega, by omega, by omega⟩)⟩
                have c7 := turn_cell IS.out.hx.turn HAT.out
                have HN9 : Hid ((Walp.addTo (ls) b).length = n) := Lib.hid (by rw [Walp.addTo_length (by exact HI.out.live.any)]; exact HN.out)
                clear hQlt hlplt hwlt RS tP hb5 ht5 hr5 hug hX q2
                simp only [List.drop_succ_cons, List.drop_zero]
                go_wp2_with fail
                go_at_call 12
                refine (append_I HT.out IS.out k60 HOK.out HBB.out RS2.out).mono ?_
                rintro r w9 ⟨rfl, S9, l9, Q9, hI9, hf9, hR9⟩
                rw [HFU.out] at hI9
                have hl9 := hI9.live.last
                have hlen9 := HN9.out
                rw [hlen9] at hl9
                have b9 : ((l9.last : Int) != ((lg.first : Int)) + (n : Int) - 1) = false := by
                  rw [bne_eq_false_iff_eq]; omega
                have b10 : ((l9.first : Int) != ((lg.first : Int))) = false := by
                  rw [bne_eq_false_iff_eq]; omega
                have I9 := Lib.hid hI9
                have R9 := Lib.hid hR9
                have SG := Lib.hid (segment_is hI9.hx)
                have FO := Lib.hid (first_is hI9.hx)
                have F9 := Lib.hid hf9
                clear hI9 hR9 hl9 hlen9 hf9
                go_wp2_with (first | (go_at_call 8; refine (num_any _ _).mono ?_; rintro r w' ⟨rfl, rfl⟩) | (go_at_call 13; refine SG.out.mono ?_; rintro r w' ⟨rfl, rfl⟩) | (go_at_call 14; refine FO.out.mono ?_; rintro r w' ⟨rfl, rfl⟩))
                exact ⟨⟨k + 1, S9, l9, Walp.addTo (ls) b, Q9, g, off, cap2, _, by omega, by rw [F9.out], by exact congrArg (fun x => Value.slice _ x _) HN9.out.symm, by go_num, I9.out, R9.out⟩, by simp [intOf]; omega⟩
        · have hk0 : k = l.length := by omega
          subst hk0
          obtain ⟨e1, e2, e3, e4⟩ := HI.out.len
          have hlast := HI.out.live.last
          have hlim := HI.out.last
          have h60 := H60.out
          have hany := HI.out.live.any
          obtain ⟨mo, pl, hr⟩ := HI.out.hx.rep
          have hhas := HI.out.live.has
          rw [HI.out.hdir] at hhas
          have hnm := Walp.names_segs HI.out.segs hhas e4
          have NM := Lib.hid (names_any hr ⟨#[]⟩)
          rw [show Fsp.names S (⟨#[]⟩ : ByteArray).data.toList = S.L.map (·.1) from Fsp.names_all _] at NM
          obtain ⟨n, hn⟩ : ∃ n, ls.length = n := ⟨_, rfl⟩
          rw [hn]
          have HRR := Lib.hid hr
          have HHAS := Lib.hid hhas
          have HNM := Lib.hid hnm
          have HN := Lib.hid hn
          have HE1 := Lib.hid e1
          have HTT : Hid (Turn (fun _ => False) w wr) := Lib.hid HI.out.hx.turn
          have HUSED := Lib.hid HI.out.hx.sorted.2
          have nb0 : (0 : Int) ≤ (n : Int) := by omega
          have nb1 : (n : Int) ≤ 61 := by omega
          have fb0 : (0 : Int) ≤ (lg.first : Int) := by omega
          have fb1 : (lg.first : Int) ≤ 61 := by omega
          clear hr hhas hnm hn e1 e2 e3 e4 hlast hlim h60 hlt hk hany
          go_wp2_with fail
          go_at_call 15
          refine NM.out.mono ?_
          rintro r w5 ⟨v5, rfl, hrow5, t5⟩
          obtain ⟨s5, c5, hv5, hc5⟩ := own_cell hrow5 (by simp)
          simp only [List.length_map] at hv5
          rw [HE1.out, HN.out] at hv5
          subst hv5
          have HC5 := Lib.hid hc5
          have T5 := Lib.hid t5
          clear hrow5 hc5 t5
          go_wp2_with fail
          go_loopw [21] (fun i wx => ∃ j : Nat, j ≤ n ∧ i = .int .i64 (j : Int) ∧ Turn (fun _ => False) w5 wx) (fun i _ => n - (intOf i).toNat)
          case atStart => exact ⟨0, Nat.zero_le _, rfl, Turn.refl _ _⟩
          case round =>
            obtain ⟨j, hj, rfl, htr⟩ := hrel
            have HTR := Lib.hid htr
            clear htr
            by_cases hlt : j < n
            · have j1 : (j : Int) < (n : Int) := by omega
              have j0 : (0 : Int) ≤ (j : Int) := by omega
              obtain ⟨ad5, hs5, hx5⟩ := HC5.out (by rw [List.length_map, HE1.out, HN.out]; omega)
              subst hs5
              obtain ⟨rs, hrs⟩ : ∃ rs, ls[j]? = some rs := ⟨_, List.getElem?_eq_getElem (by rw [HN.out]; exact hlt)⟩
              have hwh : (ls.map Walp.whole)[j]? = some (Walp.whole rs) := by rw [List.getElem?_map, hrs]; rfl
              have hfr : (ls.map Walp.frames)[j]? = some (Walp.frames rs) := by rw [List.getElem?_map, hrs]; rfl
              have hnj : (S.L.map (·.1))[j]? = some (Walp.seg [119] (lg.first + j)) := by
                rw [HNM.out, List.getElem?_map, List.length_map, HN.out, List.getElem?_range' (by omega)]; simp
              have b5 := turn_cell HTR.out (hx5 j (.string (segName (txt [119]) (lg.first + j))) (by rw [List.getElem?_map, hnj]; rfl))
              have hfind := HHAS.out.at_ hwh
              have hdl : (Walp.frames rs).length ≤ 67108864 := by
                have h1 := Fsp.used_find hfind
                have h2 := HUSED.out.1
                have h3 := HUSED.out.2.1
                have h4 : (Walp.whole rs).data = Walp.frames rs := rfl
                rw [h4] at h1; omega
              have hx : lg.first + j < 100000000 := by omega
              have RD := Lib.hid (read_some (HRR.out.turned (T5.out.trans HTR.out (fun _ _ e => e)) (fun _ _ e => e)) (segName (txt [119]) (lg.first + j)) (seg_size [119] _ (by decide)) hfind)
              have hR5 := (HR.out.later (T5.out.trans HTR.out (fun _ _ e => e))).rows
              obtain ⟨u, -, cu, -, ru⟩ := hR5.at hfr
              obtain ⟨su, cpu, hv, -⟩ := own_cell ru (by simp)
              subst hv
              have CU := Lib.hid cu
              have RU := Lib.hid ru
              have HDL := Lib.hid hdl
              have HX := Lib.hid hx
              clear hrs hwh hfr hnj hfind hdl hx hR5 ru hx5 cu
              go_wp2_with fail
              go_at_call 16
              refine RD.out.mono ?_
              rintro r w6 ⟨gd, rfl, hown, t6⟩
              have cu6 := turn_cell t6 CU.out
              have b6 := turn_cell t6 b5
              have SB := Lib.hid (same_any (SliceR.of_own hown) (SliceR.of_own (ownsRow_turned RU.out t6 (fun _ _ e => e))) (by have := HDL.out; unfold maxLen; show (Walp.frames rs).length ≤ _; omega) (by have := HDL.out; unfold maxLen; omega))
              have T6 := Lib.hid (HTR.out.trans t6 (fun _ _ e => e))
              clear hown t6 b5
              go_wp2_with fail
              go_at_call 17
              refine SB.out.mono ?_
              rintro r w7 ⟨rfl, hlk⟩
              rw [show decide ((Walp.whole rs).data = Walp.frames rs) = true from decide_eq_true rfl]
              have b7 := hlk.cell b6
              have e7 := fun (n : Cone w7) => only_cell n.only b7
              have T7 := Lib.hid (T6.out.like hlk)
              have NAME : ∀ n : Cone w7, Calls Tryz.prog 18 #[.string ⟨#[119]⟩, .int .i64 ((lg.first : Int) + (j : Int))] n.out fun e w' => e = .returned (.string (segName (txt [119]) (lg.first + j))) ∧ Only n.out w' := fun n => by
                have h0 := refName_any (txt [119]) (by decide) (lg.first + j) HX.out n.out
                rw [show ((lg.first + j : Nat) : Int) = (lg.first : Int) + (j : Int) by omega] at h0
                exact h0.mono fun e w' h => ⟨h.1, h.2.only⟩
              clear hlk b6 b7 cu6
              have j2 : (j : Int) ≤ 61 := by omega
              go_upto_region 51 with (fail)
              refine wp_region_cone (by kernel_rfl) (by kernel_rfl) ?_
              repeat (any_goals (first | go_big_quiet_step (((go_at_call 18; with_reducible exact Cone.call (NAME _)))) | quiet_step (((go_at_call 18; with_reducible exact Cone.call (NAME _))))))
              refine wpQuiet_nil ?_
              rintro w8 ⟨⟨_, t8⟩, rfl⟩
              have T8 := Lib.hid (T7.out.trans t8.turn (fun _ _ e => e))
              clear t8 NAME e7
              go_wp2_with fail
              go_roundw
              case rel => exact ⟨j + 1, by omega, by go_num, T8.out⟩
              case measure => simp [intOf]; omega
            · have hjn : j = n := by omega
              subst hjn
              go_wp2_with fail
              go_ret
              exact ⟨rfl, (HTT.out.trans T5.out (fun _ _ e => e)).trans HTR.out (fun _ _ e => e)⟩
end
end Go.Proofs.YtinghngnehhgfaaGreatDoor
