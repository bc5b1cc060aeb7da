/-
  Decode, of any bytes.
-/
import Derived.Test.YtipcdbdlopmdoaaDoorKPartsO
import Derived.Deep.RegionHeld3
import Derived.Laws.EntriesVeiled
namespace Go.Proofs.YtipcdbdlopmdoaaDoor
open Go.RowKit Go.Maps Go.WideMaps Go.Shelf
set_option linter.unusedVariables false
set_option linter.unusedSimpArgs false

/-- what Decode leaves -/
def DecP (w : World) (o : Option (List KP)) (e : Ending) (w' : World) : Prop := Only w w' ∧ match o with
  | none => e = .returned (.tuple #[.slice none 0 0, .int .i64 10])
  | some l => ∃ v, e = .returned (.tuple #[v, .int .i64 0]) ∧ PartsO w' w.heap.size v l

theorem DecP.bad {w w' : World} {o : Option (List KP)} (h : o = none) (t : Only w w') {e : Ending} (he : e = .returned (.tuple #[.slice none 0 0, .int .i64 10])) : DecP w o e w' := by
  subst h; exact ⟨t, he⟩
theorem DecP.good {w w' : World} {o : Option (List KP)} {l : List KP} (h : o = some l) (t : Only w w') {e : Ending} {v : Value} (he : e = .returned (.tuple #[v, .int .i64 0])) (hv : PartsO w' w.heap.size v l) : DecP w o e w' := by
  subst h; exact ⟨t, v, he, hv⟩

/-- a kind's box -/
def KBox (w : World) (b : Nat) (x y z t : Value) : Prop := ∃ ty, w.heap[b]? = some (.cells #[x, y, z, t] ty)
theorem KBox.only {w w' : World} {b : Nat} {x y z t : Value} (h : KBox w b x y z t) (q : Only w w') : KBox w' b x y z t := by
  obtain ⟨ty, h⟩ := h
  exact ⟨ty, (q.block b (Array.getElem?_eq_some_iff.1 h).1).trans h⟩
theorem KBox.c3 {w : World} {b : Nat} {x y z t : Value} (h : KBox w b x y z t) : w.cell? ⟨b, 3, none⟩ = some t := by
  obtain ⟨ty, h⟩ := h; simp [World.cell?, h]
theorem KBox.lt {w : World} {b : Nat} {x y z t : Value} (h : KBox w b x y z t) : b < w.heap.size := by
  obtain ⟨ty, h⟩ := h; exact (Array.getElem?_eq_some_iff.1 h).1
theorem KBox.far3 {w : World} {b p : Nat} {x y z t : Value} (h : KBox w b x y z t) (e : b ≠ p) (u v s : Value) : KBox (((w.setCell ⟨p, 0, none⟩ u).setCell ⟨p, 1, none⟩ v).setCell ⟨p, 2, none⟩ s) b x y z t := by
  obtain ⟨ty, h⟩ := h
  exact ⟨ty, ((heap_setCell_other e s).trans ((heap_setCell_other e v).trans (heap_setCell_other e u))).trans h⟩
theorem KBox.new (w : World) (x y z t : Value) (ty : TypeId) : KBox (w.alloc (.cells #[x, y, z, t] ty)) w.heap.size x y z t := ⟨_, heap_alloc_new ..⟩

theorem ktxt_cons_size (b : UInt8) (r : List UInt8) : (ktxt (b :: r)).size = r.length + 1 := rfl
theorem ktxt_get (b : UInt8) (r : List UInt8) (h : 0 < (ktxt (b :: r)).size) : (ktxt (b :: r))[0]'h = b := rfl
theorem ktxt_tail (b : UInt8) (r : List UInt8) : (ktxt (b :: r)).extract 1 (ktxt (b :: r)).size = ktxt r := by
  have := Lib.extract_to_end (ktxt (b :: r)) 1
  have e : ((ktxt (b :: r)).extract 1 (ktxt (b :: r)).size).data.toList = r := this
  rw [← ktxt_data ((ktxt (b :: r)).extract 1 (ktxt (b :: r)).size), e]

set_option maxRecDepth 100000 in
set_option maxHeartbeats 6400000 in
theorem decode_any {D : ByteArray} (hd : D.size ≤ 1000000) {w : World} (hm : MaxAt w) : Calls Tryd.prog 12 #[.string D] w (DecP w (decE D.data.toList)) := by
  have hds : D.data.toList.length = D.size := by simp
  by_cases h200 : 200 < D.size
  · have e1 : decE D.data.toList = none := by unfold decE; rw [if_pos (by omega)]
    have i1 : decide ((200 : Int) < (D.size : Int)) = true := by simp; omega
    have E1 := Lib.hid e1
    clear e1 hds
    go_enter Tryd.func12, Tryd.ntmps12
    go_wp2_with fail
    go_ret2
    exact DecP.bad E1.out (Only.refl _) rfl
  · have e1 : decE D.data.toList = decF [] D.data.toList := decF_start (by omega)
    have i1 : decide ((200 : Int) < (D.size : Int)) = false := by simp; omega
    have KK := kinds_any w
    obtain ⟨O, hO⟩ : ∃ O, O = decE D.data.toList := ⟨_, rfl⟩
    rw [← hO] at e1 ⊢
    have E1 := Lib.hid e1
    have HM := Lib.hid hm
    have HDS := Lib.hid hds
    clear e1 hO hm hds
    go_enter Tryd.func12, Tryd.ntmps12
    go_wp2_with (go_at_call 21; refine KK.mono ?_; rintro r w1 ⟨rfl, t1, kd⟩)
    go_loopw [5, 6, 7, 8, 9, 10, 11] (fun lv rv _ _ _ _ _ x => ∃ (acc : List KP) (R : ByteArray), rv = .string R ∧ R.size ≤ 200 ∧ acc.length ≤ 8 ∧ PartsO x w1.heap.size lv acc ∧ Hid (O = decF acc R.data.toList) ∧ Only w1 x) (fun _ rv _ _ _ _ _ _ => match rv with | .string s => s.size | _ => 0)
    case atStart => exact ⟨[], D, rfl, by omega, by simp, PartsO.nil _ _, E1, Only.refl _⟩
    case round =>
      obtain ⟨acc, R, rfl, hr, ha, hp, ho, ht⟩ := hrel
      obtain ⟨sq, cq, rfl⟩ := hp.form
      have HP := Lib.hid hp
      have T := Lib.hid (t1.trans ht)
      have HT := Lib.hid ht
      have HO := ho
      have KD := Lib.hid (kd.only ht)
      have hds : R.data.toList.length = R.size := by simp
      by_cases h0 : R.size = 0
      · have hl : R.data.toList = [] := List.length_eq_zero_iff.1 (by omega)
        have i2 : R.toList.isEmpty = true := by rw [Lib.toList_data, hl]; rfl
        have hoo : O = some acc := by rw [ho.out, hl, decF_nil ha]
        have HOO := Lib.hid hoo
        clear hp ho ht hoo hr hl hds kd h0
        go_wp2_with fail
        go_ret2
        exact DecP.good HOO.out T.out rfl (HP.out.base t1.size)
      · obtain ⟨b, r, hbr⟩ : ∃ b r, R.data.toList = b :: r := by
          cases hx : R.data.toList with
          | nil => rw [hx] at hds; simp at hds; omega
          | cons b r => exact ⟨b, r, rfl⟩
        have i2 : R.toList.isEmpty = false := by rw [Lib.toList_data, hbr]; rfl
        have i3 : (0 : Int) < (R.size : Int) := by omega
        have i4 : 0 < R.size := by omega
        have i5 : (1 : Int) ≤ (R.size : Int) := by omega
        have hb : R[0]'i4 = b := by
          have : R.data.toList[0]? = some b := by rw [hbr]; rfl
          have h2 : R.data[0]'i4 = b := by simpa [i4] using this
          exact h2
        obtain ⟨n, hn⟩ : ∃ n : Nat, n = b.toNat := ⟨_, rfl⟩
        have hc : ((R[0]'i4).toNat : Int) = (n : Int) := by rw [hb, hn]
        have hrt : (R.extract 1 R.size).data.toList = r := by rw [Lib.extract_to_end, hbr]; rfl
        have hrs : (R.extract 1 R.size).size = r.length := by rw [← hrt]; simp
        have hr' : r.length ≤ 199 := by rw [hbr] at hds; simp only [List.length_cons] at hds; omega
        have hbl : (n : Int) ≤ 255 := by have := b.toNat_lt; omega
        have hb0 : (0 : Int) ≤ (n : Int) := by omega
        have HBR := Lib.hid hbr
        have HRT := Lib.hid hrt
        have HRS := Lib.hid hrs
        have HN := Lib.hid hn
        have HR := Lib.hid hr'
        clear hp ht hr ho kd hbr hb hn hrt hrs hds h0 hr'
        by_cases hb1 : (n : Int) = 1
        · have hbb : b = 1 := UInt8.toNat_inj.1 (by rw [← HN.out]; show n = 1; omega)
          have HBB := Lib.hid hbb
          clear hbb
          have LK := look_kind (k := (n : Int)) KD.out (kind_wf (by omega) (by omega))
          rw [show ((n : Int) == 1 || (n : Int) == 2) = true by rw [hb1]; rfl, show kindOf (n : Int) = kindI by rw [hb1]; rfl] at LK
          unfold kindI at LK
          by_cases h8 : acc.length = 8
          · have hoo : O = none := by rw [HO.out, HBR.out, decF_full h8]
            have HOO := Lib.hid hoo
            have i6 : ((acc.length : Int) == 8) = true := by rw [h8]; rfl
            clear hoo ha h8 hb1
            go_wp2_with fail
            go_ret2
            exact DecP.bad HOO.out (T.out.alloc _) rfl
          · have i6 : ((acc.length : Int) == 8) = false := by rw [beq_eq_false_iff_ne]; omega
            have TK : ∀ W, Only wr W → Calls Tryd.prog 29 #[.string (R.extract 1 R.size)] W fun e w' => e = .returned (tkV (takeE (b :: r))) ∧ Only W w' := fun W h => by
              have := takeInt_any (D := R.extract 1 R.size) (by rw [HRS.out]; have := HR.out; omega) W
              rw [HRT.out] at this
              rw [HBB.out]
              exact this
            obtain ⟨Tk, hTk⟩ : ∃ Tk, Tk = takeE (b :: r) := ⟨_, rfl⟩
            rw [← hTk] at TK
            have TK := Lib.hid TK
            have HTK := Lib.hid hTk
            have ha7 : acc.length ≤ 7 := by omega
            clear h8 ha hTk hb1
            cases Tk with
            | none =>
              have hoo : O = none := by rw [HO.out, HBR.out, decF_none HTK.out.symm]
              have HOO := Lib.hid hoo
              unfold tkV pv at TK
              clear hoo
              go_wp2_with fail
              refine wp_name (fun W => KBox W wr.heap.size (.func (.func 26) #[] #[]) (.func (.func 27) #[] #[]) (.func (.func 28) #[] #[]) (.func (.func 29) #[] #[]) ∧ Only wr W) ⟨KBox.new _ _ _ _ _ _, (Only.refl wr).alloc _⟩ ?_
              rintro wx ⟨kb, t3⟩
              have b0 := (kb.only (Only.refl wx).drew)
              have T3 := Lib.hid t3.drew
              have q0 : KBox (wx.alloc (.cells #[.int .i64 0, .int .i64 0, .string ⟨#[]⟩] 40)).drew wr.heap.size _ _ _ _ := kb.only (((Only.refl wx).alloc _).drew)
              have x0 : Own3 (wx.alloc (.cells #[.int .i64 0, .int .i64 0, .string ⟨#[]⟩] 40)).drew wx.heap.size (.int .i64 0) (.int .i64 0) (.string ⟨#[]⟩) := (Own3.new wx _ _ _ _).drew
              have T3a := Lib.hid (show Only wr (wx.alloc (.cells #[.int .i64 0, .int .i64 0, .string ⟨#[]⟩] 40)).drew from (t3.alloc _).drew)
              have NE := Lib.hid (show wr.heap.size ≠ wx.heap.size from Nat.ne_of_lt kb.lt)
              have SZ := Lib.hid t3.size
              clear t3 kb
              go_region_held3 (fun W => W.cell? ⟨wr.heap.size, 3, none⟩ = some (.func (.func 29) #[] #[])) (first | with_reducible exact b0.c3 | with_reducible exact q0.c3 | with_reducible exact b5.c3 | with_reducible exact q5.c3 | with_reducible exact (q5.far3 NE.out _ _ _).c3 | with_reducible exact (b5.only ((Only.refl w5).alloc _)).c3 | fail) (first | (go_at_call 29; (first | (with_reducible refine (TK.out _ T3.out).mono ?_; rintro r5 w5 ⟨rfl, t5⟩; have b5 := b0.only t5; have T5 := Lib.hid (T3.out.trans t5); clear t5) | (with_reducible refine (TK.out _ T3a.out).mono ?_; rintro r5 w5 ⟨rfl, t5⟩; have q5 := q0.only t5; have T5 := Lib.hid (T3a.out.trans t5); obtain ⟨c0, c1, c2, f0, f1, f2, z1⟩ := (x0.only t5).all6; clear t5))))
              all_goals
                clear LK
                go_wp2_with fail
                go_ret2
                first | exact DecP.bad HOO.out (T.out.trans (T5.out.set3 SZ.out _ _ _)) rfl | exact DecP.bad HOO.out (T.out.trans (T5.out.alloc _)) rfl
            | some xq =>
              obtain ⟨q, t'⟩ := xq
              have hoo : O = decF (acc ++ [q]) t' := by rw [HO.out, HBR.out, decF_some HTK.out.symm]
              have HOO := Lib.hid hoo
              have hsh := takeE_shorter HTK.out.symm
              have HSH := Lib.hid hsh
              unfold tkV pv at TK
              clear hoo hsh
              go_wp2_with fail
              refine wp_name (fun W => KBox W wr.heap.size (.func (.func 26) #[] #[]) (.func (.func 27) #[] #[]) (.func (.func 28) #[] #[]) (.func (.func 29) #[] #[]) ∧ Only wr W) ⟨KBox.new _ _ _ _ _ _, (Only.refl wr).alloc _⟩ ?_
              rintro wx ⟨kb, t3⟩
              have b0 := (kb.only (Only.refl wx).drew)
              have T3 := Lib.hid t3.drew
              have q0 : KBox (wx.alloc (.cells #[.int .i64 0, .int .i64 0, .string ⟨#[]⟩] 40)).drew wr.heap.size _ _ _ _ := kb.only (((Only.refl wx).alloc _).drew)
              have x0 : Own3 (wx.alloc (.cells #[.int .i64 0, .int .i64 0, .string ⟨#[]⟩] 40)).drew wx.heap.size (.int .i64 0) (.int .i64 0) (.string ⟨#[]⟩) := (Own3.new wx _ _ _ _).drew
              have T3a := Lib.hid (show Only wr (wx.alloc (.cells #[.int .i64 0, .int .i64 0, .string ⟨#[]⟩] 40)).drew from (t3.alloc _).drew)
              have NE := Lib.hid (show wr.heap.size ≠ wx.heap.size from Nat.ne_of_lt kb.lt)
              have SZ := Lib.hid t3.size
              clear t3 kb
              go_region_held3 (fun W => W.cell? ⟨wr.heap.size, 3, none⟩ = some (.func (.func 29) #[] #[])) (first | with_reducible exact b0.c3 | with_reducible exact q0.c3 | with_reducible exact b5.c3 | with_reducible exact q5.c3 | with_reducible exact (q5.far3 NE.out _ _ _).c3 | with_reducible exact (b5.only ((Only.refl w5).alloc _)).c3 | fail) (first | (go_at_call 29; (first | (with_reducible refine (TK.out _ T3.out).mono ?_; rintro r5 w5 ⟨rfl, t5⟩; have b5 := b0.only t5; have T5 := Lib.hid (T3.out.trans t5); clear t5) | (with_reducible refine (TK.out _ T3a.out).mono ?_; rintro r5 w5 ⟨rfl, t5⟩; have q5 := q0.only t5; have T5 := Lib.hid (T3a.out.trans t5); obtain ⟨c0, c1, c2, f0, f1, f2, z1⟩ := (x0.only t5).all6; have t5x := t5))))
              all_goals
                first
                | (refine then_name (fun W => Own3 W wx.heap.size (.int .i64 q.kind) (.int .i64 q.n) (.string (ktxt q.s)) ∧ Only wr W) ⟨(x0.only t5x).set _ _ _, T5.out.set3 SZ.out _ _ _⟩ ?_; clear c0 c1 c2 f0 f1 f2 z1 q5 x0 T5 t5x)
                | (refine then_name (fun W => Own3 W w5.heap.size (.int .i64 q.kind) (.int .i64 q.n) (.string (ktxt q.s)) ∧ Only wr W) ⟨Own3.new _ _ _ _ _, T5.out.alloc _⟩ ?_; clear T5 b5)
                rintro wy ⟨oy, ty⟩
                obtain ⟨c0, c1, c2⟩ := oy.all
                have HPy := Lib.hid ((HP.out.only ty).only ((Only.refl wy).alloc (.cells #[.int .i64 q.kind, .int .i64 q.n, .string (ktxt q.s)] 40)))
                have TY := Lib.hid (ty.alloc (.cells #[.int .i64 q.kind, .int .i64 q.n, .string (ktxt q.s)] 40))
                have N3 := (Own3.new wy (.int .i64 q.kind) (.int .i64 q.n) (.string (ktxt q.s)) 40)
                have N0 := Lib.hid N3.c0
                have N1 := Lib.hid N3.c1
                have N2 := Lib.hid N3.c2
                clear oy ty LK N3
                go_wp2_with (at_builtin; refine append_part rfl (.tmp 45) (.tmp 47) rfl (base := w1.heap.size) (y := q) (g := wy.heap.size) rfl rfl HPy.out N0.out N1.out N2.out (by omega) (Nat.le_trans HT.out.size TY.out.size) ?_; intro sp3 cp3 w7 hp7 hb7 hs7)
                have ho7 : Only w1 w7 := Below.trans (HT.out.trans TY.out) hb7
                have hl7 : t'.length < r.length + 1 := by have := HSH.out; simpa using this
                have hr7 := HR.out
                have hrs : R.size = r.length + 1 := by
                  have h1 : R.data.toList.length = R.size := by simp
                  rw [HBR.out] at h1; simpa using h1.symm
                refine ⟨⟨acc ++ [q], ktxt t', rfl, by rw [ktxt_size]; omega, by simp; omega, by simpa using hp7, HOO, ho7⟩, ?_⟩
                show (ktxt t').size < R.size
                rw [hrs, ktxt_size]; exact hl7
        · by_cases hb2 : (n : Int) = 2
          · have hbb : b = 2 := UInt8.toNat_inj.1 (by rw [← HN.out]; show n = 2; omega)
            have HBB := Lib.hid hbb
            clear hbb
            have LK := look_kind (k := (n : Int)) KD.out (kind_wf (by omega) (by omega))
            rw [show ((n : Int) == 1 || (n : Int) == 2) = true by rw [hb2]; rfl, show kindOf (n : Int) = kindT by rw [hb2]; rfl] at LK
            unfold kindT at LK
            by_cases h8 : acc.length = 8
            · have hoo : O = none := by rw [HO.out, HBR.out, decF_full h8]
              have HOO := Lib.hid hoo
              have i6 : ((acc.length : Int) == 8) = true := by rw [h8]; rfl
              clear hoo ha h8 hb2
              go_wp2_with fail
              go_ret2
              exact DecP.bad HOO.out (T.out.alloc _) rfl
            · have i6 : ((acc.length : Int) == 8) = false := by rw [beq_eq_false_iff_ne]; omega
              have TK : ∀ W, Only wr W → Calls Tryd.prog 33 #[.string (R.extract 1 R.size)] W fun e w' => e = .returned (tkV (takeE (b :: r))) ∧ Only W w' := fun W h => by
                have := takeText_any (D := R.extract 1 R.size) (by rw [HRS.out]; have := HR.out; omega) ((HM.out.only T.out).only h)
                rw [HRT.out] at this
                rw [HBB.out]
                exact this
              obtain ⟨Tk, hTk⟩ : ∃ Tk, Tk = takeE (b :: r) := ⟨_, rfl⟩
              rw [← hTk] at TK
              have TK := Lib.hid TK
              have HTK := Lib.hid hTk
              have ha7 : acc.length ≤ 7 := by omega
              clear h8 ha hTk hb2
              cases Tk with
              | none =>
                have hoo : O = none := by rw [HO.out, HBR.out, decF_none HTK.out.symm]
                have HOO := Lib.hid hoo
                unfold tkV pv at TK
                clear hoo
                go_wp2_with fail
                refine wp_name (fun W => KBox W wr.heap.size (.func (.func 30) #[] #[]) (.func (.func 31) #[] #[]) (.func (.func 32) #[] #[]) (.func (.func 33) #[] #[]) ∧ Only wr W) ⟨KBox.new _ _ _ _ _ _, (Only.refl wr).alloc _⟩ ?_
                rintro wx ⟨kb, t3⟩
                have b0 := (kb.only (Only.refl wx).drew)
                have T3 := Lib.hid t3.drew
                have q0 : KBox (wx.alloc (.cells #[.int .i64 0, .int .i64 0, .string ⟨#[]⟩] 40)).drew wr.heap.size _ _ _ _ := kb.only (((Only.refl wx).alloc _).drew)
                have x0 : Own3 (wx.alloc (.cells #[.int .i64 0, .int .i64 0, .string ⟨#[]⟩] 40)).drew wx.heap.size (.int .i64 0) (.int .i64 0) (.string ⟨#[]⟩) := (Own3.new wx _ _ _ _).drew
                have T3a := Lib.hid (show Only wr (wx.alloc (.cells #[.int .i64 0, .int .i64 0, .string ⟨#[]⟩] 40)).drew from (t3.alloc _).drew)
                have NE := Lib.hid (show wr.heap.size ≠ wx.heap.size from Nat.ne_of_lt kb.lt)
                have SZ := Lib.hid t3.size
                clear t3 kb
                go_region_held3 (fun W => W.cell? ⟨wr.heap.size, 3, none⟩ = some (.func (.func 33) #[] #[])) (first | with_reducible exact b0.c3 | with_reducible exact q0.c3 | with_reducible exact b5.c3 | with_reducible exact q5.c3 | with_reducible exact (q5.far3 NE.out _ _ _).c3 | with_reducible exact (b5.only ((Only.refl w5).alloc _)).c3 | fail) (first | (go_at_call 33; (first | (with_reducible refine (TK.out _ T3.out).mono ?_; rintro r5 w5 ⟨rfl, t5⟩; have b5 := b0.only t5; have T5 := Lib.hid (T3.out.trans t5); clear t5) | (with_reducible refine (TK.out _ T3a.out).mono ?_; rintro r5 w5 ⟨rfl, t5⟩; have q5 := q0.only t5; have T5 := Lib.hid (T3a.out.trans t5); obtain ⟨c0, c1, c2, f0, f1, f2, z1⟩ := (x0.only t5).all6; clear t5))))
                all_goals
                  clear LK
                  go_wp2_with fail
                  go_ret2
                  first | exact DecP.bad HOO.out (T.out.trans (T5.out.set3 SZ.out _ _ _)) rfl | exact DecP.bad HOO.out (T.out.trans (T5.out.alloc _)) rfl
              | some xq =>
                obtain ⟨q, t'⟩ := xq
                have hoo : O = decF (acc ++ [q]) t' := by rw [HO.out, HBR.out, decF_some HTK.out.symm]
                have HOO := Lib.hid hoo
                have hsh := takeE_shorter HTK.out.symm
                have HSH := Lib.hid hsh
                unfold tkV pv at TK
                clear hoo hsh
                go_wp2_with fail
                refine wp_name (fun W => KBox W wr.heap.size (.func (.func 30) #[] #[]) (.func (.func 31) #[] #[]) (.func (.func 32) #[] #[]) (.func (.func 33) #[] #[]) ∧ Only wr W) ⟨KBox.new _ _ _ _ _ _, (Only.refl wr).alloc _⟩ ?_
                rintro wx ⟨kb, t3⟩
                have b0 := (kb.only (Only.refl wx).drew)
                have T3 := Lib.hid t3.drew
                have q0 : KBox (wx.alloc (.cells #[.int .i64 0, .int .i64 0, .string ⟨#[]⟩] 40)).drew wr.heap.size _ _ _ _ := kb.only (((Only.refl wx).alloc _).drew)
                have x0 : Own3 (wx.alloc (.cells #[.int .i64 0, .int .i64 0, .string ⟨#[]⟩] 40)).drew wx.heap.size (.int .i64 0) (.int .i64 0) (.string ⟨#[]⟩) := (Own3.new wx _ _ _ _).drew
                have T3a := Lib.hid (show Only wr (wx.alloc (.cells #[.int .i64 0, .int .i64 0, .string ⟨#[]⟩] 40)).drew from (t3.alloc _).drew)
                have NE := Lib.hid (show wr.heap.size ≠ wx.heap.size from Nat.ne_of_lt kb.lt)
                have SZ := Lib.hid t3.size
                clear t3 kb
                go_region_held3 (fun W => W.cell? ⟨wr.heap.size, 3, none⟩ = some (.func (.func 33) #[] #[])) (first | with_reducible exact b0.c3 | with_reducible exact q0.c3 | with_reducible exact b5.c3 | with_reducible exact q5.c3 | with_reducible exact (q5.far3 NE.out _ _ _).c3 | with_reducible exact (b5.only ((Only.refl w5).alloc _)).c3 | fail) (first | (go_at_call 33; (first | (with_reducible refine (TK.out _ T3.out).mono ?_; rintro r5 w5 ⟨rfl, t5⟩; have b5 := b0.only t5; have T5 := Lib.hid (T3.out.trans t5); clear t5) | (with_reducible refine (TK.out _ T3a.out).mono ?_; rintro r5 w5 ⟨rfl, t5⟩; have q5 := q0.only t5; have T5 := Lib.hid (T3a.out.trans t5); obtain ⟨c0, c1, c2, f0, f1, f2, z1⟩ := (x0.only t5).all6; have t5x := t5))))
                all_goals
                  first
                  | (refine then_name (fun W => Own3 W wx.heap.size (.int .i64 q.kind) (.int .i64 q.n) (.string (ktxt q.s)) ∧ Only wr W) ⟨(x0.only t5x).set _ _ _, T5.out.set3 SZ.out _ _ _⟩ ?_; clear c0 c1 c2 f0 f1 f2 z1 q5 x0 T5 t5x)
                  | (refine then_name (fun W => Own3 W w5.heap.size (.int .i64 q.kind) (.int .i64 q.n) (.string (ktxt q.s)) ∧ Only wr W) ⟨Own3.new _ _ _ _ _, T5.out.alloc _⟩ ?_; clear T5 b5)
                  rintro wy ⟨oy, ty⟩
                  obtain ⟨c0, c1, c2⟩ := oy.all
                  have HPy := Lib.hid ((HP.out.only ty).only ((Only.refl wy).alloc (.cells #[.int .i64 q.kind, .int .i64 q.n, .string (ktxt q.s)] 40)))
                  have TY := Lib.hid (ty.alloc (.cells #[.int .i64 q.kind, .int .i64 q.n, .string (ktxt q.s)] 40))
                  have N3 := (Own3.new wy (.int .i64 q.kind) (.int .i64 q.n) (.string (ktxt q.s)) 40)
                  have N0 := Lib.hid N3.c0
                  have N1 := Lib.hid N3.c1
                  have N2 := Lib.hid N3.c2
                  clear oy ty LK N3
                  go_wp2_with (at_builtin; refine append_part rfl (.tmp 45) (.tmp 47) rfl (base := w1.heap.size) (y := q) (g := wy.heap.size) rfl rfl HPy.out N0.out N1.out N2.out (by omega) (Nat.le_trans HT.out.size TY.out.size) ?_; intro sp3 cp3 w7 hp7 hb7 hs7)
                  have ho7 : Only w1 w7 := Below.trans (HT.out.trans TY.out) hb7
                  have hl7 : t'.length < r.length + 1 := by have := HSH.out; simpa using this
                  have hr7 := HR.out
                  have hrs : R.size = r.length + 1 := by
                    have h1 : R.data.toList.length = R.size := by simp
                    rw [HBR.out] at h1; simpa using h1.symm
                  refine ⟨⟨acc ++ [q], ktxt t', rfl, by rw [ktxt_size]; omega, by simp; omega, by simpa using hp7, HOO, ho7⟩, ?_⟩
                  show (ktxt t').size < R.size
                  rw [hrs, ktxt_size]; exact hl7
          · have hk : ((n : Int) == 1 || (n : Int) == 2) = false := by simp only [Bool.or_eq_false_iff, beq_eq_false_iff_ne]; exact ⟨hb1, hb2⟩
            have LK := look_kind (k := (n : Int)) KD.out (kind_wf (by omega) (by omega))
            rw [hk, kindOf_n hk] at LK
            unfold kindZ at LK
            have hoo : O = none := by
              have h1 : b ≠ 1 := fun e => hb1 (by rw [HN.out, e]; rfl)
              have h2 : b ≠ 2 := fun e => hb2 (by rw [HN.out, e]; rfl)
              rw [HO.out, HBR.out, decF_none]
              unfold takeE
              simp only
              rw [if_neg h1, if_neg h2]
            have HOO := Lib.hid hoo
            clear hoo hk hb1 hb2
            go_wp2_with fail
            go_ret2
            exact DecP.bad HOO.out (T.out.alloc _) rfl
end Go.Proofs.YtipcdbdlopmdoaaDoor
