/-
  The document's sum of amounts (exref6.Sum).
-/
import Derived.Test.YtopklnaahdjafaaGreatDoorMRef2
import Derived.Test.YtopklnaahdjafaaGreatDoorMAms
import Derived.Test.YtopklnaahdjafaaGreatDoorGTl
namespace Go.Proofs.YtopklnaahdjafaaGreatDoor
open Go.RowKit Go.Shelf Go.Maps Go.WideMaps
set_option linter.unusedVariables false
set_option linter.unusedSimpArgs false

def pBig (n : Int) : Said := fun v _ w => ∃ b s k c, v = .agg #[.bool b, .slice s k c] ∧ BigR w b s k c n
theorem stab_big (n : Int) : StabO (pBig n) := fun _ _ _ _ t ⟨b, s, k, c, e, h⟩ => ⟨b, s, k, c, e, h.only t⟩

abbrev RSumIs (w : World) (c : ByteArray) (v : Value) (n : Int) (d : ByteArray) (e : Int) : Prop := Calls Tryz.prog 36 #[.string c, v] w fun r w' => r = .returned (.tuple #[.agg #[.int .i64 n, .string d], .int .i64 e]) ∧ Only w w'

theorem rsum_18 {c : ByteArray} {sp : Option Addr} {n cap : Nat} {k : Int} (S : ∀ w, Calls Tryz.prog 18 #[.string c] w fun e w' => e = .returned (.int .i64 k) ∧ Only w w') (hk : k < 0) (w : World) : RSumIs w c (.slice sp n cap) 0 ⟨#[]⟩ 18 := by
  have S := Lib.hid S
  have ht := (Only.refl w).alloc (.cells #[.int .i64 0, .string ⟨#[]⟩] 51)
  have o3 := Own2.new w (.int .i64 0) (.string ⟨#[]⟩) 51
  go_enter Tryz.func36, Tryz.ntmps36
  go_wp2_with fail
  go_at_call 18
  refine (S.out _).mono ?_
  rintro r w1 ⟨rfl, t1⟩
  have o3 := o3.only t1
  have ht := ht.trans t1
  obtain ⟨d1, d2, f1, f2, z1⟩ := o3.all
  clear t1 o3
  go_wp2
  simp [bodyPost, results, Tryz.results36, go_sem, World.cell?_setCell_other, d1, d2]
  exact (ht.set (by omega) 0 _).set (by omega) 1 _

set_option maxRecDepth 100000 in
set_option maxHeartbeats 3200000 in
theorem rsum_walk {c : ByteArray} {k₀ : Int} {sp : Option Addr} {cap : Nat} {l : List (Int × ByteArray)} {w : World} (hl : AmsR w (.slice sp l.length cap) l) (hlen : l.length ≤ 1000) (hI : ∀ x ∈ l, I64 x.1)
    (S : ∀ w, Calls Tryz.prog 18 #[.string c] w fun e w' => e = .returned (.int .i64 k₀) ∧ Only w w') (hk : 0 ≤ k₀) (hc : (curOf c).isSome = true) :
    RSumIs w c (.slice sp l.length cap) (if listE c l = 0 then okI (amE (listN l)) (listN l) else 0) (if listE c l = 0 then okS (amE (listN l)) c else ⟨#[]⟩) (if listE c l = 0 then amE (listN l) else listE c l) := by
  obtain ⟨N, hN⟩ : ∃ N, N = (if listE c l = 0 then okI (amE (listN l)) (listN l) else 0) := ⟨_, rfl⟩
  obtain ⟨D, hD⟩ : ∃ D, D = (if listE c l = 0 then okS (amE (listN l)) c else ⟨#[]⟩) := ⟨_, rfl⟩
  obtain ⟨E, hE⟩ : ∃ E, E = (if listE c l = 0 then amE (listN l) else listE c l) := ⟨_, rfl⟩
  rw [← hN, ← hD, ← hE]
  have HN := Lib.hid hN
  have HD := Lib.hid hD
  have HE := Lib.hid hE
  have HL := Lib.hid hl
  have HI := Lib.hid hI
  have S := Lib.hid S
  clear hN hD hE hI hl
  have il : (l.length : Int) ≤ 1000 := by omega
  have ht := (Only.refl w).alloc (.cells #[.int .i64 0, .string ⟨#[]⟩] 51)
  have o3 := Own2.new w (.int .i64 0) (.string ⟨#[]⟩) 51
  go_enter Tryz.func36, Tryz.ntmps36
  go_wp2_with fail
  go_at_call 18
  refine (S.out _).mono ?_
  rintro r w1 ⟨rfl, t1⟩
  have oA := (o3.only t1).alloc box0
  have hT := (ht.trans t1).alloc box0
  have oB := Own2.new w1 (.bool false) (.slice none 0 0) 34
  have rB : BigR (w1.alloc box0) false none 0 0 0 := ⟨rfl, [], Or.inl ⟨rfl, rfl⟩, Nm.nil⟩
  have hz := (ht.trans t1).size
  have hz2 := (o3.only t1).lt
  have hPP : ∃ P, P = w1.heap.size := ⟨_, rfl⟩
  have HW := Lib.hid hz
  have HQ := Lib.hid hz2
  clear t1 ht o3 hz hz2
  go_wp2_with fail
  go_loopw [7] (fun i wr => ∃ (k : Nat) (b : Bool) (s : Option Addr) (n m : Nat), k ≤ l.length ∧ i = .int .i64 k ∧ listE c (l.take k) = 0 ∧ BigAt wr w1.heap.size b s n m ∧ BigR wr b s n m (listN (l.take k)) ∧ Own2 wr w.heap.size (.int .i64 0) (.string ⟨#[]⟩) ∧ Only w wr) (fun i _ => l.length - (intOf i).toNat)
  case atStart => exact ⟨0, false, none, 0, 0, Nat.zero_le _, rfl, rfl, oB, rB, oA, hT⟩
  case round =>
    clear hT oA oB rB hPP
    obtain ⟨j, b, s, n, m, hj, rfl, he, oB, rB, oA, hT⟩ := hrel
    have HEJ := Lib.hid he
    clear he
    by_cases hlt : j < l.length
    · have il2 : (j : Int) < (l.length : Int) := by omega
      obtain ⟨sp', cap', hv, hr⟩ := HL.out.only hT
      obtain ⟨g, o, rfl, hcells⟩ := hr (by omega)
      obtain ⟨rfl, rfl⟩ : sp = some ⟨g, o, none⟩ ∧ cap = cap' := by simpa using hv
      obtain ⟨x, hx⟩ : ∃ x, l[j]? = some x := ⟨_, List.getElem?_eq_getElem hlt⟩
      obtain ⟨c1, c2⟩ := hcells j x hx
      have hxi : I64 x.1 := HI.out x (List.mem_of_getElem? hx)
      have C := check_any x.1 x.2
      have hc0 : curE 0 c = 0 := by unfold curE; rw [if_pos hc, if_pos (show Bd 0 by unfold Bd; omega)]
      have hbes : besE 0 c x.1 x.2 = if curE x.1 x.2 = 0 then if c = x.2 then 0 else 18 else curE x.1 x.2 := by unfold besE; rw [if_pos hc0]
      obtain ⟨x1, x2⟩ := x
      simp only at c1 c2 C hxi hbes
      have HX := Lib.hid hx
      have HB := Lib.hid hbes
      obtain ⟨e, he⟩ : ∃ e, e = curE x1 x2 := ⟨_, rfl⟩
      rw [← he] at C
      have HEE := Lib.hid he
      have C := Lib.hid C
      clear hcells hv hx he hr hc0 hbes
      by_cases h0 : e = 0
      · subst h0
        go_wp2_with fail
        go_at_call 21
        refine (C.out _).mono ?_
        rintro r w2 ⟨rfl, t2⟩
        have d1 := t2.cellM c1
        have d2 := t2.cellM c2
        replace oB := oB.only t2
        replace rB := rB.only t2
        replace oA := oA.only t2
        replace hT := hT.trans t2
        clear t2 c1 c2
        by_cases hcx : c = x2
        · subst hcx
          have hb0 : besE 0 c x1 c = 0 := by rw [HB.out, ← HEE.out, if_pos rfl, if_pos rfl]
          have hsum : listN (l.take (j + 1)) = listN (l.take j) + x1 := by
            rw [List.take_add_one, HX.out]; exact listN_snoc _ _
          have hnext : listE c (l.take (j + 1)) = 0 := by
            rw [List.take_add_one, HX.out]; exact (listE_snoc c _ _ HEJ.out).trans hb0
          have bd := listN_bound HEJ.out
          have lt1 : (l.take j).length ≤ 1000 := by rw [List.length_take]; omega
          have L1 : Hid (Lim (listN (l.take j)) 50000) := Lib.hid ((show Lim (listN (l.take j)) 10 by unfold Lim; omega).mono (by omega))
          have L2 : Hid (Lim x1 50000) := Lib.hid ((Lim.of_i64 hxi).mono (by omega))
          have HSUM := Lib.hid hsum
          have HNX := Lib.hid hnext
          clear hsum hnext bd lt1 hb0
          go_upto_region 12 with (fail)
          refine wp_rich_tail 8 [pVal ?c0, pVal ?c1, pVal ?c2, pVal ?c3, pVal ?c4, pVal ?c5, pBig x1, pBig (listN (l.take (j + 1)))] (F := ?F) (by kernel_rfl) (by kernel_rfl) (by kernel_rfl) (by kernel_rfl) (by kernel_rfl) (by kernel_rfl) (by kernel_rfl) ?hF ?hst ?hO ?hend
          case hF =>
            intro vs
            simp only [List.take_succ_cons, List.take_zero, fills]
            go_simp
            exact rfl
          case hst =>
            simp only [List.take_succ_cons, List.take_zero, StepsP]
            refine ⟨?_, ?_, ?_, ?_, ?_, ?_, ?_, ?_, trivial⟩
            case refine_1 | refine_2 | refine_3 | refine_4 | refine_5 | refine_6 =>
              intro vs W hW hd K hK
              have k1 := (oB.only hW).c0
              have k2 := (oB.only hW).c1
              have k3 := hW.cellM d1
              simp [depsOf, Region.binds, List.filter_cons, GotAll, saidV, pVal] at hd
              unfold RichAt
              go_simp
              refine hK _ _ (Only.refl _) ?_
              exact rfl
            case refine_7 =>
              intro vs W hW hd K hK
              simp [depsOf, Region.binds, List.filter_cons, GotAll, saidV, pVal] at hd
              unfold RichAt
              go_simp
              refine (bigOf_any hxi.1 hxi.2 W).mono ?_
              rintro e w' ⟨b', s', k', c', rfl, hb, t⟩
              exact ⟨_, rfl, hK _ _ t ⟨b', s', k', c', rfl, hb⟩⟩
            case refine_8 =>
              intro vs W hW hd K hK
              have hB := rB.only hW
              have hsum := HSUM.out
              simp [depsOf, Region.binds, List.filter_cons, GotAll, saidV, pVal] at hd
              obtain ⟨e0, b6, s6, k6, c6, e6, r6⟩ := hd
              unfold RichAt
              go_simp
              refine (bigAdd_any hB r6 L1.out L2.out).mono ?_
              rintro e w' ⟨b', s', k', c', rfl, hb, t⟩
              rw [← hsum] at hb
              exact ⟨_, rfl, hK _ _ t ⟨b', s', k', c', rfl, hb⟩⟩
          case hO =>
            simp only [List.forall_mem_cons]
            exact ⟨stab_val _, stab_val _, stab_val _, stab_val _, stab_val _, stab_val _, stab_big _, stab_big _, fun _ h => by cases h⟩
          case hend =>
            intro vs W hW hg
            simp [List.range_succ, depsOf, Region.binds, List.filter_cons, GotAll, saidV, pVal] at hg
            obtain ⟨e0, e1, e2, e3, e4, e5, -, b7, s7, k7, c7, e7, r7⟩ := hg
            have oB2 := oB.only hW
            have hT2 := hT.trans hW
            have oA2 := oA.only hW
            obtain ⟨d1, d2, f1, f2, z1⟩ := oB2.all
            have hw1 := HQ.out
            have hT7 := Lib.hid ((hT2.set (p := w1.heap.size) (by omega) 0 (.bool b7)).set (p := w1.heap.size) (by omega) 1 (.slice s7 k7 c7))
            have oA7 := Lib.hid ((oA2.far (p := w1.heap.size) (by omega) 0 (.bool b7)).far (p := w1.heap.size) (by omega) 1 (.slice s7 k7 c7))
            have oB7 := Lib.hid (oB2.set (.bool b7) (.slice s7 k7 c7))
            have rB7 := Lib.hid (r7.apart oB2 b7 s7 k7 c7)
            clear oB2 hT2 oA2 r7 oB rB oA hT hW
            simp only [List.drop_succ_cons, List.drop_zero]
            go_wp2
            go_roundw
            case rel => exact ⟨j + 1, b7, s7, k7, c7, by omega, by go_num, HNX.out, oB7.out, rB7.out, oA7.out, hT7.out⟩
            case measure => simp [intOf]; omega
        · have q1 : (x2.toList == c.toList) = false := by rw [toList_beq]; simpa using fun e => hcx e.symm
          have q2 : (x2.toList != c.toList) = true := by simp [bne, q1]
          have hE1 : listE c l = 18 := by
            have hb0 : besE 0 c x1 x2 = 18 := by rw [HB.out, ← HEE.out, if_pos rfl, if_neg hcx]
            rw [← hb0]; exact listE_at HX.out HEJ.out (by simp only; rw [hb0]; decide)
          have h18 : ¬ (18 : Int) = 0 := by decide
          have VN := Lib.hid (show N = 0 by rw [HN.out, hE1, if_neg h18])
          have VD := Lib.hid (show D = ⟨#[]⟩ by rw [HD.out, hE1, if_neg h18])
          have VE := Lib.hid (show E = 18 by rw [HE.out, hE1, if_neg h18])
          clear hE1 h18 hcx
          obtain ⟨d1', d2', f1, f2, z1⟩ := oA.all
          go_wp2_with fail
          rw [VN.out, VD.out, VE.out]
          simp [bodyPost, results, Tryz.results36, go_sem, World.cell?_setCell_other, d1', d2']
          exact (hT.set (p := w.heap.size) (by omega) 0 _).set (p := w.heap.size) (by omega) 1 _
      · have e1 := (ne_eqs h0).1
        have e2 := (ne_eqs h0).2
        have hE1 : listE c l = e := by
          have hb0 : besE 0 c x1 x2 = e := by rw [HB.out, ← HEE.out, if_neg h0]
          rw [← hb0]; exact listE_at HX.out HEJ.out (by simp only; rw [hb0]; exact h0)
        have VN := Lib.hid (show N = 0 by rw [HN.out, hE1, if_neg h0])
        have VD := Lib.hid (show D = ⟨#[]⟩ by rw [HD.out, hE1, if_neg h0])
        have VE := Lib.hid (show E = e by rw [HE.out, hE1, if_neg h0])
        clear hE1 h0
        go_wp2_with fail
        go_at_call 21
        refine (C.out _).mono ?_
        rintro r w2 ⟨rfl, t2⟩
        obtain ⟨d1', d2', f1, f2, z1⟩ := (oA.only t2).all
        replace hT := hT.trans t2
        clear t2 oA oB rB c1 c2
        go_wp2_with fail
        rw [VN.out, VD.out, VE.out]
        simp [bodyPost, results, Tryz.results36, go_sem, World.cell?_setCell_other, d1', d2']
        exact (hT.set (p := w.heap.size) (by omega) 0 _).set (p := w.heap.size) (by omega) 1 _
    · have hjl : j = l.length := by omega
      subst hjl
      have he := HEJ.out
      rw [List.take_of_length_le (Nat.le_refl _)] at he rB
      have bd := listN_bound he
      have VN := Lib.hid (show N = okI (amE (listN l)) (listN l) by rw [HN.out, if_pos he])
      have VD := Lib.hid (show D = okS (amE (listN l)) c by rw [HD.out, if_pos he])
      have VE := Lib.hid (show E = amE (listN l) by rw [HE.out, if_pos he])
      have A := made_any (w := wr) c rB ((show Lim (listN l) 10 by unfold Lim; omega).mono (by omega))
      rw [← VN.out, ← VD.out, ← VE.out] at A
      have A := Lib.hid A
      obtain ⟨c1, c2, -, -, z1⟩ := oB.all
      clear he bd
      go_wp2_with fail
      go_at_call 66
      refine A.out.mono ?_
      rintro r w4 ⟨rfl, t4⟩
      have hT4 := hT.trans t4
      clear c1 c2 z1
      obtain ⟨d1, d2, f1, f2, z1⟩ := (oA.only t4).all
      clear oA oB rB t4 hT
      go_wp2
      simp [bodyPost, results, Tryz.results36, go_sem, World.cell?_setCell_other, d1, d2]
      exact (hT4.set (p := w.heap.size) (by omega) 0 _).set (p := w.heap.size) (by omega) 1 _

theorem rsum_any {c : ByteArray} {v : Value} {l : List (Int × ByteArray)} {w : World} (hl : AmsR w v l) (hlen : l.length ≤ 1000) (hI : ∀ x ∈ l, I64 x.1) :
    RSumIs w c v (okI (sumLE c l) (listN l)) (okS (sumLE c l) c) (sumLE c l) := by
  have S := fun w => scale_any c w
  obtain ⟨sp, cap, rfl, -⟩ := id hl
  unfold sumLE
  by_cases h : (curOf c).isSome = true
  · rw [if_pos h]
    have hk : 0 ≤ scI c := by
      have := (fK_range c).1
      unfold scI; unfold fK at this
      cases hc : curOf c with
      | none => rw [hc] at h; cases h
      | some k => rw [hc] at this; exact this
    have R := rsum_walk hl hlen hI S hk h
    by_cases h2 : listE c l = 0
    · simpa only [if_pos h2] using R
    · rw [if_neg h2, okI_ne h2, okS_ne h2]
      simpa only [if_neg h2] using R
  · rw [if_neg h, okI_ne (by decide), okS_ne (by decide)]
    refine rsum_18 S ?_ w
    unfold scI
    cases hc : curOf c with
    | none => decide
    | some k => rw [hc] at h; exact absurd rfl h
end Go.Proofs.YtopklnaahdjafaaGreatDoor
