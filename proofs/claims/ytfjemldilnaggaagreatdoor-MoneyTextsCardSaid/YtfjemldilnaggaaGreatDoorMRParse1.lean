/-
  What a text is as an amount, by the document: a decimal of one piece.
-/
import Derived.Test.YtfjemldilnaggaaGreatDoorMRParse0
namespace Go.Proofs.YtfjemldilnaggaaGreatDoor
open Go.RowKit Go.Maps Go.WideMaps Go.Shelf
set_option linter.unusedVariables false
set_option linter.unusedSimpArgs false

set_option maxRecDepth 100000 in
set_option maxHeartbeats 6400000 in
theorem rparse_1 {s A C T p : ByteArray} {neg z b : Bool} {E n k : Int} {S : ByteArray} (C1 : XCutIs s 32 [A, C]) (iA : A.size ≤ 1000) (hA : (A.size = 0 ∧ neg = false) ∨ ∃ h : 0 < A.size, (((A[0]'h).toNat : Int) == 45) = neg)
    (hT : (if neg then A.extract 1 A.size else A) = T) (C2 : XCutIs T 46 [p]) (D1 : XDigIs p z) (h0 : z = true → 0 < p.size) (ip : p.size ≤ 1000) (hb : (b = false ∧ p.size ≤ 1) ∨ ∃ h : 1 < p.size, (((p[0]'(by omega)).toNat : Int) == 48) = b) {X : Bool} (hX : (!z || b) = X)
    (SC : ∀ W, Calls Tryz.prog 18 #[.string C] W fun e w' => e = .returned (.int .i64 k) ∧ Only W w') (hk3 : k ≤ 3) (hE1 : X = true → Out E n S 10 0 ⟨#[]⟩) (hE2 : X = false → k < 0 → Out E n S 18 0 ⟨#[]⟩)
    (hE4 : X = false → 0 ≤ k → (⟨#[]⟩ : ByteArray).size ≤ k.toNat → EndOut neg (numOf (p.data.toList ++ (⟨#[]⟩ : ByteArray).data.toList ++ List.replicate (k.toNat - (⟨#[]⟩ : ByteArray).size) 48)) C E n S)
    (hdg : X = false → digsB p.data.toList = true ∧ 0 < p.size) : AnsIs 24 #[.string s] n S E := by
  intro w
  have C1 := Lib.hid C1
  have C2 := Lib.hid C2
  have HT := Lib.hid hT
  have D1 := Lib.hid D1
  have SC := Lib.hid SC
  have HE1 := Lib.hid hE1
  have HE2 := Lib.hid hE2
  have HE4 := Lib.hid hE4
  have HDG := Lib.hid hdg
  have HX := Lib.hid hX
  have HB := Lib.hid hb
  have H0 := Lib.hid h0
  have jp : (p.size : Int) ≤ 1000 := by omega

  have jA : (A.size : Int) ≤ 1000 := by omega
  have ht := (Only.refl w).alloc (.cells #[.int .i64 0, .string ⟨#[]⟩] 51)
  have o := Own2.new w (.int .i64 0) (.string ⟨#[]⟩) 51
  clear hT hE1 hE2 hE4 hdg hX hb h0
  go_enter Tryz.func24, Tryz.ntmps24
  go_wp2_with fail
  go_at_call 57
  refine (C1.out _).mono ?_
  rintro r w1 ⟨v, rfl, R1, t1⟩
  replace ht := ht.trans t1
  replace o := o.only t1
  obtain ⟨sp1, cap1, rfl, hc1⟩ := R1
  obtain ⟨g1, rfl, hx1⟩ := hc1 (by simp)
  have a0 := hx1 0 A rfl
  have a1 := hx1 1 C rfl
  clear t1 hc1 hx1
  go_upto_region 5 with (fail)
  go_cut [6] (fun q wc => q = .bool neg ∧ w1 = wc)
  case first =>
    as_aux_lemma =>
      rcases hA with ⟨hz, rfl⟩ | ⟨hz, hq⟩
      · have q0 : decide (0 < A.size) = false := decide_eq_false (by omega)
        have q1 : decide ((0 : Int) < (A.size : Int)) = false := decide_eq_false (by omega)
        clear hz
        go_wp2_with fail
        go_meet
        exact ⟨rfl, rfl⟩
      · have q0 : decide (0 < A.size) = true := decide_eq_true hz
        have q1 : decide ((0 : Int) < (A.size : Int)) = true := decide_eq_true (by omega)
        have q2 : (0 : Int) < (A.size : Int) := by omega
        go_wp2_with fail
        go_meet
        exact ⟨rfl, rfl⟩
  case rest =>
   as_aux_lemma =>
    obtain ⟨rfl, rfl⟩ := hcut
    have HA1 : Hid (neg = true → 1 ≤ A.size) := Lib.hid (fun e => by rcases hA with ⟨-, h⟩ | ⟨h, -⟩; rw [h] at e; cases e; omega)
    clear hA
    go_upto_if 32 with (fail)
    go_cut [5] (fun d wc => d = .string T ∧ w1 = wc)
    case first =>
      as_aux_lemma =>
        cases neg
        · go_wp2_with fail
          go_meet
          exact ⟨by rw [← HT.out]; rfl, rfl⟩
        · have q3 : (1 : Int) ≤ (A.size : Int) := by have := HA1.out rfl; omega
          go_wp2_with fail
          go_meet
          exact ⟨by rw [← HT.out]; rfl, rfl⟩
    case rest =>
     as_aux_lemma =>
      obtain ⟨rfl, rfl⟩ := hcut
      go_wp2_with fail
      go_at_call 57
      refine (C2.out _).mono ?_
      rintro r w2 ⟨v, rfl, R2, t2⟩
      replace ht := ht.trans t2
      replace o := o.only t2
      replace a0 := t2.cellM a0
      replace a1 := t2.cellM a1
      clear t2
      obtain ⟨sp2, cap2, rfl, hc2⟩ := R2
      obtain ⟨g2, rfl, hx2⟩ := hc2 (by simp)
      have b0 := hx2 0 p rfl
      clear hc2 hx2
      go_upto_region 9 with (fail)
      go_cut [72] (fun xv wc => xv = .bool X ∧ w2 = wc)
      case first =>
        as_aux_lemma =>
          have hX := HX.out
          cases z
          · obtain rfl : X = true := by rw [← hX]; rfl
            clear hX
            go_wp2_with (go_at_call 58; refine (D1.out _).mono ?_; rintro r wd ⟨rfl, rfl⟩)
            go_meet
            exact ⟨rfl, rfl⟩
          · have hp0 := H0.out rfl
            have jp0 : (0 : Int) < (p.size : Int) := by omega
            rcases HB.out with ⟨rfl, h1⟩ | ⟨h1, hq⟩
            · have q0 : decide (1 < p.size) = false := decide_eq_false (by omega)
              have q1 : decide ((1 : Int) < (p.size : Int)) = false := decide_eq_false (by omega)
              clear h1
              simp only [Bool.not_true, Bool.not_false, Bool.false_or, Bool.or_false, Bool.or_true, Bool.true_or] at hX
              subst hX
              go_wp2_with (first | (go_at_call 58; (first | ((with_reducible refine (D1.out _).mono ?_); rintro r wd ⟨rfl, rfl⟩))))
              go_meet
              exact ⟨rfl, rfl⟩
            · have q0 : decide (1 < p.size) = true := decide_eq_true h1
              have q1 : decide ((1 : Int) < (p.size : Int)) = true := decide_eq_true (by omega)
              cases b
              all_goals
                simp only [Bool.not_true, Bool.not_false, Bool.false_or, Bool.or_false, Bool.or_true, Bool.true_or] at hX
                subst hX
                go_wp2_with (first | (go_at_call 58; (first | ((with_reducible refine (D1.out _).mono ?_); rintro r wd ⟨rfl, rfl⟩))))
                go_meet
                exact ⟨rfl, rfl⟩
      case rest =>
       as_aux_lemma =>
        obtain ⟨rfl, rfl⟩ := hcut
        cases X
        · obtain ⟨hpd, hp0⟩ := HDG.out rfl
          have HPD := Lib.hid hpd
          have HP0 := Lib.hid hp0
          clear hpd hp0
          go_wp2_with fail
          go_at_call 18
          refine (SC.out _).mono ?_
          rintro r w3 ⟨rfl, t3⟩
          replace ht := ht.trans t3
          replace o := o.only t3
          replace a0 := t3.cellM a0
          replace a1 := t3.cellM a1
          replace b0 := t3.cellM b0
          clear t3
          by_cases hk : k < 0
          · obtain ⟨rfl, rfl, rfl⟩ := HE2.out (by simp) hk
            obtain ⟨d1, d2, f1, f2, z1⟩ := o.all
            have q0 : decide (k < 0) = true := decide_eq_true hk
            clear hk
            go_wp2_with fail
            simp [bodyPost, results, Tryz.results24, go_sem, World.cell?_setCell_other, d1, d2]
            exact (ht.set (by omega) 0 _).set (by omega) 1 _
          · obtain ⟨K, rfl⟩ : ∃ K : Nat, k = (K : Int) := ⟨k.toNat, by omega⟩
            have jK : (K : Int) ≤ 3 := hk3
            clear hk
            have hFK : (⟨#[]⟩ : ByteArray).size ≤ K := Nat.zero_le _
            have HFK := Lib.hid hFK
            have hEnd := HE4.out (by simp) (by omega) (by simpa using hFK)
            rw [show (K : Int).toNat = K from rfl] at hEnd
            have HEND := Lib.hid hEnd
            clear hEnd hFK
            go_wp2_with fail
            go_loop [9] (fun tv => ∃ (j : Nat) (D : ByteArray), tv = .string D ∧ D.data.toList = (⟨#[]⟩ : ByteArray).data.toList ++ List.replicate j 48 ∧ j ≤ K - (⟨#[]⟩ : ByteArray).size) (fun tv => match tv with | .string D => K - D.size | _ => 0)
            case atStart => exact ⟨0, _, rfl, by simp, Nat.zero_le _⟩
            case round =>
              obtain ⟨j, D, rfl, hD, hj⟩ := hrel
              have hDs : D.size = (⟨#[]⟩ : ByteArray).size + j := by rw [Lib.size_eq, hD, List.length_append, List.length_replicate, Lib.size_eq]
              have hFs := HFK.out
              have iD : (D.size : Int) ≤ 3 := by omega
              have HD := Lib.hid hD
              clear hD
              by_cases hlt : D.size < K
              · have r0 : decide (D.size < K) = true := decide_eq_true hlt
                have r1 : decide ((D.size : Int) < (K : Int)) = true := decide_eq_true (by omega)
                have hn : j + 1 ≤ K - (⟨#[]⟩ : ByteArray).size := by omega
                have hD2 : (D ++ (⟨#[48]⟩ : ByteArray)).data.toList = (⟨#[]⟩ : ByteArray).data.toList ++ List.replicate (j + 1) 48 := by
                  rw [ByteArray.data_append]
                  simp only [Array.toList_append, HD.out]
                  rw [List.append_assoc, List.replicate_succ']
                have hS2 : (D ++ (⟨#[48]⟩ : ByteArray)).size = D.size + 1 := by rw [ByteArray.size_append]; rfl
                have HD2 := Lib.hid hD2
                have HS2 := Lib.hid hS2
                have HLT := Lib.hid hlt
                clear hD2 hS2 hDs hFs hlt
                go_wp2_with fail
                go_round
                case rel => exact ⟨j + 1, _, rfl, HD2.out, hn⟩
                case measure => have := HS2.out; have := HLT.out; simp only []; omega
              · have r0 : decide (D.size < K) = false := decide_eq_false hlt
                have r1 : decide ((D.size : Int) < (K : Int)) = false := decide_eq_false (by omega)
                have hjj : j = K - (⟨#[]⟩ : ByteArray).size := by omega
                have HJ := Lib.hid hjj
                obtain ⟨N, hN⟩ : ∃ N, N = numOf (p.data.toList ++ (⟨#[]⟩ : ByteArray).data.toList ++ List.replicate (K - (⟨#[]⟩ : ByteArray).size) 48) := ⟨_, rfl⟩
                have hEnd := HEND.out
                rw [← hN] at hEnd
                have HEND2 := Lib.hid hEnd
                have hl0 : (p ++ D).data.toList = p.data.toList ++ (⟨#[]⟩ : ByteArray).data.toList ++ List.replicate (K - (⟨#[]⟩ : ByteArray).size) 48 := by
                  rw [ByteArray.data_append]
                  simp only [Array.toList_append, HD.out, HJ.out, List.append_assoc]
                have hg0 : digsB (p ++ D).data.toList = true := by rw [hl0]; exact digsB_append (digsB_append HPD.out rfl) (digsB_noughts _)
                have hg1 : numOf (p ++ D).data.toList = N := by rw [hl0, hN]
                have hg2 : (p ++ D).size = p.size + D.size := ByteArray.size_append
                have hg3 : 0 < (p ++ D).size := by have := HP0.out; omega
                have hg4 : (p ++ D).size ≤ 2000 := by omega
                have HG0 := Lib.hid hg0
                have HG1 := Lib.hid hg1
                have HG3 := Lib.hid hg3
                have HG4 := Lib.hid hg4
                clear hg0 hg1 hg2 hg3 hg4 hl0 hEnd hN hjj hDs hFs hlt
                go_wp2_with fail
                go_loop [10] (fun av => ∃ G : ByteArray, av = .string G ∧ digsB G.data.toList = true ∧ numOf G.data.toList = N ∧ 0 < G.size ∧ G.size ≤ 2000) (fun av => match av with | .string G => G.size | _ => 0)
                case atStart => exact ⟨_, rfl, HG0.out, HG1.out, HG3.out, HG4.out⟩
                case round =>
                  clear r0 r1
                  obtain ⟨G, rfl, hg0, hg1, hg3, hg4⟩ := hrel
                  have hGl : G.data.toList.length = G.size := (Lib.size_eq G).symm
                  have e0 : G[0]'hg3 = G.data.toList[0]'(by omega) := rfl
                  have jG : (G.size : Int) ≤ 2000 := by omega
                  have jG0 : (0 : Int) < (G.size : Int) := by omega
                  have jG1 : (1 : Int) ≤ (G.size : Int) := by omega
                  by_cases hgo : 1 < G.size ∧ G[0]'hg3 = 48
                  · obtain ⟨h1, h48⟩ := hgo
                    have u0 : decide (1 < G.size) = true := decide_eq_true h1
                    have u1 : decide ((1 : Int) < (G.size : Int)) = true := decide_eq_true (by omega)
                    have u2 : ((G[0]'hg3).toNat : Int) = 48 := by rw [h48]; rfl
                    have u3 : (((G[0]'hg3).toNat : Int) == 48) = true := by simpa using u2
                    have hx : (G.extract 1 G.size).data.toList = G.data.toList.tail := list_tail_ext hGl
                    have hxs : (G.extract 1 G.size).size = G.size - 1 := by rw [Lib.size_eq, hx, List.length_tail, hGl]
                    have hcons : G.data.toList = 48 :: G.data.toList.tail := by
                      cases hc : G.data.toList with
                      | nil => rw [hc] at hGl; simp at hGl; omega
                      | cons x r =>
                        have : x = 48 := by rw [← h48, e0]; simp [hc]
                        rw [this]; rfl
                    have hd2 : digsB (G.extract 1 G.size).data.toList = true := by
                      rw [hx]; unfold digsB at hg0 ⊢; rw [List.all_eq_true] at hg0 ⊢; exact fun c hc => hg0 c (List.mem_of_mem_tail hc)
                    have hn2 : numOf (G.extract 1 G.size).data.toList = N := by
                      rw [hx, ← hg1]; conv => rhs; rw [hcons]
                      rw [numOf_cons]; simp
                    have X1 := Lib.hid hd2
                    have X2 := Lib.hid hn2
                    have X3 := Lib.hid hxs
                    have X4 := Lib.hid h1
                    clear hd2 hn2 hxs hx hcons u2 hg0 hg1 hGl e0
                    go_wp2_with fail
                    go_round
                    case rel => exact ⟨_, rfl, X1.out, X2.out, by have := X3.out; have := X4.out; omega, by have := X3.out; omega⟩
                    case measure => have := X3.out; have := X4.out; simp only []; omega
                  · have hcase : (decide (1 < G.size) = false ∧ decide ((1 : Int) < (G.size : Int)) = false) ∨ (decide (1 < G.size) = true ∧ decide ((1 : Int) < (G.size : Int)) = true ∧ (((G[0]'hg3).toNat : Int) == 48) = false) := by
                      by_cases h1 : 1 < G.size
                      · right
                        refine ⟨decide_eq_true h1, decide_eq_true (by omega), ?_⟩
                        rw [beq_eq_false_iff_ne]
                        intro e
                        exact hgo ⟨h1, UInt8.toNat_inj.1 (by have : (48 : UInt8).toNat = 48 := rfl; omega)⟩
                      · left; exact ⟨decide_eq_false h1, decide_eq_false (by omega)⟩
                    have hbody : bodyB G.data.toList = true := by
                      unfold bodyB
                      rw [hg0]
                      cases hc : G.data.toList with
                      | nil => rw [hc] at hGl; simp at hGl; omega
                      | cons x r =>
                        simp only [List.isEmpty_cons, Bool.not_false, Bool.and_self, Bool.true_and, Bool.or_eq_true, decide_eq_true_eq, Bool.not_eq_true', beq_eq_false_iff_ne, List.headD_cons]
                        by_cases h1 : 1 < G.size
                        · right
                          intro e
                          exact hgo ⟨h1, by rw [e0]; simp [hc, e]⟩
                        · left; rw [hc] at hGl; omega
                    have BP := bigParse_any G hbody (by omega)
                    rw [hg1] at BP
                    have hlim := lim_digitsK 5000 hg0 (by omega)
                    rw [hg1] at hlim
                    have BP := Lib.hid BP
                    have LM := Lib.hid hlim
                    clear hbody hgo hg0 hg1 hGl e0 hlim
                    rcases hcase with ⟨u0, u1⟩ | ⟨u0, u1, u2⟩
                    all_goals
                      go_wp2_with fail
                      go_at_call 59
                      refine (BP.out _).mono ?_
                      rintro r w4 ⟨b4, s4, k4, c4, rfl, r4, t4⟩
                      replace ht := (ht.trans t4).alloc (boxOf b4 s4 k4 c4)
                      replace o := (o.only t4).alloc (boxOf b4 s4 k4 c4)
                      replace a1 := ((Only.refl w4).alloc (boxOf b4 s4 k4 c4)).cellM (t4.cellM a1)
                      replace r4 := r4.only ((Only.refl w4).alloc (boxOf b4 s4 k4 c4))
                      clear t4 a0 b0
                      go_wp2_with fail
                      go_at_call 60
                      refine (units_any r4 LM.out).mono ?_
                      rintro r w5 ⟨rfl, t5⟩
                      replace ht := ht.trans t5
                      replace a1 := t5.cellM a1
                      obtain ⟨d1, d2, f1, f2, z1⟩ := (o.only t5).all
                      clear t5 r4 o
                      have hEnd := HEND2.out
                      unfold EndOut at hEnd
                      by_cases hbig : 4611686018427387904 < N
                      · rw [if_pos hbig] at hEnd
                        obtain ⟨rfl, rfl, rfl⟩ := hEnd
                        have v0 : decide (Bd (N : Int)) = false := bd_not hbig
                        rw [v0]
                        clear hbig
                        go_wp2_with fail
                        simp [bodyPost, results, Tryz.results24, go_sem, World.cell?_setCell_other, d1, d2]
                        exact (ht.set (by omega) 0 _).set (by omega) 1 _
                      · rw [if_neg hbig] at hEnd
                        have v0 : decide (Bd (N : Int)) = true := bd_nat hbig
                        have v1 : uI (N : Int) = (N : Int) := uI_nat hbig
                        rw [v0, v1]
                        obtain ⟨jN, jN0⟩ := jN_of hbig
                        clear hbig v0 v1
                        cases neg
                        · rw [if_neg (by simp)] at hEnd
                          obtain ⟨rfl, rfl, rfl⟩ := hEnd
                          go_wp2_with fail
                          simp [bodyPost, results, Tryz.results24, go_sem, World.cell?_setCell_other, d1, d2]
                          exact (ht.set (by omega) 0 _).set (by omega) 1 _
                        · by_cases hz : N = 0
                          · rw [if_pos ⟨rfl, hz⟩] at hEnd
                            obtain ⟨rfl, rfl, rfl⟩ := hEnd
                            have y0 : ((N : Int) == 0) = true := by simpa using hz
                            have y1 : (N == 0) = true := by simpa using hz
                            clear hz
                            go_wp2_with fail
                            simp [bodyPost, results, Tryz.results24, go_sem, World.cell?_setCell_other, d1, d2]
                            exact (ht.set (by omega) 0 _).set (by omega) 1 _
                          · rw [if_neg (fun h => hz h.2)] at hEnd
                            obtain ⟨rfl, rfl, rfl⟩ := hEnd
                            have y0 : ((N : Int) == 0) = false := by simpa using hz
                            have y1 : (N == 0) = false := by simpa using hz
                            clear hz
                            go_wp2_with fail
                            simp [bodyPost, results, Tryz.results24, go_sem, World.cell?_setCell_other, d1, d2]
                            exact (ht.set (by omega) 0 _).set (by omega) 1 _
        · obtain ⟨rfl, rfl, rfl⟩ := HE1.out rfl
          obtain ⟨d1, d2, f1, f2, z1⟩ := o.all
          go_wp2_with fail
          simp [bodyPost, results, Tryz.results24, go_sem, World.cell?_setCell_other, d1, d2]
          exact (ht.set (by omega) 0 _).set (by omega) 1 _
end Go.Proofs.YtfjemldilnaggaaGreatDoor
