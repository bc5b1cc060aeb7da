/-
  A number of digits, with its sign (exref.BigParse).
-/
import Derived.Test.YtagilpgplcphpaaBForm
import Derived.Test.YtagilpgplcphpaaBOf
import Derived.Test.YtagilpgplcphpaaNFirst
namespace Go.Proofs.Ytagilpgplcphpaa
open Go.RowKit Go.Maps Go.WideMaps Go.Shelf
set_option linter.unusedVariables false

/-- the digits behind the place m are in l, four by four -/
structure Groups (S : List UInt8) (m : Nat) (l : List Nat) : Prop where
  dg : Dg l
  le : m ≤ S.length
  val : bval l = numOf (S.drop m)
  four : m = 0 ∨ S.length = m + 4 * l.length
  len : 4 * l.length ≤ S.length + 3

theorem numOf_four {t : List UInt8} (h : digsB t = true) (hl : t.length ≤ 4) : numOf t < 10000 := by
  have h1 := numOf_lt h
  have h2 : 10 ^ t.length ≤ 10 ^ 4 := Nat.pow_le_pow_right (by decide) hl
  omega
theorem digs_part {S : List UInt8} (h : digsB S = true) (a b : Nat) : digsB ((S.take a).drop b) = true := by
  unfold digsB at *; rw [List.all_eq_true] at *; exact fun c hc => h c (List.mem_of_mem_take (List.mem_of_mem_drop hc))

theorem Groups.start (S : List UInt8) : Groups S S.length [] := ⟨Dg.nil, Nat.le_refl _, by simp [bval, numOf], Or.inr (by simp), by simp⟩
theorem Groups.next {S : List UInt8} {m : Nat} {l : List Nat} (h : Groups S m l) (hS : digsB S = true) (hm : 0 < m) : Groups S (m - 4) (l ++ [numOf ((S.take m).drop (m - 4))]) := by
  have hf : S.length = m + 4 * l.length := by rcases h.four with e | e <;> omega
  have hx := numOf_four (digs_part hS m (m - 4)) (by rw [List.length_drop, List.length_take]; omega)
  refine ⟨h.dg.append (Dg.cons hx Dg.nil), by omega, ?_, ?_, ?_⟩
  · rw [bval_snoc, h.val]
    have e : S.drop (m - 4) = (S.take m).drop (m - 4) ++ S.drop m := by
      conv => lhs; rw [← List.take_append_drop m S]
      rw [List.drop_append_of_le_length (by rw [List.length_take]; omega)]
    rw [e, numOf_append, List.length_drop, show S.length - m = 4 * l.length by omega, ← pow4, Nat.mul_comm (10000 ^ l.length), Nat.add_comm]
  · rw [List.length_append, List.length_singleton]
    by_cases c : m < 4
    · left; omega
    · right; omega
  · rw [List.length_append, List.length_singleton]; omega

theorem at_next {D : ByteArray} {k from_ : Nat} (hk : k < D.size) (hf : from_ ≤ k) : ((D.data.toList.take (k + 1)).drop from_) = (D.data.toList.take k).drop from_ ++ [D[k]'hk] := by
  have e : D.data.toList.take (k + 1) = D.data.toList.take k ++ [D[k]'hk] := by
    rw [List.take_succ_eq_append_getElem (by simpa using hk)]; rfl
  rw [e, List.drop_append_of_le_length (by rw [List.length_take]; have : D.data.toList.length = D.size := (Lib.size_eq D).symm; omega)]
theorem drop_next {D : ByteArray} {k : Nat} (hk : k < D.size) : D.data.toList.drop k = (D[k]'hk) :: D.data.toList.drop (k + 1) := by
  rw [List.drop_eq_getElem_cons (by simpa using hk)]; rfl

def ParseSays (n : Int) (w : World) (e : Ending) (w' : World) : Prop := ∃ b sp k cap, e = .returned (.tuple #[.agg #[.bool b, .slice sp k cap], .bool true]) ∧ BigR w' b sp k cap n ∧ Only w w'

theorem body_head {s : List UInt8} (h : bodyB s = true) : 0 < s.length ∧ digsB s = true ∧ formB s = true := by
  have h0 := h
  unfold bodyB at h
  simp only [Bool.and_eq_true, Bool.not_eq_true'] at h
  have hd := h.1.1
  have hne := h.1.2
  cases s with
  | nil => simp at hne
  | cons x r =>
    refine ⟨by simp, hd, ?_⟩
    unfold formB
    rw [if_neg]
    · exact h0
    · rintro ⟨-, e⟩
      have := digsB_at hd (c := x) (by simp)
      simp at e
      subst e
      simp at this

theorem sgn_pos (n : Nat) : sgn false n = n := rfl

set_option maxRecDepth 100000 in
set_option maxHeartbeats 6400000 in
theorem bigParse_any (s : ByteArray) (hf : bodyB s.data.toList = true) (hl : s.size ≤ 10000) (w : World) : Calls Try.prog 35 #[.string s] w (ParseSays (numOf s.data.toList) w) := by
  obtain ⟨h0, hdg, hform⟩ := body_head hf
  have hlen : s.data.toList.length = s.size := (Lib.size_eq s).symm
  have NF := form_any s (by omega)
  rw [hform] at NF
  have NF := Lib.hid NF
  have i0 : (0 : Int) < (s.size : Int) := by omega
  have i1 : (s.size : Int) ≤ 10000 := by omega
  have hs0 : 0 < s.size := by omega
  have q0 : (((s[0]'hs0).toNat : Int) == 45) = false := by
    have hm : (s[0]'hs0) ∈ s.data.toList := by
      have : s.data.toList[0]'(by omega) = s[0]'hs0 := rfl
      rw [← this]; exact List.getElem_mem _
    have := digsB_at hdg hm
    simp; omega
  have HDG := Lib.hid hdg
  have HL := Lib.hid hlen
  obtain ⟨t0, o0⟩ := box0_new w
  have O0 := Lib.hid o0
  have T0 := Lib.hid t0
  clear o0 t0 hform hf hdg h0
  go_enter Try.func35, Try.ntmps35
  go_wp2_with fail
  go_at_call 59
  refine (NF.out _).mono ?_
  rintro r w1 ⟨rfl, rfl⟩
  go_wp2_with fail
  go_loopw [0, 6] (fun sv d wr => ∃ (D : ByteArray) (m : Nat) (l : List Nat), sv = .string D ∧ D.data.toList = s.data.toList.take m ∧ D.size = m ∧ NatsO wr (w.heap.size + 1) d l ∧ Groups s.data.toList m l ∧ BigAt wr w.heap.size false none 0 0 ∧ Only w wr) (fun sv _ _ => match sv with | .string D => D.size | _ => 0)
  case atStart => exact ⟨s, s.data.toList.length, [], rfl, by rw [List.take_of_length_le (Nat.le_refl _)], HL.out.symm, NatsO.nil _ _, Groups.start _, O0.out, T0.out⟩
  case round =>
    obtain ⟨D, m, l, rfl, hD, hDs, hd, hg, ho, ht⟩ := hrel
    obtain ⟨sp, cap, rfl⟩ := hd.form
    have HD := Lib.hid hd
    have HG := Lib.hid hg
    have HO := Lib.hid ho
    have HT := Lib.hid ht
    have HDD := Lib.hid hD
    have HM := Lib.hid hDs
    have im : (D.size : Int) ≤ 10000 := by have := hg.le; omega
    clear hd hg ho ht hD hDs
    by_cases hz : D.size = 0
    · have tz : decide (0 < D.size) = false := decide_eq_false (by omega)
      have tz2 : decide ((0 : Int) < (D.size : Int)) = false := decide_eq_false (by omega)
      have hv := HG.out.val
      rw [← HM.out, hz] at hv
      have HV := Lib.hid (show bval l = numOf s.data.toList by simpa using hv)
      clear hz hv
      go_wp2_with fail
      go_at_call 49
      refine (trim_any HD.out.toR HG.out.dg (by have := HG.out.len; have := HL.out; omega)).mono ?_
      rintro r w4 ⟨b6, s6, k6, c6, rfl, hb6, t4⟩
      have p3 := HO.out.only t4
      have p5 := HT.out.trans t4
      obtain ⟨g1, g2, g3, g4, g5⟩ := p3.all
      rw [sgn_pos, HV.out] at hb6
      have HB := Lib.hid (hb6.apart p3 b6 s6 k6 c6)
      have HT := Lib.hid ((p5.set (p := w.heap.size) (by omega) 0 (.bool b6)).set (p := w.heap.size) (by omega) 1 (.slice s6 k6 c6))
      clear p3 p5 hb6 t4
      go_wp2
      simp [bodyPost, results, Try.results35, go_sem, World.cell?_setCell_other, g1, g2]
      exact ⟨b6, s6, k6, c6, rfl, HB.out, HT.out⟩
    · have tz : decide (0 < D.size) = true := decide_eq_true (by omega)
      have tz2 : decide ((0 : Int) < (D.size : Int)) = true := decide_eq_true (by omega)
      obtain ⟨F, hF⟩ : ∃ F : Nat, F = D.size - 4 := ⟨_, rfl⟩
      have hmx : max ((D.size : Int) - 4) 0 = (F : Int) := by omega
      have iF : (F : Int) ≤ (D.size : Int) := by omega
      have iF2 : F < D.size := by omega
      have HF := Lib.hid hF
      clear hz hF
      go_wp2_with fail
      clear hmx
      go_loop [8, 9] (fun x i => ∃ (j X : Nat), F ≤ j ∧ j ≤ D.size ∧ i = .int .i64 (j : Int) ∧ x = .int .i64 (X : Int) ∧ X = numOf ((s.data.toList.take j).drop F)) (fun _ i => D.size - (intOf i).toNat)
      case atStart => exact ⟨F, 0, Nat.le_refl _, by omega, rfl, rfl, by rw [List.drop_eq_nil_of_le (by rw [List.length_take]; omega)]; rfl⟩
      case round =>
        obtain ⟨j, X, hj1, hj2, rfl, rfl, hX⟩ := hrel
        have HX := Lib.hid hX
        have hXb : X < 10000 := by
          rw [hX]
          exact numOf_four (digs_part HDG.out j F) (by rw [List.length_drop, List.length_take]; have := HF.out; omega)
        clear hX
        by_cases hlt : j < D.size
        · have il2 : (j : Int) < (D.size : Int) := by omega
          have ij0 : (0 : Int) ≤ (j : Int) := by omega
          have hjs : j < s.size := by have := HG.out.le; have := HM.out; have := HL.out; omega
          have hDs : (D[j]'hlt) = s[j]'hjs := by
            have e1 : (D[j]'hlt) = D.data.toList[j]'(by have := Lib.size_eq D; omega) := rfl
            have e2 : (s[j]'hjs) = s.data.toList[j]'(by have := Lib.size_eq s; omega) := rfl
            rw [e1, e2]
            simp only [HDD.out, List.getElem_take]
          obtain ⟨c, hc⟩ : ∃ c : Nat, c = (D[j]'hlt).toNat := ⟨_, rfl⟩
          have hc2 : (D[j]'hlt).toNat = c := hc.symm
          have hcb := digsB_at HDG.out (c := s[j]'hjs) (by
            have e2 : (s[j]'hjs) = s.data.toList[j]'(by have := Lib.size_eq s; omega) := rfl
            rw [e2]; exact List.getElem_mem _)
          rw [← hDs, hc2] at hcb
          have hnext : 10 * X + (c - 48) = numOf ((s.data.toList.take (j + 1)).drop F) := by
            rw [at_next hjs hj1, numOf_snoc, ← HX.out, ← hDs, hc2]
          have HNX := Lib.hid hnext
          have c1 : (48 : Int) ≤ (c : Int) := by omega
          have c2 : (c : Int) ≤ 57 := by omega
          have x1 : (X : Int) < 10000 := by omega
          clear hnext hcb hc hDs
          go_wp2_with fail
          go_round
          case rel => exact ⟨j + 1, 10 * X + (c - 48), by omega, by omega, by go_num, congrArg (Value.int .i64) (by omega), HNX.out⟩
          case measure => simp [intOf]; omega
        · have hjm : j = D.size := by omega
          have hne : 0 < m := by have := HM.out; omega
          have hgn := HG.out.next HDG.out hne
          have eX : numOf ((s.data.toList.take m).drop (m - 4)) = X := by rw [HX.out, hjm, HM.out, HF.out, HM.out]
          rw [eX] at hgn
          have HGN := Lib.hid hgn
          have hnewD : (D.extract 0 F).data.toList = s.data.toList.take (m - 4) := by
            rw [Lib.extract_data, HDD.out, HF.out, HM.out]
            simp [List.take_take]
          have hnewS : (D.extract 0 F).size = m - 4 := by
            rw [Lib.size_eq, hnewD, List.length_take]
            have := HG.out.le; omega
          have HND := Lib.hid hnewD
          have HNS := Lib.hid hnewS
          have HMM := Lib.hid (one_int wr (e := (X : Int)) (n := X) rfl)
          have HO1 := Lib.hid (HD.out.only ((Only.refl wr).alloc (.cells #[.int .i64 (X : Int)] 3)))
          have t9 : decide (j < D.size) = false := decide_eq_false hlt
          have t9' : decide ((j : Int) < (D.size : Int)) = false := decide_eq_false (by omega)
          clear hgn eX hnewD hnewS hjm
          go_wp2_with (at_builtin; refine append_nats2 rfl (.tmp 43) (.tmp 45) rfl (base := w.heap.size + 1) rfl rfl HO1.out HMM.out rfl (List.length_append ..) (by have := HG.out.len; have := HL.out; simp; omega) (by have := HO.out.lt; simp; omega) ?_)
          intro sp4 cap4 w4 hown hb4 hs4
          have HW := Lib.hid hown
          have T4 := Lib.hid ((HT.out.alloc _).below hb4 (by omega))
          have O4 := Lib.hid ((HO.out.alloc _).below hb4 (by omega))
          clear hown hb4 hs4
          go_wp2
          go_roundw
          case rel => exact ⟨D.extract 0 F, m - 4, l ++ [X], rfl, HND.out, HNS.out, HW.out, HGN.out, O4.out, T4.out⟩
          case measure => have := HNS.out; have := HM.out; simp; omega
set_option maxRecDepth 100000 in
set_option maxHeartbeats 6400000 in
theorem bigParse_minus (o s : ByteArray) (hx : o.extract 1 o.size = s) (ho1 : 1 < o.size) (hz0 : s.size + 1 = o.size) (h45 : ((o[0].toNat : Int) == 45) = true) (hfo : formB o.data.toList = true) (hf : bodyB s.data.toList = true) (hl : s.size ≤ 9000) (w : World) : Calls Try.prog 35 #[.string o] w (ParseSays (-(numOf s.data.toList : Int)) w) := by
  obtain ⟨h0, hdg, hform⟩ := body_head hf
  have hlen : s.data.toList.length = s.size := (Lib.size_eq s).symm
  have NF := form_any o (by omega)
  rw [hfo] at NF
  have NF := Lib.hid NF
  have i0 : (0 : Int) < (s.size : Int) := by omega
  have i1 : (s.size : Int) ≤ 10000 := by omega
  have hs0 : 0 < s.size := by omega
  have j0 : (0 : Int) < (o.size : Int) := by omega
  have j1 : (1 : Int) < (o.size : Int) := by omega
  have j2 : (o.size : Int) ≤ 10000 := by omega
  have j3 : 0 < o.size := by omega
  have HDG := Lib.hid hdg
  have HL := Lib.hid hlen
  obtain ⟨t0, o0⟩ := box0_new w
  have O0 := Lib.hid o0
  have T0 := Lib.hid t0
  clear o0 t0 hform hfo hf hdg h0
  go_enter Try.func35, Try.ntmps35
  go_wp2_with fail
  go_at_call 59
  refine (NF.out _).mono ?_
  rintro r w1 ⟨rfl, rfl⟩
  go_wp2_with fail
  go_loopw [0, 6] (fun sv d wr => ∃ (D : ByteArray) (m : Nat) (l : List Nat), sv = .string D ∧ D.data.toList = s.data.toList.take m ∧ D.size = m ∧ NatsO wr (w.heap.size + 1) d l ∧ Groups s.data.toList m l ∧ BigAt wr w.heap.size false none 0 0 ∧ Only w wr) (fun sv _ _ => match sv with | .string D => D.size | _ => 0)
  case atStart => exact ⟨s, s.data.toList.length, [], rfl, by rw [List.take_of_length_le (Nat.le_refl _)], HL.out.symm, NatsO.nil _ _, Groups.start _, O0.out, T0.out⟩
  case round =>
    obtain ⟨D, m, l, rfl, hD, hDs, hd, hg, ho, ht⟩ := hrel
    obtain ⟨sp, cap, rfl⟩ := hd.form
    have HD := Lib.hid hd
    have HG := Lib.hid hg
    have HO := Lib.hid ho
    have HT := Lib.hid ht
    have HDD := Lib.hid hD
    have HM := Lib.hid hDs
    have im : (D.size : Int) ≤ 10000 := by have := hg.le; omega
    clear hd hg ho ht hD hDs
    by_cases hz : D.size = 0
    · have tz : decide (0 < D.size) = false := decide_eq_false (by omega)
      have tz2 : decide ((0 : Int) < (D.size : Int)) = false := decide_eq_false (by omega)
      have hv := HG.out.val
      rw [← HM.out, hz] at hv
      have HV := Lib.hid (show bval l = numOf s.data.toList by simpa using hv)
      clear hz hv
      go_wp2_with fail
      go_at_call 49
      refine (trim_any HD.out.toR HG.out.dg (by have := HG.out.len; have := HL.out; omega)).mono ?_
      rintro r w4 ⟨b6, s6, k6, c6, rfl, hb6, t4⟩
      have p3 := HO.out.only t4
      have p5 := HT.out.trans t4
      obtain ⟨g1, g2, g3, g4, g5⟩ := p3.all
      rw [show sgn true (bval l) = -(bval l : Int) from rfl, HV.out] at hb6
      have HB := Lib.hid (hb6.apart p3 b6 s6 k6 c6)
      have HT := Lib.hid ((p5.set (p := w.heap.size) (by omega) 0 (.bool b6)).set (p := w.heap.size) (by omega) 1 (.slice s6 k6 c6))
      clear p3 p5 hb6 t4
      go_wp2
      simp [bodyPost, results, Try.results35, go_sem, World.cell?_setCell_other, g1, g2]
      exact ⟨b6, s6, k6, c6, rfl, HB.out, HT.out⟩
    · have tz : decide (0 < D.size) = true := decide_eq_true (by omega)
      have tz2 : decide ((0 : Int) < (D.size : Int)) = true := decide_eq_true (by omega)
      obtain ⟨F, hF⟩ : ∃ F : Nat, F = D.size - 4 := ⟨_, rfl⟩
      have hmx : max ((D.size : Int) - 4) 0 = (F : Int) := by omega
      have iF : (F : Int) ≤ (D.size : Int) := by omega
      have iF2 : F < D.size := by omega
      have HF := Lib.hid hF
      clear hz hF
      go_wp2_with fail
      clear hmx
      go_loop [8, 9] (fun x i => ∃ (j X : Nat), F ≤ j ∧ j ≤ D.size ∧ i = .int .i64 (j : Int) ∧ x = .int .i64 (X : Int) ∧ X = numOf ((s.data.toList.take j).drop F)) (fun _ i => D.size - (intOf i).toNat)
      case atStart => exact ⟨F, 0, Nat.le_refl _, by omega, rfl, rfl, by rw [List.drop_eq_nil_of_le (by rw [List.length_take]; omega)]; rfl⟩
      case round =>
        obtain ⟨j, X, hj1, hj2, rfl, rfl, hX⟩ := hrel
        have HX := Lib.hid hX
        have hXb : X < 10000 := by
          rw [hX]
          exact numOf_four (digs_part HDG.out j F) (by rw [List.length_drop, List.length_take]; have := HF.out; omega)
        clear hX
        by_cases hlt : j < D.size
        · have il2 : (j : Int) < (D.size : Int) := by omega
          have ij0 : (0 : Int) ≤ (j : Int) := by omega
          have hjs : j < s.size := by have := HG.out.le; have := HM.out; have := HL.out; omega
          have hDs : (D[j]'hlt) = s[j]'hjs := by
            have e1 : (D[j]'hlt) = D.data.toList[j]'(by have := Lib.size_eq D; omega) := rfl
            have e2 : (s[j]'hjs) = s.data.toList[j]'(by have := Lib.size_eq s; omega) := rfl
            rw [e1, e2]
            simp only [HDD.out, List.getElem_take]
          obtain ⟨c, hc⟩ : ∃ c : Nat, c = (D[j]'hlt).toNat := ⟨_, rfl⟩
          have hc2 : (D[j]'hlt).toNat = c := hc.symm
          have hcb := digsB_at HDG.out (c := s[j]'hjs) (by
            have e2 : (s[j]'hjs) = s.data.toList[j]'(by have := Lib.size_eq s; omega) := rfl
            rw [e2]; exact List.getElem_mem _)
          rw [← hDs, hc2] at hcb
          have hnext : 10 * X + (c - 48) = numOf ((s.data.toList.take (j + 1)).drop F) := by
            rw [at_next hjs hj1, numOf_snoc, ← HX.out, ← hDs, hc2]
          have HNX := Lib.hid hnext
          have c1 : (48 : Int) ≤ (c : Int) := by omega
          have c2 : (c : Int) ≤ 57 := by omega
          have x1 : (X : Int) < 10000 := by omega
          clear hnext hcb hc hDs
          go_wp2_with fail
          go_round
          case rel => exact ⟨j + 1, 10 * X + (c - 48), by omega, by omega, by go_num, congrArg (Value.int .i64) (by omega), HNX.out⟩
          case measure => simp [intOf]; omega
        · have hjm : j = D.size := by omega
          have hne : 0 < m := by have := HM.out; omega
          have hgn := HG.out.next HDG.out hne
          have eX : numOf ((s.data.toList.take m).drop (m - 4)) = X := by rw [HX.out, hjm, HM.out, HF.out, HM.out]
          rw [eX] at hgn
          have HGN := Lib.hid hgn
          have hnewD : (D.extract 0 F).data.toList = s.data.toList.take (m - 4) := by
            rw [Lib.extract_data, HDD.out, HF.out, HM.out]
            simp [List.take_take]
          have hnewS : (D.extract 0 F).size = m - 4 := by
            rw [Lib.size_eq, hnewD, List.length_take]
            have := HG.out.le; omega
          have HND := Lib.hid hnewD
          have HNS := Lib.hid hnewS
          have HMM := Lib.hid (one_int wr (e := (X : Int)) (n := X) rfl)
          have HO1 := Lib.hid (HD.out.only ((Only.refl wr).alloc (.cells #[.int .i64 (X : Int)] 3)))
          have t9 : decide (j < D.size) = false := decide_eq_false hlt
          have t9' : decide ((j : Int) < (D.size : Int)) = false := decide_eq_false (by omega)
          clear hgn eX hnewD hnewS hjm
          go_wp2_with (at_builtin; refine append_nats2 rfl (.tmp 43) (.tmp 45) rfl (base := w.heap.size + 1) rfl rfl HO1.out HMM.out rfl (List.length_append ..) (by have := HG.out.len; have := HL.out; simp; omega) (by have := HO.out.lt; simp; omega) ?_)
          intro sp4 cap4 w4 hown hb4 hs4
          have HW := Lib.hid hown
          have T4 := Lib.hid ((HT.out.alloc _).below hb4 (by omega))
          have O4 := Lib.hid ((HO.out.alloc _).below hb4 (by omega))
          clear hown hb4 hs4
          go_wp2
          go_roundw
          case rel => exact ⟨D.extract 0 F, m - 4, l ++ [X], rfl, HND.out, HNS.out, HW.out, HGN.out, O4.out, T4.out⟩
          case measure => have := HNS.out; have := HM.out; simp; omega
theorem bigParse_none (s : ByteArray) (hf : formB s.data.toList = false) (hl : s.size ≤ 10000) (w : World) : Calls Try.prog 35 #[.string s] w fun e w' => e = .returned (.tuple #[.agg #[.bool false, .slice none 0 0], .bool false]) ∧ Only w w' := by
  have NF := form_any s (by omega)
  rw [hf] at NF
  obtain ⟨t0, o0⟩ := box0_new w
  have o1 := o0.all
  obtain ⟨g1, g2, g3, g4, g5⟩ := o1
  go_enter Try.func35, Try.ntmps35
  go_wp2_with fail
  go_at_call 59
  refine (NF _).mono ?_
  rintro r w1 ⟨rfl, rfl⟩
  go_wp2
  simp [bodyPost, results, Try.results35, go_sem, g1, g2]
  exact t0
end Go.Proofs.Ytagilpgplcphpaa
