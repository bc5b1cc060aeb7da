/-
  find of a log: which segments a directory has.
-/
import Derived.Test.YtjjajnfkngfpjaaGreatDoorWCutTo
namespace Go.Proofs.YtjjajnfkngfpjaaGreatDoor
open Go.RowKit Go.Maps Go.WideMaps

section
variable {w0 w w' : World} {p lp : Nat} {S S' : Fsp.Fs} {c c' : Bool} {Q : Nat → Prop} {mo : Option Nat} {pl : List UInt8 → Pl} {l l' : Walp.Lg}

/-- a log of these segments -/
def spans (l : Walp.Lg) (ns : List Nat) : Walp.Lg := { l with first := ns.headD l.first, last := ns.getLastD l.last }

theorem spans_nil (l : Walp.Lg) : spans l [] = l := rfl
theorem spans_snoc (l : Walp.Lg) (ns : List Nat) (n : Nat) : spans l (ns ++ [n]) = { spans l ns with first := if ns.length = 0 then n else (spans l ns).first, last := n } := by
  unfold spans
  cases ns with
  | nil => rfl
  | cons a at' =>
    have h1 : (a :: at' ++ [n]).getLastD l.last = n := List.getLastD_concat
    have h2 : (a :: at').length ≠ 0 := by simp
    rw [h1]; simp

theorem nums_take {dir : List UInt8} {ns : List (List UInt8)} {k : Nat} (h : k < ns.length) :
    Walp.numsOf dir (ns.take (k + 1)) = if Walp.numOf dir ns[k] = 0 then Walp.numsOf dir (ns.take k) else Walp.numsOf dir (ns.take k) ++ [Walp.numOf dir ns[k]] := by
  unfold Walp.numsOf
  rw [List.take_succ_eq_append_getElem h, List.map_append, List.filter_append]
  by_cases h0 : Walp.numOf dir ns[k] = 0 <;> simp [h0]

theorem nums_le (dir : List UInt8) (ns : List (List UInt8)) : (Walp.numsOf dir ns).length ≤ ns.length := by
  unfold Walp.numsOf
  exact Nat.le_trans (List.length_filter_le _ _) (by simp)

theorem nums_lt {dir : List UInt8} {ns : List (List UInt8)} {n : Nat} (h : n ∈ Walp.numsOf dir ns) : 0 < n ∧ n < 100000000 := by
  obtain ⟨h1, h2, _⟩ := Walp.mem_numsOf.1 h
  exact ⟨h1, h2⟩

theorem spans_low {l : Walp.Lg} {ns : List Nat} (h : ∀ n, n ∈ ns → n < 100000000) (h1 : l.first < 100000000) (h2 : l.last < 100000000) : (spans l ns).first < 100000000 ∧ (spans l ns).last < 100000000 := by
  unfold spans
  cases ns with
  | nil => exact ⟨h1, h2⟩
  | cons a at' =>
    refine ⟨h a (by simp), ?_⟩
    simp only [List.getLastD_cons]
    cases at' with
    | nil => exact h a (by simp)
    | cons b bs => rw [List.getLastD_cons]; exact h _ (by
        rw [← List.getLastD_cons]
        have : (b :: bs).getLastD a ∈ (b :: bs) := by rw [List.getLastD_eq_getLast?, List.getLast?_eq_some_getLast (by simp)]; exact List.getLast_mem _
        exact List.mem_cons_of_mem _ this)

def namesOf (S : Fsp.Fs) (dir : List UInt8) : List (List UInt8) := Fsp.names S (dir ++ [47])

/-- the number behind the front -/
theorem num_behind {dir x : List UInt8} (h : (dir ++ [47]).isPrefixOf x = true) : Walp.segNum (x.drop (dir.length + 1)) = Walp.numOf dir x := by
  unfold Walp.numOf; rw [if_pos h]

theorem names_front {S : Fsp.Fs} {dir : List UInt8} {x : List UInt8} (h : x ∈ namesOf S dir) : (dir ++ [47]).isPrefixOf x = true := by
  unfold namesOf Fsp.names at h
  exact (List.mem_filter.1 h).2

theorem names_count (S : Fsp.Fs) (dir : List UInt8) : (namesOf S dir).length ≤ S.L.length := by
  unfold namesOf Fsp.names
  exact Nat.le_trans (List.length_filter_le _ _) (by simp)

theorem front_size {dir x : List UInt8} (h : (dir ++ [47]).isPrefixOf x = true) : dir.length + 1 ≤ x.length := by
  have := List.IsPrefix.length_le (List.isPrefixOf_iff_prefix.1 h)
  simpa using this

theorem number_behind {dir x : List UInt8} (h : (dir ++ [47]).isPrefixOf x = true) (W : World) : Calls Tryz.prog 71 #[.string (ByteArray.extract ⟨x.toArray⟩ (dir.length + 1) x.length)] W fun r w' => r = .returned (.int .i64 (Walp.numOf dir x : Nat)) ∧ W = w' := by
  refine (number_any _ W).mono ?_
  rintro r w' ⟨rfl, rfl⟩
  have e : (ByteArray.extract ⟨x.toArray⟩ (dir.length + 1) x.length).data.toList = x.drop (dir.length + 1) := by
    simp only [ByteArray.data_extract, Array.toList_extract, List.extract_eq_take_drop]
    rw [List.take_of_length_le (by simp)]
  rw [e, num_behind h]
  exact ⟨rfl, rfl⟩

/-- what is found: the files, the log, the answer -/
def found (S : Fsp.Fs) (l : Walp.Lg) : Fsp.Fs × Walp.Lg × Nat :=
  if (Walp.numsOf l.dir (namesOf S l.dir)).length = 0 then ((Fsp.create S (Walp.seg l.dir 1)).1, { l with first := 1, last := 1 }, (Fsp.create S (Walp.seg l.dir 1)).2)
  else (S, spans l (Walp.numsOf l.dir (namesOf S l.dir)), if (spans l (Walp.numsOf l.dir (namesOf S l.dir))).last + 1 = (spans l (Walp.numsOf l.dir (namesOf S l.dir))).first + (Walp.numsOf l.dir (namesOf S l.dir)).length then 0 else 14)

set_option maxRecDepth 100000 in
set_option maxHeartbeats 2000000 in
theorem find_seg (hx : LogX w0 w p S Q lp l) (hd : l.dir.length ≤ 1000) (hs : StepsLow S) (hf : l.first < 100000000) (hl : l.last < 100000000) :
    Calls Tryz.prog 49 #[.pointer (some ⟨lp, 0, none⟩)] w fun r w' => r = .returned (.int .i64 ((found S l).2.2 : Nat)) ∧ LogP w0 w p (found S l).1 Q lp (found S l).2.1 w' ∧ ((Walp.numsOf l.dir (namesOf S l.dir)).length ≠ 0 → Turn (fun b => b = lp) w w') := by
  have c0 := hx.log.cells.c0
  have c1 := hx.log.cells.c1
  have hfew : S.L.length ≤ 400 := by
    obtain ⟨mo, pl, hr⟩ := hx.rep
    exact hr.good.2.2.2.1
  obtain ⟨N, hN⟩ : ∃ N, N = namesOf S l.dir := ⟨_, rfl⟩
  have hNl : N.length ≤ 400 := by rw [hN]; exact Nat.le_trans (names_count _ _) hfew
  have hfr : ∀ x, x ∈ N → (l.dir ++ [47]).isPrefixOf x = true := fun x h => names_front (by rw [← hN]; exact h)
  have hnames : Calls Tryz.prog 36 #[.pointer (some ⟨p, 0, none⟩), .string (txt (l.dir ++ [47]))] w fun r w' => (∃ sp cap, r = .returned (.slice sp N.length cap) ∧ (0 < N.length → ∃ ad, sp = some ad ∧ ad.block ≠ lp ∧ ∀ j x, N[j]? = some x → w'.cell? (ad.add j) = some (encStr x))) ∧ Turn (fun _ => False) w w' := by
    obtain ⟨mo, pl, hr⟩ := hx.rep
    refine (names_any hr _).mono ?_
    rintro r w1 ⟨v, rfl, hown, t1⟩
    have e : Fsp.names S (txt (l.dir ++ [47])).data.toList = N := by rw [hN]; rfl
    rw [e] at hown
    obtain ⟨sp, cap, hv, hc⟩ := TextsR.of_own hown
    refine ⟨⟨sp, cap, by rw [hv], fun h0 => ?_⟩, t1⟩
    obtain ⟨ad, e1, e2⟩ := hc h0
    refine ⟨ad, e1, ?_, e2⟩
    have := (own_block hown (r := ad.block) (by rw [hv, e1]; rfl)).1
    have := hx.log.lt
    omega
  have hcat : txt l.dir ++ ⟨#[47]⟩ = txt (l.dir ++ [47]) := by
    apply ByteArray.ext
    apply Array.ext'
    simp [txt]
  have hsz : (txt (l.dir ++ [47])).size = l.dir.length + 1 := by rw [Lib.size_eq, txt_list]; simp
  have hszI : ((txt (l.dir ++ [47])).size : Int) = (l.dir.length : Int) + 1 := by omega
  have hcl : ¬ 9223372036854775807 < l.dir.length + 1 := by omega
  have HS := Lib.hid hs
  have HX := Lib.hid hx
  have HD := Lib.hid hd
  have HN := Lib.hid hN
  have HNL := Lib.hid hNl
  have HFR := Lib.hid hfr
  have HNM := Lib.hid hnames
  have HF := Lib.hid hf
  have HL := Lib.hid hl
  have HZ := Lib.hid hsz
  clear hs hx hd hfew hN hNl hfr hnames hf hl hsz
  go_enter Tryz.func49, Tryz.ntmps49
  go_wp2_with (go_at_call 36; refine HNM.out.mono ?_; rintro r w1 ⟨⟨sp, cap, rfl, hc⟩, t1⟩; have HC := Lib.hid hc; clear hc)
  have HT1 := Lib.hid t1
  clear t1

  go_loopw [4, 20] (fun cv i wr => ∃ k : Nat, k ≤ N.length ∧ i = .int .i64 k ∧ cv = .int .i64 ((Walp.numsOf l.dir (N.take k)).length : Nat) ∧ LogP w0 w p S Q lp (spans l (Walp.numsOf l.dir (N.take k))) wr ∧ Turn (fun b => b = lp) w1 wr) (fun _ i _ => N.length - (intOf i).toNat)
  case atStart => exact ⟨0, Nat.zero_le _, rfl, rfl, HX.out.same.later HT1.out, Turn.refl _ _⟩
  case round =>
    obtain ⟨k, hk, rfl, rfl, hP, ht⟩ := hrel
    have hcn : (Walp.numsOf l.dir (N.take k)).length ≤ 400 := by
      have := nums_le l.dir (N.take k)
      have := HNL.out
      rw [List.length_take] at *; omega
    have q0 := hP.1.log.cells.c0
    have q1 := hP.1.log.cells.c1
    have q3 := hP.1.log.cells.c3
    have q4 := hP.1.log.cells.c4
    have f3 := hP.1.log.cells.fr 3
    have f4 := hP.1.log.cells.fr 4
    have HP := Lib.hid hP
    by_cases hlt : k < N.length
    · obtain ⟨ad, e1, hb, hx⟩ := HC.out (by omega)
      subst e1
      have hcx := hx k N[k] (List.getElem?_eq_getElem hlt)
      have hcell : wr.cell? (ad.add k) = some (encStr N[k]) := by
        refine (World.cell?_of_block (ht.block _ (World.block_lt_of_cell? w1 _ hcx) (by rw [add_block]; exact hb))).trans hcx
      have hpre := HFR.out _ (List.getElem_mem hlt)
      have hfs := front_size hpre
      have hnx := nums_take (dir := l.dir) hlt
      have hnum := number_behind hpre
      have HNUM := Lib.hid hnum
      have HNX := Lib.hid hnx
      have HTT := Lib.hid ht
      have HBL := Lib.hid hb
      have hyl : Walp.numOf l.dir N[k] < 100000000 := by
        by_cases h0 : Walp.numOf l.dir N[k] = 0
        · omega
        · exact (Walp.numOf_pos h0).2
      generalize N[k] = x at *
      obtain ⟨y, hy⟩ : ∃ y, y = Walp.numOf l.dir x := ⟨_, rfl⟩
      rw [← hy] at HNUM HNX hyl
      have i0 : (0 : Int) ≤ (k : Int) := by omega
      have i1 : (k : Int) < (N.length : Int) := by omega
      unfold encStr at hcell
      clear hx hcx hpre hnx hnum hP ht hb hy
      by_cases hy0 : y = 0
      · have HNXZ := Lib.hid (HNX.out.trans (if_pos hy0))
        subst hy0
        have hnl := HNL.out
        go_wp2_with (go_at_call 71; refine (HNUM.out _).mono ?_; rintro r w2 ⟨rfl, rfl⟩)
        go_roundw
        case rel =>
          refine ⟨k + 1, by omega, by go_num, ?_, ?_, ?_⟩
          · rw [HNXZ.out]
          · rw [HNXZ.out]; exact HP.out
          · exact HTT.out
        case measure => simp [intOf]; omega
      · have hnl := HNL.out
        have b1 : ((y : Int) == 0) = false := by rw [beq_eq_false_iff_ne]; omega
        have hset3 : LogAt (wr.setCell ⟨lp, 3, none⟩ (.int .i64 (y : Nat))) lp p { spans l (Walp.numsOf l.dir (N.take k)) with first := y } := HP.out.1.log.set rfl
        have hset4 : LogAt (wr.setCell ⟨lp, 4, none⟩ (.int .i64 (y : Nat))) lp p { spans l (Walp.numsOf l.dir (N.take k)) with last := y } := HP.out.1.log.set rfl
        have hset34 : LogAt ((wr.setCell ⟨lp, 3, none⟩ (.int .i64 (y : Nat))).setCell ⟨lp, 4, none⟩ (.int .i64 (y : Nat))) lp p { spans l (Walp.numsOf l.dir (N.take k)) with first := y, last := y } := hset3.set rfl
        have f34 := hset3.cells.fr 4
        have HS3 := Lib.hid hset3
        have HS4 := Lib.hid hset4
        have HS34 := Lib.hid hset34
        clear hset3 hset4 hset34
        by_cases hc0 : (Walp.numsOf l.dir (N.take k)).length = 0
        · have b2 : (((Walp.numsOf l.dir (N.take k)).length : Int) == 0) = true := by rw [hc0]; rfl
          have HC0 := Lib.hid hc0
          clear hc0
          go_wp2_with (go_at_call 71; refine (HNUM.out _).mono ?_; rintro r w2 ⟨rfl, rfl⟩)
          go_roundw
          case rel =>
            refine ⟨k + 1, by omega, by go_num, ?_, ?_, ?_⟩
            · rw [HNX.out, if_neg hy0, List.length_append]; go_num
            · rw [HNX.out, if_neg hy0, spans_snoc, if_pos HC0.out]; exact (HP.out.set HS3.out).set HS34.out
            · exact (HTT.out.set lp 3 (Or.inl rfl) _).set lp 4 (Or.inl rfl) _
          case measure => simp [intOf]; omega
        · have b2 : (((Walp.numsOf l.dir (N.take k)).length : Int) == 0) = false := by rw [beq_eq_false_iff_ne]; omega
          have HC0 := Lib.hid hc0
          clear hc0
          go_wp2_with (go_at_call 71; refine (HNUM.out _).mono ?_; rintro r w2 ⟨rfl, rfl⟩)
          go_roundw
          case rel =>
            refine ⟨k + 1, by omega, by go_num, ?_, ?_, ?_⟩
            · rw [HNX.out, if_neg hy0, List.length_append]; go_num
            · rw [HNX.out, if_neg hy0, spans_snoc, if_neg HC0.out]; exact HP.out.set HS4.out
            · exact HTT.out.set lp 4 (Or.inl rfl) _
          case measure => simp [intOf]; omega
    · have hk0 : k = N.length := by omega
      subst hk0
      have i1 : ¬ (N.length : Int) < (N.length : Int) := by omega
      rw [List.take_length] at *
      have hlow := spans_low (l := l) (ns := Walp.numsOf l.dir N) (fun n h => (nums_lt h).2) HF.out HL.out
      have hE : found S l = found S l := rfl
      conv at hE => rhs; unfold found
      rw [← HN.out] at hE
      by_cases hc0 : (Walp.numsOf l.dir N).length = 0
      · rw [if_pos hc0] at hE
        have b2 : (((Walp.numsOf l.dir N).length : Int) == 0) = true := by rw [hc0]; rfl
        have hnil : Walp.numsOf l.dir N = [] := List.length_eq_zero_iff.1 hc0
        have hP1 := HP.out
        rw [hnil, spans_nil] at hP1
        have hP3 := hP1.set (j := 3) (v := .int .i64 1) (l' := { l with first := 1 }) (hP1.1.log.set rfl)
        have f34 := hP3.1.log.cells.fr 4
        have hP4 := hP3.set (j := 4) (v := .int .i64 1) (l' := { l with first := 1, last := 1 }) (hP3.1.log.set rfl)
        have d0 := hP4.1.log.cells.c0
        have d1 := hP4.1.log.cells.c1
        obtain ⟨SC, ec, hSC⟩ : ∃ SC ec, Fsp.create S (Walp.seg l.dir 1) = (SC, ec) := ⟨_, _, rfl⟩
        rw [hSC] at hE
        have HSC := Lib.hid hSC
        have HC0 := Lib.hid hc0
        have HP4 := Lib.hid hP4
        have HE := Lib.hid hE
        clear hE hP1 hP3 hP4 hnil hc0 hP ht hSC
        go_wp2_with fail
        go_region_held3 (fun w' => w'.cell? ⟨lp, 0, none⟩ = some (.pointer (some ⟨p, 0, none⟩)) ∧ w'.cell? ⟨lp, 1, none⟩ = some (.string (txt l.dir))) (first | (exact ⟨q0, q1⟩) | (exact ⟨d0, d1⟩) | go_keep) (first | (go_at_call 29; refine (name_any (txt l.dir) (txt_size _ HD.out) 1 (by decide) (by decide) _).mono ?_; rintro r w2 ⟨rfl, t2⟩; have hx2 := HP4.out.1.later (drewTurn t2); have q0 := hx2.log.cells.c0; have q1 := hx2.log.cells.c1) | (go_at_call 38; refine (create_seg hx2.rep HS.out l.dir 1 HD.out HSC.out).mono ?_; rintro r w3 ⟨rfl, hp3⟩; have hx3 := hx2.post hp3; have q0 := hx3.log.cells.c0; have q1 := hx3.log.cells.c1))
        go_wp2
        go_ret
        rw [HE.out]
        exact ⟨rfl, HP4.out.trans (HP4.out.1.call (drewTurn t2) hp3), fun h => absurd HC0.out (by rw [HN.out]; exact h)⟩
      · rw [if_neg hc0] at hE
        have HTT := Lib.hid ht
        have b2 : (((Walp.numsOf l.dir N).length : Int) == 0) = false := by rw [beq_eq_false_iff_ne]; omega
        have HE := Lib.hid hE
        clear hE hP ht
        obtain ⟨n, hn⟩ : ∃ n, n = (Walp.numsOf l.dir N).length := ⟨_, rfl⟩
        obtain ⟨a, ha⟩ : ∃ a, a = (spans l (Walp.numsOf l.dir N)).first := ⟨_, rfl⟩
        obtain ⟨b, hb⟩ : ∃ b, b = (spans l (Walp.numsOf l.dir N)).last := ⟨_, rfl⟩
        rw [← hn] at b2 hc0 hcn HE ⊢
        rw [← ha] at q3 hlow HE
        rw [← hb] at q4 hlow HE
        clear hn ha hb
        obtain ⟨hla, hlb⟩ := hlow
        by_cases hg : b + 1 = a + n
        · rw [if_pos hg] at HE
          have b3 : ((b : Int) - a + 1 != (n : Int)) = false := by rw [bne_eq_false_iff_eq]; omega
          go_wp2_with fail
          go_quiet (fail)
          go_wp2
          go_ret
          rw [HE.out]
          exact ⟨rfl, HP.out.later (Turn.like (Turn.refl _ wr) (like_drewN _ _)), fun _ => Turn.like ((HT1.out.mono (fun _ q => q.elim)).trans HTT.out (fun _ _ q => q)) (like_drewN _ _)⟩
        · rw [if_neg hg] at HE
          have b3 : ((b : Int) - a + 1 != (n : Int)) = true := by rw [bne_iff_ne]; omega
          go_wp2_with fail
          go_quiet (fail)
          go_wp2
          go_ret
          rw [HE.out]
          exact ⟨rfl, HP.out.later (Turn.like (Turn.refl _ wr) (like_drewN _ _)), fun _ => Turn.like ((HT1.out.mono (fun _ q => q.elim)).trans HTT.out (fun _ _ q => q)) (like_drewN _ _)⟩
end
end Go.Proofs.YtjjajnfkngfpjaaGreatDoor
