/-
  PARTS: WFind, WRead, WOpen.
-/
import Derived.Test.YtinghngnehhgfaaGreatDoorWH
import Derived.Test.YtinghngnehhgfaaGreatDoorWE
/-
  find of a log: which segments a directory has.
-/
namespace Go.Proofs.YtinghngnehhgfaaGreatDoor
open Go.RowKit Go.Maps Go.WideMaps

section
variable {w0 w w' : World} {p lp : Nat} {S S' : Fsp.Fs} {c c' : Bool} {Q : Nat → Prop} {mo : Option Nat} {pl : List UInt8 → Pl} {l l' : Walp.Lg}

/-- a log of these segments -/
def spans (l : Walp.Lg) (ns : List Nat) : Walp.Lg := { l with first := ns.headD l.first, last := ns.getLastD l.last }

theorem spans_nil (l : Walp.Lg) : spans l [] = l := rfl
theorem spans_snoc (l : Walp.Lg) (ns : List Nat) (n : Nat) : spans l (ns ++ [n]) = { spans l ns with first := if ns.length = 0 then n else (spans l ns).first, last := n } := by
  unfold spans
  cases ns with
  | nil => rfl
  | cons a at' =>
    have h1 : (a :: at' ++ [n]).getLastD l.last = n := List.getLastD_concat
    have h2 : (a :: at').length ≠ 0 := by simp
    rw [h1]; simp

theorem nums_take {dir : List UInt8} {ns : List (List UInt8)} {k : Nat} (h : k < ns.length) :
    Walp.numsOf dir (ns.take (k + 1)) = if Walp.numOf dir ns[k] = 0 then Walp.numsOf dir (ns.take k) else Walp.numsOf dir (ns.take k) ++ [Walp.numOf dir ns[k]] := by
  unfold Walp.numsOf
  rw [List.take_succ_eq_append_getElem h, List.map_append, List.filter_append]
  by_cases h0 : Walp.numOf dir ns[k] = 0 <;> simp [h0]

theorem nums_le (dir : List UInt8) (ns : List (List UInt8)) : (Walp.numsOf dir ns).length ≤ ns.length := by
  unfold Walp.numsOf
  exact Nat.le_trans (List.length_filter_le _ _) (by simp)

theorem nums_lt {dir : List UInt8} {ns : List (List UInt8)} {n : Nat} (h : n ∈ Walp.numsOf dir ns) : 0 < n ∧ n < 100000000 := by
  obtain ⟨h1, h2, _⟩ := Walp.mem_numsOf.1 h
  exact ⟨h1, h2⟩

theorem spans_low {l : Walp.Lg} {ns : List Nat} (h : ∀ n, n ∈ ns → n < 100000000) (h1 : l.first < 100000000) (h2 : l.last < 100000000) : (spans l ns).first < 100000000 ∧ (spans l ns).last < 100000000 := by
  unfold spans
  cases ns with
  | nil => exact ⟨h1, h2⟩
  | cons a at' =>
    refine ⟨h a (by simp), ?_⟩
    simp only [List.getLastD_cons]
    cases at' with
    | nil => exact h a (by simp)
    | cons b bs => rw [List.getLastD_cons]; exact h _ (by
        rw [← List.getLastD_cons]
        have : (b :: bs).getLastD a ∈ (b :: bs) := by rw [List.getLastD_eq_getLast?, List.getLast?_eq_some_getLast (by simp)]; exact List.getLast_mem _
        exact List.mem_cons_of_mem _ this)

def namesOf (S : Fsp.Fs) (dir : List UInt8) : List (List UInt8) := Fsp.names S (dir ++ [47])

/-- the number behind the front -/
theorem num_behind {dir x : List UInt8} (h : (dir ++ [47]).isPrefixOf x = true) : Walp.segNum (x.drop (dir.length + 1)) = Walp.numOf dir x := by
  unfold Walp.numOf; rw [if_pos h]

theorem names_front {S : Fsp.Fs} {dir : List UInt8} {x : List UInt8} (h : x ∈ namesOf S dir) : (dir ++ [47]).isPrefixOf x = true := by
  unfold namesOf Fsp.names at h
  exact (List.mem_filter.1 h).2

theorem names_count (S : Fsp.Fs) (dir : List UInt8) : (namesOf S dir).length ≤ S.L.length := by
  unfold namesOf Fsp.names
  exact Nat.le_trans (List.length_filter_le _ _) (by simp)

theorem front_size {dir x : List UInt8} (h : (dir ++ [47]).isPrefixOf x = true) : dir.length + 1 ≤ x.length := by
  have := List.IsPrefix.length_le (List.isPrefixOf_iff_prefix.1 h)
  simpa using this

theorem number_behind {dir x : List UInt8} (h : (dir ++ [47]).isPrefixOf x = true) (W : World) : Calls Tryz.prog 44 #[.string (ByteArray.extract ⟨x.toArray⟩ (dir.length + 1) x.length)] W fun r w' => r = .returned (.int .i64 (Walp.numOf dir x : Nat)) ∧ W = w' := by
  refine (number_any _ W).mono ?_
  rintro r w' ⟨rfl, rfl⟩
  have e : (ByteArray.extract ⟨x.toArray⟩ (dir.length + 1) x.length).data.toList = x.drop (dir.length + 1) := by
    simp only [ByteArray.data_extract, Array.toList_extract, List.extract_eq_take_drop]
    rw [List.take_of_length_le (by simp)]
  rw [e, num_behind h]
  exact ⟨rfl, rfl⟩

/-- what is found: the files, the log, the answer -/
def found (S : Fsp.Fs) (l : Walp.Lg) : Fsp.Fs × Walp.Lg × Nat :=
  if (Walp.numsOf l.dir (namesOf S l.dir)).length = 0 then ((Fsp.create S (Walp.seg l.dir 1)).1, { l with first := 1, last := 1 }, (Fsp.create S (Walp.seg l.dir 1)).2)
  else (S, spans l (Walp.numsOf l.dir (namesOf S l.dir)), if (spans l (Walp.numsOf l.dir (namesOf S l.dir))).last + 1 = (spans l (Walp.numsOf l.dir (namesOf S l.dir))).first + (Walp.numsOf l.dir (namesOf S l.dir)).length then 0 else 14)

set_option maxRecDepth 100000 in
set_option maxHeartbeats 2000000 in
theorem find_seg (hx : LogX w0 w p S Q lp l) (hd : l.dir.length ≤ 1000) (hs : StepsLow S) (hf : l.first < 100000000) (hl : l.last < 100000000) :
    Calls Tryz.prog 24 #[.pointer (some ⟨lp, 0, none⟩)] w fun r w' => r = .returned (.int .i64 ((found S l).2.2 : Nat)) ∧ LogP w0 w p (found S l).1 Q lp (found S l).2.1 w' ∧ ((Walp.numsOf l.dir (namesOf S l.dir)).length ≠ 0 → Turn (fun b => b = lp) w w') := by
  have c0 := hx.log.cells.c0
  have c1 := hx.log.cells.c1
  have hfew : S.L.length ≤ 400 := by
    obtain ⟨mo, pl, hr⟩ := hx.rep
    exact hr.good.2.2.2.1
  obtain ⟨N, hN⟩ : ∃ N, N = namesOf S l.dir := ⟨_, rfl⟩
  have hNl : N.length ≤ 400 := by rw [hN]; exact Nat.le_trans (names_count _ _) hfew
  have hfr : ∀ x, x ∈ N → (l.dir ++ [47]).isPrefixOf x = true := fun x h => names_front (by rw [← hN]; exact h)
  have hnames : Calls Tryz.prog 15 #[.pointer (some ⟨p, 0, none⟩), .string (txt (l.dir ++ [47]))] w fun r w' => (∃ sp cap, r = .returned (.slice sp N.length cap) ∧ (0 < N.length → ∃ ad, sp = some ad ∧ ad.block ≠ lp ∧ ∀ j x, N[j]? = some x → w'.cell? (ad.add j) = some (encStr x))) ∧ Turn (fun _ => False) w w' := by
    obtain ⟨mo, pl, hr⟩ := hx.rep
    refine (names_any hr _).mono ?_
    rintro r w1 ⟨v, rfl, hown, t1⟩
    have e : Fsp.names S (txt (l.dir ++ [47])).data.toList = N := by rw [hN]; rfl
    rw [e] at hown
    obtain ⟨sp, cap, hv, hc⟩ := TextsR.of_own hown
    refine ⟨⟨sp, cap, by rw [hv], fun h0 => ?_⟩, t1⟩
    obtain ⟨ad, e1, e2⟩ := hc h0
    refine ⟨ad, e1, ?_, e2⟩
    have := (own_block hown (r := ad.block) (by rw [hv, e1]; rfl)).1
    have := hx.log.lt
    omega
  have hcat : txt l.dir ++ ⟨#[47]⟩ = txt (l.dir ++ [47]) := by
    apply ByteArray.ext
    apply Array.ext'
    simp [txt]
  have hsz : (txt (l.dir ++ [47])).size = l.dir.length + 1 := by rw [Lib.size_eq, txt_list]; simp
  have hszI : ((txt (l.dir ++ [47])).size : Int) = (l.dir.length : Int) + 1 := by omega
  have hcl : ¬ 9223372036854775807 < l.dir.length + 1 := by omega
  have HS := Lib.hid hs
  have HX := Lib.hid hx
  have HD := Lib.hid hd
  have HN := Lib.hid hN
  have HNL := Lib.hid hNl
  have HFR := Lib.hid hfr
  have HNM := Lib.hid hnames
  have HF := Lib.hid hf
  have HL := Lib.hid hl
  have HZ := Lib.hid hsz
  clear hs hx hd hfew hN hNl hfr hnames hf hl hsz
  go_enter Tryz.func24, Tryz.ntmps24
  go_wp2_with (go_at_call 15; refine HNM.out.mono ?_; rintro r w1 ⟨⟨sp, cap, rfl, hc⟩, t1⟩; have HC := Lib.hid hc; clear hc)
  have HT1 := Lib.hid t1
  clear t1

  go_loopw [4, 20] (fun cv i wr => ∃ k : Nat, k ≤ N.length ∧ i = .int .i64 k ∧ cv = .int .i64 ((Walp.numsOf l.dir (N.take k)).length : Nat) ∧ LogP w0 w p S Q lp (spans l (Walp.numsOf l.dir (N.take k))) wr ∧ Turn (fun b => b = lp) w1 wr) (fun _ i _ => N.length - (intOf i).toNat)
  case atStart => exact ⟨0, Nat.zero_le _, rfl, rfl, HX.out.same.later HT1.out, Turn.refl _ _⟩
  case round =>
    obtain ⟨k, hk, rfl, rfl, hP, ht⟩ := hrel
    have hcn : (Walp.numsOf l.dir (N.take k)).length ≤ 400 := by
      have := nums_le l.dir (N.take k)
      have := HNL.out
      rw [List.length_take] at *; omega
    have q0 := hP.1.log.cells.c0
    have q1 := hP.1.log.cells.c1
    have q3 := hP.1.log.cells.c3
    have q4 := hP.1.log.cells.c4
    have f3 := hP.1.log.cells.fr 3
    have f4 := hP.1.log.cells.fr 4
    have HP := Lib.hid hP
    by_cases hlt : k < N.length
    · obtain ⟨ad, e1, hb, hx⟩ := HC.out (by omega)
      subst e1
      have hcx := hx k N[k] (List.getElem?_eq_getElem hlt)
      have hcell : wr.cell? (ad.add k) = some (encStr N[k]) := by
        refine (World.cell?_of_block (ht.block _ (World.block_lt_of_cell? w1 _ hcx) (by rw [add_block]; exact hb))).trans hcx
      have hpre := HFR.out _ (List.getElem_mem hlt)
      have hfs := front_size hpre
      have hnx := nums_take (dir := l.dir) hlt
      have hnum := number_behind hpre
      have HNUM := Lib.hid hnum
      have HNX := Lib.hid hnx
      have HTT := Lib.hid ht
      have HBL := Lib.hid hb
      have hyl : Walp.numOf l.dir N[k] < 100000000 := by
        by_cases h0 : Walp.numOf l.dir N[k] = 0
        · omega
        · exact (Walp.numOf_pos h0).2
      generalize N[k] = x at *
      obtain ⟨y, hy⟩ : ∃ y, y = Walp.numOf l.dir x := ⟨_, rfl⟩
      rw [← hy] at HNUM HNX hyl
      have i0 : (0 : Int) ≤ (k : Int) := by omega
      have i1 : (k : Int) < (N.length : Int) := by omega
      unfold encStr at hcell
      clear hx hcx hpre hnx hnum hP ht hb hy
      by_cases hy0 : y = 0
      · have HNXZ := Lib.hid (HNX.out.trans (if_pos hy0))
        subst hy0
        have hnl := HNL.out
        go_wp2_with (go_at_call 44; refine (HNUM.out _).mono ?_; rintro r w2 ⟨rfl, rfl⟩)
        go_roundw
        case rel =>
          refine ⟨k + 1, by omega, by go_num, ?_, ?_, ?_⟩
          · rw [HNXZ.out]
          · rw [HNXZ.out]; exact HP.out
          · exact HTT.out
        case measure => simp [intOf]; omega
      · have hnl := HNL.out
        have b1 : ((y : Int) == 0) = false := by rw [beq_eq_false_iff_ne]; omega
        have hset3 : LogAt (wr.setCell ⟨lp, 3, none⟩ (.int .i64 (y : Nat))) lp p { spans l (Walp.numsOf l.dir (N.take k)) with first := y } := HP.out.1.log.set rfl
        have hset4 : LogAt (wr.setCell ⟨lp, 4, none⟩ (.int .i64 (y : Nat))) lp p { spans l (Walp.numsOf l.dir (N.take k)) with last := y } := HP.out.1.log.set rfl
        have hset34 : LogAt ((wr.setCell ⟨lp, 3, none⟩ (.int .i64 (y : Nat))).setCell ⟨lp, 4, none⟩ (.int .i64 (y : Nat))) lp p { spans l (Walp.numsOf l.dir (N.take k)) with first := y, last := y } := hset3.set rfl
        have f34 := hset3.cells.fr 4
        have HS3 := Lib.hid hset3
        have HS4 := Lib.hid hset4
        have HS34 := Lib.hid hset34
        clear hset3 hset4 hset34
        by_cases hc0 : (Walp.numsOf l.dir (N.take k)).length = 0
        · have b2 : (((Walp.numsOf l.dir (N.take k)).length : Int) == 0) = true := by rw [hc0]; rfl
          have HC0 := Lib.hid hc0
          clear hc0
          go_wp2_with (go_at_call 44; refine (HNUM.out _).mono ?_; rintro r w2 ⟨rfl, rfl⟩)
          go_roundw
          case rel =>
            refine ⟨k + 1, by omega, by go_num, ?_, ?_, ?_⟩
            · rw [HNX.out, if_neg hy0, List.length_append]; go_num
            · rw [HNX.out, if_neg hy0, spans_snoc, if_pos HC0.out]; exact (HP.out.set HS3.out).set HS34.out
            · exact (HTT.out.set lp 3 (Or.inl rfl) _).set lp 4 (Or.inl rfl) _
          case measure => simp [intOf]; omega
        · have b2 : (((Walp.numsOf l.dir (N.take k)).length : Int) == 0) = false := by rw [beq_eq_false_iff_ne]; omega
          have HC0 := Lib.hid hc0
          clear hc0
          go_wp2_with (go_at_call 44; refine (HNUM.out _).mono ?_; rintro r w2 ⟨rfl, rfl⟩)
          go_roundw
          case rel =>
            refine ⟨k + 1, by omega, by go_num, ?_, ?_, ?_⟩
            · rw [HNX.out, if_neg hy0, List.length_append]; go_num
            · rw [HNX.out, if_neg hy0, spans_snoc, if_neg HC0.out]; exact HP.out.set HS4.out
            · exact HTT.out.set lp 4 (Or.inl rfl) _
          case measure => simp [intOf]; omega
    · have hk0 : k = N.length := by omega
      subst hk0
      have i1 : ¬ (N.length : Int) < (N.length : Int) := by omega
      rw [List.take_length] at *
      have hlow := spans_low (l := l) (ns := Walp.numsOf l.dir N) (fun n h => (nums_lt h).2) HF.out HL.out
      have hE : found S l = found S l := rfl
      conv at hE => rhs; unfold found
      rw [← HN.out] at hE
      by_cases hc0 : (Walp.numsOf l.dir N).length = 0
      · rw [if_pos hc0] at hE
        have b2 : (((Walp.numsOf l.dir N).length : Int) == 0) = true := by rw [hc0]; rfl
        have hnil : Walp.numsOf l.dir N = [] := List.length_eq_zero_iff.1 hc0
        have hP1 := HP.out
        rw [hnil, spans_nil] at hP1
        have hP3 := hP1.set (j := 3) (v := .int .i64 1) (l' := { l with first := 1 }) (hP1.1.log.set rfl)
        have f34 := hP3.1.log.cells.fr 4
        have hP4 := hP3.set (j := 4) (v := .int .i64 1) (l' := { l with first := 1, last := 1 }) (hP3.1.log.set rfl)
        have d0 := hP4.1.log.cells.c0
        have d1 := hP4.1.log.cells.c1
        obtain ⟨SC, ec, hSC⟩ : ∃ SC ec, Fsp.create S (Walp.seg l.dir 1) = (SC, ec) := ⟨_, _, rfl⟩
        rw [hSC] at hE
        have HSC := Lib.hid hSC
        have HC0 := Lib.hid hc0
        have HP4 := Lib.hid hP4
        have HE := Lib.hid hE
        clear hE hP1 hP3 hP4 hnil hc0 hP ht hSC
        go_wp2_with fail
        go_region_held3 (fun w' => w'.cell? ⟨lp, 0, none⟩ = some (.pointer (some ⟨p, 0, none⟩)) ∧ w'.cell? ⟨lp, 1, none⟩ = some (.string (txt l.dir))) (first | (exact ⟨q0, q1⟩) | (exact ⟨d0, d1⟩) | go_keep) (first | (go_at_call 21; refine (name_any (txt l.dir) (txt_size _ HD.out) 1 (by decide) (by decide) _).mono ?_; rintro r w2 ⟨rfl, t2⟩; have hx2 := HP4.out.1.later (drewTurn t2); have q0 := hx2.log.cells.c0; have q1 := hx2.log.cells.c1) | (go_at_call 28; refine (create_seg hx2.rep HS.out l.dir 1 HD.out HSC.out).mono ?_; rintro r w3 ⟨rfl, hp3⟩; have hx3 := hx2.post hp3; have q0 := hx3.log.cells.c0; have q1 := hx3.log.cells.c1))
        go_wp2
        go_ret
        rw [HE.out]
        exact ⟨rfl, HP4.out.trans (HP4.out.1.call (drewTurn t2) hp3), fun h => absurd HC0.out (by rw [HN.out]; exact h)⟩
      · rw [if_neg hc0] at hE
        have HTT := Lib.hid ht
        have b2 : (((Walp.numsOf l.dir N).length : Int) == 0) = false := by rw [beq_eq_false_iff_ne]; omega
        have HE := Lib.hid hE
        clear hE hP ht
        obtain ⟨n, hn⟩ : ∃ n, n = (Walp.numsOf l.dir N).length := ⟨_, rfl⟩
        obtain ⟨a, ha⟩ : ∃ a, a = (spans l (Walp.numsOf l.dir N)).first := ⟨_, rfl⟩
        obtain ⟨b, hb⟩ : ∃ b, b = (spans l (Walp.numsOf l.dir N)).last := ⟨_, rfl⟩
        rw [← hn] at b2 hc0 hcn HE ⊢
        rw [← ha] at q3 hlow HE
        rw [← hb] at q4 hlow HE
        clear hn ha hb
        obtain ⟨hla, hlb⟩ := hlow
        by_cases hg : b + 1 = a + n
        · rw [if_pos hg] at HE
          have b3 : ((b : Int) - a + 1 != (n : Int)) = false := by rw [bne_eq_false_iff_eq]; omega
          go_wp2_with fail
          go_quiet (fail)
          go_wp2
          go_ret
          rw [HE.out]
          exact ⟨rfl, HP.out.later (Turn.like (Turn.refl _ wr) (like_drewN _ _)), fun _ => Turn.like ((HT1.out.mono (fun _ q => q.elim)).trans HTT.out (fun _ _ q => q)) (like_drewN _ _)⟩
        · rw [if_neg hg] at HE
          have b3 : ((b : Int) - a + 1 != (n : Int)) = true := by rw [bne_iff_ne]; omega
          go_wp2_with fail
          go_quiet (fail)
          go_wp2
          go_ret
          rw [HE.out]
          exact ⟨rfl, HP.out.later (Turn.like (Turn.refl _ wr) (like_drewN _ _)), fun _ => Turn.like ((HT1.out.mono (fun _ q => q.elim)).trans HTT.out (fun _ _ q => q)) (like_drewN _ _)⟩
end
end Go.Proofs.YtinghngnehhgfaaGreatDoor

/-
  read of a log: the records of its segments.
-/
namespace Go.Proofs.YtinghngnehhgfaaGreatDoor
open Go.RowKit Go.Maps Go.WideMaps

section
variable {w0 w w' : World} {p lp : Nat} {S S' : Fsp.Fs} {c c' : Bool} {Q : Nat → Prop} {mo : Option Nat} {pl : List UInt8 → Pl} {l l' : Walp.Lg}

theorem lists_add {W W2 : World} {base : Nat} {v v' : Value} {l m : List (List UInt8)} {xs ys : List Value} (hx1 : W.ownsRow base 33 1 v l.length xs) (hx2 : xs.length = l.length)
    (hx3 : ∀ (j : Nat) (q : List UInt8), l[j]? = some q → ∃ u, xs[j]? = some u ∧ W.ownsRow base 5 1 u q.length (q.map byteV)) (hy2 : ys.length = m.length)
    (hy3 : ∀ (j : Nat) (q : List UInt8), m[j]? = some q → ∃ u, ys[j]? = some u ∧ W.ownsRow base 5 1 u q.length (q.map byteV)) (hg : W.grownBy W2 v.ownBlock)
    (h4 : W2.ownsRow base 33 1 v' (l.length + m.length) (xs ++ ys)) : ListsO W2 base v' (l ++ m) := by
  have t4 : Turn (fun b => v.ownBlock = some b) W W2 := (Turn.refl _ W).grown hg (fun k e => Or.inl e)
  have key : ∀ {u : Value} {q : List UInt8}, W.ownsRow base 5 1 u q.length (q.map byteV) → W2.ownsRow base 5 1 u q.length (q.map byteV) := fun ho =>
    ownsRow_turned ho t4 (fun r hr e2 => by
      obtain ⟨_, _, cur, hc⟩ := own_block hx1 e2
      obtain ⟨_, _, cur2, hc2⟩ := own_block ho hr
      rw [hc] at hc2; cases hc2)
  refine ⟨xs ++ ys, by rw [List.length_append]; exact h4, by simp [hx2, hy2], fun j q hj => ?_⟩
  by_cases hlt : j < l.length
  · rw [List.getElem?_append_left hlt] at hj
    obtain ⟨u, e, ho⟩ := hx3 j q hj
    exact ⟨u, by rw [List.getElem?_append_left (by omega)]; exact e, key ho⟩
  · rw [List.getElem?_append_right (by omega)] at hj
    obtain ⟨u, e, ho⟩ := hy3 _ q hj
    exact ⟨u, by rw [List.getElem?_append_right (by omega), hx2]; exact e, key ho⟩

theorem read_file (hx : LogX w0 w p S Q lp l) (n : Nat) (hd : l.dir.length ≤ 1000) {f : Fsp.File} (hf : Fsp.find S.L (Walp.seg l.dir n) = some f) :
    Calls Tryz.prog 16 #[.pointer (some ⟨p, 0, none⟩), .string (segName (txt l.dir) n)] w fun r w' => (∃ g, r = .returned (.tuple #[.slice (some ⟨g, 0, none⟩) f.data.length f.data.length, .int .i64 0]) ∧
      SliceC w' (.slice (some ⟨g, 0, none⟩) f.data.length f.data.length) f.data) ∧ f.data.length ≤ 67108864 ∧ Turn (fun _ => False) w w' := by
  obtain ⟨mo, pl, hr⟩ := hx.rep
  have h1 := hr.good.2.1
  have h2 := hr.good.2.2.1
  have h3 := Fsp.used_find hf
  refine (read_some hr (segName (txt l.dir) n) (seg_size l.dir n hd) (f := f) (by rw [segName_list, txt_list]; exact hf)).mono ?_
  rintro r w' ⟨g, rfl, hown, ht⟩
  refine ⟨⟨g, rfl, some ⟨g, 0, none⟩, f.data.length, rfl, Nat.le_refl _, by omega, fun _ => ⟨g, 0, rfl, fun j x hj => ?_⟩⟩, by omega, ht⟩
  have := hown.cellAt j (by have := (List.getElem?_eq_some_iff.1 hj).1; omega)
  rw [Nat.zero_add, this, List.getElem?_map, hj]; rfl

theorem own_one {base n : Nat} {e : TypeId} {v : Value} {xs : List Value} (h : w.ownsRow base e 1 v n xs) : v.oneCell' = true := by
  rcases h.2 with ⟨rfl, _⟩ | ⟨g, cap, cur, rfl, _⟩ <;> rfl

theorem append_lists {ops : Array Oper} {rest : List Oper} {o : Oper} {a : Act} {Qx : Exit → Act → World → Prop} (hgd : o.guard = none) (s x : Operand)
    (ho : o.op = .call { callee := .builtin .append, args := #[s, x], argTypes := #[22, 22] }) {base : Nat} {v u : Value} {l m : List (List UInt8)} (hs : a.eval s = v) (hx : a.eval x = u)
    (hl : ListsO w base v l) (hm : ListsO w base u m) (hn : l.length + m.length ≤ 1000000000000) (hbase : base ≤ w.heap.size)
    (h : ∀ sp cap w', ListsO w' base (.slice sp (l ++ m).length cap) (l ++ m) → Turn (fun b => v.ownBlock = some b) w w' → wpList Tryz.prog ops Qx rest (a.put o.dst (.slice sp (l ++ m).length cap)) w') :
    wpList Tryz.prog ops Qx (o :: rest) a w := by
  obtain ⟨i0, hi, hz0, hz1, hz2⟩ := info_parts infoBytes
  obtain ⟨xs, hx1, hx2, hx3⟩ := hl
  obtain ⟨ys, hy1, hy2, hy3⟩ := hm
  obtain ⟨sp, cap, hu, hc⟩ := own_cell hy1 hy2
  cases sp with
  | none =>
    have hm0 : m = [] := by
      rcases Nat.eq_zero_or_pos m.length with h0 | h0
      · exact List.length_eq_zero_iff.1 h0
      · obtain ⟨ad, e, _⟩ := hc h0; cases e
    subst hm0
    have hcap : cap = 0 := by
      rcases hy1.2 with ⟨e, _⟩ | ⟨g, c2, cur, e, _⟩
      · rw [e] at hu; cases hu; rfl
      · rw [e] at hu; cases hu
    subst hcap
    obtain ⟨sp2, cap2, hv, _⟩ := own_cell hx1 hx2
    refine wpList_append_own_none hgd s x 22 ho base 33 i0 1 Tryz.underlying22 hi v l.length xs hs hx1 (hx.trans hu) ?_
    have h2 := h sp2 cap2 w (by rw [List.append_nil, ← hv]; exact ⟨xs, hx1, hx2, hx3⟩) (Turn.refl _ _)
    rw [List.append_nil, ← hv] at h2
    exact h2
  | some ad =>
    refine wpList_append_own_at w hgd s x 22 ho base 33 i0 (.slice none 0 0) 1 24 Tryz.underlying22 hi hz0 hz1 hz2 rfl (by decide) v l.length xs hs hx1 ad m.length cap ys (hx.trans hu) (by rw [hy2, Nat.mul_one]) (fun j y hj => ?_) (fun y hy => ?_) (by unfold maxLen; omega) (by omega) hbase ?_
    · have hlt := (List.getElem?_eq_some_iff.1 hj).1
      obtain ⟨ad2, e, hcx⟩ := hc (by omega)
      cases e
      exact hcx j y hj
    · obtain ⟨j, hj, rfl⟩ := List.getElem_of_mem hy
      obtain ⟨u2, e, ho2⟩ := hy3 j _ (List.getElem?_eq_getElem (by omega))
      rw [List.getElem?_eq_getElem hj] at e
      cases e
      exact own_one ho2
    · intro v' w' hown hg _ _
      have h4 := lists_add hx1 hx2 hx3 hy2 hy3 hg hown
      obtain ⟨xs4, o1, o2, _⟩ := h4
      obtain ⟨sp4, cap4, e4, _⟩ := own_cell o1 o2
      have h4 := lists_add hx1 hx2 hx3 hy2 hy3 hg hown
      subst e4
      exact h sp4 cap4 w' h4 ((Turn.refl _ w).grown hg (fun k e => Or.inl e))

theorem LogP.aside {wb w1 w2 : World} {P : Nat → Prop} (h : LogP w0 wb p S' Q lp l' w1) (hx : LogX w0 w p S Q lp l) (hb : Turn (fun _ => False) w wb) (ht : Turn P w1 w2) (hP : ∀ b, P b → w.heap.size ≤ b ∧ b < wb.heap.size) : LogP w0 w p S' Q lp l' w2 := by
  obtain ⟨⟨⟨mo, pl, hr⟩, g2, g3, g4, g5, g6⟩, t2⟩ := h
  have s1 := hb.size
  have s2 := t2.size
  have s3 := ht.size
  have hlp := hx.log.lt
  have hql := hx.rep.lt
  have hw0 := hx.turn.size
  have hr2 : RepX w2 p S' false (Grow Q wb w1) mo pl := hr.turned ht (fun b q pb => by
    have hpb := hP b pb
    rcases q with q | q
    · have := hql b q; omega
    · omega)
  refine ⟨⟨⟨mo, pl, hr2.mono (fun b q => q.imp id (fun q => ⟨by omega, by omega⟩)) (fun b q => ?_)⟩, g2.turned ht (fun pb => by have := hP lp pb; omega), fun q => ?_, g4, fun b q => ?_, g6.trans ht (fun i hi q => by have := hP i q; omega)⟩, ?_⟩
  · rcases q with q | q
    · have := hql b q; omega
    · exact q.2
  · rcases q with q | q
    · exact hx.out q
    · omega
  · rcases q with q | q
    · exact hx.newQ b q
    · omega
  · exact ((hb.mono (fun _ q => q.elim)).trans t2 (fun _ _ q => q)).trans ht (fun i hi q => by have := hP i q; omega)

theorem scan_bool {v : Value} {b : List UInt8} {x : Bool} (hw : decide ((Walp.frames (Walp.scan b)).length = b.length) = x) (hT : SumTab w) (hb : SliceC w v b) (hl : b.length ≤ 1073741824) :
    Calls Tryz.prog 45 #[v] w fun r w' => (∃ u, r = .returned (.tuple #[u, .int .i64 ((Walp.frames (Walp.scan b)).length : Nat), .bool x]) ∧ ListsO w' w.heap.size u (Walp.scan b)) ∧ Turn (fun _ => False) w w' := by
  have h := scan_any hT hb hl
  rw [hw] at h
  exact h

/-- the records of these files -/
def recsOf (fs : List Fsp.File) : List (List UInt8) := (fs.map fun f => Walp.scan f.data).flatten

theorem recs_take {fs : List Fsp.File} {i : Nat} (h : i < fs.length) : recsOf (fs.take (i + 1)) = recsOf (fs.take i) ++ Walp.scan fs[i].data := by
  unfold recsOf
  rw [List.take_succ_eq_append_getElem h, List.map_append, List.flatten_append]
  simp only [List.map_cons, List.map_nil, List.flatten_cons, List.flatten_nil, List.append_nil]

theorem scan_le (b : List UInt8) : (Walp.scan b).length ≤ b.length := by
  rw [Walp.scan_raw, List.length_map]
  have h1 := Walp.raw_length b
  have h2 := (List.takeWhile_sublist Walp.sound (l := Walp.raw b)).length_le
  omega

theorem recs_le (fs : List Fsp.File) (h : ∀ f, f ∈ fs → f.data.length ≤ 67108864) : (recsOf fs).length ≤ 67108864 * fs.length := by
  induction fs with
  | nil => simp [recsOf]
  | cons f fs ih =>
    have h1 := ih (fun g hg => h g (List.mem_cons_of_mem _ hg))
    have h2 := h f (by simp)
    have h3 := scan_le f.data
    unfold recsOf at *
    simp only [List.map_cons, List.flatten_cons, List.length_append, List.length_cons]
    omega

def wholeF (d : List UInt8) : Bool := decide ((Walp.frames (Walp.scan d)).length = d.length)

theorem frames_le (d : List UInt8) : (Walp.frames (Walp.scan d)).length ≤ d.length := by
  have h := (Walp.scan_rest d).1
  have := congrArg List.length h
  rw [List.length_append] at this; omega

/-- what stands in front of the loop's round i -/
def Reading (w0 w : World) (p : Nat) (S2 : Fsp.Fs) (Q : Nat → Prop) (lp : Nat) (l2 : Walp.Lg) (d : List UInt8) (fs : List Fsp.File) (i : Nat) (wr : World) : Prop :=
  (i < fs.length ∧ Turn (fun _ => False) w wr) ∨ (i = fs.length ∧ LogP w0 w p S2 Q lp l2 wr ∧ (wholeF d = true → Turn (fun _ => False) w wr))

/-- what the last file becomes -/
def Mended (S S2 : Fsp.Fs) (l l2 : Walp.Lg) (d : List UInt8) : Prop :=
  (wholeF d = true ∧ S2 = S ∧ l2 = l) ∨
  (wholeF d = false ∧ l2 = { l with cut := d.length - (Walp.frames (Walp.scan d)).length } ∧ ∃ S1, Fsp.truncate S (Walp.seg l.dir l.last) (Walp.frames (Walp.scan d)).length = (S1, 0) ∧ Fsp.sync S1 (Walp.seg l.dir l.last) = (S2, 0))

set_option maxRecDepth 100000 in
set_option maxHeartbeats 2000000 in
theorem read_ok (hT : SumTab w) (hx : LogX w0 w p S Q lp l) (hd : l.dir.length ≤ 1000) (init : List Fsp.File) (f : Fsp.File) (hfs : ∀ (i : Nat) (g : Fsp.File), (init ++ [f])[i]? = some g → Fsp.find S.L (Walp.seg l.dir (l.first + i)) = some g)
    (hlast : l.last = l.first + init.length) (h1 : 1 ≤ l.first) (hl : l.last < 100) (hw : ∀ g, g ∈ init → wholeF g.data = true) {S2 : Fsp.Fs} {l2 : Walp.Lg} (hm : Mended S S2 l l2 f.data) (hs : S.steps + 10 < 4611686018427387000) :
    Calls Tryz.prog 25 #[.pointer (some ⟨lp, 0, none⟩)] w fun r w' => (∃ u, r = .returned (.tuple #[u, .int .i64 0]) ∧ ListsO w' w.heap.size u (recsOf (init ++ [f]))) ∧ LogP w0 w p S2 Q lp l2 w' ∧ (wholeF f.data = true → Turn (fun _ => False) w w') := by
  have c0 := hx.log.cells.c0
  have c1 := hx.log.cells.c1
  have c3 := hx.log.cells.c3
  have c4 := hx.log.cells.c4
  obtain ⟨fs, hfe⟩ : ∃ fs, fs = init ++ [f] := ⟨_, rfl⟩
  have hfl : fs.length = init.length + 1 := by rw [hfe]; simp
  rw [← hfe] at hfs ⊢
  have HT := Lib.hid hT
  have HX := Lib.hid hx
  have HD := Lib.hid hd
  have HFS := Lib.hid hfs
  have HFE := Lib.hid hfe
  have HFL := Lib.hid hfl
  have HLA := Lib.hid hlast
  have H1 := Lib.hid h1
  have HL := Lib.hid hl
  have HW := Lib.hid hw
  have HM := Lib.hid hm
  have HS := Lib.hid hs
  clear hT hx hd hfs hfe hfl hlast h1 hl hw hm hs
  go_enter Tryz.func25, Tryz.ntmps25
  go_wp2_with fail
  go_loopw [4, 5] (fun rv n wr => ∃ i : Nat, i ≤ fs.length ∧ n = .int .i64 ((l.first + i : Nat) : Int) ∧ (∃ sp cap, rv = .slice sp (recsOf (fs.take i)).length cap ∧ ListsO wr w.heap.size (.slice sp (recsOf (fs.take i)).length cap) (recsOf (fs.take i))) ∧ Reading w0 w p S2 Q lp l2 f.data fs i wr) (fun _ n _ => l.last + 1 - (intOf n).toNat)
  case atStart => exact ⟨0, Nat.zero_le _, rfl, ⟨none, 0, rfl, ListsO.nil _ _⟩, Or.inl ⟨by have := HFL.out; omega, Turn.refl _ _⟩⟩
  case round =>
    obtain ⟨i, hi, rfl, ⟨sp, cap, rfl, hls⟩, hR⟩ := hrel
    rcases hR with ⟨hlt, ht⟩ | ⟨hie, hP, hWT⟩
    · have hX := HX.out.later ht
      have d0 := hX.log.cells.c0
      have d1 := hX.log.cells.c1
      have d4 := hX.log.cells.c4
      obtain ⟨n, hn⟩ : ∃ n, n = l.first + i := ⟨_, rfl⟩
      rw [← hn]
      have hfind := HFS.out i fs[i] (List.getElem?_eq_getElem hlt)
      rw [← hn] at hfind
      have hnl : n ≤ l.last := by have := HLA.out; have := HFL.out; omega
      have i1 : (n : Int) ≤ (l.last : Int) := by omega
      have hnlo : 1 ≤ n := by have := H1.out; omega
      have hnhi : n < 100 := by have := HL.out; omega
      have hrt := recs_take hlt
      have hT2 := HT.out.turned ht
      have hg2 : fs[i]? = some fs[i] := List.getElem?_eq_getElem hlt
      generalize fs[i] = g at *
      have HX2 := Lib.hid hX
      have HF := Lib.hid hfind
      have HN := Lib.hid hn
      have HNL := Lib.hid hnlo
      have HNH := Lib.hid hnhi
      have HRT := Lib.hid hrt
      have HT2 := Lib.hid hT2
      have HG := Lib.hid hg2
      have HLS := Lib.hid hls
      have HTT := Lib.hid ht
      have HLT := Lib.hid hlt
      have hrl : (recsOf (fs.take i)).length ≤ 67108864 * 100 := by
        refine Nat.le_trans (recs_le (fs.take i) (fun x hx => ?_)) ?_
        · obtain ⟨j, hj, e⟩ := List.getElem_of_mem hx
          rw [List.length_take] at hj
          rw [List.getElem_take] at e
          have h := HFS.out j fs[j] (List.getElem?_eq_getElem (by omega))
          obtain ⟨mo, pl, hr⟩ := HX.out.rep
          have h1 := hr.good.2.1
          have h2 := hr.good.2.2.1
          have h3 := Fsp.used_find h
          rw [← e]; omega
        · have := HFL.out; have := HLA.out; have := HL.out; have := H1.out
          rw [List.length_take]
          omega
      have HRL := Lib.hid hrl
      clear hX hfind hn hnlo hnhi hrt hT2 hg2 hls ht hlt hnl hi hrl
      cases hwh : wholeF g.data with
      | true =>
        unfold wholeF at hwh
        have HWH := Lib.hid hwh
        clear hwh
        go_wp2_with fail
        go_region_held3 (fun w' => w'.cell? ⟨lp, 0, none⟩ = some (.pointer (some ⟨p, 0, none⟩)) ∧ w'.cell? ⟨lp, 1, none⟩ = some (.string (txt l.dir))) (first | (exact ⟨q0, q1⟩) | (exact ⟨d0, d1⟩) | go_keep) (first | (go_at_call 21; refine (name_any (txt l.dir) (txt_size _ HD.out) n HNL.out HNH.out _).mono ?_; rintro r w2 ⟨rfl, t2⟩; have hx2 := HX2.out.later (drewTurn t2); have q0 := hx2.log.cells.c0; have q1 := hx2.log.cells.c1) | (go_at_call 16; refine (read_file hx2 n HD.out HF.out).mono ?_; rintro r w3 ⟨⟨gb, rfl, hsl⟩, hsz, t3⟩; have hx3 := hx2.later t3; have q0 := hx3.log.cells.c0; have q1 := hx3.log.cells.c1))
        have HR3 := Lib.hid hx3
        have ht3 := (drewTurn t2).trans t3 (fun _ _ q => q)
        have HT3 := Lib.hid ht3
        have HSL := Lib.hid hsl
        have HSZ := Lib.hid hsz
        clear hx2 hx3 t2 t3 ht3 hsl hsz d0 d1
        go_wp2_with (first | (go_at_call 45; refine (scan_bool HWH.out (HT2.out.turned HT3.out) HSL.out (by have := HSZ.out; omega)).mono ?_; rintro r w4 ⟨⟨u, rfl, hls4⟩, t4⟩; have hx4 := HR3.out.later t4; have r4 := hx4.log.cells.c4; have HR4 := Lib.hid hx4; have HLS4 := Lib.hid hls4; have HT4 := Lib.hid t4; clear hx4 hls4 t4) | (at_builtin; refine append_lists rfl (.tmp 68) (.tmp 69) rfl (base := w.heap.size) rfl rfl (HLS.out.new (HT3.out.trans HT4.out (fun _ _ q => q))) (HLS4.out.mono (by have := HTT.out.size; have := HT3.out.size; omega)) (by have := HRL.out; have := scan_le g.data; have := HSZ.out; omega) (by have := HTT.out.size; have := HT3.out.size; have := HT4.out.size; omega) ?_))
        intro sp5 cap5 w5 hls5 t5
        have htw : Turn (fun _ => False) w w5 := by
          have h4 := (HTT.out.trans HT3.out (fun _ _ q => q)).trans HT4.out (fun _ _ q => q)
          refine h4.trans t5 (fun i hi q => ?_)
          obtain ⟨xs, o1, _, _⟩ := HLS.out
          have := (own_block o1 q).1
          omega
        have HTW := Lib.hid htw
        have HL5 := Lib.hid hls5
        clear htw hls5 t5
        have hn2 := HNH.out
        go_wp2
        go_roundw
        case rel =>
          refine ⟨i + 1, HLT.out, by have := HN.out; go_num, ⟨sp5, cap5, by rw [HRT.out, List.length_append], by rw [HRT.out, List.length_append]; exact HL5.out⟩, ?_⟩
          by_cases he : i + 1 < fs.length
          · exact Or.inl ⟨he, HTW.out⟩
          · have hie : i + 1 = fs.length := by have := HLT.out; omega
            refine Or.inr ⟨hie, ?_⟩
            have hgf : g = f := by
              have h := HG.out
              rw [HFE.out, List.getElem?_append_right (by have := HFL.out; omega)] at h
              have : i - init.length = 0 := by have := HFL.out; omega
              rw [this] at h
              cases h; rfl
            rcases HM.out with ⟨_, e1, e2⟩ | ⟨e0, _⟩
            · rw [e1, e2]; exact ⟨HX.out.same.later HTW.out, fun _ => HTW.out⟩
            · rw [← hgf] at e0; unfold wholeF at e0; rw [HWH.out] at e0; cases e0
        case measure => have := HN.out; have := HLA.out; simp [intOf]; omega
      | false =>
        have hie : i + 1 = fs.length := by
          rcases Nat.lt_or_ge (i + 1) fs.length with h | h
          · have hm2 : g ∈ init := by
              have hgi := HG.out
              rw [HFE.out, List.getElem?_append_left (by have := HFL.out; omega)] at hgi
              exact List.mem_of_getElem? hgi
            have := HW.out g hm2
            rw [hwh] at this; cases this
          · have := HLT.out; omega
        have hgf : g = f := by
          have h := HG.out
          rw [HFE.out, List.getElem?_append_right (by have := HFL.out; omega)] at h
          have : i - init.length = 0 := by have := HFL.out; omega
          rw [this] at h
          cases h; rfl
        have hnlast : n = l.last := by have := HN.out; have := HLA.out; have := HFL.out; omega
        obtain ⟨S1, hS1, hS2, hl2⟩ : ∃ S1, Fsp.truncate S (Walp.seg l.dir l.last) (Walp.frames (Walp.scan g.data)).length = (S1, 0) ∧ Fsp.sync S1 (Walp.seg l.dir l.last) = (S2, 0) ∧ l2 = { l with cut := g.data.length - (Walp.frames (Walp.scan g.data)).length } := by
          rcases HM.out with ⟨e0, _⟩ | ⟨_, e2, S1, e3, e4⟩
          · rw [← hgf, hwh] at e0; cases e0
          · rw [← hgf] at e2 e3; exact ⟨S1, e3, e4, e2⟩
        unfold wholeF at hwh
        have hfle := frames_le g.data
        have hi1 : ¬ (n : Int) < (l.last : Int) := by omega
        obtain ⟨E, hE⟩ : ∃ E, E = (Walp.frames (Walp.scan g.data)).length := ⟨_, rfl⟩
        obtain ⟨cu, hcu⟩ : ∃ cu : Nat, cu = g.data.length - E := ⟨_, rfl⟩
        rw [← hE] at hS1 hl2 hfle hwh
        rw [← hcu] at hl2
        have hscan : ∀ (W : World) (v : Value), SumTab W → SliceC W v g.data → g.data.length ≤ 1073741824 → Calls Tryz.prog 45 #[v] W fun r w' => (∃ u, r = .returned (.tuple #[u, .int .i64 (E : Nat), .bool false]) ∧ ListsO w' W.heap.size u (Walp.scan g.data)) ∧ Turn (fun _ => False) W w' := by
          intro W v h1 h2 h3
          have h := scan_bool (x := false) (by rw [← hE]; exact hwh) h1 h2 h3
          rw [← hE] at h
          exact h
        have HSC := Lib.hid hscan
        clear hscan
        have hsub : (g.data.length : Int) - (E : Int) = (cu : Int) := by omega
        have HWH := Lib.hid hwh
        have HIE := Lib.hid hie
        have HT1 := Lib.hid hS1
        have HY1 := Lib.hid hS2
        have HL2 := Lib.hid hl2
        have HE := Lib.hid hE
        have HGF := Lib.hid hgf
        clear hwh hie hgf hnlast hS1 hS2 hl2 hfle hcu hE
        go_wp2_with fail
        go_region_held3 (fun w' => w'.cell? ⟨lp, 0, none⟩ = some (.pointer (some ⟨p, 0, none⟩)) ∧ w'.cell? ⟨lp, 1, none⟩ = some (.string (txt l.dir))) (first | (exact ⟨q0, q1⟩) | (exact ⟨d0, d1⟩) | go_keep) (first | (go_at_call 21; refine (name_any (txt l.dir) (txt_size _ HD.out) n HNL.out HNH.out _).mono ?_; rintro r w2 ⟨rfl, t2⟩; have hx2 := HX2.out.later (drewTurn t2); have q0 := hx2.log.cells.c0; have q1 := hx2.log.cells.c1) | (go_at_call 16; refine (read_file hx2 n HD.out HF.out).mono ?_; rintro r w3 ⟨⟨gb, rfl, hsl⟩, hsz, t3⟩; have hx3 := hx2.later t3; have q0 := hx3.log.cells.c0; have q1 := hx3.log.cells.c1))
        have HR3 := Lib.hid hx3
        have ht3 := (drewTurn t2).trans t3 (fun _ _ q => q)
        have HT3 := Lib.hid ht3
        have HSL := Lib.hid hsl
        have HSZ := Lib.hid hsz
        clear hx2 hx3 t2 t3 ht3 hsl hsz d0 d1
        go_wp2_with (first | (go_at_call 45; refine (HSC.out _ _ (HT2.out.turned HT3.out) HSL.out (by have := HSZ.out; omega)).mono ?_; rintro r w4 ⟨⟨u, rfl, hls4⟩, t4⟩; have hx4 := HR3.out.later t4; have r4 := hx4.log.cells.c4; have HR4 := Lib.hid hx4; have HLS4 := Lib.hid hls4; have HT4 := Lib.hid t4; clear hx4 hls4 t4) | (at_builtin; fail))
        have hcut := cutTo_ok HR4.out HD.out (by have := H1.out; have := HLA.out; omega) HL.out HS.out E HT1.out HY1.out
        go_at_call 46
        refine hcut.mono ?_
        rintro r w5 ⟨rfl, hP5⟩
        have hset : LogAt (w5.setCell ⟨lp, 5, none⟩ (.int .i64 (cu : Int))) lp p { l with cut := cu } := hP5.1.log.set rfl
        have f5 := hP5.1.log.cells.fr 5
        have m5 := hP5.1.log.cells.c5
        have hcub : (cu : Int) ≤ 67108864 := by have := HSZ.out; omega
        have HP5 := Lib.hid hP5
        have HSET := Lib.hid hset
        have hls6 := HLS.out.new (HT3.out.trans HT4.out (fun _ _ q => q))
        have hkeep : ∀ (v : Value) (m : List (List UInt8)), ListsO w4 w.heap.size v m → ListsO (w5.setCell ⟨lp, 5, none⟩ (.int .i64 (cu : Int))) w.heap.size v m := by
          intro v m h
          refine (h.turned HP5.out.2 (fun b cs t fr q hb => ?_)).turned (turnP w5 lp 5 (.int .i64 (cu : Int))) (fun b cs t fr q hb => ?_)
          · rcases q with q | q
            · have := HX.out.rep.lt b q; omega
            · have := HX.out.log.lt; omega
          · have := HX.out.log.lt; omega
        have hl1 := hkeep _ _ hls6
        have hl2' := hkeep _ _ (HLS4.out.mono (by have := HTT.out.size; have := HT3.out.size; omega))
        have hbb : w.heap.size ≤ (w5.setCell ⟨lp, 5, none⟩ (.int .i64 (cu : Int))).heap.size := by
          have h := HP5.out.2.size; have := HTT.out.size; have := HT3.out.size; have := HT4.out.size
          have hsz : (w5.setCell ⟨lp, 5, none⟩ (.int .i64 (cu : Int))).heap.size = w5.heap.size := by simp [World.setCell]
          omega
        have HLA1 := Lib.hid hl1
        have HLA2 := Lib.hid hl2'
        have HBB := Lib.hid hbb
        clear hcut hP5 hset hls6 hkeep hl1 hl2' hbb
        go_wp2_with (at_builtin; refine append_lists rfl (.tmp 68) (.tmp 69) rfl (base := w.heap.size) rfl rfl HLA1.out HLA2.out (by have := HRL.out; have := scan_le g.data; have := HSZ.out; omega) HBB.out ?_)
        intro sp6 cap6 w6 hls7 t6
        have HL6 := Lib.hid hls7
        have HT6 := Lib.hid t6
        clear hls7 t6
        have hn2 := HNH.out
        go_wp2
        go_roundw
        case rel =>
          refine ⟨i + 1, HLT.out, by have := HN.out; go_num, ⟨sp6, cap6, by rw [HRT.out, List.length_append], by rw [HRT.out, List.length_append]; exact HL6.out⟩, Or.inr ⟨HIE.out, ?_, fun h => by rw [← HGF.out] at h; unfold wholeF at h; rw [← HE.out, HWH.out] at h; cases h⟩⟩
          rw [HL2.out]
          refine (HP5.out.set HSET.out).aside HX.out ((HTT.out.trans HT3.out (fun _ _ q => q)).trans HT4.out (fun _ _ q => q)) HT6.out (fun b q => ?_)
          obtain ⟨xs, o1, _, _⟩ := HLS.out
          have h := own_block o1 q
          have := HT3.out.size; have := HT4.out.size
          omega
        case measure => have := HN.out; have := HLA.out; have := HIE.out; have := HFL.out; simp [intOf]; omega
    · have i1 : ¬ ((l.first + i : Nat) : Int) ≤ (l.last : Int) := by have := HFL.out; have := HLA.out; omega
      have d4 := hP.1.log.cells.c4
      have e4 : l2.last = l.last := by
        rcases HM.out with ⟨_, _, e2⟩ | ⟨_, e2, _⟩ <;> rw [e2]
      rw [e4] at d4
      subst hie
      rw [List.take_length] at *
      have HP := Lib.hid hP
      have HLS := Lib.hid hls
      clear hP hls
      generalize l.first + fs.length = n at *
      go_wp2
      go_ret2
      exact ⟨⟨_, rfl, HLS.out⟩, HP.out, hWT⟩

end
end Go.Proofs.YtinghngnehhgfaaGreatDoor

/-
  Open of a log.
-/
namespace Go.Proofs.YtinghngnehhgfaaGreatDoor
open Go.RowKit Go.Maps Go.WideMaps

section
variable {w0 w w' : World} {p lp : Nat} {S S' : Fsp.Fs} {c c' : Bool} {Q : Nat → Prop} {mo : Option Nat} {pl : List UInt8 → Pl} {l l' : Walp.Lg}

/-- a log that knows nothing of its files yet -/
def fresh (d : List UInt8) (sz : Nat) : Walp.Lg := ⟨d, sz, 0, 0, 0, false⟩

theorem down_rep (hr : Rep w p S Q) {b : Bool} (hd : S.down = b) : Calls Tryz.prog 22 #[.pointer (some ⟨p, 0, none⟩)] w fun r w' => r = .returned (.bool b) ∧ w = w' := by
  obtain ⟨mo, pl, h⟩ := hr
  exact down_is h hd

theorem valid_seg1 (d : List UInt8) (hd : d.length ≤ 1000) {b : Bool} (hv : Fsp.valid (Walp.seg d 1) = b) (w : World) : Calls Tryz.prog 20 #[.string (segName (txt d) 1)] w fun r w' => r = .returned (.bool b) ∧ w = w' := by
  have h := valid_any (segName (txt d) 1) (seg_size d 1 hd) w
  rw [segName_list, txt_list, hv] at h
  exact h

theorem LogX.made {w1 : World} (hr : Rep w p S Q) (hq : ∀ b, Q b → w0.heap.size ≤ b) (ht : Turn (fun _ => False) w0 w) (h1 : Turn (fun _ => False) w w1) (d : List UInt8) (sz : Nat) :
    LogX w0 (w1.alloc (.cells #[.pointer (some ⟨p, 0, none⟩), .string (txt d), .int .i64 (sz : Nat), .int .i64 0, .int .i64 0, .int .i64 0, .bool false] 53)) p S Q w1.heap.size (fresh d sz) := by
  have hl := hr.lt
  have s1 := h1.size
  have s0 := ht.size
  have h2 : Turn (fun _ => False) w (w1.alloc (.cells #[.pointer (some ⟨p, 0, none⟩), .string (txt d), .int .i64 (sz : Nat), .int .i64 0, .int .i64 0, .int .i64 0, .bool false] 53)) := h1.alloc _
  refine ⟨hr.turned h2 (fun _ _ q => q), ?_, fun q => by have := hl _ q; omega, by omega, hq, ht.trans h2 (fun _ _ q => q)⟩
  unfold LogAt
  exact heap_alloc_new w1 _

theorem found_dir (S : Fsp.Fs) (l : Walp.Lg) : (found S l).2.1.dir = l.dir := by
  unfold found; split <;> rfl

set_option maxRecDepth 100000 in
set_option maxHeartbeats 2000000 in
theorem open_ok (hT : SumTab w0) (hr : Rep w p S Q) (hq : ∀ b, Q b → w0.heap.size ≤ b) (ht : Turn (fun _ => False) w0 w) (d : List UInt8) (hv : Fsp.valid (Walp.seg d 1) = true) (sz : Nat) (hz1 : 16 ≤ sz) (hz2 : sz ≤ 1048576) (hdn : S.down = false)
    {S1 S2 : Fsp.Fs} {l1 l2 : Walp.Lg} (hf : found S (fresh d sz) = (S1, l1, 0)) (init : List Fsp.File) (f : Fsp.File) (hfs : ∀ (i : Nat) (g : Fsp.File), (init ++ [f])[i]? = some g → Fsp.find S1.L (Walp.seg d (l1.first + i)) = some g)
    (hlast : l1.last = l1.first + init.length) (h1 : 1 ≤ l1.first) (hl : l1.last < 100) (hw : ∀ g, g ∈ init → wholeF g.data = true) (hm : Mended S1 S2 l1 l2 f.data) (hs : S1.steps + 10 < 4611686018427387000) (hs0 : StepsLow S) :
    Calls Tryz.prog 7 #[.pointer (some ⟨p, 0, none⟩), .string (txt d), .int .i64 (sz : Nat)] w fun r w' => ∃ lp u Q', r = .returned (.tuple #[.pointer (some ⟨lp, 0, none⟩), u, .int .i64 0]) ∧ ListsO w' w.heap.size u (recsOf (init ++ [f])) ∧
      LogX w0 w' p S2 Q' lp l2 ∧ (∀ b, Q' b → Q b ∨ w.heap.size ≤ b) ∧ w.heap.size ≤ lp ∧ Turn Q w w' ∧ ((Walp.numsOf d (namesOf S d)).length ≠ 0 ∧ wholeF f.data = true → Turn (fun _ => False) w w') := by
  have hdl : d.length ≤ 91 := by
    have h := valid_size hv
    rw [Walp.seg_length] at h; omega
  have hdl2 : d.length ≤ 1000 := by omega
  have i1 : (16 : Int) ≤ (sz : Int) := by omega
  have i2 : (sz : Int) ≤ 1048576 := by omega
  have HT := Lib.hid hT
  have HR := Lib.hid hr
  have HQ := Lib.hid hq
  have HTT := Lib.hid ht
  have HV := Lib.hid hv
  have HD := Lib.hid hdn
  have HF := Lib.hid hf
  have HFS := Lib.hid hfs
  have HLA := Lib.hid hlast
  have H1 := Lib.hid h1
  have HL := Lib.hid hl
  have HW := Lib.hid hw
  have HM := Lib.hid hm
  have HS := Lib.hid hs
  have HDL := Lib.hid hdl2
  have HS0 := Lib.hid hs0
  clear hT hr hq ht hv hz1 hz2 hdn hf hfs hlast h1 hl hw hm hs hs0 hdl hdl2
  go_enter Tryz.func7, Tryz.ntmps7
  go_wp2_with (first | (go_at_call 21; refine (name_any (txt d) (txt_size _ HDL.out) 1 (by decide) (by decide) _).mono ?_; rintro r w2 ⟨rfl, t2⟩; have HT2 := Lib.hid t2; clear t2) | (go_at_call 20; refine (valid_seg1 d HDL.out HV.out _).mono ?_; rintro r w3 ⟨rfl, rfl⟩) | (go_at_call 22; refine (down_rep (HR.out.turned HT2.out (fun _ _ q => q)) HD.out).mono ?_; rintro r w3 ⟨rfl, rfl⟩) | (go_at_call 23; refine (clone_any (txt d) (by have := txt_size _ HDL.out; omega) _).mono ?_; rintro r w4 ⟨rfl, t4⟩; have HX5 := Lib.hid (LogX.made HR.out HQ.out HTT.out (HT2.out.trans t4 (fun _ _ q => q)) d sz); have HT5 := Lib.hid ((HT2.out.trans t4 (fun _ _ q => q)).alloc (.cells #[.pointer (some ⟨p, 0, none⟩), .string (txt d), .int .i64 (sz : Nat), .int .i64 0, .int .i64 0, .int .i64 0, .bool false] 53)); have HT4 := Lib.hid (HT2.out.trans t4 (fun _ _ q => q)); clear t4))
  have hx5 := HX5.out
  have ht5 := HT5.out
  clear HX5 HT5
  have hlp := HT4.out.size
  clear HT4 HT2
  go_at_call 24
  revert hx5 ht5
  generalize World.alloc w4 (.cells #[.pointer (some ⟨p, 0, none⟩), .string (txt d), .int .i64 (sz : Nat), .int .i64 0, .int .i64 0, .int .i64 0, .bool false] 53) = w5
  generalize w4.heap.size = lp at hlp ⊢
  intro hx5 ht5
  refine (find_seg hx5 HDL.out HS0.out (by show 0 < 100000000; omega) (by show 0 < 100000000; omega)).mono ?_
  rintro r w6 ⟨rfl, hP6, htl⟩
  rw [HF.out] at hP6 ⊢
  have HP6 := Lib.hid hP6
  have HTL := Lib.hid htl
  have HX5 := Lib.hid hx5
  have HT5 := Lib.hid ht5
  have HLP := Lib.hid hlp
  clear hP6 htl hx5 ht5 hlp
  have hdir : l1.dir = d := by
    have h := found_dir S (fresh d sz)
    rw [HF.out] at h; exact h
  have hread := read_ok (HT.out.turned HP6.out.1.turn) HP6.out.1 (by rw [hdir]; exact HDL.out) init f (by rw [hdir]; exact HFS.out) HLA.out H1.out HL.out HW.out HM.out HS.out
  have HRD := Lib.hid hread
  clear hread hdir
  go_wp2_with (go_at_call 25; refine HRD.out.mono ?_; rintro r w7 ⟨⟨u, rfl, hls⟩, hP7, hwt⟩)
  go_ret3
  have hP := HP6.out.trans hP7
  have s5 := HT5.out.size
  have s6 := HP6.out.2.size
  have hl := HR.out.lt
  refine ⟨lp, u, Grow Q w5 w7, rfl, hls.mono (by omega), hP.1, fun b q => ?_, HLP.out, ?_, fun h => ?_⟩
  · rcases q with q | q
    · exact Or.inl q
    · right; omega
  · refine (HT5.out.mono (fun _ q => q.elim)).trans hP.2 (fun i hi q => ?_)
    rcases q with q | q
    · exact q
    · have := HLP.out; omega
  · have h1 := HTL.out h.1
    have h2 := hwt h.2
    refine HT5.out.trans (h1.trans (h2.mono (fun _ q => q.elim)) (fun _ _ q => q)) (fun i hi q => ?_)
    have := HLP.out; omega
end
end Go.Proofs.YtinghngnehhgfaaGreatDoor
