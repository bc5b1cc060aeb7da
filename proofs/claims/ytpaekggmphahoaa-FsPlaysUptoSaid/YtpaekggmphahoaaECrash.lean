/-
  exref1: Crash.
-/
import Derived.Test.YtpaekggmphahoaaEKeep
import Derived.Test.YtpaekggmphahoaaETrunc
import Derived.Test.YtpaekggmphahoaaFpA
namespace Go.Proofs.Ytpaekggmphahoaa
open Go.RowKit Go.Maps Go.WideMaps
set_option linter.unusedVariables false
set_option linter.unusedSimpArgs false

/-- what a crash keeps of a name, by a number -/
def keepN (n : Int) (s : List UInt8) (_ : Nat) : Int := keepI ⟨s.toArray⟩ n
theorem crash_all (S : Fsp.Fs) (kf : List UInt8 → Nat → Int) : Fsp.crashTo S.L kf S.L.length = (Fsp.crash S kf).L := by
  unfold Fsp.crashTo Fsp.crash
  rw [List.take_length, List.drop_length, List.append_nil]; rfl
theorem crash_set {L : FL} (kf : List UInt8 → Nat → Int) {k : Nat} {x : List UInt8 × Fsp.File} (hx : L[k]? = some x) : (Fsp.crashTo L kf k)[k]? = some x ∧ (Fsp.crashTo L kf k).set k (Fsp.tornAt kf x) = Fsp.crashTo L kf (k + 1) := by
  obtain ⟨e1, e2⟩ := Fsp.crashTo_mid L kf hx
  have hk : ((L.take k).map (Fsp.tornAt kf)).length = k := by
    rw [List.length_map, List.length_take]; have := (List.getElem?_eq_some_iff.1 hx).1; omega
  rw [e1, e2]
  constructor
  · rw [List.getElem?_append_right (by omega), hk]; simp
  · rw [List.set_append, if_neg (by omega), hk]; simp
theorem crash_len (L : FL) (kf : List UInt8 → Nat → Int) (k : Nat) : (Fsp.crashTo L kf k).length = L.length := by
  unfold Fsp.crashTo; simp; omega
def pFile (base : Nat) (nm : Value) (d : List UInt8) (k : Int) : Said := fun v _ w => ∃ sp cap, v = .agg #[nm, .slice sp d.length cap, .int .i64 k] ∧ BytR w base (.slice sp d.length cap) d
theorem stab_file (base : Nat) (nm : Value) (d : List UInt8) (k : Int) : StabO (pFile base nm d k) := fun _ _ _ _ t ⟨sp, cap, e, h⟩ => ⟨sp, cap, e, h.only t⟩
theorem Grow.trans2 {Q : Nat → Prop} {a b c : World} (h : a.heap.size ≤ b.heap.size) (k : b.heap.size ≤ c.heap.size) {x : Nat} (g : Grow (Grow Q a b) b c x) : Grow Q a c x := by
  rcases g with (g | ⟨g1, g2⟩) | ⟨g1, g2⟩
  · exact Or.inl g
  · exact Or.inr ⟨g1, by omega⟩
  · exact Or.inr ⟨by omega, g2⟩

section
variable {w w1 w2 w' : World} {q : Nat} {S S' : Fsp.Fs} {Q Q' : Nat → Prop} {v : Value} {l : List RF}

/-- a file is written anew, its bytes a copy in new memory -/
theorem RefX.newfile {g cap i k : Nat} {x : RF} {d : List UInt8} {dv : Value} (h : RefX w q S Q (.slice (some ⟨g, 0, none⟩) l.length cap) l) (hx : l[i]? = some x) (t : Only w w1) (hb : BytR w1 w.heap.size dv d) {W : World}
    (hW : W = ((w1.setCell ⟨g, i * 3, none⟩ (encStr x.name)).setCell ⟨g, i * 3 + 1, none⟩ dv).setCell ⟨g, i * 3 + 2, none⟩ (.int .i64 (k : Int))) :
    RefX W q { S with L := (l.map RF.pair).set i (x.name, ⟨d, k⟩) } (Grow Q w W) (.slice (some ⟨g, 0, none⟩) l.length cap) (l.set i { x with f := ⟨d, k⟩, dv := dv }) ∧ Turn Q w W := by
  have h1 := h.same (Below.turn t (fun _ => False))
  have tg : Turn (fun b => b = g) w1 W := by
    rw [hW]
    exact (((Turn.refl (fun b => b = g) w1).set _ _ (Or.inl rfl) _).set _ _ (Or.inl rfl) _).set _ _ (Or.inl rfl) _
  have hil := (List.getElem?_eq_some_iff.1 hx).1
  have hrow := own_cell (own_cell (own_cell h1.row (i * 3) (encStr x.name)) (i * 3 + 1) dv) (i * 3 + 2) (.int .i64 (k : Int))
  rw [← hW, ← rfC_set { x with f := ⟨d, k⟩, dv := dv } hil] at hrow
  have hQg : Q g := h.inR g rfl
  have hgz := h.lt g hQg
  refine ⟨h1.inplace (S' := { S with L := (l.map RF.pair).set i (x.name, ⟨d, k⟩) }) (x' := { x with f := ⟨d, k⟩, dv := dv }) hx rfl tg hrow (hb.toN.turned tg (fun h0 r hr e => by have := (hb.new r hr).1; omega)) (fun b hb => Or.inl hb)
    (fun b hb2 => by rcases hb2 with k | k; exact Nat.lt_of_lt_of_le (h1.lt b k) tg.size; exact k.2) (fun h0 r hr => by
      obtain ⟨k1, k2⟩ := hb.new r hr
      have hqz := h.lt q h.inQ
      exact ⟨Or.inr ⟨k1, Nat.lt_of_lt_of_le k2 tg.size⟩, by omega, by omega⟩) rfl ⟨rfl, rfl, rfl, rfl⟩, ((Below.turn t (fun _ => False)).mono fun _ e => e.elim).trans (tg.mono fun b e => by rw [e]; exact hQg) (fun _ _ e => e)⟩

theorem crash_next {g cap k K m : Nat} {n : Int} {x : RF} {d : List UInt8} {dv : Value} {wr : World} {l' : List RF} (HT : Turn Q w wr) (h : RefX wr q { S with L := Fsp.crashTo S.L (keepN n) k } (Grow Q w wr) (.slice (some ⟨g, 0, none⟩) m cap) l') (hl : l'.length = m) (hx : l'[k]? = some x) (t : Only wr w1) (hb : BytR w1 wr.heap.size dv d)
    (ht : Fsp.tornAt (keepN n) (x.name, x.f) = (x.name, ⟨d, K⟩)) (hs : (Fsp.crashTo S.L (keepN n) k).set k (Fsp.tornAt (keepN n) (x.name, x.f)) = Fsp.crashTo S.L (keepN n) (k + 1)) {W : World}
    (hW : W = ((w1.setCell ⟨g, k * 3, none⟩ (.string ⟨x.name.toArray⟩)).setCell ⟨g, k * 3 + 1, none⟩ dv).setCell ⟨g, k * 3 + 2, none⟩ (.int .i64 (K : Int))) :
    RefX W q { S with L := Fsp.crashTo S.L (keepN n) (k + 1) } (Grow Q w W) (.slice (some ⟨g, 0, none⟩) m cap) (l'.set k { x with f := ⟨d, K⟩, dv := dv }) ∧ Turn Q w W := by
  subst hl
  obtain ⟨h5, t5⟩ := h.newfile (k := K) hx t hb hW
  have e : (l'.map RF.pair).set k (x.name, ⟨d, K⟩) = Fsp.crashTo S.L (keepN n) (k + 1) := by rw [← hs, ht, ← h.L]
  rw [e] at h5
  refine ⟨h5.mono (fun b hb => hb.trans2 HT.size t5.size) (fun b hb => ?_), HT.trans t5 (fun b hb g => ?_)⟩
  · rcases hb with k | k
    · exact h5.lt b (Or.inl (Or.inl k))
    · exact k.2
  · rcases g with g | g
    · exact g
    · have := g.1; omega

theorem rcrash_end {k : Nat} {n : Int} {wr : World} {l' : List RF} (HT : Turn Q w wr) (h : RefX wr q { S with L := Fsp.crashTo S.L (keepN n) k } (Grow Q w wr) v l') (e : Fsp.crashTo S.L (keepN n) k = (Fsp.crash S (keepN n)).L) (hq : Q q) (hlt : ∀ b, Q b → b < w.heap.size) :
    RPost w q (Fsp.crash S (keepN n)) Q ((wr.setCell ⟨q, 3, none⟩ (.int .i64 0)).setCell ⟨q, 4, none⟩ (.bool false)) := by
  have tq : Turn (fun b => b = q) wr ((wr.setCell ⟨q, 3, none⟩ (.int .i64 0)).setCell ⟨q, 4, none⟩ (.bool false)) := ((Turn.refl (fun b => b = q) wr).set _ _ (Or.inl rfl) _).set _ _ (Or.inl rfl) _
  have hx := h.headed (S' := Fsp.crash S (keepN n)) (hset (hset h.head _) _) tq e.symm
  exact ⟨⟨_, _, hx.mono (fun b hb => by rcases hb with k | k; exact Or.inl k; exact Or.inr ⟨k.1, Nat.lt_of_lt_of_le k.2 tq.size⟩) (fun b hb => by
    rcases hb with k | k
    · exact Nat.lt_of_lt_of_le (hlt b k) (Nat.le_trans HT.size tq.size)
    · exact k.2)⟩, HT.trans tq (fun b _ e => by rw [e]; exact hq)⟩

set_option maxRecDepth 100000 in
set_option maxHeartbeats 1600000 in
theorem rCrash_any (h : RefX w q S Q v l) (hg : Fsp.Good S) (n : Int) (hn : -9223372036854775808 ≤ n ∧ n ≤ 9223372036854775807) :
    Calls Try.prog 62 #[.pointer (some ⟨q, 0, none⟩), .int .i64 n] w fun r w' => r = .returned (.tuple #[]) ∧ RPost w q (Fsp.crash S (keepN n)) Q w' := by
  obtain ⟨m, hm⟩ : ∃ m, m = l.length := ⟨_, rfl⟩
  have HM := Lib.hid hm
  have hml := Good.len hg h
  obtain ⟨sp, cap, rfl⟩ := h.form
  rw [← hm] at hml h
  have c1 := h.cells.c1
  have H := Lib.hid h
  have HG := Lib.hid hg
  have hm1 : (m : Int) ≤ 400 := by omega
  have hR0 : Hid (RefX w q { S with L := Fsp.crashTo S.L (keepN n) 0 } (Grow Q w w) (.slice sp m cap) l) := Lib.hid (by
    have e : Fsp.crashTo S.L (keepN n) 0 = S.L := by unfold Fsp.crashTo; simp
    rw [e]
    exact h.mono (fun b hb => Or.inl hb) (fun b hb => by rcases hb with k | k; exact h.lt b k; exact k.2))
  clear h hg hm hml
  go_enter Try.func62, Try.ntmps62
  go_wp2_with fail
  go_loopw [4] (fun i wr => ∃ (k : Nat) (l' : List RF), k ≤ m ∧ i = .int .i64 (k : Int) ∧ l'.length = m ∧ RefX wr q { S with L := Fsp.crashTo S.L (keepN n) k } (Grow Q w wr) (.slice sp m cap) l' ∧ Turn Q w wr) (fun i _ => m - (intOf i).toNat)
  case atStart => exact ⟨0, l, Nat.zero_le _, rfl, HM.out.symm, hR0.out, Turn.refl _ _⟩
  case round =>
    obtain ⟨k, l', hk, rfl, hl', hR, hT⟩ := hrel
    clear c1
    have c1 := hR.cells.c1
    have HL := Lib.hid hl'
    have HR := Lib.hid hR
    have HT := Lib.hid hT
    clear hl' hR hT hR0
    by_cases hlt : k < m
    · have j1 : (k : Int) < (m : Int) := by omega
      obtain ⟨x, hx⟩ : ∃ x, l'[k]? = some x := ⟨_, List.getElem?_eq_getElem (by rw [HL.out]; exact hlt)⟩
      obtain ⟨g, cap', ev, c2, c3, c5, fr⟩ := HR.out.at hx
      simp only [Value.slice.injEq] at ev
      obtain ⟨rfl, -, -⟩ := ev
      have hSk : S.L[k]? = some (x.name, x.f) := by
        have hp := HR.out.pair hx
        obtain ⟨y, hy⟩ : ∃ y, S.L[k]? = some y := ⟨_, List.getElem?_eq_getElem (by rw [H.out.n, ← HM.out]; exact hlt)⟩
        rw [hy]
        exact (crash_set (keepN n) hy).1.symm.trans hp
      obtain ⟨-, hset⟩ := crash_set (keepN n) hSk
      have hfi : Fsp.find S.L x.name = some x.f := Fsp.mem_find HG.out.1 (List.mem_of_getElem? hSk)
      obtain ⟨hval, hsy⟩ := HG.out.2.2.2.2.2 _ _ hfi
      have hdl := Fsp.used_find hfi
      have hdl2 : x.f.data.length ≤ 67108864 := by have h2 := HG.out.2.1; have h3 := HG.out.2.2.1; omega
      have hns : (⟨x.name.toArray⟩ : ByteArray).size ≤ 100 := by
        have e : (⟨x.name.toArray⟩ : ByteArray).size = x.name.length := by simp [ByteArray.size]
        rw [e]; unfold Fsp.valid at hval; simp at hval; omega
      have KP : Hid (∀ W, Calls Try.prog 61 #[.string ⟨x.name.toArray⟩, .int .i64 n] W fun r w' => r = .returned (.int .i64 (keepI ⟨x.name.toArray⟩ n)) ∧ w' = W) := Lib.hid (fun W => (rKeep_any _ (by unfold maxLen; omega) n hn W).mono (by rintro r w' ⟨rfl, rfl⟩; exact ⟨rfl, rfl⟩))
      have HSET := Lib.hid hset
      have HSK := Lib.hid hSk
      have HX := Lib.hid hx
      have HSY := Lib.hid hsy
      have HDLL := Lib.hid hdl2
      clear hset hSk hfi hval hdl hns
      rcases HR.out.data k x hx with ⟨hdv, hd0⟩ | ⟨ad, cp, hdv, hcp, hsp, hcell⟩
      · have hsy0 : x.f.synced = 0 := by rw [hd0] at hsy; simpa using hsy
        obtain ⟨d, hd⟩ : ∃ d : List UInt8, d = [] := ⟨_, rfl⟩
        have HD0 := Lib.hid hd
        have HDL : Hid (d.length = 0) := Lib.hid (by rw [hd]; rfl)
        have HTORN : Hid (Fsp.tornAt (keepN n) (x.name, x.f) = (x.name, ⟨d, 0⟩)) := Lib.hid (by
          unfold Fsp.tornAt Fsp.torn
          simp only
          rw [if_neg (by rw [hsy0, hd0]; simp), hd]
          have e : x.f = ⟨x.f.data, x.f.synced⟩ := rfl
          rw [e, hd0, hsy0])
        have c3' : wr.cell? ⟨g, k * 3 + 1, none⟩ = some (.slice none 0 0) := by rw [hdv] at c3; exact c3
        have c5' : wr.cell? ⟨g, k * 3 + 2, none⟩ = some (.int .i64 (0 : Int)) := by rw [hsy0] at c5; exact c5
        clear hd hsy hdl2 hsy0 hd0 hdv c3 c5
        go_upto_region 7 with (fail)
        generalize hwa : wr.alloc _ = w6
        have hb0 : w6.heap[wr.heap.size]? = some (.cells #[.string ⟨x.name.toArray⟩, .slice none 0 0, .int .i64 (0 : Int)] 44 (0, 0)) := by
          rw [← hwa]; show (wr.heap.push _)[wr.heap.size]? = _; rw [Array.getElem?_push_size]
        have k0 : w6.cell? ⟨wr.heap.size, 0, none⟩ = some (.string ⟨x.name.toArray⟩) := by simp [World.cell?, hb0]
        have k1 : w6.cell? ⟨wr.heap.size, 1, none⟩ = some (.slice none 0 0) := by simp [World.cell?, hb0]
        have k2 : w6.cell? ⟨wr.heap.size, 2, none⟩ = some (.int .i64 (0 : Int)) := by simp [World.cell?, hb0]
        have t6 : Only wr w6 := by rw [← hwa]; exact (Only.refl wr).alloc _
        have T6 := Lib.hid t6
        have k3 := t6.cellM c1
        clear hb0 hwa t6 c1 c2 c3' c5' fr
        have HS6 : Hid (SliceN w6 (.slice none 0 0) d) := Lib.hid (Or.inl ⟨rfl, HD0.out⟩)
        refine wp_rich_tail 14 [pVal ?zc0, pVal ?zc1, pVal ?zc2, pVal ?zc3, pVal ?zc4, pVal ?zc5, pVal ?zc6, pVal ?zc7, pVal ?zc8, pVal ?zc9, pVal ?zc10, pByt w6.heap.size d, pVal ?zc12, pFile w6.heap.size (.string ⟨x.name.toArray⟩) d (0 : Int)] (F := ?F7c) (by kernel_rfl) (by kernel_rfl) (by kernel_rfl) (by kernel_rfl) (by kernel_rfl) (by kernel_rfl) (by kernel_rfl) ?hF7c ?hst7c ?hO7c ?hend7c
        case hF7c =>
          intro vs
          simp only [List.take_succ_cons, List.take_zero, fills]
          go_simp
          exact rfl
        case hst7c =>
          simp only [List.take_succ_cons, List.take_zero, StepsP]
          refine ⟨?_, ?_, ?_, ?_, ?_, ?_, ?_, ?_, ?_, ?_, ?_, ?_, ?_, ?_, trivial⟩
          case refine_1 | refine_2 | refine_3 | refine_4 | refine_5 | refine_6 | refine_7 | refine_8 | refine_9 | refine_10 | refine_11 | refine_13 =>
            intro vs W hW hd K' hK
            have m0 := hW.cellM k0
            have m1 := hW.cellM k1
            have m3 := hW.cellM k3
            simp [depsOf, Region.binds, List.filter_cons, GotAll, saidV, pVal] at hd
            unfold RichAt
            go_simp
            refine hK _ _ (Only.refl _) ?_
            exact rfl
          case refine_12 =>
            intro vs W hW hd K' hK
            simp [depsOf, Region.binds, List.filter_cons, GotAll, saidV, pVal] at hd
            unfold RichAt
            go_simp
            refine (bytes_any (d := d) ((HS6.out.only hW).toI) (by rw [HDL.out]; have := HDLL.out; omega)).mono ?_
            rintro e w' ⟨sp', cap', rfl, hb, tt⟩
            exact ⟨_, rfl, hK _ _ tt ⟨sp', cap', rfl, hb.lower hW.size⟩⟩
          case refine_14 =>
            intro vs W hW hd K' hK
            simp [depsOf, Region.binds, List.filter_cons, GotAll, saidV, pVal, pByt] at hd
            obtain ⟨e6, ⟨sp', cap', e11, hb⟩, e12⟩ := hd
            unfold RichAt
            go_simp
            try simp only [e6, e11, e12]
            go_simp
            exact hK _ _ (Only.refl _) ⟨sp', cap', rfl, hb⟩
        case hO7c =>
          simp only [List.forall_mem_cons]
          exact ⟨stab_val _, stab_val _, stab_val _, stab_val _, stab_val _, stab_val _, stab_val _, stab_val _, stab_val _, stab_val _, stab_val _, stab_byt _ _, stab_val _, stab_file _ _ _ _, fun _ h => by cases h⟩
        case hend7c =>
          intro vs W hW hg
          simp [List.range_succ, depsOf, Region.binds, List.filter_cons, GotAll, saidV, pVal, pFile] at hg
          obtain ⟨e0, e1, e2, e3, e4, e5, e6, e7, e8, e9, e10, e11, e12, e13⟩ := hg
          obtain ⟨sp5, cap5, e13, hb5⟩ := e13
          have tW : Only wr W := T6.out.trans hW
          have hxW := HR.out.same (Below.turn tW (fun _ => False))
          obtain ⟨g6, cap6, ev6, q2, q3, q5, fr6⟩ := hxW.at HX.out
          simp only [Value.slice.injEq, Option.some.injEq, Addr.mk.injEq] at ev6
          obtain ⟨⟨rfl, -, -⟩, -, rfl⟩ := ev6
          have g0 := fr6 (k * 3)
          have g1 := fr6 (k * 3 + 1)
          have g2 := fr6 (k * 3 + 2)
          have gz : g < W.heap.size := hxW.lt g (hxW.inR g rfl)
          have HFIN : Hid (∀ W5, W5 = ((W.setCell ⟨g, k * 3, none⟩ (.string ⟨x.name.toArray⟩)).setCell ⟨g, k * 3 + 1, none⟩ (.slice sp5 d.length cap5)).setCell ⟨g, k * 3 + 2, none⟩ (.int .i64 (0 : Int)) → RefX W5 q { S with L := Fsp.crashTo S.L (keepN n) (k + 1) } (Grow Q w W5) (.slice (some ⟨g, 0, none⟩) m cap) (l'.set k { x with f := ⟨d, 0⟩, dv := .slice sp5 d.length cap5 }) ∧ Turn Q w W5) := Lib.hid (fun W5 e5 => crash_next (K := 0) HT.out HR.out HL.out HX.out tW (hb5.lower T6.out.size) HTORN.out HSET.out e5)
          clear hxW fr6 hb5 tW hW k0 k1 k2 k3
          simp only [List.drop_succ_cons, List.drop_zero, e0, e1, e2, e3, e4, e5, e6, e7, e8, e9, e10, e11, e12, e13]
          clear e0 e1 e2 e3 e4 e5 e6 e7 e8 e9 e10 e11 e12 e13
          go_wp2_with fail
          exact ⟨⟨k + 1, _, by omega, by go_num, by rw [List.length_set]; exact HL.out, (HFIN.out _ rfl).1, (HFIN.out _ rfl).2⟩, by simp [intOf]; omega⟩
      · rw [hdv] at c3
        have hcpD : (x.f.data.length : Int) ≤ (cp : Int) := by omega
        have HSN : Hid (SliceN wr (.slice (some ad) x.f.data.length cp) x.f.data) := Lib.hid (Or.inr ⟨ad, cp, rfl, hcp, hsp, hcell⟩)
        have HQG : Hid (g < wr.heap.size) := Lib.hid (HR.out.lt g (HR.out.inR g rfl))
        clear hdv hcell hsp
        by_cases htorn : x.f.synced < x.f.data.length
        · have htornI : (x.f.synced : Int) < (x.f.data.length : Int) := by omega
          obtain ⟨K, hK⟩ : ∃ K : Nat, K = x.f.synced + min (keepI ⟨x.name.toArray⟩ n).toNat (x.f.data.length - x.f.synced) := ⟨_, rfl⟩
          have hKi : (x.f.synced : Int) + min (max (keepI ⟨x.name.toArray⟩ n) 0) ((x.f.data.length : Int) - (x.f.synced : Int)) = (K : Int) := by omega
          have HK := Lib.hid hK
          have hKD : (K : Int) ≤ (x.f.data.length : Int) := by omega
          clear hK hsy hdl2
          go_upto_region 6 with (fail)
          generalize hwa : wr.alloc _ = wa
          have HWA := Lib.hid hwa
          have hb0 : wa.heap[wr.heap.size]? = some (.cells #[.string ⟨x.name.toArray⟩, .slice (some ad) x.f.data.length cp, .int .i64 (x.f.synced : Int)] 44 (0, 0)) := by
            rw [← hwa]; show (wr.heap.push _)[wr.heap.size]? = _; rw [Array.getElem?_push_size]
          have b0 : wa.cell? ⟨wr.heap.size, 0, none⟩ = some (.string ⟨x.name.toArray⟩) := by simp [World.cell?, hb0]
          have b1 : wa.cell? ⟨wr.heap.size, 1, none⟩ = some (.slice (some ad) x.f.data.length cp) := by simp [World.cell?, hb0]
          have b2 : wa.cell? ⟨wr.heap.size, 2, none⟩ = some (.int .i64 (x.f.synced : Int)) := by simp [World.cell?, hb0]
          have ta : Only wr wa := by rw [← hwa]; exact (Only.refl wr).alloc _
          have TA := Lib.hid ta
          have c1a := ta.cellM c1
          clear hb0 hwa ta c1 c2 c3 c5 fr
          have d0 : ∀ n : Cone wa, n.out.cell? ⟨wr.heap.size, 0, none⟩ = some (.string ⟨x.name.toArray⟩) := fun n => n.only.cellM b0
          have d1 : ∀ n : Cone wa, n.out.cell? ⟨wr.heap.size, 1, none⟩ = some (.slice (some ad) x.f.data.length cp) := fun n => n.only.cellM b1
          refine wp_region_cone (by kernel_rfl) (by kernel_rfl) ?_
          repeat (any_goals (first | go_big_quiet_step ((go_at_call 61; with_reducible exact Cone.same (KP.out _))) | quiet_step ((go_at_call 61; with_reducible exact Cone.same (KP.out _)))))
          refine wpQuiet_nil ?_
          rintro w6 ⟨⟨_, t6⟩, rfl⟩
          have k0 := t6.cellM b0
          have k1 := t6.cellM b1
          have k2 := t6.cellM b2
          have k3 := t6.cellM c1a
          have T6 : Hid (Only wr w6) := Lib.hid (TA.out.trans t6)
          clear t6 b0 b1 b2 c1a
          have eW : wrap64 ((x.f.data.length : Int) - (x.f.synced : Int)) = (x.f.data.length : Int) - (x.f.synced : Int) := (by unfold wrap64; have := HDLL.out; omega)
          have eK : wrap64 ((x.f.synced : Int) + min (max (keepI ⟨x.name.toArray⟩ n) 0) ((x.f.data.length : Int) - (x.f.synced : Int))) = (K : Int) := by rw [hKi]; unfold wrap64; have := HDLL.out; omega
          rw [eW, eK]
          clear eW eK hKi
          obtain ⟨d, hd⟩ : ∃ d, d = x.f.data.take K := ⟨_, rfl⟩
          have HDL := Lib.hid (show d.length = K by rw [hd, List.length_take]; omega)
          have HTORN : Hid (Fsp.tornAt (keepN n) (x.name, x.f) = (x.name, ⟨d, K⟩)) := Lib.hid (by
            have e := HK.out
            unfold Fsp.tornAt Fsp.torn keepN
            simp only
            rw [if_pos htorn, ← e, hd])
          have HS6 : Hid (SliceN w6 (.slice (some ad) K cp) d) := Lib.hid (by rw [hd]; exact (HSN.out.only T6.out).take (by omega) (by simp))
          have hcpK : (K : Int) ≤ (cp : Int) := by omega
          clear hd
          go_upto_region 7 with (fail)
          refine wp_rich_tail 14 [pVal ?za0, pVal ?za1, pVal ?za2, pVal ?za3, pVal ?za4, pVal ?za5, pVal ?za6, pVal ?za7, pVal ?za8, pVal ?za9, pVal ?za10, pByt w6.heap.size d, pVal ?za12, pFile w6.heap.size (.string ⟨x.name.toArray⟩) d (K : Int)] (F := ?F7a) (by kernel_rfl) (by kernel_rfl) (by kernel_rfl) (by kernel_rfl) (by kernel_rfl) (by kernel_rfl) (by kernel_rfl) ?hF7a ?hst7a ?hO7a ?hend7a
          case hF7a =>
            intro vs
            simp only [List.take_succ_cons, List.take_zero, fills]
            go_simp
            exact rfl
          case hst7a =>
            simp only [List.take_succ_cons, List.take_zero, StepsP]
            refine ⟨?_, ?_, ?_, ?_, ?_, ?_, ?_, ?_, ?_, ?_, ?_, ?_, ?_, ?_, trivial⟩
            case refine_1 | refine_2 | refine_3 | refine_4 | refine_5 | refine_6 | refine_7 | refine_8 | refine_9 | refine_10 | refine_11 | refine_13 =>
              intro vs W hW hd K' hK
              have m0 := hW.cellM k0
              have m1 := hW.cellM k1
              have m3 := hW.cellM k3
              simp [depsOf, Region.binds, List.filter_cons, GotAll, saidV, pVal] at hd
              unfold RichAt
              go_simp
              refine hK _ _ (Only.refl _) ?_
              exact rfl
            case refine_12 =>
              intro vs W hW hd K' hK
              simp [depsOf, Region.binds, List.filter_cons, GotAll, saidV, pVal] at hd
              unfold RichAt
              go_simp
              refine (bytes_any (d := d) ((HS6.out.only hW).toI) (by rw [HDL.out]; have := HDLL.out; omega)).mono ?_
              rintro e w' ⟨sp', cap', rfl, hb, tt⟩
              exact ⟨_, rfl, hK _ _ tt ⟨sp', cap', rfl, hb.lower hW.size⟩⟩
            case refine_14 =>
              intro vs W hW hd K' hK
              simp [depsOf, Region.binds, List.filter_cons, GotAll, saidV, pVal, pByt] at hd
              obtain ⟨e6, ⟨sp', cap', e11, hb⟩, e12⟩ := hd
              unfold RichAt
              go_simp
              try simp only [e6, e11, e12]
              go_simp
              exact hK _ _ (Only.refl _) ⟨sp', cap', rfl, hb⟩
          case hO7a =>
            simp only [List.forall_mem_cons]
            exact ⟨stab_val _, stab_val _, stab_val _, stab_val _, stab_val _, stab_val _, stab_val _, stab_val _, stab_val _, stab_val _, stab_val _, stab_byt _ _, stab_val _, stab_file _ _ _ _, fun _ h => by cases h⟩
          case hend7a =>
            intro vs W hW hg
            simp [List.range_succ, depsOf, Region.binds, List.filter_cons, GotAll, saidV, pVal, pFile] at hg
            obtain ⟨e0, e1, e2, e3, e4, e5, e6, e7, e8, e9, e10, e11, e12, e13⟩ := hg
            obtain ⟨sp5, cap5, e13, hb5⟩ := e13
            have tW : Only wr W := T6.out.trans hW
            have hxW := HR.out.same (Below.turn tW (fun _ => False))
            obtain ⟨g6, cap6, ev6, q2, q3, q5, fr6⟩ := hxW.at HX.out
            simp only [Value.slice.injEq, Option.some.injEq, Addr.mk.injEq] at ev6
            obtain ⟨⟨rfl, -, -⟩, -, rfl⟩ := ev6
            have g0 := fr6 (k * 3)
            have g1 := fr6 (k * 3 + 1)
            have g2 := fr6 (k * 3 + 2)
            have gz : g < W.heap.size := hxW.lt g (hxW.inR g rfl)
            have HFIN : Hid (∀ W5, W5 = ((W.setCell ⟨g, k * 3, none⟩ (.string ⟨x.name.toArray⟩)).setCell ⟨g, k * 3 + 1, none⟩ (.slice sp5 d.length cap5)).setCell ⟨g, k * 3 + 2, none⟩ (.int .i64 (K : Int)) → RefX W5 q { S with L := Fsp.crashTo S.L (keepN n) (k + 1) } (Grow Q w W5) (.slice (some ⟨g, 0, none⟩) m cap) (l'.set k { x with f := ⟨d, K⟩, dv := .slice sp5 d.length cap5 }) ∧ Turn Q w W5) := Lib.hid (fun W5 e5 => crash_next HT.out HR.out HL.out HX.out tW (hb5.lower T6.out.size) HTORN.out HSET.out e5)
            clear hxW fr6 hb5 tW hW k0 k1 k2 k3
            simp only [List.drop_succ_cons, List.drop_zero, e0, e1, e2, e3, e4, e5, e6, e7, e8, e9, e10, e11, e12, e13]
            clear e0 e1 e2 e3 e4 e5 e6 e7 e8 e9 e10 e11 e12 e13
            go_wp2_with fail
            exact ⟨⟨k + 1, _, by omega, by go_num, by rw [List.length_set]; exact HL.out, (HFIN.out _ rfl).1, (HFIN.out _ rfl).2⟩, by simp [intOf]; omega⟩
        · obtain ⟨K, hK⟩ : ∃ K : Nat, K = x.f.synced := ⟨_, rfl⟩
          have heq : x.f.synced = x.f.data.length := by omega
          have hnt : ¬ ((x.f.synced : Int) < (x.f.data.length : Int)) := by omega
          obtain ⟨d, hd⟩ : ∃ d, d = x.f.data := ⟨_, rfl⟩
          have HDL : Hid (d.length = K) := Lib.hid (by rw [hd]; omega)
          have HTORN : Hid (Fsp.tornAt (keepN n) (x.name, x.f) = (x.name, ⟨d, K⟩)) := Lib.hid (by
            unfold Fsp.tornAt Fsp.torn
            simp only
            rw [if_neg htorn, hd, hK])
          have hcpK : (K : Int) ≤ (cp : Int) := by omega
          have hKD : (K : Int) ≤ (x.f.data.length : Int) := by omega
          have HSK6 : Hid (SliceN wr (.slice (some ad) K cp) d) := Lib.hid (by rw [hd, hK, heq]; exact HSN.out)
          have hKi : (x.f.synced : Int) = (K : Int) := by omega
          clear hd hK hsy hdl2 heq htorn
          go_upto_region 7 with (fail)
          generalize hwa : wr.alloc _ = w6
          have hb0 : w6.heap[wr.heap.size]? = some (.cells #[.string ⟨x.name.toArray⟩, .slice (some ad) x.f.data.length cp, .int .i64 (K : Int)] 44 (0, 0)) := by
            rw [← hwa]; show (wr.heap.push _)[wr.heap.size]? = _; rw [Array.getElem?_push_size]
          have k0 : w6.cell? ⟨wr.heap.size, 0, none⟩ = some (.string ⟨x.name.toArray⟩) := by simp [World.cell?, hb0]
          have k1 : w6.cell? ⟨wr.heap.size, 1, none⟩ = some (.slice (some ad) x.f.data.length cp) := by simp [World.cell?, hb0]
          have k2 : w6.cell? ⟨wr.heap.size, 2, none⟩ = some (.int .i64 (K : Int)) := by simp [World.cell?, hb0]
          have t6 : Only wr w6 := by rw [← hwa]; exact (Only.refl wr).alloc _
          have T6 := Lib.hid t6
          have k3 := t6.cellM c1
          clear hb0 hwa t6 c1 c2 c3 c5 fr
          have HS6 : Hid (SliceN w6 (.slice (some ad) K cp) d) := Lib.hid (HSK6.out.only T6.out)
          try rw [hKi]
          clear hKi
          refine wp_rich_tail 14 [pVal ?zb0, pVal ?zb1, pVal ?zb2, pVal ?zb3, pVal ?zb4, pVal ?zb5, pVal ?zb6, pVal ?zb7, pVal ?zb8, pVal ?zb9, pVal ?zb10, pByt w6.heap.size d, pVal ?zb12, pFile w6.heap.size (.string ⟨x.name.toArray⟩) d (K : Int)] (F := ?F7b) (by kernel_rfl) (by kernel_rfl) (by kernel_rfl) (by kernel_rfl) (by kernel_rfl) (by kernel_rfl) (by kernel_rfl) ?hF7b ?hst7b ?hO7b ?hend7b
          case hF7b =>
            intro vs
            simp only [List.take_succ_cons, List.take_zero, fills]
            go_simp
            exact rfl
          case hst7b =>
            simp only [List.take_succ_cons, List.take_zero, StepsP]
            refine ⟨?_, ?_, ?_, ?_, ?_, ?_, ?_, ?_, ?_, ?_, ?_, ?_, ?_, ?_, trivial⟩
            case refine_1 | refine_2 | refine_3 | refine_4 | refine_5 | refine_6 | refine_7 | refine_8 | refine_9 | refine_10 | refine_11 | refine_13 =>
              intro vs W hW hd K' hK
              have m0 := hW.cellM k0
              have m1 := hW.cellM k1
              have m3 := hW.cellM k3
              simp [depsOf, Region.binds, List.filter_cons, GotAll, saidV, pVal] at hd
              unfold RichAt
              go_simp
              refine hK _ _ (Only.refl _) ?_
              exact rfl
            case refine_12 =>
              intro vs W hW hd K' hK
              simp [depsOf, Region.binds, List.filter_cons, GotAll, saidV, pVal] at hd
              unfold RichAt
              go_simp
              refine (bytes_any (d := d) ((HS6.out.only hW).toI) (by rw [HDL.out]; have := HDLL.out; omega)).mono ?_
              rintro e w' ⟨sp', cap', rfl, hb, tt⟩
              exact ⟨_, rfl, hK _ _ tt ⟨sp', cap', rfl, hb.lower hW.size⟩⟩
            case refine_14 =>
              intro vs W hW hd K' hK
              simp [depsOf, Region.binds, List.filter_cons, GotAll, saidV, pVal, pByt] at hd
              obtain ⟨e6, ⟨sp', cap', e11, hb⟩, e12⟩ := hd
              unfold RichAt
              go_simp
              try simp only [e6, e11, e12]
              go_simp
              exact hK _ _ (Only.refl _) ⟨sp', cap', rfl, hb⟩
          case hO7b =>
            simp only [List.forall_mem_cons]
            exact ⟨stab_val _, stab_val _, stab_val _, stab_val _, stab_val _, stab_val _, stab_val _, stab_val _, stab_val _, stab_val _, stab_val _, stab_byt _ _, stab_val _, stab_file _ _ _ _, fun _ h => by cases h⟩
          case hend7b =>
            intro vs W hW hg
            simp [List.range_succ, depsOf, Region.binds, List.filter_cons, GotAll, saidV, pVal, pFile] at hg
            obtain ⟨e0, e1, e2, e3, e4, e5, e6, e7, e8, e9, e10, e11, e12, e13⟩ := hg
            obtain ⟨sp5, cap5, e13, hb5⟩ := e13
            have tW : Only wr W := T6.out.trans hW
            have hxW := HR.out.same (Below.turn tW (fun _ => False))
            obtain ⟨g6, cap6, ev6, q2, q3, q5, fr6⟩ := hxW.at HX.out
            simp only [Value.slice.injEq, Option.some.injEq, Addr.mk.injEq] at ev6
            obtain ⟨⟨rfl, -, -⟩, -, rfl⟩ := ev6
            have g0 := fr6 (k * 3)
            have g1 := fr6 (k * 3 + 1)
            have g2 := fr6 (k * 3 + 2)
            have gz : g < W.heap.size := hxW.lt g (hxW.inR g rfl)
            have HFIN : Hid (∀ W5, W5 = ((W.setCell ⟨g, k * 3, none⟩ (.string ⟨x.name.toArray⟩)).setCell ⟨g, k * 3 + 1, none⟩ (.slice sp5 d.length cap5)).setCell ⟨g, k * 3 + 2, none⟩ (.int .i64 (K : Int)) → RefX W5 q { S with L := Fsp.crashTo S.L (keepN n) (k + 1) } (Grow Q w W5) (.slice (some ⟨g, 0, none⟩) m cap) (l'.set k { x with f := ⟨d, K⟩, dv := .slice sp5 d.length cap5 }) ∧ Turn Q w W5) := Lib.hid (fun W5 e5 => crash_next HT.out HR.out HL.out HX.out tW (hb5.lower T6.out.size) HTORN.out HSET.out e5)
            clear hxW fr6 hb5 tW hW k0 k1 k2 k3
            simp only [List.drop_succ_cons, List.drop_zero, e0, e1, e2, e3, e4, e5, e6, e7, e8, e9, e10, e11, e12, e13]
            clear e0 e1 e2 e3 e4 e5 e6 e7 e8 e9 e10 e11 e12 e13
            go_wp2_with fail
            exact ⟨⟨k + 1, _, by omega, by go_num, by rw [List.length_set]; exact HL.out, (HFIN.out _ rfl).1, (HFIN.out _ rfl).2⟩, by simp [intOf]; omega⟩
    · obtain rfl : k = m := by omega
      have cc := HR.out.cells
      have c3 := cc.c3
      have c4 := cc.c4
      have f3 := cc.fr 3
      have f4 := cc.fr 4
      have HF : Hid (RPost w q (Fsp.crash S (keepN n)) Q ((wr.setCell ⟨q, 3, none⟩ (.int .i64 0)).setCell ⟨q, 4, none⟩ (.bool false))) := Lib.hid (rcrash_end HT.out HR.out (by rw [← crash_all, H.out.n, HM.out]) H.out.inQ H.out.lt)
      clear cc
      go_wp2_with fail
      go_end0
      exact ⟨rfl, HF.out⟩
end
end Go.Proofs.Ytpaekggmphahoaa
