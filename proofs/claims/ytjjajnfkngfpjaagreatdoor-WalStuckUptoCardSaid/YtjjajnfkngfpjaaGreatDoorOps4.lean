/-
  Append.
-/
import Derived.Test.YtjjajnfkngfpjaaGreatDoorOps2
import Derived.Maps.AppendAt
import Derived.Laws.AppendOwnNone
namespace Go.Proofs.YtjjajnfkngfpjaaGreatDoor
open Go.RowKit Go.Maps Go.WideMaps

section
variable {w w' : World} {p : Nat} {S S' : Fsp.Fs} {c c' : Bool} {Q : Nat → Prop} {mo : Option Nat} {pl : List UInt8 → Pl}

/-- a slice of bytes that was handed in: nil, or with an address -/
def SliceB (w : World) (v : Value) (data : List UInt8) : Prop :=
  (v = .slice none 0 0 ∧ data = []) ∨ ∃ ad cap, v = .slice (some ad) data.length cap ∧ ∀ j x, data[j]? = some x → w.cell? (ad.add j) = some (byteV x)

/-- it lies outside of Q -/
def OutOf (Q : Nat → Prop) (v : Value) : Prop := ∀ ad n cap, v = .slice (some ad) n cap → 0 < n → ¬ Q ad.block

theorem add_block (ad : Addr) (j : Nat) : (ad.add j).block = ad.block := by unfold Addr.add; split <;> rfl

theorem SliceB.turned {v : Value} {data : List UInt8} (h : SliceB w v data) (ht : Turn Q w w') (hq : OutOf Q v) : SliceB w' v data := by
  rcases h with h | ⟨ad, cap, hv, hc⟩
  · exact Or.inl h
  · refine Or.inr ⟨ad, cap, hv, fun j x hj => ?_⟩
    have := hc j x hj
    have hb := World.block_lt_of_cell? w _ this
    have hn : ¬ Q (ad.add j).block := by rw [add_block]; exact hq ad _ _ hv (by have := (List.getElem?_eq_some_iff.1 hj).1; omega)
    exact (World.cell?_of_block (ht.block _ hb hn)).trans this

theorem SliceB.toR {v : Value} {data : List UInt8} (h : SliceB w v data) : SliceR w v data := by
  rcases h with ⟨rfl, rfl⟩ | ⟨ad, cap, hv, hc⟩
  · exact ⟨none, 0, rfl, fun h => absurd h (by simp)⟩
  · exact ⟨some ad, cap, hv, fun _ => ⟨ad, rfl, hc⟩⟩

/-- what an append makes of it: the row first, then the two cells -/
theorem appended {w1 w2 w3 : World} {s : List UInt8} {f : Fsp.File} {b : List UInt8} {v' : Value} (h1 : RepX w1 p S false Q mo pl) (ht : Turn (fun b => b = p) w w1) (hf : Fsp.find S.L s = some f) (hroom : Fsp.usedOf S.L + b.length ≤ S.room)
    (hown : w2.ownsRow 0 5 1 v' (f.data.length + b.length) (f.data.map byteV ++ b.map byteV)) (hg : w1.grownBy w2 (pl s).sv.ownBlock) (hloc : v'.ownBlock = (pl s).sv.ownBlock ∨ v'.ownBlock = some w1.heap.size)
    (hw3 : w3 = (w2.setCell ⟨(pl s).fb, 0, none⟩ v').setCell ⟨p, 2, none⟩ (.int .i64 ((Fsp.usedOf S.L : Int) + (b.length : Int)))) :
    Post w p { S with L := Fsp.put S.L s ⟨f.data ++ b, f.synced⟩ } Q w3 := by
  subst hw3
  have hfile := h1.file s f hf
  have hne := h1.p_ne_fb hf
  have hpl := h1.lt p h1.inP
  have hfl := hfile.lt
  have hu := Fsp.used_put_some h1.good.1 hf ⟨f.data ++ b, f.synced⟩
  have e2 : Fsp.usedOf (Fsp.put S.L s ⟨f.data ++ b, f.synced⟩) = Fsp.usedOf S.L + b.length := by simp only [List.length_append] at hu; omega
  have t12 : Turn (fun i => (pl s).sv.ownBlock = some i) w1 w2 := (Turn.refl _ w1).grown hg (fun k e => Or.inl e)
  have p2 : w2.heap[p]? = w1.heap[p]? := t12.block p hpl (fun e => h1.p_ne_row hf e rfl)
  have f2 : w2.heap[(pl s).fb]? = w1.heap[(pl s).fb]? := t12.block _ hfl (fun e => h1.fb_ne_row hf hf e rfl)
  have t13 : Turn (fun i => i = p ∨ i = (pl s).fb ∨ (pl s).sv.ownBlock = some i) w1 ((w2.setCell ⟨(pl s).fb, 0, none⟩ v').setCell ⟨p, 2, none⟩ (.int .i64 ((Fsp.usedOf S.L : Int) + (b.length : Int)))) :=
    ((t12.mono (Q' := fun i => i = p ∨ i = (pl s).fb ∨ (pl s).sv.ownBlock = some i) (fun i e => Or.inr (Or.inr e))).set (pl s).fb 0 (Or.inl (Or.inr (Or.inl rfl))) _).set p 2 (Or.inl (Or.inl rfl)) _
  have hl : (f.data ++ b).length = f.data.length + b.length := by simp
  refine Post.file (f' := ⟨f.data ++ b, f.synced⟩) (sv' := v') h1 ht hf t13 ?_ rfl ?_ ⟨?_, ?_⟩ ?_
  · rw [heap_setCell_same (by rw [heap_setCell_other hne, p2]; exact h1.head)]
    simp only [headOf, e2, Int.natCast_add]; rfl
  · exact good_put h1.good rfl rfl h1.good.2.2.2.2.1 (h1.good.2.2.2.2.2 s f hf).1 (by have := (h1.good.2.2.2.2.2 s f hf).2; show f.synced ≤ (f.data ++ b).length; rw [hl]; omega) (Or.inl (by rw [hf]; rfl)) (by rw [e2]; exact hroom)
  · rw [heap_setCell_other (Ne.symm hne), heap_setCell_same (by rw [f2]; exact hfile.1)]; rfl
  · have t23 : Turn (fun i => i = p ∨ i = (pl s).fb) w2 ((w2.setCell ⟨(pl s).fb, 0, none⟩ v').setCell ⟨p, 2, none⟩ (.int .i64 ((Fsp.usedOf S.L : Int) + (b.length : Int)))) :=
      ((Turn.refl (fun i => i = p ∨ i = (pl s).fb) w2).set (pl s).fb 0 (Or.inl (Or.inr rfl)) _).set p 2 (Or.inl (Or.inl rfl)) _
    rw [hl, List.map_append]
    refine ownsRow_turned hown t23 (fun r hr e => ?_)
    rcases hloc with h | h
    · rw [h] at hr
      rcases e with e | e
      · exact h1.p_ne_row hf hr e.symm
      · exact h1.fb_ne_row hf hf hr e.symm
    · rw [h] at hr
      cases hr
      rcases e with e | e <;> omega
  · intro r hr
    rcases hloc with h | h
    · rw [h] at hr; exact Or.inl hr
    · rw [h] at hr; cases hr; exact Or.inr (Nat.le_refl _)

theorem RepX.like (h : RepX w p S c Q mo pl) (k : Like w w') : RepX w' p S c Q mo pl :=
  h.turned (Turn.like (Turn.refl (fun _ => False) w) k) (fun _ _ q => q)
theorem like_drewN (w : World) (n : Nat) : Like w (w.drewN n) := ⟨rfl, rfl, rfl, rfl⟩
theorem Post.like {w1 : World} (h : Post w1 p S Q w') (k : Like w w1) : Post w p S Q w' := by
  obtain ⟨⟨mo, pl, hr⟩, ht⟩ := h
  have e : w1.heap.size = w.heap.size := by rw [k.heap]
  refine ⟨⟨mo, pl, hr.mono (fun i hi => ?_) (fun i hi => ?_)⟩, ⟨ht.os.trans k.os, ht.tape.trans k.tape, ht.output.trans k.output, by have := ht.size; omega, fun i hi hn => by rw [ht.block i (by omega) hn, k.heap]⟩⟩
  · rcases hi with hi | hi
    · exact Or.inl hi
    · exact Or.inr ⟨by omega, hi.2⟩
  · rcases hi with hi | hi
    · exact hr.lt i (Or.inl hi)
    · exact hi.2

theorem Post.like_right {w1 : World} (h : Post w p S Q w1) (k : Like w1 w') : Post w p S Q w' := by
  obtain ⟨⟨mo, pl, hr⟩, ht⟩ := h
  have e : w'.heap.size = w1.heap.size := by rw [k.heap]
  exact ⟨⟨mo, pl, (hr.like k).mono (fun i hi => hi.imp id (fun x => ⟨x.1, by omega⟩)) (fun i hi => by
    rcases hi with hi | hi
    · exact (hr.like k).lt i (Or.inl hi)
    · exact hi.2)⟩, ht.like k⟩

theorem append_early (h : RepX w p S false Q mo pl) (s : ByteArray) (hz : s.size ≤ maxLen) (sp : Option Addr) (cap : Nat) (b : List UInt8) (hbl : b.length ≤ maxLen)
    (he : S.down = true ∨ Fsp.find S.L s.data.toList = none ∨ S.room < Fsp.usedOf S.L + b.length ∨ S.armed = 1) :
    Calls Tryz.prog 39 #[.pointer (some ⟨p, 0, none⟩), .string s, .slice sp b.length cap] w fun r w' => r = .returned (.int .i64 ((Fsp.append S s.data.toList b).2 : Nat)) ∧ Post w p (Fsp.append S s.data.toList b).1 Q w' := by
  have hp := Post.same h
  unfold maxLen at hbl
  cases hd : S.down with
  | true =>
    have e : Fsp.append S s.data.toList b = (S, 5) := by simp [Fsp.append, hd]
    rw [e]; clear e he
    go_enter Tryz.func39, Tryz.ntmps39
    go_wp2_with (go_at_call 44; refine (down_is h hd).mono ?_; rintro r w' ⟨rfl, rfl⟩)
    go_ret
    exact ⟨rfl, hp⟩
  | false =>
    have HD := Lib.hid hd
    cases hf : Fsp.find S.L s.data.toList with
    | none =>
      have e : Fsp.append S s.data.toList b = (S, 2) := by simp [Fsp.append, hd, hf]
      rw [e]; clear e he hd
      have HF := Lib.hid hf
      clear hf
      go_enter Tryz.func39, Tryz.ntmps39
      go_wp2_with (first | (go_at_call 44; refine (down_is h HD.out).mono ?_; rintro r w' ⟨rfl, rfl⟩) | (go_at_call 66; refine (find_none h s hz HF.out).mono ?_; rintro r w' ⟨rfl, rfl⟩))
      go_ret
      exact ⟨rfl, hp⟩
    | some f =>
      have HF := Lib.hid hf
      have c1 := h.cells.c1
      have c2 := h.cells.c2
      have r1 := h.good.2.1
      have r2 := h.good.2.2.1
      have u1 : (Fsp.usedOf S.L : Int) ≤ S.room := by omega
      have u2 : (S.room : Int) ≤ 67108864 := by omega
      clear r1 r2
      by_cases hr : S.room < Fsp.usedOf S.L + b.length
      · have e : Fsp.append S s.data.toList b = (S, 4) := by simp [Fsp.append, hd, hf, hr]
        rw [e]; clear e he hd hf
        have hr' : (S.room : Int) - Fsp.usedOf S.L < b.length := by omega
        clear hr
        go_enter Tryz.func39, Tryz.ntmps39
        go_wp2_with (first | (go_at_call 44; refine (down_is h HD.out).mono ?_; rintro r w' ⟨rfl, rfl⟩) | (go_at_call 66; refine (find_some h s hz HF.out).mono ?_; rintro r w' ⟨rfl, rfl⟩))
        go_quiet (fail)
        go_wp2
        go_ret
        exact ⟨rfl, Post.like_right hp (like_drewN _ _)⟩
      · have ha : S.armed = 1 := by simp [hd, hf] at he; omega
        have e : Fsp.append S s.data.toList b = (Fsp.stepped S, 5) := by simp [Fsp.append, hd, hf, hr, ha]
        rw [e]; clear e he hd hf
        have HA := Lib.hid ha
        have hr' : (b.length : Int) ≤ (S.room : Int) - Fsp.usedOf S.L := by omega
        clear hr ha
        go_enter Tryz.func39, Tryz.ntmps39
        go_wp2_with (first | (go_at_call 44; refine (down_is h HD.out).mono ?_; rintro r w' ⟨rfl, rfl⟩) | (go_at_call 66; refine (find_some h s hz HF.out).mono ?_; rintro r w' ⟨rfl, rfl⟩))
        go_quiet (fail)
        go_wp2_with (go_at_call 68; refine (step_no (h.like (like_drewN _ _)) HA.out).mono ?_; rintro r w' ⟨rfl, h1, ht⟩)
        go_ret
        exact ⟨rfl, Post.like (Post.head h1 h.inP ht) (like_drewN _ _)⟩

set_option maxRecDepth 100000 in
set_option maxHeartbeats 400000 in
theorem append_some (h : RepX w p S false Q mo pl) (hs : StepsOk S) (s : ByteArray) (hz : s.size ≤ maxLen) (ad : Addr) (cap : Nat) (b : List UInt8) (hcell : ∀ j x, b[j]? = some x → w.cell? (ad.add j) = some (byteV x)) (hout : 0 < b.length → ad.block ≠ p)
    (HD : Hid (S.down = false)) (f : Fsp.File) (HF : Hid (Fsp.find S.L s.data.toList = some f)) (hr : (b.length : Int) ≤ (S.room : Int) - Fsp.usedOf S.L) (HA : Hid (S.armed ≠ 1)) :
    Calls Tryz.prog 39 #[.pointer (some ⟨p, 0, none⟩), .string s, .slice (some ad) b.length cap] w fun r w' => r = .returned (.int .i64 0) ∧ Post w p { Fsp.stepped S with L := Fsp.put S.L s.data.toList ⟨f.data ++ b, f.synced⟩ } Q w' := by
  have c1 := h.cells.c1
  have c2 := h.cells.c2
  have r1 := h.good.2.1
  have r2 := h.good.2.2.1
  have u1 : (Fsp.usedOf S.L : Int) ≤ S.room := by omega
  have u2 : (S.room : Int) ≤ 67108864 := by omega
  clear r1 r2
  have HS := Lib.hid hs
  have HC := Lib.hid hcell
  clear hs hcell
  obtain ⟨i0, hi, hz0, hz1, hz2⟩ := info_parts Tryz.infoU8
  go_enter Tryz.func39, Tryz.ntmps39
  go_wp2_with (first | (go_at_call 44; refine (down_is h HD.out).mono ?_; rintro r w' ⟨rfl, rfl⟩) | (go_at_call 66; refine (find_some h s hz HF.out).mono ?_; rintro r w' ⟨rfl, rfl⟩))
  go_quiet (fail)
  go_wp2_with fail
  go_at_call 68
  refine (step_yes (h.like (like_drewN _ _)) HA.out HS.out).mono ?_
  rintro r w1 ⟨rfl, h1, ht0⟩
  have ht : Turn (fun b => b = p) w w1 := ⟨ht0.os, ht0.tape, ht0.output, ht0.size, ht0.block⟩
  clear ht0
  have hf1 : Fsp.find (Fsp.stepped S).L s.data.toList = some f := by rw [stepped_L]; exact HF.out
  have hfile := h1.file _ f hf1
  have hfc := hfile.cells
  have f0 := hfc.c0
  have g0 := hfc.fr 0
  have k2 : w1.cell? ⟨p, 2, none⟩ = some (.int .i64 (Fsp.usedOf S.L : Int)) := by have := h1.cells.c2; rw [stepped_L] at this; exact this
  have q2 := h1.cells.fr 2
  have hpl := h1.lt p h1.inP
  have hfl := hfile.lt
  have hpr : some p ≠ (pl s.data.toList).sv.ownBlock := fun e => h1.p_ne_row hf1 e.symm rfl
  have hfr : some (pl s.data.toList).fb ≠ (pl s.data.toList).sv.ownBlock := fun e => h1.fb_ne_row hf1 hf1 e.symm rfl
  have hne := h1.p_ne_fb hf1
  have hlen := Fsp.used_find hf1
  rw [stepped_L] at hlen
  have hnews : ∀ j u, (b.map byteV)[j]? = some u → w1.cell? (ad.add j) = some u := by
    intro j u hj
    rw [List.getElem?_map] at hj
    obtain ⟨x, hx, rfl⟩ := Option.map_eq_some_iff.1 hj
    have hx2 := HC.out j x hx
    exact (World.cell?_of_block (ht.block _ (World.block_lt_of_cell? w _ hx2) (by rw [add_block]; exact hout (by have := (List.getElem?_eq_some_iff.1 hx).1; omega)))).trans hx2
  have hone : ∀ u ∈ b.map byteV, u.oneCell' = true := by
    intro v hv
    obtain ⟨x, _, rfl⟩ := List.mem_map.1 hv
    rfl
  have HN := Lib.hid hnews
  have H1 := Lib.hid hf1
  have HO := Lib.hid hfile.2
  have HE := Lib.hid hone
  have HP := Lib.hid hpr
  have HR := Lib.hid hfr
  clear hnews hf1 hfile hone hpr hfr hfc
  go_wp2_with (at_builtin; refine wpList_append_own_at _ rfl (.tmp 34) (.tmp 35) 37 rfl 0 5 i0 (.int .u8 0) 1 1 Tryz.underlying37 hi hz0 hz1 hz2 rfl (by decide) _ _ _ rfl HO.out ad b.length cap (b.map byteV) rfl (by simp) HN.out HE.out ?b1 ?b2 (Nat.zero_le _) ?_)
  case b1 => unfold maxLen; omega
  case b2 => omega
  intro v' w2 hown hgrow hnil hloc
  have hvs : ∃ sp' cap', v' = .slice sp' (f.data.length + b.length) cap' := by
    obtain ⟨sp', cap', e, _⟩ := own_slice hown
    exact ⟨sp', cap', e⟩
  obtain ⟨sp', cap', rfl⟩ := hvs
  have m0 := hgrow.cell f0 HR.out
  have m2 := hgrow.cell k2 HP.out
  have n0 : w2.frozen? ⟨(pl s.data.toList).fb, 0, none⟩ = false := (World.frozen?_of_block (hgrow.block _ hfl HR.out)).trans g0
  have n2 : w2.frozen? ⟨p, 2, none⟩ = false := (World.frozen?_of_block (hgrow.block _ hpl HP.out)).trans q2
  have HL := Lib.hid hloc
  have HG := Lib.hid hgrow
  have HW := Lib.hid hown
  clear hloc hgrow hown hnil f0 g0 k2 q2
  go_wp2
  go_ret
  have hfin := appended (s := s.data.toList) (b := b) h1 ht H1.out (by rw [stepped_L, stepped_room]; omega) HW.out HG.out HL.out rfl
  rw [stepped_L] at hfin
  exact ⟨rfl, hfin⟩

set_option maxRecDepth 100000 in
set_option maxHeartbeats 400000 in
theorem append_nil (h : RepX w p S false Q mo pl) (hs : StepsOk S) (s : ByteArray) (hz : s.size ≤ maxLen) (HD : Hid (S.down = false)) (f : Fsp.File) (HF : Hid (Fsp.find S.L s.data.toList = some f)) (HA : Hid (S.armed ≠ 1)) :
    Calls Tryz.prog 39 #[.pointer (some ⟨p, 0, none⟩), .string s, .slice none 0 0] w fun r w' => r = .returned (.int .i64 0) ∧ Post w p { Fsp.stepped S with L := Fsp.put S.L s.data.toList ⟨f.data, f.synced⟩ } Q w' := by
  have c1 := h.cells.c1
  have c2 := h.cells.c2
  have r1 := h.good.2.1
  have r2 := h.good.2.2.1
  have u1 : (Fsp.usedOf S.L : Int) ≤ S.room := by omega
  have u2 : (S.room : Int) ≤ 67108864 := by omega
  clear r1 r2
  have HS := Lib.hid hs
  clear hs
  obtain ⟨i0, hi, hz0, hz1, hz2⟩ := info_parts Tryz.infoU8
  go_enter Tryz.func39, Tryz.ntmps39
  go_wp2_with (first | (go_at_call 44; refine (down_is h HD.out).mono ?_; rintro r w' ⟨rfl, rfl⟩) | (go_at_call 66; refine (find_some h s hz HF.out).mono ?_; rintro r w' ⟨rfl, rfl⟩))
  go_quiet (fail)
  go_wp2_with fail
  go_at_call 68
  refine (step_yes (h.like (like_drewN _ _)) HA.out HS.out).mono ?_
  rintro r w1 ⟨rfl, h1, ht0⟩
  have ht : Turn (fun b => b = p) w w1 := ⟨ht0.os, ht0.tape, ht0.output, ht0.size, ht0.block⟩
  clear ht0
  have hf1 : Fsp.find (Fsp.stepped S).L s.data.toList = some f := by rw [stepped_L]; exact HF.out
  have hfile := h1.file _ f hf1
  obtain ⟨sp', cap', hsv, _⟩ := own_slice hfile.2
  have hfc := hfile.cells
  rw [hsv] at hfc
  have f0 := hfc.c0
  have g0 := hfc.fr 0
  have k2 : w1.cell? ⟨p, 2, none⟩ = some (.int .i64 (Fsp.usedOf S.L : Int)) := by have := h1.cells.c2; rw [stepped_L] at this; exact this
  have q2 := h1.cells.fr 2
  have hown := hfile.2
  rw [hsv] at hown
  have H1 := Lib.hid hf1
  have HO := Lib.hid hown
  have HV := Lib.hid hsv
  clear hf1 hfile hown hsv hfc
  go_wp2_with (at_builtin; refine wpList_append_own_none rfl (.tmp 34) (.tmp 35) 37 rfl 0 5 i0 1 Tryz.underlying37 hi _ _ _ rfl HO.out rfl ?_)
  go_wp2
  go_ret
  have hown' := (h1.file _ f H1.out).2
  rw [HV.out] at hown'
  have hfin := appended (s := s.data.toList) (b := []) (v' := .slice sp' f.data.length cap') h1 ht H1.out (by rw [stepped_L, stepped_room]; simp; omega) (by simpa using hown') (World.grownBy.refl w1 _) (Or.inl (by rw [HV.out])) rfl
  rw [stepped_L] at hfin
  simp only [List.append_nil, List.length_nil, Int.natCast_zero, Int.add_zero] at hfin
  exact ⟨rfl, hfin⟩

theorem append_any (h : RepX w p S false Q mo pl) (hs : StepsOk S) (s : ByteArray) (hz : s.size ≤ maxLen) (v : Value) (b : List UInt8) (hb : SliceB w v b) (hbl : b.length ≤ maxLen) (hout : OutOf Q v) :
    Calls Tryz.prog 39 #[.pointer (some ⟨p, 0, none⟩), .string s, v] w fun r w' => r = .returned (.int .i64 ((Fsp.append S s.data.toList b).2 : Nat)) ∧ Post w p (Fsp.append S s.data.toList b).1 Q w' := by
  by_cases he : S.down = true ∨ Fsp.find S.L s.data.toList = none ∨ S.room < Fsp.usedOf S.L + b.length ∨ S.armed = 1
  · obtain ⟨sp, cap, rfl, _⟩ := hb.toR
    exact append_early h s hz sp cap b hbl he
  · simp only [not_or] at he
    obtain ⟨h1, h2, h3, h5⟩ := he
    have hd : S.down = false := by simpa using h1
    cases hf : Fsp.find S.L s.data.toList with
    | none => exact absurd hf h2
    | some f =>
      have e : Fsp.append S s.data.toList b = ({ Fsp.stepped S with L := Fsp.put S.L s.data.toList ⟨f.data ++ b, f.synced⟩ }, 0) := by
        simp only [Fsp.append, hd, hf, if_neg h3, if_neg h5]; rfl
      rw [e]
      rcases hb with ⟨rfl, rfl⟩ | ⟨ad, cap, rfl, hc⟩
      · simp only [List.append_nil]
        exact append_nil h hs s hz hd f hf h5
      · exact append_some h hs s hz ad cap b hc (fun h0 e => hout ad _ _ rfl h0 (by rw [e]; exact h.inP)) hd f hf (by omega) h5

end
end Go.Proofs.YtjjajnfkngfpjaaGreatDoor
