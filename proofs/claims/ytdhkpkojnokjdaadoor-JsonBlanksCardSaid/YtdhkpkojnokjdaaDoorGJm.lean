/-
  PARTS: JMark, JLim.
-/
import Derived.Test.YtdhkpkojnokjdaaDoorGJa
import Derived.Test.YtdhkpkojnokjdaaDoorGNt
/-
  Marks, brackets, words, limits, a number read.
-/
namespace Go.Proofs.YtdhkpkojnokjdaaDoor
open Go.RowKit Go.Shelf
set_option linter.unusedVariables false
set_option linter.unusedSimpArgs false

def markE (c : Nat) (s : List UInt8) (p : Nat) : Rs Unit := (byteE s (skipE blankL s p)).bind fun x q => if x = c then .ok () (q + 1) else .bad q 11
def endsE (c : Nat) (s : List UInt8) (p : Nat) : Rs Bool := (byteE s (skipE blankL s p)).bind fun x q => if x = c then .ok true (q + 1) else .ok false q

theorem byteE_cases (D : ByteArray) (q : Nat) : (∃ (h : q < D.size), byteE D.data.toList q = .ok (D[q]'h).toNat q) ∨ (D.size ≤ q ∧ byteE D.data.toList q = .bad D.size 11) := by
  by_cases h : q < D.size
  · exact Or.inl ⟨h, byteE_in h⟩
  · exact Or.inr ⟨by omega, byteE_out (by omega)⟩

set_option maxHeartbeats 3200000 in
theorem mark_any {D : ByteArray} {R p c : Nat} {w : World} (h : RdAt w R D p) (hp : p ≤ D.size) (hl : D.size ≤ 1000000) :
    Calls Tryd.prog 57 #[.pointer (some ⟨R, 0, none⟩), .int .u8 (c : Int)] w (Post w R D (fun _ v _ => v = .tuple #[]) (markE c D.data.toList p)) := by
  obtain ⟨q, hq⟩ : ∃ q, q = skipE blankL D.data.toList p := ⟨_, rfl⟩
  have hql : q ≤ D.size := by have := skipE_le blankL D.data.toList (p := p) (by rw [data_len]; exact hp); rw [data_len] at this; omega
  have BL := blanks_any h hp hl
  rw [← hq] at BL
  have hk : markE c D.data.toList p = (byteE D.data.toList q).bind fun x q => if x = c then .ok () (q + 1) else .bad q 11 := by unfold markE; rw [← hq]
  clear hq h
  rcases byteE_cases D q with ⟨hlt, hb⟩ | ⟨hge, hb⟩
  · rw [hb] at hk
    have HE : ∀ W, RdAt W R D q → Calls Tryd.prog 51 #[.pointer (some ⟨R, 0, none⟩)] W fun e w' => e = .returned (.int .u8 (((D[q]'hlt).toNat : Nat) : Int)) ∧ Only W w' := fun W r => here_in r hlt
    obtain ⟨x, hx⟩ : ∃ x, x = (D[q]'hlt).toNat := ⟨_, rfl⟩
    rw [← hx] at HE hk
    simp only [Rs.bind] at hk
    have HE := Lib.hid HE
    have iq : (q : Int) < 1000000 := by omega
    clear hx hb
    by_cases hc : x = c
    · have t1 : ((x : Int) != (c : Int)) = false := by simp [hc]
      have HK := Lib.hid (hk.trans (if_pos hc))
      clear hk hc
      go_enter Tryd.func57, Tryd.ntmps57
      go_wp2_with fail
      go_at_call 25
      refine BL.mono ?_
      rintro r w1 ⟨rfl, r1, t1⟩
      have HR := Lib.hid r1
      have HT := Lib.hid t1
      clear r1 BL
      go_wp2_with (go_at_call 51; refine (HE.out _ HR.out).mono ?_; rintro r w2 ⟨rfl, t2⟩; have hr := HR.out.only t2; have ht := HT.out.only t2; obtain ⟨y1, y2, y3, y4, y5⟩ := hr.all; have HR2 := Lib.hid hr; clear hr)
      simp [bodyPost, results, Tryd.results57, go_sem]
      exact post_ok HK.out (ht.then_ (but_set _ _ _ _)) (by omega) rfl (HR2.out.put1 _)
    · have t1 : ((x : Int) != (c : Int)) = true := by simp; omega
      have HK := Lib.hid (hk.trans (if_neg hc))
      clear hk hc
      go_enter Tryd.func57, Tryd.ntmps57
      go_wp2_with fail
      go_at_call 25
      refine BL.mono ?_
      rintro r w1 ⟨rfl, r1, t1⟩
      have HR := Lib.hid r1
      have HT := Lib.hid t1
      clear r1 BL
      go_wp2_with (go_at_call 51; refine (HE.out _ HR.out).mono ?_; rintro r w2 ⟨rfl, t2⟩; have hr := HR.out.only t2; have ht := HT.out.only t2; obtain ⟨y1, y2, y3, y4, y5⟩ := hr.all; clear hr)
      simp [bodyPost]
      exact post_bad HK.out ht
  · rw [hb] at hk
    have HK := Lib.hid hk
    clear hk hb
    go_enter Tryd.func57, Tryd.ntmps57
    go_wp2_with fail
    go_at_call 25
    refine BL.mono ?_
    rintro r w1 ⟨rfl, r1, t1⟩
    have HR := Lib.hid r1
    have HT := Lib.hid t1
    clear r1 BL
    go_wp2_with (go_at_call 51; refine (here_out HR.out (by omega)).mono ?_; rintro r w2 ⟨rfl, t2⟩)
    simp [bodyPost]
    exact post_bad HK.out (HT.out.only t2)

set_option maxHeartbeats 3200000 in
theorem ends_any {D : ByteArray} {R p c : Nat} {w : World} (h : RdAt w R D p) (hp : p ≤ D.size) (hl : D.size ≤ 1000000) :
    Calls Tryd.prog 56 #[.pointer (some ⟨R, 0, none⟩), .int .u8 (c : Int)] w (Post w R D (fun b v _ => v = .bool b) (endsE c D.data.toList p)) := by
  obtain ⟨q, hq⟩ : ∃ q, q = skipE blankL D.data.toList p := ⟨_, rfl⟩
  have hql : q ≤ D.size := by have := skipE_le blankL D.data.toList (p := p) (by rw [data_len]; exact hp); rw [data_len] at this; omega
  have BL := blanks_any h hp hl
  rw [← hq] at BL
  have hk : endsE c D.data.toList p = (byteE D.data.toList q).bind fun x q => if x = c then .ok true (q + 1) else .ok false q := by unfold endsE; rw [← hq]
  clear hq h
  rcases byteE_cases D q with ⟨hlt, hb⟩ | ⟨hge, hb⟩
  · rw [hb] at hk
    have HE : ∀ W, RdAt W R D q → Calls Tryd.prog 51 #[.pointer (some ⟨R, 0, none⟩)] W fun e w' => e = .returned (.int .u8 (((D[q]'hlt).toNat : Nat) : Int)) ∧ Only W w' := fun W r => here_in r hlt
    obtain ⟨x, hx⟩ : ∃ x, x = (D[q]'hlt).toNat := ⟨_, rfl⟩
    rw [← hx] at HE hk
    simp only [Rs.bind] at hk
    have HE := Lib.hid HE
    have iq : (q : Int) < 1000000 := by omega
    clear hx hb
    by_cases hc : x = c
    · have t1 : ((x : Int) != (c : Int)) = false := by simp [hc]
      have HK := Lib.hid (hk.trans (if_pos hc))
      clear hk hc
      go_enter Tryd.func56, Tryd.ntmps56
      go_wp2_with fail
      go_at_call 25
      refine BL.mono ?_
      rintro r w1 ⟨rfl, r1, t1⟩
      have HR := Lib.hid r1
      have HT := Lib.hid t1
      clear r1 BL
      go_wp2_with (go_at_call 51; refine (HE.out _ HR.out).mono ?_; rintro r w2 ⟨rfl, t2⟩; have hr := HR.out.only t2; have ht := HT.out.only t2; obtain ⟨y1, y2, y3, y4, y5⟩ := hr.all; have HR2 := Lib.hid hr; clear hr)
      go_ret
      exact post_ok HK.out (ht.then_ (but_set _ _ _ _)) (by omega) rfl (HR2.out.put1 _)
    · have t1 : ((x : Int) != (c : Int)) = true := by simp; omega
      have HK := Lib.hid (hk.trans (if_neg hc))
      clear hk hc
      go_enter Tryd.func56, Tryd.ntmps56
      go_wp2_with fail
      go_at_call 25
      refine BL.mono ?_
      rintro r w1 ⟨rfl, r1, t1⟩
      have HR := Lib.hid r1
      have HT := Lib.hid t1
      clear r1 BL
      go_wp2_with (go_at_call 51; refine (HE.out _ HR.out).mono ?_; rintro r w2 ⟨rfl, t2⟩; have hr := HR.out.only t2; have ht := HT.out.only t2)
      go_ret
      exact post_ok HK.out ht hql rfl hr
  · rw [hb] at hk
    have HK := Lib.hid hk
    clear hk hb
    go_enter Tryd.func56, Tryd.ntmps56
    go_wp2_with fail
    go_at_call 25
    refine BL.mono ?_
    rintro r w1 ⟨rfl, r1, t1⟩
    have HR := Lib.hid r1
    have HT := Lib.hid t1
    clear r1 BL
    go_wp2_with (go_at_call 51; refine (here_out HR.out (by omega)).mono ?_; rintro r w2 ⟨rfl, t2⟩)
    simp [bodyPost]
    exact post_bad HK.out (HT.out.only t2)

/-- a word, byte by byte -/
def wordE (s : List UInt8) : List UInt8 → Nat → Rs Unit
  | [], p => .ok () p
  | x :: t, p => (byteE s p).bind fun y q => if y = x.toNat then wordE s t (p + 1) else .bad q 11

set_option maxHeartbeats 3200000 in
theorem word_any {D T : ByteArray} {R p : Nat} {w : World} (h : RdAt w R D p) (hp : p ≤ D.size) (hl : D.size ≤ 1000000) (hT : T.size ≤ 1000) :
    Calls Tryd.prog 39 #[.pointer (some ⟨R, 0, none⟩), .string T] w (Post w R D (fun _ v _ => v = .tuple #[]) (wordE D.data.toList T.data.toList p)) := by
  have H := Lib.hid h
  clear h
  go_enter Tryd.func39, Tryd.ntmps39
  go_wp2_with fail
  go_loopg [7] (T.size) (fun g v wr => ∃ k q : Nat, v = .int .i64 (k : Int) ∧ k ≤ T.size ∧ T.size - k ≤ g ∧ q ≤ D.size ∧ RdAt wr R D q ∧ But R w wr ∧ wordE D.data.toList T.data.toList p = wordE D.data.toList (T.data.toList.drop k) q)
  case atStart => exact ⟨0, p, rfl, Nat.zero_le _, Nat.le_refl _, hp, H.out, Turn.refl _ _, rfl⟩
  case round =>
    obtain ⟨k, q, rfl, hk, hg, hq, hr, ht, hw⟩ := hrel
    have it : (k : Int) < 1000 + 1 := by omega
    by_cases hlt : k < T.size
    · have il : (k : Int) < (T.size : Int) := by omega
      have hdr : T.data.toList.drop k = T[k]'hlt :: T.data.toList.drop (k + 1) := by
        rw [List.drop_eq_getElem_cons (by rw [data_len]; exact hlt)]; rfl
      rw [hdr] at hw
      replace hw : wordE D.data.toList T.data.toList p = (byteE D.data.toList q).bind (fun y q => if y = (T[k]'hlt).toNat then wordE D.data.toList (T.data.toList.drop (k + 1)) (q + 1) else .bad q 11) := by
        rw [hw]
        rcases byteE_cases D q with ⟨hqlt, hb⟩ | ⟨hge, hb⟩
        · rw [show wordE D.data.toList (T[k]'hlt :: T.data.toList.drop (k + 1)) q = (byteE D.data.toList q).bind fun y r => if y = (T[k]'hlt).toNat then wordE D.data.toList (T.data.toList.drop (k + 1)) (q + 1) else .bad r 11 from rfl, hb]; rfl
        · rw [show wordE D.data.toList (T[k]'hlt :: T.data.toList.drop (k + 1)) q = (byteE D.data.toList q).bind fun y r => if y = (T[k]'hlt).toNat then wordE D.data.toList (T.data.toList.drop (k + 1)) (q + 1) else .bad r 11 from rfl, hb]; rfl
      rcases byteE_cases D q with ⟨hqlt, hb⟩ | ⟨hge, hb⟩
      · rw [hb] at hw
        have HE : ∀ n : Cone wr, Calls Tryd.prog 51 #[.pointer (some ⟨R, 0, none⟩)] n.out fun e w' => e = .returned (.int .u8 (((D[q]'hqlt).toNat : Nat) : Int)) ∧ Only n.out w' := fun n => here_in (hr.only n.only) hqlt
        obtain ⟨y, hy⟩ : ∃ y, y = (D[q]'hqlt).toNat := ⟨_, rfl⟩
        obtain ⟨x, hx⟩ : ∃ x, x = (T[k]'hlt).toNat := ⟨_, rfl⟩
        have hx2 : (T[k]'hlt).toNat = x := hx.symm
        rw [← hy] at HE hw
        rw [← hx] at hw
        simp only [Rs.bind] at hw
        have iq : (q : Int) < 1000000 := by omega
        have HE := Lib.hid HE
        by_cases hc : y = x
        · have t1 : ((y : Int) != (x : Int)) = false := by simp [hc]
          have HW := Lib.hid (hw.trans (if_pos hc))
          have HR := Lib.hid hr
          have HT := Lib.hid ht
          clear hw hc hr ht hdr hb hy hx
          go_wp2_with fail
          refine wp_region_cone (by kernel_rfl) (by kernel_rfl) ?_
          repeat (any_goals (first | go_big_quiet_step ((go_at_call 51; with_reducible exact Cone.call (HE.out _))) | quiet_step ((go_at_call 51; with_reducible exact Cone.call (HE.out _)))))
          refine wpQuiet_nil ?_
          rintro w2 ⟨⟨_, t2⟩, rfl⟩
          have hr := HR.out.only t2
          have ht := HT.out.only t2
          obtain ⟨y1, y2, y3, y4, y5⟩ := hr.all
          have HR2 := Lib.hid hr
          have HT2 := Lib.hid ht
          clear hr ht t2
          go_wp2_with fail
          go_roundg (T.size - (k + 1))
          case measure => omega
          case rel => exact ⟨k + 1, q + 1, by go_num, by omega, Nat.le_refl _, by omega, HR2.out.put1 _, HT2.out.then_ (but_set _ _ _ _), HW.out⟩
        · have t1 : ((y : Int) != (x : Int)) = true := by simp; omega
          have HW := Lib.hid (hw.trans (if_neg hc))
          have HR := Lib.hid hr
          have HT := Lib.hid ht
          clear hw hc hr ht hdr hb hy hx
          go_wp2_with fail
          refine wp_region_cone (by kernel_rfl) (by kernel_rfl) ?_
          repeat (any_goals (first | go_big_quiet_step ((go_at_call 51; with_reducible exact Cone.call (HE.out _))) | quiet_step ((go_at_call 51; with_reducible exact Cone.call (HE.out _)))))
          refine wpQuiet_nil ?_
          rintro w2 ⟨⟨_, t2⟩, rfl⟩
          have hr := HR.out.only t2
          have ht := HT.out.only t2
          obtain ⟨y1, y2, y3, y4, y5⟩ := hr.all
          clear hr t2
          go_wp2_with fail
          simp [bodyPost]
          exact post_bad HW.out ht
      · rw [hb] at hw
        have HW := Lib.hid hw
        have HR := Lib.hid hr
        have HT := Lib.hid ht
        clear hw hr ht hdr hb
        have HE : Hid (∀ W, Only wr W → Calls Tryd.prog 51 #[.pointer (some ⟨R, 0, none⟩)] W fun e w' => e = faultE D.size 11 ∧ Only W w') := Lib.hid fun W t => here_out (HR.out.only t) hge
        go_wp2_with fail
        obtain ⟨x, hx⟩ : ∃ x, x = (T[k]'hlt).toNat := ⟨_, rfl⟩
        have hx2 : (T[k]'hlt).toNat = x := hx.symm
        clear hx
        refine wp_richX [pVal (.pointer (some ⟨R, 0, none⟩)), fun _ _ _ => False, pVal (.string T), pVal (.int .i64 (k : Int)), pVal (.int .u8 (x : Int)), fun _ _ _ => True] (F := ?F3) (by kernel_rfl) (by kernel_rfl) ?hF3 ?hst3 ?hO3 ?hend3
        case hF3 =>
          intro vs
          simp only [fills]
          go_simp
          exact rfl
        case hO3 =>
          intro p hp
          simp only [List.mem_cons, List.not_mem_nil, or_false] at hp
          rcases hp with rfl | rfl | rfl | rfl | rfl | rfl
          all_goals first | exact stab_val _ | exact fun _ _ _ _ _ h => h
        case hend3 =>
          intro vs W hW hg
          simp [List.range_succ, depsOf, Region.binds, List.filter_cons, GotAll, saidV, pVal] at hg
        case hst3 =>
          simp only [StepsPX]
          refine ⟨?_, ?_, ?_, ?_, ?_, ?_, trivial⟩
          case refine_2 =>
            intro vs W hW hd K hK
            simp [depsOf, Region.binds, List.filter_cons, GotAll, saidV, pVal] at hd
            unfold RichAtX
            go_simp
            refine (HE.out _ hW).mono ?_
            rintro e w' ⟨rfl, t⟩
            exact Or.inr ⟨_, rfl, rfl, post_bad HW.out (HT.out.only (hW.trans t))⟩
          case refine_6 =>
            intro vs W hW hd K hK
            simp [depsOf, Region.binds, List.filter_cons, GotAll, saidV, pVal] at hd
          all_goals
            intro vs W hW hd K hK
            simp [depsOf, Region.binds, List.filter_cons, GotAll, saidV, pVal] at hd
            unfold RichAtX
            go_simp
            refine hK _ _ (Only.refl _) ?_
            exact rfl
    · obtain rfl : k = T.size := by omega
      have il : ¬ (T.size : Int) < (T.size : Int) := by omega
      rw [List.drop_eq_nil_of_le (by rw [data_len]; exact Nat.le_refl _)] at hw
      have HW := Lib.hid hw
      have HR := Lib.hid hr
      have HT := Lib.hid ht
      clear hw hr ht
      go_wp2_with fail
      simp [bodyPost, results, Tryd.results39, go_sem]
      exact post_ok HW.out HT.out hq rfl HR.out
end Go.Proofs.YtdhkpkojnokjdaaDoor

/-
  Limits of a value; a number read.
-/
namespace Go.Proofs.YtdhkpkojnokjdaaDoor
open Go.RowKit Go.Shelf
set_option linter.unusedVariables false
set_option linter.unusedSimpArgs false

theorem sCloneJ (s : ByteArray) (hs : s.size ≤ 281474976710656) (w : World) : Calls Tryd.prog 46 #[.string s] w fun r w' => r = .returned (.string s) ∧ Only w w' := Any.stringslite_Clone Tryd.laysM316 s w hs
theorem cloneJ (s : ByteArray) (hs : s.size ≤ 281474976710656) (w : World) : Calls Tryd.prog 30 #[.string s] w fun r w' => r = .returned (.string s) ∧ Only w w' := by
  go_enter Tryd.func30, Tryd.ntmps30
  go_wp2_with (go_at_call 46; refine (sCloneJ s hs _).mono ?_; rintro r w' ⟨rfl, hb⟩)
  go_ret
  exact ⟨rfl, hb⟩

theorem litE_le {s : List UInt8} {p : Nat} (hp : p ≤ s.length) : p ≤ (litE s p).1 ∧ (litE s p).1 ≤ s.length := by
  have h1 : ∀ {d}, d ≤ s.length → d ≤ (litExp s d).1 ∧ (litExp s d).1 ≤ s.length := fun {d} hd => by
    unfold litExp
    split
    · rename_i h
      have hlt := hasAt_lt h
      have h2 : d + 1 ≤ expAt s d ∧ expAt s d ≤ s.length := by
        unfold expAt
        split
        · rename_i h'; have := hasAt_lt h'; omega
        · omega
      exact ⟨by have := skipE_ge digitL s (expAt s d); simp only; omega, skipE_le digitL s h2.2⟩
    · exact ⟨Nat.le_refl _, hd⟩
  have h2 : ∀ {d}, d ≤ s.length → d ≤ (litFrac s d).1 ∧ (litFrac s d).1 ≤ s.length := fun {d} hd => by
    unfold litFrac
    split
    · rename_i h
      have hlt := hasAt_lt h
      exact ⟨by have := skipE_ge digitL s (d + 1); simp only; omega, skipE_le digitL s hlt⟩
    · exact ⟨Nat.le_refl _, hd⟩
  have h3 : ∀ {a}, a ≤ s.length → a ≤ litInt s a ∧ litInt s a ≤ s.length := fun {a} ha => by
    have g1 := skipE_ge digitL s a
    have g2 := skipE_le digitL s ha
    unfold litInt
    split
    · rename_i h
      simp only [Bool.and_eq_true, decide_eq_true_eq] at h
      omega
    · exact ⟨g1, g2⟩
  unfold litE
  have ha : p ≤ (if hasAt [45] s p then p + 1 else p) ∧ (if hasAt [45] s p then p + 1 else p) ≤ s.length := by
    split
    · rename_i h; have := hasAt_lt h; omega
    · omega
  generalize (if hasAt [45] s p then p + 1 else p) = a at *
  obtain ⟨b1, b2⟩ := h3 ha.2
  obtain ⟨c1, c2⟩ := h2 b2
  obtain ⟨d1, d2⟩ := h1 c2
  dsimp only
  split
  · exact ha
  · split <;> omega

def longB (s : List UInt8) (p : Nat) : Bool := (litE s p).2 && decide (40 < (litE s p).1 - p)

set_option maxHeartbeats 3200000 in
theorem isLong_any {D : ByteArray} {R p : Nat} {w : World} (h : RdAt w R D p) (hp : p ≤ D.size) (hl : D.size ≤ 1000000) :
    Calls Tryd.prog 52 #[.pointer (some ⟨R, 0, none⟩)] w fun e w' => e = .returned (.bool (longB D.data.toList p)) ∧ Only w w' := by
  have LE := fun W => literalEnd_any hp hl W
  obtain ⟨g1, g2⟩ := litE_le (s := D.data.toList) (p := p) (by rw [data_len]; exact hp)
  rw [data_len] at g2
  have hb : longB D.data.toList p = ((litE D.data.toList p).2 && decide (40 < (litE D.data.toList p).1 - p)) := rfl
  obtain ⟨e, he⟩ : ∃ e, e = (litE D.data.toList p).1 := ⟨_, rfl⟩
  obtain ⟨b, hb2⟩ : ∃ b, b = (litE D.data.toList p).2 := ⟨_, rfl⟩
  rw [← he, ← hb2] at LE hb
  rw [← he] at g1 g2
  have HB := Lib.hid hb
  have LE := Lib.hid LE
  have H := Lib.hid h
  obtain ⟨k1, k2⟩ := h.cone
  obtain ⟨d, hd⟩ : ∃ d, d = decide (40 < e - p) := ⟨_, rfl⟩
  have hd2 : decide ((40 : Int) < (e : Int) - (p : Int)) = d := by rw [hd, decide_eq_decide]; omega
  have HD := Lib.hid hd
  clear he hb2 hb h hd
  go_enter Tryd.func52, Tryd.ntmps52
  go_wp2_with fail
  refine wp_region_cone (by kernel_rfl) (by kernel_rfl) ?_
  repeat (any_goals (first | go_big_quiet_step ((go_at_call 53; with_reducible exact Cone.same (LE.out _))) | quiet_step ((go_at_call 53; with_reducible exact Cone.same (LE.out _)))))
  refine wpQuiet_nil ?_
  rintro w1 ⟨⟨_, t1⟩, rfl⟩
  have h1 := H.out.only t1
  obtain ⟨y1, y2, y3, y4, y5⟩ := h1.all
  have HT := Lib.hid t1
  clear k1 k2 t1 h1
  cases b
  · go_wp2_with fail
    go_ret
    exact ⟨by rw [HB.out]; rfl, HT.out⟩
  · go_wp2_with fail
    go_ret
    exact ⟨by rw [HB.out, ← HD.out]; rfl, HT.out⟩

/-- is the value that begins here beyond a limit? -/
def limE (s : List UInt8) (p k depth ahead : Nat) : Rs Unit :=
  if (k == 3 && longB s p) = true then .bad p 8 else if ((k == 5 || k == 6) && decide (32 ≤ depth)) = true then .bad p 20 else if decide (1000 ≤ ahead) = true then .bad p 9 else .ok () p

set_option maxHeartbeats 3200000 in
theorem limits_any {D : ByteArray} {R p k depth ahead : Nat} {w : World} (h : RdAt w R D p) (hp : p ≤ D.size) (hl : D.size ≤ 1000000) (hk : k ≤ 6) :
    Calls Tryd.prog 38 #[.pointer (some ⟨R, 0, none⟩), .int .i64 (k : Int), .int .i64 (depth : Int), .int .i64 (ahead : Int)] w (Post w R D (fun _ v _ => v = .tuple #[]) (limE D.data.toList p k depth ahead)) := by
  have IL := isLong_any h hp hl
  have hv : limE D.data.toList p k depth ahead = if (k == 3 && longB D.data.toList p) = true then .bad p 8 else if ((k == 5 || k == 6) && decide (32 ≤ depth)) = true then .bad p 20 else if decide (1000 ≤ ahead) = true then .bad p 9 else .ok () p := rfl
  obtain ⟨b, hb⟩ : ∃ b, b = longB D.data.toList p := ⟨_, rfl⟩
  rw [← hb] at IL hv
  clear hb
  have H := Lib.hid h
  obtain ⟨y1, y2, y3, y4, y5⟩ := h.all
  obtain ⟨x1, hx1⟩ : ∃ x, x = decide (32 ≤ depth) := ⟨_, rfl⟩
  have ix1 : decide ((32 : Int) ≤ (depth : Int)) = x1 := by rw [hx1, decide_eq_decide]; omega
  obtain ⟨x2, hx2⟩ : ∃ x, x = decide (1000 ≤ ahead) := ⟨_, rfl⟩
  have ix2 : decide ((1000 : Int) ≤ (ahead : Int)) = x2 := by rw [hx2, decide_eq_decide]; omega
  rw [← hx1, ← hx2] at hv
  clear hx1 hx2 h
  rcases (by omega : (k = 0 ∨ k = 1 ∨ k = 2 ∨ k = 4) ∨ k = 3 ∨ (k = 5 ∨ k = 6)) with (rfl | rfl | rfl | rfl) | rfl | (rfl | rfl)
  iterate 4
    · cases x2
      · skip
        have HK := Lib.hid (hv.trans rfl)
        clear hv
        go_enter Tryd.func38, Tryd.ntmps38
        go_wp2_with fail
        simp [bodyPost, results, Tryd.results38, go_sem]
        exact post_ok HK.out (Turn.refl _ _) hp rfl H.out
      · skip
        have HK := Lib.hid (hv.trans rfl)
        clear hv
        go_enter Tryd.func38, Tryd.ntmps38
        go_wp2_with fail
        simp [bodyPost]
        exact post_bad HK.out (Turn.refl _ _)
  · cases b
    · cases x2
      · skip
        have HK := Lib.hid (hv.trans rfl)
        clear hv
        go_enter Tryd.func38, Tryd.ntmps38
        go_wp2_with (go_at_call 52; refine IL.mono ?_; rintro r w1 ⟨rfl, t1⟩; clear y1 y2 y3 y4 y5; have hr := H.out.only t1; have HR := Lib.hid hr; obtain ⟨y1, y2, y3, y4, y5⟩ := hr.all; clear hr)
        simp [bodyPost, results, Tryd.results38, go_sem]
        exact post_ok HK.out (t1.but R) hp rfl HR.out
      · skip
        have HK := Lib.hid (hv.trans rfl)
        clear hv
        go_enter Tryd.func38, Tryd.ntmps38
        go_wp2_with (go_at_call 52; refine IL.mono ?_; rintro r w1 ⟨rfl, t1⟩; clear y1 y2 y3 y4 y5; have hr := H.out.only t1; have HR := Lib.hid hr; obtain ⟨y1, y2, y3, y4, y5⟩ := hr.all; clear hr)
        simp [bodyPost]
        exact post_bad HK.out (t1.but R)
    · skip
      have HK := Lib.hid (hv.trans rfl)
      clear hv
      go_enter Tryd.func38, Tryd.ntmps38
      go_wp2_with (go_at_call 52; refine IL.mono ?_; rintro r w1 ⟨rfl, t1⟩; clear y1 y2 y3 y4 y5; have hr := H.out.only t1; have HR := Lib.hid hr; obtain ⟨y1, y2, y3, y4, y5⟩ := hr.all; clear hr)
      simp [bodyPost]
      exact post_bad HK.out (t1.but R)
  iterate 2
    · cases x1
      · cases x2
        · skip
          have HK := Lib.hid (hv.trans rfl)
          clear hv
          go_enter Tryd.func38, Tryd.ntmps38
          go_wp2_with fail
          simp [bodyPost, results, Tryd.results38, go_sem]
          exact post_ok HK.out (Turn.refl _ _) hp rfl H.out
        · skip
          have HK := Lib.hid (hv.trans rfl)
          clear hv
          go_enter Tryd.func38, Tryd.ntmps38
          go_wp2_with fail
          simp [bodyPost]
          exact post_bad HK.out (Turn.refl _ _)
      · skip
        have HK := Lib.hid (hv.trans rfl)
        clear hv
        go_enter Tryd.func38, Tryd.ntmps38
        go_wp2_with fail
        simp [bodyPost]
        exact post_bad HK.out (Turn.refl _ _)

def literalE (s : List UInt8) (p : Nat) : Rs (List UInt8) := if (litE s p).2 = true then .ok ((s.drop p).take ((litE s p).1 - p)) (litE s p).1 else .bad (litE s p).1 11

set_option maxHeartbeats 3200000 in
theorem literal_any {D : ByteArray} {R p : Nat} {w : World} (h : RdAt w R D p) (hp : p ≤ D.size) (hl : D.size ≤ 1000000) :
    Calls Tryd.prog 40 #[.pointer (some ⟨R, 0, none⟩)] w (Post w R D (fun t v _ => v = .string ⟨t.toArray⟩) (literalE D.data.toList p)) := by
  have LE := fun W => literalEnd_any hp hl W
  obtain ⟨g1, g2⟩ := litE_le (s := D.data.toList) (p := p) (by rw [data_len]; exact hp)
  rw [data_len] at g2
  have hv : literalE D.data.toList p = if (litE D.data.toList p).2 = true then .ok ((D.data.toList.drop p).take ((litE D.data.toList p).1 - p)) (litE D.data.toList p).1 else .bad (litE D.data.toList p).1 11 := rfl
  obtain ⟨e, he⟩ : ∃ e, e = (litE D.data.toList p).1 := ⟨_, rfl⟩
  obtain ⟨b, hb2⟩ : ∃ b, b = (litE D.data.toList p).2 := ⟨_, rfl⟩
  rw [← he, ← hb2] at LE hv
  rw [← he] at g1 g2
  have LE := Lib.hid LE
  have H := Lib.hid h
  obtain ⟨y1, y2, y3, y4, y5⟩ := h.all
  have i1 : (p : Int) ≤ (e : Int) := by omega
  have i2 : (e : Int) ≤ (D.size : Int) := by omega
  clear he hb2 h
  cases b
  · have HK := Lib.hid (hv.trans rfl)
    clear hv
    go_enter Tryd.func40, Tryd.ntmps40
    go_wp2_with (go_at_call 53; refine (LE.out _).mono ?_; rintro r w1 ⟨rfl, rfl⟩)
    simp [bodyPost]
    exact post_bad HK.out (Turn.refl _ _)
  · have HK := Lib.hid (hv.trans rfl)
    have hx : D.extract p e = ⟨((D.data.toList.drop p).take (e - p)).toArray⟩ := by
      apply ByteArray.ext
      apply Array.toList_inj.mp
      have := Lib.extract_data D p e
      rw [this]
    have CL := fun W => cloneJ (D.extract p e) (by have : (D.extract p e).size ≤ D.size := by rw [← data_len, Lib.extract_data, ← data_len]; simp; omega
                                                   omega) W
    rw [hx] at CL
    have CL := Lib.hid CL
    clear hv
    go_enter Tryd.func40, Tryd.ntmps40
    go_wp2_with (first | (go_at_call 53; refine (LE.out _).mono ?_; rintro r w1 ⟨rfl, rfl⟩) | (rw [hx]; go_at_call 30; refine (CL.out _).mono ?_; rintro r w2 ⟨rfl, t2⟩) | (go_at_call 30; refine (CL.out _).mono ?_; rintro r w2 ⟨rfl, t2⟩))
    go_ret
    exact post_ok HK.out ((but_set _ _ _ _).only t2) g2 rfl ((H.out.put1 _).only t2)
end Go.Proofs.YtdhkpkojnokjdaaDoor
