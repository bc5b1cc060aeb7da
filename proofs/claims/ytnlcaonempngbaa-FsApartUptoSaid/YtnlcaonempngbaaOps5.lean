/-
  Rename.
-/
import Derived.Test.YtnlcaonempngbaaFsC
namespace Go.Proofs.Ytnlcaonempngbaa
open Go.RowKit Go.Maps Go.WideMaps

section
variable {w w' : World} {p : Nat} {S S' : Fsp.Fs} {c c' : Bool} {Q : Nat → Prop} {mo : Option Nat} {pl : List UInt8 → Pl}

theorem drop_any {mb : Nat} (h : RepX w p S c Q (some mb) pl) (s : ByteArray) (hs : s.size ≤ maxLen) :
    Calls Try.prog 49 #[.pointer (some ⟨p, 0, none⟩), .string s] w fun r w' => r = .returned (.tuple #[]) ∧ RepX w' p { S with L := Fsp.del S.L s.data.toList } c Q (some mb) pl ∧ Turn (fun b => b = p ∨ b = mb) w w' := by
  cases hf : Fsp.find S.L s.data.toList with
  | none =>
    refine (drop_none h s hs hf).mono ?_
    rintro r w' ⟨rfl, rfl⟩
    rw [Fsp.del_none hf]
    exact ⟨rfl, h, Turn.refl _ _⟩
  | some f => exact drop_some h s hs hf

/-- the map's two changes, and what that makes -/
theorem moved {w5 : World} {mb k : Nat} {a b : List UInt8} {f : Fsp.File} {D : DataW Unit} (h : RepX w p S false Q (some mb) pl) (hab : a ≠ b) (hfa : Fsp.find S.L a = some f) (hfb : Fsp.find S.L b = none) (hv : Fsp.valid b = true)
    (ht : Turn (fun x => x = mb) w w5) (hown : w5.ownsMap Try.prog 9 ptrElem mb k ((D.del (.string a)).put (.string b) (fbLit (pl a).fb))) (hag : Agree D S.L pl) (hti : Tidy D) :
    RepX w5 p { S with L := Fsp.put (Fsp.del S.L a) b f } false Q (some mb) (setPl pl b (pl a)) := by
  have hs := h.good.1
  have hd : Fsp.find (Fsp.del S.L a) b = none := by rw [Fsp.find_del_other _ (Ne.symm hab)]; exact hfb
  have u1 := Fsp.used_del hfa
  have u2 := Fsp.used_put_none hd f
  have hu : Fsp.usedOf (Fsp.put (Fsp.del S.L a) b f) = Fsp.usedOf S.L := by omega
  have g1 : Fsp.Good { S with L := Fsp.del S.L a } := good_del h.good rfl rfl h.good.2.2.2.2.1
  have hlen := Fsp.length_del S.L a
  rw [hfa] at hlen
  simp only [Option.isSome_some, if_true] at hlen
  have hpl := h.lt p h.inP
  refine h.moveFile ht hfa hfb ?_ rfl ?_ hown ?_
  · rw [ht.block p hpl (h.p_ne_mb rfl), h.head]
    simp only [headOf, hu]
  · exact good_put (S := { S with L := Fsp.del S.L a }) g1 rfl rfl h.good.2.2.2.2.1 hv (h.good.2.2.2.2.2 a f hfa).2 (Or.inr (by have := h.good.2.2.2.1; simp only; omega)) (by simp only [hu]; exact h.good.2.1)
  · exact (hag.del hs hti a).put (Fsp.del_sorted hs _) (hti.del _) b f (pl a)

theorem renamed {w1 w2 w3 w4 w5 : World} {mb k : Nat} {a b : List UInt8} {f : Fsp.File} {D : DataW Unit} (h1 : RepX w1 p (Fsp.stepped S) false Q (some mb) pl) (ht : Turn (fun b => b = p) w w1)
    (h2 : RepX w2 p { Fsp.stepped S with L := Fsp.del S.L b } false Q (some mb) pl) (ht2 : Turn (fun x => x = p ∨ x = mb) w1 w2) (hab : a ≠ b) (hfa : Fsp.find S.L a = some f) (hv : Fsp.valid b = true)
    (hag : Agree D (Fsp.del S.L b) pl) (hti : Tidy D) (hg3 : w2.grownBy w3 (some mb)) (T4 : Turn (fun _ => False) w3 w4) (hg5 : w4.grownBy w5 (some mb))
    (hown : w5.ownsMap Try.prog 9 ptrElem mb k ((D.del (.string a)).put (.string b) (fbLit (pl a).fb))) : Post w p { Fsp.stepped S with L := Fsp.put (Fsp.del (Fsp.del S.L b) a) b f } Q w5 := by
  have t23 : Turn (fun x => x = mb) w2 w3 := (Turn.refl (fun x => x = mb) w2).grown hg3 (fun k e => by cases e; exact Or.inl rfl)
  have t45 : Turn (fun x => x = mb) w4 w5 := (Turn.refl (fun x => x = mb) w4).grown hg5 (fun k e => by cases e; exact Or.inl rfl)
  have t25 : Turn (fun x => x = mb) w2 w5 := (t23.trans T4 (fun _ _ q => q.elim)).trans t45 (fun _ _ q => q)
  have hs : Fsp.Sorted S.L := by have := h1.good.1; rw [stepped_L] at this; exact this
  have h5 := moved (a := a) (b := b) (f := f) h2 hab (by simp only; rw [Fsp.find_del_other _ hab]; exact hfa) (by simp only; exact Fsp.find_del_same hs b) hv t25 hown hag hti
  refine Post.of h1 ht (h5.grow w1) ((ht2.mono (Q' := Q) ?_).trans t25 ?_)
  · rintro i (e | e)
    · rw [e]; exact h1.inP
    · rw [e]; exact h1.inM _ rfl
  · intro i _ e
    rw [e]; exact h1.inM _ rfl

theorem rename_early (h : RepX w p S false Q mo pl) (hs : StepsOk S) (s t : ByteArray) (hz : s.size ≤ maxLen) (hzt : t.size ≤ maxLen)
    (he : S.down = true ∨ Fsp.find S.L s.data.toList = none ∨ Fsp.valid t.data.toList = false ∨ S.armed = 1 ∨ s.data.toList = t.data.toList) :
    Calls Try.prog 39 #[.pointer (some ⟨p, 0, none⟩), .string s, .string t] w fun r w' => r = .returned (.int .i64 ((Fsp.rename S s.data.toList t.data.toList).2 : Nat)) ∧ Post w p (Fsp.rename S s.data.toList t.data.toList).1 Q w' := by
  have hp := Post.same h
  cases hd : S.down with
  | true =>
    have e : Fsp.rename S s.data.toList t.data.toList = (S, 5) := by simp [Fsp.rename, hd]
    rw [e]; clear e he
    go_enter Try.func39, Try.ntmps39
    go_wp2_with (go_at_call 23; refine (down_is h hd).mono ?_; rintro r w' ⟨rfl, rfl⟩)
    go_ret
    exact ⟨rfl, hp⟩
  | false =>
    have HD := Lib.hid hd
    cases hf : Fsp.find S.L s.data.toList with
    | none =>
      have e : Fsp.rename S s.data.toList t.data.toList = (S, 2) := by simp [Fsp.rename, hd, hf]
      rw [e]; clear e he hd
      have HF := Lib.hid hf
      clear hf
      go_enter Try.func39, Try.ntmps39
      go_wp2_with (first | (go_at_call 23; refine (down_is h HD.out).mono ?_; rintro r w' ⟨rfl, rfl⟩) | (go_at_call 47; refine (find_none h s hz HF.out).mono ?_; rintro r w' ⟨rfl, rfl⟩))
      go_ret
      exact ⟨rfl, hp⟩
    | some f =>
      have HF := Lib.hid hf
      cases hv : Fsp.valid t.data.toList with
      | false =>
        have e : Fsp.rename S s.data.toList t.data.toList = (S, 1) := by simp [Fsp.rename, hd, hf, hv]
        rw [e]; clear e he hd hf
        have HV := Lib.hid hv
        clear hv
        go_enter Try.func39, Try.ntmps39
        go_wp2_with (first | (go_at_call 23; refine (down_is h HD.out).mono ?_; rintro r w' ⟨rfl, rfl⟩) | (go_at_call 47; refine (find_some h s hz HF.out).mono ?_; rintro r w' ⟨rfl, rfl⟩) | (go_at_call 40; refine (valid_any t hzt _).mono ?_; rintro r w' ⟨rfl, rfl⟩; rw [HV.out]))
        go_ret
        exact ⟨rfl, hp⟩
      | true =>
        have HV := Lib.hid hv
        by_cases ha : S.armed = 1
        · have e : Fsp.rename S s.data.toList t.data.toList = (Fsp.stepped S, 5) := by simp [Fsp.rename, hd, hf, hv, ha]
          rw [e]; clear e he hd hf hv
          have HA := Lib.hid ha
          clear ha
          go_enter Try.func39, Try.ntmps39
          go_wp2_with (first | (go_at_call 23; refine (down_is h HD.out).mono ?_; rintro r w' ⟨rfl, rfl⟩) | (go_at_call 47; refine (find_some h s hz HF.out).mono ?_; rintro r w' ⟨rfl, rfl⟩) | (go_at_call 40; refine (valid_any t hzt _).mono ?_; rintro r w' ⟨rfl, rfl⟩; rw [HV.out]) | (go_at_call 48; refine (step_no h HA.out).mono ?_; rintro r w' ⟨rfl, h1, ht⟩))
          go_ret
          exact ⟨rfl, Post.head h1 h.inP ht⟩
        · have hst : s.data.toList = t.data.toList := by simpa [hd, hf, hv, ha] using he
          have e : Fsp.rename S s.data.toList t.data.toList = (Fsp.stepped S, 0) := by simp only [Fsp.rename, hd, hf, hv, if_neg ha, if_pos hst]; rfl
          rw [e]; clear e he hd hf
          have est : s = t := by
            apply ByteArray.ext
            exact Array.toList_inj.1 hst
          subst est
          have HA := Lib.hid ha
          have HS := Lib.hid hs
          clear ha hs hst hv
          go_enter Try.func39, Try.ntmps39
          go_wp2_with (first | (go_at_call 23; refine (down_is h HD.out).mono ?_; rintro r w' ⟨rfl, rfl⟩) | (go_at_call 47; refine (find_some h s hz HF.out).mono ?_; rintro r w' ⟨rfl, rfl⟩) | (go_at_call 40; refine (valid_any s hzt _).mono ?_; rintro r w' ⟨rfl, rfl⟩; rw [HV.out]) | (go_at_call 48; refine (step_yes h HA.out HS.out).mono ?_; rintro r w' ⟨rfl, h1, ht⟩))
          go_ret
          exact ⟨rfl, Post.head h1 h.inP ht⟩

set_option maxRecDepth 100000 in
set_option maxHeartbeats 400000 in
theorem rename_some {mb : Nat} (h : RepX w p S false Q (some mb) pl) (hs : StepsOk S) (s t : ByteArray) (hz : s.size ≤ maxLen) (hzt : t.size ≤ maxLen) (HD : Hid (S.down = false)) (f : Fsp.File) (HF : Hid (Fsp.find S.L s.data.toList = some f)) (HV : Hid (Fsp.valid t.data.toList = true)) (HA : Hid (S.armed ≠ 1))
    (HN : Hid (s.data.toList ≠ t.data.toList)) :
    Calls Try.prog 39 #[.pointer (some ⟨p, 0, none⟩), .string s, .string t] w fun r w' => r = .returned (.int .i64 0) ∧ Post w p { Fsp.stepped S with L := Fsp.put (Fsp.del (Fsp.del S.L t.data.toList) s.data.toList) t.data.toList f } Q w' := by
  have HS := Lib.hid hs
  have hz2 : t.size ≤ 281474976710656 := by have := valid_size HV.out; simp at this; omega
  have HZ := Lib.hid hz2
  clear hs hz2
  have hst : (s.toList == t.toList) = false := by
    rw [Lib.toList_data, Lib.toList_data, beq_eq_false_iff_ne]; exact HN.out
  go_enter Try.func39, Try.ntmps39
  go_wp2_with (first | (go_at_call 23; refine (down_is h HD.out).mono ?_; rintro r w' ⟨rfl, rfl⟩) | (go_at_call 47; refine (find_some h s hz HF.out).mono ?_; rintro r w' ⟨rfl, rfl⟩) | (go_at_call 40; refine (valid_any t hzt _).mono ?_; rintro r w' ⟨rfl, rfl⟩; rw [HV.out]))
  go_at_call 48
  refine (step_yes h HA.out HS.out).mono ?_
  rintro r w1 ⟨rfl, h1, ht⟩
  go_wp2_with fail
  go_at_call 49
  refine (drop_any h1 t hzt).mono ?_
  rintro r w2 ⟨rfl, h2, ht2⟩
  rw [stepped_L] at h2
  have c0 := h2.cells.c0
  obtain ⟨D, hown0, hag⟩ := h2.map
  have hown := hown0.mono (n' := 400) h2.good.2.2.2.1
  clear hown0
  have hlt : 400 < maxLen := by unfold maxLen; omega
  have HT := Lib.hid hlt
  clear hlt
  have hne := h2.p_ne_mb rfl
  have hpl := h2.lt p h2.inP
  go_wp2_with (at_delete; refine wpList_delete_own _ rfl _ _ 70 9 rfl 74 lawS Try.underlying70 ptrElem mb _ D rfl hown _ _ rfl (keyOf_string_mk Try.underlying9 hz) ?_; intro w3 hown3 hturn3)
  have k0 : w3.cell? ⟨p, 0, none⟩ = some (.map (some mb)) := hturn3.grown.cell c0 (by simpa using hne)
  have ka := cell_alloc k0
  go_region_with (first | (go_at_call 50; refine (clone_any t HZ.out _).mono ?_; rintro r w4 ⟨rfl, ht4⟩; have T4 : Turn (fun _ => False) w3 w4 := Turn.trans (by repeat (first | exact Turn.refl _ _ | apply Turn.alloc | apply Turn.drew)) ht4 (fun _ _ q => q); have k1 := turn_cell T4 k0; have k2 := cell_alloc k1) | (with_reducible refine upon_mapUpdate (ownsMap_turned hown3 (by repeat (first | exact T4 | exact Turn.refl _ _ | apply Turn.alloc | apply Turn.drew)) (fun q => q)) lawS Try.underlying70 HT.out (keyOf_string_mk Try.underlying9 hzt) (ptrElem_mk _) ?_; intro w5 hown5 hgr5))
  all_goals go_wp2_with fail
  all_goals go_ret
  all_goals refine ⟨rfl, ?_⟩
  all_goals exact renamed h1 ht h2 ht2 HN.out HF.out HV.out hag (hown.tidy lawS) hturn3.grown T4 hgr5 hown5

theorem rename_any (h : RepX w p S false Q mo pl) (hs : StepsOk S) (s t : ByteArray) (hz : s.size ≤ maxLen) (hzt : t.size ≤ maxLen) :
    Calls Try.prog 39 #[.pointer (some ⟨p, 0, none⟩), .string s, .string t] w fun r w' => r = .returned (.int .i64 ((Fsp.rename S s.data.toList t.data.toList).2 : Nat)) ∧ Post w p (Fsp.rename S s.data.toList t.data.toList).1 Q w' := by
  by_cases he : S.down = true ∨ Fsp.find S.L s.data.toList = none ∨ Fsp.valid t.data.toList = false ∨ S.armed = 1 ∨ s.data.toList = t.data.toList
  · exact rename_early h hs s t hz hzt he
  · simp only [not_or] at he
    obtain ⟨h1, h2, h3, h4, h5⟩ := he
    have hd : S.down = false := by simpa using h1
    have hv : Fsp.valid t.data.toList = true := by simpa using h3
    cases hf : Fsp.find S.L s.data.toList with
    | none => exact absurd hf h2
    | some f =>
      have e : Fsp.rename S s.data.toList t.data.toList = ({ Fsp.stepped S with L := Fsp.put (Fsp.del (Fsp.del S.L t.data.toList) s.data.toList) t.data.toList f }, 0) := by
        simp only [Fsp.rename, hd, hf, hv, if_neg h4, if_neg h5]; rfl
      rw [e]
      obtain ⟨mb, rfl⟩ := mo_some h hf
      exact rename_some h hs s t hz hzt hd f hf hv h4 h5

end
end Go.Proofs.Ytnlcaonempngbaa
