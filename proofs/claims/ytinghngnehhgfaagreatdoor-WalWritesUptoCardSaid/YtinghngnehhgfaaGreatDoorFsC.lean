/-
  PARTS: Ops1, Ops2, Ops3, Ops4.
-/
import Derived.Test.YtinghngnehhgfaaGreatDoorFsB
import Derived.Deep.RegionWith
import Derived.Maps.AppendAt
import Derived.Laws.AppendOwnNone
/-
  Sync, Truncate, Remove.
-/
namespace Go.Proofs.YtinghngnehhgfaaGreatDoor
open Go.RowKit Go.Maps Go.WideMaps

section
variable {w w' : World} {p : Nat} {S S' : Fsp.Fs} {c c' : Bool} {Q : Nat → Prop} {mo : Option Nat} {pl : List UInt8 → Pl}

theorem ret_err {a b : Int} (h : a = b) : Ending.returned (.int .i64 a) = .returned (.int .i64 b) := by rw [h]

theorem sync_any (h : RepX w p S false Q mo pl) (hs : StepsOk S) (s : ByteArray) (hz : s.size ≤ maxLen) :
    Calls Tryz.prog 35 #[.pointer (some ⟨p, 0, none⟩), .string s] w fun r w' => r = .returned (.int .i64 ((Fsp.sync S s.data.toList).2 : Nat)) ∧ Post w p (Fsp.sync S s.data.toList).1 Q w' := by
  cases hd : S.down with
  | true =>
    have e : Fsp.sync S s.data.toList = (S, 5) := by simp [Fsp.sync, hd]
    rw [e]; clear e
    have hp := Post.same h
    go_enter Tryz.func35, Tryz.ntmps35
    go_wp2_with (go_at_call 22; refine (down_is h hd).mono ?_; rintro r w' ⟨rfl, rfl⟩)
    go_ret
    exact ⟨rfl, hp⟩
  | false =>
    cases hf : Fsp.find S.L s.data.toList with
    | none =>
      have e : Fsp.sync S s.data.toList = (S, 2) := by simp [Fsp.sync, hd, hf]
      rw [e]; clear e
      have hp := Post.same h
      have HF := Lib.hid hf
      have HD := Lib.hid hd
      clear hf hd
      go_enter Tryz.func35, Tryz.ntmps35
      go_wp2_with (first | (go_at_call 22; refine (down_is h HD.out).mono ?_; rintro r w' ⟨rfl, rfl⟩) | (go_at_call 38; refine (find_none h s hz HF.out).mono ?_; rintro r w' ⟨rfl, rfl⟩))
      go_ret
      exact ⟨rfl, hp⟩
    | some f =>
      by_cases ha : S.armed = 1
      · have e : Fsp.sync S s.data.toList = (Fsp.stepped S, 5) := by simp [Fsp.sync, hd, hf, ha]
        rw [e]; clear e
        have HF := Lib.hid hf
        have HD := Lib.hid hd
        have HA := Lib.hid ha
        clear hf hd ha
        go_enter Tryz.func35, Tryz.ntmps35
        go_wp2_with (first | (go_at_call 22; refine (down_is h HD.out).mono ?_; rintro r w' ⟨rfl, rfl⟩) | (go_at_call 38; refine (find_some h s hz HF.out).mono ?_; rintro r w' ⟨rfl, rfl⟩) | (go_at_call 47; refine (step_no h HA.out).mono ?_; rintro r w' ⟨rfl, h1, ht⟩))
        go_ret
        exact ⟨rfl, Post.head h1 h.inP ht⟩
      · have e : Fsp.sync S s.data.toList = ({ Fsp.stepped S with L := Fsp.put S.L s.data.toList ⟨f.data, f.data.length⟩ }, 0) := by simp [Fsp.sync, hd, hf, ha]
        rw [e]; clear e
        have HF := Lib.hid hf
        have HD := Lib.hid hd
        have HA := Lib.hid ha
        have HS := Lib.hid hs
        clear hf hd ha hs
        go_enter Tryz.func35, Tryz.ntmps35
        go_wp2_with (first | (go_at_call 22; refine (down_is h HD.out).mono ?_; rintro r w' ⟨rfl, rfl⟩) | (go_at_call 38; refine (find_some h s hz HF.out).mono ?_; rintro r w' ⟨rfl, rfl⟩))
        go_at_call 47
        refine (step_yes h HA.out HS.out).mono ?_
        rintro r w1 ⟨rfl, h1, ht⟩
        have hf1 : Fsp.find (Fsp.stepped S).L s.data.toList = some f := by rw [stepped_L]; exact HF.out
        obtain ⟨sp, cap, hsv, hlc, hcap, hfc⟩ := file_open h1 hf1
        have f0 := hfc.c0
        have f1 := hfc.c1
        have g1 := hfc.fr 1
        have HS := Lib.hid hsv
        have H1 := Lib.hid hf1
        clear hsv hf1
        go_wp2
        go_ret
        exact ⟨rfl, Post.syncCell f.data.length h1 ht H1.out (Nat.le_refl _) (by simp only [stepped_L]) rfl⟩

theorem cut_rep {w1 : World} {n : List UInt8} {f : Fsp.File} {sp : Option Addr} {cap : Nat} (h : RepX w1 p S c Q mo pl) (hf : Fsp.find S.L n = some f) (hsv : (pl n).sv = .slice sp f.data.length cap) (hlc : f.data.length ≤ cap) (hcap : cap ≤ maxLen)
    (k : Nat) (hk : k ≤ f.data.length) :
    Calls Tryz.prog 82 #[.pointer (some ⟨p, 0, none⟩), .pointer (some ⟨(pl n).fb, 0, none⟩), .int .i64 k] w1 fun r w2 => r = .returned (.tuple #[]) ∧
      RepX w2 p { S with L := Fsp.put S.L n ⟨f.data.take k, min f.synced k⟩ } c (Grow Q w1 w2) mo (setPl pl n ⟨(pl n).fb, .slice sp k cap⟩) ∧ Turn (fun b => b = p ∨ b = (pl n).fb) w1 w2 := by
  have hfile := h.file n f hf
  have hc := hfile.cells
  rw [hsv] at hc
  have hu := Fsp.used_find hf
  have hr := h.good.2.1
  have hr2 := h.good.2.2.1
  have hne := h.p_ne_fb hf
  refine (cut_walk h.cells hc k hk hlc hcap (by omega) (by omega)).mono ?_
  rintro r w2 ⟨rfl, hw⟩
  have ht : Turn (fun b => b = p ∨ b = (pl n).fb) w1 w2 := Turn.like ((((Turn.refl _ _).setCell (p := ⟨p, 2, none⟩) (Or.inl (Or.inl rfl)) _).setCell (p := ⟨(pl n).fb, 0, none⟩) (Or.inl (Or.inr rfl)) _).setCell (p := ⟨(pl n).fb, 1, none⟩) (Or.inl (Or.inr rfl)) _) hw
  have hp2 : w2.heap[p]? = some (.cells #[.map mo, .int .i64 (S.room : Int), .int .i64 ((Fsp.usedOf S.L : Int) - ((f.data.length : Int) - k)), .int .i64 (S.steps : Int), .int .i64 (S.armed : Int), .bool S.down, .bool c] 49 (0, 0)) := by
    rw [hw.heap, heap_setCell_other hne, heap_setCell_other hne, heap_setCell_same h.head]; rfl
  have hb2 : w2.heap[(pl n).fb]? = some (.cells #[.slice sp k cap, .int .i64 (min f.synced k : Nat)] 67 (0, 0)) := by
    have e0 : (w1.setCell ⟨p, 2, none⟩ (.int .i64 ((Fsp.usedOf S.L : Int) - ((f.data.length : Int) - k)))).heap[(pl n).fb]? = some (.cells #[(pl n).sv, .int .i64 (f.synced : Int)] 67 (0, 0)) := by
      rw [heap_setCell_other (Ne.symm hne)]; exact hfile.1
    rw [hw.heap, heap_setCell_same (heap_setCell_same e0 _) _]
    have e : (min (f.synced : Int) (k : Int)) = ((min f.synced k : Nat) : Int) := by omega
    rw [e]; rfl
  exact ⟨rfl, h.cutTo k (min f.synced k) hf hk (by omega) hsv ht hp2 hb2, ht⟩

theorem take_toNat {f : Fsp.File} {k : Int} (h : ¬ (k < 0 ∨ (f.data.length : Int) < k)) : ∃ m : Nat, k = m ∧ m ≤ f.data.length := ⟨k.toNat, by omega, by omega⟩

theorem truncate_any (h : RepX w p S false Q mo pl) (hs : StepsOk S) (s : ByteArray) (hz : s.size ≤ maxLen) (k : Int) :
    Calls Tryz.prog 63 #[.pointer (some ⟨p, 0, none⟩), .string s, .int .i64 k] w fun r w' => r = .returned (.int .i64 ((Fsp.truncate S s.data.toList k).2 : Nat)) ∧ Post w p (Fsp.truncate S s.data.toList k).1 Q w' := by
  cases hd : S.down with
  | true =>
    have e : Fsp.truncate S s.data.toList k = (S, 5) := by simp [Fsp.truncate, hd]
    rw [e]; clear e
    have hp := Post.same h
    go_enter Tryz.func63, Tryz.ntmps63
    go_wp2_with (go_at_call 22; refine (down_is h hd).mono ?_; rintro r w' ⟨rfl, rfl⟩)
    go_ret
    exact ⟨rfl, hp⟩
  | false =>
    cases hf : Fsp.find S.L s.data.toList with
    | none =>
      have e : Fsp.truncate S s.data.toList k = (S, 2) := by simp [Fsp.truncate, hd, hf]
      rw [e]; clear e
      have hp := Post.same h
      have HF := Lib.hid hf
      have HD := Lib.hid hd
      clear hf hd
      go_enter Tryz.func63, Tryz.ntmps63
      go_wp2_with (first | (go_at_call 22; refine (down_is h HD.out).mono ?_; rintro r w' ⟨rfl, rfl⟩) | (go_at_call 38; refine (find_none h s hz HF.out).mono ?_; rintro r w' ⟨rfl, rfl⟩))
      go_ret
      exact ⟨rfl, hp⟩
    | some f =>
      obtain ⟨sp, cap, hsv, hlc, hcap, hfc⟩ := file_open h hf
      have f0 := hfc.c0
      by_cases hk : k < 0 ∨ (f.data.length : Int) < k
      · have e : Fsp.truncate S s.data.toList k = (S, 6) := by simp only [Fsp.truncate, hd, hf, if_pos hk]; rfl
        rw [e]; clear e
        have hp := Post.same h
        have HF := Lib.hid hf
        have HD := Lib.hid hd
        have HV := Lib.hid hsv
        clear hf hd hsv
        by_cases hk0 : k < 0
        · clear hk
          go_enter Tryz.func63, Tryz.ntmps63
          go_wp2_with (first | (go_at_call 22; refine (down_is h HD.out).mono ?_; rintro r w' ⟨rfl, rfl⟩) | (go_at_call 38; refine (find_some h s hz HF.out).mono ?_; rintro r w' ⟨rfl, rfl⟩))
          go_ret
          exact ⟨rfl, hp⟩
        · have hk1 : (f.data.length : Int) < k := by omega
          have hk2 : 0 ≤ k := by omega
          clear hk hk0
          go_enter Tryz.func63, Tryz.ntmps63
          go_wp2_with (first | (go_at_call 22; refine (down_is h HD.out).mono ?_; rintro r w' ⟨rfl, rfl⟩) | (go_at_call 38; refine (find_some h s hz HF.out).mono ?_; rintro r w' ⟨rfl, rfl⟩))
          go_ret
          exact ⟨rfl, hp⟩
      · by_cases ha : S.armed = 1
        · have e : Fsp.truncate S s.data.toList k = (Fsp.stepped S, 5) := by simp only [Fsp.truncate, hd, hf, if_neg hk, if_pos ha]; rfl
          rw [e]; clear e
          have HF := Lib.hid hf
          have HD := Lib.hid hd
          have HV := Lib.hid hsv
          have HA := Lib.hid ha
          have hk1 : k ≤ (f.data.length : Int) := by omega
          have hk2 : 0 ≤ k := by omega
          clear hf hd hsv ha hk
          go_enter Tryz.func63, Tryz.ntmps63
          go_wp2_with (first | (go_at_call 22; refine (down_is h HD.out).mono ?_; rintro r w' ⟨rfl, rfl⟩) | (go_at_call 38; refine (find_some h s hz HF.out).mono ?_; rintro r w' ⟨rfl, rfl⟩) | (go_at_call 47; refine (step_no h HA.out).mono ?_; rintro r w' ⟨rfl, h1, ht⟩))
          go_ret
          exact ⟨rfl, Post.head h1 h.inP ht⟩
        · have e : Fsp.truncate S s.data.toList k = ({ Fsp.stepped S with L := Fsp.put S.L s.data.toList ⟨f.data.take k.toNat, min f.synced k.toNat⟩ }, 0) := by simp only [Fsp.truncate, hd, hf, if_neg hk, if_neg ha]; rfl
          rw [e]; clear e
          obtain ⟨m, rfl, hm⟩ := take_toNat hk
          rw [Int.toNat_natCast]
          have hsv0 := hsv
          have HF := Lib.hid hf
          have HD := Lib.hid hd
          have HV := Lib.hid hsv
          have HA := Lib.hid ha
          have HS := Lib.hid hs
          clear hf hd hsv ha hs hk hsv0
          go_enter Tryz.func63, Tryz.ntmps63
          go_wp2_with (first | (go_at_call 22; refine (down_is h HD.out).mono ?_; rintro r w' ⟨rfl, rfl⟩) | (go_at_call 38; refine (find_some h s hz HF.out).mono ?_; rintro r w' ⟨rfl, rfl⟩))
          go_at_call 47
          refine (step_yes h HA.out HS.out).mono ?_
          rintro r w1 ⟨rfl, h1, ht⟩
          have hf1 : Fsp.find (Fsp.stepped S).L s.data.toList = some f := by rw [stepped_L]; exact HF.out
          have H1 := Lib.hid hf1
          clear hf1
          go_wp2_with (go_at_call 82; refine (cut_rep h1 H1.out HV.out hlc hcap m hm).mono ?_; rintro r w2 ⟨rfl, h2, ht2⟩)
          go_ret
          rw [stepped_L] at h2
          refine ⟨rfl, Post.of h1 ht h2 (ht2.mono ?_)⟩
          rintro i (e | e)
          · rw [e]; exact h1.inP
          · rw [e]; exact h1.inF _ (by rw [H1.out]; rfl)

end
end Go.Proofs.YtinghngnehhgfaaGreatDoor

/-
  drop, Remove.
-/
namespace Go.Proofs.YtinghngnehhgfaaGreatDoor
open Go.RowKit Go.Maps Go.WideMaps

section
variable {w w' : World} {p : Nat} {S S' : Fsp.Fs} {c c' : Bool} {Q : Nat → Prop} {mo : Option Nat} {pl : List UInt8 → Pl}

theorem drop_none (h : RepX w p S c Q mo pl) (s : ByteArray) (hs : s.size ≤ maxLen) (hf : Fsp.find S.L s.data.toList = none) :
    Calls Tryz.prog 48 #[.pointer (some ⟨p, 0, none⟩), .string s] w fun r w' => r = .returned (.tuple #[]) ∧ w = w' := by
  have HF := Lib.hid hf
  clear hf
  go_enter Tryz.func48, Tryz.ntmps48
  go_wp2_with (go_at_call 38; refine (find_none h s hs HF.out).mono ?_; rintro r w' ⟨rfl, rfl⟩)
  go_end0
  exact ⟨rfl, rfl⟩

theorem drop_some {mb : Nat} (h : RepX w p S c Q (some mb) pl) (s : ByteArray) (hs : s.size ≤ maxLen) {f : Fsp.File} (hf : Fsp.find S.L s.data.toList = some f) :
    Calls Tryz.prog 48 #[.pointer (some ⟨p, 0, none⟩), .string s] w fun r w' => r = .returned (.tuple #[]) ∧ RepX w' p { S with L := Fsp.del S.L s.data.toList } c Q (some mb) pl ∧ Turn (fun b => b = p ∨ b = mb) w w' := by
  obtain ⟨sp, cap, hsv, hlc, hcap, hfc⟩ := file_open h hf
  obtain ⟨D, hown, hag⟩ := h.map
  have hu := Fsp.used_find hf
  have hr := h.good.2.1
  have hr2 := h.good.2.2.1
  have hu2 : (Fsp.usedOf S.L : Int) ≤ 67108864 := by omega
  have hu3 : (f.data.length : Int) ≤ Fsp.usedOf S.L := by omega
  have c0 := h.cells.c0
  have c2 := h.cells.c2
  have k2 := h.cells.fr 2
  have f0 := hfc.c0
  have hne := h.p_ne_mb rfl
  have HF := Lib.hid hf
  have HV := Lib.hid hsv
  clear hf hsv hu hr hr2 hlc hcap
  go_enter Tryz.func48, Tryz.ntmps48
  go_wp2_with (go_at_call 38; refine (find_some h s hs HF.out).mono ?_; rintro r w' ⟨rfl, rfl⟩)
  go_region
  all_goals go_wp2_with (at_delete; refine wpList_delete_own _ rfl _ _ 47 9 rfl 64 lawS Tryz.underlying47 ptrElem mb _ D rfl (by exact hown.setCell (Ne.symm hne) _) _ _ rfl (keyOf_string_mk Tryz.underlying9 hs) ?_; intro w1 hown1 hturn1)
  all_goals go_end0
  have hpl := h.lt p h.inP
  have e1 : w1.heap[p]? = (w.setCell ⟨p, 2, none⟩ (.int .i64 ((Fsp.usedOf S.L : Int) - (f.data.length : Int)))).heap[p]? :=
    hturn1.grown.block p (by simpa [World.setCell, World.drew] using hpl) (by simpa using hne)
  have ht : Turn (fun b => b = p ∨ b = mb) w w1 := (((Turn.refl _ w).setCell (p := ⟨p, 2, none⟩) (Or.inl (Or.inl rfl)) _).drew).grown hturn1.grown (fun k e => by cases e; exact Or.inl (Or.inr rfl))
  have hd := Fsp.used_del HF.out
  refine ⟨rfl, h.delFile ht ?_ rfl (good_del h.good rfl rfl h.good.2.2.2.2.1) hown1 (hag.del h.good.1 (hown.tidy lawS) _), ht⟩
  rw [e1, heap_setCell_same h.head]
  have e2 : ((Fsp.usedOf S.L : Int) - (f.data.length : Int)) = (Fsp.usedOf (Fsp.del S.L s.data.toList) : Nat) := by omega
  simp only [headOf, ← e2]
  rfl

theorem mo_some {f : Fsp.File} {n : List UInt8} (h : RepX w p S c Q mo pl) (hf : Fsp.find S.L n = some f) : ∃ mb, mo = some mb := by
  cases mo with
  | none => have e : S.L = [] := h.map; rw [e] at hf; simp [Fsp.find] at hf
  | some mb => exact ⟨mb, rfl⟩

theorem remove_any (h : RepX w p S false Q mo pl) (hs : StepsOk S) (s : ByteArray) (hz : s.size ≤ maxLen) :
    Calls Tryz.prog 29 #[.pointer (some ⟨p, 0, none⟩), .string s] w fun r w' => r = .returned (.int .i64 ((Fsp.remove S s.data.toList).2 : Nat)) ∧ Post w p (Fsp.remove S s.data.toList).1 Q w' := by
  cases hd : S.down with
  | true =>
    have e : Fsp.remove S s.data.toList = (S, 5) := by simp [Fsp.remove, hd]
    rw [e]; clear e
    have hp := Post.same h
    go_enter Tryz.func29, Tryz.ntmps29
    go_wp2_with (go_at_call 22; refine (down_is h hd).mono ?_; rintro r w' ⟨rfl, rfl⟩)
    go_ret
    exact ⟨rfl, hp⟩
  | false =>
    cases hf : Fsp.find S.L s.data.toList with
    | none =>
      have e : Fsp.remove S s.data.toList = (S, 2) := by simp [Fsp.remove, hd, hf]
      rw [e]; clear e
      have hp := Post.same h
      have HF := Lib.hid hf
      have HD := Lib.hid hd
      clear hf hd
      go_enter Tryz.func29, Tryz.ntmps29
      go_wp2_with (first | (go_at_call 22; refine (down_is h HD.out).mono ?_; rintro r w' ⟨rfl, rfl⟩) | (go_at_call 38; refine (find_none h s hz HF.out).mono ?_; rintro r w' ⟨rfl, rfl⟩))
      go_ret
      exact ⟨rfl, hp⟩
    | some f =>
      obtain ⟨mb, hmo⟩ := mo_some h hf
      subst hmo
      by_cases ha : S.armed = 1
      · have e : Fsp.remove S s.data.toList = (Fsp.stepped S, 5) := by simp [Fsp.remove, hd, hf, ha]
        rw [e]; clear e
        have HF := Lib.hid hf
        have HD := Lib.hid hd
        have HA := Lib.hid ha
        clear hf hd ha
        go_enter Tryz.func29, Tryz.ntmps29
        go_wp2_with (first | (go_at_call 22; refine (down_is h HD.out).mono ?_; rintro r w' ⟨rfl, rfl⟩) | (go_at_call 38; refine (find_some h s hz HF.out).mono ?_; rintro r w' ⟨rfl, rfl⟩) | (go_at_call 47; refine (step_no h HA.out).mono ?_; rintro r w' ⟨rfl, h1, ht⟩))
        go_ret
        exact ⟨rfl, Post.head h1 h.inP ht⟩
      · have e : Fsp.remove S s.data.toList = ({ Fsp.stepped S with L := Fsp.del S.L s.data.toList }, 0) := by simp [Fsp.remove, hd, hf, ha]
        rw [e]; clear e
        have HF := Lib.hid hf
        have HD := Lib.hid hd
        have HA := Lib.hid ha
        have HS := Lib.hid hs
        clear hf hd ha hs
        go_enter Tryz.func29, Tryz.ntmps29
        go_wp2_with (first | (go_at_call 22; refine (down_is h HD.out).mono ?_; rintro r w' ⟨rfl, rfl⟩) | (go_at_call 38; refine (find_some h s hz HF.out).mono ?_; rintro r w' ⟨rfl, rfl⟩))
        go_at_call 47
        refine (step_yes h HA.out HS.out).mono ?_
        rintro r w1 ⟨rfl, h1, ht⟩
        have hf1 : Fsp.find (Fsp.stepped S).L s.data.toList = some f := by rw [stepped_L]; exact HF.out
        have H1 := Lib.hid hf1
        clear hf1
        go_wp2_with (go_at_call 48; refine (drop_some h1 s hz H1.out).mono ?_; rintro r w2 ⟨rfl, h2, ht2⟩)
        go_ret
        rw [stepped_L] at h2
        refine ⟨rfl, Post.of h1 ht (h2.grow w1) (ht2.mono ?_)⟩
        rintro i (e | e)
        · rw [e]; exact h1.inP
        · rw [e]; exact h1.inM _ rfl

end
end Go.Proofs.YtinghngnehhgfaaGreatDoor

/-
  Create.
-/
namespace Go.Proofs.YtinghngnehhgfaaGreatDoor
open Go.RowKit Go.Maps Go.WideMaps

section
variable {w w' : World} {p : Nat} {S S' : Fsp.Fs} {c c' : Bool} {Q : Nat → Prop} {mo : Option Nat} {pl : List UInt8 → Pl}

theorem len_is (h : RepX w p S c Q mo pl) (ty : TypeId) : (Builtin.len_ #[47] ty #[.map mo]).run Tryz.prog w = .ok (.int .i64 (S.L.length : Nat)) w := by
  cases mo with
  | none =>
    have e : S.L = [] := h.map
    rw [e]
    exact len_nil Tryz.underlying47 ty
  | some mb =>
    obtain ⟨D, hown, hag⟩ := h.map
    rw [← hag.size]
    exact hown.len Tryz.underlying47 ty

theorem wpList_len_run {P : Program} {ops : Array Oper} {rest : List Oper} {o : Oper} {a : Act} {Q : Exit → Act → World → Prop} (hg : o.guard = none) (m : Operand) (t : TypeId) (hop : o.op = Op.call { callee := Callee.builtin Builtin.len, args := #[m], argTypes := #[t] })
    (mo : Option Nat) (n : Int) (hm : a.eval m = .map mo) (hrun : ∀ ty, (Builtin.len_ #[t] ty #[.map mo]).run P w = .ok (.int .i64 n) w) (hK : wpList P ops Q rest (a.put o.dst (.int .i64 n)) w) : wpList P ops Q (o :: rest) a w := by
  refine wpList_plain hg fun K' hK' => ?_
  unfold Oper.wp
  simp [execOp, hop, resolve, invoke, builtin, hm, hrun, Result.andThen]
  exact hK' _ _ hK

theorem turn_cell {a : Addr} {v : Value} (ht : Turn (fun _ => False) w w') (h : w.cell? a = some v) : w'.cell? a = some v :=
  (World.cell?_of_block (ht.block a.block (World.block_lt_of_cell? w a h) (fun e => e))).trans h

theorem cell_alloc {a : Addr} {v : Value} (h : w.cell? a = some v) (o : Obj) : (w.alloc o).cell? a = some v :=
  turn_cell ((Turn.refl _ _).alloc o) h

theorem turn_heap {b : Nat} {o : Obj} (ht : Turn (fun _ => False) w w') (h : w.heap[b]? = some o) : w'.heap[b]? = some o :=
  (ht.block b (Array.getElem?_eq_some_iff.1 h).1 (fun e => e)).trans h

theorem upon_mapUpdate {P : Program} {H : Type} {o : Oper} {a : Act} {next : Act → World → Prop} {Q : Exit → Act → World → Prop} {W : World} {t k e : TypeId} {R : Value → Option (DataW H × List MemPlace)} {b n : Nat} {D : DataW H}
    {key val : Value} {kl : Lit} {d : DataW H} {ps : List MemPlace} (hown : W.ownsMap P k R b n D) (K : Keyed P k) (ht : P.underlying t = some (.map k e)) (hn : n < maxLen) (hkey : keyOf P k key = some kl) (hv : R val = some (d, ps))
    (hK : ∀ W', W'.ownsMap P k R b (n + 1) (D.put kl d) → W.grownBy W' (some b) → next (a.put o.dst undef) W') :
    o.upon P a next Q ((Sem.run P (Instr.mapUpdate t (.map (some b)) key val) W).andThen fun _ w' => Result.ok Next.skip w') := by
  obtain ⟨w', hrun, r1, r2⟩ := hown.update K ht hn hkey hv
  rw [hrun]
  exact hK w' r1 r2

theorem valid_size {l : List UInt8} (h : Fsp.valid l = true) : l.length ≤ 100 := by
  simp only [Fsp.valid, Bool.and_eq_true, decide_eq_true_eq] at h
  omega

set_option maxRecDepth 100000 in
theorem create_early (h : RepX w p S false Q mo pl) (s : ByteArray) (hz : s.size ≤ maxLen) (he : S.down = true ∨ Fsp.valid s.data.toList = false ∨ (Fsp.find S.L s.data.toList).isSome = true ∨ 400 ≤ S.L.length ∨ S.armed = 1) :
    Calls Tryz.prog 28 #[.pointer (some ⟨p, 0, none⟩), .string s] w fun r w' => r = .returned (.int .i64 ((Fsp.create S s.data.toList).2 : Nat)) ∧ Post w p (Fsp.create S s.data.toList).1 Q w' := by
  have hp := Post.same h
  cases hd : S.down with
  | true =>
    have e : Fsp.create S s.data.toList = (S, 5) := by simp [Fsp.create, hd]
    rw [e]; clear e he
    go_enter Tryz.func28, Tryz.ntmps28
    go_wp2_with (go_at_call 22; refine (down_is h hd).mono ?_; rintro r w' ⟨rfl, rfl⟩)
    go_ret
    exact ⟨rfl, hp⟩
  | false =>
    have HD := Lib.hid hd
    cases hv : Fsp.valid s.data.toList with
    | false =>
      have e : Fsp.create S s.data.toList = (S, 1) := by simp [Fsp.create, hd, hv]
      rw [e]; clear e hd he
      have HV := Lib.hid hv
      clear hv
      go_enter Tryz.func28, Tryz.ntmps28
      go_wp2_with (first | (go_at_call 22; refine (down_is h HD.out).mono ?_; rintro r w' ⟨rfl, rfl⟩) | (go_at_call 20; refine (valid_any s hz _).mono ?_; rintro r w' ⟨rfl, rfl⟩; rw [HV.out]))
      go_ret
      exact ⟨rfl, hp⟩
    | true =>
      have HV := Lib.hid hv
      cases hf : Fsp.find S.L s.data.toList with
      | some f =>
        have e : Fsp.create S s.data.toList = (S, 3) := by simp [Fsp.create, hd, hv, hf]
        rw [e]; clear e hd he hv
        have HF := Lib.hid hf
        clear hf
        go_enter Tryz.func28, Tryz.ntmps28
        go_wp2_with (first | (go_at_call 22; refine (down_is h HD.out).mono ?_; rintro r w' ⟨rfl, rfl⟩) | (go_at_call 20; refine (valid_any s hz _).mono ?_; rintro r w' ⟨rfl, rfl⟩; rw [HV.out]) | (go_at_call 38; refine (find_some h s hz HF.out).mono ?_; rintro r w' ⟨rfl, rfl⟩))
        go_ret
        exact ⟨rfl, hp⟩
      | none =>
        have HF := Lib.hid hf
        have c0 := h.cells.c0
        by_cases hm : 400 ≤ S.L.length
        · have e : Fsp.create S s.data.toList = (S, 4) := by simp [Fsp.create, hd, hv, hf, hm]
          rw [e]; clear e hd he hv hf
          go_enter Tryz.func28, Tryz.ntmps28
          go_wp2_with (first | (go_at_call 22; refine (down_is h HD.out).mono ?_; rintro r w' ⟨rfl, rfl⟩) | (go_at_call 20; refine (valid_any s hz _).mono ?_; rintro r w' ⟨rfl, rfl⟩; rw [HV.out]) | (go_at_call 38; refine (find_none h s hz HF.out).mono ?_; rintro r w' ⟨rfl, rfl⟩) | (at_len; refine wpList_len_run rfl _ 47 rfl _ _ rfl (len_is h) ?_))
          go_ret
          exact ⟨rfl, hp⟩
        · have ha : S.armed = 1 := by simp [hd, hv, hf, hm] at he; exact he
          have e : Fsp.create S s.data.toList = (Fsp.stepped S, 5) := by simp [Fsp.create, hd, hv, hf, hm, ha]
          rw [e]; clear e hd he hv hf
          have HA := Lib.hid ha
          clear ha
          go_enter Tryz.func28, Tryz.ntmps28
          go_wp2_with (first | (go_at_call 22; refine (down_is h HD.out).mono ?_; rintro r w' ⟨rfl, rfl⟩) | (go_at_call 20; refine (valid_any s hz _).mono ?_; rintro r w' ⟨rfl, rfl⟩; rw [HV.out]) | (go_at_call 38; refine (find_none h s hz HF.out).mono ?_; rintro r w' ⟨rfl, rfl⟩) | (at_len; refine wpList_len_run rfl _ 47 rfl _ _ rfl (len_is h) ?_) | (go_at_call 47; refine (step_no h HA.out).mono ?_; rintro r w' ⟨rfl, h1, ht⟩))
          go_ret
          exact ⟨rfl, Post.head h1 h.inP ht⟩

/-- a file has been laid, and its name: what that makes -/
theorem created {w1 w3 : World} {mb fb k : Nat} {s : List UInt8} {D0 : DataW Unit} (h1 : RepX w1 p S false Q mo pl) (ht : Turn (fun b => b = p) w w1) (hv : Fsp.valid s = true) (hf : Fsp.find S.L s = none) (hm : S.L.length < 400)
    (hmo : mo = some mb ∨ w1.heap.size ≤ mb) (hag : Agree D0 S.L pl) (hti : Tidy D0) (hhead : w3.heap[p]? = some (headOf S false (some mb))) (hfb : w1.heap.size ≤ fb) (hcell : w3.heap[fb]? = some (.cells #[.slice none 0 0, .int .i64 0] 67 (0, 0)))
    (hT : Turn (fun b => b = p ∨ mo = some b) w1 w3) (hown : w3.ownsMap Tryz.prog 9 ptrElem mb k (D0.put (.string s) (fbLit fb))) : Post w p { S with L := Fsp.put S.L s ⟨[], 0⟩ } Q w3 := by
  have hu := Fsp.used_put_none hf ⟨[], 0⟩
  simp only [List.length_nil, Nat.add_zero] at hu
  have h3 : RepX w3 p { S with L := Fsp.put S.L s ⟨[], 0⟩ } false (Grow Q w1 w3) (some mb) (setPl pl s ⟨fb, .slice none 0 0⟩) := by
    refine h1.addFile hf hT ?_ rfl ?_ hmo hown (hag.put h1.good.1 hti s ⟨[], 0⟩ ⟨fb, .slice none 0 0⟩) ⟨hcell, World.ownsRow_nil _ _ _ _⟩ hfb (fun r hr => by simp [Value.ownBlock] at hr)
    · rw [hhead]; simp only [headOf, hu]
    · exact good_put h1.good rfl rfl h1.good.2.2.2.2.1 hv (Nat.le_refl _) (Or.inr hm) (by rw [hu]; exact h1.good.2.1)
  refine Post.of h1 ht h3 (hT.mono fun i hi => ?_)
  rcases hi with e | e
  · rw [e]; exact h1.inP
  · exact h1.inM _ e

theorem createdA {w1 w2 w3 : World} {mb k : Nat} {s : List UInt8} {D : DataW Unit} {n : Nat} (h1 : RepX w1 p (Fsp.stepped S) false Q (some mb) pl) (ht : Turn (fun b => b = p) w w1) (hv : Fsp.valid s = true) (hf : Fsp.find S.L s = none) (hm : S.L.length < 400)
    (hown : w1.ownsMap Tryz.prog 9 ptrElem mb n D) (hag : Agree D (Fsp.stepped S).L pl) (T2 : Turn (fun _ => False) w1 w2) (hg : (w2.alloc (.cells #[.slice none 0 0, .int .i64 0] 67)).grownBy w3 (some mb))
    (hown3 : w3.ownsMap Tryz.prog 9 ptrElem mb k (D.put (.string s) (fbLit w2.heap.size))) : Post w p { Fsp.stepped S with L := Fsp.put S.L s ⟨[], 0⟩ } Q w3 := by
  have hL := stepped_L S
  have hmb := hown.lt
  have hs2 := T2.size
  have hpl := h1.lt p h1.inP
  have T3 : Turn (fun b => mb = b) w1 w3 := (T2.mono (fun _ q => q.elim)).trans ((Turn.alloc (Turn.refl _ w2) _).grown hg (fun k e => by cases e; exact Or.inl rfl)) (fun _ _ q => q)
  have := created (s := s) (fb := w2.heap.size) h1 ht hv (by rw [hL]; exact hf) (by rw [hL]; exact hm) (Or.inl rfl) hag (hown.tidy lawS) ((T3.block p hpl (fun e => h1.p_ne_mb rfl e.symm)).trans h1.head) (by omega)
    ((hg.block _ (by simp) (fun e => by simp at e; omega)).trans (heap_alloc_new _ _)) (T3.mono fun i e => Or.inr (by rw [e])) hown3
  rw [hL] at this
  exact this

theorem createdB {w1 w2 w3 : World} {mb k : Nat} {s : List UInt8} {D : DataW Unit} {n : Nat} (h1 : RepX w1 p (Fsp.stepped S) false Q (some mb) pl) (ht : Turn (fun b => b = p) w w1) (hv : Fsp.valid s = true) (hf : Fsp.find S.L s = none) (hm : S.L.length < 400)
    (hown : w1.ownsMap Tryz.prog 9 ptrElem mb n D) (hag : Agree D (Fsp.stepped S).L pl) (T2 : Turn (fun _ => False) w1 w2) (hc : w2.heap[w1.heap.size]? = some (.cells #[.slice none 0 0, .int .i64 0] 67 (0, 0))) (hg : w2.grownBy w3 (some mb))
    (hown3 : w3.ownsMap Tryz.prog 9 ptrElem mb k (D.put (.string s) (fbLit w1.heap.size))) : Post w p { Fsp.stepped S with L := Fsp.put S.L s ⟨[], 0⟩ } Q w3 := by
  have hL := stepped_L S
  have hmb := hown.lt
  have hs2 := T2.size
  have hpl := h1.lt p h1.inP
  have T3 : Turn (fun b => mb = b) w1 w3 := (T2.mono (fun _ q => q.elim)).trans ((Turn.refl _ w2).grown hg (fun k e => by cases e; exact Or.inl rfl)) (fun _ _ q => q)
  have := created (s := s) (fb := w1.heap.size) h1 ht hv (by rw [hL]; exact hf) (by rw [hL]; exact hm) (Or.inl rfl) hag (hown.tidy lawS) ((T3.block p hpl (fun e => h1.p_ne_mb rfl e.symm)).trans h1.head) (Nat.le_refl _)
    ((hg.block _ (Array.getElem?_eq_some_iff.1 hc).1 (fun e => by simp at e; omega)).trans hc) (T3.mono fun i e => Or.inr (by rw [e])) hown3
  rw [hL] at this
  exact this

set_option maxRecDepth 100000 in
set_option maxHeartbeats 400000 in
theorem create_some {mb : Nat} (h : RepX w p S false Q (some mb) pl) (hs : StepsOk S) (s : ByteArray) (hz : s.size ≤ maxLen) (HD : Hid (S.down = false)) (HV : Hid (Fsp.valid s.data.toList = true)) (HF : Hid (Fsp.find S.L s.data.toList = none)) (hm : S.L.length < 400) (HA : Hid (S.armed ≠ 1)) :
    Calls Tryz.prog 28 #[.pointer (some ⟨p, 0, none⟩), .string s] w fun r w' => r = .returned (.int .i64 0) ∧ Post w p { Fsp.stepped S with L := Fsp.put S.L s.data.toList ⟨[], 0⟩ } Q w' := by
  have c0 := h.cells.c0
  have HS := Lib.hid hs
  have hz2 : s.size ≤ 281474976710656 := by have := valid_size HV.out; simp at this; omega
  have HZ := Lib.hid hz2
  clear hs hz2
  go_enter Tryz.func28, Tryz.ntmps28
  go_wp2_with (first | (go_at_call 22; refine (down_is h HD.out).mono ?_; rintro r w' ⟨rfl, rfl⟩) | (go_at_call 20; refine (valid_any s hz _).mono ?_; rintro r w' ⟨rfl, rfl⟩; rw [HV.out]) | (go_at_call 38; refine (find_none h s hz HF.out).mono ?_; rintro r w' ⟨rfl, rfl⟩) | (at_len; refine wpList_len_run rfl _ 47 rfl _ _ rfl (len_is h) ?_))
  go_at_call 47
  refine (step_yes h HA.out HS.out).mono ?_
  rintro r w1 ⟨rfl, h1, ht⟩
  have k0 := h1.cells.c0
  have ka := cell_alloc k0
  obtain ⟨D, hown, hag⟩ := h1.map
  have hnil := fun (w : World) (r : Option Nat) => run_eql_map_nil (P := Tryz.prog) w 47 _ _ r Tryz.underlying47
  have hn : (Fsp.stepped S).L.length < maxLen := by rw [stepped_L]; unfold maxLen; omega
  have HN := Lib.hid hn
  clear hn
  go_wp2_with fail
  go_region_with (first | (go_at_call 23; refine (clone_any s HZ.out _).mono ?_; rintro r w2 ⟨rfl, ht2⟩; have T2 : Turn (fun _ => False) w1 w2 := Turn.trans (by repeat (first | exact Turn.refl _ _ | apply Turn.alloc | apply Turn.drew)) ht2 (fun _ _ q => q); have k1 := turn_cell T2 k0; have k2 := cell_alloc k1) | (with_reducible refine upon_mapUpdate (ownsMap_turned hown (by repeat (first | exact T2 | exact Turn.refl _ _ | apply Turn.alloc | apply Turn.drew)) (fun q => q)) lawS Tryz.underlying47 HN.out (keyOf_string_mk Tryz.underlying9 hz) (ptrElem_mk _) ?_; intro w3 hown3 hgr3))
  all_goals go_wp2_with fail
  all_goals go_ret
  all_goals refine ⟨rfl, ?_⟩
  all_goals (first
    | exact createdA h1 ht HV.out HF.out hm hown hag T2 hgr3 hown3
    | exact createdB h1 ht HV.out HF.out hm hown hag T2 (turn_heap ht2 (heap_alloc_new _ _)) hgr3 hown3)

/-- a map is made -/
theorem RepX.mapMade (h : RepX w p S c Q none pl) : RepX ((w.alloc (.map #[] 0)).setCell ⟨p, 0, none⟩ (.map (some w.heap.size))) p S c (Grow Q w ((w.alloc (.map #[] 0)).setCell ⟨p, 0, none⟩ (.map (some w.heap.size)))) (some w.heap.size) pl ∧
    Turn (fun b => b = p) w ((w.alloc (.map #[] 0)).setCell ⟨p, 0, none⟩ (.map (some w.heap.size))) := by
  have hL : S.L = [] := h.map
  have hpl := h.lt p h.inP
  have ht : Turn (fun b => b = p) w ((w.alloc (.map #[] 0)).setCell ⟨p, 0, none⟩ (.map (some w.heap.size))) := ((Turn.refl (fun b => b = p) w).alloc _).setCell (p := ⟨p, 0, none⟩) (Or.inl rfl) _
  have hsz : ((w.alloc (.map #[] 0)).setCell ⟨p, 0, none⟩ (.map (some w.heap.size))).heap.size = w.heap.size + 1 := by simp [World.setCell]
  have nofile : ∀ n, ¬ (Fsp.find S.L n).isSome := fun n hn => by rw [hL] at hn; simp [Fsp.find] at hn
  refine ⟨{ good := h.good, head := ?_, map := ?_, file := fun n f hf => absurd (by rw [hf]; rfl) (nofile n), apartF := fun n _ hn => absurd hn (nofile n), apartR := fun n _ hn => absurd hn (nofile n), inP := Grow.old h.inP, inM := ?_, inF := fun n hn => absurd hn (nofile n), inR := fun n hn => absurd hn (nofile n), lt := ?_ }, ht⟩
  · rw [heap_setCell_same ((Below.heap_alloc _ _ _ hpl).trans h.head)]; rfl
  · refine ⟨.map [], ?_, ⟨fun n => ?_, fun n f hf => absurd (by rw [hf]; rfl) (nofile n), by rw [hL]; rfl⟩⟩
    · rw [hL]
      exact (World.ownsMap_made w _ _ _).setCell (by simp; omega) _
    · rw [hL]; rfl
  · intro mb e
    cases e
    exact Grow.new (Nat.le_refl _) (by rw [hsz]; omega)
  · intro b hb
    rcases hb with hb | hb
    · have := h.lt b hb; rw [hsz]; omega
    · exact hb.2

theorem Post.widen {w1 w2 w3 : World} (h1 : w.heap.size ≤ w1.heap.size) (h2 : w2.heap.size ≤ w3.heap.size) (h : Post w p S (Grow Q w1 w2) w3) : Post w p S Q w3 := by
  obtain ⟨⟨mo, pl, hr⟩, ht⟩ := h
  refine ⟨⟨mo, pl, hr.mono (fun i hi => ?_) (fun i hi => ?_)⟩, ⟨ht.os, ht.tape, ht.output, ht.size, fun i hi hn => ht.block i hi (fun q => ?_)⟩⟩
  · rcases hi with (hi | hi) | hi
    · exact Or.inl hi
    · exact Or.inr ⟨by omega, by omega⟩
    · exact Or.inr hi
  · rcases hi with hi | hi
    · exact hr.lt i (Grow.old (Grow.old hi))
    · exact hi.2
  · rcases q with q | q
    · exact hn q
    · omega

set_option maxRecDepth 100000 in
set_option maxHeartbeats 400000 in
theorem create_nil (h : RepX w p S false Q none pl) (hs : StepsOk S) (s : ByteArray) (hz : s.size ≤ maxLen) (HD : Hid (S.down = false)) (HV : Hid (Fsp.valid s.data.toList = true)) (HF : Hid (Fsp.find S.L s.data.toList = none)) (hm : S.L.length < 400) (HA : Hid (S.armed ≠ 1)) :
    Calls Tryz.prog 28 #[.pointer (some ⟨p, 0, none⟩), .string s] w fun r w' => r = .returned (.int .i64 0) ∧ Post w p { Fsp.stepped S with L := Fsp.put S.L s.data.toList ⟨[], 0⟩ } Q w' := by
  have c0 := h.cells.c0
  have HS := Lib.hid hs
  have hz2 : s.size ≤ 281474976710656 := by have := valid_size HV.out; simp at this; omega
  have HZ := Lib.hid hz2
  clear hs hz2
  go_enter Tryz.func28, Tryz.ntmps28
  go_wp2_with (first | (go_at_call 22; refine (down_is h HD.out).mono ?_; rintro r w' ⟨rfl, rfl⟩) | (go_at_call 20; refine (valid_any s hz _).mono ?_; rintro r w' ⟨rfl, rfl⟩; rw [HV.out]) | (go_at_call 38; refine (find_none h s hz HF.out).mono ?_; rintro r w' ⟨rfl, rfl⟩) | (at_len; refine wpList_len_run rfl _ 47 rfl _ _ rfl (len_is h) ?_))
  go_at_call 47
  refine (step_yes h HA.out HS.out).mono ?_
  rintro r w1 ⟨rfl, h1, ht⟩
  have k0 := h1.cells.c0
  have g0 := h1.cells.fr 0
  have hL0 : (Fsp.stepped S).L = [] := h1.map
  have HL := Lib.hid hL0
  clear hL0
  have hnil := fun (w : World) (r : Option Nat) => run_eql_map_nil (P := Tryz.prog) w 47 _ _ r Tryz.underlying47
  have hmm := @run_makeMap Tryz.prog
  have ka := cell_alloc k0
  have ga : ∀ o : Obj, (w1.alloc o).frozen? ⟨p, 0, none⟩ = false := fun o => (World.frozen?_of_block (Below.heap_alloc _ _ _ (h1.lt p h1.inP))).trans g0
  have hB := h1.mapMade
  go_wp2_with fail
  clear hmm ka ga k0 g0
  generalize (w1.alloc (.map #[] 0)).setCell ⟨p, 0, none⟩ (.map (some w1.heap.size)) = W0 at hB ⊢
  obtain ⟨hB1, hB2⟩ := hB
  have k0 := hB1.cells.c0
  have ka := cell_alloc k0
  obtain ⟨D, hown, hag⟩ := hB1.map
  have hn : (Fsp.stepped S).L.length < maxLen := by rw [stepped_L]; unfold maxLen; omega
  have HN := Lib.hid hn
  clear hn
  go_region_with (first | (go_at_call 23; refine (clone_any s HZ.out _).mono ?_; rintro r w2 ⟨rfl, ht2⟩; have T2 : Turn (fun _ => False) W0 w2 := Turn.trans (by repeat (first | exact Turn.refl _ _ | apply Turn.alloc | apply Turn.drew)) ht2 (fun _ _ q => q); have k1 := turn_cell T2 k0; have k2 := cell_alloc k1) | (with_reducible refine upon_mapUpdate (ownsMap_turned hown (by repeat (first | exact T2 | exact Turn.refl _ _ | apply Turn.alloc | apply Turn.drew)) (fun q => q)) lawS Tryz.underlying47 HN.out (keyOf_string_mk Tryz.underlying9 hz) (ptrElem_mk _) ?_; intro w3 hown3 hgr3))
  all_goals go_wp2_with fail
  all_goals go_ret
  all_goals refine ⟨rfl, Post.widen (w1 := w1) (w2 := W0) ht.size (Nat.le_trans T2.size (Nat.le_trans (by simp) hgr3.size)) ?_⟩
  all_goals have hT : Turn (fun b => b = p) w W0 := ht.trans hB2 (fun _ _ q => q)
  all_goals (first
    | exact createdA hB1 hT HV.out HF.out hm hown hag T2 hgr3 hown3
    | exact createdB hB1 hT HV.out HF.out hm hown hag T2 (turn_heap ht2 (heap_alloc_new _ _)) hgr3 hown3)

theorem create_any (h : RepX w p S false Q mo pl) (hs : StepsOk S) (s : ByteArray) (hz : s.size ≤ maxLen) :
    Calls Tryz.prog 28 #[.pointer (some ⟨p, 0, none⟩), .string s] w fun r w' => r = .returned (.int .i64 ((Fsp.create S s.data.toList).2 : Nat)) ∧ Post w p (Fsp.create S s.data.toList).1 Q w' := by
  by_cases he : S.down = true ∨ Fsp.valid s.data.toList = false ∨ (Fsp.find S.L s.data.toList).isSome = true ∨ 400 ≤ S.L.length ∨ S.armed = 1
  · exact create_early h s hz he
  · simp only [not_or] at he
    obtain ⟨h1, h2, h3, h4, h5⟩ := he
    have hd : S.down = false := by simpa using h1
    have hv : Fsp.valid s.data.toList = true := by simpa using h2
    have hf : Fsp.find S.L s.data.toList = none := by simpa using h3
    have e : Fsp.create S s.data.toList = ({ Fsp.stepped S with L := Fsp.put S.L s.data.toList ⟨[], 0⟩ }, 0) := by
      simp only [Fsp.create, hd, hv, hf, if_neg h4, if_neg h5]; rfl
    rw [e]
    cases mo with
    | none => exact create_nil h hs s hz hd hv hf (by omega) h5
    | some mb => exact create_some h hs s hz hd hv hf (by omega) h5

end
end Go.Proofs.YtinghngnehhgfaaGreatDoor

/-
  Append.
-/
namespace Go.Proofs.YtinghngnehhgfaaGreatDoor
open Go.RowKit Go.Maps Go.WideMaps

section
variable {w w' : World} {p : Nat} {S S' : Fsp.Fs} {c c' : Bool} {Q : Nat → Prop} {mo : Option Nat} {pl : List UInt8 → Pl}

/-- a slice of bytes that was handed in: nil, or with an address -/
def SliceB (w : World) (v : Value) (data : List UInt8) : Prop :=
  (v = .slice none 0 0 ∧ data = []) ∨ ∃ ad cap, v = .slice (some ad) data.length cap ∧ ∀ j x, data[j]? = some x → w.cell? (ad.add j) = some (byteV x)

/-- it lies outside of Q -/
def OutOf (Q : Nat → Prop) (v : Value) : Prop := ∀ ad n cap, v = .slice (some ad) n cap → 0 < n → ¬ Q ad.block

theorem add_block (ad : Addr) (j : Nat) : (ad.add j).block = ad.block := by unfold Addr.add; split <;> rfl

theorem SliceB.turned {v : Value} {data : List UInt8} (h : SliceB w v data) (ht : Turn Q w w') (hq : OutOf Q v) : SliceB w' v data := by
  rcases h with h | ⟨ad, cap, hv, hc⟩
  · exact Or.inl h
  · refine Or.inr ⟨ad, cap, hv, fun j x hj => ?_⟩
    have := hc j x hj
    have hb := World.block_lt_of_cell? w _ this
    have hn : ¬ Q (ad.add j).block := by rw [add_block]; exact hq ad _ _ hv (by have := (List.getElem?_eq_some_iff.1 hj).1; omega)
    exact (World.cell?_of_block (ht.block _ hb hn)).trans this

theorem SliceB.toR {v : Value} {data : List UInt8} (h : SliceB w v data) : SliceR w v data := by
  rcases h with ⟨rfl, rfl⟩ | ⟨ad, cap, hv, hc⟩
  · exact ⟨none, 0, rfl, fun h => absurd h (by simp)⟩
  · exact ⟨some ad, cap, hv, fun _ => ⟨ad, rfl, hc⟩⟩

/-- what an append makes of it: the row first, then the two cells -/
theorem appended {w1 w2 w3 : World} {s : List UInt8} {f : Fsp.File} {b : List UInt8} {v' : Value} (h1 : RepX w1 p S false Q mo pl) (ht : Turn (fun b => b = p) w w1) (hf : Fsp.find S.L s = some f) (hroom : Fsp.usedOf S.L + b.length ≤ S.room)
    (hown : w2.ownsRow 0 5 1 v' (f.data.length + b.length) (f.data.map byteV ++ b.map byteV)) (hg : w1.grownBy w2 (pl s).sv.ownBlock) (hloc : v'.ownBlock = (pl s).sv.ownBlock ∨ v'.ownBlock = some w1.heap.size)
    (hw3 : w3 = (w2.setCell ⟨(pl s).fb, 0, none⟩ v').setCell ⟨p, 2, none⟩ (.int .i64 ((Fsp.usedOf S.L : Int) + (b.length : Int)))) :
    Post w p { S with L := Fsp.put S.L s ⟨f.data ++ b, f.synced⟩ } Q w3 := by
  subst hw3
  have hfile := h1.file s f hf
  have hne := h1.p_ne_fb hf
  have hpl := h1.lt p h1.inP
  have hfl := hfile.lt
  have hu := Fsp.used_put_some h1.good.1 hf ⟨f.data ++ b, f.synced⟩
  have e2 : Fsp.usedOf (Fsp.put S.L s ⟨f.data ++ b, f.synced⟩) = Fsp.usedOf S.L + b.length := by simp only [List.length_append] at hu; omega
  have t12 : Turn (fun i => (pl s).sv.ownBlock = some i) w1 w2 := (Turn.refl _ w1).grown hg (fun k e => Or.inl e)
  have p2 : w2.heap[p]? = w1.heap[p]? := t12.block p hpl (fun e => h1.p_ne_row hf e rfl)
  have f2 : w2.heap[(pl s).fb]? = w1.heap[(pl s).fb]? := t12.block _ hfl (fun e => h1.fb_ne_row hf hf e rfl)
  have t13 : Turn (fun i => i = p ∨ i = (pl s).fb ∨ (pl s).sv.ownBlock = some i) w1 ((w2.setCell ⟨(pl s).fb, 0, none⟩ v').setCell ⟨p, 2, none⟩ (.int .i64 ((Fsp.usedOf S.L : Int) + (b.length : Int)))) :=
    ((t12.mono (Q' := fun i => i = p ∨ i = (pl s).fb ∨ (pl s).sv.ownBlock = some i) (fun i e => Or.inr (Or.inr e))).set (pl s).fb 0 (Or.inl (Or.inr (Or.inl rfl))) _).set p 2 (Or.inl (Or.inl rfl)) _
  have hl : (f.data ++ b).length = f.data.length + b.length := by simp
  refine Post.file (f' := ⟨f.data ++ b, f.synced⟩) (sv' := v') h1 ht hf t13 ?_ rfl ?_ ⟨?_, ?_⟩ ?_
  · rw [heap_setCell_same (by rw [heap_setCell_other hne, p2]; exact h1.head)]
    simp only [headOf, e2, Int.natCast_add]; rfl
  · exact good_put h1.good rfl rfl h1.good.2.2.2.2.1 (h1.good.2.2.2.2.2 s f hf).1 (by have := (h1.good.2.2.2.2.2 s f hf).2; show f.synced ≤ (f.data ++ b).length; rw [hl]; omega) (Or.inl (by rw [hf]; rfl)) (by rw [e2]; exact hroom)
  · rw [heap_setCell_other (Ne.symm hne), heap_setCell_same (by rw [f2]; exact hfile.1)]; rfl
  · have t23 : Turn (fun i => i = p ∨ i = (pl s).fb) w2 ((w2.setCell ⟨(pl s).fb, 0, none⟩ v').setCell ⟨p, 2, none⟩ (.int .i64 ((Fsp.usedOf S.L : Int) + (b.length : Int)))) :=
      ((Turn.refl (fun i => i = p ∨ i = (pl s).fb) w2).set (pl s).fb 0 (Or.inl (Or.inr rfl)) _).set p 2 (Or.inl (Or.inl rfl)) _
    rw [hl, List.map_append]
    refine ownsRow_turned hown t23 (fun r hr e => ?_)
    rcases hloc with h | h
    · rw [h] at hr
      rcases e with e | e
      · exact h1.p_ne_row hf hr e.symm
      · exact h1.fb_ne_row hf hf hr e.symm
    · rw [h] at hr
      cases hr
      rcases e with e | e <;> omega
  · intro r hr
    rcases hloc with h | h
    · rw [h] at hr; exact Or.inl hr
    · rw [h] at hr; cases hr; exact Or.inr (Nat.le_refl _)

theorem RepX.like (h : RepX w p S c Q mo pl) (k : Like w w') : RepX w' p S c Q mo pl :=
  h.turned (Turn.like (Turn.refl (fun _ => False) w) k) (fun _ _ q => q)
theorem like_drewN (w : World) (n : Nat) : Like w (w.drewN n) := ⟨rfl, rfl, rfl, rfl⟩
theorem Post.like {w1 : World} (h : Post w1 p S Q w') (k : Like w w1) : Post w p S Q w' := by
  obtain ⟨⟨mo, pl, hr⟩, ht⟩ := h
  have e : w1.heap.size = w.heap.size := by rw [k.heap]
  refine ⟨⟨mo, pl, hr.mono (fun i hi => ?_) (fun i hi => ?_)⟩, ⟨ht.os.trans k.os, ht.tape.trans k.tape, ht.output.trans k.output, by have := ht.size; omega, fun i hi hn => by rw [ht.block i (by omega) hn, k.heap]⟩⟩
  · rcases hi with hi | hi
    · exact Or.inl hi
    · exact Or.inr ⟨by omega, hi.2⟩
  · rcases hi with hi | hi
    · exact hr.lt i (Or.inl hi)
    · exact hi.2

theorem Post.like_right {w1 : World} (h : Post w p S Q w1) (k : Like w1 w') : Post w p S Q w' := by
  obtain ⟨⟨mo, pl, hr⟩, ht⟩ := h
  have e : w'.heap.size = w1.heap.size := by rw [k.heap]
  exact ⟨⟨mo, pl, (hr.like k).mono (fun i hi => hi.imp id (fun x => ⟨x.1, by omega⟩)) (fun i hi => by
    rcases hi with hi | hi
    · exact (hr.like k).lt i (Or.inl hi)
    · exact hi.2)⟩, ht.like k⟩

theorem append_early (h : RepX w p S false Q mo pl) (s : ByteArray) (hz : s.size ≤ maxLen) (sp : Option Addr) (cap : Nat) (b : List UInt8) (hbl : b.length ≤ maxLen)
    (he : S.down = true ∨ Fsp.find S.L s.data.toList = none ∨ S.room < Fsp.usedOf S.L + b.length ∨ S.armed = 1) :
    Calls Tryz.prog 33 #[.pointer (some ⟨p, 0, none⟩), .string s, .slice sp b.length cap] w fun r w' => r = .returned (.int .i64 ((Fsp.append S s.data.toList b).2 : Nat)) ∧ Post w p (Fsp.append S s.data.toList b).1 Q w' := by
  have hp := Post.same h
  unfold maxLen at hbl
  cases hd : S.down with
  | true =>
    have e : Fsp.append S s.data.toList b = (S, 5) := by simp [Fsp.append, hd]
    rw [e]; clear e he
    go_enter Tryz.func33, Tryz.ntmps33
    go_wp2_with (go_at_call 22; refine (down_is h hd).mono ?_; rintro r w' ⟨rfl, rfl⟩)
    go_ret
    exact ⟨rfl, hp⟩
  | false =>
    have HD := Lib.hid hd
    cases hf : Fsp.find S.L s.data.toList with
    | none =>
      have e : Fsp.append S s.data.toList b = (S, 2) := by simp [Fsp.append, hd, hf]
      rw [e]; clear e he hd
      have HF := Lib.hid hf
      clear hf
      go_enter Tryz.func33, Tryz.ntmps33
      go_wp2_with (first | (go_at_call 22; refine (down_is h HD.out).mono ?_; rintro r w' ⟨rfl, rfl⟩) | (go_at_call 38; refine (find_none h s hz HF.out).mono ?_; rintro r w' ⟨rfl, rfl⟩))
      go_ret
      exact ⟨rfl, hp⟩
    | some f =>
      have HF := Lib.hid hf
      have c1 := h.cells.c1
      have c2 := h.cells.c2
      have r1 := h.good.2.1
      have r2 := h.good.2.2.1
      have u1 : (Fsp.usedOf S.L : Int) ≤ S.room := by omega
      have u2 : (S.room : Int) ≤ 67108864 := by omega
      clear r1 r2
      by_cases hr : S.room < Fsp.usedOf S.L + b.length
      · have e : Fsp.append S s.data.toList b = (S, 4) := by simp [Fsp.append, hd, hf, hr]
        rw [e]; clear e he hd hf
        have hr' : (S.room : Int) - Fsp.usedOf S.L < b.length := by omega
        clear hr
        go_enter Tryz.func33, Tryz.ntmps33
        go_wp2_with (first | (go_at_call 22; refine (down_is h HD.out).mono ?_; rintro r w' ⟨rfl, rfl⟩) | (go_at_call 38; refine (find_some h s hz HF.out).mono ?_; rintro r w' ⟨rfl, rfl⟩))
        go_quiet (fail)
        go_wp2
        go_ret
        exact ⟨rfl, Post.like_right hp (like_drewN _ _)⟩
      · have ha : S.armed = 1 := by simp [hd, hf] at he; omega
        have e : Fsp.append S s.data.toList b = (Fsp.stepped S, 5) := by simp [Fsp.append, hd, hf, hr, ha]
        rw [e]; clear e he hd hf
        have HA := Lib.hid ha
        have hr' : (b.length : Int) ≤ (S.room : Int) - Fsp.usedOf S.L := by omega
        clear hr ha
        go_enter Tryz.func33, Tryz.ntmps33
        go_wp2_with (first | (go_at_call 22; refine (down_is h HD.out).mono ?_; rintro r w' ⟨rfl, rfl⟩) | (go_at_call 38; refine (find_some h s hz HF.out).mono ?_; rintro r w' ⟨rfl, rfl⟩))
        go_quiet (fail)
        go_wp2_with (go_at_call 47; refine (step_no (h.like (like_drewN _ _)) HA.out).mono ?_; rintro r w' ⟨rfl, h1, ht⟩)
        go_ret
        exact ⟨rfl, Post.like (Post.head h1 h.inP ht) (like_drewN _ _)⟩

set_option maxRecDepth 100000 in
set_option maxHeartbeats 400000 in
theorem append_some (h : RepX w p S false Q mo pl) (hs : StepsOk S) (s : ByteArray) (hz : s.size ≤ maxLen) (ad : Addr) (cap : Nat) (b : List UInt8) (hcell : ∀ j x, b[j]? = some x → w.cell? (ad.add j) = some (byteV x)) (hout : 0 < b.length → ad.block ≠ p)
    (HD : Hid (S.down = false)) (f : Fsp.File) (HF : Hid (Fsp.find S.L s.data.toList = some f)) (hr : (b.length : Int) ≤ (S.room : Int) - Fsp.usedOf S.L) (HA : Hid (S.armed ≠ 1)) :
    Calls Tryz.prog 33 #[.pointer (some ⟨p, 0, none⟩), .string s, .slice (some ad) b.length cap] w fun r w' => r = .returned (.int .i64 0) ∧ Post w p { Fsp.stepped S with L := Fsp.put S.L s.data.toList ⟨f.data ++ b, f.synced⟩ } Q w' := by
  have c1 := h.cells.c1
  have c2 := h.cells.c2
  have r1 := h.good.2.1
  have r2 := h.good.2.2.1
  have u1 : (Fsp.usedOf S.L : Int) ≤ S.room := by omega
  have u2 : (S.room : Int) ≤ 67108864 := by omega
  clear r1 r2
  have HS := Lib.hid hs
  have HC := Lib.hid hcell
  clear hs hcell
  obtain ⟨i0, hi, hz0, hz1, hz2⟩ := info_parts Tryz.infoU8
  go_enter Tryz.func33, Tryz.ntmps33
  go_wp2_with (first | (go_at_call 22; refine (down_is h HD.out).mono ?_; rintro r w' ⟨rfl, rfl⟩) | (go_at_call 38; refine (find_some h s hz HF.out).mono ?_; rintro r w' ⟨rfl, rfl⟩))
  go_quiet (fail)
  go_wp2_with fail
  go_at_call 47
  refine (step_yes (h.like (like_drewN _ _)) HA.out HS.out).mono ?_
  rintro r w1 ⟨rfl, h1, ht0⟩
  have ht : Turn (fun b => b = p) w w1 := ⟨ht0.os, ht0.tape, ht0.output, ht0.size, ht0.block⟩
  clear ht0
  have hf1 : Fsp.find (Fsp.stepped S).L s.data.toList = some f := by rw [stepped_L]; exact HF.out
  have hfile := h1.file _ f hf1
  have hfc := hfile.cells
  have f0 := hfc.c0
  have g0 := hfc.fr 0
  have k2 : w1.cell? ⟨p, 2, none⟩ = some (.int .i64 (Fsp.usedOf S.L : Int)) := by have := h1.cells.c2; rw [stepped_L] at this; exact this
  have q2 := h1.cells.fr 2
  have hpl := h1.lt p h1.inP
  have hfl := hfile.lt
  have hpr : some p ≠ (pl s.data.toList).sv.ownBlock := fun e => h1.p_ne_row hf1 e.symm rfl
  have hfr : some (pl s.data.toList).fb ≠ (pl s.data.toList).sv.ownBlock := fun e => h1.fb_ne_row hf1 hf1 e.symm rfl
  have hne := h1.p_ne_fb hf1
  have hlen := Fsp.used_find hf1
  rw [stepped_L] at hlen
  have hnews : ∀ j u, (b.map byteV)[j]? = some u → w1.cell? (ad.add j) = some u := by
    intro j u hj
    rw [List.getElem?_map] at hj
    obtain ⟨x, hx, rfl⟩ := Option.map_eq_some_iff.1 hj
    have hx2 := HC.out j x hx
    exact (World.cell?_of_block (ht.block _ (World.block_lt_of_cell? w _ hx2) (by rw [add_block]; exact hout (by have := (List.getElem?_eq_some_iff.1 hx).1; omega)))).trans hx2
  have hone : ∀ u ∈ b.map byteV, u.oneCell' = true := by
    intro v hv
    obtain ⟨x, _, rfl⟩ := List.mem_map.1 hv
    rfl
  have HN := Lib.hid hnews
  have H1 := Lib.hid hf1
  have HO := Lib.hid hfile.2
  have HE := Lib.hid hone
  have HP := Lib.hid hpr
  have HR := Lib.hid hfr
  clear hnews hf1 hfile hone hpr hfr hfc
  go_wp2_with (at_builtin; refine wpList_append_own_at _ rfl (.tmp 34) (.tmp 35) 33 rfl 0 5 i0 (.int .u8 0) 1 1 Tryz.underlying33 hi hz0 hz1 hz2 rfl (by decide) _ _ _ rfl HO.out ad b.length cap (b.map byteV) rfl (by simp) HN.out HE.out ?b1 ?b2 (Nat.zero_le _) ?_)
  case b1 => unfold maxLen; omega
  case b2 => omega
  intro v' w2 hown hgrow hnil hloc
  have hvs : ∃ sp' cap', v' = .slice sp' (f.data.length + b.length) cap' := by
    obtain ⟨sp', cap', e, _⟩ := own_slice hown
    exact ⟨sp', cap', e⟩
  obtain ⟨sp', cap', rfl⟩ := hvs
  have m0 := hgrow.cell f0 HR.out
  have m2 := hgrow.cell k2 HP.out
  have n0 : w2.frozen? ⟨(pl s.data.toList).fb, 0, none⟩ = false := (World.frozen?_of_block (hgrow.block _ hfl HR.out)).trans g0
  have n2 : w2.frozen? ⟨p, 2, none⟩ = false := (World.frozen?_of_block (hgrow.block _ hpl HP.out)).trans q2
  have HL := Lib.hid hloc
  have HG := Lib.hid hgrow
  have HW := Lib.hid hown
  clear hloc hgrow hown hnil f0 g0 k2 q2
  go_wp2
  go_ret
  have hfin := appended (s := s.data.toList) (b := b) h1 ht H1.out (by rw [stepped_L, stepped_room]; omega) HW.out HG.out HL.out rfl
  rw [stepped_L] at hfin
  exact ⟨rfl, hfin⟩

set_option maxRecDepth 100000 in
set_option maxHeartbeats 400000 in
theorem append_nil (h : RepX w p S false Q mo pl) (hs : StepsOk S) (s : ByteArray) (hz : s.size ≤ maxLen) (HD : Hid (S.down = false)) (f : Fsp.File) (HF : Hid (Fsp.find S.L s.data.toList = some f)) (HA : Hid (S.armed ≠ 1)) :
    Calls Tryz.prog 33 #[.pointer (some ⟨p, 0, none⟩), .string s, .slice none 0 0] w fun r w' => r = .returned (.int .i64 0) ∧ Post w p { Fsp.stepped S with L := Fsp.put S.L s.data.toList ⟨f.data, f.synced⟩ } Q w' := by
  have c1 := h.cells.c1
  have c2 := h.cells.c2
  have r1 := h.good.2.1
  have r2 := h.good.2.2.1
  have u1 : (Fsp.usedOf S.L : Int) ≤ S.room := by omega
  have u2 : (S.room : Int) ≤ 67108864 := by omega
  clear r1 r2
  have HS := Lib.hid hs
  clear hs
  obtain ⟨i0, hi, hz0, hz1, hz2⟩ := info_parts Tryz.infoU8
  go_enter Tryz.func33, Tryz.ntmps33
  go_wp2_with (first | (go_at_call 22; refine (down_is h HD.out).mono ?_; rintro r w' ⟨rfl, rfl⟩) | (go_at_call 38; refine (find_some h s hz HF.out).mono ?_; rintro r w' ⟨rfl, rfl⟩))
  go_quiet (fail)
  go_wp2_with fail
  go_at_call 47
  refine (step_yes (h.like (like_drewN _ _)) HA.out HS.out).mono ?_
  rintro r w1 ⟨rfl, h1, ht0⟩
  have ht : Turn (fun b => b = p) w w1 := ⟨ht0.os, ht0.tape, ht0.output, ht0.size, ht0.block⟩
  clear ht0
  have hf1 : Fsp.find (Fsp.stepped S).L s.data.toList = some f := by rw [stepped_L]; exact HF.out
  have hfile := h1.file _ f hf1
  obtain ⟨sp', cap', hsv, _⟩ := own_slice hfile.2
  have hfc := hfile.cells
  rw [hsv] at hfc
  have f0 := hfc.c0
  have g0 := hfc.fr 0
  have k2 : w1.cell? ⟨p, 2, none⟩ = some (.int .i64 (Fsp.usedOf S.L : Int)) := by have := h1.cells.c2; rw [stepped_L] at this; exact this
  have q2 := h1.cells.fr 2
  have hown := hfile.2
  rw [hsv] at hown
  have H1 := Lib.hid hf1
  have HO := Lib.hid hown
  have HV := Lib.hid hsv
  clear hf1 hfile hown hsv hfc
  go_wp2_with (at_builtin; refine wpList_append_own_none rfl (.tmp 34) (.tmp 35) 33 rfl 0 5 i0 1 Tryz.underlying33 hi _ _ _ rfl HO.out rfl ?_)
  go_wp2
  go_ret
  have hown' := (h1.file _ f H1.out).2
  rw [HV.out] at hown'
  have hfin := appended (s := s.data.toList) (b := []) (v' := .slice sp' f.data.length cap') h1 ht H1.out (by rw [stepped_L, stepped_room]; simp; omega) (by simpa using hown') (World.grownBy.refl w1 _) (Or.inl (by rw [HV.out])) rfl
  rw [stepped_L] at hfin
  simp only [List.append_nil, List.length_nil, Int.natCast_zero, Int.add_zero] at hfin
  exact ⟨rfl, hfin⟩

theorem append_any (h : RepX w p S false Q mo pl) (hs : StepsOk S) (s : ByteArray) (hz : s.size ≤ maxLen) (v : Value) (b : List UInt8) (hb : SliceB w v b) (hbl : b.length ≤ maxLen) (hout : OutOf Q v) :
    Calls Tryz.prog 33 #[.pointer (some ⟨p, 0, none⟩), .string s, v] w fun r w' => r = .returned (.int .i64 ((Fsp.append S s.data.toList b).2 : Nat)) ∧ Post w p (Fsp.append S s.data.toList b).1 Q w' := by
  by_cases he : S.down = true ∨ Fsp.find S.L s.data.toList = none ∨ S.room < Fsp.usedOf S.L + b.length ∨ S.armed = 1
  · obtain ⟨sp, cap, rfl, _⟩ := hb.toR
    exact append_early h s hz sp cap b hbl he
  · simp only [not_or] at he
    obtain ⟨h1, h2, h3, h5⟩ := he
    have hd : S.down = false := by simpa using h1
    cases hf : Fsp.find S.L s.data.toList with
    | none => exact absurd hf h2
    | some f =>
      have e : Fsp.append S s.data.toList b = ({ Fsp.stepped S with L := Fsp.put S.L s.data.toList ⟨f.data ++ b, f.synced⟩ }, 0) := by
        simp only [Fsp.append, hd, hf, if_neg h3, if_neg h5]; rfl
      rw [e]
      rcases hb with ⟨rfl, rfl⟩ | ⟨ad, cap, rfl, hc⟩
      · simp only [List.append_nil]
        exact append_nil h hs s hz hd f hf h5
      · exact append_some h hs s hz ad cap b hc (fun h0 e => hout ad _ _ rfl h0 (by rw [e]; exact h.inP)) hd f hf (by omega) h5

end
end Go.Proofs.YtinghngnehhgfaaGreatDoor
