/-
  Sync, Truncate, Remove.
-/
import Derived.Test.YtjjajnfkngfpjaaGreatDoorStep
namespace Go.Proofs.YtjjajnfkngfpjaaGreatDoor
open Go.RowKit Go.Maps Go.WideMaps

section
variable {w w' : World} {p : Nat} {S S' : Fsp.Fs} {c c' : Bool} {Q : Nat → Prop} {mo : Option Nat} {pl : List UInt8 → Pl}

theorem ret_err {a b : Int} (h : a = b) : Ending.returned (.int .i64 a) = .returned (.int .i64 b) := by rw [h]

theorem sync_any (h : RepX w p S false Q mo pl) (hs : StepsOk S) (s : ByteArray) (hz : s.size ≤ maxLen) :
    Calls Tryz.prog 45 #[.pointer (some ⟨p, 0, none⟩), .string s] w fun r w' => r = .returned (.int .i64 ((Fsp.sync S s.data.toList).2 : Nat)) ∧ Post w p (Fsp.sync S s.data.toList).1 Q w' := by
  cases hd : S.down with
  | true =>
    have e : Fsp.sync S s.data.toList = (S, 5) := by simp [Fsp.sync, hd]
    rw [e]; clear e
    have hp := Post.same h
    go_enter Tryz.func45, Tryz.ntmps45
    go_wp2_with (go_at_call 44; refine (down_is h hd).mono ?_; rintro r w' ⟨rfl, rfl⟩)
    go_ret
    exact ⟨rfl, hp⟩
  | false =>
    cases hf : Fsp.find S.L s.data.toList with
    | none =>
      have e : Fsp.sync S s.data.toList = (S, 2) := by simp [Fsp.sync, hd, hf]
      rw [e]; clear e
      have hp := Post.same h
      have HF := Lib.hid hf
      have HD := Lib.hid hd
      clear hf hd
      go_enter Tryz.func45, Tryz.ntmps45
      go_wp2_with (first | (go_at_call 44; refine (down_is h HD.out).mono ?_; rintro r w' ⟨rfl, rfl⟩) | (go_at_call 66; refine (find_none h s hz HF.out).mono ?_; rintro r w' ⟨rfl, rfl⟩))
      go_ret
      exact ⟨rfl, hp⟩
    | some f =>
      by_cases ha : S.armed = 1
      · have e : Fsp.sync S s.data.toList = (Fsp.stepped S, 5) := by simp [Fsp.sync, hd, hf, ha]
        rw [e]; clear e
        have HF := Lib.hid hf
        have HD := Lib.hid hd
        have HA := Lib.hid ha
        clear hf hd ha
        go_enter Tryz.func45, Tryz.ntmps45
        go_wp2_with (first | (go_at_call 44; refine (down_is h HD.out).mono ?_; rintro r w' ⟨rfl, rfl⟩) | (go_at_call 66; refine (find_some h s hz HF.out).mono ?_; rintro r w' ⟨rfl, rfl⟩) | (go_at_call 68; refine (step_no h HA.out).mono ?_; rintro r w' ⟨rfl, h1, ht⟩))
        go_ret
        exact ⟨rfl, Post.head h1 h.inP ht⟩
      · have e : Fsp.sync S s.data.toList = ({ Fsp.stepped S with L := Fsp.put S.L s.data.toList ⟨f.data, f.data.length⟩ }, 0) := by simp [Fsp.sync, hd, hf, ha]
        rw [e]; clear e
        have HF := Lib.hid hf
        have HD := Lib.hid hd
        have HA := Lib.hid ha
        have HS := Lib.hid hs
        clear hf hd ha hs
        go_enter Tryz.func45, Tryz.ntmps45
        go_wp2_with (first | (go_at_call 44; refine (down_is h HD.out).mono ?_; rintro r w' ⟨rfl, rfl⟩) | (go_at_call 66; refine (find_some h s hz HF.out).mono ?_; rintro r w' ⟨rfl, rfl⟩))
        go_at_call 68
        refine (step_yes h HA.out HS.out).mono ?_
        rintro r w1 ⟨rfl, h1, ht⟩
        have hf1 : Fsp.find (Fsp.stepped S).L s.data.toList = some f := by rw [stepped_L]; exact HF.out
        obtain ⟨sp, cap, hsv, hlc, hcap, hfc⟩ := file_open h1 hf1
        have f0 := hfc.c0
        have f1 := hfc.c1
        have g1 := hfc.fr 1
        have HS := Lib.hid hsv
        have H1 := Lib.hid hf1
        clear hsv hf1
        go_wp2
        go_ret
        exact ⟨rfl, Post.syncCell f.data.length h1 ht H1.out (Nat.le_refl _) (by simp only [stepped_L]) rfl⟩

theorem cut_rep {w1 : World} {n : List UInt8} {f : Fsp.File} {sp : Option Addr} {cap : Nat} (h : RepX w1 p S c Q mo pl) (hf : Fsp.find S.L n = some f) (hsv : (pl n).sv = .slice sp f.data.length cap) (hlc : f.data.length ≤ cap) (hcap : cap ≤ maxLen)
    (k : Nat) (hk : k ≤ f.data.length) :
    Calls Tryz.prog 75 #[.pointer (some ⟨p, 0, none⟩), .pointer (some ⟨(pl n).fb, 0, none⟩), .int .i64 k] w1 fun r w2 => r = .returned (.tuple #[]) ∧
      RepX w2 p { S with L := Fsp.put S.L n ⟨f.data.take k, min f.synced k⟩ } c (Grow Q w1 w2) mo (setPl pl n ⟨(pl n).fb, .slice sp k cap⟩) ∧ Turn (fun b => b = p ∨ b = (pl n).fb) w1 w2 := by
  have hfile := h.file n f hf
  have hc := hfile.cells
  rw [hsv] at hc
  have hu := Fsp.used_find hf
  have hr := h.good.2.1
  have hr2 := h.good.2.2.1
  have hne := h.p_ne_fb hf
  refine (cut_walk h.cells hc k hk hlc hcap (by omega) (by omega)).mono ?_
  rintro r w2 ⟨rfl, hw⟩
  have ht : Turn (fun b => b = p ∨ b = (pl n).fb) w1 w2 := Turn.like ((((Turn.refl _ _).setCell (p := ⟨p, 2, none⟩) (Or.inl (Or.inl rfl)) _).setCell (p := ⟨(pl n).fb, 0, none⟩) (Or.inl (Or.inr rfl)) _).setCell (p := ⟨(pl n).fb, 1, none⟩) (Or.inl (Or.inr rfl)) _) hw
  have hp2 : w2.heap[p]? = some (.cells #[.map mo, .int .i64 (S.room : Int), .int .i64 ((Fsp.usedOf S.L : Int) - ((f.data.length : Int) - k)), .int .i64 (S.steps : Int), .int .i64 (S.armed : Int), .bool S.down, .bool c] 67 (0, 0)) := by
    rw [hw.heap, heap_setCell_other hne, heap_setCell_other hne, heap_setCell_same h.head]; rfl
  have hb2 : w2.heap[(pl n).fb]? = some (.cells #[.slice sp k cap, .int .i64 (min f.synced k : Nat)] 90 (0, 0)) := by
    have e0 : (w1.setCell ⟨p, 2, none⟩ (.int .i64 ((Fsp.usedOf S.L : Int) - ((f.data.length : Int) - k)))).heap[(pl n).fb]? = some (.cells #[(pl n).sv, .int .i64 (f.synced : Int)] 90 (0, 0)) := by
      rw [heap_setCell_other (Ne.symm hne)]; exact hfile.1
    rw [hw.heap, heap_setCell_same (heap_setCell_same e0 _) _]
    have e : (min (f.synced : Int) (k : Int)) = ((min f.synced k : Nat) : Int) := by omega
    rw [e]; rfl
  exact ⟨rfl, h.cutTo k (min f.synced k) hf hk (by omega) hsv ht hp2 hb2, ht⟩

theorem take_toNat {f : Fsp.File} {k : Int} (h : ¬ (k < 0 ∨ (f.data.length : Int) < k)) : ∃ m : Nat, k = m ∧ m ≤ f.data.length := ⟨k.toNat, by omega, by omega⟩

theorem truncate_any (h : RepX w p S false Q mo pl) (hs : StepsOk S) (s : ByteArray) (hz : s.size ≤ maxLen) (k : Int) :
    Calls Tryz.prog 88 #[.pointer (some ⟨p, 0, none⟩), .string s, .int .i64 k] w fun r w' => r = .returned (.int .i64 ((Fsp.truncate S s.data.toList k).2 : Nat)) ∧ Post w p (Fsp.truncate S s.data.toList k).1 Q w' := by
  cases hd : S.down with
  | true =>
    have e : Fsp.truncate S s.data.toList k = (S, 5) := by simp [Fsp.truncate, hd]
    rw [e]; clear e
    have hp := Post.same h
    go_enter Tryz.func88, Tryz.ntmps88
    go_wp2_with (go_at_call 44; refine (down_is h hd).mono ?_; rintro r w' ⟨rfl, rfl⟩)
    go_ret
    exact ⟨rfl, hp⟩
  | false =>
    cases hf : Fsp.find S.L s.data.toList with
    | none =>
      have e : Fsp.truncate S s.data.toList k = (S, 2) := by simp [Fsp.truncate, hd, hf]
      rw [e]; clear e
      have hp := Post.same h
      have HF := Lib.hid hf
      have HD := Lib.hid hd
      clear hf hd
      go_enter Tryz.func88, Tryz.ntmps88
      go_wp2_with (first | (go_at_call 44; refine (down_is h HD.out).mono ?_; rintro r w' ⟨rfl, rfl⟩) | (go_at_call 66; refine (find_none h s hz HF.out).mono ?_; rintro r w' ⟨rfl, rfl⟩))
      go_ret
      exact ⟨rfl, hp⟩
    | some f =>
      obtain ⟨sp, cap, hsv, hlc, hcap, hfc⟩ := file_open h hf
      have f0 := hfc.c0
      by_cases hk : k < 0 ∨ (f.data.length : Int) < k
      · have e : Fsp.truncate S s.data.toList k = (S, 6) := by simp only [Fsp.truncate, hd, hf, if_pos hk]; rfl
        rw [e]; clear e
        have hp := Post.same h
        have HF := Lib.hid hf
        have HD := Lib.hid hd
        have HV := Lib.hid hsv
        clear hf hd hsv
        by_cases hk0 : k < 0
        · clear hk
          go_enter Tryz.func88, Tryz.ntmps88
          go_wp2_with (first | (go_at_call 44; refine (down_is h HD.out).mono ?_; rintro r w' ⟨rfl, rfl⟩) | (go_at_call 66; refine (find_some h s hz HF.out).mono ?_; rintro r w' ⟨rfl, rfl⟩))
          go_ret
          exact ⟨rfl, hp⟩
        · have hk1 : (f.data.length : Int) < k := by omega
          have hk2 : 0 ≤ k := by omega
          clear hk hk0
          go_enter Tryz.func88, Tryz.ntmps88
          go_wp2_with (first | (go_at_call 44; refine (down_is h HD.out).mono ?_; rintro r w' ⟨rfl, rfl⟩) | (go_at_call 66; refine (find_some h s hz HF.out).mono ?_; rintro r w' ⟨rfl, rfl⟩))
          go_ret
          exact ⟨rfl, hp⟩
      · by_cases ha : S.armed = 1
        · have e : Fsp.truncate S s.data.toList k = (Fsp.stepped S, 5) := by simp only [Fsp.truncate, hd, hf, if_neg hk, if_pos ha]; rfl
          rw [e]; clear e
          have HF := Lib.hid hf
          have HD := Lib.hid hd
          have HV := Lib.hid hsv
          have HA := Lib.hid ha
          have hk1 : k ≤ (f.data.length : Int) := by omega
          have hk2 : 0 ≤ k := by omega
          clear hf hd hsv ha hk
          go_enter Tryz.func88, Tryz.ntmps88
          go_wp2_with (first | (go_at_call 44; refine (down_is h HD.out).mono ?_; rintro r w' ⟨rfl, rfl⟩) | (go_at_call 66; refine (find_some h s hz HF.out).mono ?_; rintro r w' ⟨rfl, rfl⟩) | (go_at_call 68; refine (step_no h HA.out).mono ?_; rintro r w' ⟨rfl, h1, ht⟩))
          go_ret
          exact ⟨rfl, Post.head h1 h.inP ht⟩
        · have e : Fsp.truncate S s.data.toList k = ({ Fsp.stepped S with L := Fsp.put S.L s.data.toList ⟨f.data.take k.toNat, min f.synced k.toNat⟩ }, 0) := by simp only [Fsp.truncate, hd, hf, if_neg hk, if_neg ha]; rfl
          rw [e]; clear e
          obtain ⟨m, rfl, hm⟩ := take_toNat hk
          rw [Int.toNat_natCast]
          have hsv0 := hsv
          have HF := Lib.hid hf
          have HD := Lib.hid hd
          have HV := Lib.hid hsv
          have HA := Lib.hid ha
          have HS := Lib.hid hs
          clear hf hd hsv ha hs hk hsv0
          go_enter Tryz.func88, Tryz.ntmps88
          go_wp2_with (first | (go_at_call 44; refine (down_is h HD.out).mono ?_; rintro r w' ⟨rfl, rfl⟩) | (go_at_call 66; refine (find_some h s hz HF.out).mono ?_; rintro r w' ⟨rfl, rfl⟩))
          go_at_call 68
          refine (step_yes h HA.out HS.out).mono ?_
          rintro r w1 ⟨rfl, h1, ht⟩
          have hf1 : Fsp.find (Fsp.stepped S).L s.data.toList = some f := by rw [stepped_L]; exact HF.out
          have H1 := Lib.hid hf1
          clear hf1
          go_wp2_with (go_at_call 75; refine (cut_rep h1 H1.out HV.out hlc hcap m hm).mono ?_; rintro r w2 ⟨rfl, h2, ht2⟩)
          go_ret
          rw [stepped_L] at h2
          refine ⟨rfl, Post.of h1 ht h2 (ht2.mono ?_)⟩
          rintro i (e | e)
          · rw [e]; exact h1.inP
          · rw [e]; exact h1.inF _ (by rw [H1.out]; rfl)

end
end Go.Proofs.YtjjajnfkngfpjaaGreatDoor
