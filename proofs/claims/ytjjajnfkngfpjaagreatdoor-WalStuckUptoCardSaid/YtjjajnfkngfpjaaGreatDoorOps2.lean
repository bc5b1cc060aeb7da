/-
  drop, Remove.
-/
import Derived.Test.YtjjajnfkngfpjaaGreatDoorOps1
namespace Go.Proofs.YtjjajnfkngfpjaaGreatDoor
open Go.RowKit Go.Maps Go.WideMaps

section
variable {w w' : World} {p : Nat} {S S' : Fsp.Fs} {c c' : Bool} {Q : Nat → Prop} {mo : Option Nat} {pl : List UInt8 → Pl}

theorem drop_none (h : RepX w p S c Q mo pl) (s : ByteArray) (hs : s.size ≤ maxLen) (hf : Fsp.find S.L s.data.toList = none) :
    Calls Tryz.prog 84 #[.pointer (some ⟨p, 0, none⟩), .string s] w fun r w' => r = .returned (.tuple #[]) ∧ w = w' := by
  have HF := Lib.hid hf
  clear hf
  go_enter Tryz.func84, Tryz.ntmps84
  go_wp2_with (go_at_call 66; refine (find_none h s hs HF.out).mono ?_; rintro r w' ⟨rfl, rfl⟩)
  go_end0
  exact ⟨rfl, rfl⟩

theorem drop_some {mb : Nat} (h : RepX w p S c Q (some mb) pl) (s : ByteArray) (hs : s.size ≤ maxLen) {f : Fsp.File} (hf : Fsp.find S.L s.data.toList = some f) :
    Calls Tryz.prog 84 #[.pointer (some ⟨p, 0, none⟩), .string s] w fun r w' => r = .returned (.tuple #[]) ∧ RepX w' p { S with L := Fsp.del S.L s.data.toList } c Q (some mb) pl ∧ Turn (fun b => b = p ∨ b = mb) w w' := by
  obtain ⟨sp, cap, hsv, hlc, hcap, hfc⟩ := file_open h hf
  obtain ⟨D, hown, hag⟩ := h.map
  have hu := Fsp.used_find hf
  have hr := h.good.2.1
  have hr2 := h.good.2.2.1
  have hu2 : (Fsp.usedOf S.L : Int) ≤ 67108864 := by omega
  have hu3 : (f.data.length : Int) ≤ Fsp.usedOf S.L := by omega
  have c0 := h.cells.c0
  have c2 := h.cells.c2
  have k2 := h.cells.fr 2
  have f0 := hfc.c0
  have hne := h.p_ne_mb rfl
  have HF := Lib.hid hf
  have HV := Lib.hid hsv
  clear hf hsv hu hr hr2 hlc hcap
  go_enter Tryz.func84, Tryz.ntmps84
  go_wp2_with (go_at_call 66; refine (find_some h s hs HF.out).mono ?_; rintro r w' ⟨rfl, rfl⟩)
  go_region
  all_goals go_wp2_with (at_delete; refine wpList_delete_own _ rfl _ _ 65 9 rfl 87 lawS Tryz.underlying65 ptrElem mb _ D rfl (by exact hown.setCell (Ne.symm hne) _) _ _ rfl (keyOf_string_mk Tryz.underlying9 hs) ?_; intro w1 hown1 hturn1)
  all_goals go_end0
  have hpl := h.lt p h.inP
  have e1 : w1.heap[p]? = (w.setCell ⟨p, 2, none⟩ (.int .i64 ((Fsp.usedOf S.L : Int) - (f.data.length : Int)))).heap[p]? :=
    hturn1.grown.block p (by simpa [World.setCell, World.drew] using hpl) (by simpa using hne)
  have ht : Turn (fun b => b = p ∨ b = mb) w w1 := (((Turn.refl _ w).setCell (p := ⟨p, 2, none⟩) (Or.inl (Or.inl rfl)) _).drew).grown hturn1.grown (fun k e => by cases e; exact Or.inl (Or.inr rfl))
  have hd := Fsp.used_del HF.out
  refine ⟨rfl, h.delFile ht ?_ rfl (good_del h.good rfl rfl h.good.2.2.2.2.1) hown1 (hag.del h.good.1 (hown.tidy lawS) _), ht⟩
  rw [e1, heap_setCell_same h.head]
  have e2 : ((Fsp.usedOf S.L : Int) - (f.data.length : Int)) = (Fsp.usedOf (Fsp.del S.L s.data.toList) : Nat) := by omega
  simp only [headOf, ← e2]
  rfl

theorem mo_some {f : Fsp.File} {n : List UInt8} (h : RepX w p S c Q mo pl) (hf : Fsp.find S.L n = some f) : ∃ mb, mo = some mb := by
  cases mo with
  | none => have e : S.L = [] := h.map; rw [e] at hf; simp [Fsp.find] at hf
  | some mb => exact ⟨mb, rfl⟩

theorem remove_any (h : RepX w p S false Q mo pl) (hs : StepsOk S) (s : ByteArray) (hz : s.size ≤ maxLen) :
    Calls Tryz.prog 63 #[.pointer (some ⟨p, 0, none⟩), .string s] w fun r w' => r = .returned (.int .i64 ((Fsp.remove S s.data.toList).2 : Nat)) ∧ Post w p (Fsp.remove S s.data.toList).1 Q w' := by
  cases hd : S.down with
  | true =>
    have e : Fsp.remove S s.data.toList = (S, 5) := by simp [Fsp.remove, hd]
    rw [e]; clear e
    have hp := Post.same h
    go_enter Tryz.func63, Tryz.ntmps63
    go_wp2_with (go_at_call 44; refine (down_is h hd).mono ?_; rintro r w' ⟨rfl, rfl⟩)
    go_ret
    exact ⟨rfl, hp⟩
  | false =>
    cases hf : Fsp.find S.L s.data.toList with
    | none =>
      have e : Fsp.remove S s.data.toList = (S, 2) := by simp [Fsp.remove, hd, hf]
      rw [e]; clear e
      have hp := Post.same h
      have HF := Lib.hid hf
      have HD := Lib.hid hd
      clear hf hd
      go_enter Tryz.func63, Tryz.ntmps63
      go_wp2_with (first | (go_at_call 44; refine (down_is h HD.out).mono ?_; rintro r w' ⟨rfl, rfl⟩) | (go_at_call 66; refine (find_none h s hz HF.out).mono ?_; rintro r w' ⟨rfl, rfl⟩))
      go_ret
      exact ⟨rfl, hp⟩
    | some f =>
      obtain ⟨mb, hmo⟩ := mo_some h hf
      subst hmo
      by_cases ha : S.armed = 1
      · have e : Fsp.remove S s.data.toList = (Fsp.stepped S, 5) := by simp [Fsp.remove, hd, hf, ha]
        rw [e]; clear e
        have HF := Lib.hid hf
        have HD := Lib.hid hd
        have HA := Lib.hid ha
        clear hf hd ha
        go_enter Tryz.func63, Tryz.ntmps63
        go_wp2_with (first | (go_at_call 44; refine (down_is h HD.out).mono ?_; rintro r w' ⟨rfl, rfl⟩) | (go_at_call 66; refine (find_some h s hz HF.out).mono ?_; rintro r w' ⟨rfl, rfl⟩) | (go_at_call 68; refine (step_no h HA.out).mono ?_; rintro r w' ⟨rfl, h1, ht⟩))
        go_ret
        exact ⟨rfl, Post.head h1 h.inP ht⟩
      · have e : Fsp.remove S s.data.toList = ({ Fsp.stepped S with L := Fsp.del S.L s.data.toList }, 0) := by simp [Fsp.remove, hd, hf, ha]
        rw [e]; clear e
        have HF := Lib.hid hf
        have HD := Lib.hid hd
        have HA := Lib.hid ha
        have HS := Lib.hid hs
        clear hf hd ha hs
        go_enter Tryz.func63, Tryz.ntmps63
        go_wp2_with (first | (go_at_call 44; refine (down_is h HD.out).mono ?_; rintro r w' ⟨rfl, rfl⟩) | (go_at_call 66; refine (find_some h s hz HF.out).mono ?_; rintro r w' ⟨rfl, rfl⟩))
        go_at_call 68
        refine (step_yes h HA.out HS.out).mono ?_
        rintro r w1 ⟨rfl, h1, ht⟩
        have hf1 : Fsp.find (Fsp.stepped S).L s.data.toList = some f := by rw [stepped_L]; exact HF.out
        have H1 := Lib.hid hf1
        clear hf1
        go_wp2_with (go_at_call 84; refine (drop_some h1 s hz H1.out).mono ?_; rintro r w2 ⟨rfl, h2, ht2⟩)
        go_ret
        rw [stepped_L] at h2
        refine ⟨rfl, Post.of h1 ht (h2.grow w1) (ht2.mono ?_)⟩
        rintro i (e | e)
        · rw [e]; exact h1.inP
        · rw [e]; exact h1.inM _ rfl

end
end Go.Proofs.YtjjajnfkngfpjaaGreatDoor
