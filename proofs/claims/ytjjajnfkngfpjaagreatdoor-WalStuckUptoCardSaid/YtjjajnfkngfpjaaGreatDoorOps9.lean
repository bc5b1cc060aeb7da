/-
  Crash: tear, and the whole.
-/
import Derived.Test.YtjjajnfkngfpjaaGreatDoorOps8
import Derived.Test.YtjjajnfkngfpjaaGreatDoorOps4
namespace Go.Proofs.YtjjajnfkngfpjaaGreatDoor
open Go.RowKit Go.Maps Go.WideMaps

section
variable {w w' : World} {p : Nat} {S S' : Fsp.Fs} {c c' : Bool} {Q : Nat → Prop} {mo : Option Nat} {pl : List UInt8 → Pl}

theorem tear_none (h : RepX w p S c Q mo pl) (kv : Value) (s : ByteArray) (hz : s.size ≤ maxLen) {f : Fsp.File} (hf : Fsp.find S.L s.data.toList = some f) (hs : f.synced = f.data.length) :
    Calls Tryz.prog 54 #[.pointer (some ⟨p, 0, none⟩), .string s, kv] w fun r w' => r = .returned (.tuple #[]) ∧ Like w w' := by
  obtain ⟨sp, cap, hsv, hlc, hcap, hfc⟩ := file_open h hf
  have f0 := hfc.c0
  have f1 := hfc.c1
  rw [hs] at f1
  have hl := len_room h hf
  have HF := Lib.hid hf
  clear hf hsv hcap hlc hs hfc
  go_enter Tryz.func54, Tryz.ntmps54
  go_wp2_with (go_at_call 66; refine (find_some h s hz HF.out).mono ?_; rintro r w' ⟨rfl, rfl⟩)
  go_quiet (fail)
  go_wp2
  go_end0
  exact ⟨rfl, like_drewN _ _⟩

/-- a file is torn: cut to what stays, all of it synced -/
theorem torn_rep {w1 w2 w3 w4 : World} {n : List UInt8} {f : Fsp.File} {k : Int} {Qc : Nat → Prop} {Sx : Fsp.Fs} (h : RepX w p S c Q mo pl) (hf : Fsp.find S.L n = some f) (hlt : f.synced < f.data.length) (t1 : Turn Qc w w1) (hd : ∀ b, Qc b → ¬ Q b)
    (hx : Sx = { S with L := Fsp.put S.L n (Fsp.torn f k) })
    {sp : Option Addr} {cap : Nat} (hsv : (pl n).sv = .slice sp f.data.length cap) (q : Nat) (hq : q = f.synced + min k.toNat (f.data.length - f.synced))
    (h2 : RepX w2 p { S with L := Fsp.put S.L n ⟨f.data.take q, min f.synced q⟩ } c (Grow Q w1 w2) mo (setPl pl n ⟨(pl n).fb, .slice sp q cap⟩)) (t2 : Turn (fun b => b = p ∨ b = (pl n).fb) w1 w2)
    (hw : w3 = w2.setCell ⟨(pl n).fb, 1, none⟩ (.int .i64 (q : Int))) (h4 : Like w3 w4) :
    (∃ pl', RepX w4 p Sx c (Grow Q w w4) mo pl') ∧ Turn (fun b => Q b ∨ Qc b) w w4 := by
  subst hw; subst hx
  have hne := h.p_ne_fb hf
  have hqp := h.inP
  have hqf := h.inF n (by rw [hf]; rfl)
  have h1 : RepX w1 p S c Q mo pl := h.turned t1 (fun b q q' => hd b q' q)
  have hf2 : Fsp.find ({ S with L := Fsp.put S.L n ⟨f.data.take q, min f.synced q⟩ } : Fsp.Fs).L n = some ⟨f.data.take q, min f.synced q⟩ := Fsp.find_put_same _ _ _
  have hfile2 := h2.file n _ hf2
  simp only [setPl_same] at hfile2
  have hhead2 := h2.head
  have t23 : Turn (fun b => b = p ∨ b = (pl n).fb) w1 (w2.setCell ⟨(pl n).fb, 1, none⟩ (.int .i64 (q : Int))) := t2.set _ _ (Or.inl (Or.inr rfl)) _
  have hql : q ≤ f.data.length := by omega
  have hu := Fsp.used_put_some h.good.1 hf ⟨f.data.take q, min f.synced q⟩
  have hlen : (f.data.take q).length = q := by simp; omega
  simp only [hlen] at hu
  have hp3 : (w2.setCell ⟨(pl n).fb, 1, none⟩ (.int .i64 (q : Int))).heap[p]? = some (.cells #[.map mo, .int .i64 (S.room : Int), .int .i64 ((Fsp.usedOf S.L : Int) - ((f.data.length : Int) - q)), .int .i64 (S.steps : Int), .int .i64 (S.armed : Int), .bool S.down, .bool c] 67 (0, 0)) := by
    rw [heap_setCell_other hne, hhead2]
    have e : (Fsp.usedOf (Fsp.put S.L n ⟨f.data.take q, min f.synced q⟩) : Int) = (Fsp.usedOf S.L : Int) - ((f.data.length : Int) - q) := by omega
    simp only [e]
  have hb3 : (w2.setCell ⟨(pl n).fb, 1, none⟩ (.int .i64 (q : Int))).heap[(pl n).fb]? = some (.cells #[.slice sp q cap, .int .i64 (q : Int)] 90 (0, 0)) := by
    have := hfile2.1
    rw [heap_setCell_same this]; rfl
  have h3 := h1.cutTo q q hf hql (Nat.le_refl _) hsv t23 hp3 hb3
  have et : Fsp.torn f k = ⟨f.data.take q, q⟩ := by
    unfold Fsp.torn; rw [if_pos hlt, hq]
  have t34 : Turn (fun b => Q b ∨ Qc b) w (w2.setCell ⟨(pl n).fb, 1, none⟩ (.int .i64 (q : Int))) :=
    (t1.mono (Q' := fun b => Q b ∨ Qc b) (fun _ x => Or.inr x)).trans t23 (fun i _ x => by rcases x with x | x; exact Or.inl (by rw [x]; exact hqp); exact Or.inl (by rw [x]; exact hqf))
  refine ⟨⟨setPl pl n ⟨(pl n).fb, .slice sp q cap⟩, ?_⟩, t34.like h4⟩
  have h4' := h3.like h4
  rw [et]
  refine h4'.mono (fun i hi => ?_) (fun i hi => ?_)
  · rcases hi with hi | hi
    · exact Or.inl hi
    · exact Or.inr ⟨Nat.le_trans t1.size hi.1, by rw [h4.heap]; exact hi.2⟩
  · rcases hi with hi | hi
    · exact h4'.lt i (Grow.old hi)
    · exact hi.2

set_option maxRecDepth 100000 in
set_option maxHeartbeats 400000 in
theorem tear_some {kv : Value} {I : World → List (List UInt8 × Nat) → Prop} {kf : List UInt8 → Nat → Int} {Qc : Nat → Prop} {l : List (List UInt8 × Nat)} (hK : Keeper kv I kf Qc) (hI : I w l) (hd : ∀ b, Qc b → ¬ Q b)
    (h : RepX w p S c Q mo pl) (s : ByteArray) (hz : s.size ≤ maxLen) {f : Fsp.File} (hf : Fsp.find S.L s.data.toList = some f) (hs : f.synced < f.data.length) :
    Calls Tryz.prog 54 #[.pointer (some ⟨p, 0, none⟩), .string s, kv] w fun r w' => r = .returned (.tuple #[]) ∧
      ((∃ pl', RepX w' p { S with L := Fsp.put S.L s.data.toList (Fsp.torn f (kf s.data.toList (f.data.length - f.synced))) } c (Grow Q w w') mo pl') ∧ Turn (fun b => Q b ∨ Qc b) w w') ∧ I w' (l ++ [(s.data.toList, f.data.length - f.synced)]) := by
  obtain ⟨sp, cap, hsv, hlc, hcap, hfc⟩ := file_open h hf
  have f0 := hfc.c0
  have f1 := hfc.c1
  have hl := len_room h hf
  have hlt := hK.lt _ _ hI
  have HF := Lib.hid hf
  have HV := Lib.hid hsv
  have HC := Lib.hid hcap
  have HL := Lib.hid hlc
  have HT := Lib.hid hlt
  have HD := Lib.hid hd
  have HI := Lib.hid hI
  have HS := Lib.hid hs
  have hs' : (f.synced : Int) < f.data.length := by omega
  clear hf hsv hcap hlc hfc hlt hd hI hs
  go_enter Tryz.func54, Tryz.ntmps54
  go_wp2_with (go_at_call 66; refine (find_some h s hz HF.out).mono ?_; rintro r w' ⟨rfl, rfl⟩)
  go_quiet (fail)
  go_wp2_with fail
  rw [show ((f.data.length : Int) - (f.synced : Int)) = ((f.data.length - f.synced : Nat) : Int) from by omega]
  refine (hK.asks s (f.data.length - f.synced) (w.drewN nq) l (hK.stable _ _ _ _ HI.out (Turn.like (Turn.refl (fun _ => False) w) (like_drewN _ _)) (fun _ _ q => q)) hz (by omega)).mono ?_
  rintro r w1 ⟨rfl, hI1, ht1⟩
  have t1 : Turn Qc w w1 := ⟨ht1.os, ht1.tape, ht1.output, ht1.size, ht1.block⟩
  clear ht1
  have h1 : RepX w1 p S c Q mo pl := h.turned t1 (fun b q q' => HD.out b q' q)
  have k1 := (h1.file _ f HF.out).cells.c1
  generalize hk : kf s.data.toList (f.data.length - f.synced) = K at *
  obtain ⟨q, hq⟩ : ∃ q : Nat, q = f.synced + min K.toNat (f.data.length - f.synced) := ⟨_, rfl⟩
  have hq1 : (f.synced : Int) + min (max K 0) ((f.data.length - f.synced : Nat) : Int) = (q : Int) := by omega
  have hq2 : q ≤ f.data.length := by omega
  have HQ := Lib.hid hq
  have HQ1 := Lib.hid hq1
  have HJ := Lib.hid hI1
  have HK := Lib.hid hk
  clear hq hq1 hI1 hk
  go_wp2_with fail
  rw [HQ1.out]
  go_at_call 75
  refine (cut_rep h1 HF.out HV.out HL.out HC.out q hq2).mono ?_
  rintro r w2 ⟨rfl, h2, t2⟩
  have hfile2 := h2.file s.data.toList _ (Fsp.find_put_same _ _ _)
  simp only [setPl_same] at hfile2
  have m0 := hfile2.cells.c0
  have m1 := hfile2.cells.fr 1
  have m2 := hfile2.cells.c1
  have HM := Lib.hid hfile2
  clear hfile2
  go_wp2
  go_end0
  have hfin := torn_rep (k := K) (w4 := w2.setCell ⟨(pl s.data.toList).fb, 1, none⟩ (.int .i64 (q : Int))) h HF.out HS.out t1 HD.out rfl HV.out q HQ.out h2 t2 rfl ⟨rfl, rfl, rfl, rfl⟩
  rw [← HK.out] at hfin
  refine ⟨rfl, hfin, hK.stable _ _ _ _ HJ.out (t2.set _ _ (Or.inl (Or.inr rfl)) _) (fun b hb e => ?_)⟩
  rcases e with e | e
  · exact HD.out b hb (by rw [e]; exact h.inP)
  · exact HD.out b hb (by rw [e]; exact h.inF _ (by rw [HF.out]; rfl))

/-- what one file's crash asks -/
def askOf (x : List UInt8 × Fsp.File) : List (List UInt8 × Nat) := if x.2.synced < x.2.data.length then [(x.1, x.2.data.length - x.2.synced)] else []

theorem tear_any {kv : Value} {I : World → List (List UInt8 × Nat) → Prop} {kf : List UInt8 → Nat → Int} {Qc : Nat → Prop} {l : List (List UInt8 × Nat)} (hK : Keeper kv I kf Qc) (hI : I w l) (hd : ∀ b, Qc b → ¬ Q b)
    (h : RepX w p S c Q mo pl) (s : ByteArray) (hz : s.size ≤ maxLen) {f : Fsp.File} (hf : Fsp.find S.L s.data.toList = some f) :
    Calls Tryz.prog 54 #[.pointer (some ⟨p, 0, none⟩), .string s, kv] w fun r w' => r = .returned (.tuple #[]) ∧
      ((∃ pl', RepX w' p { S with L := Fsp.put S.L s.data.toList (Fsp.torn f (kf s.data.toList (f.data.length - f.synced))) } c (Grow Q w w') mo pl') ∧ Turn (fun b => Q b ∨ Qc b) w w') ∧ I w' (l ++ askOf (s.data.toList, f)) := by
  by_cases hs : f.synced < f.data.length
  · have e : askOf (s.data.toList, f) = [(s.data.toList, f.data.length - f.synced)] := by simp [askOf, hs]
    rw [e]
    exact tear_some hK hI hd h s hz hf hs
  · have hs2 : f.synced = f.data.length := by have := (h.good.2.2.2.2.2 _ f hf).2; omega
    have e : askOf (s.data.toList, f) = [] := by simp [askOf, hs]
    have et : Fsp.torn f (kf s.data.toList (f.data.length - f.synced)) = f := by unfold Fsp.torn; rw [if_neg hs]
    rw [e, et, Fsp.put_same h.good.1 hf, List.append_nil]
    refine (tear_none h kv s hz hf hs2).mono ?_
    rintro r w' ⟨rfl, hl⟩
    exact ⟨rfl, ⟨⟨pl, (h.like hl).grow w⟩, Turn.like (Turn.refl _ w) hl⟩, hK.stable _ _ _ _ hI (Turn.like (Turn.refl (fun _ => False) w) hl) (fun _ _ q => q)⟩

end
end Go.Proofs.YtjjajnfkngfpjaaGreatDoor
