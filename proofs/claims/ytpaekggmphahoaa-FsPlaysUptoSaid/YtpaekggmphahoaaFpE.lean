/-
  PARTS: Ops8, Ops9, Ops10.
-/
import Derived.Test.YtpaekggmphahoaaFpD
import Derived.Tactics
import Derived.Tactics2
import Derived.Defers
import Derived.Recover
import Derived.Laws.Pointers
import Derived.Test.YtpaekggmphahoaaFpC
import Derived.Test.YtpaekggmphahoaaFpA
/-
  Crash: asked, tear.
-/
namespace Go.Proofs.Ytpaekggmphahoaa
open Go.RowKit Go.Maps Go.WideMaps

section
variable {w w' : World} {p : Nat} {S S' : Fsp.Fs} {c c' : Bool} {Q : Nat → Prop} {mo : Option Nat} {pl : List UInt8 → Pl}

theorem catch_idle (a : Addr) (w : World) :
    CallsD Try.prog 66 #[.pointer (some a)] .returning w fun e u' w' => e = .returned (.tuple #[]) ∧ u' = .returning ∧ w' = w := by
  refine callsD_of_wpS Try.func66 rfl fun c₀ cs hu => ?_
  apply wpS_seq
  apply wpS_region
  simp [wpOpsS, go_sem, recoverD, hu, Try.ntmps66, Exit.thenS]
  refine wpS_cond (t := false) (by simp [Act.eval, Array.replicate]) ?_
  simp only [Bool.false_eq_true, if_false]
  refine wpS_of_wp (wp_skip ?_)
  cases c₀
  simp_all [bodyPostS, results, Try.results66]

theorem eqlNil (w : World) : (binOp .eql 49 .nilFunc .nilFunc).run Try.prog w = .ok (.bool true) w := by kernel_rfl
theorem eqlFn (g : Nat) (caps : Array Value) (w : World) : (binOp .eql 49 (.func (.func g) #[] caps) .nilFunc).run Try.prog w = .ok (.bool false) w := by kernel_rfl

set_option maxRecDepth 100000 in
theorem asked_nil (s : ByteArray) (n : Int) (w : World) :
    Calls Try.prog 53 #[.nilFunc, .string s, .int .i64 n] w fun r w' => r = .returned (.int .i64 0) ∧ Turn (fun _ => False) w w' := by
  have h1 := eqlNil
  go_enter_defers Try.func53, Try.ntmps53
  go_wp2
  have ht : Turn (fun _ => False) w (w.alloc (.cells #[.int .i64 0] 3)) := (Turn.refl _ w).alloc _
  simp [bodyPostD, Leaves, results, Try.results53, go_sem, ht]

/-- what a crash is to ask: kf says what it answers; I holds of the worlds in which it was asked so far; its own blocks are Qc -/
structure Keeper (kv : Value) (I : World → List (List UInt8 × Nat) → Prop) (kf : List UInt8 → Nat → Int) (Qc : Nat → Prop) : Prop where
  stable : ∀ (Q : Nat → Prop) (w w' : World) (l : List (List UInt8 × Nat)), I w l → Turn Q w w' → (∀ b, Qc b → ¬ Q b) → I w' l
  lt : ∀ (w : World) (l : List (List UInt8 × Nat)), I w l → ∀ b, Qc b → b < w.heap.size
  asks : ∀ (s : ByteArray) (n : Nat) (w : World) (l : List (List UInt8 × Nat)), I w l → s.size ≤ 100 → n ≤ 67108864 →
    Calls Try.prog 53 #[kv, .string s, .int .i64 n] w fun r w' => r = .returned (.int .i64 (kf s.data.toList n)) ∧ I w' (l ++ [(s.data.toList, n)]) ∧ Turn Qc w w'

theorem keeper_nil : Keeper .nilFunc (fun _ _ => True) (fun _ _ => 0) (fun _ => False) where
  stable := fun _ _ _ _ _ _ _ => trivial
  lt := fun _ _ _ _ q => q.elim
  asks := fun s n _ _ _ _ _ => (asked_nil s n _).mono fun _ _ ⟨h1, h2⟩ => ⟨h1, trivial, h2⟩

set_option maxRecDepth 100000 in
/-- a function value: by its own contract -/
theorem asked_some {g : Nat} {caps : Array Value} {I : World → List (List UInt8 × Nat) → Prop} {kf : List UInt8 → Nat → Int} {Qc : Nat → Prop} (hent : ∀ args w, (callFunc g args).run Try.prog w = .ok (.enter g args) w)
    (stable : ∀ (Q : Nat → Prop) (w w' : World) (l : List (List UInt8 × Nat)), I w l → Turn Q w w' → (∀ b, Qc b → ¬ Q b) → I w' l)
    (lt : ∀ (w : World) (l : List (List UInt8 × Nat)), I w l → ∀ b, Qc b → b < w.heap.size)
    (hcall : ∀ (s : ByteArray) (n : Nat) (w : World) (l : List (List UInt8 × Nat)), I w l → s.size ≤ 100 → n ≤ 67108864 →
      Calls Try.prog g (#[.string s, .int .i64 n] ++ caps) w fun r w' => r = .returned (.int .i64 (kf s.data.toList n)) ∧ I w' (l ++ [(s.data.toList, n)]) ∧ Turn Qc w w')
    (s : ByteArray) (n : Nat) (w : World) (l : List (List UInt8 × Nat)) (hI : I w l) (hz : s.size ≤ 100) (hn : n ≤ 67108864) :
    Calls Try.prog 53 #[.func (.func g) #[] caps, .string s, .int .i64 n] w fun r w' => r = .returned (.int .i64 (kf s.data.toList n)) ∧ I w' (l ++ [(s.data.toList, n)]) ∧ Turn Qc w w' := by
  have hmf : ∀ (fn : Fn) (first cap : Array Value) (w : World), (Instr.makeFunc fn first cap).run Try.prog w = .ok (.func fn first cap) w := fun _ _ _ _ => rfl
  have h1 := eqlFn g caps
  have hI1 : I (w.alloc (.cells #[.int .i64 0] 3)) l := stable _ _ _ _ hI ((Turn.refl (fun _ => False) w).alloc _) (fun _ _ q => q)
  have hlt := lt _ _ hI
  have hc := hcall s n _ _ hI1 hz hn
  have HC := Lib.hid hc
  have HT := Lib.hid hlt
  have HI := Lib.hid hI1
  have HE := Lib.hid stable
  clear hc hcall hlt hn hI1 stable lt hI
  go_enter_defers Try.func53, Try.ntmps53
  go_wp2_with fail
  refine HC.out.mono ?_
  rintro r w2 ⟨rfl, hI2, ht2⟩
  have hb : w2.heap[w.heap.size]? = some (.cells #[.int .i64 0] 3 (0, 0)) := (ht2.block w.heap.size (by simp) (fun q => by have := HT.out _ q; omega)).trans (heap_alloc_new _ _)
  have k0 : w2.cell? ⟨w.heap.size, 0, none⟩ = some (.int .i64 0) := by simp [World.cell?, hb]
  have k1 : w2.frozen? ⟨w.heap.size, 0, none⟩ = false := by simp [World.frozen?, hb]
  have h3 : (w2.setCell ⟨w.heap.size, 0, none⟩ (.int .i64 (kf s.data.toList n))).cell? ⟨w.heap.size, 0, none⟩ = some (.int .i64 (kf s.data.toList n)) := by
    simp [World.cell?, heap_setCell_same hb]
  have t2 : Turn Qc w w2 := ((Turn.refl Qc w).alloc _).trans ht2 (fun _ _ q => q)
  have t3 : Turn Qc w (w2.setCell ⟨w.heap.size, 0, none⟩ (.int .i64 (kf s.data.toList n))) := t2.set _ _ (Or.inr (Nat.le_refl _)) _
  have i3 : I (w2.setCell ⟨w.heap.size, 0, none⟩ (.int .i64 (kf s.data.toList n))) (l ++ [(s.data.toList, n)]) := HE.out _ _ _ _ hI2 (turnP _ _ _ _) (fun b q e => by have := HT.out _ q; omega)
  have H3 := Lib.hid t3
  have HJ := Lib.hid i3
  clear t3 i3 t2 hI2
  go_wp2
  refine leaves_cons (f := 66) (args := #[.pointer (some ⟨w.heap.size, 0, none⟩)]) (by simp) (by simp [go_sem]) ?_
  refine (catch_idle ⟨w.heap.size, 0, none⟩ _).mono ?_
  rintro e u' w'' ⟨rfl, rfl, rfl⟩
  have g3 := H3.out
  have g4 := HJ.out
  simp [Leaves, settle, results, Try.results53, go_sem, h3]
  exact ⟨g4, g3⟩

theorem keeper_some {g : Nat} {caps : Array Value} {I : World → List (List UInt8 × Nat) → Prop} {kf : List UInt8 → Nat → Int} {Qc : Nat → Prop} (hent : ∀ args w, (callFunc g args).run Try.prog w = .ok (.enter g args) w)
    (stable : ∀ (Q : Nat → Prop) (w w' : World) (l : List (List UInt8 × Nat)), I w l → Turn Q w w' → (∀ b, Qc b → ¬ Q b) → I w' l)
    (lt : ∀ (w : World) (l : List (List UInt8 × Nat)), I w l → ∀ b, Qc b → b < w.heap.size)
    (hcall : ∀ (s : ByteArray) (n : Nat) (w : World) (l : List (List UInt8 × Nat)), I w l → s.size ≤ 100 → n ≤ 67108864 →
      Calls Try.prog g (#[.string s, .int .i64 n] ++ caps) w fun r w' => r = .returned (.int .i64 (kf s.data.toList n)) ∧ I w' (l ++ [(s.data.toList, n)]) ∧ Turn Qc w w') : Keeper (.func (.func g) #[] caps) I kf Qc where
  stable := stable
  lt := lt
  asks := fun s n w l hI hz hn => asked_some hent stable lt hcall s n w l hI hz hn

end
end Go.Proofs.Ytpaekggmphahoaa

/-
  Crash: tear, and the whole.
-/
namespace Go.Proofs.Ytpaekggmphahoaa
open Go.RowKit Go.Maps Go.WideMaps

section
variable {w w' : World} {p : Nat} {S S' : Fsp.Fs} {c c' : Bool} {Q : Nat → Prop} {mo : Option Nat} {pl : List UInt8 → Pl}

theorem tear_none (h : RepX w p S c Q mo pl) (kv : Value) (s : ByteArray) (hz : s.size ≤ maxLen) {f : Fsp.File} (hf : Fsp.find S.L s.data.toList = some f) (hs : f.synced = f.data.length) :
    Calls Try.prog 27 #[.pointer (some ⟨p, 0, none⟩), .string s, kv] w fun r w' => r = .returned (.tuple #[]) ∧ Like w w' := by
  obtain ⟨sp, cap, hsv, hlc, hcap, hfc⟩ := file_open h hf
  have f0 := hfc.c0
  have f1 := hfc.c1
  rw [hs] at f1
  have hl := len_room h hf
  have HF := Lib.hid hf
  clear hf hsv hcap hlc hs hfc
  go_enter Try.func27, Try.ntmps27
  go_wp2_with (go_at_call 24; refine (find_some h s hz HF.out).mono ?_; rintro r w' ⟨rfl, rfl⟩)
  go_quiet (fail)
  go_wp2
  go_end0
  exact ⟨rfl, like_drewN _ _⟩

/-- a file is torn: cut to what stays, all of it synced -/
theorem torn_rep {w1 w2 w3 w4 : World} {n : List UInt8} {f : Fsp.File} {k : Int} {Qc : Nat → Prop} {Sx : Fsp.Fs} (h : RepX w p S c Q mo pl) (hf : Fsp.find S.L n = some f) (hlt : f.synced < f.data.length) (t1 : Turn Qc w w1) (hd : ∀ b, Qc b → ¬ Q b)
    (hx : Sx = { S with L := Fsp.put S.L n (Fsp.torn f k) })
    {sp : Option Addr} {cap : Nat} (hsv : (pl n).sv = .slice sp f.data.length cap) (q : Nat) (hq : q = f.synced + min k.toNat (f.data.length - f.synced))
    (h2 : RepX w2 p { S with L := Fsp.put S.L n ⟨f.data.take q, min f.synced q⟩ } c (Grow Q w1 w2) mo (setPl pl n ⟨(pl n).fb, .slice sp q cap⟩)) (t2 : Turn (fun b => b = p ∨ b = (pl n).fb) w1 w2)
    (hw : w3 = w2.setCell ⟨(pl n).fb, 1, none⟩ (.int .i64 (q : Int))) (h4 : Like w3 w4) :
    (∃ pl', RepX w4 p Sx c (Grow Q w w4) mo pl') ∧ Turn (fun b => Q b ∨ Qc b) w w4 := by
  subst hw; subst hx
  have hne := h.p_ne_fb hf
  have hqp := h.inP
  have hqf := h.inF n (by rw [hf]; rfl)
  have h1 : RepX w1 p S c Q mo pl := h.turned t1 (fun b q q' => hd b q' q)
  have hf2 : Fsp.find ({ S with L := Fsp.put S.L n ⟨f.data.take q, min f.synced q⟩ } : Fsp.Fs).L n = some ⟨f.data.take q, min f.synced q⟩ := Fsp.find_put_same _ _ _
  have hfile2 := h2.file n _ hf2
  simp only [setPl_same] at hfile2
  have hhead2 := h2.head
  have t23 : Turn (fun b => b = p ∨ b = (pl n).fb) w1 (w2.setCell ⟨(pl n).fb, 1, none⟩ (.int .i64 (q : Int))) := t2.set _ _ (Or.inl (Or.inr rfl)) _
  have hql : q ≤ f.data.length := by omega
  have hu := Fsp.used_put_some h.good.1 hf ⟨f.data.take q, min f.synced q⟩
  have hlen : (f.data.take q).length = q := by simp; omega
  simp only [hlen] at hu
  have hp3 : (w2.setCell ⟨(pl n).fb, 1, none⟩ (.int .i64 (q : Int))).heap[p]? = some (.cells #[.map mo, .int .i64 (S.room : Int), .int .i64 ((Fsp.usedOf S.L : Int) - ((f.data.length : Int) - q)), .int .i64 (S.steps : Int), .int .i64 (S.armed : Int), .bool S.down, .bool c] 55 (0, 0)) := by
    rw [heap_setCell_other hne, hhead2]
    have e : (Fsp.usedOf (Fsp.put S.L n ⟨f.data.take q, min f.synced q⟩) : Int) = (Fsp.usedOf S.L : Int) - ((f.data.length : Int) - q) := by omega
    simp only [e]
  have hb3 : (w2.setCell ⟨(pl n).fb, 1, none⟩ (.int .i64 (q : Int))).heap[(pl n).fb]? = some (.cells #[.slice sp q cap, .int .i64 (q : Int)] 59 (0, 0)) := by
    have := hfile2.1
    rw [heap_setCell_same this]; rfl
  have h3 := h1.cutTo q q hf hql (Nat.le_refl _) hsv t23 hp3 hb3
  have et : Fsp.torn f k = ⟨f.data.take q, q⟩ := by
    unfold Fsp.torn; rw [if_pos hlt, hq]
  have t34 : Turn (fun b => Q b ∨ Qc b) w (w2.setCell ⟨(pl n).fb, 1, none⟩ (.int .i64 (q : Int))) :=
    (t1.mono (Q' := fun b => Q b ∨ Qc b) (fun _ x => Or.inr x)).trans t23 (fun i _ x => by rcases x with x | x; exact Or.inl (by rw [x]; exact hqp); exact Or.inl (by rw [x]; exact hqf))
  refine ⟨⟨setPl pl n ⟨(pl n).fb, .slice sp q cap⟩, ?_⟩, t34.like h4⟩
  have h4' := h3.like h4
  rw [et]
  refine h4'.mono (fun i hi => ?_) (fun i hi => ?_)
  · rcases hi with hi | hi
    · exact Or.inl hi
    · exact Or.inr ⟨Nat.le_trans t1.size hi.1, by rw [h4.heap]; exact hi.2⟩
  · rcases hi with hi | hi
    · exact h4'.lt i (Grow.old hi)
    · exact hi.2

set_option maxRecDepth 100000 in
set_option maxHeartbeats 400000 in
theorem tear_some {kv : Value} {I : World → List (List UInt8 × Nat) → Prop} {kf : List UInt8 → Nat → Int} {Qc : Nat → Prop} {l : List (List UInt8 × Nat)} (hK : Keeper kv I kf Qc) (hI : I w l) (hd : ∀ b, Qc b → ¬ Q b)
    (h : RepX w p S c Q mo pl) (s : ByteArray) (hz : s.size ≤ 100) {f : Fsp.File} (hf : Fsp.find S.L s.data.toList = some f) (hs : f.synced < f.data.length) :
    Calls Try.prog 27 #[.pointer (some ⟨p, 0, none⟩), .string s, kv] w fun r w' => r = .returned (.tuple #[]) ∧
      ((∃ pl', RepX w' p { S with L := Fsp.put S.L s.data.toList (Fsp.torn f (kf s.data.toList (f.data.length - f.synced))) } c (Grow Q w w') mo pl') ∧ Turn (fun b => Q b ∨ Qc b) w w') ∧ I w' (l ++ [(s.data.toList, f.data.length - f.synced)]) := by
  obtain ⟨sp, cap, hsv, hlc, hcap, hfc⟩ := file_open h hf
  have f0 := hfc.c0
  have f1 := hfc.c1
  have hl := len_room h hf
  have hlt := hK.lt _ _ hI
  have HF := Lib.hid hf
  have HV := Lib.hid hsv
  have HC := Lib.hid hcap
  have HL := Lib.hid hlc
  have HT := Lib.hid hlt
  have HD := Lib.hid hd
  have HI := Lib.hid hI
  have HS := Lib.hid hs
  have hs' : (f.synced : Int) < f.data.length := by omega
  clear hf hsv hcap hlc hfc hlt hd hI hs
  go_enter Try.func27, Try.ntmps27
  go_wp2_with (go_at_call 24; refine (find_some h s (by unfold maxLen; omega) HF.out).mono ?_; rintro r w' ⟨rfl, rfl⟩)
  go_quiet (fail)
  go_wp2_with fail
  rw [show ((f.data.length : Int) - (f.synced : Int)) = ((f.data.length - f.synced : Nat) : Int) from by omega]
  refine (hK.asks s (f.data.length - f.synced) (w.drewN nq) l (hK.stable _ _ _ _ HI.out (Turn.like (Turn.refl (fun _ => False) w) (like_drewN _ _)) (fun _ _ q => q)) hz (by omega)).mono ?_
  rintro r w1 ⟨rfl, hI1, ht1⟩
  have t1 : Turn Qc w w1 := ⟨ht1.os, ht1.tape, ht1.output, ht1.size, ht1.block⟩
  clear ht1
  have h1 : RepX w1 p S c Q mo pl := h.turned t1 (fun b q q' => HD.out b q' q)
  have k1 := (h1.file _ f HF.out).cells.c1
  generalize hk : kf s.data.toList (f.data.length - f.synced) = K at *
  obtain ⟨q, hq⟩ : ∃ q : Nat, q = f.synced + min K.toNat (f.data.length - f.synced) := ⟨_, rfl⟩
  have hq1 : (f.synced : Int) + min (max K 0) ((f.data.length - f.synced : Nat) : Int) = (q : Int) := by omega
  have hq2 : q ≤ f.data.length := by omega
  have HQ := Lib.hid hq
  have HQ1 := Lib.hid hq1
  have HJ := Lib.hid hI1
  have HK := Lib.hid hk
  clear hq hq1 hI1 hk
  go_wp2_with fail
  rw [HQ1.out]
  go_at_call 54
  refine (cut_rep h1 HF.out HV.out HL.out HC.out q hq2).mono ?_
  rintro r w2 ⟨rfl, h2, t2⟩
  have hfile2 := h2.file s.data.toList _ (Fsp.find_put_same _ _ _)
  simp only [setPl_same] at hfile2
  have m0 := hfile2.cells.c0
  have m1 := hfile2.cells.fr 1
  have m2 := hfile2.cells.c1
  have HM := Lib.hid hfile2
  clear hfile2
  go_wp2
  go_end0
  have hfin := torn_rep (k := K) (w4 := w2.setCell ⟨(pl s.data.toList).fb, 1, none⟩ (.int .i64 (q : Int))) h HF.out HS.out t1 HD.out rfl HV.out q HQ.out h2 t2 rfl ⟨rfl, rfl, rfl, rfl⟩
  rw [← HK.out] at hfin
  refine ⟨rfl, hfin, hK.stable _ _ _ _ HJ.out (t2.set _ _ (Or.inl (Or.inr rfl)) _) (fun b hb e => ?_)⟩
  rcases e with e | e
  · exact HD.out b hb (by rw [e]; exact h.inP)
  · exact HD.out b hb (by rw [e]; exact h.inF _ (by rw [HF.out]; rfl))

/-- what one file's crash asks -/
def askOf (x : List UInt8 × Fsp.File) : List (List UInt8 × Nat) := if x.2.synced < x.2.data.length then [(x.1, x.2.data.length - x.2.synced)] else []

theorem tear_any {kv : Value} {I : World → List (List UInt8 × Nat) → Prop} {kf : List UInt8 → Nat → Int} {Qc : Nat → Prop} {l : List (List UInt8 × Nat)} (hK : Keeper kv I kf Qc) (hI : I w l) (hd : ∀ b, Qc b → ¬ Q b)
    (h : RepX w p S c Q mo pl) (s : ByteArray) (hz : s.size ≤ 100) {f : Fsp.File} (hf : Fsp.find S.L s.data.toList = some f) :
    Calls Try.prog 27 #[.pointer (some ⟨p, 0, none⟩), .string s, kv] w fun r w' => r = .returned (.tuple #[]) ∧
      ((∃ pl', RepX w' p { S with L := Fsp.put S.L s.data.toList (Fsp.torn f (kf s.data.toList (f.data.length - f.synced))) } c (Grow Q w w') mo pl') ∧ Turn (fun b => Q b ∨ Qc b) w w') ∧ I w' (l ++ askOf (s.data.toList, f)) := by
  by_cases hs : f.synced < f.data.length
  · have e : askOf (s.data.toList, f) = [(s.data.toList, f.data.length - f.synced)] := by simp [askOf, hs]
    rw [e]
    exact tear_some hK hI hd h s hz hf hs
  · have hs2 : f.synced = f.data.length := by have := (h.good.2.2.2.2.2 _ f hf).2; omega
    have e : askOf (s.data.toList, f) = [] := by simp [askOf, hs]
    have et : Fsp.torn f (kf s.data.toList (f.data.length - f.synced)) = f := by unfold Fsp.torn; rw [if_neg hs]
    rw [e, et, Fsp.put_same h.good.1 hf, List.append_nil]
    refine (tear_none h kv s (by unfold maxLen; omega) hf hs2).mono ?_
    rintro r w' ⟨rfl, hl⟩
    exact ⟨rfl, ⟨⟨pl, (h.like hl).grow w⟩, Turn.like (Turn.refl _ w) hl⟩, hK.stable _ _ _ _ hI (Turn.like (Turn.refl (fun _ => False) w) hl) (fun _ _ q => q)⟩

end
end Go.Proofs.Ytpaekggmphahoaa

/-
  Crash.
-/
namespace Go.Proofs.Ytpaekggmphahoaa
open Go.RowKit Go.Maps Go.WideMaps Go.Sort

section
variable {w w' : World} {p : Nat} {S S' : Fsp.Fs} {c c' : Bool} {Q : Nat → Prop} {mo : Option Nat} {pl : List UInt8 → Pl}

def asksOf (L : List (List UInt8 × Fsp.File)) : List (List UInt8 × Nat) := L.flatMap askOf

theorem good_with (h : Fsp.Good S) (hL : S'.L = S.L) (hr : S'.room = S.room) (ha : S'.armed ≤ 9223372036854775807) : Fsp.Good S' := by
  obtain ⟨h1, h2, h3, h4, _, h6⟩ := h
  exact ⟨by rw [hL]; exact h1, by rw [hL, hr]; exact h2, by rw [hr]; exact h3, by rw [hL]; exact h4, ha, by rw [hL]; exact h6⟩

/-- the loop's relation: k files torn -/
structure Crashing (w2 : World) (p : Nat) (S : Fsp.Fs) (Q : Nat → Prop) (mo : Option Nat) (I : World → List (List UInt8 × Nat) → Prop) (kf : List UInt8 → Nat → Int) (Qc : Nat → Prop) (l : List (List UInt8 × Nat)) (k : Nat) (wr : World) : Prop where
  rep : ∃ pl, RepX wr p { S with L := Fsp.crashTo S.L kf k } true (Grow Q w2 wr) mo pl
  asked : I wr (l ++ asksOf (S.L.take k))
  turn : Turn (fun b => Q b ∨ Qc b) w2 wr

theorem Crashing.step {w2 wr w3 : World} {I : World → List (List UInt8 × Nat) → Prop} {kf : List UInt8 → Nat → Int} {Qc : Nat → Prop} {l : List (List UInt8 × Nat)} {k : Nat} {x : List UInt8 × Fsp.File} (hs : Fsp.Sorted S.L) (hx : S.L[k]? = some x) (ht : Turn (fun b => Q b ∨ Qc b) w2 wr)
    (h1 : ∃ pl', RepX w3 p { S with L := Fsp.put (Fsp.crashTo S.L kf k) x.1 (Fsp.torn x.2 (kf x.1 (x.2.data.length - x.2.synced))) } true (Grow (Grow Q w2 wr) wr w3) mo pl') (h2 : Turn (fun b => Grow Q w2 wr b ∨ Qc b) wr w3)
    (h3 : I w3 (l ++ asksOf (S.L.take k) ++ askOf x)) : Crashing w2 p S Q mo I kf Qc l (k + 1) w3 := by
  obtain ⟨pl', h1⟩ := h1
  rw [Fsp.crashTo_put hs kf hx] at h1
  refine ⟨⟨pl', h1.mono (fun i hi => Grow.trans ht.size h2.size i hi) (fun i hi => ?_)⟩, ?_, ?_⟩
  · rcases hi with hi | hi
    · exact h1.lt i (Or.inl (Or.inl hi))
    · exact hi.2
  · obtain ⟨hk, hx'⟩ := List.getElem?_eq_some_iff.1 hx
    have e : asksOf (S.L.take (k + 1)) = asksOf (S.L.take k) ++ askOf x := by
      unfold asksOf
      rw [List.take_succ_eq_append_getElem hk, hx']; simp
    rw [e, ← List.append_assoc]; exact h3
  · refine ht.trans h2 (fun i hi hq => ?_)
    rcases hq with (hq | hq) | hq
    · exact Or.inl hq
    · omega
    · exact Or.inr hq

theorem row_cells {base n : Nat} {v : Value} {xs : List (List UInt8)} (h : w.ownsRow base 9 1 v n (xs.map encStr)) : ∃ sp cap, v = .slice sp n cap ∧
    ∀ j x, xs[j]? = some x → ∃ g, sp = some ⟨g, 0, none⟩ ∧ w.cell? ⟨g, j, none⟩ = some (encStr x) ∧ base ≤ g ∧ g < w.heap.size := by
  have hl := h.1
  simp only [List.length_map, Nat.mul_one] at hl
  rcases h.2 with ⟨rfl, rfl⟩ | ⟨g, cap, cur, rfl, hb, hh, _⟩
  · refine ⟨none, 0, rfl, fun j x hj => ?_⟩
    have := (List.getElem?_eq_some_iff.1 hj).1
    omega
  · refine ⟨_, cap, rfl, fun j x hj => ⟨g, rfl, ?_, hb, (Array.getElem?_eq_some_iff.1 hh).1⟩⟩
    have hj1 := (List.getElem?_eq_some_iff.1 hj).1
    rw [h.cellAt j (by omega), List.getElem?_map, hj]; rfl

theorem crash_round {w2 wr : World} {kv : Value} {I : World → List (List UInt8 × Nat) → Prop} {kf : List UInt8 → Nat → Int} {Qc : Nat → Prop} {l : List (List UInt8 × Nat)} {k : Nat} {x : List UInt8 × Fsp.File} (hK : Keeper kv I kf Qc) (hd : ∀ b, Qc b → ¬ Q b ∧ b < w2.heap.size)
    (hcr : Crashing w2 p S Q mo I kf Qc l k wr) (hs : Fsp.Sorted S.L) (hx : S.L[k]? = some x) (hlen : x.1.length ≤ 100) :
    Calls Try.prog 27 #[.pointer (some ⟨p, 0, none⟩), encStr x.1, kv] wr fun r w3 => r = .returned (.tuple #[]) ∧ Crashing w2 p S Q mo I kf Qc l (k + 1) w3 := by
  obtain ⟨pl, hr⟩ := hcr.rep
  have es : (⟨x.1.toArray⟩ : ByteArray).data.toList = x.1 := by simp
  have hf : Fsp.find (Fsp.crashTo S.L kf k) (⟨x.1.toArray⟩ : ByteArray).data.toList = some x.2 := by rw [es]; exact Fsp.crashTo_find hs kf hx
  have hz : (⟨x.1.toArray⟩ : ByteArray).size ≤ 100 := by simp [ByteArray.size]; omega
  have hd' : ∀ b, Qc b → ¬ Grow Q w2 wr b := fun b q q' => by
    rcases q' with q' | q'
    · exact (hd b q).1 q'
    · have := (hd b q).2; omega
  refine (tear_any hK hcr.asked hd' hr ⟨x.1.toArray⟩ hz hf).mono ?_
  rintro r w3 ⟨rfl, ⟨h1, h2⟩, h3⟩
  simp only at h1 h3
  exact ⟨rfl, Crashing.step hs hx hcr.turn h1 h2 h3⟩

theorem crash_end {w1 w2 wr : World} {kv : Value} {I : World → List (List UInt8 × Nat) → Prop} {kf : List UInt8 → Nat → Int} {Qc : Nat → Prop} {l : List (List UInt8 × Nat)} (hK : Keeper kv I kf Qc) (t1 : Turn (fun b => b = p) w w1) (t2 : Turn (fun _ => False) w1 w2) (hd : ∀ b, Qc b → ¬ Q b ∧ b < w.heap.size)
    (h : RepX w p S false Q mo pl) (hcr : Crashing w2 p { S with down := true } Q mo I kf Qc l S.L.length wr) :
    Rep (((wr.setCell ⟨p, 6, none⟩ (.bool false)).setCell ⟨p, 5, none⟩ (.bool false)).setCell ⟨p, 4, none⟩ (.int .i64 0)) p (Fsp.crash S kf) (Grow Q w (((wr.setCell ⟨p, 6, none⟩ (.bool false)).setCell ⟨p, 5, none⟩ (.bool false)).setCell ⟨p, 4, none⟩ (.int .i64 0))) ∧
    I (((wr.setCell ⟨p, 6, none⟩ (.bool false)).setCell ⟨p, 5, none⟩ (.bool false)).setCell ⟨p, 4, none⟩ (.int .i64 0)) (l ++ asksOf S.L) ∧
    Turn (fun b => Q b ∨ Qc b) w (((wr.setCell ⟨p, 6, none⟩ (.bool false)).setCell ⟨p, 5, none⟩ (.bool false)).setCell ⟨p, 4, none⟩ (.int .i64 0)) := by
  obtain ⟨pl3, h3⟩ := hcr.rep
  have t3 : Turn (fun b => b = p) wr (((wr.setCell ⟨p, 6, none⟩ (.bool false)).setCell ⟨p, 5, none⟩ (.bool false)).setCell ⟨p, 4, none⟩ (.int .i64 0)) := ((turnP wr p 6 _).set p 5 (Or.inl rfl) _).set p 4 (Or.inl rfl) _
  have eL : Fsp.crashTo S.L kf S.L.length = S.L.map (Fsp.tornAt kf) := Fsp.crashTo_end _ _
  have t12 : Turn (fun b => Q b ∨ Qc b) w w2 := (t1.mono (fun i e => Or.inl (by rw [e]; exact h.inP))).trans t2 (fun _ _ q => q.elim)
  have t13 : Turn (fun b => Q b ∨ Qc b) w wr := t12.trans hcr.turn (fun _ _ q => q)
  have h4 : RepX (((wr.setCell ⟨p, 6, none⟩ (.bool false)).setCell ⟨p, 5, none⟩ (.bool false)).setCell ⟨p, 4, none⟩ (.int .i64 0)) p (Fsp.crash S kf) false (Grow Q w2 wr) mo pl3 :=
    h3.setHead t3 (by
      rw [heap_setCell_same (heap_setCell_same (heap_setCell_same h3.head _) _)]
      simp only [headOf, eL]; rfl) (by simp only [eL]; rfl) (good_with h3.good (by simp only [eL]; rfl) rfl (by simp [Fsp.crash]))
  refine ⟨⟨mo, pl3, h4.mono (fun i hi => ?_) (fun i hi => ?_)⟩, ?_, t13.trans t3 (fun i _ e => Or.inl (by rw [e]; exact h.inP))⟩
  · rcases hi with hi | hi
    · exact Or.inl hi
    · exact Or.inr ⟨Nat.le_trans t12.size hi.1, Nat.lt_of_lt_of_le hi.2 t3.size⟩
  · rcases hi with hi | hi
    · exact Nat.lt_of_lt_of_le (h.lt i hi) (Nat.le_trans t13.size t3.size)
    · exact hi.2
  · have := hK.stable _ _ _ _ hcr.asked t3 (fun b q e => (hd b q).1 (by rw [e]; exact h.inP))
    simpa using this

set_option maxRecDepth 100000 in
set_option maxHeartbeats 1000000 in
theorem crash_any {kv : Value} {I : World → List (List UInt8 × Nat) → Prop} {kf : List UInt8 → Nat → Int} {Qc : Nat → Prop} {l : List (List UInt8 × Nat)} (hK : Keeper kv I kf Qc) (hI : I w l) (hd : ∀ b, Qc b → ¬ Q b) (h : RepX w p S false Q mo pl) :
    Calls Try.prog 10 #[.pointer (some ⟨p, 0, none⟩), kv] w fun r w' => r = .returned (.tuple #[]) ∧ Rep w' p (Fsp.crash S kf) (Grow Q w w') ∧ I w' (l ++ asksOf S.L) ∧ Turn (fun b => Q b ∨ Qc b) w w' := by
  have c5 := h.cells.c5
  have c6 := h.cells.c6
  have g5 := h.cells.fr 5
  have g6 := h.cells.fr 6
  have hlt := hK.lt _ _ hI
  have HT := Lib.hid hlt
  have HD := Lib.hid hd
  have HI := Lib.hid hI
  clear hlt hd hI
  have t1 : Turn (fun b => b = p) w ((w.setCell ⟨p, 6, none⟩ (.bool true)).setCell ⟨p, 5, none⟩ (.bool true)) := (turnP w p 6 _).set p 5 (Or.inl rfl) _
  have h1 : RepX ((w.setCell ⟨p, 6, none⟩ (.bool true)).setCell ⟨p, 5, none⟩ (.bool true)) p { S with down := true } true Q mo pl :=
    h.setHead t1 (by rw [heap_setCell_same (heap_setCell_same h.head _)]; rfl) rfl (good_with h.good rfl rfl h.good.2.2.2.2.1)
  have H1 := Lib.hid h1
  have T1 := Lib.hid t1
  clear h1 t1
  go_enter Try.func10, Try.ntmps10
  go_wp2_with fail
  generalize (w.setCell ⟨p, 6, none⟩ (.bool true)).setCell ⟨p, 5, none⟩ (.bool true) = w1 at H1 T1 ⊢
  clear c5 c6 g5 g6
  go_at_call 15
  refine (names_any H1.out ⟨#[]⟩).mono ?_
  rintro r w2 ⟨v, rfl, hrow, ht2⟩
  have en : Fsp.names { S with down := true } (⟨#[]⟩ : ByteArray).data.toList = S.L.map (·.1) := Fsp.names_all _
  rw [en] at hrow
  simp only [List.length_map] at hrow
  obtain ⟨sp, cap, hv, hcell⟩ := row_cells hrow
  subst hv
  have h2 : RepX w2 p { S with down := true } true Q mo pl := H1.out.turned ht2 (fun _ _ q => q)
  have hI2 : I w2 l := hK.stable _ _ _ _ (hK.stable _ _ _ _ HI.out T1.out (fun b q e => HD.out b q (by rw [e]; exact h.inP))) ht2 (fun _ _ q => q)
  have hstart : Crashing w2 p { S with down := true } Q mo I kf Qc l 0 w2 :=
    ⟨⟨pl, by rw [Fsp.crashTo_zero]; exact h2.grow w2⟩, by simpa [asksOf] using hI2, Turn.refl _ _⟩
  have hsz1 := T1.out.size
  have hsz2 := ht2.size
  have hout : ∀ a, sp = some a → ¬ (Q a.block ∨ Qc a.block) ∧ a.block < w2.heap.size ∧ w1.heap.size ≤ a.block := fun a e => by
    have hb := hrow.lt a.block (by rw [e]; rfl)
    refine ⟨?_, hb.2, hb.1⟩
    rintro (q | q)
    · have := h.lt _ q; omega
    · have := HT.out _ q; omega
  have hlen : S.L.length ≤ 400 := h.good.2.2.2.1
  have hvalid : ∀ (k : Nat) (x : List UInt8 × Fsp.File), S.L[k]? = some x → x.1.length ≤ 100 := fun k x hx => by
    have hm : Fsp.find S.L x.1 = some x.2 := Fsp.mem_find h.good.1 (List.mem_of_getElem? hx)
    exact Fsp.valid_len (h.good.2.2.2.2.2 _ _ hm).1
  have HS := Lib.hid hstart
  have HO := Lib.hid hout
  have HC := Lib.hid hcell
  have HR := Lib.hid hrow
  have HV := Lib.hid hvalid
  clear hstart hout hcell hrow hvalid hI2 en hsz1 hsz2
  go_wp2_with fail
  go_loopw [23] (fun i wr => ∃ k : Nat, k ≤ S.L.length ∧ i = .int .i64 k ∧ Crashing w2 p { S with down := true } Q mo I kf Qc l k wr) (fun i _ => S.L.length - (intOf i).toNat)
  case atStart => exact ⟨0, Nat.zero_le _, rfl, HS.out⟩
  case round =>
    obtain ⟨k, hk, rfl, hcr⟩ := hrel
    have HX := Lib.hid hcr
    clear hcr
    by_cases hkl : k < S.L.length
    · obtain ⟨x, hx⟩ : ∃ x, S.L[k]? = some x := ⟨_, List.getElem?_eq_getElem hkl⟩
      obtain ⟨a, hsp, hc0, ho1, ho2⟩ := HC.out k x.1 (by rw [List.getElem?_map, hx]; rfl)
      subst hsp
      have hc1 : wr.cell? ⟨a, k, none⟩ = some (encStr x.1) := (World.cell?_of_block (HX.out.turn.block a (HO.out _ rfl).2.1 (HO.out _ rfl).1)).trans hc0
      have hXX := Lib.hid hx
      clear hx hc0 ho1 ho2
      go_wp2_with fail
      go_at_call 27
      refine (crash_round hK (fun b q => ⟨HD.out b q, by have := HT.out b q; have := T1.out.size; have := ht2.size; omega⟩) HX.out h.good.1 hXX.out (HV.out k x hXX.out)).mono ?_
      rintro r w3 ⟨rfl, hcr3⟩
      go_wp2_with fail
      go_roundw
      case rel => exact ⟨k + 1, by omega, by go_num, hcr3⟩
      case measure => simp [intOf]; omega
    · have hkn : k = S.L.length := by omega
      subst hkn
      obtain ⟨pl3, h3⟩ := HX.out.rep
      have c4 := h3.cells.c4
      have c5 := h3.cells.c5
      have c6 := h3.cells.c6
      have g4 := h3.cells.fr 4
      have g5 := h3.cells.fr 5
      have g6 := h3.cells.fr 6
      go_wp2_with fail
      go_end0
      exact ⟨rfl, crash_end hK T1.out ht2 (fun b q => ⟨HD.out b q, HT.out b q⟩) h HX.out⟩

end
end Go.Proofs.Ytpaekggmphahoaa
