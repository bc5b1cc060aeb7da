/-
  THE LAW FsPlays: a crash of both; Does of it.
-/
import Derived.Test.YtpaekggmphahoaaEDo7K
namespace Go.Proofs.Ytpaekggmphahoaa
open Go.RowKit Go.Maps Go.WideMaps
set_option linter.unusedVariables false
set_option linter.unusedSimpArgs false
section
variable {w w1 w2 w3 w' : World} {p q base : Nat} {S S' : Fsp.Fs} {Q R Qc : Nat → Prop} {v : Value} {lr : List RF} {n : Int} {bw bn bg bl : Nat} {l : List (List UInt8 × Nat)}

theorem enter_crash (args : Array Value) (w : World) : (callFunc 60 args).run Try.prog w = .ok (.enter 60 args) w := by kernel_rfl

theorem keeper_crash (hB : Boxes R bw bn bg bl) (hn : -9223372036854775808 ≤ n ∧ n ≤ 9223372036854775807) (hl : lr.length ≤ 1000000) (hgd : Fsp.Good S) :
    Keeper (.func (.func 60) #[] #[.pointer (some ⟨bw, 0, none⟩), .pointer (some ⟨bl, 0, none⟩), .pointer (some ⟨bg, 0, none⟩), .pointer (some ⟨bn, 0, none⟩)]) (fun W l => Asking q S R v lr n bw bn bg bl W l) (keepN n) (QcOf R bw bn bg bl) :=
  keeper_some enter_crash (fun Q w w' l hI t hd => hI.turned t hd) (fun w l hI => hI.lt)
    (fun s m w l hI hs hm => (crashKeep_any hI hB hn hl hgd s m hs hm).mono fun r w' ⟨h1, h2, h3⟩ => ⟨by rw [h1]; unfold keepN; simp, h2, h3⟩)

/-- the program's crash, then the document's -/
theorem Both.crash (h2 : RefX w q S R v lr) (h3 : ∀ b, Q b → ¬ R b) (h4 : ∀ b, Q b → base ≤ b) (h5 : ∀ b, R b → base ≤ b) (hb : base ≤ w.heap.size) (hQc : ∀ b, Qc b → base ≤ b)
    (k1 : Rep w1 p S' (Grow Q w w1)) (t1 : Turn (fun b => Q b ∨ Qc b) w w1) (k2 : RPost w1 q S' R w2) : BPost w p q S' base w2 := by
  obtain ⟨mo', pl', r1⟩ := k1
  obtain ⟨⟨v', l', r2⟩, t2⟩ := k2
  have s1 := t1.size
  have s2 := t2.size
  have hd : ∀ b, Grow Q w w1 b → ¬ R b := fun b g r => by
    rcases g with g | g
    · exact h3 b g r
    · have := h2.lt b r; omega
  refine ⟨⟨Grow Q w w1, Grow R w1 w2, mo', pl', v', l', r1.turned t2 hd, r2, fun b g k => ?_, fun b g => ?_, fun b g => ?_⟩, ?_⟩
  · rcases k with k | k
    · exact hd b g k
    · have := r1.lt b g; omega
  · rcases g with g | g
    · exact h4 b g
    · omega
  · rcases g with g | g
    · exact h5 b g
    · omega
  · exact (t1.mono fun b g => by rcases g with g | g; exact h4 b g; exact hQc b g).trans (t2.mono h5) (fun _ _ e => e)

theorem boxes4 (w : World) (a b c d : Obj) : Turn (fun _ => False) w ((((w.alloc a).alloc b).alloc c).alloc d) ∧ ((((w.alloc a).alloc b).alloc c).alloc d).heap.size = w.heap.size + 4 ∧
    ((((w.alloc a).alloc b).alloc c).alloc d).heap[w.heap.size]? = some a ∧ ((((w.alloc a).alloc b).alloc c).alloc d).heap[w.heap.size + 1]? = some b ∧
    ((((w.alloc a).alloc b).alloc c).alloc d).heap[w.heap.size + 1 + 1]? = some c ∧ ((((w.alloc a).alloc b).alloc c).alloc d).heap[w.heap.size + 1 + 1 + 1]? = some d := by
  refine ⟨(((turnBox w a).alloc b).alloc c).alloc d, by simp, ?_, ?_, ?_, ?_⟩
  · exact (Below.heap_alloc _ _ _ (by simp only [World.size_alloc]; omega)).trans ((Below.heap_alloc _ _ _ (by simp only [World.size_alloc]; omega)).trans ((Below.heap_alloc _ _ _ (by simp only [World.size_alloc]; omega)).trans (heap_alloc_new _ _)))
  · have e := heap_alloc_new (w.alloc a) b
    simp only [World.size_alloc] at e
    exact (Below.heap_alloc _ _ _ (by simp only [World.size_alloc]; omega)).trans ((Below.heap_alloc _ _ _ (by simp only [World.size_alloc]; omega)).trans e)
  · have e := heap_alloc_new ((w.alloc a).alloc b) c
    simp only [World.size_alloc] at e
    exact (Below.heap_alloc _ _ _ (by simp only [World.size_alloc]; omega)).trans e
  · have e := heap_alloc_new (((w.alloc a).alloc b).alloc c) d
    simp only [World.size_alloc] at e
    exact e

set_option maxRecDepth 100000 in
set_option maxHeartbeats 1000000 in
theorem lawCrash_any (h : Both w p q S base) (hb : base ≤ w.heap.size) (hn : -9223372036854775808 ≤ n ∧ n ≤ 9223372036854775807) :
    Calls Try.prog 40 #[.pointer (some ⟨p, 0, none⟩), .pointer (some ⟨q, 0, none⟩), .int .i64 n] w fun r w' => r = .returned (.bool true) ∧ BPost w p q (Fsp.crash S (keepN n)) base w' := by
  obtain ⟨Q, R, mo, pl, v, lr, g1, g2, h3, h4, h5⟩ := h
  have hgd := g1.good
  have hl := Good.len hgd g2
  have hmf : ∀ (fn : Fn) (first cap : Array Value) (w : World), (Instr.makeFunc fn first cap).run Try.prog w = .ok (.func fn first cap) w := fun _ _ _ _ => rfl
  obtain ⟨t0, s0, k0, k1, k2, k3⟩ := boxes4 w (.cells #[.pointer (some ⟨q, 0, none⟩)] 27) (.cells #[.int .i64 n] 3) (.cells #[.bool true] 4) (.cells #[.string ⟨#[]⟩] 9)
  have lt1 := g1.lt
  have lt2 := g2.lt
  have hBX : Boxes R w.heap.size (w.heap.size + 1) (w.heap.size + 1 + 1) (w.heap.size + 1 + 1 + 1) := by
    refine ⟨by omega, by omega, by omega, by omega, by omega, fun k => ?_, fun k => ?_, fun k => ?_, fun k => ?_⟩ <;> (have := lt2 _ k; omega)
  have hAS : Asking q S R v lr n w.heap.size (w.heap.size + 1) (w.heap.size + 1 + 1) (w.heap.size + 1 + 1 + 1) _ [] := ⟨k0, k1, k2, k3, g2.same t0⟩
  have hQ : ∀ b, QcOf R w.heap.size (w.heap.size + 1) (w.heap.size + 1 + 1) (w.heap.size + 1 + 1 + 1) b → ¬ Q b := fun b hb k => by
    have := lt1 b k
    rcases hb with rfl | rfl | rfl | rfl | hb
    · omega
    · omega
    · omega
    · omega
    · exact h3 b k hb
  have hQb : ∀ b, QcOf R w.heap.size (w.heap.size + 1) (w.heap.size + 1 + 1) (w.heap.size + 1 + 1 + 1) b → base ≤ b := fun b hb => by
    rcases hb with rfl | rfl | rfl | rfl | hb
    · omega
    · omega
    · omega
    · omega
    · exact h5 b hb
  have hall : (noted S.L [] true (asksOf S.L)).2 = true := noted_all hgd.1 (fun y hy => Fsp.mem_find hgd.1 hy) (fun y hy => by
    have hv := (hgd.2.2.2.2.2 _ _ (Fsp.mem_find hgd.1 hy)).1
    cases hc : y.1 with
    | nil => rw [hc] at hv; cases hv
    | cons a r => exact List.nil_lt_cons a r)
  obtain ⟨wb, hwb⟩ : ∃ wb, wb = ((((w.alloc (.cells #[.pointer (some ⟨q, 0, none⟩)] 27)).alloc (.cells #[.int .i64 n] 3)).alloc (.cells #[.bool true] 4)).alloc (.cells #[.string ⟨#[]⟩] 9)) := ⟨_, rfl⟩
  rw [← hwb] at t0 s0 hAS
  have x2 := g2.same t0
  have CR := Lib.hid (crash_any (keeper_crash hBX hn (by omega) hgd) hAS hQ (g1.turned t0 (fun _ _ e => e)))
  have RC := Lib.hid (fun (W : World) (hW : Asking q S R v lr n w.heap.size (w.heap.size + 1) (w.heap.size + 1 + 1) (w.heap.size + 1 + 1 + 1) W ([] ++ asksOf S.L)) => rCrash_any hW.ref hgd n hn)
  have FIN := Lib.hid (fun (w1 w2 : World) (a1 : Rep w1 p (Fsp.crash S (keepN n)) (Grow Q wb w1)) (a2 : Turn (fun b => Q b ∨ QcOf R w.heap.size (w.heap.size + 1) (w.heap.size + 1 + 1) (w.heap.size + 1 + 1 + 1) b) wb w1) (a3 : RPost w1 q (Fsp.crash S (keepN n)) R w2) => (Both.crash x2 h3 h4 h5 (by omega) hQb a1 a2 a3).pre t0)
  have HALL := Lib.hid hall
  have HBX := Lib.hid hBX
  have HWB := Lib.hid hwb
  clear g1 g2 h3 h4 h5 hgd hl hn t0 s0 k0 k1 k2 k3 lt1 lt2 hBX hAS hQ hQb hall x2 hb
  go_enter Try.func40, Try.ntmps40
  go_wp2_with fail
  rw [← hwb]
  clear hwb
  go_at_call 10
  refine CR.out.mono ?_
  rintro r w1 ⟨rfl, hr1, ha1, ht1⟩
  have d1 : w1.cell? ⟨w.heap.size, 0, none⟩ = some (.pointer (some ⟨q, 0, none⟩)) := by simp [World.cell?, ha1.kw]
  have d2 : w1.cell? ⟨w.heap.size + 1, 0, none⟩ = some (.int .i64 n) := by simp [World.cell?, ha1.kn]
  have R1 := Lib.hid hr1
  have T1 := Lib.hid ht1
  have A1 := Lib.hid ha1
  clear hr1 ht1 ha1
  go_wp2_with fail
  go_at_call 62
  refine (RC.out _ A1.out).mono ?_
  rintro r w2 ⟨rfl, hr2⟩
  have hg := (hr2.2.block (w.heap.size + 1 + 1) (Array.getElem?_eq_some_iff.1 A1.out.kg).1 HBX.out.2.2.2.2.2.2.2.1).trans A1.out.kg
  rw [List.nil_append, HALL.out] at hg
  have d3 : w2.cell? ⟨w.heap.size + 1 + 1, 0, none⟩ = some (.bool true) := by simp [World.cell?, hg]
  have HF := Lib.hid (FIN.out _ _ R1.out T1.out hr2)
  clear hr2 hg
  go_wp2_with fail
  go_ret
  exact ⟨rfl, HF.out⟩

set_option maxRecDepth 100000 in
set_option maxHeartbeats 1000000 in
theorem does_7 (h : Both w p q S base) (hb : base ≤ w.heap.size) (o : OpD) (ho : OpOk w o) (hk : o.kind = 7) :
    Calls Try.prog 11 #[.pointer (some ⟨p, 0, none⟩), .pointer (some ⟨q, 0, none⟩), opVal o] w fun r w' => r = .returned (.bool true) ∧ BPost w p q (Fsp.crash S (keepN o.n)) base w' := by
  have ht := turnBox w (boxOf o)
  have HT := Lib.hid ht
  have b1 : (w.alloc (boxOf o)).cell? ⟨w.heap.size, 1, none⟩ = some (.int .i64 o.n) := cell_new w _ _ 1
  have LC := Lib.hid (lawCrash_any (h.same ht) (Nat.le_trans hb ht.size) ho.n)
  unfold boxOf at b1 LC
  unfold opVal
  rw [hk] at b1 LC ⊢
  have HK := Lib.hid hk
  clear h hb ho hk ht
  go_enter Try.func11, Try.ntmps11
  go_wp2_with (go_at_call 40; refine LC.out.mono ?_; rintro r w1 ⟨rfl, hp⟩; have HP := Lib.hid hp; clear hp)
  go_ret
  have HT' := HT.out
  unfold boxOf at HT'
  rw [HK.out] at HT'
  exact ⟨rfl, HP.out.pre HT'⟩
end
end Go.Proofs.Ytpaekggmphahoaa
