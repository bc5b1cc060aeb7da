/-
  OF THE LAWS: first.
-/
import Derived.Test.YtnlcaonempngbaaLaw2
import Derived.Lib.SlBytesConst
namespace Go.Proofs.Ytnlcaonempngbaa
open Go.RowKit Go.Maps Go.WideMaps

namespace Ex
def s0 : Fsp.Fs := ⟨10, 0, 0, false, []⟩
def s1 : Fsp.Fs := ⟨10, 1, 0, false, [([97], ⟨[], 0⟩)]⟩
def s2 : Fsp.Fs := ⟨10, 2, 0, false, [([97], ⟨[97, 98, 99], 0⟩)]⟩
def s3 : Fsp.Fs := ⟨10, 3, 0, false, [([97], ⟨[97, 98, 99], 3⟩)]⟩
def s4 : Fsp.Fs := ⟨10, 4, 0, false, [([97], ⟨[97, 98, 99, 100, 101], 3⟩)]⟩
def s5 : Fsp.Fs := ⟨10, 4, 0, false, [([97], ⟨[97, 98, 99, 100], 4⟩)]⟩
theorem e0 : Fsp.new 10 = s0 := rfl
theorem e1 : Fsp.append s0 [97] [] = (s0, 2) := rfl
theorem e2 : Fsp.create s0 [97] = (s1, 0) := rfl
theorem e3 : Fsp.append s1 [97] [49, 50, 51, 52, 53, 54, 55, 56, 57, 48, 49] = (s1, 4) := rfl
theorem e4 : Fsp.append s1 [97] [97, 98, 99] = (s2, 0) := rfl
theorem e5 : Fsp.sync s2 [97] = (s3, 0) := rfl
theorem e6 : Fsp.append s3 [97] [100, 101] = (s4, 0) := rfl
theorem e7 : Fsp.crash s4 (fun _ _ => 1) = s5 := rfl
theorem e8 : Fsp.find s5.L [97] = some ⟨[97, 98, 99, 100], 4⟩ := rfl
end Ex

section
variable {w w' : World} {p : Nat} {S S' : Fsp.Fs} {c c' : Bool} {Q : Nat → Prop} {mo : Option Nat} {pl : List UInt8 → Pl}

abbrev nameA : ByteArray := ⟨#[97]⟩

theorem Since.append (h : Since w p S w') (hs : StepsOk S) (s : ByteArray) (hz : s.size ≤ maxLen) {n : Nat} {w1 : World} (ht : Turn (fun _ => False) w' w1) (v : Value) (b : List UInt8) (hb : SliceB w1 v b) (hbl : b.length ≤ maxLen)
    (hout : ∀ ad k cap, v = .slice (some ad) k cap → w'.heap.size ≤ ad.block) (he : Fsp.append S s.data.toList b = (S', n)) :
    Calls Try.prog 17 #[.pointer (some ⟨p, 0, none⟩), .string s, v] w1 fun r w2 => r = .returned (.int .i64 (n : Int)) ∧ Since w p S' w2 := by
  have h0 := h
  obtain ⟨⟨mo, pl, hr⟩, ht0⟩ := h
  refine (append_any (hr.turned ht (fun _ _ q => q)) hs s hz v b hb hbl (fun ad k cap e _ q => by have := hout ad k cap e; omega)).mono ?_
  rintro r w2 ⟨rfl, hp⟩
  rw [he] at hp ⊢
  exact ⟨rfl, Since.post h0 (hp.pre ht)⟩

theorem Since.create (h : Since w p S w') (hs : StepsOk S) (s : ByteArray) (hz : s.size ≤ maxLen) {n : Nat} (he : Fsp.create S s.data.toList = (S', n)) :
    Calls Try.prog 16 #[.pointer (some ⟨p, 0, none⟩), .string s] w' fun r w2 => r = .returned (.int .i64 (n : Int)) ∧ Since w p S' w2 := by
  have h0 := h
  obtain ⟨⟨mo, pl, hr⟩, ht0⟩ := h
  refine (create_any hr hs s hz).mono ?_
  rintro r w2 ⟨rfl, hp⟩
  rw [he] at hp ⊢
  exact ⟨rfl, Since.post h0 hp⟩

theorem Since.sync (h : Since w p S w') (hs : StepsOk S) (s : ByteArray) (hz : s.size ≤ maxLen) {n : Nat} (he : Fsp.sync S s.data.toList = (S', n)) :
    Calls Try.prog 18 #[.pointer (some ⟨p, 0, none⟩), .string s] w' fun r w2 => r = .returned (.int .i64 (n : Int)) ∧ Since w p S' w2 := by
  have h0 := h
  obtain ⟨⟨mo, pl, hr⟩, ht0⟩ := h
  refine (sync_any hr hs s hz).mono ?_
  rintro r w2 ⟨rfl, hp⟩
  rw [he] at hp ⊢
  exact ⟨rfl, Since.post h0 hp⟩

theorem Since.truncate (h : Since w p S w') (hs : StepsOk S) (s : ByteArray) (hz : s.size ≤ maxLen) (k : Int) {n : Nat} (he : Fsp.truncate S s.data.toList k = (S', n)) :
    Calls Try.prog 42 #[.pointer (some ⟨p, 0, none⟩), .string s, .int .i64 k] w' fun r w2 => r = .returned (.int .i64 (n : Int)) ∧ Since w p S' w2 := by
  have h0 := h
  obtain ⟨⟨mo, pl, hr⟩, ht0⟩ := h
  refine (truncate_any hr hs s hz k).mono ?_
  rintro r w2 ⟨rfl, hp⟩
  rw [he] at hp ⊢
  exact ⟨rfl, Since.post h0 hp⟩

/-- a crash that asks something that lies outside, or nothing, and answers by kf -/
theorem Since.crash {kv : Value} {I : World → List (List UInt8 × Nat) → Prop} {kf : List UInt8 → Nat → Int} {Qc : Nat → Prop} {l : List (List UInt8 × Nat)} (h : Since w p S w') (hK : Keeper kv I kf Qc) (hI : I w' l) (hnew : ∀ b, ¬ Qc b) :
    Calls Try.prog 14 #[.pointer (some ⟨p, 0, none⟩), kv] w' fun r w2 => r = .returned (.tuple #[]) ∧ Since w p (Fsp.crash S kf) w2 := by
  have h0 := h
  obtain ⟨⟨mo, pl, hr⟩, ht0⟩ := h
  refine (crash_any hK hI (fun b q => absurd q (hnew b)) hr).mono ?_
  rintro r w2 ⟨rfl, h1, _, h3⟩
  exact ⟨rfl, Since.post h0 ⟨h1, h3.mono (fun i q => q.elim id (fun x => absurd x (hnew i)))⟩⟩

theorem enter_first (args : Array Value) (w : World) : (callFunc 45 args).run Try.prog w = .ok (.enter 45 args) w := by kernel_rfl

theorem firstKeep_any {s : ByteArray} {n : Int} {w : World} : Calls Try.prog 45 #[.string s, .int .i64 n] w fun r w' => r = .returned (.int .i64 1) ∧ w = w' := by
  go_enter Try.func45, Try.ntmps45
  go_wp2
  go_ret
  exact ⟨rfl, rfl⟩

theorem keeper_first : Keeper (.func (.func 45) #[] #[]) (fun _ _ => True) (fun _ _ => 1) (fun _ => False) :=
  keeper_some enter_first (fun _ _ _ _ _ _ _ => trivial) (fun _ _ _ _ q => q.elim)
    (fun s n w l _ _ _ => (firstKeep_any (s := s) (n := n)).mono fun r w' ⟨h1, h2⟩ => by subst h2; exact ⟨h1, trivial, Turn.refl _ _⟩)

theorem slice_lit (w : World) (b : List UInt8) (cs : Array Value) (t : TypeId) (fr : Nat × Nat) (n cap : Nat) (hcs : cs = (b.map byteV).toArray) (hn : n = b.length) : SliceB (w.alloc (.cells cs t fr)) (.slice (some ⟨w.heap.size, 0, none⟩) n cap) b := by
  subst hcs; subst hn
  refine Or.inr ⟨_, cap, rfl, fun j x hj => ?_⟩
  rw [add_head]
  unfold World.cell?
  simp only [heap_alloc_new]
  simp [hj]

set_option maxRecDepth 100000 in
set_option maxHeartbeats 1000000 in
theorem first_any (w : World) : Calls Try.prog 11 #[] w fun r w' => r = .returned (.bool true) ∧ Turn (fun _ => False) w w' := by
  have kc := fun (w : World) (C : Array Value) (n c : Nat) => Lib.run_convert_bytes_const (P := Try.prog) w 23 5 C n c Try.underlying23 Try.underlying5
  go_enter Try.func11, Try.ntmps11
  go_wp2_with fail
  go_at_call 27
  refine (new_any 10 _).mono ?_
  rintro r w1 ⟨rfl, hr1, ht1⟩
  have q1 : Since w w.heap.size Ex.s0 w1 := ⟨hr1, ht1⟩
  clear hr1 ht1
  go_wp2_with fail
  go_at_call 17
  refine (q1.append (by unfold StepsOk; decide) nameA (by decide) (Turn.refl _ _) (.slice none 0 0) [] (Or.inl ⟨rfl, rfl⟩) (by decide) (fun _ _ _ e => by cases e) Ex.e1).mono ?_
  rintro r w2 ⟨rfl, q2⟩
  clear q1
  go_wp2_with fail
  go_at_call 16
  refine (q2.create (by unfold StepsOk; decide) nameA (by decide) Ex.e2).mono ?_
  rintro r w3 ⟨rfl, q3⟩
  clear q2
  go_wp2_with fail
  go_at_call 17
  refine (q3.append (by unfold StepsOk; decide) nameA (by decide) (turnBox _ _) _ [49, 50, 51, 52, 53, 54, 55, 56, 57, 48, 49] (slice_lit _ _ _ _ _ _ _ rfl rfl) (by decide) (fun _ _ _ e => by cases e; exact Nat.le_refl _) Ex.e3).mono ?_
  rintro r w4 ⟨rfl, q4⟩
  clear q3
  go_wp2_with fail
  go_at_call 17
  refine (q4.append (by unfold StepsOk; decide) nameA (by decide) (turnBox _ _) _ [97, 98, 99] (slice_lit _ _ _ _ _ _ _ rfl rfl) (by decide) (fun _ _ _ e => by cases e; exact Nat.le_refl _) Ex.e4).mono ?_
  rintro r w5 ⟨rfl, q5⟩
  clear q4
  go_wp2_with fail
  go_at_call 18
  refine (q5.sync (by unfold StepsOk; decide) nameA (by decide) Ex.e5).mono ?_
  rintro r w6 ⟨rfl, q6⟩
  clear q5
  go_wp2_with fail
  go_at_call 17
  refine (q6.append (by unfold StepsOk; decide) nameA (by decide) (turnBox _ _) _ [100, 101] (slice_lit _ _ _ _ _ _ _ rfl rfl) (by decide) (fun _ _ _ e => by cases e; exact Nat.le_refl _) Ex.e6).mono ?_
  rintro r w7 ⟨rfl, q7⟩
  clear q6
  go_wp2_with fail
  go_at_call 14
  refine (q7.crash keeper_first (l := []) trivial (fun _ q => q)).mono ?_
  rintro r w8 ⟨rfl, q8⟩
  clear q7
  rw [Ex.e7] at q8
  go_wp2_with fail
  go_at_call 20
  obtain ⟨⟨mo, pl, hr⟩, ht8⟩ := q8
  refine (read_some hr nameA (by decide) Ex.e8).mono ?_
  rintro r w9 ⟨g, rfl, hown, ht9⟩
  have hcv : (convert 23 9 (.slice (some ⟨g, 0, none⟩) 4 4)).run Try.prog w9 = .ok (.string ⟨#[97, 98, 99, 100]⟩) w9 :=
    run_convert_bytes_back (P := Try.prog) w9 23 9 5 ⟨g, 0, none⟩ 4 [97, 98, 99, 100] Try.underlying23 Try.underlying5 Try.underlying9
      (fun j hj => by rw [add_head, hown.cellAt j (by simpa using hj), List.getElem?_map, List.getElem?_eq_getElem hj]; rfl)
  clear hown
  go_wp2_with (go_at_call 19; refine (num_any _ _).mono ?_; rintro r w' ⟨rfl, rfl⟩)
  go_ret
  exact ⟨rfl, ht8.trans ht9 (fun _ _ q => q)⟩

end
end Go.Proofs.Ytnlcaonempngbaa
