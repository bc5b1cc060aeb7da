/-
  FsSafe: the walk.
-/
import Derived.Test.YtnlcaonempngbaaArmed
namespace Go.Proofs.Ytnlcaonempngbaa
open Go.RowKit Go.Maps Go.WideMaps Go.Sort

namespace Fsp
/-- up, unarmed, of few steps -/
structure Calm (S : Fs) (n : Nat) : Prop where
  armed : S.armed = 0
  down : S.down = false
  steps : S.steps ≤ n

theorem calm_stepped {S : Fs} {n : Nat} (h : Calm S n) : (stepped S).armed = 0 ∧ (stepped S).down = false ∧ (stepped S).steps ≤ n + 1 := by
  have h1 := h.armed
  have h2 := h.steps
  have h3 := h.down
  simp [stepped, h1, h3]; omega

theorem calm_put {S : Fs} {n : Nat} (h : Calm S n) (L : List (List UInt8 × File)) : Calm { stepped S with L := L } (n + 1) := ⟨(calm_stepped h).1, (calm_stepped h).2.1, (calm_stepped h).2.2⟩
theorem calm_up {S : Fs} {n m : Nat} (h : Calm S n) (hm : n ≤ m) : Calm S m := ⟨h.armed, h.down, Nat.le_trans h.steps hm⟩

theorem calm_remove {S : Fs} {n : Nat} (h : Calm S n) (hs : Sorted S.L) (nm : List UInt8) : Calm (remove S nm).1 (n + 1) ∧ find (remove S nm).1.L nm = none := by
  have h1 : ¬ S.armed = 1 := by rw [h.armed]; decide
  unfold remove
  simp only [h.down, Bool.false_eq_true, if_false, if_neg h1]
  cases hf : find S.L nm with
  | none => exact ⟨calm_up h (by omega), hf⟩
  | some f => exact ⟨calm_put h _, find_del_same hs nm⟩

theorem calm_create {S : Fs} {n : Nat} (h : Calm S n) {nm : List UInt8} (hf : find S.L nm = none) : Calm (create S nm).1 (n + 1) ∧ (find (create S nm).1.L nm = none ∨ find (create S nm).1.L nm = some ⟨[], 0⟩) := by
  have h1 : ¬ S.armed = 1 := by rw [h.armed]; decide
  unfold create
  simp only [h.down, Bool.false_eq_true, if_false, if_neg h1, hf, Option.isSome_none]
  split
  · exact ⟨calm_up h (by omega), Or.inl hf⟩
  · split
    · exact ⟨calm_up h (by omega), Or.inl hf⟩
    · exact ⟨calm_put h _, Or.inr (find_put_same _ _ _)⟩

theorem calm_append {S : Fs} {n : Nat} (h : Calm S n) {nm : List UInt8} {f : File} (hf : find S.L nm = some f) (b : List UInt8) :
    append S nm b = (S, 4) ∨ ∃ S', append S nm b = (S', 0) ∧ Calm S' (n + 1) ∧ find S'.L nm = some ⟨f.data ++ b, f.synced⟩ := by
  have h1 : ¬ S.armed = 1 := by rw [h.armed]; decide
  unfold append
  simp only [h.down, Bool.false_eq_true, if_false, if_neg h1, hf]
  split
  · exact Or.inl rfl
  · exact Or.inr ⟨_, rfl, calm_put h _, find_put_same _ _ _⟩

theorem calm_sync {S : Fs} {n : Nat} (h : Calm S n) {nm : List UInt8} {f : File} (hf : find S.L nm = some f) :
    ∃ S', sync S nm = (S', 0) ∧ Calm S' (n + 1) ∧ find S'.L nm = some ⟨f.data, f.data.length⟩ := by
  have h1 : ¬ S.armed = 1 := by rw [h.armed]; decide
  unfold sync
  simp only [h.down, Bool.false_eq_true, if_false, if_neg h1, hf]
  exact ⟨_, rfl, calm_put h _, find_put_same _ _ _⟩

theorem torn_take {d : List UInt8} {k : Int} {n : Nat} (h : n ≤ d.length) : (torn ⟨d, n⟩ k).data = d.take (n + min k.toNat (d.length - n)) := by
  unfold torn
  split
  · rfl
  · simp only at *
    rw [List.take_of_length_le (by omega)]
end Fsp

section
variable {w w' : World} {p : Nat} {S S' : Fsp.Fs} {c : Bool} {Q : Nat → Prop} {mo : Option Nat} {pl : List UInt8 → Pl}

theorem Since.appendIn (h : Since w p S w') (hs : StepsOk S) (s : ByteArray) (hz : s.size ≤ maxLen) {n : Nat} (v : Value) (b : List UInt8) (hb : SliceB w v b) (hbl : b.length ≤ maxLen) (he : Fsp.append S s.data.toList b = (S', n)) :
    Calls Try.prog 17 #[.pointer (some ⟨p, 0, none⟩), .string s, v] w' fun r w2 => r = .returned (.int .i64 (n : Int)) ∧ Since w p S' w2 := by
  have h0 := h
  obtain ⟨⟨mo, pl, hr⟩, ht0⟩ := h
  refine (append_any hr hs s hz v b (hb.turned ht0 (fun _ _ _ _ _ q => q)) hbl (hb.out (Nat.le_refl _) (fun i hi => hi.1))).mono ?_
  rintro r w2 ⟨rfl, hp⟩
  rw [he] at hp ⊢
  exact ⟨rfl, Since.post h0 hp⟩

theorem Since.remove (h : Since w p S w') (hs : StepsOk S) (s : ByteArray) (hz : s.size ≤ maxLen) {n : Nat} (he : Fsp.remove S s.data.toList = (S', n)) :
    Calls Try.prog 15 #[.pointer (some ⟨p, 0, none⟩), .string s] w' fun r w2 => r = .returned (.int .i64 (n : Int)) ∧ Since w p S' w2 := by
  have h0 := h
  obtain ⟨⟨mo, pl, hr⟩, ht0⟩ := h
  refine (remove_any hr hs s hz).mono ?_
  rintro r w2 ⟨rfl, hp⟩
  rw [he] at hp ⊢
  exact ⟨rfl, Since.post h0 hp⟩

theorem Since.good (h : Since w p S w') : Fsp.Good S := by obtain ⟨⟨mo, pl, hr⟩, _⟩ := h; exact hr.good

theorem enter_safe1 (args : Array Value) (w : World) : (callFunc 21 args).run Try.prog w = .ok (.enter 21 args) w := by kernel_rfl
theorem enter_safe2 (args : Array Value) (w : World) : (callFunc 25 args).run Try.prog w = .ok (.enter 25 args) w := by kernel_rfl

theorem safeKeep1_any {s : ByteArray} {n k : Int} {bx : Nat} {w : World} (hc : w.heap[bx]? = some (.cells #[.int .i64 k] 3 (0, 0))) :
    Calls Try.prog 21 #[.string s, .int .i64 n, .pointer (some ⟨bx, 0, none⟩)] w fun r w' => r = .returned (.int .i64 k) ∧ w = w' := by
  have c0 : w.cell? ⟨bx, 0, none⟩ = some (.int .i64 k) := by simp [World.cell?, hc]
  clear hc
  go_enter Try.func21, Try.ntmps21
  go_wp2
  go_ret
  exact ⟨rfl, rfl⟩

theorem safeKeep2_any {s : ByteArray} {n k : Int} {bx : Nat} {w : World} (hc : w.heap[bx]? = some (.cells #[.int .i64 k] 3 (0, 0))) :
    Calls Try.prog 25 #[.string s, .int .i64 n, .pointer (some ⟨bx, 0, none⟩)] w fun r w' => r = .returned (.int .i64 k) ∧ w = w' := by
  have c0 : w.cell? ⟨bx, 0, none⟩ = some (.int .i64 k) := by simp [World.cell?, hc]
  clear hc
  go_enter Try.func25, Try.ntmps25
  go_wp2
  go_ret
  exact ⟨rfl, rfl⟩

theorem keeper_safe1 (bx : Nat) (k : Int) : Keeper (.func (.func 21) #[] #[.pointer (some ⟨bx, 0, none⟩)]) (fun w _ => w.heap[bx]? = some (.cells #[.int .i64 k] 3 (0, 0))) (fun _ _ => k) (fun b => b = bx) := keeper_box bx k enter_safe1 (fun s n _ h => safeKeep1_any (s := s) (n := n) h)
theorem keeper_safe2 (bx : Nat) (k : Int) : Keeper (.func (.func 25) #[] #[.pointer (some ⟨bx, 0, none⟩)]) (fun w _ => w.heap[bx]? = some (.cells #[.int .i64 k] 3 (0, 0))) (fun _ _ => k) (fun b => b = bx) := keeper_box bx k enter_safe2 (fun s n _ h => safeKeep2_any (s := s) (n := n) h)

end
end Go.Proofs.Ytnlcaonempngbaa
