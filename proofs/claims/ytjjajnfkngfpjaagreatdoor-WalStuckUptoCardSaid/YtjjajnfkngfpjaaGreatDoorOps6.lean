/-
  Read, Size, Arm, New; the plain questions.
-/
import Derived.Test.YtjjajnfkngfpjaaGreatDoorOps2
namespace Go.Proofs.YtjjajnfkngfpjaaGreatDoor
open Go.RowKit Go.Maps Go.WideMaps

section
variable {w w' : World} {p : Nat} {S S' : Fsp.Fs} {c c' : Bool} {Q : Nat → Prop} {mo : Option Nat} {pl : List UInt8 → Pl}

theorem read_none (h : RepX w p S c Q mo pl) (s : ByteArray) (hz : s.size ≤ maxLen) (hf : Fsp.find S.L s.data.toList = none) :
    Calls Tryz.prog 37 #[.pointer (some ⟨p, 0, none⟩), .string s] w fun r w' => r = .returned (.tuple #[.slice none 0 0, .int .i64 2]) ∧ w = w' := by
  have HF := Lib.hid hf
  clear hf
  go_enter Tryz.func37, Tryz.ntmps37
  go_wp2_with (go_at_call 66; refine (find_none h s hz HF.out).mono ?_; rintro r w' ⟨rfl, rfl⟩)
  go_ret2
  exact ⟨rfl, rfl⟩

theorem len_room (h : RepX w p S c Q mo pl) {n : List UInt8} {f : Fsp.File} (hf : Fsp.find S.L n = some f) : f.data.length ≤ 67108864 := by
  have h1 := Fsp.used_find hf
  have h2 := h.good.2.1
  have h3 := h.good.2.2.1
  omega

theorem read_some (h : RepX w p S c Q mo pl) (s : ByteArray) (hz : s.size ≤ maxLen) {f : Fsp.File} (hf : Fsp.find S.L s.data.toList = some f) :
    Calls Tryz.prog 37 #[.pointer (some ⟨p, 0, none⟩), .string s] w fun r w' => ∃ g, r = .returned (.tuple #[.slice (some ⟨g, 0, none⟩) f.data.length f.data.length, .int .i64 0]) ∧
      w'.ownsRow w.heap.size 5 1 (.slice (some ⟨g, 0, none⟩) f.data.length f.data.length) f.data.length (f.data.map byteV) ∧ Turn (fun _ => False) w w' := by
  obtain ⟨sp, cap, hsv, hlc, hcap, hfc⟩ := file_open h hf
  have f0 := hfc.c0
  have hown := (h.file _ f hf).2
  rw [hsv] at hown
  have hr := SliceR.of_own hown
  have hl := len_room h hf
  have HF := Lib.hid hf
  have HV := Lib.hid hsv
  have HO := Lib.hid hown
  have hl2 : f.data.length ≤ 281474976710656 := by omega
  have HL := Lib.hid hl2
  clear hf hsv hown hl hl2 hcap
  go_enter Tryz.func37, Tryz.ntmps37
  go_wp2_with (go_at_call 66; refine (find_some h s hz HF.out).mono ?_; rintro r w' ⟨rfl, rfl⟩)
  go_at_call 67
  refine (copied_any hr HL.out).mono ?_
  rintro r w2 ⟨g, rfl, ho, ht⟩
  go_wp2
  go_ret2
  exact ⟨g, rfl, ho, ht⟩

theorem size_none (h : RepX w p S c Q mo pl) (s : ByteArray) (hz : s.size ≤ maxLen) (hf : Fsp.find S.L s.data.toList = none) :
    Calls Tryz.prog 73 #[.pointer (some ⟨p, 0, none⟩), .string s] w fun r w' => r = .returned (.tuple #[.int .i64 0, .int .i64 2]) ∧ w = w' := by
  have HF := Lib.hid hf
  clear hf
  go_enter Tryz.func73, Tryz.ntmps73
  go_wp2_with (go_at_call 66; refine (find_none h s hz HF.out).mono ?_; rintro r w' ⟨rfl, rfl⟩)
  go_ret2
  exact ⟨rfl, rfl⟩

theorem size_some (h : RepX w p S c Q mo pl) (s : ByteArray) (hz : s.size ≤ maxLen) {f : Fsp.File} (hf : Fsp.find S.L s.data.toList = some f) :
    Calls Tryz.prog 73 #[.pointer (some ⟨p, 0, none⟩), .string s] w fun r w' => r = .returned (.tuple #[.int .i64 (f.data.length : Nat), .int .i64 0]) ∧ w = w' := by
  obtain ⟨sp, cap, hsv, hlc, hcap, hfc⟩ := file_open h hf
  have f0 := hfc.c0
  have HF := Lib.hid hf
  have HV := Lib.hid hsv
  clear hf hsv hcap
  go_enter Tryz.func73, Tryz.ntmps73
  go_wp2_with (go_at_call 66; refine (find_some h s hz HF.out).mono ?_; rintro r w' ⟨rfl, rfl⟩)
  go_ret2
  exact ⟨rfl, rfl⟩

theorem arm_any (h : RepX w p S false Q mo pl) (k : Int) (hk : k ≤ 9223372036854775807) :
    Calls Tryz.prog 15 #[.pointer (some ⟨p, 0, none⟩), .int .i64 k] w fun r w' => r = .returned (.tuple #[]) ∧ Post w p (Fsp.arm S k) Q w' := by
  refine (arm_walk h.cells k).mono ?_
  rintro r w' ⟨rfl, rfl⟩
  have hg := h.good
  have e : max k 0 = ((k.toNat : Nat) : Int) := by omega
  refine ⟨rfl, Post.head (h.setHead (S' := Fsp.arm S k) (c' := false) (turnP w p 4 _) ?_ rfl ⟨hg.1, hg.2.1, hg.2.2.1, hg.2.2.2.1, by simp only [Fsp.arm]; omega, hg.2.2.2.2.2⟩) h.inP (turnP w p 4 _)⟩
  rw [heap_setCell_same h.head, e]
  rfl

theorem used_is (h : RepX w p S c Q mo pl) : Calls Tryz.prog 43 #[.pointer (some ⟨p, 0, none⟩)] w fun r w' => r = .returned (.int .i64 (Fsp.usedOf S.L : Nat)) ∧ w = w' := used_any h.cells
theorem room_is (h : RepX w p S c Q mo pl) : Calls Tryz.prog 42 #[.pointer (some ⟨p, 0, none⟩)] w fun r w' => r = .returned (.int .i64 (S.room : Nat)) ∧ w = w' := room_any h.cells
theorem steps_is (h : RepX w p S c Q mo pl) : Calls Tryz.prog 41 #[.pointer (some ⟨p, 0, none⟩)] w fun r w' => r = .returned (.int .i64 (S.steps : Nat)) ∧ w = w' := steps_any h.cells

theorem good_new (k : Int) : Fsp.Good (Fsp.new k) := ⟨List.Pairwise.nil, Nat.zero_le _, by simp only [Fsp.new]; omega, Nat.zero_le _, Nat.zero_le _, fun n f hf => by simp [Fsp.new, Fsp.find] at hf⟩

theorem new_any (k : Int) (w : World) :
    Calls Tryz.prog 12 #[.int .i64 k] w fun r w' => r = .returned (.pointer (some ⟨w.heap.size, 0, none⟩)) ∧ Rep w' w.heap.size (Fsp.new k) (fun b => w.heap.size ≤ b ∧ b < w'.heap.size) ∧ Turn (fun _ => False) w w' := by
  go_enter Tryz.func12, Tryz.ntmps12
  go_wp2
  go_ret
  have e : min (max k 0) 67108864 = (((Fsp.new k).room : Nat) : Int) := by simp only [Fsp.new]; omega
  have ht : Turn (fun _ => False) w (w.alloc (.cells #[.map none, .int .i64 (min (max k 0) 67108864), .int .i64 0, .int .i64 0, .int .i64 0, .bool false, .bool false] 67)) := (Turn.refl _ w).alloc _
  refine ⟨rfl, ⟨none, fun _ => ⟨0, .slice none 0 0⟩, ?_⟩, ht⟩
  have nofile : ∀ n, ¬ (Fsp.find (Fsp.new k).L n).isSome := fun n hn => by simp [Fsp.new, Fsp.find] at hn
  exact { good := good_new k, head := by rw [heap_alloc_new, e]; rfl, map := (rfl : (Fsp.new k).L = []), file := fun n f hf => absurd (by rw [hf]; rfl) (nofile n), apartF := fun n _ hn => absurd hn (nofile n), apartR := fun n _ hn => absurd hn (nofile n), inP := ⟨Nat.le_refl _, by simp⟩, inM := fun mb e => (by cases e), inF := fun n hn => absurd hn (nofile n), inR := fun n hn => absurd hn (nofile n), lt := fun b hb => hb.2 }

end
end Go.Proofs.YtjjajnfkngfpjaaGreatDoor
