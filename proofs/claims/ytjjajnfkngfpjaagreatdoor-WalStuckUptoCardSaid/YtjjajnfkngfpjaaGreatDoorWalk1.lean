/-
  WALKS: Down, find, step, Used, Room, Steps, Arm; exref.Num.
-/
import Derived.Test.YtjjajnfkngfpjaaGreatDoorMem
import Derived.Outline
namespace Go.Proofs.YtjjajnfkngfpjaaGreatDoor
open Go.RowKit Go.Maps Go.WideMaps

/-- the cells of a file system's own block -/
structure Cells (w : World) (p : Nat) (mo : Option Nat) (room used steps armed : Int) (down crashing : Bool) : Prop where
  c0 : w.cell? ⟨p, 0, none⟩ = some (.map mo)
  c1 : w.cell? ⟨p, 1, none⟩ = some (.int .i64 room)
  c2 : w.cell? ⟨p, 2, none⟩ = some (.int .i64 used)
  c3 : w.cell? ⟨p, 3, none⟩ = some (.int .i64 steps)
  c4 : w.cell? ⟨p, 4, none⟩ = some (.int .i64 armed)
  c5 : w.cell? ⟨p, 5, none⟩ = some (.bool down)
  c6 : w.cell? ⟨p, 6, none⟩ = some (.bool crashing)
  fr : ∀ j, w.frozen? ⟨p, j, none⟩ = false

theorem RepX.cells {w : World} {p : Nat} {S : Fsp.Fs} {c : Bool} {Q : Nat → Prop} {mo : Option Nat} {pl : List UInt8 → Pl} (h : RepX w p S c Q mo pl) : Cells w p mo S.room (Fsp.usedOf S.L) S.steps S.armed S.down c := by
  have hh := h.head
  constructor <;> simp [World.cell?, World.frozen?, hh]

theorem num_any (e : Int) (w : World) : Calls Tryz.prog 14 #[.int .i64 e] w fun r w' => r = .returned (.int .i64 e) ∧ w = w' := by
  go_enter Tryz.func14, Tryz.ntmps14
  go_wp2
  go_ret
  exact ⟨rfl, rfl⟩

theorem down_any {w : World} {p : Nat} {mo : Option Nat} {room used steps armed : Int} {down crashing : Bool} (h : Cells w p mo room used steps armed down crashing) :
    Calls Tryz.prog 44 #[.pointer (some ⟨p, 0, none⟩)] w fun r w' => r = .returned (.bool down) ∧ w = w' := by
  have c5 := h.c5
  cases down
  all_goals
    go_enter Tryz.func44, Tryz.ntmps44
    go_wp2
    go_ret
    exact ⟨rfl, rfl⟩

theorem used_any {w : World} {p : Nat} {mo : Option Nat} {room used steps armed : Int} {down crashing : Bool} (h : Cells w p mo room used steps armed down crashing) :
    Calls Tryz.prog 43 #[.pointer (some ⟨p, 0, none⟩)] w fun r w' => r = .returned (.int .i64 used) ∧ w = w' := by
  have c := h.c2
  go_enter Tryz.func43, Tryz.ntmps43
  go_wp2
  go_ret
  exact ⟨rfl, rfl⟩

theorem room_any {w : World} {p : Nat} {mo : Option Nat} {room used steps armed : Int} {down crashing : Bool} (h : Cells w p mo room used steps armed down crashing) :
    Calls Tryz.prog 42 #[.pointer (some ⟨p, 0, none⟩)] w fun r w' => r = .returned (.int .i64 room) ∧ w = w' := by
  have c := h.c1
  go_enter Tryz.func42, Tryz.ntmps42
  go_wp2
  go_ret
  exact ⟨rfl, rfl⟩

theorem steps_any {w : World} {p : Nat} {mo : Option Nat} {room used steps armed : Int} {down crashing : Bool} (h : Cells w p mo room used steps armed down crashing) :
    Calls Tryz.prog 41 #[.pointer (some ⟨p, 0, none⟩)] w fun r w' => r = .returned (.int .i64 steps) ∧ w = w' := by
  have c := h.c3
  go_enter Tryz.func41, Tryz.ntmps41
  go_wp2
  go_ret
  exact ⟨rfl, rfl⟩

theorem arm_walk {w : World} {p : Nat} {mo : Option Nat} {room used steps armed : Int} {down crashing : Bool} (h : Cells w p mo room used steps armed down crashing) (n : Int) :
    Calls Tryz.prog 15 #[.pointer (some ⟨p, 0, none⟩), .int .i64 n] w fun r w' => r = .returned (.tuple #[]) ∧ w.setCell ⟨p, 4, none⟩ (.int .i64 (max n 0)) = w' := by
  have c := h.c4
  have f := h.fr 4
  by_cases hn : 0 ≤ n
  all_goals
    go_enter Tryz.func15, Tryz.ntmps15
    go_wp2
    go_end0
    refine ⟨rfl, ?_⟩
    congr 2
    omega

theorem find_walk_nil {w : World} {p : Nat} {room used steps armed : Int} {down crashing : Bool} (h : Cells w p none room used steps armed down crashing) (s : ByteArray) (hs : s.size ≤ maxLen) :
    Calls Tryz.prog 66 #[.pointer (some ⟨p, 0, none⟩), .string s] w fun r w' => r = .returned (.pointer none) ∧ w = w' := by
  have c0 := h.c0
  have hrun := look_nil (w := w) false lawS Tryz.underlying65 (zeroP _) (keyOf_string_mk Tryz.underlying9 hs)
  go_enter Tryz.func66, Tryz.ntmps66
  go_wp2
  go_ret
  exact ⟨rfl, rfl⟩

theorem find_walk {w : World} {p : Nat} {mb : Nat} {room used steps armed : Int} {down crashing : Bool} (h : Cells w p (some mb) room used steps armed down crashing) {n : Nat} {D : DataW Unit}
    (hown : w.ownsMap Tryz.prog 9 ptrElem mb n D) (s : ByteArray) (hs : s.size ≤ maxLen) :
    Calls Tryz.prog 66 #[.pointer (some ⟨p, 0, none⟩), .string s] w fun r w' => (∃ v ps, r = .returned v ∧ ptrElem v = some (D.atKey (.string s.data.toList) .nil, ps)) ∧ w = w' := by
  have c0 := h.c0
  obtain ⟨v, ps, hrun, hv⟩ := hown.lookup lawS Tryz.underlying65 (zeroP _) ptrElem_nil (keyOf_string_mk Tryz.underlying9 hs)
  go_enter Tryz.func66, Tryz.ntmps66
  go_wp2
  go_ret
  exact ⟨⟨v, ps, rfl, hv⟩, rfl⟩

theorem step_walk {w : World} {p : Nat} {mo : Option Nat} {room used steps armed : Int} {down crashing : Bool} (h : Cells w p mo room used steps armed down crashing) (h1 : ¬ armed = 1) (h0 : 0 ≤ armed) (ha : armed ≤ 9223372036854775807) (hs0 : 0 ≤ steps) (hs : steps < 4611686018427387904) :
    Calls Tryz.prog 68 #[.pointer (some ⟨p, 0, none⟩)] w fun r w' => r = .returned (.bool true) ∧ (if 0 < armed then w.setCell ⟨p, 4, none⟩ (.int .i64 (armed - 1)) else w).setCell ⟨p, 3, none⟩ (.int .i64 (steps + 1)) = w' := by
  have c3 := h.c3
  have c4 := h.c4
  have f3 := h.fr 3
  have f4 := h.fr 4
  have e1 : (armed == 1) = false := by simpa using h1
  by_cases hp : 0 < armed
  all_goals
    go_enter Tryz.func68, Tryz.ntmps68
    go_wp2
    go_ret
    exact ⟨rfl, rfl⟩

theorem step_armed {w : World} {p : Nat} {mo : Option Nat} {room used steps : Int} {down crashing : Bool} (h : Cells w p mo room used steps 1 down crashing) :
    Calls Tryz.prog 68 #[.pointer (some ⟨p, 0, none⟩)] w fun r w' => r = .returned (.bool false) ∧ (w.setCell ⟨p, 4, none⟩ (.int .i64 0)).setCell ⟨p, 5, none⟩ (.bool true) = w' := by
  have c4 := h.c4
  have c5 := h.c5
  have f5 := h.fr 5
  have f4 := h.fr 4
  go_enter Tryz.func68, Tryz.ntmps68
  go_wp2
  go_ret
  exact ⟨rfl, rfl⟩

theorem ret_bool {a b : Bool} (h : a = b) : Ending.returned (.bool a) = .returned (.bool b) := by rw [h]
theorem ret_int {k : IntKind} {a b : Int} (h : a = b) : Ending.returned (.int k a) = .returned (.int k b) := by rw [h]

/-- a byte of a name, as an int -/
def okI (c : Int) : Bool := decide (97 ≤ c ∧ c ≤ 122 ∨ 48 ≤ c ∧ c ≤ 57 ∨ c = 45 ∨ c = 46 ∨ c = 47)

theorem okI_eq (c : UInt8) : okI c.toNat = Fsp.okByte c := by
  unfold okI Fsp.okByte
  rw [Bool.eq_iff_iff]
  simp [UInt8.le_iff_toNat_le, ← UInt8.toNat_inj]
  omega

theorem validByte_any (c : Int) (hc : 0 ≤ c ∧ c ≤ 255) (w : World) : Calls Tryz.prog 69 #[.int .u8 c] w fun r w' => r = .returned (.bool (okI c)) ∧ w = w' := by
  go_enter Tryz.func69, Tryz.ntmps69
  go_wp2
  all_goals go_ret
  all_goals refine ⟨ret_bool ?_, rfl⟩
  all_goals (rw [Bool.eq_iff_iff]; simp [okI]; try omega)

end Go.Proofs.YtjjajnfkngfpjaaGreatDoor
