/-
  What serves all texts of the log: worlds, slices of bytes, lists of texts (as in the texts of stage 1).
-/
import Derived.Test.YtjjajnfkngfpjaaGreatDoorOps4
import Derived.Test.YtjjajnfkngfpjaaGreatDoorOps3
import Derived.Test.YtjjajnfkngfpjaaGreatDoorOps6
import Derived.LoopTactic
import Derived.Deep.QuietTactic
import Derived.BigQuiet
import Derived.Lib.SlBytesConst
namespace Go.Proofs.YtjjajnfkngfpjaaGreatDoor
open Go.RowKit Go.Maps Go.WideMaps

section
variable {w w' : World} {p : Nat} {S S' : Fsp.Fs} {c c' : Bool} {Q : Nat → Prop} {mo : Option Nat} {pl : List UInt8 → Pl}

theorem Like.cell (h : Like w w') {a : Addr} {v : Value} (k : w.cell? a = some v) : w'.cell? a = some v :=
  (World.cell?_of_block (by rw [h.heap])).trans k

theorem Like.trans {a b d : World} (h : Like a b) (k : Like b d) : Like a d := ⟨k.heap.trans h.heap, k.os.trans h.os, k.tape.trans h.tape, k.output.trans h.output⟩

theorem Like.turn (h : Like w w') : Turn (fun _ => False) w w' := Turn.like (Turn.refl _ w) h

theorem Post.pre {w1 : World} (h : Post w1 p S Q w') (k : Turn (fun _ => False) w w1) : Post w p S Q w' := by
  obtain ⟨⟨mo, pl, hr⟩, ht⟩ := h
  refine ⟨⟨mo, pl, hr.mono (fun i hi => Grow.after k.size i hi) (fun i hi => ?_)⟩, (k.mono (fun _ q => q.elim)).trans ht (fun _ _ q => q)⟩
  rcases hi with hi | hi
  · exact hr.lt i (Or.inl hi)
  · exact hi.2

theorem turnBox (w : World) (o : Obj) : Turn (fun _ => False) w (w.alloc o) := (Turn.refl _ w).alloc o

theorem turned_cell {b o : Nat} {v : Value} (h : w.cell? ⟨b, o, none⟩ = some v) (ht : Turn Q w w') (hq : ¬ Q b) : w'.cell? ⟨b, o, none⟩ = some v :=
  (World.cell?_of_block (ht.block b (World.block_lt_of_cell? w _ h) hq)).trans h

theorem cell_new (w : World) (cs : Array Value) (t : TypeId) (j : Nat) : (w.alloc (.cells cs t)).cell? ⟨w.heap.size, j, none⟩ = cs[j]? := by
  unfold World.cell?
  simp only [heap_alloc_new]
  rfl

theorem steps_stepped (S : Fsp.Fs) : (Fsp.stepped S).steps ≤ S.steps + 1 := by unfold Fsp.stepped; split <;> simp

/-- what was handed in lies below -/
theorem SliceB.out {v : Value} {b : List UInt8} (h : SliceB w v b) {B : Nat} (hB : w.heap.size ≤ B) (hQ : ∀ i, Q i → B ≤ i) : OutOf Q v := by
  intro ad n cap e hn q
  rcases h with ⟨hv, _⟩ | ⟨ad', cap', hv, hc⟩
  · rw [hv] at e; cases e
  · rw [hv] at e
    simp only [Value.slice.injEq, Option.some.injEq] at e
    obtain ⟨rfl, rfl, _⟩ := e
    have h0 := hc 0 b[0] (by simp)
    have := World.block_lt_of_cell? w _ h0
    rw [add_block] at this
    have := hQ _ q
    omega

/-- a file system among the blocks that have come since w -/
def Since (w : World) (p : Nat) (S : Fsp.Fs) (w' : World) : Prop := Rep w' p S (fun b => w.heap.size ≤ b ∧ b < w'.heap.size) ∧ Turn (fun _ => False) w w'

theorem Since.post {w1 w2 : World} (h : Since w p S w1) (k : Post w1 p S' (fun b => w.heap.size ≤ b ∧ b < w1.heap.size) w2) : Since w p S' w2 := by
  obtain ⟨⟨mo, pl, hr⟩, ht⟩ := k
  refine ⟨⟨mo, pl, hr.mono (fun i hi => ?_) (fun i hi => hi.2)⟩, h.2.trans ht (fun i hi q => by omega)⟩
  have h1 := h.2.size
  have h2 := ht.size
  rcases hi with hi | hi
  · exact ⟨hi.1, by omega⟩
  · exact ⟨by omega, hi.2⟩

theorem slice_lit (w : World) (b : List UInt8) (cs : Array Value) (t : TypeId) (fr : Nat × Nat) (n cap : Nat) (hcs : cs = (b.map byteV).toArray) (hn : n = b.length) : SliceB (w.alloc (.cells cs t fr)) (.slice (some ⟨w.heap.size, 0, none⟩) n cap) b := by
  subst hcs; subst hn
  refine Or.inr ⟨_, cap, rfl, fun j x hj => ?_⟩
  rw [add_head]
  unfold World.cell?
  simp only [heap_alloc_new]
  simp [hj]

theorem SliceR.like {v : Value} {d : List UInt8} (h : SliceR w v d) (k : Like w w') : SliceR w' v d := by
  obtain ⟨sp, cap, hv, hc⟩ := h
  exact ⟨sp, cap, hv, fun h0 => by obtain ⟨ad, e, hx⟩ := hc h0; exact ⟨ad, e, fun j x hj => k.cell (hx j x hj)⟩⟩

theorem SliceR.turned {v : Value} {d : List UInt8} (h : SliceR w v d) (ht : Turn (fun _ => False) w w') : SliceR w' v d := by
  obtain ⟨sp, cap, hv, hc⟩ := h
  exact ⟨sp, cap, hv, fun h0 => by obtain ⟨ad, e, hx⟩ := hc h0; exact ⟨ad, e, fun j x hj => turn_cell ht (hx j x hj)⟩⟩

theorem sameAt {da db : List UInt8} (hl : da.length = db.length) : da = db ↔ ∀ j (h1 : j < da.length) (h2 : j < db.length), da[j] = db[j] := by
  constructor
  · intro e; subst e; intros; rfl
  · intro h; exact List.ext_getElem hl h

theorem take_eq_snoc {da db : List UInt8} {k : Nat} (h1 : k < da.length) (h2 : k < db.length) (h : da.take k = db.take k) (e : da[k] = db[k]) : da.take (k + 1) = db.take (k + 1) := by
  rw [List.take_succ_eq_append_getElem h1, List.take_succ_eq_append_getElem h2, h, e]

set_option maxRecDepth 100000 in
set_option maxHeartbeats 1000000 in
theorem same_any {va vb : Value} {da db : List UInt8} (ha : SliceR w va da) (hb : SliceR w vb db) (hla : da.length ≤ maxLen) (hlb : db.length ≤ maxLen) :
    Calls Tryz.prog 24 #[va, vb] w fun r w' => r = .returned (.bool (decide (da = db))) ∧ Like w w' := by
  obtain ⟨sa, ca, rfl, hca⟩ := ha
  obtain ⟨sb, cb, rfl, hcb⟩ := hb
  unfold maxLen at hla hlb
  have HA := Lib.hid hca
  have HB := Lib.hid hcb
  clear hca hcb
  by_cases hl : da.length = db.length
  · have b1 : ((da.length : Int) != (db.length : Int)) = false := by rw [hl]; simp
    have HL := Lib.hid hl
    clear hl
    go_enter Tryz.func24, Tryz.ntmps24
    go_wp2_with fail
    go_loopw [5] (fun i wr => ∃ k : Nat, k ≤ da.length ∧ i = .int .i64 k ∧ da.take k = db.take k ∧ Like w wr) (fun i _ => da.length - (intOf i).toNat)
    case atStart => exact ⟨0, Nat.zero_le _, rfl, rfl, ⟨rfl, rfl, rfl, rfl⟩⟩
    case round =>
      obtain ⟨k, hk, rfl, htk, hlk⟩ := hrel
      have HK := Lib.hid htk
      have HW := Lib.hid hlk
      clear htk hlk
      by_cases hlt : k < da.length
      · have hlt2 : k < db.length := by have := HL.out; omega
        obtain ⟨aa, e1, x1⟩ := HA.out (by omega)
        obtain ⟨ab, e2, x2⟩ := HB.out (by omega)
        subst e1; subst e2
        have ca' := HW.out.cell (x1 k da[k] (List.getElem?_eq_getElem hlt))
        have cb' := HW.out.cell (x2 k db[k] (List.getElem?_eq_getElem hlt2))
        have i0 : (0 : Int) ≤ (k : Int) := by omega
        have i1 : (k : Int) < (da.length : Int) := by omega
        have i2 : (k : Int) < (db.length : Int) := by omega
        clear x1 x2
        by_cases he : da[k] = db[k]
        · have HE := Lib.hid he
          have b2 : (((da[k].toNat : Nat) : Int) != ((db[k].toNat : Nat) : Int)) = false := by rw [he]; simp
          clear he
          go_wp2_with fail
          go_quiet (fail)
          go_wp2
          go_roundw
          case rel => exact ⟨k + 1, by omega, by go_num, take_eq_snoc hlt hlt2 HK.out HE.out, HW.out.trans (like_drewN _ _)⟩
          case measure => simp [intOf]; omega
        · have b2 : (((da[k].toNat : Nat) : Int) != ((db[k].toNat : Nat) : Int)) = true := by
            rw [bne_iff_ne]; intro e; exact he (UInt8.toNat_inj.1 (by omega))
          have hd : decide (da = db) = false := by
            rw [decide_eq_false_iff_not]; intro e; exact he (by simp only [e])
          have HD := Lib.hid hd
          clear he hd
          go_wp2_with fail
          go_quiet (fail)
          go_wp2
          go_ret
          exact ⟨ret_bool HD.out.symm, HW.out.trans (like_drewN _ _)⟩
      · have hk0 : k = da.length := by omega
        subst hk0
        have hd : decide (da = db) = true := by
          rw [decide_eq_true_iff]
          have h1 := HK.out
          rw [List.take_length, HL.out, List.take_length] at h1
          exact h1
        have HD := Lib.hid hd
        clear hd
        go_wp2
        go_ret
        exact ⟨ret_bool HD.out.symm, HW.out⟩
  · have b1 : ((da.length : Int) != (db.length : Int)) = true := by rw [bne_iff_ne]; omega
    have hd : decide (da = db) = false := by
      rw [decide_eq_false_iff_not]; intro e; exact hl (by rw [e])
    rw [hd]
    clear hd hl
    go_enter Tryz.func24, Tryz.ntmps24
    go_wp2
    go_ret
    exact ⟨rfl, ⟨rfl, rfl, rfl, rfl⟩⟩

end
end Go.Proofs.YtjjajnfkngfpjaaGreatDoor
