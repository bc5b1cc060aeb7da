/-
  Two lists of records compared (exref's SameLists).
-/
import Derived.Test.YtjjajnfkngfpjaaGreatDoorWLists
import Derived.Deep.RegionHeld3
namespace Go.Proofs.YtjjajnfkngfpjaaGreatDoor
open Go.RowKit Go.Maps Go.WideMaps

section
variable {w w' : World}

theorem take_more {l m : List (List UInt8)} {k : Nat} (h1 : k < l.length) (h2 : k < m.length) (h : l.take k = m.take k) : (l.take (k + 1) = m.take (k + 1)) ↔ l[k] = m[k] := by
  rw [List.take_succ_eq_append_getElem h1, List.take_succ_eq_append_getElem h2, h]
  constructor
  · intro e
    exact (List.cons.inj (List.append_cancel_left e)).1
  · intro e; rw [e]

set_option maxRecDepth 100000 in
set_option maxHeartbeats 1000000 in
theorem sameLists_any {va vb : Value} {l m : List (List UInt8)} (ha : ListsR w va l) (hb : ListsR w vb m) (hl : l.length ≤ maxLen) (hm : m.length ≤ maxLen) (hle : ∀ q, q ∈ l → q.length ≤ maxLen) (hme : ∀ q, q ∈ m → q.length ≤ maxLen) :
    Calls Tryz.prog 20 #[va, vb] w fun r w' => r = .returned (.bool (decide (l = m))) ∧ Like w w' := by
  obtain ⟨sa, ca, rfl, hca⟩ := ha
  obtain ⟨sb, cb, rfl, hcb⟩ := hb
  unfold maxLen at hl hm
  have HA := Lib.hid hca
  have HB := Lib.hid hcb
  have HLE := Lib.hid hle
  have HME := Lib.hid hme
  clear hca hcb hle hme
  by_cases hn : l.length = m.length
  · have b1 : ((l.length : Int) != (m.length : Int)) = false := by rw [bne_eq_false_iff_eq]; omega
    have HN := Lib.hid hn
    clear hn
    go_enter Tryz.func20, Tryz.ntmps20
    go_wp2_with fail
    go_loopw [5] (fun i wr => ∃ k : Nat, k ≤ l.length ∧ i = .int .i64 k ∧ l.take k = m.take k ∧ Like w wr) (fun i _ => l.length - (intOf i).toNat)
    case atStart => exact ⟨0, Nat.zero_le _, rfl, rfl, ⟨rfl, rfl, rfl, rfl⟩⟩
    case round =>
      obtain ⟨k, hk, rfl, ht, hlk⟩ := hrel
      have HW := Lib.hid hlk
      have HT := Lib.hid ht
      clear hlk ht
      by_cases hlt : k < l.length
      · have hkm : k < m.length := by have := HN.out; omega
        obtain ⟨aa, e1, x1⟩ := HA.out (by omega)
        obtain ⟨ab, e2, x2⟩ := HB.out (by omega)
        subst e1; subst e2
        obtain ⟨u1, cu1, hs1⟩ := x1 k l[k] (List.getElem?_eq_getElem hlt)
        obtain ⟨u2, cu2, hs2⟩ := x2 k m[k] (List.getElem?_eq_getElem hkm)
        have ca' := HW.out.cell cu1
        have cb' := HW.out.cell cu2
        have i0 : (0 : Int) ≤ (k : Int) := by omega
        have i1 : (k : Int) < (l.length : Int) := by omega
        have i2 : (k : Int) < (m.length : Int) := by omega
        have hsame := fun (W : World) (hW : Like w W) => same_any (w := W) (hs1.like hW) (hs2.like hW) (HLE.out _ (List.getElem_mem hlt)) (HME.out _ (List.getElem_mem hkm))
        have HC1 := Lib.hid cu1
        have HC2 := Lib.hid cu2
        have htm := take_more hlt hkm HT.out
        have HTM := Lib.hid htm
        by_cases heq : l[k] = m[k]
        · rw [decide_eq_true heq] at hsame
          have HS := Lib.hid hsame
          have HEQ := Lib.hid heq
          clear x1 x2 cu1 cu2 hs1 hs2 hsame htm heq
          go_wp2_with fail
          go_region_held3 (fun w' => w'.cell? (aa.add k) = some u1 ∧ w'.cell? (ab.add k) = some u2) (first | (exact ⟨q1, q2⟩) | (exact ⟨ca', cb'⟩) | go_keep) (first | (go_at_call 24; refine (HS.out wr.drew (HW.out.trans (show Like wr wr.drew from ⟨rfl, rfl, rfl, rfl⟩))).mono ?_; rintro r w2 ⟨rfl, hlk2⟩; have hl2 := (HW.out.trans (show Like wr wr.drew from ⟨rfl, rfl, rfl, rfl⟩)).trans hlk2; have q1 := hl2.cell HC1.out; have q2 := hl2.cell HC2.out))
          go_wp2
          go_roundw
          case rel => exact ⟨k + 1, by omega, by go_num, HTM.out.2 HEQ.out, hl2⟩
          case measure => simp [intOf]; omega
        · rw [decide_eq_false heq] at hsame
          have HS := Lib.hid hsame
          have HEQ := Lib.hid heq
          clear x1 x2 cu1 cu2 hs1 hs2 hsame htm heq
          go_wp2_with fail
          go_region_held3 (fun w' => w'.cell? (aa.add k) = some u1 ∧ w'.cell? (ab.add k) = some u2) (first | (exact ⟨q1, q2⟩) | (exact ⟨ca', cb'⟩) | go_keep) (first | (go_at_call 24; refine (HS.out wr.drew (HW.out.trans (show Like wr wr.drew from ⟨rfl, rfl, rfl, rfl⟩))).mono ?_; rintro r w2 ⟨rfl, hlk2⟩; have hl2 := (HW.out.trans (show Like wr wr.drew from ⟨rfl, rfl, rfl, rfl⟩)).trans hlk2; have q1 := hl2.cell HC1.out; have q2 := hl2.cell HC2.out))
          go_wp2
          go_ret
          refine ⟨?_, hl2⟩
          rw [decide_eq_false (fun e => HEQ.out (by subst e; rfl))]; rfl
      · have hk0 : k = l.length := by omega
        subst hk0
        have i1 : ¬ (l.length : Int) < (l.length : Int) := by omega
        go_wp2
        go_ret
        refine ⟨?_, HW.out⟩
        have h := HT.out
        rw [List.take_length, HN.out, List.take_length] at h
        rw [decide_eq_true h]; rfl
  · have b1 : ((l.length : Int) != (m.length : Int)) = true := by rw [bne_iff_ne]; omega
    have HN := Lib.hid hn
    clear hn
    go_enter Tryz.func20, Tryz.ntmps20
    go_wp2
    go_ret
    refine ⟨?_, ⟨rfl, rfl, rfl, rfl⟩⟩
    rw [decide_eq_false (fun e => HN.out (by rw [e]))]; rfl
end
end Go.Proofs.YtjjajnfkngfpjaaGreatDoor
