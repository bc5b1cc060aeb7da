/-
  rising: a map's keys, by rising bytes, in new memory.
-/
import Derived.Test.YtnlanemldapfiaaGreatVTree
import Derived.Test.YtnlanemldapfiaaGreatVText
import Derived.Maps.OwnSet
import Derived.Maps.OwnIn
import Derived.Maps.RangeWalk
import Derived.Sort.KeysCollected
import Derived.WalkKit
import Derived.WalkSpells
import Derived.WalkLawsBesides
import Derived.Shelf.Sort.Plain
import Derived.Shelf.Slices.In.SortNone
import Derived.Sort.OwnSorted
namespace Go.Proofs
open Go.Shelf
def Tryz.lays190_ren : Go.Shelf.Ren := ⟨fun | 190 => 59 | 125 => 93 | 258 => 92 | 128 => 121 | 129 => 122 | 302 => 112 | 303 => 113 | 304 => 114 | 305 => 115 | 306 => 116 | 307 => 117 | 308 => 118 | 309 => 119 | 310 => 120 | 333 => 125 | 329 => 126 | 330 => 127 | 334 => 128 | 335 => 129 | 336 => 107 | 344 => 131 | n => n, fun | 31 => 53 | 9 => 9 | 3 => 3 | 46 => 145 | 0 => 0 | 51 => 58 | 53 => 163 | 4 => 4 | 183 => 154 | 182 => 153 | 131 => 159 | 5 => 5 | 218 => 165 | 222 => 169 | 228 => 171 | 229 => 172 | n => n, fun | n => n⟩
theorem Tryz.lays190 : Go.Proofs.Lays.n190 Tryz.prog Tryz.lays190_ren := {
  mixed := by kernel_rfl
  f125 := Tryz.func93.trans (congrArg some (by kernel_rfl))
  f128 := Tryz.func121.trans (congrArg some (by kernel_rfl))
  f129 := Tryz.func122.trans (congrArg some (by kernel_rfl))
  f190 := Tryz.func59.trans (congrArg some (by kernel_rfl))
  f258 := Tryz.func92.trans (congrArg some (by kernel_rfl))
  f302 := Tryz.func112.trans (congrArg some (by kernel_rfl))
  f303 := Tryz.func113.trans (congrArg some (by kernel_rfl))
  f304 := Tryz.func114.trans (congrArg some (by kernel_rfl))
  f305 := Tryz.func115.trans (congrArg some (by kernel_rfl))
  f306 := Tryz.func116.trans (congrArg some (by kernel_rfl))
  f307 := Tryz.func117.trans (congrArg some (by kernel_rfl))
  f308 := Tryz.func118.trans (congrArg some (by kernel_rfl))
  f309 := Tryz.func119.trans (congrArg some (by kernel_rfl))
  f310 := Tryz.func120.trans (congrArg some (by kernel_rfl))
  f329 := Tryz.func126.trans (congrArg some (by kernel_rfl))
  f330 := Tryz.func127.trans (congrArg some (by kernel_rfl))
  f333 := Tryz.func125.trans (congrArg some (by kernel_rfl))
  f334 := Tryz.func128.trans (congrArg some (by kernel_rfl))
  f335 := Tryz.func129.trans (congrArg some (by kernel_rfl))
  f336 := Tryz.func107.trans (congrArg some (by kernel_rfl))
  f344 := Tryz.func131.trans (congrArg some (by kernel_rfl))
  t0 := Tryz.underlying0
  a0 := Tryz.isAgg0
  z0 := Tryz.sizeOf0
  v0 := Tryz.zeroValue0
  t3 := Tryz.underlying3
  a3 := Tryz.isAgg3
  z3 := Tryz.sizeOf3
  v3 := Tryz.zeroValue3
  t4 := Tryz.underlying4
  a4 := Tryz.isAgg4
  z4 := Tryz.sizeOf4
  v4 := Tryz.zeroValue4
  t5 := Tryz.underlying5
  a5 := Tryz.isAgg5
  z5 := Tryz.sizeOf5
  v5 := Tryz.zeroValue5
  t9 := Tryz.underlying9
  a9 := Tryz.isAgg9
  z9 := Tryz.sizeOf9
  v9 := Tryz.zeroValue9
  t31 := Tryz.underlying53
  a31 := Tryz.isAgg53
  z31 := Tryz.sizeOf53
  v31 := Tryz.zeroValue53
  t46 := Tryz.underlying145
  a46 := Tryz.isAgg145
  z46 := Tryz.sizeOf145
  v46 := Tryz.zeroValue145
  t51 := Tryz.underlying58
  a51 := Tryz.isAgg58
  z51 := Tryz.sizeOf58
  v51 := Tryz.zeroValue58
  t53 := Tryz.underlying163
  a53 := Tryz.isAgg163
  z53 := Tryz.sizeOf163
  v53 := Tryz.zeroValue163
  t131 := Tryz.underlying159
  a131 := Tryz.isAgg159
  z131 := Tryz.sizeOf159
  v131 := Tryz.zeroValue159
  t182 := Tryz.underlying153
  a182 := Tryz.isAgg153
  z182 := Tryz.sizeOf153
  v182 := Tryz.zeroValue153
  t183 := Tryz.underlying154
  a183 := Tryz.isAgg154
  z183 := Tryz.sizeOf154
  v183 := Tryz.zeroValue154
  t218 := Tryz.underlying165
  a218 := Tryz.isAgg165
  z218 := Tryz.sizeOf165
  v218 := Tryz.zeroValue165
  t222 := Tryz.underlying169
  a222 := Tryz.isAgg169
  z222 := Tryz.sizeOf169
  v222 := Tryz.zeroValue169
  t228 := Tryz.underlying171
  a228 := Tryz.isAgg171
  z228 := Tryz.sizeOf171
  v228 := Tryz.zeroValue171
  t229 := Tryz.underlying172
  a229 := Tryz.isAgg172
  z229 := Tryz.sizeOf172
  v229 := Tryz.zeroValue172 }
end Go.Proofs
namespace Go.Proofs.YtnlanemldapfiaaGreat.se
open Go.RowKit Go.Maps Go.WideMaps Go.Sort Go.Shelf Go.Proofs.YtnlanemldapfiaaGreat.Tb

theorem sort_some (blk off cap : Nat) (ss : List (List UInt8)) (w : World) (hH : Holds encStr w blk off ss.toArray) (hblk : blk < w.heap.size) (hsz : ss.length < 4611686018427387904) :
    Calls Tryz.prog 59 #[.slice (some ⟨blk, off, none⟩) ss.length cap] w fun e w' =>
      e = .returned (.tuple #[]) ∧ ∃ n os, w' = grow (putRow encStr (Sort.ahead w n) blk off (ss.mergeSort fun x y => decide (x ≤ y)).toArray) os :=
  Any.slices_Sort_string Tryz.lays190 blk off cap ss w hH hblk hsz

/-- a slice of strings of the call's own, sorted: it owns the sorted list -/
theorem sort_any {w : World} {base n : Nat} {v : Value} {ss : List (List UInt8)} (hrow : w.ownsRow base 9 1 v ss.length (ss.map encStr)) (hn : ss.length = n) (hsz : n < 4611686018427387904) :
    Calls Tryz.prog 59 #[v] w fun e w' => e = .returned (.tuple #[]) ∧ w'.ownsRow base 9 1 v ss.length ((ss.mergeSort leB).map encStr) ∧ w.grownBy w' v.ownBlock := by
  subst hn
  rcases hrow.2 with ⟨rfl, h0⟩ | ⟨g, cap, cur, rfl, hbase, hb, h1, h2, h3, h4⟩
  · obtain rfl : ss = [] := List.eq_nil_of_length_eq_zero h0
    refine (Any.slices_Sort_string_none Tryz.lays190 none 0 w).mono ?_
    rintro e w' ⟨rfl, rfl⟩
    exact ⟨rfl, by simpa using hrow, World.grownBy.refl _ _⟩
  · refine (sort_some g 0 cap ss w (holds_of_block hb (by simpa using h4)) (Array.getElem?_eq_some_iff.1 hb).1 hsz).mono ?_
    rintro e w' ⟨rfl, nn, os, rfl⟩
    exact ⟨rfl, ownsRow_sorted (by simp) hbase hb h1 h2 h3, grownBy_sorted _⟩

theorem infoString : (Tryz.prog.info? 9).map (fun i => (i.zero, i.size, i.bytes)) = some (some (.string ⟨#[]⟩), 1, 16) := by kernel_rfl
theorem lawS : Keyed Tryz.prog 9 := string_keyed Tryz.underlying9

/-- a sum in a map -/
abbrev totV (p : Int × Int) : Value := .agg #[.string ⟨#[]⟩, .int .i64 p.1, .int .i64 p.2]
abbrev totD (p : Int × Int) : DataW Unit := .agg [.lit (.int .i64 p.1), .lit (.int .i64 p.2)]
open Classical in
/-- how a sum reads -/
noncomputable def totElem (v : Value) : Option (DataW Unit × List MemPlace) := if h : ∃ p : Int × Int, v = totV p then some (totD (Classical.choose h), []) else none

theorem totElem_mk (p : Int × Int) : totElem (totV p) = some (totD p, []) := by
  have h : ∃ q : Int × Int, totV p = totV q := ⟨p, rfl⟩
  have e := Classical.choose_spec h
  unfold totElem
  rw [dif_pos h]
  generalize Classical.choose h = c at e
  simp only [totV, Value.agg.injEq, Array.mk.injEq, List.cons.injEq, Value.int.injEq, and_true, true_and] at e
  rw [show p = c from Prod.ext e.1 e.2]

theorem totElem_inv {v : Value} {y : DataW Unit × List MemPlace} (h : totElem v = some y) : ∃ p, v = totV p ∧ y = (totD p, []) := by
  unfold totElem at h
  split at h
  · rename_i hp
    cases h
    exact ⟨_, Classical.choose_spec hp, rfl⟩
  · cases h

section
variable {w w' : World}

theorem grow_of (h : Turn (fun _ => False) w w') : w.grownBy w' none := ⟨h.os, h.tape, h.output, h.size, fun k hk _ => h.block k hk (fun q => q)⟩

set_option maxRecDepth 100000 in
set_option maxHeartbeats 1000000 in
theorem rising_any {mb n : Nat} {D : DataW Unit} (hown : w.ownsMap Tryz.prog 9 totElem mb n D) (hn : n ≤ 1000) (hks : ∀ x, Maps.has D (.string x) = true → x.length ≤ 281474976710656) :
    Calls Tryz.prog 30 #[.map (some mb)] w fun r w' => ∃ (v : Value) (met : List (List UInt8)), r = .returned v ∧ met.Nodup ∧ (∀ x, x ∈ met ↔ Maps.has D (.string x) = true) ∧ met.length ≤ n ∧ w'.ownsRow w.heap.size 9 1 v met.length ((met.mergeSort leB).map encStr) ∧ Turn (fun _ => False) w w' := by
  obtain ⟨i0, hi, hz0, hz1, hz2⟩ := info_parts infoString
  have hbl := hown.lt
  have HKS := Lib.hid hks
  have HM := Lib.hid (Nat.le_trans hown.size_le hn)
  have HSZ := Lib.hid hown.size_le
  clear hn hks
  go_enter Tryz.func30, Tryz.ntmps30
  go_wp2_with (at_range; refine wpList_range_own _ rfl _ 82 rfl 9 37 lawS Tryz.underlying82 _ mb _ D rfl hown ?_; intro w0 hrg0 hg0 hs0)
  go_frame
  go_loopw [3] (fun v wr => ∃ (left : Lit → Bool) (cnt : Nat) (met : List (List UInt8)), wr.ranges Tryz.prog 9 totElem mb w.heap.size n D left cnt ∧ met.length + cnt ≤ Maps.size D ∧
      wr.ownsRow w.heap.size 9 1 v met.length (met.map encStr) ∧ Collected D left met ∧ Below w.heap.size w wr)
    (fun _ wr => wr.rangeLeft mb w.heap.size)
  case atStart =>
    exact ⟨_, _, [], hrg0, by simp, World.ownsRow_nil _ _ _ _, Collected.start D, (Below.refl _ _).grown hg0 (Nat.le_refl _) (fun j hj => by cases hj)⟩
  case round =>
    obtain ⟨left, cnt, met, hrg, hcs, hrow, hC, hnx⟩ := hrel
    have HC := Lib.hid hC
    have HCS := Lib.hid hcs
    have HR := Lib.hid hrow
    clear hC hcs hrow
    go_wp2_with (at_next; refine wpList_next_ranges _ rfl _ rfl 9 lawS totElem encStr totV (fun key kl hk => by obtain ⟨x, hx, _⟩ := Maps.keyOf_str Tryz.underlying9 hk; exact ⟨x, hx⟩) (fun v y hv => by obtain ⟨p, rfl, _⟩ := totElem_inv hv; exact ⟨p, rfl⟩) mb w.heap.size _ _ _ _ rfl hrg ?_ ?_)
    · intro hc0 hl0
      have HL := Lib.hid hl0
      clear hl0 hc0
      have hlen : met.length < 4611686018427387904 := by
        have h2 := HCS.out
        have h3 := HM.out
        omega
      have HN := Lib.hid hlen
      clear hlen
      go_wp2_with (go_at_call 59; refine (sort_any HR.out rfl HN.out).mono ?_; rintro r w2 ⟨rfl, hrow2, hg2⟩)
      go_ret
      refine ⟨_, met, rfl, HC.out.1, fun x => ?_, ?_, hrow2, Below.turn (hnx.grown hg2 hnx.size (fun j hj => ?_)) _⟩
      · rw [HC.out.2 x, HL.out]; simp
      · have := HCS.out; have := HSZ.out; omega
      · exact (HR.out.lt j hj).1
    · intro x c1 c2 kl yd yp w2 cnt2 hkey hlk hv hat hrg2 hlt hg2 hs2 hen
      obtain ⟨x', ex, rfl, _⟩ := Maps.keyOf_str Tryz.underlying9 hkey
      obtain rfl : x = x' := encStr_inj ex
      have hrow2 := HR.out.kept hg2 (Or.inr (row_ne_iter HR.out hrg).symm)
      have hstep := HC.out.step hlk hat
      have hnx2 : Below w.heap.size w w2 := hnx.grown hg2 hnx.size (fun j hj => by cases hj; exact Nat.le_refl _)
      have HS := Lib.hid hstep
      have HR2 := Lib.hid hrow2
      have HCL := Lib.hid (clone_any ⟨x.toArray⟩ (by have h := HKS.out x ((hstep.2 x).1 (by simp)).1; simpa [ByteArray.size] using h) w2)
      have hlen : met.length + 1 ≤ 1000 := by
        have h2 := HCS.out
        have h3 := HM.out
        omega
      have HN := Lib.hid hlen
      clear hlen hs2 hstep hrow2 hkey hlk hat hv ex
      go_wp2_with (first | (go_at_call 54; refine HCL.out.mono ?_; rintro r w3 ⟨rfl, t3⟩) | (at_builtin; refine wpList_append_own _ rfl _ _ 53 rfl w.heap.size 9 i0 (.string ⟨#[]⟩) 1 16 Tryz.underlying53 hi hz0 hz1 hz2 rfl (by decide) _ _ _ rfl ((ownsRow_turned HR2.out t3 (fun _ _ q => q)).alloc _) ⟨w3.heap.size, 0, none⟩ 1 1 [encStr x] rfl rfl (cell_one_new _ _ _) (by simp [Value.oneCell', encStr]) (by have := HN.out; unfold maxLen; omega) (by have := HN.out; omega) (by have := hnx2.size; have := t3.size; simp; omega) ?_; intro v' w4 hown' hg4 hnil4; go_frame))
      have hr3 := ownsRow_turned HR2.out t3 (fun _ _ q => q)
      have hrg3 := hrg2.kept (grow_of t3) (by simp) (by simp)
      have hrg4 := (hrg3.alloc _).kept hg4 (row_ne_low hr3 hbl) (row_ne_iter hr3 hrg3)
      go_roundw
      case rel =>
        refine ⟨_, cnt2, met ++ [x], hrg4, by have := HCS.out; simp; omega, by simpa using hown', HS.out, ?_⟩
        exact ((hnx2.grown (grow_of t3) hnx2.size (fun j hj => by cases hj)).alloc (Nat.le_trans hnx2.size t3.size) _).grown hg4 (by have := hnx2.size; have := t3.size; simp; omega) (fun j hj => (hr3.lt j hj).1)
      case measure => rw [hrg4.left_eq, hrg.left_eq]; exact hlt
end
end Go.Proofs.YtnlanemldapfiaaGreat.se
