/-
  PARTS: Ops6, Ops7.
-/
import Derived.Test.YtinghngnehhgfaaGreatDoorFsC
import Derived.Shelf.Sort.Plain
import Derived.Shelf.Slices.In.SortNone
import Derived.Sort.OwnSorted
/-
  Read, Size, Arm, New; the plain questions.
-/
namespace Go.Proofs.YtinghngnehhgfaaGreatDoor
open Go.RowKit Go.Maps Go.WideMaps

section
variable {w w' : World} {p : Nat} {S S' : Fsp.Fs} {c c' : Bool} {Q : Nat → Prop} {mo : Option Nat} {pl : List UInt8 → Pl}

theorem read_none (h : RepX w p S c Q mo pl) (s : ByteArray) (hz : s.size ≤ maxLen) (hf : Fsp.find S.L s.data.toList = none) :
    Calls Tryz.prog 16 #[.pointer (some ⟨p, 0, none⟩), .string s] w fun r w' => r = .returned (.tuple #[.slice none 0 0, .int .i64 2]) ∧ w = w' := by
  have HF := Lib.hid hf
  clear hf
  go_enter Tryz.func16, Tryz.ntmps16
  go_wp2_with (go_at_call 38; refine (find_none h s hz HF.out).mono ?_; rintro r w' ⟨rfl, rfl⟩)
  go_ret2
  exact ⟨rfl, rfl⟩

theorem len_room (h : RepX w p S c Q mo pl) {n : List UInt8} {f : Fsp.File} (hf : Fsp.find S.L n = some f) : f.data.length ≤ 67108864 := by
  have h1 := Fsp.used_find hf
  have h2 := h.good.2.1
  have h3 := h.good.2.2.1
  omega

theorem read_some (h : RepX w p S c Q mo pl) (s : ByteArray) (hz : s.size ≤ maxLen) {f : Fsp.File} (hf : Fsp.find S.L s.data.toList = some f) :
    Calls Tryz.prog 16 #[.pointer (some ⟨p, 0, none⟩), .string s] w fun r w' => ∃ g, r = .returned (.tuple #[.slice (some ⟨g, 0, none⟩) f.data.length f.data.length, .int .i64 0]) ∧
      w'.ownsRow w.heap.size 5 1 (.slice (some ⟨g, 0, none⟩) f.data.length f.data.length) f.data.length (f.data.map byteV) ∧ Turn (fun _ => False) w w' := by
  obtain ⟨sp, cap, hsv, hlc, hcap, hfc⟩ := file_open h hf
  have f0 := hfc.c0
  have hown := (h.file _ f hf).2
  rw [hsv] at hown
  have hr := SliceR.of_own hown
  have hl := len_room h hf
  have HF := Lib.hid hf
  have HV := Lib.hid hsv
  have HO := Lib.hid hown
  have hl2 : f.data.length ≤ 281474976710656 := by omega
  have HL := Lib.hid hl2
  clear hf hsv hown hl hl2 hcap
  go_enter Tryz.func16, Tryz.ntmps16
  go_wp2_with (go_at_call 38; refine (find_some h s hz HF.out).mono ?_; rintro r w' ⟨rfl, rfl⟩)
  go_at_call 39
  refine (copied_any hr HL.out).mono ?_
  rintro r w2 ⟨g, rfl, ho, ht⟩
  go_wp2
  go_ret2
  exact ⟨g, rfl, ho, ht⟩

theorem size_none (h : RepX w p S c Q mo pl) (s : ByteArray) (hz : s.size ≤ maxLen) (hf : Fsp.find S.L s.data.toList = none) :
    Calls Tryz.prog 49 #[.pointer (some ⟨p, 0, none⟩), .string s] w fun r w' => r = .returned (.tuple #[.int .i64 0, .int .i64 2]) ∧ w = w' := by
  have HF := Lib.hid hf
  clear hf
  go_enter Tryz.func49, Tryz.ntmps49
  go_wp2_with (go_at_call 38; refine (find_none h s hz HF.out).mono ?_; rintro r w' ⟨rfl, rfl⟩)
  go_ret2
  exact ⟨rfl, rfl⟩

theorem size_some (h : RepX w p S c Q mo pl) (s : ByteArray) (hz : s.size ≤ maxLen) {f : Fsp.File} (hf : Fsp.find S.L s.data.toList = some f) :
    Calls Tryz.prog 49 #[.pointer (some ⟨p, 0, none⟩), .string s] w fun r w' => r = .returned (.tuple #[.int .i64 (f.data.length : Nat), .int .i64 0]) ∧ w = w' := by
  obtain ⟨sp, cap, hsv, hlc, hcap, hfc⟩ := file_open h hf
  have f0 := hfc.c0
  have HF := Lib.hid hf
  have HV := Lib.hid hsv
  clear hf hsv hcap
  go_enter Tryz.func49, Tryz.ntmps49
  go_wp2_with (go_at_call 38; refine (find_some h s hz HF.out).mono ?_; rintro r w' ⟨rfl, rfl⟩)
  go_ret2
  exact ⟨rfl, rfl⟩







theorem good_new (k : Int) : Fsp.Good (Fsp.new k) := ⟨List.Pairwise.nil, Nat.zero_le _, by simp only [Fsp.new]; omega, Nat.zero_le _, Nat.zero_le _, fun n f hf => by simp [Fsp.new, Fsp.find] at hf⟩

theorem new_any (k : Int) (w : World) :
    Calls Tryz.prog 6 #[.int .i64 k] w fun r w' => r = .returned (.pointer (some ⟨w.heap.size, 0, none⟩)) ∧ Rep w' w.heap.size (Fsp.new k) (fun b => w.heap.size ≤ b ∧ b < w'.heap.size) ∧ Turn (fun _ => False) w w' := by
  go_enter Tryz.func6, Tryz.ntmps6
  go_wp2
  go_ret
  have e : min (max k 0) 67108864 = (((Fsp.new k).room : Nat) : Int) := by simp only [Fsp.new]; omega
  have ht : Turn (fun _ => False) w (w.alloc (.cells #[.map none, .int .i64 (min (max k 0) 67108864), .int .i64 0, .int .i64 0, .int .i64 0, .bool false, .bool false] 49)) := (Turn.refl _ w).alloc _
  refine ⟨rfl, ⟨none, fun _ => ⟨0, .slice none 0 0⟩, ?_⟩, ht⟩
  have nofile : ∀ n, ¬ (Fsp.find (Fsp.new k).L n).isSome := fun n hn => by simp [Fsp.new, Fsp.find] at hn
  exact { good := good_new k, head := by rw [heap_alloc_new, e]; rfl, map := (rfl : (Fsp.new k).L = []), file := fun n f hf => absurd (by rw [hf]; rfl) (nofile n), apartF := fun n _ hn => absurd hn (nofile n), apartR := fun n _ hn => absurd hn (nofile n), inP := ⟨Nat.le_refl _, by simp⟩, inM := fun mb e => (by cases e), inF := fun n hn => absurd hn (nofile n), inR := fun n hn => absurd hn (nofile n), lt := fun b hb => hb.2 }

end
end Go.Proofs.YtinghngnehhgfaaGreatDoor

/-
  Names.
-/
namespace Go.Proofs
open Go.Shelf
def Tryz.lays190_ren : Go.Shelf.Ren := ⟨fun | 190 => 37 | 125 => 54 | 258 => 53 | 128 => 73 | 129 => 74 | 302 => 64 | 303 => 65 | 304 => 66 | 305 => 67 | 306 => 68 | 307 => 69 | 308 => 70 | 309 => 71 | 310 => 72 | 333 => 83 | 329 => 84 | 330 => 85 | 334 => 86 | 335 => 87 | 336 => 88 | 344 => 95 | n => n, fun | 31 => 39 | 9 => 9 | 3 => 3 | 46 => 79 | 0 => 0 | 51 => 59 | 53 => 107 | 4 => 4 | 183 => 99 | 182 => 98 | 131 => 103 | 5 => 5 | 218 => 115 | 222 => 119 | 228 => 128 | 229 => 129 | n => n, fun | n => n⟩
theorem Tryz.lays190 : Go.Proofs.Lays.n190 Tryz.prog Tryz.lays190_ren := {
  mixed := by kernel_rfl
  f125 := Tryz.func54.trans (congrArg some (by kernel_rfl))
  f128 := Tryz.func73.trans (congrArg some (by kernel_rfl))
  f129 := Tryz.func74.trans (congrArg some (by kernel_rfl))
  f190 := Tryz.func37.trans (congrArg some (by kernel_rfl))
  f258 := Tryz.func53.trans (congrArg some (by kernel_rfl))
  f302 := Tryz.func64.trans (congrArg some (by kernel_rfl))
  f303 := Tryz.func65.trans (congrArg some (by kernel_rfl))
  f304 := Tryz.func66.trans (congrArg some (by kernel_rfl))
  f305 := Tryz.func67.trans (congrArg some (by kernel_rfl))
  f306 := Tryz.func68.trans (congrArg some (by kernel_rfl))
  f307 := Tryz.func69.trans (congrArg some (by kernel_rfl))
  f308 := Tryz.func70.trans (congrArg some (by kernel_rfl))
  f309 := Tryz.func71.trans (congrArg some (by kernel_rfl))
  f310 := Tryz.func72.trans (congrArg some (by kernel_rfl))
  f329 := Tryz.func84.trans (congrArg some (by kernel_rfl))
  f330 := Tryz.func85.trans (congrArg some (by kernel_rfl))
  f333 := Tryz.func83.trans (congrArg some (by kernel_rfl))
  f334 := Tryz.func86.trans (congrArg some (by kernel_rfl))
  f335 := Tryz.func87.trans (congrArg some (by kernel_rfl))
  f336 := Tryz.func88.trans (congrArg some (by kernel_rfl))
  f344 := Tryz.func95.trans (congrArg some (by kernel_rfl))
  t0 := Tryz.underlying0
  a0 := Tryz.isAgg0
  z0 := Tryz.sizeOf0
  v0 := Tryz.zeroValue0
  t3 := Tryz.underlying3
  a3 := Tryz.isAgg3
  z3 := Tryz.sizeOf3
  v3 := Tryz.zeroValue3
  t4 := Tryz.underlying4
  a4 := Tryz.isAgg4
  z4 := Tryz.sizeOf4
  v4 := Tryz.zeroValue4
  t5 := Tryz.underlying5
  a5 := Tryz.isAgg5
  z5 := Tryz.sizeOf5
  v5 := Tryz.zeroValue5
  t9 := Tryz.underlying9
  a9 := Tryz.isAgg9
  z9 := Tryz.sizeOf9
  v9 := Tryz.zeroValue9
  t31 := Tryz.underlying39
  a31 := Tryz.isAgg39
  z31 := Tryz.sizeOf39
  v31 := Tryz.zeroValue39
  t46 := Tryz.underlying79
  a46 := Tryz.isAgg79
  z46 := Tryz.sizeOf79
  v46 := Tryz.zeroValue79
  t51 := Tryz.underlying59
  a51 := Tryz.isAgg59
  z51 := Tryz.sizeOf59
  v51 := Tryz.zeroValue59
  t53 := Tryz.underlying107
  a53 := Tryz.isAgg107
  z53 := Tryz.sizeOf107
  v53 := Tryz.zeroValue107
  t131 := Tryz.underlying103
  a131 := Tryz.isAgg103
  z131 := Tryz.sizeOf103
  v131 := Tryz.zeroValue103
  t182 := Tryz.underlying98
  a182 := Tryz.isAgg98
  z182 := Tryz.sizeOf98
  v182 := Tryz.zeroValue98
  t183 := Tryz.underlying99
  a183 := Tryz.isAgg99
  z183 := Tryz.sizeOf99
  v183 := Tryz.zeroValue99
  t218 := Tryz.underlying115
  a218 := Tryz.isAgg115
  z218 := Tryz.sizeOf115
  v218 := Tryz.zeroValue115
  t222 := Tryz.underlying119
  a222 := Tryz.isAgg119
  z222 := Tryz.sizeOf119
  v222 := Tryz.zeroValue119
  t228 := Tryz.underlying128
  a228 := Tryz.isAgg128
  z228 := Tryz.sizeOf128
  v228 := Tryz.zeroValue128
  t229 := Tryz.underlying129
  a229 := Tryz.isAgg129
  z229 := Tryz.sizeOf129
  v229 := Tryz.zeroValue129 }
end Go.Proofs
namespace Go.Proofs.YtinghngnehhgfaaGreatDoor
open Go.RowKit Go.Maps Go.WideMaps Go.Sort

section
variable {w w' : World} {p : Nat} {S S' : Fsp.Fs} {c c' : Bool} {Q : Nat → Prop} {mo : Option Nat} {pl : List UInt8 → Pl}

theorem sort_some (blk off cap : Nat) (ss : List (List UInt8)) (w : World) (hH : Holds encStr w blk off ss.toArray) (hblk : blk < w.heap.size) (hsz : ss.length < 4611686018427387904) :
    Calls Tryz.prog 37 #[.slice (some ⟨blk, off, none⟩) ss.length cap] w fun e w' =>
      e = .returned (.tuple #[]) ∧ ∃ n os, w' = grow (putRow encStr (Sort.ahead w n) blk off (ss.mergeSort fun x y => decide (x ≤ y)).toArray) os :=
  Any.slices_Sort_string Tryz.lays190 blk off cap ss w hH hblk hsz

/-- a slice of strings of the call's own, sorted: it owns the sorted list -/
theorem sort_any {base n : Nat} {v : Value} {ss : List (List UInt8)} (hrow : w.ownsRow base 9 1 v ss.length (ss.map encStr)) (hn : ss.length = n) (hsz : n < 4611686018427387904) :
    Calls Tryz.prog 37 #[v] w fun e w' => e = .returned (.tuple #[]) ∧ w'.ownsRow base 9 1 v ss.length ((ss.mergeSort leB).map encStr) ∧ w.grownBy w' v.ownBlock := by
  subst hn
  rcases hrow.2 with ⟨rfl, h0⟩ | ⟨g, cap, cur, rfl, hbase, hb, h1, h2, h3, h4⟩
  · obtain rfl : ss = [] := List.eq_nil_of_length_eq_zero h0
    refine (Any.slices_Sort_string_none Tryz.lays190 none 0 w).mono ?_
    rintro e w' ⟨rfl, rfl⟩
    exact ⟨rfl, by simpa using hrow, World.grownBy.refl _ _⟩
  · refine (sort_some g 0 cap ss w (holds_of_block hb (by simpa using h4)) (Array.getElem?_eq_some_iff.1 hb).1 hsz).mono ?_
    rintro e w' ⟨rfl, nn, os, rfl⟩
    exact ⟨rfl, ownsRow_sorted (by simp) hbase hb h1 h2 h3, grownBy_sorted _⟩

theorem infoString : (Tryz.prog.info? 9).map (fun i => (i.zero, i.size, i.bytes)) = some (some (.string ⟨#[]⟩), 1, 16) := by kernel_rfl

/-- the names' list, sorted already: any order in which it was met sorts to it -/
theorem names_sorted {D : DataW Unit} {left : Lit → Bool} {met : List (List UInt8)} (hs : Fsp.Sorted S.L) (hag : Agree D S.L pl) (hC : Collected D left met) (hl : ∀ kl, left kl = false) (f : List UInt8) :
    (met.filter fun n => f.isPrefixOf n).mergeSort leB = Fsp.names S f := by
  have hmem : ∀ x, x ∈ met ↔ x ∈ S.L.map (·.1) := fun x => by
    rw [hC.2 x, hl, hag.has x, Fsp.find_isSome]; simp
  have hnd : (S.L.map (·.1)).Nodup := List.pairwise_map.2 (hs.imp fun {a b} hlt e => by rw [e] at hlt; exact Fsp.lt_irrefl' _ hlt)
  have hp : (met.filter fun n => f.isPrefixOf n).Perm (Fsp.names S f) := by
    unfold Fsp.names
    exact ((List.perm_ext_iff_of_nodup hC.1 hnd).2 hmem).filter _
  rw [mergeSort_of_perm hp]
  refine List.mergeSort_of_pairwise ?_
  unfold Fsp.names
  refine List.Pairwise.filter _ (List.pairwise_map.2 (hs.imp fun {a b} hlt => ?_))
  simp only [leB, decide_eq_true_eq]
  exact List.le_of_lt hlt

theorem hasPrefix_is (x : List UInt8) (s : ByteArray) (b : Bool) (hb : s.data.toList.isPrefixOf x = b) : Calls Tryz.prog 36 #[encStr x, .string s] w fun r w' => r = .returned (.bool b) ∧ w = w' := by
  refine (hasPrefix_any ⟨x.toArray⟩ s w).mono ?_
  rintro r w' ⟨rfl, rfl⟩
  refine ⟨?_, rfl⟩
  simp [Lib.hasPrefix, hb]

set_option maxRecDepth 100000 in
set_option maxHeartbeats 1000000 in
theorem names_some {mb : Nat} (h : RepX w p S c Q (some mb) pl) (s : ByteArray) :
    Calls Tryz.prog 15 #[.pointer (some ⟨p, 0, none⟩), .string s] w fun r w' => ∃ v, r = .returned v ∧ w'.ownsRow w.heap.size 9 1 v (Fsp.names S s.data.toList).length ((Fsp.names S s.data.toList).map encStr) ∧ Turn (fun _ => False) w w' := by
  obtain ⟨i0, hi, hz0, hz1, hz2⟩ := info_parts infoString
  obtain ⟨D, hown, hag⟩ := h.map
  have c0 := h.cells.c0
  have hbl := hown.lt
  have hmax : Maps.size D ≤ 400 := by rw [hag.size]; exact h.good.2.2.2.1
  have HM := Lib.hid hmax
  clear hmax
  go_enter Tryz.func15, Tryz.ntmps15
  go_wp2_with (at_range; refine wpList_range_own _ rfl _ 47 rfl 9 64 lawS Tryz.underlying47 _ mb _ D rfl hown ?_; intro w0 hrg0 hg0 hs0)
  go_frame
  go_loopw [5] (fun v wr => ∃ (left : Lit → Bool) (cnt : Nat) (met : List (List UInt8)), wr.ranges Tryz.prog 9 ptrElem mb w.heap.size S.L.length D left cnt ∧ met.length + cnt ≤ Maps.size D ∧
      wr.ownsRow w.heap.size 9 1 v (met.filter fun n => s.data.toList.isPrefixOf n).length ((met.filter fun n => s.data.toList.isPrefixOf n).map encStr) ∧ Collected D left met ∧ Below w.heap.size w wr)
    (fun _ wr => wr.rangeLeft mb w.heap.size)
  case atStart =>
    exact ⟨_, _, [], hrg0, by simp, World.ownsRow_nil _ _ _ _, Collected.start D, (Below.refl _ _).grown hg0 (Nat.le_refl _) (fun j hj => by cases hj)⟩
  case round =>
    obtain ⟨left, cnt, met, hrg, hcs, hrow, hC, hnx⟩ := hrel
    have HC := Lib.hid hC
    have HCS := Lib.hid hcs
    have HR := Lib.hid hrow
    clear hC hcs hrow
    go_wp2_with (at_next; refine wpList_next_ranges _ rfl _ rfl 9 lawS ptrElem encStr Value.pointer (fun key kl hk => by obtain ⟨x, hx, _⟩ := Maps.keyOf_str Tryz.underlying9 hk; exact ⟨x, hx⟩) (fun v y hv => by rcases ptrElem_shape hv with ⟨rfl, _⟩ | ⟨b, rfl, _⟩; exact ⟨_, rfl⟩; exact ⟨_, rfl⟩) mb w.heap.size _ _ _ _ rfl hrg ?_ ?_)
    · intro hc0 hl0
      have HL := Lib.hid hl0
      clear hl0 hc0
      have hlen : (met.filter fun n => s.data.toList.isPrefixOf n).length < 4611686018427387904 := by
        have h1 := List.length_filter_le (fun n => s.data.toList.isPrefixOf n) met
        have h2 := HCS.out
        have h3 := HM.out
        omega
      have HN := Lib.hid hlen
      clear hlen
      go_wp2_with (go_at_call 37; refine (sort_any HR.out rfl HN.out).mono ?_; rintro r w2 ⟨rfl, hrow2, hg2⟩)
      go_ret
      rw [names_sorted h.good.1 hag HC.out HL.out] at hrow2
      have hl2 : (met.filter fun n => s.data.toList.isPrefixOf n).length = (Fsp.names S s.data.toList).length := by
        rw [← names_sorted h.good.1 hag HC.out HL.out]; simp
      rw [hl2] at hrow2
      refine ⟨_, rfl, hrow2, Below.turn (hnx.grown hg2 hnx.size (fun j hj => ?_)) _⟩
      exact (HR.out.lt j hj).1
    · intro x c kl yd yp w2 cnt2 hkey hlk hv hat hrg2 hlt hg2 hs2 hen
      obtain ⟨x', ex, rfl, _⟩ := Maps.keyOf_str Tryz.underlying9 hkey
      obtain rfl : x = x' := encStr_inj ex
      have hrow2 := HR.out.kept hg2 (Or.inr (row_ne_iter HR.out hrg).symm)
      have hstep := HC.out.step hlk hat
      have hnx2 : Below w.heap.size w w2 := hnx.grown hg2 hnx.size (fun j hj => by cases hj; exact Nat.le_refl _)
      have HS := Lib.hid hstep
      have HR2 := Lib.hid hrow2
      clear hs2 hstep hrow2 hkey hlk hat hv ex
      cases hpf : s.data.toList.isPrefixOf x with
      | false =>
        have HP := Lib.hid hpf
        clear hpf
        go_wp2_with (go_at_call 36; refine (hasPrefix_is x s _ HP.out).mono ?_; rintro r w' ⟨rfl, rfl⟩)
        go_roundw
        case rel =>
          have e : ((met ++ [x]).filter fun n => s.data.toList.isPrefixOf n) = met.filter fun n => s.data.toList.isPrefixOf n := by simp [List.filter_append, HP.out]
          exact ⟨_, cnt2, met ++ [x], hrg2, by have := HCS.out; simp; omega, by rw [e]; exact HR2.out, HS.out, hnx2⟩
        case measure => rw [hrg2.left_eq, hrg.left_eq]; exact hlt
      | true =>
        have HP := Lib.hid hpf
        clear hpf
        have hlen : (met.filter fun n => s.data.toList.isPrefixOf n).length + 1 ≤ 1000 := by
          have h1 := List.length_filter_le (fun n => s.data.toList.isPrefixOf n) met
          have h2 := HCS.out
          have h3 := HM.out
          omega
        have HN := Lib.hid hlen
        clear hlen
        go_wp2_with (first | (go_at_call 36; refine (hasPrefix_is x s _ HP.out).mono ?_; rintro r w' ⟨rfl, rfl⟩) | (at_builtin; refine wpList_append_own _ rfl _ _ 39 rfl w.heap.size 9 i0 (.string ⟨#[]⟩) 1 16 Tryz.underlying39 hi hz0 hz1 hz2 rfl (by decide) _ _ _ rfl (HR2.out.alloc _) ⟨w2.heap.size, 0, none⟩ 1 1 [encStr x] rfl rfl (cell_one_new _ _ _) (by simp [Value.oneCell', encStr]) (by have := HN.out; unfold maxLen; omega) (by have := HN.out; omega) (by have := hnx2.size; simp; omega) ?_; intro v' w3 hown' hg3 hnil3; go_frame))
        have hrg3 := (hrg2.alloc _).kept hg3 (row_ne_low HR2.out hbl) (row_ne_iter HR2.out hrg2)
        go_roundw
        case rel =>
          have e : ((met ++ [x]).filter fun n => s.data.toList.isPrefixOf n) = (met.filter fun n => s.data.toList.isPrefixOf n) ++ [x] := by simp [List.filter_append, HP.out]
          refine ⟨_, cnt2, met ++ [x], hrg3, by have := HCS.out; simp; omega, by rw [e]; simpa using hown', HS.out, ?_⟩
          exact (hnx2.alloc hnx2.size _).grown hg3 (by have := hnx2.size; simp; omega) (fun j hj => (HR2.out.lt j hj).1)
        case measure => rw [hrg3.left_eq, hrg.left_eq]; exact hlt

theorem names_nil (h : RepX w p S c Q none pl) (s : ByteArray) :
    Calls Tryz.prog 15 #[.pointer (some ⟨p, 0, none⟩), .string s] w fun r w' => ∃ v, r = .returned v ∧ w'.ownsRow w.heap.size 9 1 v (Fsp.names S s.data.toList).length ((Fsp.names S s.data.toList).map encStr) ∧ Turn (fun _ => False) w w' := by
  have hL : S.L = [] := h.map
  have hnm : Fsp.names S s.data.toList = [] := by simp [Fsp.names, hL]
  rw [hnm]
  have c0 := h.cells.c0
  clear hL hnm
  have hrg := run_range_nilMap (P := Tryz.prog) w 47 9 64 Tryz.underlying47
  have hnx : ∀ ty, (Instr.next (.pointer (some ⟨w.heap.size, 0, none⟩)) false ty).run Tryz.prog (w.alloc (.mapIter none 0 #[] 0)) = _ := fun ty => run_next_nilMap w ty 0 0 #[]
  go_enter Tryz.func15, Tryz.ntmps15
  go_wp2_with fail
  refine wp_loop_rounds 1 ?_
  rw [rounds_succ]
  go_wp2_with (go_at_call 37; refine (sort_any (base := w.heap.size) (ss := []) (World.ownsRow_nil _ _ _ _) rfl (by decide)).mono ?_; rintro r w2 ⟨rfl, hrow2, hg2⟩)
  go_ret
  exact ⟨_, rfl, by simpa using hrow2, ((Turn.refl (fun _ => False) w).alloc _).grown hg2 (fun k e => by cases e)⟩

/-- Names: a new slice of the names, rising -/
theorem names_any (h : RepX w p S c Q mo pl) (s : ByteArray) :
    Calls Tryz.prog 15 #[.pointer (some ⟨p, 0, none⟩), .string s] w fun r w' => ∃ v, r = .returned v ∧ w'.ownsRow w.heap.size 9 1 v (Fsp.names S s.data.toList).length ((Fsp.names S s.data.toList).map encStr) ∧ Turn (fun _ => False) w w' := by
  cases mo with
  | none => exact names_nil h s
  | some mb => exact names_some h s

end
end Go.Proofs.YtinghngnehhgfaaGreatDoor
