/-
  PARTS: Ops6, Ops7.
-/
import Derived.Test.YtpaekggmphahoaaFpC
import Derived.Shelf.Sort.Plain
import Derived.Shelf.Slices.In.SortNone
import Derived.Sort.OwnSorted
/-
  Read, Size, Arm, New; the plain questions.
-/
namespace Go.Proofs.Ytpaekggmphahoaa
open Go.RowKit Go.Maps Go.WideMaps

section
variable {w w' : World} {p : Nat} {S S' : Fsp.Fs} {c c' : Bool} {Q : Nat → Prop} {mo : Option Nat} {pl : List UInt8 → Pl}

theorem read_none (h : RepX w p S c Q mo pl) (s : ByteArray) (hz : s.size ≤ maxLen) (hf : Fsp.find S.L s.data.toList = none) :
    Calls Try.prog 19 #[.pointer (some ⟨p, 0, none⟩), .string s] w fun r w' => r = .returned (.tuple #[.slice none 0 0, .int .i64 2]) ∧ w = w' := by
  have HF := Lib.hid hf
  clear hf
  go_enter Try.func19, Try.ntmps19
  go_wp2_with (go_at_call 24; refine (find_none h s hz HF.out).mono ?_; rintro r w' ⟨rfl, rfl⟩)
  go_ret2
  exact ⟨rfl, rfl⟩

theorem len_room (h : RepX w p S c Q mo pl) {n : List UInt8} {f : Fsp.File} (hf : Fsp.find S.L n = some f) : f.data.length ≤ 67108864 := by
  have h1 := Fsp.used_find hf
  have h2 := h.good.2.1
  have h3 := h.good.2.2.1
  omega

theorem read_some (h : RepX w p S c Q mo pl) (s : ByteArray) (hz : s.size ≤ maxLen) {f : Fsp.File} (hf : Fsp.find S.L s.data.toList = some f) :
    Calls Try.prog 19 #[.pointer (some ⟨p, 0, none⟩), .string s] w fun r w' => ∃ g, r = .returned (.tuple #[.slice (some ⟨g, 0, none⟩) f.data.length f.data.length, .int .i64 0]) ∧
      w'.ownsRow w.heap.size 5 1 (.slice (some ⟨g, 0, none⟩) f.data.length f.data.length) f.data.length (f.data.map byteV) ∧ Turn (fun _ => False) w w' := by
  obtain ⟨sp, cap, hsv, hlc, hcap, hfc⟩ := file_open h hf
  have f0 := hfc.c0
  have hown := (h.file _ f hf).2
  rw [hsv] at hown
  have hr := SliceR.of_own hown
  have hl := len_room h hf
  have HF := Lib.hid hf
  have HV := Lib.hid hsv
  have HO := Lib.hid hown
  have hl2 : f.data.length ≤ 281474976710656 := by omega
  have HL := Lib.hid hl2
  clear hf hsv hown hl hl2 hcap
  go_enter Try.func19, Try.ntmps19
  go_wp2_with (go_at_call 24; refine (find_some h s hz HF.out).mono ?_; rintro r w' ⟨rfl, rfl⟩)
  go_at_call 21
  refine (copied_any hr HL.out).mono ?_
  rintro r w2 ⟨g, rfl, ho, ht⟩
  go_wp2
  go_ret2
  exact ⟨g, rfl, ho, ht⟩

theorem size_none (h : RepX w p S c Q mo pl) (s : ByteArray) (hz : s.size ≤ maxLen) (hf : Fsp.find S.L s.data.toList = none) :
    Calls Try.prog 41 #[.pointer (some ⟨p, 0, none⟩), .string s] w fun r w' => r = .returned (.tuple #[.int .i64 0, .int .i64 2]) ∧ w = w' := by
  have HF := Lib.hid hf
  clear hf
  go_enter Try.func41, Try.ntmps41
  go_wp2_with (go_at_call 24; refine (find_none h s hz HF.out).mono ?_; rintro r w' ⟨rfl, rfl⟩)
  go_ret2
  exact ⟨rfl, rfl⟩

theorem size_some (h : RepX w p S c Q mo pl) (s : ByteArray) (hz : s.size ≤ maxLen) {f : Fsp.File} (hf : Fsp.find S.L s.data.toList = some f) :
    Calls Try.prog 41 #[.pointer (some ⟨p, 0, none⟩), .string s] w fun r w' => r = .returned (.tuple #[.int .i64 (f.data.length : Nat), .int .i64 0]) ∧ w = w' := by
  obtain ⟨sp, cap, hsv, hlc, hcap, hfc⟩ := file_open h hf
  have f0 := hfc.c0
  have HF := Lib.hid hf
  have HV := Lib.hid hsv
  clear hf hsv hcap
  go_enter Try.func41, Try.ntmps41
  go_wp2_with (go_at_call 24; refine (find_some h s hz HF.out).mono ?_; rintro r w' ⟨rfl, rfl⟩)
  go_ret2
  exact ⟨rfl, rfl⟩

theorem arm_any (h : RepX w p S false Q mo pl) (k : Int) (hk : k ≤ 9223372036854775807) :
    Calls Try.prog 39 #[.pointer (some ⟨p, 0, none⟩), .int .i64 k] w fun r w' => r = .returned (.tuple #[]) ∧ Post w p (Fsp.arm S k) Q w' := by
  refine (arm_walk h.cells k).mono ?_
  rintro r w' ⟨rfl, rfl⟩
  have hg := h.good
  have e : max k 0 = ((k.toNat : Nat) : Int) := by omega
  refine ⟨rfl, Post.head (h.setHead (S' := Fsp.arm S k) (c' := false) (turnP w p 4 _) ?_ rfl ⟨hg.1, hg.2.1, hg.2.2.1, hg.2.2.2.1, by simp only [Fsp.arm]; omega, hg.2.2.2.2.2⟩) h.inP (turnP w p 4 _)⟩
  rw [heap_setCell_same h.head, e]
  rfl

theorem used_is (h : RepX w p S c Q mo pl) : Calls Try.prog 45 #[.pointer (some ⟨p, 0, none⟩)] w fun r w' => r = .returned (.int .i64 (Fsp.usedOf S.L : Nat)) ∧ w = w' := used_any h.cells
theorem room_is (h : RepX w p S c Q mo pl) : Calls Try.prog 47 #[.pointer (some ⟨p, 0, none⟩)] w fun r w' => r = .returned (.int .i64 (S.room : Nat)) ∧ w = w' := room_any h.cells
theorem steps_is (h : RepX w p S c Q mo pl) : Calls Try.prog 48 #[.pointer (some ⟨p, 0, none⟩)] w fun r w' => r = .returned (.int .i64 (S.steps : Nat)) ∧ w = w' := steps_any h.cells

theorem good_new (k : Int) : Fsp.Good (Fsp.new k) := ⟨List.Pairwise.nil, Nat.zero_le _, by simp only [Fsp.new]; omega, Nat.zero_le _, Nat.zero_le _, fun n f hf => by simp [Fsp.new, Fsp.find] at hf⟩

theorem new_any (k : Int) (w : World) :
    Calls Try.prog 6 #[.int .i64 k] w fun r w' => r = .returned (.pointer (some ⟨w.heap.size, 0, none⟩)) ∧ Rep w' w.heap.size (Fsp.new k) (fun b => w.heap.size ≤ b ∧ b < w'.heap.size) ∧ Turn (fun _ => False) w w' := by
  go_enter Try.func6, Try.ntmps6
  go_wp2
  go_ret
  have e : min (max k 0) 67108864 = (((Fsp.new k).room : Nat) : Int) := by simp only [Fsp.new]; omega
  have ht : Turn (fun _ => False) w (w.alloc (.cells #[.map none, .int .i64 (min (max k 0) 67108864), .int .i64 0, .int .i64 0, .int .i64 0, .bool false, .bool false] 55)) := (Turn.refl _ w).alloc _
  refine ⟨rfl, ⟨none, fun _ => ⟨0, .slice none 0 0⟩, ?_⟩, ht⟩
  have nofile : ∀ n, ¬ (Fsp.find (Fsp.new k).L n).isSome := fun n hn => by simp [Fsp.new, Fsp.find] at hn
  exact { good := good_new k, head := by rw [heap_alloc_new, e]; rfl, map := (rfl : (Fsp.new k).L = []), file := fun n f hf => absurd (by rw [hf]; rfl) (nofile n), apartF := fun n _ hn => absurd hn (nofile n), apartR := fun n _ hn => absurd hn (nofile n), inP := ⟨Nat.le_refl _, by simp⟩, inM := fun mb e => (by cases e), inF := fun n hn => absurd hn (nofile n), inR := fun n hn => absurd hn (nofile n), lt := fun b hb => hb.2 }

end
end Go.Proofs.Ytpaekggmphahoaa

/-
  Names.
-/
namespace Go.Proofs
open Go.Shelf
def Try.lays190_ren : Go.Shelf.Ren := ⟨fun | 190 => 50 | 125 => 65 | 258 => 64 | 128 => 76 | 129 => 77 | 302 => 67 | 303 => 68 | 304 => 69 | 305 => 70 | 306 => 71 | 307 => 72 | 308 => 73 | 309 => 74 | 310 => 75 | 333 => 78 | 329 => 79 | 330 => 80 | 334 => 81 | 335 => 82 | 336 => 83 | 344 => 84 | n => n, fun | 31 => 38 | 9 => 9 | 3 => 3 | 46 => 83 | 0 => 0 | 51 => 94 | 53 => 96 | 4 => 4 | 183 => 87 | 182 => 86 | 131 => 91 | 5 => 5 | 218 => 97 | 222 => 101 | 228 => 103 | 229 => 104 | n => n, fun | n => n⟩
theorem Try.lays190 : Go.Proofs.Lays.n190 Try.prog Try.lays190_ren := {
  mixed := by kernel_rfl
  f125 := Try.func65.trans (congrArg some (by kernel_rfl))
  f128 := Try.func76.trans (congrArg some (by kernel_rfl))
  f129 := Try.func77.trans (congrArg some (by kernel_rfl))
  f190 := Try.func50.trans (congrArg some (by kernel_rfl))
  f258 := Try.func64.trans (congrArg some (by kernel_rfl))
  f302 := Try.func67.trans (congrArg some (by kernel_rfl))
  f303 := Try.func68.trans (congrArg some (by kernel_rfl))
  f304 := Try.func69.trans (congrArg some (by kernel_rfl))
  f305 := Try.func70.trans (congrArg some (by kernel_rfl))
  f306 := Try.func71.trans (congrArg some (by kernel_rfl))
  f307 := Try.func72.trans (congrArg some (by kernel_rfl))
  f308 := Try.func73.trans (congrArg some (by kernel_rfl))
  f309 := Try.func74.trans (congrArg some (by kernel_rfl))
  f310 := Try.func75.trans (congrArg some (by kernel_rfl))
  f329 := Try.func79.trans (congrArg some (by kernel_rfl))
  f330 := Try.func80.trans (congrArg some (by kernel_rfl))
  f333 := Try.func78.trans (congrArg some (by kernel_rfl))
  f334 := Try.func81.trans (congrArg some (by kernel_rfl))
  f335 := Try.func82.trans (congrArg some (by kernel_rfl))
  f336 := Try.func83.trans (congrArg some (by kernel_rfl))
  f344 := Try.func84.trans (congrArg some (by kernel_rfl))
  t0 := Try.underlying0
  a0 := Try.isAgg0
  z0 := Try.sizeOf0
  v0 := Try.zeroValue0
  t3 := Try.underlying3
  a3 := Try.isAgg3
  z3 := Try.sizeOf3
  v3 := Try.zeroValue3
  t4 := Try.underlying4
  a4 := Try.isAgg4
  z4 := Try.sizeOf4
  v4 := Try.zeroValue4
  t5 := Try.underlying5
  a5 := Try.isAgg5
  z5 := Try.sizeOf5
  v5 := Try.zeroValue5
  t9 := Try.underlying9
  a9 := Try.isAgg9
  z9 := Try.sizeOf9
  v9 := Try.zeroValue9
  t31 := Try.underlying38
  a31 := Try.isAgg38
  z31 := Try.sizeOf38
  v31 := Try.zeroValue38
  t46 := Try.underlying83
  a46 := Try.isAgg83
  z46 := Try.sizeOf83
  v46 := Try.zeroValue83
  t51 := Try.underlying94
  a51 := Try.isAgg94
  z51 := Try.sizeOf94
  v51 := Try.zeroValue94
  t53 := Try.underlying96
  a53 := Try.isAgg96
  z53 := Try.sizeOf96
  v53 := Try.zeroValue96
  t131 := Try.underlying91
  a131 := Try.isAgg91
  z131 := Try.sizeOf91
  v131 := Try.zeroValue91
  t182 := Try.underlying86
  a182 := Try.isAgg86
  z182 := Try.sizeOf86
  v182 := Try.zeroValue86
  t183 := Try.underlying87
  a183 := Try.isAgg87
  z183 := Try.sizeOf87
  v183 := Try.zeroValue87
  t218 := Try.underlying97
  a218 := Try.isAgg97
  z218 := Try.sizeOf97
  v218 := Try.zeroValue97
  t222 := Try.underlying101
  a222 := Try.isAgg101
  z222 := Try.sizeOf101
  v222 := Try.zeroValue101
  t228 := Try.underlying103
  a228 := Try.isAgg103
  z228 := Try.sizeOf103
  v228 := Try.zeroValue103
  t229 := Try.underlying104
  a229 := Try.isAgg104
  z229 := Try.sizeOf104
  v229 := Try.zeroValue104 }
end Go.Proofs
namespace Go.Proofs.Ytpaekggmphahoaa
open Go.RowKit Go.Maps Go.WideMaps Go.Sort

section
variable {w w' : World} {p : Nat} {S S' : Fsp.Fs} {c c' : Bool} {Q : Nat → Prop} {mo : Option Nat} {pl : List UInt8 → Pl}

theorem sort_some (blk off cap : Nat) (ss : List (List UInt8)) (w : World) (hH : Holds encStr w blk off ss.toArray) (hblk : blk < w.heap.size) (hsz : ss.length < 4611686018427387904) :
    Calls Try.prog 50 #[.slice (some ⟨blk, off, none⟩) ss.length cap] w fun e w' =>
      e = .returned (.tuple #[]) ∧ ∃ n os, w' = grow (putRow encStr (Sort.ahead w n) blk off (ss.mergeSort fun x y => decide (x ≤ y)).toArray) os :=
  Any.slices_Sort_string Try.lays190 blk off cap ss w hH hblk hsz

/-- a slice of strings of the call's own, sorted: it owns the sorted list -/
theorem sort_any {base n : Nat} {v : Value} {ss : List (List UInt8)} (hrow : w.ownsRow base 9 1 v ss.length (ss.map encStr)) (hn : ss.length = n) (hsz : n < 4611686018427387904) :
    Calls Try.prog 50 #[v] w fun e w' => e = .returned (.tuple #[]) ∧ w'.ownsRow base 9 1 v ss.length ((ss.mergeSort leB).map encStr) ∧ w.grownBy w' v.ownBlock := by
  subst hn
  rcases hrow.2 with ⟨rfl, h0⟩ | ⟨g, cap, cur, rfl, hbase, hb, h1, h2, h3, h4⟩
  · obtain rfl : ss = [] := List.eq_nil_of_length_eq_zero h0
    refine (Any.slices_Sort_string_none Try.lays190 none 0 w).mono ?_
    rintro e w' ⟨rfl, rfl⟩
    exact ⟨rfl, by simpa using hrow, World.grownBy.refl _ _⟩
  · refine (sort_some g 0 cap ss w (holds_of_block hb (by simpa using h4)) (Array.getElem?_eq_some_iff.1 hb).1 hsz).mono ?_
    rintro e w' ⟨rfl, nn, os, rfl⟩
    exact ⟨rfl, ownsRow_sorted (by simp) hbase hb h1 h2 h3, grownBy_sorted _⟩

theorem infoString : (Try.prog.info? 9).map (fun i => (i.zero, i.size, i.bytes)) = some (some (.string ⟨#[]⟩), 1, 16) := by kernel_rfl

/-- the names' list, sorted already: any order in which it was met sorts to it -/
theorem names_sorted {D : DataW Unit} {left : Lit → Bool} {met : List (List UInt8)} (hs : Fsp.Sorted S.L) (hag : Agree D S.L pl) (hC : Collected D left met) (hl : ∀ kl, left kl = false) (f : List UInt8) :
    (met.filter fun n => f.isPrefixOf n).mergeSort leB = Fsp.names S f := by
  have hmem : ∀ x, x ∈ met ↔ x ∈ S.L.map (·.1) := fun x => by
    rw [hC.2 x, hl, hag.has x, Fsp.find_isSome]; simp
  have hnd : (S.L.map (·.1)).Nodup := List.pairwise_map.2 (hs.imp fun {a b} hlt e => by rw [e] at hlt; exact Fsp.lt_irrefl' _ hlt)
  have hp : (met.filter fun n => f.isPrefixOf n).Perm (Fsp.names S f) := by
    unfold Fsp.names
    exact ((List.perm_ext_iff_of_nodup hC.1 hnd).2 hmem).filter _
  rw [mergeSort_of_perm hp]
  refine List.mergeSort_of_pairwise ?_
  unfold Fsp.names
  refine List.Pairwise.filter _ (List.pairwise_map.2 (hs.imp fun {a b} hlt => ?_))
  simp only [leB, decide_eq_true_eq]
  exact List.le_of_lt hlt

theorem hasPrefix_is (x : List UInt8) (s : ByteArray) (b : Bool) (hb : s.data.toList.isPrefixOf x = b) : Calls Try.prog 49 #[encStr x, .string s] w fun r w' => r = .returned (.bool b) ∧ w = w' := by
  refine (hasPrefix_any ⟨x.toArray⟩ s w).mono ?_
  rintro r w' ⟨rfl, rfl⟩
  refine ⟨?_, rfl⟩
  simp [Lib.hasPrefix, hb]

set_option maxRecDepth 100000 in
set_option maxHeartbeats 1000000 in
theorem names_some {mb : Nat} (h : RepX w p S c Q (some mb) pl) (s : ByteArray) :
    Calls Try.prog 15 #[.pointer (some ⟨p, 0, none⟩), .string s] w fun r w' => ∃ v, r = .returned v ∧ w'.ownsRow w.heap.size 9 1 v (Fsp.names S s.data.toList).length ((Fsp.names S s.data.toList).map encStr) ∧ Turn (fun _ => False) w w' := by
  obtain ⟨i0, hi, hz0, hz1, hz2⟩ := info_parts infoString
  obtain ⟨D, hown, hag⟩ := h.map
  have c0 := h.cells.c0
  have hbl := hown.lt
  have hmax : Maps.size D ≤ 400 := by rw [hag.size]; exact h.good.2.2.2.1
  have HM := Lib.hid hmax
  clear hmax
  go_enter Try.func15, Try.ntmps15
  go_wp2_with (at_range; refine wpList_range_own _ rfl _ 53 rfl 9 56 lawS Try.underlying53 _ mb _ D rfl hown ?_; intro w0 hrg0 hg0 hs0)
  go_frame
  go_loopw [5] (fun v wr => ∃ (left : Lit → Bool) (cnt : Nat) (met : List (List UInt8)), wr.ranges Try.prog 9 ptrElem mb w.heap.size S.L.length D left cnt ∧ met.length + cnt ≤ Maps.size D ∧
      wr.ownsRow w.heap.size 9 1 v (met.filter fun n => s.data.toList.isPrefixOf n).length ((met.filter fun n => s.data.toList.isPrefixOf n).map encStr) ∧ Collected D left met ∧ Below w.heap.size w wr)
    (fun _ wr => wr.rangeLeft mb w.heap.size)
  case atStart =>
    exact ⟨_, _, [], hrg0, by simp, World.ownsRow_nil _ _ _ _, Collected.start D, (Below.refl _ _).grown hg0 (Nat.le_refl _) (fun j hj => by cases hj)⟩
  case round =>
    obtain ⟨left, cnt, met, hrg, hcs, hrow, hC, hnx⟩ := hrel
    have HC := Lib.hid hC
    have HCS := Lib.hid hcs
    have HR := Lib.hid hrow
    clear hC hcs hrow
    go_wp2_with (at_next; refine wpList_next_ranges _ rfl _ rfl 9 lawS ptrElem encStr Value.pointer (fun key kl hk => by obtain ⟨x, hx, _⟩ := Maps.keyOf_str Try.underlying9 hk; exact ⟨x, hx⟩) (fun v y hv => by rcases ptrElem_shape hv with ⟨rfl, _⟩ | ⟨b, rfl, _⟩; exact ⟨_, rfl⟩; exact ⟨_, rfl⟩) mb w.heap.size _ _ _ _ rfl hrg ?_ ?_)
    · intro hc0 hl0
      have HL := Lib.hid hl0
      clear hl0 hc0
      have hlen : (met.filter fun n => s.data.toList.isPrefixOf n).length < 4611686018427387904 := by
        have h1 := List.length_filter_le (fun n => s.data.toList.isPrefixOf n) met
        have h2 := HCS.out
        have h3 := HM.out
        omega
      have HN := Lib.hid hlen
      clear hlen
      go_wp2_with (go_at_call 50; refine (sort_any HR.out rfl HN.out).mono ?_; rintro r w2 ⟨rfl, hrow2, hg2⟩)
      go_ret
      rw [names_sorted h.good.1 hag HC.out HL.out] at hrow2
      have hl2 : (met.filter fun n => s.data.toList.isPrefixOf n).length = (Fsp.names S s.data.toList).length := by
        rw [← names_sorted h.good.1 hag HC.out HL.out]; simp
      rw [hl2] at hrow2
      refine ⟨_, rfl, hrow2, Below.turn (hnx.grown hg2 hnx.size (fun j hj => ?_)) _⟩
      exact (HR.out.lt j hj).1
    · intro x c kl yd yp w2 cnt2 hkey hlk hv hat hrg2 hlt hg2 hs2 hen
      obtain ⟨x', ex, rfl, _⟩ := Maps.keyOf_str Try.underlying9 hkey
      obtain rfl : x = x' := encStr_inj ex
      have hrow2 := HR.out.kept hg2 (Or.inr (row_ne_iter HR.out hrg).symm)
      have hstep := HC.out.step hlk hat
      have hnx2 : Below w.heap.size w w2 := hnx.grown hg2 hnx.size (fun j hj => by cases hj; exact Nat.le_refl _)
      have HS := Lib.hid hstep
      have HR2 := Lib.hid hrow2
      clear hs2 hstep hrow2 hkey hlk hat hv ex
      cases hpf : s.data.toList.isPrefixOf x with
      | false =>
        have HP := Lib.hid hpf
        clear hpf
        go_wp2_with (go_at_call 49; refine (hasPrefix_is x s _ HP.out).mono ?_; rintro r w' ⟨rfl, rfl⟩)
        go_roundw
        case rel =>
          have e : ((met ++ [x]).filter fun n => s.data.toList.isPrefixOf n) = met.filter fun n => s.data.toList.isPrefixOf n := by simp [List.filter_append, HP.out]
          exact ⟨_, cnt2, met ++ [x], hrg2, by have := HCS.out; simp; omega, by rw [e]; exact HR2.out, HS.out, hnx2⟩
        case measure => rw [hrg2.left_eq, hrg.left_eq]; exact hlt
      | true =>
        have HP := Lib.hid hpf
        clear hpf
        have hlen : (met.filter fun n => s.data.toList.isPrefixOf n).length + 1 ≤ 1000 := by
          have h1 := List.length_filter_le (fun n => s.data.toList.isPrefixOf n) met
          have h2 := HCS.out
          have h3 := HM.out
          omega
        have HN := Lib.hid hlen
        clear hlen
        go_wp2_with (first | (go_at_call 49; refine (hasPrefix_is x s _ HP.out).mono ?_; rintro r w' ⟨rfl, rfl⟩) | (at_builtin; refine wpList_append_own _ rfl _ _ 38 rfl w.heap.size 9 i0 (.string ⟨#[]⟩) 1 16 Try.underlying38 hi hz0 hz1 hz2 rfl (by decide) _ _ _ rfl (HR2.out.alloc _) ⟨w2.heap.size, 0, none⟩ 1 1 [encStr x] rfl rfl (cell_one_new _ _ _) (by simp [Value.oneCell', encStr]) (by have := HN.out; unfold maxLen; omega) (by have := HN.out; omega) (by have := hnx2.size; simp; omega) ?_; intro v' w3 hown' hg3 hnil3; go_frame))
        have hrg3 := (hrg2.alloc _).kept hg3 (row_ne_low HR2.out hbl) (row_ne_iter HR2.out hrg2)
        go_roundw
        case rel =>
          have e : ((met ++ [x]).filter fun n => s.data.toList.isPrefixOf n) = (met.filter fun n => s.data.toList.isPrefixOf n) ++ [x] := by simp [List.filter_append, HP.out]
          refine ⟨_, cnt2, met ++ [x], hrg3, by have := HCS.out; simp; omega, by rw [e]; simpa using hown', HS.out, ?_⟩
          exact (hnx2.alloc hnx2.size _).grown hg3 (by have := hnx2.size; simp; omega) (fun j hj => (HR2.out.lt j hj).1)
        case measure => rw [hrg3.left_eq, hrg.left_eq]; exact hlt

theorem names_nil (h : RepX w p S c Q none pl) (s : ByteArray) :
    Calls Try.prog 15 #[.pointer (some ⟨p, 0, none⟩), .string s] w fun r w' => ∃ v, r = .returned v ∧ w'.ownsRow w.heap.size 9 1 v (Fsp.names S s.data.toList).length ((Fsp.names S s.data.toList).map encStr) ∧ Turn (fun _ => False) w w' := by
  have hL : S.L = [] := h.map
  have hnm : Fsp.names S s.data.toList = [] := by simp [Fsp.names, hL]
  rw [hnm]
  have c0 := h.cells.c0
  clear hL hnm
  have hrg := run_range_nilMap (P := Try.prog) w 53 9 56 Try.underlying53
  have hnx : ∀ ty, (Instr.next (.pointer (some ⟨w.heap.size, 0, none⟩)) false ty).run Try.prog (w.alloc (.mapIter none 0 #[] 0)) = _ := fun ty => run_next_nilMap w ty 0 0 #[]
  go_enter Try.func15, Try.ntmps15
  go_wp2_with fail
  refine wp_loop_rounds 1 ?_
  rw [rounds_succ]
  go_wp2_with (go_at_call 50; refine (sort_any (base := w.heap.size) (ss := []) (World.ownsRow_nil _ _ _ _) rfl (by decide)).mono ?_; rintro r w2 ⟨rfl, hrow2, hg2⟩)
  go_ret
  exact ⟨_, rfl, by simpa using hrow2, ((Turn.refl (fun _ => False) w).alloc _).grown hg2 (fun k e => by cases e)⟩

/-- Names: a new slice of the names, rising -/
theorem names_any (h : RepX w p S c Q mo pl) (s : ByteArray) :
    Calls Try.prog 15 #[.pointer (some ⟨p, 0, none⟩), .string s] w fun r w' => ∃ v, r = .returned v ∧ w'.ownsRow w.heap.size 9 1 v (Fsp.names S s.data.toList).length ((Fsp.names S s.data.toList).map encStr) ∧ Turn (fun _ => False) w w' := by
  cases mo with
  | none => exact names_nil h s
  | some mb => exact names_some h s

end
end Go.Proofs.Ytpaekggmphahoaa
