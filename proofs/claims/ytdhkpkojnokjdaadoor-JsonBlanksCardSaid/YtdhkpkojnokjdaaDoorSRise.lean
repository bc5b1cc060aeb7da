/-
  rising: the places of names, by name, ties by place.
-/
import Derived.Test.YtdhkpkojnokjdaaDoorSStab
import Derived.Test.YtdhkpkojnokjdaaDoorJApp
import Derived.Test.YtdhkpkojnokjdaaDoorJRise1
import Derived.Deep.OwnRows
namespace Go.Proofs.YtdhkpkojnokjdaaDoor
open Go.RowKit Go.Maps Go.WideMaps Go.Shelf Sorted
set_option linter.unusedVariables false
set_option linter.unusedSimpArgs false

/-! ### the order of bytes -/
theorem cb_self : ∀ a : List UInt8, Lib.compareBytes a a = 0
  | [] => rfl
  | x :: a => by
    have : ¬ x < x := by simp [UInt8.lt_iff_toNat_lt]
    rw [Lib.compareBytes, if_neg this, if_neg this, cb_self a]
theorem cb_tri (x y : UInt8) : x < y ∨ x = y ∨ y < x := by
  rcases Nat.lt_trichotomy x.toNat y.toNat with h | h | h
  · exact Or.inl (UInt8.lt_iff_toNat_lt.2 h)
  · exact Or.inr (Or.inl (UInt8.toNat_inj.1 h))
  · exact Or.inr (Or.inr (UInt8.lt_iff_toNat_lt.2 h))
theorem cb_cons (x : UInt8) (a b : List UInt8) : Lib.compareBytes (x :: a) (x :: b) = Lib.compareBytes a b := by
  have : ¬ x < x := by simp [UInt8.lt_iff_toNat_lt]
  rw [Lib.compareBytes, if_neg this, if_neg this]
theorem cb_lt {x y : UInt8} (h : x < y) (a b : List UInt8) : Lib.compareBytes (x :: a) (y :: b) = -1 := by
  rw [Lib.compareBytes, if_pos h]
theorem cb_gt {x y : UInt8} (h : y < x) (a b : List UInt8) : Lib.compareBytes (x :: a) (y :: b) = 1 := by
  have : ¬ x < y := by simp only [UInt8.lt_iff_toNat_lt] at *; omega
  rw [Lib.compareBytes, if_neg this, if_pos h]
theorem cb_eq : ∀ {a b : List UInt8}, Lib.compareBytes a b = 0 → a = b
  | [], [], _ => rfl
  | [], _ :: _, h => by simp [Lib.compareBytes] at h
  | _ :: _, [], h => by simp [Lib.compareBytes] at h
  | x :: a, y :: b, h => by
    rcases cb_tri x y with g | g | g
    · rw [cb_lt g] at h; omega
    · subst g; rw [cb_cons] at h; rw [cb_eq h]
    · rw [cb_gt g] at h; omega
theorem cb_neg : ∀ a b : List UInt8, Lib.compareBytes b a = - Lib.compareBytes a b
  | [], [] => rfl
  | [], _ :: _ => rfl
  | _ :: _, [] => rfl
  | x :: a, y :: b => by
    rcases cb_tri x y with g | g | g
    · rw [cb_lt g, cb_gt g]; rfl
    · subst g; rw [cb_cons, cb_cons, cb_neg a b]
    · rw [cb_gt g, cb_lt g]
theorem cb_trans : ∀ {a b c : List UInt8}, Lib.compareBytes a b < 0 → Lib.compareBytes b c < 0 → Lib.compareBytes a c < 0
  | [], [], _, h, _ => by simp [Lib.compareBytes] at h
  | _ :: _, [], _, h, _ => by simp [Lib.compareBytes] at h
  | _, _ :: _, [], _, h => by simp [Lib.compareBytes] at h
  | [], _ :: _, _ :: _, _, _ => by simp [Lib.compareBytes]
  | x :: a, y :: b, z :: c, h1, h2 => by
    rcases cb_tri x y with g | g | g
    · rcases cb_tri y z with k | k | k
      · rw [cb_lt (UInt8.lt_trans g k)]; omega
      · subst k; rw [cb_lt g]; omega
      · rw [cb_gt k] at h2; omega
    · subst g
      rw [cb_cons] at h1
      rcases cb_tri x z with k | k | k
      · rw [cb_lt k]; omega
      · subst k; rw [cb_cons] at h2 ⊢; exact cb_trans h1 h2
      · rw [cb_gt k] at h2; omega
    · rw [cb_gt g] at h1; omega

/-- names held against one another, by their places -/
def cfN (ns : List (List UInt8)) (i j : Nat) : Int := Lib.compareBytes (ns.getD i []) (ns.getD j [])
theorem cfN_same {ns : List (List UInt8)} {x y : Nat} (h1 : lessOf (cfN ns) x y = false) (h2 : lessOf (cfN ns) y x = false) : ns.getD x [] = ns.getD y [] := by
  unfold lessOf cfN at h1 h2
  simp only [decide_eq_false_iff_not] at h1 h2
  have := cb_neg (ns.getD x []) (ns.getD y [])
  exact cb_eq (by omega)
theorem weakN (ns : List (List UInt8)) : Weak (lessOf (cfN ns)) where
  irrefl := fun x => by unfold lessOf cfN; rw [cb_self]; rfl
  trans := fun x y z a b => by
    unfold lessOf cfN at *
    simp only [decide_eq_true_eq] at *
    exact cb_trans a b
  other := fun x y z a b c d => by
    have e1 := cfN_same a b
    have e2 := cfN_same c d
    unfold lessOf cfN
    rw [e1, e2, cb_self]
    exact ⟨rfl, rfl⟩

/-- the places of names, by name, ties by place -/
def ordN (ns : List (List UInt8)) : List Nat := srt (byT (lessOf (cfN ns))) (List.range' 0 ns.length)
theorem ordIs : OrdIs ordN := fun ns => ⟨by unfold ordN; rw [len_srt_range], fun i hi => by unfold ordN at hi; rw [mem_srt_range] at hi; omega⟩

theorem Row.made (w : World) (n : Nat) : Row (w.alloc (.cells (madeCells #[.int .i64 0] n) 3)) w.heap.size (List.replicate n 0) := by
  have e : madeCells #[.int .i64 0] n = arrN (List.replicate n 0) := by
    apply Array.ext
    · simp [size_madeCells, arrN]
    · intro i h1 h2; simp [madeCells, arrN, Nat.mod_one]
  rw [e]
  exact ⟨_, heap_alloc_new _ _⟩
theorem infoIntS : (Tryd.prog.info? 3).map (fun i => (i.zero, i.size, i.bytes)) = some (some (.int .i64 0), 1, 8) := by kernel_rfl
theorem getD_in {ns : List (List UInt8)} {i : Nat} (h : i < ns.length) : ns.getD i [] = ns[i] := by simp [List.getD, List.getElem?_eq_getElem h]

theorem make_places {e : Int} {n : Nat} (he : e = n) (hn : n ≤ 1000000) (w : World) : (Instr.makeSlice 74 (.int .i64 e) (.int .i64 e)).run Tryd.prog w = .ok (.slice (some ⟨w.heap.size, 0, none⟩) n n) (w.alloc (.cells (madeCells #[.int .i64 0] n) 3)) := by
  subst he
  exact run_make_row' (P := Tryd.prog) 74 3 (.int .i64 0) 8 Tryd.underlying74 infoIntS rfl .i64 .i64 n (by omega) (by omega) w

theorem set_range (k n : Nat) (h : k < n) : (List.range' 0 k ++ List.replicate (n - k) 0).set k k = List.range' 0 (k + 1) ++ List.replicate (n - (k + 1)) 0 := by
  obtain ⟨d, hd⟩ : ∃ d, n - k = d + 1 := ⟨n - k - 1, by omega⟩
  rw [hd, List.replicate_succ, List.set_append_right _ _ (by rw [List.length_range']; omega), List.length_range', Nat.sub_self, List.set_cons_zero, show n - (k + 1) = d by omega, List.range'_1_concat]
  simp

set_option maxRecDepth 100000 in
set_option maxHeartbeats 3200000 in
theorem risingIs : RisingIs ordN := by
  intro ns N w hN hl hs
  obtain ⟨n, hn⟩ : ∃ n, n = ns.length := ⟨_, rfl⟩
  have hN2 := hN
  obtain ⟨sp, cap, hNe, -⟩ := hN2
  have hord : ordN ns = srt (byT (lessOf (cfN ns))) (List.range' 0 n) := by rw [hn]; rfl
  rw [← hn] at hl hNe
  rw [hord]
  have il : (n : Int) ≤ 1000 := by omega
  have hbox : (w.alloc (.cells #[N] 23)).cell? ⟨w.heap.size, 0, none⟩ = some N := by rw [cell_new]; rfl
  have hN3 := hN.only ((Only.refl w).alloc (.cells #[N] 23))
  have MK := make_places (e := (n : Int)) (n := n) rfl (by omega) (w.alloc (.cells #[N] 23))
  have HR0 := Lib.hid (Row.made (w.alloc (.cells #[N] 23)) n)
  have CI : CmpIs (w.alloc (.cells #[N] 23)) (.pointer (some ⟨w.heap.size, 0, none⟩)) n (cfN ns) := by
    intro W x y t hx hy
    have := rising1_any (ns := ns) (i := x) (j := y) (hN3.only t) (cell_only hbox t) (by omega) (by omega) (by omega)
    unfold cfN
    rw [getD_in (by omega : x < ns.length), getD_in (by omega : y < ns.length)]
    exact this
  have ST := Lib.hid (fun (W : World) (g cp : Nat) (h : Row W g (List.range' 0 n)) (t : Only (w.alloc (.cells #[N] 23)) W) (hg : (w.alloc (.cells #[N] 23)).heap.size ≤ g) => stable_any (cap := cp) (weakN ns) CI h t hg (by omega))
  have HSZ := Lib.hid (show (w.alloc (.cells #[N] 23)).heap.size = w.heap.size + 1 by simp)
  have HL := Lib.hid (len_srt_range (T := byT (lessOf (cfN ns))) (a := 0) (m := n))
  obtain ⟨os, hos⟩ : ∃ os, os = srt (byT (lessOf (cfN ns))) (List.range' 0 n) := ⟨_, rfl⟩
  rw [← hos] at HL ST ⊢
  subst hNe
  clear hN hN3 CI hord hs hn hos
  go_enter Tryd.func45, Tryd.ntmps45
  have hmf : ∀ (fn : Fn) (first cap : Array Value) (w : World), (Instr.makeFunc fn first cap).run Tryd.prog w = .ok (.func fn first cap) w := fun _ _ _ _ => rfl
  obtain ⟨g, hg⟩ : ∃ g, g = (w.alloc (.cells #[Value.slice sp n cap] 23)).heap.size := ⟨_, rfl⟩
  rw [← hg] at MK HR0
  obtain ⟨w0, hw0⟩ : ∃ w0, w0 = w.alloc (.cells #[Value.slice sp n cap] 23) := ⟨_, rfl⟩
  have HW0 := Lib.hid hw0
  have HG := Lib.hid hg
  rw [← hw0] at ST
  have HGE := Lib.hid (show w0.heap.size ≤ g by rw [hg, hw0]; exact Nat.le_refl _)
  clear hg hw0
  go_wp2_with fail
  go_loopw [4, 10] (fun _ kv wx => ∃ k : Nat, kv = .int .i64 (k : Int) ∧ k ≤ n ∧ Row wx g (List.range' 0 k ++ List.replicate (n - k) 0) ∧ Only w0 wx) (fun _ kv _ => n - (intOf kv).toNat)
  case atStart => exact ⟨0, rfl, Nat.zero_le _, by simpa using HR0.out, by rw [HW0.out]; exact (Only.refl _).alloc _⟩
  case round =>
    obtain ⟨k, rfl, hk, hrow, ht⟩ := hrel
    by_cases hlt : k < n
    · have k1 : (k : Int) < (n : Int) := by omega
      have c1 := hrow.free k
      have hrow2 := hrow.set k k
      rw [set_range k n hlt] at hrow2
      have hin : k < (List.range' 0 k ++ List.replicate (n - k) 0).length := by simp; omega
      obtain ⟨old, c2⟩ : ∃ v : Value, wr.cell? ⟨g, k, none⟩ = some v := ⟨_, hrow.cell hin⟩
      have HROW := Lib.hid hrow2
      have HT2 := Lib.hid (ht.set HGE.out k (.int .i64 (k : Int)))
      clear hrow hrow2 ht hin
      go_wp2_with fail
      go_roundw
      case rel => exact ⟨k + 1, by push_cast; rfl, hlt, HROW.out, HT2.out⟩
      case measure => simp [intOf]; omega
    · have hk0 : k = n := by omega
      subst hk0
      have k1 : ¬ (k : Int) < (k : Int) := by omega
      have hrow2 : Row wr g (List.range' 0 k) := by simpa using hrow
      have C := Lib.hid (ST.out wr g k hrow2 ht HGE.out)
      clear hrow hrow2 ht hlt
      go_wp2_with fail
      refine C.out.mono ?_
      rintro r w2 ⟨rfl, hr2, ht2⟩
      have HR2 := Lib.hid hr2
      have HT2 := Lib.hid ht2
      clear hr2 ht2
      go_wp2_with fail
      go_ret
      have e1 : (Value.slice (some ⟨g, 0, none⟩) k k) = .slice (some ⟨g, 0, none⟩) os.length k := by rw [HL.out]
      have e2 : w.heap.size ≤ g := by have h1 := HGE.out; rw [HW0.out, HSZ.out] at h1; omega
      refine ⟨⟨_, rfl, some ⟨g, 0, none⟩, k, e1, Or.inr ⟨g, rfl, e2, fun i hi => HR2.out.cell hi⟩⟩, ?_⟩
      have h0 : Only w w0 := by rw [HW0.out]; exact (Only.refl w).alloc _
      exact h0.trans HT2.out
end Go.Proofs.YtdhkpkojnokjdaaDoor
