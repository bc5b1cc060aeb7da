/-
  PARTS: MAlloP, MTot, MByL, MAllo, MAllocA, MWhP.
-/
import Derived.Test.YtopklnaahdjafaaGreatDoorSPure
import Derived.Test.YtopklnaahdjafaaGreatDoorMOpen
import Derived.Test.YtopklnaahdjafaaGreatDoorMShare
import Derived.Lib.Hide
import Derived.Test.YtopklnaahdjafaaGreatDoorSStab
import Derived.Deep.OwnRows
/-
  An amount parted by weights, as plain data: what each part has, who gets the units that are left.
-/
namespace Go.Proofs.YtopklnaahdjafaaGreatDoor
open Sorted
set_option linter.unusedVariables false

/-- losses compared: who lost most stands first -/
def cmpL (lo : Nat → Nat) (i j : Nat) : Int := if lo j < lo i then -1 else if lo i < lo j then 1 else 0
def lessL (lo : Nat → Nat) (i j : Nat) : Bool := decide (cmpL lo i j < 0)
theorem lessL_iff (lo : Nat → Nat) (i j : Nat) : lessL lo i j = true ↔ lo j < lo i := by
  unfold lessL cmpL
  simp only [decide_eq_true_eq]
  split
  · exact ⟨fun _ => by assumption, fun _ => by decide⟩
  · split
    · exact ⟨fun h => by omega, fun h => by omega⟩
    · exact ⟨fun h => by omega, fun h => by omega⟩
theorem lessL_no (lo : Nat → Nat) (i j : Nat) : lessL lo i j = false ↔ lo i ≤ lo j := by
  cases h : lessL lo i j with
  | true => have := (lessL_iff lo i j).1 h; exact ⟨(fun e => by cases e), (fun e => by omega)⟩
  | false =>
    refine ⟨fun _ => ?_, fun _ => rfl⟩
    rcases Nat.lt_or_ge (lo j) (lo i) with k | k
    · have := (lessL_iff lo i j).2 k; rw [h] at this; cases this
    · exact k
theorem weakL (lo : Nat → Nat) : Weak (lessL lo) where
  irrefl := fun x => (lessL_no lo x x).2 (Nat.le_refl _)
  trans := fun x y z a b => by rw [lessL_iff] at *; omega
  other := fun x y z a b c d => by rw [lessL_no] at *; rw [lessL_no]; omega

/-- the order in which units are given -/
def lossOrd (lo : Nat → Nat) (n : Nat) : List Nat := srt (byT (lessL lo)) (List.range' 0 n)
theorem lossOrd_perm (lo : Nat → Nat) (n : Nat) : List.Perm (lossOrd lo n) (List.range' 0 n) := srt_perm _
theorem lossOrd_len (lo : Nat → Nat) (n : Nat) : (lossOrd lo n).length = n := by rw [(lossOrd_perm lo n).length_eq, List.length_range']
theorem lossOrd_mem {lo : Nat → Nat} {n i : Nat} : i ∈ lossOrd lo n ↔ i < n := by
  rw [(lossOrd_perm lo n).mem_iff, List.mem_range'_1]; omega
theorem lossOrd_nodup (lo : Nat → Nat) (n : Nat) : (lossOrd lo n).Nodup := (lossOrd_perm lo n).nodup_iff.2 List.nodup_range'
theorem lossOrd_sorted (lo : Nat → Nat) (n : Nat) : (lossOrd lo n).Pairwise (byT (lessL lo)) := srt_sorted (strict_by (weakL lo)) _ List.nodup_range'
theorem byL_le {lo : Nat → Nat} {i j : Nat} (h : byT (lessL lo) i j) : lo j ≤ lo i := by
  rcases h with h | ⟨h, k, -⟩
  · have := (lessL_iff lo i j).1 h; omega
  · exact (lessL_no lo j i).1 k

/-! ### sums -/
theorem sumL_append (l m : List Nat) : (l ++ m).sum = l.sum + m.sum := List.sum_append
theorem sum_bound {f : Nat → Nat} {c : Nat} : ∀ {l : List Nat}, (∀ i ∈ l, f i ≤ c) → (l.map f).sum ≤ c * l.length
  | [], _ => by simp
  | x :: l, h => by
    have := sum_bound (f := f) (c := c) (l := l) fun i hi => h i (List.mem_cons_of_mem _ hi)
    have := h x (List.mem_cons_self ..)
    simp only [List.map_cons, List.sum_cons, List.length_cons]
    rw [Nat.mul_add]; omega
theorem sum_zero {f : Nat → Nat} : ∀ {l : List Nat}, (∀ i ∈ l, f i = 0) → (l.map f).sum = 0
  | [], _ => rfl
  | x :: l, h => by simp only [List.map_cons, List.sum_cons, h x (List.mem_cons_self ..), sum_zero fun i hi => h i (List.mem_cons_of_mem _ hi)]
theorem sum_addf (f g : Nat → Nat) : ∀ l : List Nat, (l.map fun i => f i + g i).sum = (l.map f).sum + (l.map g).sum
  | [] => rfl
  | x :: l => by simp only [List.map_cons, List.sum_cons, sum_addf f g l]; omega
theorem sum_mulf (c : Nat) (f : Nat → Nat) : ∀ l : List Nat, (l.map fun i => c * f i).sum = c * (l.map f).sum
  | [] => rfl
  | x :: l => by simp only [List.map_cons, List.sum_cons, sum_mulf c f l, Nat.mul_add]
theorem sum_in {F : List Nat} : ∀ {l : List Nat}, l.Nodup → (∀ i ∈ F, i ∈ l) → F.Nodup → (l.map fun i => if i ∈ F then 1 else 0).sum = F.length := by
  intro l hl hF hn
  have h1 : (l.map fun i => if i ∈ F then 1 else 0).sum = (l.filter fun i => decide (i ∈ F)).length := by
    clear hl hF
    induction l with
    | nil => rfl
    | cons x l ih =>
      simp only [List.map_cons, List.sum_cons]
      by_cases h : x ∈ F
      · rw [if_pos h, List.filter_cons_of_pos (by simpa using h), List.length_cons, ih]; omega
      · rw [if_neg h, List.filter_cons_of_neg (by simpa using h), ih]; omega
  rw [h1]
  refine List.Perm.length_eq ?_
  rw [List.perm_ext_iff_of_nodup (hl.filter _) hn]
  intro i
  rw [List.mem_filter]
  simp only [decide_eq_true_eq]
  exact ⟨fun h => h.2, fun h => ⟨hF i h, h⟩⟩

/-! ### the parts -/
def unitP (u t : Nat) (ws : List Nat) (i : Nat) : Nat := u * ws.getD i 0 / t
def lostP (u t : Nat) (ws : List Nat) (i : Nat) : Nat := u * ws.getD i 0 % t
def sumU (u t : Nat) (ws : List Nat) : Nat := ((List.range' 0 ws.length).map (unitP u t ws)).sum
def leftP (u t : Nat) (ws : List Nat) : Nat := u - sumU u t ws
def frontP (u t : Nat) (ws : List Nat) : List Nat := (lossOrd (lostP u t ws) ws.length).take (leftP u t ws)
def partP (u t : Nat) (ws : List Nat) (i : Nat) : Nat := unitP u t ws i + if i ∈ frontP u t ws then 1 else 0

theorem map_getD (ws : List Nat) : (List.range' 0 ws.length).map (fun i => ws.getD i 0) = ws := by
  apply List.ext_getElem
  · simp
  · intro i h1 h2
    simp [List.getD, h2]
/-- all of it: t times the parts, and what was lost -/
theorem parts_eq {u t : Nat} {ws : List Nat} (ht : ws.sum = t) : u * t = t * sumU u t ws + ((List.range' 0 ws.length).map (lostP u t ws)).sum := by
  have h1 : ∀ i, u * ws.getD i 0 = t * unitP u t ws i + lostP u t ws i := fun i => by
    unfold unitP lostP; rw [Nat.div_add_mod]
  have h2 : ((List.range' 0 ws.length).map fun i => u * ws.getD i 0).sum = u * t := by
    rw [sum_mulf, map_getD, ht]
  rw [← h2]
  have h3 : ((List.range' 0 ws.length).map fun i => u * ws.getD i 0) = (List.range' 0 ws.length).map fun i => t * unitP u t ws i + lostP u t ws i := List.map_congr_left fun i _ => h1 i
  rw [h3, sum_addf, sum_mulf]; rfl
theorem lost_lt {u t : Nat} (ht : 0 < t) (ws : List Nat) (i : Nat) : lostP u t ws i < t := Nat.mod_lt _ ht
theorem left_eq {u t : Nat} {ws : List Nat} (h0 : 0 < t) (ht : ws.sum = t) : sumU u t ws ≤ u ∧ t * leftP u t ws = ((List.range' 0 ws.length).map (lostP u t ws)).sum ∧ leftP u t ws ≤ ws.length := by
  have h1 := parts_eq (u := u) ht
  have h2 : sumU u t ws ≤ u := by
    have : t * sumU u t ws ≤ t * u := by rw [Nat.mul_comm t u]; omega
    exact Nat.le_of_mul_le_mul_left this h0
  have h3 : t * leftP u t ws = ((List.range' 0 ws.length).map (lostP u t ws)).sum := by
    unfold leftP
    rw [Nat.mul_sub, Nat.mul_comm t u]; omega
  refine ⟨h2, h3, ?_⟩
  have h4 : ((List.range' 0 ws.length).map (lostP u t ws)).sum ≤ t * ws.length := by
    have := sum_bound (f := lostP u t ws) (c := t) (l := List.range' 0 ws.length) fun i _ => Nat.le_of_lt (lost_lt h0 ws i)
    rwa [List.length_range'] at this
  exact Nat.le_of_mul_le_mul_left (by omega) h0
/-- a unit goes to none that lost nothing -/
theorem front_lost {u t : Nat} {ws : List Nat} (h0 : 0 < t) (ht : ws.sum = t) {i : Nat} (hi : i ∈ frontP u t ws) : 0 < lostP u t ws i := by
  obtain ⟨-, h3, h4⟩ := left_eq (u := u) h0 ht
  obtain ⟨j, hj, he⟩ := List.getElem_of_mem hi
  unfold frontP at hj he
  have hlen := lossOrd_len (lostP u t ws) ws.length
  rw [List.length_take] at hj
  rw [List.getElem_take] at he
  rcases Nat.eq_zero_or_pos (lostP u t ws i) with hz | hz
  · exfalso
    have hs := lossOrd_sorted (lostP u t ws) ws.length
    have hp := ((lossOrd_perm (lostP u t ws) ws.length).map (lostP u t ws)).sum_nat
    have hsp : (((lossOrd (lostP u t ws) ws.length)).map (lostP u t ws)).sum = (((lossOrd (lostP u t ws) ws.length).take j).map (lostP u t ws)).sum + (((lossOrd (lostP u t ws) ws.length).drop j).map (lostP u t ws)).sum := by
      rw [← List.sum_append, ← List.map_append, List.take_append_drop]
    have hd : (((lossOrd (lostP u t ws) ws.length).drop j).map (lostP u t ws)).sum = 0 := sum_zero fun k hk => by
      obtain ⟨m, hm, hm2⟩ := List.getElem_of_mem hk
      rw [List.getElem_drop] at hm2
      rw [List.length_drop] at hm
      rcases Nat.eq_zero_or_pos m with h | h
      · subst h
        simp only [Nat.add_zero] at hm2
        rw [← hm2, he]; exact hz
      · have := byL_le (List.pairwise_iff_getElem.1 hs j (j + m) (by omega) (by omega) (by omega))
        rw [hm2, he, hz] at this
        omega
    have hb : (((lossOrd (lostP u t ws) ws.length).take j).map (lostP u t ws)).sum ≤ t * j := by
      have := sum_bound (f := lostP u t ws) (c := t) (l := (lossOrd (lostP u t ws) ws.length).take j) fun i _ => Nat.le_of_lt (lost_lt h0 ws i)
      rwa [List.length_take, Nat.min_eq_left (by omega)] at this
    have hb2 : (((lossOrd (lostP u t ws) ws.length).take j).map (lostP u t ws)).sum < t * leftP u t ws := by
      have : t * (j + 1) ≤ t * leftP u t ws := Nat.mul_le_mul_left t (by omega)
      rw [Nat.mul_add] at this
      omega
    omega
  · exact hz
/-- the parts sum up -/
theorem parts_sum {u t : Nat} {ws : List Nat} (h0 : 0 < t) (ht : ws.sum = t) : ((List.range' 0 ws.length).map (partP u t ws)).sum = u := by
  obtain ⟨h1, h3, h4⟩ := left_eq (u := u) h0 ht
  have h5 : ((List.range' 0 ws.length).map (partP u t ws)).sum = sumU u t ws + ((List.range' 0 ws.length).map fun i => if i ∈ frontP u t ws then 1 else 0).sum := sum_addf _ _ _
  have hlen := lossOrd_len (lostP u t ws) ws.length
  have hfl : (frontP u t ws).length = leftP u t ws := by unfold frontP; rw [List.length_take]; omega
  have h6 : ∀ i ∈ frontP u t ws, i ∈ List.range' 0 ws.length := fun i hi => by
    rw [List.mem_range'_1]
    have := lossOrd_mem.1 (List.mem_of_mem_take hi)
    omega
  rw [h5, sum_in List.nodup_range' h6 ((lossOrd_nodup _ _).sublist (List.take_sublist _ _)), hfl]
  unfold leftP; omega
/-- a greater weight has no smaller part -/
theorem parts_rise {u t : Nat} {ws : List Nat} (h0 : 0 < t) (ht : ws.sum = t) {i k : Nat} (hi : i < ws.length) (hk : k < ws.length) (h : ws.getD i 0 < ws.getD k 0) : partP u t ws i ≤ partP u t ws k := by
  have hu : unitP u t ws i ≤ unitP u t ws k := Nat.div_le_div_right (Nat.mul_le_mul_left u (Nat.le_of_lt h))
  unfold partP
  by_cases hlt : unitP u t ws i < unitP u t ws k
  · have : (if i ∈ frontP u t ws then 1 else 0) ≤ 1 := by split <;> omega
    omega
  · have heq : unitP u t ws i = unitP u t ws k := by omega
    by_cases hf : i ∈ frontP u t ws
    · have hl := front_lost h0 ht hf
      have e1 : u * ws.getD i 0 = t * unitP u t ws i + lostP u t ws i := by unfold unitP lostP; rw [Nat.div_add_mod]
      have e2 : u * ws.getD k 0 = t * unitP u t ws k + lostP u t ws k := by unfold unitP lostP; rw [Nat.div_add_mod]
      rw [heq] at e1
      have hu0 : 0 < u := by
        rcases Nat.eq_zero_or_pos u with z | z
        · have : u * ws.getD i 0 = 0 := by rw [z, Nat.zero_mul]
          omega
        · exact z
      have hm : u * ws.getD i 0 + u ≤ u * ws.getD k 0 := by
        have : u * (ws.getD i 0 + 1) ≤ u * ws.getD k 0 := Nat.mul_le_mul_left u h
        rwa [Nat.mul_add, Nat.mul_one] at this
      have hlo : lostP u t ws i < lostP u t ws k := by omega
      have hkf : k ∈ frontP u t ws := by
        obtain ⟨a, ha, hae⟩ := List.getElem_of_mem hf
        unfold frontP at ha hae ⊢
        rw [List.length_take] at ha
        rw [List.getElem_take] at hae
        obtain ⟨b, hb, hbe⟩ := List.getElem_of_mem (lossOrd_mem (lo := lostP u t ws).2 hk)
        have hs := lossOrd_sorted (lostP u t ws) ws.length
        have hba : b < a := by
          rcases Nat.lt_trichotomy a b with q | q | q
          · have := byL_le (List.pairwise_iff_getElem.1 hs a b (by omega) hb q)
            rw [hae, hbe] at this
            omega
          · subst q
            rw [hae] at hbe
            rw [hbe] at hlo
            omega
          · exact q
        rw [← hbe]
        exact List.mem_iff_getElem.2 ⟨b, by rw [List.length_take]; omega, by rw [List.getElem_take]⟩
      rw [if_pos hf, if_pos hkf]; omega
    · rw [if_neg hf]
      split <;> omega
/-- what weighs nothing gets nothing -/
theorem part_none {u t : Nat} {ws : List Nat} (h0 : 0 < t) (ht : ws.sum = t) {i : Nat} (h : ws.getD i 0 = 0) : partP u t ws i = 0 := by
  unfold partP
  have h1 : unitP u t ws i = 0 := by unfold unitP; rw [h]; simp
  rw [h1, if_neg]
  intro hf
  have := front_lost h0 ht hf
  unfold lostP at this
  rw [h] at this
  simp at this
/-- each part is next to its exact part -/
theorem part_near {u t : Nat} {ws : List Nat} (h0 : 0 < t) (ht : ws.sum = t) (i : Nat) : t * partP u t ws i < u * ws.getD i 0 + t ∧ u * ws.getD i 0 < t * partP u t ws i + t := by
  have e1 : u * ws.getD i 0 = t * unitP u t ws i + lostP u t ws i := by unfold unitP lostP; rw [Nat.div_add_mod]
  have hl := lost_lt (u := u) h0 ws i
  unfold partP
  rw [Nat.mul_add]
  by_cases hf : i ∈ frontP u t ws
  · have := front_lost h0 ht hf
    rw [if_pos hf, Nat.mul_one]; omega
  · rw [if_neg hf, Nat.mul_zero]; omega
theorem part_le {u t : Nat} {ws : List Nat} (h0 : 0 < t) (ht : ws.sum = t) {i : Nat} (hi : i < ws.length) : partP u t ws i ≤ u := by
  have h := parts_sum (u := u) h0 ht
  have h2 : ∀ {l : List Nat} {x : Nat}, x ∈ l → partP u t ws x ≤ (l.map (partP u t ws)).sum := by
    intro l
    induction l with
    | nil => intro x hx; simp at hx
    | cons y l ih =>
      intro x hx
      simp only [List.map_cons, List.sum_cons]
      rcases List.mem_cons.1 hx with rfl | hx
      · omega
      · have := ih hx; omega
  have := h2 (l := List.range' 0 ws.length) (x := i) (by rw [List.mem_range'_1]; omega)
  omega
end Go.Proofs.YtopklnaahdjafaaGreatDoor

/-
  The sum of weights; shares in a block of their own; one share held against another.
-/
namespace Go.Proofs.YtopklnaahdjafaaGreatDoor
open Go.RowKit Go.Shelf Go.Maps Go.WideMaps Sorted
set_option linter.unusedVariables false
set_option linter.unusedSimpArgs false

theorem IntsIn.only {w w' : World} {v : Value} {l : List Int} (h : IntsIn w v l) (t : Only w w') : IntsIn w' v l := by
  obtain ⟨sp, cap, e, hr⟩ := h
  refine ⟨sp, cap, e, fun h0 => ?_⟩
  obtain ⟨g, o, e2, hc⟩ := hr h0
  exact ⟨g, o, e2, fun i x hx => (Below.cell t (World.block_lt_of_cell? w _ (hc i x hx))).trans (hc i x hx)⟩

/-- may a list's ints be weights? -/
def GoodW (l : List Int) : Prop := ∀ x ∈ l, 0 ≤ x ∧ x ≤ 2147483648
instance (l : List Int) : Decidable (GoodW l) := by unfold GoodW; infer_instance
theorem goodW_nil : GoodW [] := fun x hx => by cases hx
theorem goodW_snoc {l : List Int} {x : Int} (h : GoodW l) (hx : 0 ≤ x ∧ x ≤ 2147483648) : GoodW (l ++ [x]) := fun y hy => by
  rcases List.mem_append.1 hy with k | k
  · exact h y k
  · simp at k; rw [k]; exact hx
theorem goodW_sum {l : List Int} (h : GoodW l) : 0 ≤ l.sum ∧ l.sum ≤ 2147483648 * l.length := by
  induction l with
  | nil => simp
  | cons x l ih =>
    have h1 := h x (List.mem_cons_self ..)
    have h2 := ih fun y hy => h y (List.mem_cons_of_mem _ hy)
    simp only [List.sum_cons, List.length_cons]
    omega
/-- the error that weights have -/
def totE (l : List Int) : Int := if 100 < l.length then 9 else if l.length = 0 then 17 else if GoodW l then (if l.sum = 0 then 17 else 0) else 6

abbrev TotIs (w : World) (v : Value) (n e : Int) : Prop := Calls Tryz.prog 41 #[v] w fun r w' => r = .returned (.tuple #[.int .i64 n, .int .i64 e]) ∧ w' = w

theorem tot_many {n : Nat} {sp : Option Addr} {cap : Nat} {w : World} (h : 100 < n) : TotIs w (.slice sp n cap) 0 9 := by
  have i1 : (100 : Int) < (n : Int) := by omega
  go_enter Tryz.func41, Tryz.ntmps41
  go_wp2
  go_ret2
  exact ⟨rfl, rfl⟩
theorem tot_none {sp : Option Addr} {cap : Nat} {w : World} : TotIs w (.slice sp 0 cap) 0 17 := by
  go_enter Tryz.func41, Tryz.ntmps41
  go_wp2
  go_ret2
  exact ⟨rfl, rfl⟩

theorem sum_snoc (l : List Int) (x : Int) : (l ++ [x]).sum = l.sum + x := by simp

theorem tot_walk {l : List Int} {g o cap n : Nat} {w : World} {N E : Int} (hn : n = l.length) (h0 : 0 < n) (h1 : n ≤ 100) (hc : ∀ (i : Nat) (x : Int), l[i]? = some x → w.cell? ⟨g, o + i, none⟩ = some (.int .i64 x))
    (hE : (¬ GoodW l ∧ E = 6 ∧ N = 0) ∨ (GoodW l ∧ l.sum = 0 ∧ E = 17 ∧ N = 0) ∨ (GoodW l ∧ 0 < l.sum ∧ E = 0 ∧ N = l.sum)) : TotIs w (.slice (some ⟨g, o, none⟩) n cap) N E := by
  have i1 : (n : Int) ≤ 100 := by omega
  have i2 : ((n : Int) == 0) = false := by simp; omega
  have HC := Lib.hid hc
  have HE := Lib.hid hE
  have HN := Lib.hid hn
  clear hc hE hn
  go_enter Tryz.func41, Tryz.ntmps41
  go_wp2_with fail
  go_loop [4, 15, 6] (fun t i _ => ∃ k : Nat, k ≤ n ∧ i = .int .i64 (k : Int) ∧ GoodW (l.take k) ∧ t = .int .i64 (l.take k).sum) (fun _ i _ => n - (intOf i).toNat)
  case atStart => exact ⟨0, Nat.zero_le _, rfl, goodW_nil, rfl⟩
  case round =>
    obtain ⟨k, hk, rfl, hg, rfl⟩ := hrel
    have HG := Lib.hid hg
    clear hg
    by_cases hlt : k < n
    · have j1 : (k : Int) < (n : Int) := by omega
      have hkl : k < l.length := by rw [← HN.out]; exact hlt
      obtain ⟨x, hx⟩ : ∃ x, l[k]? = some x := ⟨_, List.getElem?_eq_getElem hkl⟩
      have c1 := HC.out k x hx
      have HX := Lib.hid hx
      clear hx hkl
      by_cases hx0 : x < 0
      · have hb : ¬ GoodW l := fun h => by have := h x (List.mem_of_getElem? HX.out); omega
        obtain ⟨rfl, rfl⟩ : E = 6 ∧ N = 0 := by
          rcases HE.out with ⟨-, a, b⟩ | ⟨a, -⟩ | ⟨a, -⟩
          · exact ⟨a, b⟩
          · exact absurd a hb
          · exact absurd a hb
        clear hb
        go_wp2_with fail
        go_ret2
        exact ⟨rfl, rfl⟩
      · by_cases hx1 : 2147483648 < x
        · have hb : ¬ GoodW l := fun h => by have := h x (List.mem_of_getElem? HX.out); omega
          obtain ⟨rfl, rfl⟩ : E = 6 ∧ N = 0 := by
            rcases HE.out with ⟨-, a, b⟩ | ⟨a, -⟩ | ⟨a, -⟩
            · exact ⟨a, b⟩
            · exact absurd a hb
            · exact absurd a hb
          clear hb
          go_wp2_with fail
          go_ret2
          exact ⟨rfl, rfl⟩
        · have hbd := goodW_sum HG.out
          have hle : (l.take k).length ≤ 100 := by rw [List.length_take]; omega
          obtain ⟨S, hS⟩ : ∃ S, S = (l.take k).sum := ⟨_, rfl⟩
          rw [← hS] at hbd ⊢
          have hnext : GoodW (l.take (k + 1)) ∧ S + x = (l.take (k + 1)).sum := by
            rw [List.take_add_one, HX.out, hS]
            exact ⟨goodW_snoc HG.out (by omega), (sum_snoc _ _).symm⟩
          have HNX := Lib.hid hnext
          have b1 : 0 ≤ S := hbd.1
          have b2 : S ≤ 214748364800 := by omega
          clear hnext hbd hle hS
          go_wp2_with fail
          go_round
          case rel => exact ⟨k + 1, by omega, by go_num, HNX.out.1, by rw [← HNX.out.2]⟩
          case measure => simp [intOf]; omega
    · have hkn : k = n := by omega
      subst hkn
      have hT : l.take k = l := List.take_of_length_le (by rw [← HN.out]; exact Nat.le_refl _)
      have hg := HG.out
      rw [hT] at hg ⊢
      rcases HE.out with ⟨a, -⟩ | ⟨-, a, rfl, rfl⟩ | ⟨-, a, rfl, rfl⟩
      · exact absurd hg a
      · rw [a]
        clear a hg hT HG
        go_wp2_with fail
        go_ret2
        exact ⟨rfl, rfl⟩
      · obtain ⟨S, hS⟩ : ∃ S, S = l.sum := ⟨_, rfl⟩
        rw [← hS] at a ⊢
        have e1 : (S == 0) = false := by simp; omega
        have HSS := Lib.hid hS
        clear a hg hT HG hS
        go_wp2_with fail
        go_ret2
        exact ⟨by rw [← HSS.out]; rfl, rfl⟩

theorem totalOf_any {v : Value} {l : List Int} {w : World} (hl : IntsIn w v l) : TotIs w v (okI (totE l) l.sum) (totE l) := by
  obtain ⟨sp, cap, rfl, hr⟩ := hl
  unfold totE
  by_cases h1 : 100 < l.length
  · rw [if_pos h1]; exact tot_many h1
  · rw [if_neg h1]
    by_cases h2 : l.length = 0
    · rw [if_pos h2, h2]; exact tot_none
    · rw [if_neg h2]
      obtain ⟨g, o, rfl, hc⟩ := hr (by omega)
      refine tot_walk rfl (by omega) (by omega) hc ?_
      by_cases h3 : GoodW l
      · rw [if_pos h3]
        have hs := goodW_sum h3
        by_cases h4 : l.sum = 0
        · rw [if_pos h4]; exact Or.inr (Or.inl ⟨h3, h4, rfl, rfl⟩)
        · rw [if_neg h4]; exact Or.inr (Or.inr ⟨h3, by omega, rfl, rfl⟩)
      · rw [if_neg h3]; exact Or.inl ⟨h3, rfl, rfl⟩

/-! ### shares -/
/-- block g holds n shares, of u's units and lo's losses -/
def ShR (w : World) (g n : Nat) (u lo : Nat → Nat) : Prop := ∃ cs ty, w.heap[g]? = some (.cells cs ty) ∧ cs.size = n * 2 ∧ ∀ i, i < n → cs[i * 2]? = some (.int .i64 (u i : Nat)) ∧ cs[i * 2 + 1]? = some (.int .i64 (lo i : Nat))
theorem ShR.lt {w : World} {g n : Nat} {u lo : Nat → Nat} (h : ShR w g n u lo) : g < w.heap.size := by
  obtain ⟨cs, ty, h, -⟩ := h; exact (Array.getElem?_eq_some_iff.1 h).1
theorem ShR.only {w w' : World} {g n : Nat} {u lo : Nat → Nat} (h : ShR w g n u lo) (t : Only w w') : ShR w' g n u lo := by
  have := h.lt
  obtain ⟨cs, ty, h, k⟩ := h
  exact ⟨cs, ty, (t.block g this).trans h, k⟩
theorem ShR.free {w : World} {g n : Nat} {u lo : Nat → Nat} (h : ShR w g n u lo) (j : Nat) : w.frozen? ⟨g, j, none⟩ = false := by
  obtain ⟨cs, ty, h, -⟩ := h; simp [World.frozen?, h]
theorem ShR.cell {w : World} {g n : Nat} {u lo : Nat → Nat} (h : ShR w g n u lo) {i : Nat} (hi : i < n) : w.cell? ⟨g, i * 2, none⟩ = some (.int .i64 (u i : Nat)) ∧ w.cell? ⟨g, i * 2 + 1, none⟩ = some (.int .i64 (lo i : Nat)) := by
  obtain ⟨cs, ty, h, -, hc⟩ := h
  obtain ⟨c1, c2⟩ := hc i hi
  simp [World.cell?, h, c1, c2]
theorem ShR.far {w : World} {g p n : Nat} {u lo : Nat → Nat} (h : ShR w g n u lo) (e : g ≠ p) (j : Nat) (v : Value) : ShR (w.setCell ⟨p, j, none⟩ v) g n u lo := by
  obtain ⟨cs, ty, h, k⟩ := h
  exact ⟨cs, ty, (heap_setCell_other e v).trans h, k⟩
theorem ShR.ext {w : World} {g n : Nat} {u lo u' lo' : Nat → Nat} (h : ShR w g n u lo) (e : ∀ i, i < n → u i = u' i ∧ lo i = lo' i) : ShR w g n u' lo' := by
  obtain ⟨cs, ty, h, k, hc⟩ := h
  exact ⟨cs, ty, h, k, fun i hi => by rw [← (e i hi).1, ← (e i hi).2]; exact hc i hi⟩
theorem ShR.setU {w : World} {g n : Nat} {u lo : Nat → Nat} (h : ShR w g n u lo) (k x : Nat) : ShR (w.setCell ⟨g, k * 2, none⟩ (.int .i64 (x : Nat))) g n (fun i => if i = k then x else u i) lo := by
  obtain ⟨cs, ty, h, hz, hc⟩ := h
  refine ⟨_, ty, heap_setCell_same h _, by simpa using hz, fun i hi => ?_⟩
  obtain ⟨c1, c2⟩ := hc i hi
  rw [Array.getElem?_setIfInBounds, Array.getElem?_setIfInBounds, if_neg (by omega : ¬ k * 2 = i * 2 + 1)]
  refine ⟨?_, c2⟩
  by_cases e : i = k
  · subst e
    dsimp only
    rw [if_pos rfl, if_pos rfl, if_pos (by omega)]
  · dsimp only
    rw [if_neg (by omega : ¬ k * 2 = i * 2), if_neg e]; exact c1
theorem ShR.setL {w : World} {g n : Nat} {u lo : Nat → Nat} (h : ShR w g n u lo) (k x : Nat) : ShR (w.setCell ⟨g, k * 2 + 1, none⟩ (.int .i64 (x : Nat))) g n u (fun i => if i = k then x else lo i) := by
  obtain ⟨cs, ty, h, hz, hc⟩ := h
  refine ⟨_, ty, heap_setCell_same h _, by simpa using hz, fun i hi => ?_⟩
  obtain ⟨c1, c2⟩ := hc i hi
  rw [Array.getElem?_setIfInBounds, Array.getElem?_setIfInBounds, if_neg (by omega : ¬ k * 2 + 1 = i * 2)]
  refine ⟨c1, ?_⟩
  by_cases e : i = k
  · subst e
    dsimp only
    rw [if_pos rfl, if_pos rfl, if_pos (by omega)]
  · dsimp only
    rw [if_neg (by omega : ¬ k * 2 + 1 = i * 2 + 1), if_neg e]; exact c2

theorem cmpL_I (lo : Nat → Nat) (i j : Nat) : cmpI (lo j : Int) (lo i : Int) = cmpL lo i j := by
  unfold cmpI cmpL
  simp only [Int.ofNat_lt]

theorem byLoss1_any {u lo : Nat → Nat} {n g B i j : Nat} {w : World} (hS : ShR w g n u lo) (hb : w.cell? ⟨B, 0, none⟩ = some (.slice (some ⟨g, 0, none⟩) n n)) (hi : i < n) (hj : j < n) (hl : n ≤ 1000000) :
    Calls Tryz.prog 110 #[.int .i64 (i : Int), .int .i64 (j : Int), .pointer (some ⟨B, 0, none⟩)] w fun e w' => e = .returned (.int .i64 (cmpL lo i j)) ∧ ∃ q, w' = w.drewN q := by
  have ii : (i : Int) < (n : Int) := by omega
  have ij : (j : Int) < (n : Int) := by omega
  have il : (n : Int) ≤ 1000000 := by omega
  have c1 := (hS.cell hi).2
  have c2 := (hS.cell hj).2
  have C : ∀ W, Calls Tryz.prog 68 #[.int .i64 (lo j : Nat), .int .i64 (lo i : Nat)] W fun e w' => e = .returned (.int .i64 (cmpL lo i j)) ∧ w' = W := fun W => by rw [← cmpL_I]; exact compareI_any _ _ W
  clear hS
  go_enter Tryz.func110, Tryz.ntmps110
  go_wp2_with fail
  go_quiet ((first | (go_at_call 68; with_reducible exact Calls.quiet_of_same (C _)) | fail))
  go_wp2_with fail
  go_ret
  exact ⟨rfl, _, rfl⟩
end Go.Proofs.YtopklnaahdjafaaGreatDoor

/-
  The places of shares, the one that lost most first, of several the one that stands first.
-/
namespace Go.Proofs.YtopklnaahdjafaaGreatDoor
open Go.RowKit Go.Shelf Go.Maps Go.WideMaps Sorted
set_option linter.unusedVariables false
set_option linter.unusedSimpArgs false

theorem Row.made (w : World) (n : Nat) : Row (w.alloc (.cells (madeCells #[.int .i64 0] n) 3)) w.heap.size (List.replicate n 0) := by
  have e : madeCells #[.int .i64 0] n = arrN (List.replicate n 0) := by
    apply Array.ext
    · simp [size_madeCells, arrN]
    · intro i h1 h2; simp [madeCells, arrN, Nat.mod_one]
  rw [e]
  exact ⟨_, heap_alloc_new _ _⟩
theorem infoIntS : (Tryz.prog.info? 3).map (fun i => (i.zero, i.size, i.bytes)) = some (some (.int .i64 0), 1, 8) := by kernel_rfl
theorem make_places {e : Int} {n : Nat} (he : e = n) (hn : n ≤ 1000000) (w : World) : (Instr.makeSlice 24 (.int .i64 e) (.int .i64 e)).run Tryz.prog w = .ok (.slice (some ⟨w.heap.size, 0, none⟩) n n) (w.alloc (.cells (madeCells #[.int .i64 0] n) 3)) := by
  subst he
  exact run_make_row' (P := Tryz.prog) 24 3 (.int .i64 0) 8 Tryz.underlying24 infoIntS rfl .i64 .i64 n (by omega) (by omega) w
theorem set_range (k n : Nat) (h : k < n) : (List.range' 0 k ++ List.replicate (n - k) 0).set k k = List.range' 0 (k + 1) ++ List.replicate (n - (k + 1)) 0 := by
  obtain ⟨d, hd⟩ : ∃ d, n - k = d + 1 := ⟨n - k - 1, by omega⟩
  rw [hd, List.replicate_succ, List.set_append_right _ _ (by rw [List.length_range']; omega), List.length_range', Nat.sub_self, List.set_cons_zero, show n - (k + 1) = d by omega, List.range'_1_concat]
  simp

set_option maxRecDepth 100000 in
set_option maxHeartbeats 3200000 in
theorem byLoss_any {u lo : Nat → Nat} {n gs : Nat} {w : World} (hS : ShR w gs n u lo) (hl : n ≤ 1000) :
    Calls Tryz.prog 76 #[.slice (some ⟨gs, 0, none⟩) n n] w fun e w' => (∃ q, e = .returned (.slice (some ⟨q, 0, none⟩) n n) ∧ w.heap.size ≤ q ∧ Row w' q (lossOrd lo n)) ∧ Only w w' := by
  obtain ⟨N, hNe⟩ : ∃ N, N = Value.slice (some ⟨gs, 0, none⟩) n n := ⟨_, rfl⟩
  have il : (n : Int) ≤ 1000 := by omega
  have hbox : (w.alloc (.cells #[Value.slice (some ⟨gs, 0, none⟩) n n] 77)).cell? ⟨w.heap.size, 0, none⟩ = some (Value.slice (some ⟨gs, 0, none⟩) n n) := by rw [cell_new]; rfl
  have hS3 := hS.only ((Only.refl w).alloc (.cells #[Value.slice (some ⟨gs, 0, none⟩) n n] 77))
  have MK := make_places (e := (n : Int)) (n := n) rfl (by omega) (w.alloc (.cells #[Value.slice (some ⟨gs, 0, none⟩) n n] 77))
  have HR0 := Lib.hid (Row.made (w.alloc (.cells #[Value.slice (some ⟨gs, 0, none⟩) n n] 77)) n)
  have CI : CmpIs (w.alloc (.cells #[Value.slice (some ⟨gs, 0, none⟩) n n] 77)) (.pointer (some ⟨w.heap.size, 0, none⟩)) n (cmpL lo) := by
    intro W x y t hx hy
    exact byLoss1_any (hS3.only t) ((Below.cell t (World.block_lt_of_cell? _ _ hbox)).trans hbox) hx hy (by omega)
  have hord : lossOrd lo n = srt (byT (lessOf (cmpL lo))) (List.range' 0 n) := rfl
  have WK : Weak (lessOf (cmpL lo)) := weakL lo
  have ST := Lib.hid (fun (W : World) (g cp : Nat) (h : Row W g (List.range' 0 n)) (t : Only (w.alloc (.cells #[Value.slice (some ⟨gs, 0, none⟩) n n] 77)) W) (hg : (w.alloc (.cells #[Value.slice (some ⟨gs, 0, none⟩) n n] 77)).heap.size ≤ g) => stable_any (cap := cp) WK CI h t hg (by omega))
  have HSZ := Lib.hid (show (w.alloc (.cells #[Value.slice (some ⟨gs, 0, none⟩) n n] 77)).heap.size = w.heap.size + 1 by simp)
  rw [hord]
  obtain ⟨os, hos⟩ : ∃ os, os = srt (byT (lessOf (cmpL lo))) (List.range' 0 n) := ⟨_, rfl⟩
  rw [← hos] at ST ⊢
  clear hS hS3 CI hord WK hos hNe
  clear N
  go_enter Tryz.func76, Tryz.ntmps76
  have hmf : ∀ (fn : Fn) (first cap : Array Value) (w : World), (Instr.makeFunc fn first cap).run Tryz.prog w = .ok (.func fn first cap) w := fun _ _ _ _ => rfl
  obtain ⟨g, hg⟩ : ∃ g, g = (w.alloc (.cells #[Value.slice (some ⟨gs, 0, none⟩) n n] 77)).heap.size := ⟨_, rfl⟩
  rw [← hg] at MK HR0
  obtain ⟨w0, hw0⟩ : ∃ w0, w0 = w.alloc (.cells #[Value.slice (some ⟨gs, 0, none⟩) n n] 77) := ⟨_, rfl⟩
  have HW0 := Lib.hid hw0
  have HG := Lib.hid hg
  rw [← hw0] at ST
  have HGE := Lib.hid (show w0.heap.size ≤ g by rw [hg, hw0]; exact Nat.le_refl _)
  clear hg hw0
  go_wp2_with fail
  go_loopw [4, 10] (fun _ kv wx => ∃ k : Nat, kv = .int .i64 (k : Int) ∧ k ≤ n ∧ Row wx g (List.range' 0 k ++ List.replicate (n - k) 0) ∧ Only w0 wx) (fun _ kv _ => n - (intOf kv).toNat)
  case atStart => exact ⟨0, rfl, Nat.zero_le _, by simpa using HR0.out, by rw [HW0.out]; exact (Only.refl _).alloc _⟩
  case round =>
    obtain ⟨k, rfl, hk, hrow, ht⟩ := hrel
    by_cases hlt : k < n
    · have k1 : (k : Int) < (n : Int) := by omega
      have c1 := hrow.free k
      have hrow2 := hrow.set k k
      rw [set_range k n hlt] at hrow2
      have hin : k < (List.range' 0 k ++ List.replicate (n - k) 0).length := by simp; omega
      obtain ⟨old, c2⟩ : ∃ v : Value, wr.cell? ⟨g, k, none⟩ = some v := ⟨_, hrow.cell hin⟩
      have HROW := Lib.hid hrow2
      have HT2 := Lib.hid (ht.set HGE.out k (.int .i64 (k : Int)))
      clear hrow hrow2 ht hin
      go_wp2_with fail
      go_roundw
      case rel => exact ⟨k + 1, by push_cast; rfl, hlt, HROW.out, HT2.out⟩
      case measure => simp [intOf]; omega
    · have hk0 : k = n := by omega
      subst hk0
      have k1 : ¬ (k : Int) < (k : Int) := by omega
      have hrow2 : Row wr g (List.range' 0 k) := by simpa using hrow
      have C := Lib.hid (ST.out wr g k hrow2 ht HGE.out)
      clear hrow hrow2 ht hlt
      go_wp2_with fail
      refine C.out.mono ?_
      rintro r w2 ⟨rfl, hr2, ht2⟩
      have HR2 := Lib.hid hr2
      have HT2 := Lib.hid ht2
      clear hr2 ht2
      go_wp2_with fail
      go_ret
      have e2 : w.heap.size ≤ g := by have h1 := HGE.out; rw [HW0.out, HSZ.out] at h1; omega
      refine ⟨⟨g, rfl, e2, HR2.out⟩, ?_⟩
      have h0 : Only w w0 := by rw [HW0.out]; exact (Only.refl w).alloc _
      exact h0.trans HT2.out
end Go.Proofs.YtopklnaahdjafaaGreatDoor

/-
  A size parted by weights.
-/
namespace Go.Proofs.YtopklnaahdjafaaGreatDoor
open Go.RowKit Go.Shelf Go.Maps Go.WideMaps Sorted
set_option linter.unusedVariables false
set_option linter.unusedSimpArgs false

theorem infoShare : (Tryz.prog.info? 80).map (fun i => (i.zero, i.size, i.bytes)) = some (some (.agg #[.int .i64 0, .int .i64 0]), 2, 16) := by kernel_rfl
theorem made2_get (a b : Value) {n i : Nat} (hi : i < n) : (madeCells #[a, b] (n * 2))[i * 2]? = some a ∧ (madeCells #[a, b] (n * 2))[i * 2 + 1]? = some b := by
  have h1 : i * 2 < (madeCells #[a, b] (n * 2)).size := by rw [size_madeCells]; omega
  have h2 : i * 2 + 1 < (madeCells #[a, b] (n * 2)).size := by rw [size_madeCells]; omega
  rw [Array.getElem?_eq_getElem h1, Array.getElem?_eq_getElem h2]
  constructor
  · simp [madeCells]
  · simp [madeCells, Nat.add_mod]
theorem ShR.made (w : World) (n : Nat) : ShR (w.alloc (.cells (madeCells #[.int .i64 0, .int .i64 0] (n * 2)) 80)) w.heap.size n (fun _ => 0) (fun _ => 0) :=
  ⟨_, _, heap_alloc_new _ _, size_madeCells _ _, fun i hi => made2_get _ _ hi⟩
/-- a row of n things of two cells, made -/
theorem make_two {P : Program} (t e : TypeId) (a b z : Value) (bytes : Nat) (ht : P.underlying t = some (.slice e)) (hinfo : (P.info? e).map (fun i => (i.zero, i.size, i.bytes)) = some (some z, 2, bytes)) (hz1 : z.cells = #[a, b])
    {x : Int} {n : Nat} (hx : x = n) (hbytes : bytes * n ≤ 281474976710656) (h63 : n ≤ 9223372036854775807) (w : World) :
    (Instr.makeSlice t (.int .i64 x) (.int .i64 x)).run P w = .ok (.slice (some ⟨w.heap.size, 0, none⟩) n n) (w.alloc (.cells (madeCells #[a, b] (n * 2)) e)) := by
  subst hx
  obtain ⟨i, hi, hzz⟩ := Option.map_eq_some_iff.1 hinfo
  simp only [Prod.mk.injEq] at hzz
  obtain ⟨hz, hs, hb⟩ := hzz
  have hb' : (i.bytes : Int) * (n : Int) ≤ 281474976710656 := by
    rw [hb]
    have h : ((bytes * n : Nat) : Int) ≤ 281474976710656 := by omega
    rwa [Int.natCast_mul] at h
  have hr := run_make (P := P) w t e i z ht hi hz .i64 .i64 n n (by omega) (Int.le_refl _) hb' (by omega)
  simp only [Int.toNat_natCast, hs, hz1] at hr
  exact hr
theorem make_shares {e : Int} {n : Nat} (he : e = n) (hn : n ≤ 1000000) (w : World) : (Instr.makeSlice 77 (.int .i64 e) (.int .i64 e)).run Tryz.prog w = .ok (.slice (some ⟨w.heap.size, 0, none⟩) n n) (w.alloc (.cells (madeCells #[.int .i64 0, .int .i64 0] (n * 2)) 80)) :=
  make_two 77 80 _ _ _ 16 Tryz.underlying77 infoShare rfl he (by omega) (by omega) w

/-- the ints that weights are -/
def wI (ws : List Nat) : List Int := ws.map fun x : Nat => (x : Int)
theorem wI_len (ws : List Nat) : (wI ws).length = ws.length := by simp [wI]
theorem wI_at {ws : List Nat} {k : Nat} (h : k < ws.length) : (wI ws)[k]? = some ((ws.getD k 0 : Nat) : Int) := by simp [wI, List.getD, h]
theorem le_sum {ws : List Nat} {k : Nat} (h : k < ws.length) : ws.getD k 0 ≤ ws.sum := by
  have : ws.getD k 0 ∈ ws := by simp [List.getD, h]
  clear h
  generalize ws.getD k 0 = x at this
  induction ws with
  | nil => cases this
  | cons y l ih =>
    simp only [List.sum_cons]
    rcases List.mem_cons.1 this with e | e
    · omega
    · have := ih e; omega

/-- the units of the first k -/
def sumK (u t : Nat) (ws : List Nat) (k : Nat) : Nat := ((List.range' 0 k).map (unitP u t ws)).sum
theorem sumK_succ (u t : Nat) (ws : List Nat) (k : Nat) : sumK u t ws (k + 1) = sumK u t ws k + unitP u t ws k := by
  unfold sumK
  rw [List.range'_1_concat, List.map_append, List.sum_append]
  simp
theorem sumK_mono (u t : Nat) (ws : List Nat) {k n : Nat} (h : k ≤ n) : sumK u t ws k ≤ sumK u t ws n := by
  induction n with
  | zero => have : k = 0 := by omega
            subst this; exact Nat.le_refl _
  | succ n ih =>
    rw [sumK_succ]
    rcases Nat.lt_or_ge k (n + 1) with h2 | h2
    · have := ih (by omega); omega
    · have : k = n + 1 := by omega
      subst this
      rw [sumK_succ]; exact Nat.le_refl _

theorem Row.far {w : World} {g p : Nat} {l : List Nat} (h : Row w g l) (e : g ≠ p) (j : Nat) (v : Value) : Row (w.setCell ⟨p, j, none⟩ v) g l := by
  obtain ⟨ty, h⟩ := h
  exact ⟨ty, (heap_setCell_other e v).trans h⟩
theorem take_succ_at {l : List Nat} {j : Nat} (h : j < l.length) : l.take (j + 1) = l.take j ++ [l[j]] := by
  rw [List.take_add_one, List.getElem?_eq_getElem h]; rfl
theorem not_in_take {l : List Nat} (hn : l.Nodup) {j : Nat} (h : j < l.length) : l[j] ∉ l.take j := fun hm => by
  obtain ⟨i, hi, he⟩ := List.getElem_of_mem hm
  rw [List.length_take] at hi
  rw [List.getElem_take] at he
  exact List.pairwise_iff_getElem.1 hn i j (by omega) h (by omega) he

set_option maxRecDepth 100000 in
set_option maxHeartbeats 3200000 in
theorem allocated_any {u t : Nat} {ws : List Nat} {v : Value} {w : World} (hv : IntsIn w v (wI ws)) (hu : u ≤ 4611686018427387904) (h0 : 0 < t) (ht : ws.sum = t) (ht2 : t ≤ 1099511627776) (hl : ws.length ≤ 100) :
    Calls Tryz.prog 42 #[.int .i64 (u : Int), v, .int .i64 (t : Int)] w fun e w' => e = .returned (.slice (some ⟨w.heap.size, 0, none⟩) ws.length ws.length) ∧ ShR w' w.heap.size ws.length (partP u t ws) (lostP u t ws) ∧ Only w w' := by
  obtain ⟨n, hn⟩ : ∃ n, n = ws.length := ⟨_, rfl⟩
  have hv2 := hv
  obtain ⟨sp, cap, hve, hr⟩ := hv2
  rw [wI_len, ← hn] at hve
  subst hve
  rw [← hn] at hl ⊢
  have il : (n : Int) ≤ 100 := by omega
  have iu0 : (0 : Int) ≤ (u : Int) := by omega
  have iu : (u : Int) ≤ 4611686018427387904 := by omega
  have HLE := Lib.hid (left_eq (u := u) h0 ht)
  have HSK := Lib.hid (show sumU u t ws = sumK u t ws n by unfold sumU sumK; rw [hn])
  have MK := make_shares (e := (n : Int)) (n := n) rfl (by omega) w
  have HR0 := Lib.hid (ShR.made w n)
  have SH : Hid (∀ (k : Nat), k < n → ∀ W : World, Calls Tryz.prog 75 #[.int .i64 (u : Int), .int .i64 ((ws.getD k 0 : Nat) : Int), .int .i64 (t : Int)] W fun e w' => e = .returned (.agg #[.int .i64 ((unitP u t ws k : Nat) : Int), .int .i64 ((lostP u t ws k : Nat) : Int)]) ∧ Only W w') := Lib.hid (fun k hk W => by
    have h1 := le_sum (ws := ws) (k := k) (by omega)
    have := share_any (n := (u : Int)) (u := ((ws.getD k 0 : Nat) : Int)) (t := (t : Int)) ⟨by omega, by omega⟩ ⟨by omega, by omega⟩ ⟨by omega, by omega⟩ W
    unfold unitP lostP
    push_cast
    exact this)
  have HV := Lib.hid hv
  have HN := Lib.hid hn
  have HT := Lib.hid ht
  clear hv hr hn ht hu h0 ht2
  go_enter Tryz.func42, Tryz.ntmps42
  go_wp2_with fail
  go_loopw [8, 19, 9, 10] (fun lv iv _ _ wx => ∃ k : Nat, iv = .int .i64 (k : Int) ∧ k ≤ n ∧ lv = .int .i64 ((u : Int) - (sumK u t ws k : Nat)) ∧ ShR wx w.heap.size n (fun i => if i < k then unitP u t ws i else 0) (fun i => if i < k then lostP u t ws i else 0) ∧ Only w wx) (fun _ iv _ _ _ => n - (intOf iv).toNat)
  case atStart => exact ⟨0, rfl, Nat.zero_le _, by simp [sumK], by simpa using HR0.out, (Only.refl w).alloc _⟩
  case round =>
    obtain ⟨k, rfl, hk, rfl, hS, ho⟩ := hrel
    by_cases hlt : k < n
    · have k1 : (k : Int) < (n : Int) := by omega
      have hsk := sumK_mono u t ws (k := k) (n := n) (by omega)
      have hsk2 := sumK_mono u t ws (k := k + 1) (n := n) (by omega)
      have hle := HLE.out.1
      rw [HSK.out] at hle
      have hss := sumK_succ u t ws k
      obtain ⟨sp', cap', hve, hr⟩ := HV.out.only ho
      obtain ⟨gw, ow, rfl, hcw⟩ := hr (by rw [wI_len, ← HN.out]; omega)
      obtain ⟨rfl, rfl⟩ : sp = some ⟨gw, ow, none⟩ ∧ cap = cap' := by rw [wI_len, ← HN.out] at hve; simpa using hve
      have cw := hcw k _ (wI_at (by rw [← HN.out]; exact hlt))
      have C := Lib.hid (SH.out k hlt)
      obtain ⟨wk, hwk⟩ : ∃ x : Nat, x = ws.getD k 0 := ⟨_, rfl⟩
      obtain ⟨U, hU⟩ : ∃ x : Nat, x = unitP u t ws k := ⟨_, rfl⟩
      obtain ⟨L, hL⟩ : ∃ x : Nat, x = lostP u t ws k := ⟨_, rfl⟩
      obtain ⟨s, hs⟩ : ∃ x : Nat, x = sumK u t ws k := ⟨_, rfl⟩
      rw [← hwk] at cw C
      rw [← hU, ← hL] at C
      rw [← hs] at hss hsk ⊢
      rw [← hU] at hss
      rw [hss] at hsk2
      have HU := Lib.hid hU
      have HLo := Lib.hid hL
      have HSS := Lib.hid hss
      have iU0 : (0 : Int) ≤ (U : Int) := by omega
      have iU : (U : Int) ≤ 4611686018427387904 := by omega
      have is0 : (0 : Int) ≤ (s : Int) := by omega
      have is : (s : Int) + (U : Int) ≤ (u : Int) := by omega
      clear hve hcw hr hwk hU hL hs hss hsk hsk2 hle
      go_wp2_with fail
      go_at_call 75
      refine (C.out _).mono ?_
      rintro r w1 ⟨rfl, t1⟩
      have h1 := hS.only t1
      have f0 := h1.free (k * 2)
      have f1 := h1.free (k * 2 + 1)
      have hN := Lib.hid (((h1.setU k U).setL k L).ext (u' := fun i => if i < k + 1 then unitP u t ws i else 0) (lo' := fun i => if i < k + 1 then lostP u t ws i else 0) fun i hi => by
        by_cases e : i = k
        · subst e
          simp [HU.out, HLo.out]
        · have : (i < k + 1) = (i < k) := by apply propext; omega
          simp only [e, if_false, this, and_self])
      have g0 := (hN.out.cell hlt).1
      simp only [if_pos (Nat.lt_succ_self k)] at g0
      rw [← HU.out] at g0
      obtain ⟨c0, c1⟩ := h1.cell hlt
      have hT := Lib.hid (((ho.trans t1).set (p := w.heap.size) (Nat.le_refl _) (k * 2) (.int .i64 (U : Int))).set (p := w.heap.size) (Nat.le_refl _) (k * 2 + 1) (.int .i64 (L : Int)))
      clear h1 hS ho t1 cw
      go_wp2_with fail
      go_roundw
      case rel => exact ⟨k + 1, by push_cast; rfl, by omega, by rw [HSS.out]; push_cast; congr 1; omega, hN.out, hT.out⟩
      case measure => simp [intOf]; omega
    · have hkn : k = n := by omega
      subst hkn
      have hle := HLE.out
      have hle1 := hle.1
      have hlen := hle.2.2
      have hdef : leftP u t ws = u - sumU u t ws := rfl
      rw [HSK.out] at hle1 hdef
      obtain ⟨d, hd⟩ : ∃ d, d = leftP u t ws := ⟨_, rfl⟩
      rw [← hd] at hdef hlen
      rw [← HN.out] at hlen
      have ed : (u : Int) - (sumK u t ws k : Nat) = (d : Int) := by omega
      rw [ed]
      have hS := hS.ext (u' := unitP u t ws) (lo' := lostP u t ws) fun i hi => by simp [hi]
      have B := Lib.hid (byLoss_any hS (by omega))
      have HD := Lib.hid hd
      have id1 : (d : Int) ≤ (k : Int) := by omega
      have id2 : (0 : Int) ≤ (d : Int) := by omega
      have HF : Hid (partP u t ws = fun i => unitP u t ws i + if i ∈ (lossOrd (lostP u t ws) k).take d then 1 else 0) := Lib.hid (by rw [hd, HN.out]; rfl)
      have HLL := Lib.hid (lossOrd_len (lostP u t ws) k)
      have HND := Lib.hid (lossOrd_nodup (lostP u t ws) k)
      have HLM := Lib.hid (fun i => (lossOrd_mem (lo := lostP u t ws) (n := k) (i := i)).1)
      clear hle hle1 hdef ed hd
      obtain ⟨os, hos⟩ : ∃ os, os = lossOrd (lostP u t ws) k := ⟨_, rfl⟩
      rw [← hos] at HLL HND HLM B HF
      clear hos
      go_wp2_with fail
      go_at_call 76
      refine (B.out).mono ?_
      rintro r w1 ⟨⟨q, rfl, hq, hrow⟩, t1⟩
      have hS1 := hS.only t1
      have ho1 := ho.trans t1
      have hq2 : w.heap.size < q := Nat.lt_of_lt_of_le hS.lt hq
      have HRow := Lib.hid hrow
      have HQ := Lib.hid hq2
      have HS1 := Lib.hid hS1
      have HO1 := Lib.hid ho1
      clear hS ho t1 hrow hS1 ho1 B hq hq2
      go_wp2_with fail
      go_loopw [44, 12] (fun jv _ wx => ∃ j : Nat, jv = .int .i64 (j : Int) ∧ j ≤ d ∧ ShR wx w.heap.size k (fun i => unitP u t ws i + if i ∈ os.take j then 1 else 0) (lostP u t ws) ∧ Row wx q os ∧ Only w wx) (fun jv _ _ => d - (intOf jv).toNat)
      case atStart => exact ⟨0, rfl, Nat.zero_le _, by simpa using HS1.out, HRow.out, HO1.out⟩
      case round =>
        obtain ⟨j, rfl, hj, hS, hrow, ho⟩ := hrel
        by_cases hjd : j < d
        · have j1 : (j : Int) < (d : Int) := by omega
          have hjl : j < os.length := by rw [HLL.out]; omega
          have cj := hrow.cell hjl
          have hpk : os[j] < k := HLM.out _ (List.getElem_mem hjl)
          obtain ⟨p, hp⟩ : ∃ p, p = os[j] := ⟨_, rfl⟩
          rw [← hp] at cj hpk
          have hnot : p ∉ os.take j := by rw [hp]; exact not_in_take HND.out hjl
          obtain ⟨cu, -⟩ := hS.cell hpk
          simp only [if_neg hnot, Nat.add_zero] at cu
          have fz := hS.free (p * 2)
          have ip : (p : Int) < (k : Int) := by omega
          obtain ⟨U, hU⟩ : ∃ U, U = unitP u t ws p := ⟨_, rfl⟩
          have hUb : U ≤ u := by
            have h1 := sumK_succ u t ws p
            have h2 := sumK_mono u t ws (k := p + 1) (n := k) (by omega)
            have h3 := HLE.out.1
            rw [HSK.out] at h3
            omega
          rw [← hU] at cu
          have iU : (U : Int) ≤ 4611686018427387904 := by omega
          have iU0 : (0 : Int) ≤ (U : Int) := by omega
          have hN := hS.setU p (U + 1)
          rw [show (((U + 1 : Nat) : Int)) = (U : Int) + 1 by push_cast; rfl] at hN
          have HNN := Lib.hid (hN.ext (u' := fun i => unitP u t ws i + if i ∈ os.take (j + 1) then 1 else 0) (lo' := lostP u t ws) fun i hi => ⟨by
            rw [take_succ_at hjl, ← hp]
            by_cases e : i = p
            · subst e
              rw [if_pos rfl, if_pos (by simp), hU]
            · rw [if_neg e]
              congr 1
              simp only [List.mem_append, List.mem_singleton, e, or_false], rfl⟩)
          have HRW := Lib.hid (hrow.far (p := w.heap.size) (by have := HQ.out; omega) (p * 2) (.int .i64 ((U : Int) + 1)))
          have HOO := Lib.hid (ho.set (p := w.heap.size) (Nat.le_refl _) (p * 2) (.int .i64 ((U : Int) + 1)))
          clear hN hrow hS ho hnot hU hUb hp hjl
          go_wp2_with fail
          go_roundw
          case rel => exact ⟨j + 1, by push_cast; rfl, by omega, HNN.out, HRW.out, HOO.out⟩
          case measure => simp [intOf]; omega
        · have hjd2 : j = d := by omega
          subst hjd2
          have HS2 := Lib.hid hS
          clear hS hrow
          go_wp2_with fail
          go_ret
          exact ⟨rfl, by rw [HF.out]; exact HS2.out, ho⟩
end Go.Proofs.YtopklnaahdjafaaGreatDoor

/-
  Allocate of any weights. (Made by gen_malloc.py.)
-/
namespace Go.Proofs.YtopklnaahdjafaaGreatDoor
open Go.RowKit Go.Shelf Go.Maps Go.WideMaps Sorted
set_option linter.unusedVariables false
set_option linter.unusedSimpArgs false

/-- block g holds n pairs of cells -/
def TwoR (w : World) (g n : Nat) (a b : Nat → Value) : Prop := ∃ cs ty, w.heap[g]? = some (.cells cs ty) ∧ cs.size = n * 2 ∧ ∀ i, i < n → cs[i * 2]? = some (a i) ∧ cs[i * 2 + 1]? = some (b i)
theorem TwoR.lt {w : World} {g n : Nat} {u lo : Nat → Value} (h : TwoR w g n u lo) : g < w.heap.size := by
  obtain ⟨cs, ty, h, -⟩ := h; exact (Array.getElem?_eq_some_iff.1 h).1
theorem TwoR.only {w w' : World} {g n : Nat} {u lo : Nat → Value} (h : TwoR w g n u lo) (t : Only w w') : TwoR w' g n u lo := by
  have := h.lt
  obtain ⟨cs, ty, h, k⟩ := h
  exact ⟨cs, ty, (t.block g this).trans h, k⟩
theorem TwoR.free {w : World} {g n : Nat} {u lo : Nat → Value} (h : TwoR w g n u lo) (j : Nat) : w.frozen? ⟨g, j, none⟩ = false := by
  obtain ⟨cs, ty, h, -⟩ := h; simp [World.frozen?, h]
theorem TwoR.cell {w : World} {g n : Nat} {u lo : Nat → Value} (h : TwoR w g n u lo) {i : Nat} (hi : i < n) : w.cell? ⟨g, i * 2, none⟩ = some (u i) ∧ w.cell? ⟨g, i * 2 + 1, none⟩ = some (lo i) := by
  obtain ⟨cs, ty, h, -, hc⟩ := h
  obtain ⟨c1, c2⟩ := hc i hi
  simp [World.cell?, h, c1, c2]
theorem TwoR.ext {w : World} {g n : Nat} {u lo u' lo' : Nat → Value} (h : TwoR w g n u lo) (e : ∀ i, i < n → u i = u' i ∧ lo i = lo' i) : TwoR w g n u' lo' := by
  obtain ⟨cs, ty, h, k, hc⟩ := h
  exact ⟨cs, ty, h, k, fun i hi => by rw [← (e i hi).1, ← (e i hi).2]; exact hc i hi⟩
theorem TwoR.set2 {w : World} {g n : Nat} {u lo : Nat → Value} (h : TwoR w g n u lo) (k : Nat) (x y : Value) : TwoR ((w.setCell ⟨g, k * 2, none⟩ x).setCell ⟨g, k * 2 + 1, none⟩ y) g n (fun i => if i = k then x else u i) (fun i => if i = k then y else lo i) := by
  obtain ⟨cs, ty, h, hz, hc⟩ := h
  refine ⟨_, ty, heap_setCell_same (heap_setCell_same h _) _, by simpa using hz, fun i hi => ?_⟩
  obtain ⟨c1, c2⟩ := hc i hi
  rw [Array.getElem?_setIfInBounds, Array.getElem?_setIfInBounds, Array.getElem?_setIfInBounds, Array.getElem?_setIfInBounds, if_neg (by omega : ¬ k * 2 + 1 = i * 2), if_neg (by omega : ¬ k * 2 = i * 2 + 1)]
  by_cases e : i = k
  · subst e
    simp; omega
  · simp only [if_neg e]
    rw [if_neg (by omega), if_neg (by omega)]
    exact ⟨c1, c2⟩
theorem ShR.alloc {w : World} {g n : Nat} {u lo : Nat → Nat} (h : ShR w g n u lo) (o : Obj) : ShR (w.alloc o) g n u lo := h.only ((Only.refl w).alloc o)
theorem TwoR.alloc {w : World} {g n : Nat} {u lo : Nat → Value} (h : TwoR w g n u lo) (o : Obj) : TwoR (w.alloc o) g n u lo := h.only ((Only.refl w).alloc o)

theorem infoAm : (Tryz.prog.info? 23).map (fun i => (i.zero, i.size, i.bytes)) = some (some (.agg #[.int .i64 0, .string ⟨#[]⟩]), 2, 24) := by kernel_rfl
theorem make_ams {e : Int} {n : Nat} (he : e = n) (hn : n ≤ 1000000) (w : World) : (Instr.makeSlice 26 (.int .i64 e) (.int .i64 e)).run Tryz.prog w = .ok (.slice (some ⟨w.heap.size, 0, none⟩) n n) (w.alloc (.cells (madeCells #[.int .i64 0, .string ⟨#[]⟩] (n * 2)) 23)) :=
  make_two 26 23 _ _ _ 24 Tryz.underlying26 infoAm rfl he (by omega) (by omega) w
theorem TwoR.made (w : World) (n : Nat) : TwoR (w.alloc (.cells (madeCells #[.int .i64 0, .string ⟨#[]⟩] (n * 2)) 23)) w.heap.size n (fun _ => .int .i64 0) (fun _ => .string ⟨#[]⟩) :=
  ⟨_, _, heap_alloc_new _ _, size_madeCells _ _, fun i hi => made2_get _ _ hi⟩

def sgnA (x : Int) (p : Nat) : Int := if x < 0 then -(p : Int) else (p : Int)
/-- the parts of an amount -/
def partsA (x : Int) (c : ByteArray) (ws : List Nat) : List (Int × ByteArray) := (List.range' 0 ws.length).map fun i => (sgnA x (partP x.natAbs ws.sum ws i), c)
theorem partsA_len (x : Int) (c : ByteArray) (ws : List Nat) : (partsA x c ws).length = ws.length := by simp [partsA]
theorem partsA_at {x : Int} {c : ByteArray} {ws : List Nat} {i : Nat} (h : i < ws.length) : (partsA x c ws)[i]? = some (sgnA x (partP x.natAbs ws.sum ws i), c) := by
  unfold partsA
  rw [List.getElem?_map, List.getElem?_eq_getElem (by simpa using h)]
  simp

/-- the same weights, as ints -/
theorem wI_of {l : List Int} (h : GoodW l) : ∃ ws : List Nat, l = wI ws ∧ ws.length = l.length ∧ (ws.sum : Int) = l.sum := by
  induction l with
  | nil => exact ⟨[], rfl, rfl, rfl⟩
  | cons x l ih =>
    obtain ⟨ws, e1, e2, e3⟩ := ih fun y hy => h y (List.mem_cons_of_mem _ hy)
    have hx := (h x (List.mem_cons_self ..)).1
    refine ⟨x.toNat :: ws, ?_, by simp [e2], ?_⟩
    · rw [e1]; simp [wI]; omega
    · simp only [List.sum_cons]; push_cast; rw [e3]; omega

abbrev AlloIs (w : World) (x : Int) (c : ByteArray) (v : Value) (Q : Value → Int → World → Prop) : Prop := Calls Tryz.prog 8 #[.agg #[.int .i64 x, .string c], v] w fun e w' => ∃ r n, e = .returned (.tuple #[r, .int .i64 n]) ∧ Q r n w' ∧ Only w w'

theorem allo_bad1 {x k e : Int} {c d : ByteArray} {v : Value} {w : World} (C : CurIs x c d k e) (h1 : (e == 0) = false) (h2 : (e != 0) = true) : AlloIs w x c v fun r n _ => r = .slice none 0 0 ∧ n = e := by
  have C := Lib.hid C
  have ht := (Only.refl w).alloc (.cells #[.int .i64 x, .string c] 23)
  go_enter Tryz.func8, Tryz.ntmps8
  go_wp2_with fail
  go_at_call 40
  refine (C.out _).mono ?_
  rintro r w1 ⟨rfl, t1⟩
  have ht := (ht.trans t1).alloc (.cells #[.string d, .int .i64 k] 45)
  clear t1
  go_wp2
  go_ret2
  exact ⟨_, _, rfl, ⟨rfl, rfl⟩, ht⟩

theorem allo_bad2 {x k : Int} {c d : ByteArray} {l : List Int} {v : Value} {w : World} (C : CurIs x c d k 0) (hv : IntsIn w v l) (h : totE l ≠ 0) : AlloIs w x c v fun r n _ => r = .slice none 0 0 ∧ n = totE l := by
  have T := Lib.hid (fun (W : World) (t : Only w W) => totalOf_any (hv.only t))
  have h1 := (ne_eqs h).1
  have h2 := (ne_eqs h).2
  obtain ⟨e, he⟩ : ∃ e, e = totE l := ⟨_, rfl⟩
  rw [← he] at T h1 h2 ⊢
  have C := Lib.hid C
  have ht := (Only.refl w).alloc (.cells #[.int .i64 x, .string c] 23)
  clear he h hv
  go_enter Tryz.func8, Tryz.ntmps8
  go_wp2_with fail
  go_at_call 40
  refine (C.out _).mono ?_
  rintro r w1 ⟨rfl, t1⟩
  have ht := (ht.trans t1).alloc (.cells #[.string d, .int .i64 k] 45)
  clear t1
  go_wp2_with fail
  go_at_call 41
  refine (T.out _ ht).mono ?_
  rintro r w2 ⟨rfl, rfl⟩
  go_wp2
  go_ret2
  exact ⟨_, _, rfl, ⟨rfl, rfl⟩, ht⟩

set_option maxRecDepth 100000 in
set_option maxHeartbeats 3200000 in
theorem allo_pos {u : Nat} {k₀ : Int} {c : ByteArray} {ws : List Nat} {v : Value} {w : World} (C : CurIs (u : Int) c c k₀ 0) (hv : IntsIn w v (wI ws)) (hE : totE (wI ws) = 0) (hT : ((ws.sum : Nat) : Int) = (wI ws).sum) (hl : ws.length ≤ 100) (h0 : 0 < ws.sum) (ht2 : ws.sum ≤ 1099511627776) (hu : u ≤ 4611686018427387904) :
    AlloIs w (u : Int) c v fun r n w' => AmsR w' r (partsA (u : Int) c ws) ∧ n = 0 := by
  obtain ⟨n, hn⟩ : ∃ n, n = ws.length := ⟨_, rfl⟩
  obtain ⟨t, ht0⟩ : ∃ t, t = ws.sum := ⟨_, rfl⟩
  have hv2 := hv
  obtain ⟨sp, cap, hve, -⟩ := hv2
  rw [wI_len, ← hn] at hve
  subst hve
  have T := Lib.hid (fun (W : World) (tt : Only w W) => totalOf_any (hv.only tt))
  rw [hE, okI_0, ← hT, ← ht0] at T
  have AL := Lib.hid (fun (W : World) (tt : Only w W) => allocated_any (u := u) (t := t) (hv.only tt) hu (by omega) ht0.symm (by omega) hl)
  rw [← hn] at AL
  have hsg : sgnA (u : Int) = fun p : Nat => (p : Int) := by funext p; unfold sgnA; rw [if_neg (by omega)]
  have HPA : Hid (∀ (W : World) (g : Nat), TwoR W g n (fun i => .int .i64 (((partP u t ws i : Nat) : Int))) (fun _ => .string c) → AmsR W (.slice (some ⟨g, 0, none⟩) n n) (partsA (u : Int) c ws)) := Lib.hid (fun W g h => ⟨some ⟨g, 0, none⟩, n, by rw [partsA_len, hn], fun _ => ⟨g, 0, rfl, fun i z hz => by
    have hi : i < ws.length := by rw [← partsA_len (u : Int) c ws]; exact (List.getElem?_eq_some_iff.1 hz).1
    rw [partsA_at hi, hsg] at hz
    have hz2 := (Option.some.inj hz).symm
    subst hz2
    rw [Nat.zero_add]
    have := h.cell (i := i) (by rw [hn]; exact hi)
    rw [ht0] at this
    simpa using this⟩⟩)
  have HPL : Hid (∀ i, i < n → partP u t ws i ≤ u) := Lib.hid (fun i hi => part_le (by omega) ht0.symm (by rw [← hn]; exact hi))
  have il : (n : Int) ≤ 100 := by omega
  have iu : (0 : Int) ≤ (u : Int) := by omega
  have iu2 : (u : Int) ≤ 4611686018427387904 := by omega
  have C := Lib.hid C
  have o1 := Own2.new w (.int .i64 (u : Int)) (.string c) 23
  have ht := (Only.refl w).alloc (.cells #[.int .i64 (u : Int), .string c] 23)
  have MK := fun W => make_ams (e := (n : Int)) (n := n) rfl (by omega) W
  have HMD := Lib.hid (fun W => TwoR.made W n)
  clear hv hE hT hl h0 ht2 hu hn ht0 hsg
  go_enter Tryz.func8, Tryz.ntmps8
  go_wp2_with fail
  go_at_call 40
  refine (C.out _).mono ?_
  rintro r w1 ⟨rfl, t1⟩
  have o2 := Own2.new w1 (.string c) (.int .i64 k₀) 45
  have o1 := (o1.only t1).alloc (.cells #[.string c, .int .i64 k₀] 45)
  have hT1 := (ht.trans t1).alloc (.cells #[.string c, .int .i64 k₀] 45)
  obtain ⟨d1, d2, f1, f2, z1⟩ := o1.all
  have hw1 : w.heap.size ≤ w1.heap.size := (ht.trans t1).size
  clear t1 ht o1
  go_wp2_with fail
  go_at_call 41
  refine (T.out _ hT1).mono ?_
  rintro r w2 ⟨rfl, rfl⟩
  have hQ := HMD.out (w1.alloc (.cells #[.string c, .int .i64 k₀] 45))
  have hT2 := hT1.alloc (.cells (madeCells #[.int .i64 0, .string ⟨#[]⟩] (n * 2)) 23)
  have o3 := o2.alloc (.cells (madeCells #[.int .i64 0, .string ⟨#[]⟩] (n * 2)) 23)
  rw [show (w1.alloc (.cells #[.string c, .int .i64 k₀] 45)).heap.size = w1.heap.size + 1 by simp] at hQ
  clear hT1 o2
  go_wp2_with fail
  go_at_call 42
  refine (AL.out _ hT2).mono ?_
  rintro r w3 ⟨rfl, hS, t3⟩
  have hQ2 := hQ.only t3
  have hT3 := hT2.trans t3
  have o4 := o3.only t3
  obtain ⟨S, hSe⟩ : ∃ S, S = ((w1.alloc (.cells #[.string c, .int .i64 k₀] 45)).alloc (.cells (madeCells #[.int .i64 0, .string ⟨#[]⟩] (n * 2)) 23)).heap.size := ⟨_, rfl⟩
  have hSv : S = w1.heap.size + 1 + 1 := by rw [hSe]; simp
  rw [← hSe] at hS
  subst hSv
  clear hSe hQ hT2 o3 t3 d1 d2 f1 f2 z1 MK
  go_wp2_with fail
  go_loopw [44, 12, 13] (fun iv _ _ wx => ∃ k : Nat, iv = .int .i64 (k : Int) ∧ k ≤ n ∧ TwoR wx (w1.heap.size + 1) n (fun i => .int .i64 (if i < k then ((partP u t ws i : Nat) : Int) else 0)) (fun i => .string (if i < k then c else ⟨#[]⟩)) ∧ Only w wx ∧ ShR wx (w1.heap.size + 1 + 1) n (partP u t ws) (lostP u t ws) ∧ Own2 wx w1.heap.size (.string c) (.int .i64 k₀)) (fun iv _ _ _ => n - (intOf iv).toNat)
  case atStart => exact ⟨0, rfl, Nat.zero_le _, by simpa using hQ2, hT3, hS, o4⟩
  case round =>
    clear hQ2 hT3 hS o4
    obtain ⟨k, rfl, hk, hA, ht, hS, oc⟩ := hrel
    by_cases hlt : k < n
    · have k1 : (k : Int) < (n : Int) := by omega
      have hple := HPL.out k hlt
      obtain ⟨s0, s1⟩ := hS.cell hlt
      obtain ⟨p, hp⟩ : ∃ p, p = partP u t ws k := ⟨_, rfl⟩
      obtain ⟨L, hL⟩ : ∃ L, L = lostP u t ws k := ⟨_, rfl⟩
      rw [← hp] at s0 hple
      rw [← hL] at s1
      obtain ⟨cc0, cc1, -, -, zc⟩ := oc.all
      obtain ⟨c0, c1⟩ := hA.cell hlt
      have f0 := hA.free (k * 2)
      have f1 := hA.free (k * 2 + 1)
      have hz := hA.lt
      have hz2 := hS.lt
      have ip : (p : Int) ≤ 4611686018427387904 := by omega
      have ip0 : (0 : Int) ≤ (p : Int) := by omega
      have HP := Lib.hid hp
      have hN := Lib.hid (((hA.set2 k (.int .i64 ((p : Int))) (.string c)).ext (u' := fun i => .int .i64 (if i < k + 1 then ((partP u t ws i : Nat) : Int) else 0)) (lo' := fun i => .string (if i < k + 1 then c else ⟨#[]⟩)) fun i hi => by
        by_cases e : i = k
        · subst e
          simp [hp]
        · have : (i < k + 1) = (i < k) := by apply propext; omega
          simp only [e, if_false, this, and_self]).alloc (.cells #[.int .i64 (p : Int), .int .i64 (L : Int)] 80))
      have hT := Lib.hid (((ht.set (p := w1.heap.size + 1) (by omega) (k * 2) (.int .i64 ((p : Int)))).set (p := w1.heap.size + 1) (by omega) (k * 2 + 1) (.string c)).alloc (.cells #[.int .i64 (p : Int), .int .i64 (L : Int)] 80))
      have hX := Lib.hid (((hS.far (p := w1.heap.size + 1) (by omega) (k * 2) (.int .i64 ((p : Int)))).far (p := w1.heap.size + 1) (by omega) (k * 2 + 1) (.string c)).alloc (.cells #[.int .i64 (p : Int), .int .i64 (L : Int)] 80))
      have hO := Lib.hid (((oc.far (p := w1.heap.size + 1) (by omega) (k * 2) (.int .i64 ((p : Int)))).far (p := w1.heap.size + 1) (by omega) (k * 2 + 1) (.string c)).alloc (.cells #[.int .i64 (p : Int), .int .i64 (L : Int)] 80))
      clear hA ht hS oc hp hL hple
      go_wp2
      go_roundw
      case rel => exact ⟨k + 1, by push_cast; rfl, by omega, hN.out, hT.out, hX.out, hO.out⟩
      case measure => simp [intOf]; omega
    · have hkn : k = n := by omega
      subst hkn
      have hA2 := Lib.hid (HPA.out _ _ (hA.ext (u' := fun i => .int .i64 (((partP u t ws i : Nat) : Int))) (lo' := fun _ => .string c) fun i hi => by simp [hi]))
      clear hA hS oc
      go_wp2
      go_ret2
      exact ⟨_, _, rfl, ⟨hA2.out, rfl⟩, ht⟩

set_option maxRecDepth 100000 in
set_option maxHeartbeats 3200000 in
theorem allo_neg {u : Nat} {k₀ : Int} {c : ByteArray} {ws : List Nat} {v : Value} {w : World} (C : CurIs (-(u : Int)) c c k₀ 0) (hv : IntsIn w v (wI ws)) (hE : totE (wI ws) = 0) (hT : ((ws.sum : Nat) : Int) = (wI ws).sum) (hl : ws.length ≤ 100) (h0 : 0 < ws.sum) (ht2 : ws.sum ≤ 1099511627776) (hu : 0 < u ∧ u ≤ 4611686018427387904) :
    AlloIs w (-(u : Int)) c v fun r n w' => AmsR w' r (partsA (-(u : Int)) c ws) ∧ n = 0 := by
  obtain ⟨n, hn⟩ : ∃ n, n = ws.length := ⟨_, rfl⟩
  obtain ⟨t, ht0⟩ : ∃ t, t = ws.sum := ⟨_, rfl⟩
  have hv2 := hv
  obtain ⟨sp, cap, hve, -⟩ := hv2
  rw [wI_len, ← hn] at hve
  subst hve
  have T := Lib.hid (fun (W : World) (tt : Only w W) => totalOf_any (hv.only tt))
  rw [hE, okI_0, ← hT, ← ht0] at T
  have AL := Lib.hid (fun (W : World) (tt : Only w W) => allocated_any (u := u) (t := t) (hv.only tt) hu.2 (by omega) ht0.symm (by omega) hl)
  rw [← hn] at AL
  have hsg : sgnA (-(u : Int)) = fun p : Nat => -(p : Int) := by funext p; unfold sgnA; rw [if_pos (by omega)]
  have HPA : Hid (∀ (W : World) (g : Nat), TwoR W g n (fun i => .int .i64 (-((partP u t ws i : Nat) : Int))) (fun _ => .string c) → AmsR W (.slice (some ⟨g, 0, none⟩) n n) (partsA (-(u : Int)) c ws)) := Lib.hid (fun W g h => ⟨some ⟨g, 0, none⟩, n, by rw [partsA_len, hn], fun _ => ⟨g, 0, rfl, fun i z hz => by
    have hi : i < ws.length := by rw [← partsA_len (-(u : Int)) c ws]; exact (List.getElem?_eq_some_iff.1 hz).1
    rw [partsA_at hi, hsg] at hz
    have hz2 := (Option.some.inj hz).symm
    subst hz2
    rw [Nat.zero_add]
    have := h.cell (i := i) (by rw [hn]; exact hi)
    rw [ht0] at this
    simpa using this⟩⟩)
  have HPL : Hid (∀ i, i < n → partP u t ws i ≤ u) := Lib.hid (fun i hi => part_le (by omega) ht0.symm (by rw [← hn]; exact hi))
  have il : (n : Int) ≤ 100 := by omega
  have iu : (0 : Int) < (u : Int) := by omega
  have iu2 : (u : Int) ≤ 4611686018427387904 := by omega
  have C := Lib.hid C
  have o1 := Own2.new w (.int .i64 (-(u : Int))) (.string c) 23
  have ht := (Only.refl w).alloc (.cells #[.int .i64 (-(u : Int)), .string c] 23)
  have MK := fun W => make_ams (e := (n : Int)) (n := n) rfl (by omega) W
  have HMD := Lib.hid (fun W => TwoR.made W n)
  clear hv hE hT hl h0 ht2 hu hn ht0 hsg
  go_enter Tryz.func8, Tryz.ntmps8
  go_wp2_with fail
  go_at_call 40
  refine (C.out _).mono ?_
  rintro r w1 ⟨rfl, t1⟩
  have o2 := Own2.new w1 (.string c) (.int .i64 k₀) 45
  have o1 := (o1.only t1).alloc (.cells #[.string c, .int .i64 k₀] 45)
  have hT1 := (ht.trans t1).alloc (.cells #[.string c, .int .i64 k₀] 45)
  obtain ⟨d1, d2, f1, f2, z1⟩ := o1.all
  have hw1 : w.heap.size ≤ w1.heap.size := (ht.trans t1).size
  clear t1 ht o1
  go_wp2_with fail
  go_at_call 41
  refine (T.out _ hT1).mono ?_
  rintro r w2 ⟨rfl, rfl⟩
  have hQ := HMD.out (w1.alloc (.cells #[.string c, .int .i64 k₀] 45))
  have hT2 := hT1.alloc (.cells (madeCells #[.int .i64 0, .string ⟨#[]⟩] (n * 2)) 23)
  have o3 := o2.alloc (.cells (madeCells #[.int .i64 0, .string ⟨#[]⟩] (n * 2)) 23)
  rw [show (w1.alloc (.cells #[.string c, .int .i64 k₀] 45)).heap.size = w1.heap.size + 1 by simp] at hQ
  clear hT1 o2
  go_wp2_with fail
  go_at_call 42
  refine (AL.out _ hT2).mono ?_
  rintro r w3 ⟨rfl, hS, t3⟩
  have hQ2 := hQ.only t3
  have hT3 := hT2.trans t3
  have o4 := o3.only t3
  obtain ⟨S, hSe⟩ : ∃ S, S = ((w1.alloc (.cells #[.string c, .int .i64 k₀] 45)).alloc (.cells (madeCells #[.int .i64 0, .string ⟨#[]⟩] (n * 2)) 23)).heap.size := ⟨_, rfl⟩
  have hSv : S = w1.heap.size + 1 + 1 := by rw [hSe]; simp
  rw [← hSe] at hS
  subst hSv
  clear hSe hQ hT2 o3 t3 d1 d2 f1 f2 z1 MK
  go_wp2_with fail
  go_loopw [44, 12, 13] (fun iv _ _ wx => ∃ k : Nat, iv = .int .i64 (k : Int) ∧ k ≤ n ∧ TwoR wx (w1.heap.size + 1) n (fun i => .int .i64 (if i < k then -((partP u t ws i : Nat) : Int) else 0)) (fun i => .string (if i < k then c else ⟨#[]⟩)) ∧ Only w wx ∧ ShR wx (w1.heap.size + 1 + 1) n (partP u t ws) (lostP u t ws) ∧ Own2 wx w1.heap.size (.string c) (.int .i64 k₀)) (fun iv _ _ _ => n - (intOf iv).toNat)
  case atStart => exact ⟨0, rfl, Nat.zero_le _, by simpa using hQ2, hT3, hS, o4⟩
  case round =>
    clear hQ2 hT3 hS o4
    obtain ⟨k, rfl, hk, hA, ht, hS, oc⟩ := hrel
    by_cases hlt : k < n
    · have k1 : (k : Int) < (n : Int) := by omega
      have hple := HPL.out k hlt
      obtain ⟨s0, s1⟩ := hS.cell hlt
      obtain ⟨p, hp⟩ : ∃ p, p = partP u t ws k := ⟨_, rfl⟩
      obtain ⟨L, hL⟩ : ∃ L, L = lostP u t ws k := ⟨_, rfl⟩
      rw [← hp] at s0 hple
      rw [← hL] at s1
      obtain ⟨cc0, cc1, -, -, zc⟩ := oc.all
      obtain ⟨c0, c1⟩ := hA.cell hlt
      have f0 := hA.free (k * 2)
      have f1 := hA.free (k * 2 + 1)
      have hz := hA.lt
      have hz2 := hS.lt
      have ip : (p : Int) ≤ 4611686018427387904 := by omega
      have ip0 : (0 : Int) ≤ (p : Int) := by omega
      have HP := Lib.hid hp
      have hN := Lib.hid (((hA.set2 k (.int .i64 (-(p : Int))) (.string c)).ext (u' := fun i => .int .i64 (if i < k + 1 then -((partP u t ws i : Nat) : Int) else 0)) (lo' := fun i => .string (if i < k + 1 then c else ⟨#[]⟩)) fun i hi => by
        by_cases e : i = k
        · subst e
          simp [hp]
        · have : (i < k + 1) = (i < k) := by apply propext; omega
          simp only [e, if_false, this, and_self]).alloc (.cells #[.int .i64 (p : Int), .int .i64 (L : Int)] 80))
      have hT := Lib.hid (((ht.set (p := w1.heap.size + 1) (by omega) (k * 2) (.int .i64 (-(p : Int)))).set (p := w1.heap.size + 1) (by omega) (k * 2 + 1) (.string c)).alloc (.cells #[.int .i64 (p : Int), .int .i64 (L : Int)] 80))
      have hX := Lib.hid (((hS.far (p := w1.heap.size + 1) (by omega) (k * 2) (.int .i64 (-(p : Int)))).far (p := w1.heap.size + 1) (by omega) (k * 2 + 1) (.string c)).alloc (.cells #[.int .i64 (p : Int), .int .i64 (L : Int)] 80))
      have hO := Lib.hid (((oc.far (p := w1.heap.size + 1) (by omega) (k * 2) (.int .i64 (-(p : Int)))).far (p := w1.heap.size + 1) (by omega) (k * 2 + 1) (.string c)).alloc (.cells #[.int .i64 (p : Int), .int .i64 (L : Int)] 80))
      clear hA ht hS oc hp hL hple
      go_wp2
      go_roundw
      case rel => exact ⟨k + 1, by push_cast; rfl, by omega, hN.out, hT.out, hX.out, hO.out⟩
      case measure => simp [intOf]; omega
    · have hkn : k = n := by omega
      subst hkn
      have hA2 := Lib.hid (HPA.out _ _ (hA.ext (u' := fun i => .int .i64 (-((partP u t ws i : Nat) : Int))) (lo' := fun _ => .string c) fun i hi => by simp [hi]))
      clear hA hS oc
      go_wp2
      go_ret2
      exact ⟨_, _, rfl, ⟨hA2.out, rfl⟩, ht⟩

/-- what an allocation answers beside its parts -/
def alloE (x : Int) (c : ByteArray) (l : List Int) : Int := if curE x c = 0 then totE l else curE x c

theorem allocate_any {x : Int} {c : ByteArray} {l : List Int} {v : Value} {w : World} (hv : IntsIn w v l) :
    AlloIs w x c v fun r n w' => n = alloE x c l ∧ ((alloE x c l ≠ 0 ∧ r = .slice none 0 0) ∨ (alloE x c l = 0 ∧ ∃ ws, l = wI ws ∧ ws.length ≤ 100 ∧ 0 < ws.sum ∧ ws.sum ≤ 1099511627776 ∧ AmsR w' r (partsA x c ws))) := by
  have C := currency_any x c
  unfold alloE
  by_cases h : curE x c = 0
  · rw [if_pos h]
    rw [h, okS_0] at C
    by_cases h2 : totE l = 0
    · have hb := curE_bd h
      obtain ⟨b1, b2⟩ := hb
      have hg : GoodW l ∧ l.length ≤ 100 ∧ l.sum ≠ 0 := by
        unfold totE at h2
        split at h2
        · cases h2
        · split at h2
          · cases h2
          · split at h2
            · split at h2
              · cases h2
              · rename_i a b c d; exact ⟨c, by omega, d⟩
            · cases h2
      obtain ⟨hg1, hg2, hg3⟩ := hg
      have hs := goodW_sum hg1
      obtain ⟨ws, rfl, e2, e3⟩ := wI_of hg1
      have hl : ws.length ≤ 100 := by omega
      have h0 : 0 < ws.sum := by omega
      have ht2 : ws.sum ≤ 1099511627776 := by omega
      by_cases hx : x < 0
      · obtain ⟨u, rfl⟩ : ∃ u : Nat, x = -(u : Int) := ⟨x.natAbs, by omega⟩
        exact (allo_neg C hv h2 e3 hl h0 ht2 ⟨by omega, by omega⟩).mono fun e w' ⟨r, n, h1, ⟨k1, k2⟩, k3⟩ => ⟨r, n, h1, ⟨by rw [k2, h2], Or.inr ⟨h2, ws, rfl, hl, h0, ht2, k1⟩⟩, k3⟩
      · obtain ⟨u, rfl⟩ : ∃ u : Nat, x = (u : Int) := ⟨x.natAbs, by omega⟩
        exact (allo_pos C hv h2 e3 hl h0 ht2 (by omega)).mono fun e w' ⟨r, n, h1, ⟨k1, k2⟩, k3⟩ => ⟨r, n, h1, ⟨by rw [k2, h2], Or.inr ⟨h2, ws, rfl, hl, h0, ht2, k1⟩⟩, k3⟩
    · exact (allo_bad2 C hv h2).mono fun e w' ⟨r, n, h1, ⟨k1, k2⟩, k3⟩ => ⟨r, n, h1, ⟨k2, Or.inl ⟨h2, k1⟩⟩, k3⟩
  · rw [if_neg h]
    exact (allo_bad1 C (ne_eqs h).1 (ne_eqs h).2).mono fun e w' ⟨r, n, h1, ⟨k1, k2⟩, k3⟩ => ⟨r, n, h1, ⟨k2, Or.inl ⟨h, k1⟩⟩, k3⟩
end Go.Proofs.YtopklnaahdjafaaGreatDoor

/-
  What MoneyWhole asks of the parts, as plain facts.
-/
namespace Go.Proofs.YtopklnaahdjafaaGreatDoor
open Go.RowKit Go.Shelf Sorted
set_option linter.unusedVariables false

theorem listE_all {c : ByteArray} {l : List (Int × ByteArray)} (h : ∀ y ∈ l, besE 0 c y.1 y.2 = 0) : listE c l = 0 := by
  induction l with
  | nil => rfl
  | cons y l ih => rw [listE_cons, if_pos (h y (List.mem_cons_self ..))]; exact ih fun z hz => h z (List.mem_cons_of_mem _ hz)
theorem listN_map (c : ByteArray) (f : Nat → Int) (r : List Nat) : listN (r.map fun i => (f i, c)) = (r.map f).sum := by
  induction r with
  | nil => rfl
  | cons y r ih => simp only [List.map_cons, listN, List.sum_cons, ih]
theorem sgn_sum (x : Int) (f : Nat → Nat) (r : List Nat) : (r.map fun i => sgnA x (f i)).sum = sgnA x (r.map f).sum := by
  induction r with
  | nil => unfold sgnA; simp
  | cons y r ih => simp only [List.map_cons, List.sum_cons, ih]; unfold sgnA; split <;> push_cast <;> omega
theorem sgn_self (x : Int) : sgnA x x.natAbs = x := by unfold sgnA; split <;> omega
theorem curE_of {x y : Int} {c : ByteArray} (h : curE x c = 0) (hb : Bd y) : curE y c = 0 := by
  unfold curE at *
  split at h
  · rename_i h1
    rw [if_pos h1, if_pos hb]
  · omega
theorem sgn_bd {x : Int} {c : ByteArray} (h : curE x c = 0) {p : Nat} (hp : p ≤ x.natAbs) : Bd (sgnA x p) := by
  obtain ⟨a, b⟩ := curE_bd h
  unfold sgnA
  split
  · exact ⟨by omega, by omega⟩
  · exact ⟨by omega, by omega⟩
theorem parts_curE {x : Int} {c : ByteArray} {ws : List Nat} (h : curE x c = 0) (h0 : 0 < ws.sum) : ∀ y ∈ partsA x c ws, besE 0 c y.1 y.2 = 0 ∧ Bd y.1 := by
  intro y hy
  unfold partsA at hy
  obtain ⟨i, hi, rfl⟩ := List.mem_map.1 hy
  rw [List.mem_range'_1] at hi
  have hp : partP x.natAbs ws.sum ws i ≤ x.natAbs := part_le h0 rfl (by omega)
  have hb := sgn_bd h hp
  refine ⟨?_, hb⟩
  unfold besE
  rw [curE_of h (y := 0) ⟨by omega, by omega⟩, if_pos rfl, curE_of h hb, if_pos rfl, if_pos rfl]
theorem parts_listE {x : Int} {c : ByteArray} {ws : List Nat} (h : curE x c = 0) (h0 : 0 < ws.sum) : listE c (partsA x c ws) = 0 := listE_all fun y hy => (parts_curE h h0 y hy).1
theorem parts_listN {x : Int} {c : ByteArray} {ws : List Nat} (h0 : 0 < ws.sum) : listN (partsA x c ws) = x := by
  unfold partsA
  rw [listN_map, sgn_sum, parts_sum h0 rfl, sgn_self]
theorem parts_sumE {x : Int} {c : ByteArray} {ws : List Nat} (h : curE x c = 0) (h0 : 0 < ws.sum) : sumLE c (partsA x c ws) = 0 := by
  unfold sumLE
  have hc : (curOf c).isSome = true := by
    unfold curE at h
    split at h
    · assumption
    · omega
  rw [if_pos hc, if_pos (parts_listE h h0), parts_listN h0]
  unfold amE
  rw [if_pos (curE_bd h)]
theorem parts_near {x : Int} {ws : List Nat} (h0 : 0 < ws.sum) (i : Nat) : -((ws.sum : Nat) : Int) < sgnA x (partP x.natAbs ws.sum ws i) * ((ws.sum : Nat) : Int) - x * ((ws.getD i 0 : Nat) : Int) ∧ sgnA x (partP x.natAbs ws.sum ws i) * ((ws.sum : Nat) : Int) - x * ((ws.getD i 0 : Nat) : Int) < ((ws.sum : Nat) : Int) := by
  obtain ⟨a, b⟩ := part_near (u := x.natAbs) (ws := ws) h0 rfl i
  obtain ⟨t, ht⟩ : ∃ t, t = ws.sum := ⟨_, rfl⟩
  obtain ⟨p, hp⟩ : ∃ p, p = partP x.natAbs ws.sum ws i := ⟨_, rfl⟩
  obtain ⟨k, hk⟩ : ∃ k, k = ws.getD i 0 := ⟨_, rfl⟩
  rw [← hp, ← hk, ← ht] at a b ⊢
  obtain ⟨y, hy⟩ : ∃ y, y = t * p := ⟨_, rfl⟩
  obtain ⟨z, hz⟩ : ∃ z, z = x.natAbs * k := ⟨_, rfl⟩
  rw [← hy, ← hz] at a b
  have ey : ((p : Nat) : Int) * (t : Int) = (y : Int) := by rw [hy]; push_cast; rw [Int.mul_comm]
  by_cases hx : x < 0
  · have ez : x * (k : Int) = -(z : Int) := by
      rw [hz]; push_cast
      rw [show x = -((x.natAbs : Nat) : Int) by omega]
      simp [Int.neg_mul]
    unfold sgnA
    rw [if_pos hx, Int.neg_mul, ey, ez]
    omega
  · have ez : x * (k : Int) = (z : Int) := by
      rw [hz]; push_cast
      rw [show x = ((x.natAbs : Nat) : Int) by omega]
      simp
    unfold sgnA
    rw [if_neg hx, ey, ez]
    omega
theorem parts_zero {x : Int} {ws : List Nat} (h0 : 0 < ws.sum) {i : Nat} (h : ws.getD i 0 = 0) : sgnA x (partP x.natAbs ws.sum ws i) = 0 := by
  rw [part_none h0 rfl h]; unfold sgnA; split <;> rfl
theorem parts_up {x : Int} {ws : List Nat} (h0 : 0 < ws.sum) {i k : Nat} (hi : i < ws.length) (hk : k < ws.length) (h : ws.getD i 0 < ws.getD k 0) : (0 ≤ x → sgnA x (partP x.natAbs ws.sum ws i) ≤ sgnA x (partP x.natAbs ws.sum ws k)) ∧ (x < 0 → sgnA x (partP x.natAbs ws.sum ws k) ≤ sgnA x (partP x.natAbs ws.sum ws i)) := by
  have := parts_rise (u := x.natAbs) h0 rfl hi hk h
  unfold sgnA
  constructor
  · intro hx
    rw [if_neg (by omega), if_neg (by omega)]; omega
  · intro hx
    rw [if_pos hx, if_pos hx]; omega
end Go.Proofs.YtopklnaahdjafaaGreatDoor
