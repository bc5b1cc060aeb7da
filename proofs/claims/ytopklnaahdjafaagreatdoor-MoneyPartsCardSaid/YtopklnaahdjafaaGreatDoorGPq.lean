/-
  PARTS: MRmsO, MRAll1, MParts, MParts2.
-/
import Derived.Test.YtopklnaahdjafaaGreatDoorMAms
import Derived.Maps.AppendAt
import Derived.Laws.AppendOwnNone
import Derived.Test.YtopklnaahdjafaaGreatDoorGPr
import Derived.Test.YtopklnaahdjafaaGreatDoorBQuo
import Derived.Test.YtopklnaahdjafaaGreatDoorBAtoi
import Derived.Test.YtopklnaahdjafaaGreatDoorMSumR
import Derived.Test.YtopklnaahdjafaaGreatDoorMOpen
import Derived.Test.YtopklnaahdjafaaGreatDoorMSmall
/-
  The document's amounts appended to a list of our own.
-/
namespace Go.Proofs.YtopklnaahdjafaaGreatDoor
open Go.RowKit Go.Maps Go.WideMaps Go.Shelf
set_option linter.unusedVariables false

theorem infoRm : (Tryz.prog.info? 51).map (fun i => (i.zero, i.size, i.bytes)) = some (some (.agg #[.int .i64 0, .string ⟨#[]⟩]), 2, 24) := by kernel_rfl
theorem infoRm_parts : ∃ i, Tryz.prog.info? 51 = some i ∧ i.zero = some (.agg #[.int .i64 0, .string ⟨#[]⟩]) ∧ i.size = 2 ∧ i.bytes = 24 := by
  have h := infoRm
  cases hi : Tryz.prog.info? 51 with
  | none => rw [hi] at h; simp at h
  | some i =>
    rw [hi] at h
    simp only [Option.map_some, Option.some.injEq, Prod.mk.injEq] at h
    exact ⟨i, rfl, h.1, h.2.1, h.2.2⟩

/-- the cells of amounts -/
def rmC (l : List (Int × ByteArray)) : List Value := l.flatMap fun x => [.int .i64 x.1, .string x.2]
theorem rmC_length (l : List (Int × ByteArray)) : (rmC l).length = l.length * 2 := by
  induction l with
  | nil => rfl
  | cons x l ih => simp [rmC] at ih ⊢; omega
theorem rmC_at {l : List (Int × ByteArray)} {i : Nat} {x : Int × ByteArray} (h : l[i]? = some x) : (rmC l)[i * 2]? = some (.int .i64 x.1) ∧ (rmC l)[i * 2 + 1]? = some (.string x.2) := by
  induction l generalizing i with
  | nil => simp at h
  | cons y l ih =>
    cases i with
    | zero =>
      simp at h; subst h
      simp [rmC]
    | succ i =>
      have h' : l[i]? = some x := by simpa using h
      obtain ⟨a, b⟩ := ih h'
      have e : rmC (y :: l) = .int .i64 y.1 :: .string y.2 :: rmC l := rfl
      rw [e, show (i + 1) * 2 = i * 2 + 1 + 1 by omega, show i * 2 + 1 + 1 + 1 = (i * 2 + 1) + 1 + 1 by omega]
      simp only [List.getElem?_cons_succ]
      exact ⟨a, b⟩
theorem rmC_append (l m : List (Int × ByteArray)) : rmC (l ++ m) = rmC l ++ rmC m := by simp [rmC]

def RmsO (w : World) (base : Nat) (v : Value) (l : List (Int × ByteArray)) : Prop := w.ownsRow base 51 2 v l.length (rmC l)

theorem RmsO.nil (w : World) (base : Nat) : RmsO w base (.slice none 0 0) [] := World.ownsRow_nil _ _ _ _

theorem RmsO.toR {w : World} {base : Nat} {v : Value} {l : List (Int × ByteArray)} (h : RmsO w base v l) : AmsR w v l := by
  have h' := h
  rcases h.2 with ⟨hv, hn⟩ | ⟨g, cap, cur, hv, hg, hh, h1, h2, h3, h4⟩
  · have : l = [] := List.length_eq_zero_iff.1 hn
    subst this
    exact ⟨none, 0, hv, fun h0 => by simp at h0⟩
  · refine ⟨some ⟨g, 0, none⟩, cap, hv, fun _ => ⟨g, 0, rfl, fun i x hx => ?_⟩⟩
    have hown : w.ownsRow base 51 2 (.slice (some ⟨g, 0, none⟩) l.length cap) l.length (rmC l) := by rw [← hv]; exact h
    have hlt : i < l.length := (List.getElem?_eq_some_iff.1 hx).1
    obtain ⟨a, b⟩ := rmC_at hx
    rw [Nat.zero_add]
    exact ⟨(hown.cellAt (i * 2) (by omega)).trans a, (hown.cellAt (i * 2 + 1) (by omega)).trans b⟩

theorem RmsO.only {w w' : World} {base : Nat} {v : Value} {l : List (Int × ByteArray)} (h : RmsO w base v l) (t : Only w w') : RmsO w' base v l := by
  refine ⟨h.1, ?_⟩
  rcases h.2 with k | ⟨g, cap, cur, e1, hg, hh, r⟩
  · exact Or.inl k
  · exact Or.inr ⟨g, cap, cur, e1, hg, (t.block g (Array.getElem?_eq_some_iff.1 hh).1).trans hh, r⟩
theorem RmsO.form {w : World} {base : Nat} {v : Value} {l : List (Int × ByteArray)} (h : RmsO w base v l) : ∃ sp cap, v = .slice sp l.length cap := by
  obtain ⟨sp, cap, e, -⟩ := h.toR
  exact ⟨sp, cap, e⟩

theorem append_rm {w : World} {ops : Array Oper} {rest : List Oper} {o : Oper} {a : Act} {Qx : Exit → Act → World → Prop} (hgd : o.guard = none) (s x : Operand)
    (ho : o.op = .call { callee := .builtin .append, args := #[s, x], argTypes := #[60, 60] }) {base : Nat} {v : Value} {l : List (Int × ByteArray)} {y : Int × ByteArray} {g : Nat} (hs : a.eval s = v) (hx : a.eval x = .slice (some ⟨g, 0, none⟩) 1 1)
    (hl : RmsO w base v l) (h1 : w.cell? ⟨g, 0, none⟩ = some (.int .i64 y.1)) (h2 : w.cell? ⟨g, 1, none⟩ = some (.string y.2)) (hn : l.length ≤ 1000000) (hbase : base ≤ w.heap.size)
    (h : ∀ sp cap w', RmsO w' base (.slice sp (l ++ [y]).length cap) (l ++ [y]) → Below base w w' → w.heap.size ≤ w'.heap.size → wpList Tryz.prog ops Qx rest (a.put o.dst (.slice sp (l ++ [y]).length cap)) w') :
    wpList Tryz.prog ops Qx (o :: rest) a w := by
  obtain ⟨i0, hi, hz0, hz1, hz2⟩ := infoRm_parts
  have hown : ∀ r, v.ownBlock = some r → base ≤ r := fun r hr => by
    rcases hl.2 with ⟨rfl, _⟩ | ⟨g, cap, cur, rfl, hg, _⟩
    · cases hr
    · simp [Value.ownBlock] at hr; omega
  refine wpList_append_own_at w hgd s x 60 ho base 51 i0 (.agg #[.int .i64 0, .string ⟨#[]⟩]) 2 24 Tryz.underlying60 hi hz0 hz1 hz2 rfl (by decide) v l.length _ hs hl ⟨g, 0, none⟩ 1 1 [.int .i64 y.1, .string y.2] hx (by simp) (fun j u hj => ?_) (fun u hu => ?_) (by unfold maxLen; omega) (by omega) hbase ?_
  · rcases j with _ | _ | j
    · simp at hj; subst hj; exact h1
    · simp at hj; subst hj
      rw [show (⟨g, 0, none⟩ : Addr).add (0 + 1) = ⟨g, 1, none⟩ by unfold Addr.add; split <;> simp_all]
      exact h2
    · simp at hj
  · simp at hu
    rcases hu with rfl | rfl <;> rfl
  · intro v' w2 hown' hg _ _
    have hown2 : RmsO w2 base v' (l ++ [y]) := by unfold RmsO; rw [List.length_append, rmC_append]; exact hown'
    obtain ⟨sp, cap, e⟩ := hown2.form
    subst e
    exact h sp cap w2 hown2 (Below.grown (Below.refl _ _) hg hbase (fun k e => hown k e)) hg.size
end Go.Proofs.YtopklnaahdjafaaGreatDoor

/-
  exref6.Allocate, its good way. (Made by gen_rall.py.)
-/
namespace Go.Proofs.YtopklnaahdjafaaGreatDoor
open Go.RowKit Go.Shelf Go.Maps Go.WideMaps Sorted
set_option linter.unusedVariables false
set_option linter.unusedSimpArgs false

def pOne2 (x y : Value) : Said := fun v _ w => ∃ g, v = .slice (some ⟨g, 0, none⟩) 1 1 ∧ Own2 w g x y
theorem stab_one2 (x y : Value) : StabO (pOne2 x y) := fun _ _ _ _ t ⟨g, e, o⟩ => ⟨g, e, o.only t⟩
def pTriv : Said := fun _ _ _ => True
theorem stabB_big (base : Nat) (n : Int) : StabB base (pBig n) := fun _ _ _ _ t ⟨b, s, k, c, e, h⟩ => ⟨b, s, k, c, e, h.mov t⟩
def pBigF (w0 : World) (n : Int) : Said := fun v _ w => ∃ b s k c, v = .agg #[.bool b, .slice s k c] ∧ BigR w b s k c n ∧ Fresh w0 s
theorem stabB_bigF (base : Nat) (w0 : World) (n : Int) : StabB base (pBigF w0 n) := fun _ _ _ _ t ⟨b, s, k, c, e, h, f⟩ => ⟨b, s, k, c, e, h.mov t, f⟩
def pQuo (w0 : World) (n m : Int) : Said := fun v _ w => ∃ b s k c b' s' k' c', v = .tuple #[.agg #[.bool b, .slice s k c], .agg #[.bool b', .slice s' k' c']] ∧ BigR w b s k c n ∧ BigR w b' s' k' c' m ∧ Fresh w0 s'
theorem stabB_quo (base : Nat) (w0 : World) (n m : Int) : StabB base (pQuo w0 n m) := fun _ _ _ _ t ⟨b, s, k, c, b', s', k', c', e, h, h', f⟩ => ⟨b, s, k, c, b', s', k', c', e, h.mov t, h'.mov t, f⟩

/-- what the first k weights come to -/
theorem ws_at {ws : List Nat} {k : Nat} (hk : k < ws.length) : ∃ y, ws[k]? = some y ∧ ws.getD k 0 = y ∧ (ws.take (k + 1)).sum = (ws.take k).sum + y := by
  refine ⟨ws[k], List.getElem?_eq_getElem hk, by simp [List.getD, hk], ?_⟩
  rw [List.take_add_one, List.getElem?_eq_getElem hk, List.sum_append]
  simp
theorem ws_take {ws : List Nat} (hb : ∀ (i y : Nat), ws[i]? = some y → y ≤ 2147483648) : ∀ k, (ws.take k).sum ≤ 2147483648 * k
  | 0 => by simp
  | k + 1 => by
    have ih := ws_take hb k
    by_cases hk : k < ws.length
    · obtain ⟨y, h1, -, h2⟩ := ws_at hk
      have := hb k y h1
      omega
    · rw [List.take_of_length_le (by omega)] at ih ⊢
      omega

/-! ### who gets a unit -/
def bestI (o : Option Nat) : Int := match o with | none => -1 | some b => (b : Int)
def ordP (x : Int) (t : Nat) (ws : List Nat) : List Nat := lossOrd (lostP x.natAbs t ws) ws.length
def partJ (x : Int) (t : Nat) (ws : List Nat) (j i : Nat) : Int := sgnA x (unitP x.natAbs t ws i + if i ∈ (ordP x t ws).take j then 1 else 0)
theorem take_next {os : List Nat} {j : Nat} (h : j < os.length) : os.take (j + 1) = os.take j ++ [os[j]] := by
  rw [List.take_add_one, List.getElem?_eq_getElem h]; rfl
theorem not_taken {os : List Nat} (hd : os.Nodup) {j : Nat} (h : j < os.length) : os[j] ∉ os.take j := fun hm => by
  obtain ⟨i, hi, he⟩ := List.getElem_of_mem hm
  rw [List.length_take] at hi
  rw [List.getElem_take] at he
  exact List.pairwise_iff_getElem.1 hd i j (by omega) h (by omega) he
theorem sgnA_add (x : Int) (p q : Nat) : sgnA x p + sgnA x q = sgnA x (p + q) := by
  rcases sgnA_cases x with ⟨-, e, k⟩ | ⟨-, e, k⟩ <;> rw [k, k, k] <;> omega
theorem sgnA_ne {x : Int} {p : Nat} (h : 0 < p) : ((sgnA x p : Int) != 0) = true := by
  rcases sgnA_cases x with ⟨-, e, k⟩ | ⟨-, e, k⟩ <;> rw [k] <;> simp <;> omega
theorem sgnA_natAbs (x : Int) (p : Nat) : (sgnA x p).natAbs = p := by
  rcases sgnA_cases x with ⟨-, e, k⟩ | ⟨-, e, k⟩ <;> rw [k] <;> omega
theorem sgnA_small {x : Int} {p m : Nat} (h : p ≤ m) : -(m : Int) ≤ sgnA x p ∧ sgnA x p ≤ (m : Int) := by
  rcases sgnA_cases x with ⟨-, e, k⟩ | ⟨-, e, k⟩ <;> rw [k] <;> omega
theorem part_next {x : Int} {t : Nat} {ws : List Nat} {j : Nat} (h : j < (ordP x t ws).length) (i : Nat) :
    (if i = (ordP x t ws)[j] then partJ x t ws j (ordP x t ws)[j] + sgnA x 1 else partJ x t ws j i) = partJ x t ws (j + 1) i := by
  have hn := not_taken (lossOrd_nodup (lostP x.natAbs t ws) ws.length) (j := j) h
  unfold partJ
  rw [take_next h]
  by_cases e : i = (ordP x t ws)[j]
  · rw [if_pos e, sgnA_add, if_neg (by exact hn), e, if_pos (List.mem_append_right _ (List.mem_singleton.2 rfl))]
  · rw [if_neg e]
    simp only [List.mem_append, List.mem_singleton, e, or_false]
theorem gone_next {x : Int} {t : Nat} {ws : List Nat} {j : Nat} (h : j < (ordP x t ws).length) (i : Nat) :
    (if i = (ordP x t ws)[j] then Value.bool true else Value.bool (decide (i ∈ (ordP x t ws).take j))) = Value.bool (decide (i ∈ (ordP x t ws).take (j + 1))) := by
  rw [take_next h]
  by_cases e : i = (ordP x t ws)[j]
  · rw [if_pos e, decide_eq_true (by rw [e]; exact List.mem_append_right _ (List.mem_singleton.2 rfl))]
  · rw [if_neg e]
    simp only [List.mem_append, List.mem_singleton, e, or_false]
theorem cell_coneP {w : World} {b j : Nat} {v : Value} (h : w.cell? ⟨b, j, none⟩ = some v) : ∀ n : Cone w, n.out.cell? ⟨b, j, none⟩ = some v := fun n => n.only.cellM h
theorem IntR.below {w w' : World} {g n B : Nat} {f : Nat → Value} (h : IntR w g n f) (t : Below B w w') (hB : g < B) : IntR w' g n f := by
  obtain ⟨cs, ty, h, k⟩ := h
  exact ⟨cs, ty, (t.block g hB).trans h, k⟩
theorem best_step (ws : List Nat) (lo : Nat → Nat) (gn : List Nat) (m : Nat) : bestK ws lo gn (m + 1) = if candB ws gn m then (match bestK ws lo gn m with | none => some m | some b => if lo b < lo m then some m else some b) else bestK ws lo gn m := rfl
theorem best_lt {ws : List Nat} {lo : Nat → Nat} {gn : List Nat} {m b : Nat} (h : bestK ws lo gn m = some b) : b < m := by
  rcases bestK_is ws lo gn m with ⟨e, -⟩ | ⟨b', e, hb, -⟩
  · rw [e] at h; cases h
  · rw [e] at h; cases h; exact hb
theorem partJ_end {x : Int} {t : Nat} {ws : List Nat} (h : t = ws.sum) (i : Nat) : partJ x t ws (leftP x.natAbs t ws) i = sgnA x (partP x.natAbs ws.sum ws i) := by
  subst h
  unfold partJ partP frontP ordP
  rfl
theorem infoBoolP : (Tryz.prog.info? 4).map (fun i => (i.zero, i.size, i.bytes)) = some (some (.bool false), 1, 1) := by kernel_rfl
theorem make_bools {e : Int} {n : Nat} (he : e = n) (hn : n ≤ 1000000) (w : World) : (Instr.makeSlice 122 (.int .i64 e) (.int .i64 e)).run Tryz.prog w = .ok (.slice (some ⟨w.heap.size, 0, none⟩) n n) (w.alloc (.cells (madeCells #[.bool false] n) 4)) := by
  subst he
  exact run_make_row' (P := Tryz.prog) 122 4 (.bool false) 1 Tryz.underlying122 infoBoolP rfl .i64 .i64 n (by omega) (by omega) w
theorem bools_made (w : World) (n : Nat) : IntR (w.alloc (.cells (madeCells #[.bool false] n) 4)) w.heap.size n (fun _ => .bool false) :=
  ⟨_, _, heap_alloc_new _ _, by simp [size_madeCells], fun i hi => by simp [madeCells, hi, Nat.mod_one]⟩

set_option maxRecDepth 100000 in
set_option maxHeartbeats 3200000 in
theorem rall_walk {x : Int} {c : ByteArray} {ws : List Nat} {g o cap n t : Nat} {w : World} (C : ChkIs x c 0) (hn : n = ws.length) (h1 : n ≤ 100) (ht : t = ws.sum) (h0 : 0 < t) (hb : ∀ (i y : Nat), ws[i]? = some y → y ≤ 2147483648) (hx : -4611686018427387904 ≤ x ∧ x ≤ 4611686018427387904)
    (hc : ∀ W, Only w W → ∀ (i y : Nat), ws[i]? = some y → W.cell? ⟨g, o + i, none⟩ = some (.int .i64 (y : Int))) :
    Calls Tryz.prog 38 #[.agg #[.int .i64 x, .string c], .slice (some ⟨g, o, none⟩) n cap] w fun r w' => ∃ v, r = .returned (.tuple #[v, .int .i64 0]) ∧ AmsR w' v (partsA x c ws) ∧ Only w w' := by
  have hn0 : 0 < n := by
    rcases Nat.eq_zero_or_pos n with e | e
    · rw [e] at hn
      have : ws = [] := List.length_eq_zero_iff.1 hn.symm
      rw [this] at ht; simp at ht; omega
    · exact e
  have htb : t ≤ 214748364800 := by
    have := ws_take hb n
    rw [List.take_of_length_le (by omega), ← ht] at this
    omega
  have i1 : (n : Int) ≤ 100 := by omega
  have i2 : ((n : Int) == 0) = false := by simp; omega
  have i3 : ((t : Int) == 0) = false := by simp; omega
  have HC := Lib.hid hc
  have HN := Lib.hid hn
  have HT0 := Lib.hid ht
  have HEND : Hid ((ws.take n).sum = t) := Lib.hid (by rw [List.take_of_length_le (by omega), ht])
  have HP := Lib.hid h0
  have HTB := Lib.hid htb
  have HX := Lib.hid hx
  have HN0 := Lib.hid hn0
  have HK := Lib.hid (ws_take hb)
  have HWS : Hid (∀ k, k < n → ∃ y, ws[k]? = some y ∧ ws.getD k 0 = y ∧ (ws.take (k + 1)).sum = (ws.take k).sum + y ∧ y ≤ 2147483648) := Lib.hid fun k hk => by
    obtain ⟨y, a, b, d⟩ := ws_at (ws := ws) (k := k) (by omega)
    exact ⟨y, a, b, d, hb k y a⟩
  have C := Lib.hid C
  clear ht
  have ht := (Only.refl w).alloc (.cells #[.int .i64 x, .string c] 51)
  have ox := Own2.new w (.int .i64 x) (.string c) 51
  clear hc hn h1 h0 hb hx hn0 htb
  go_enter Tryz.func38, Tryz.ntmps38
  go_wp2_with fail
  go_at_call 21
  refine (C.out _).mono ?_
  rintro r w1 ⟨rfl, t1⟩
  replace ht := ht.trans t1
  replace ox := ox.only t1
  have HT := Lib.hid ht
  have OX := Lib.hid ox
  clear t1 ht ox
  go_wp2_with fail
  go_loop [7, 8] (fun s i => ∃ k : Nat, k ≤ n ∧ i = .int .i64 (k : Int) ∧ s = .int .i64 (((ws.take k).sum : Nat) : Int)) (fun _ i => n - (intOf i).toNat)
  case atStart => exact ⟨0, Nat.zero_le _, rfl, rfl⟩
  case round =>
    obtain ⟨k, hk, rfl, rfl⟩ := hrel
    by_cases hlt : k < n
    · have j1 : (k : Int) < (n : Int) := by omega
      obtain ⟨y, hy, -, hs1, hyb⟩ := HWS.out k hlt
      have c1 := HC.out _ HT.out k y hy
      have hle := HK.out k
      obtain ⟨S, hS⟩ : ∃ S, S = (ws.take k).sum := ⟨_, rfl⟩
      rw [← hS] at hs1 hle ⊢
      have HS1 := Lib.hid hs1
      have b1 : (0 : Int) ≤ (S : Int) := by omega
      have b2 : (S : Int) ≤ 214748364800 := by omega
      have b3 : (0 : Int) ≤ (y : Int) := by omega
      have b4 : (y : Int) ≤ 2147483648 := by omega
      clear hy hs1 hyb hle hS
      go_wp2_with fail
      go_round
      case rel => exact ⟨k + 1, by omega, by go_num, by rw [HS1.out]; push_cast; rfl⟩
      case measure => simp [intOf]; omega
    · have hkn : k = n := by omega
      subst hkn
      rw [HEND.out]
      obtain ⟨d1, d2, -, -, z1⟩ := OX.out.all
      clear hlt
      go_wp2_with fail
      clear d1 d2 z1
      obtain ⟨B, hB⟩ : ∃ B, B = w.heap.size + 1 := ⟨_, rfl⟩
      have HB := Lib.hid hB
      clear hB
      have hpl : PL w1 B (.slice none 0 0) (.slice none 0 0) (partsK x t ws 0) [] (fun i => ((lostP x.natAbs t ws i : Nat) : Int)) := PL.start w1 B _
      have hl0 := (leftK_zero x t ws).symm
      go_loopw [9, 10, 11, 12, 13, 14, 15, 16] (fun vp' vl' lf i _ _ _ _ wr => ∃ (vp vl : Value) (m : Nat) (L : List (Bool × Option Addr × Nat × Nat)), vp = vp' ∧ vl = vl' ∧ m ≤ k ∧ L.length = m ∧ i = .int .i64 (m : Int) ∧ lf = .int .i64 (leftK x t ws m) ∧ PL wr B vp vl (partsK x t ws m) L (fun i => ((lostP x.natAbs t ws i : Nat) : Int)) ∧ Own2 wr w.heap.size (.int .i64 x) (.string c) ∧ Only w wr) (fun _ _ _ i _ _ _ _ _ => k - (intOf i).toNat)
      case atStart => exact ⟨_, _, 0, [], rfl, rfl, Nat.zero_le _, rfl, rfl, by rw [← hl0], hpl, OX.out, HT.out⟩
      case round =>
        clear hpl hl0
        obtain ⟨vp, vl, m, L, rfl, rfl, hm, hL, rfl, rfl, pl, ox, hO⟩ := hrel
        have PLH := Lib.hid pl
        have OXH := Lib.hid ox
        have HO := Lib.hid hO
        have HLL := Lib.hid hL
        clear pl ox hO hL
        by_cases hlt : m < k
        · have m1 : (m : Int) < (k : Int) := by omega
          obtain ⟨y, hy, hyd, -, hyb⟩ := HWS.out m hlt
          have cw := HC.out _ HO.out m y hy
          obtain ⟨ca1, ca2, -, -, za⟩ := OXH.out.all
          have hx := HX.out
          have htb := HTB.out
          have hq := quo_sgn x y t
          have hr := rem_sgn x y t
          have hq2 : x.natAbs * y / t = unitP x.natAbs t ws m := by unfold unitP; rw [hyd]
          have hr2 : x.natAbs * y % t = lostP x.natAbs t ws m := by unfold lostP; rw [hyd]
          rw [hq2] at hq
          rw [hr2] at hr
          have HQ := Lib.hid hq
          have HR := Lib.hid hr
          have L1 : Hid (Lim x 5) := Lib.hid (Lim.of_i64 ⟨by omega, by omega⟩)
          have L2 : Hid (Lim (y : Int) 5) := Lib.hid (Lim.of_i64 ⟨by omega, by omega⟩)
          have L3 : Hid (Lim (t : Int) 5) := Lib.hid (Lim.of_i64 ⟨by omega, by omega⟩)
          have LN : Hid ((t : Int) ≠ 0) := Lib.hid (by have := HP.out; omega)
          have B1 := Lib.hid (fun W => bigOf_any (N := x) (by omega) (by omega) W)
          have B2 := Lib.hid (fun W => bigOf_any (N := (y : Int)) (by omega) (by omega) W)
          have B3 := Lib.hid (fun W => bigOf_any (N := (t : Int)) (by omega) (by omega) W)
          have hun := unit_le (u := x.natAbs) HP.out HT0.out.symm (k := m) (by rw [← HN.out]; exact hlt)
          have hll := lost_lt (u := x.natAbs) HP.out ws m
          have hqb := sgnA_bound hun hx
          have hrb : -4611686018427387904 ≤ sgnA x (lostP x.natAbs t ws m) ∧ sgnA x (lostP x.natAbs t ws m) ≤ 4611686018427387904 := by
            rcases sgnA_cases x with ⟨-, -, k⟩ | ⟨-, -, k⟩ <;> rw [k] <;> omega
          have hlk := leftK_succ (x := x) HP.out HT0.out.symm (k := m) (by rw [← HN.out]; exact hlt)
          have hsl := sumQ_le (u := x.natAbs) HP.out HT0.out.symm (k := m) (by rw [← HN.out]; omega)
          have hlb : -4611686018427387904 ≤ leftK x t ws m ∧ leftK x t ws m ≤ 4611686018427387904 := sgnA_bound (by omega) hx
          have hlb2 : -4611686018427387904 ≤ leftK x t ws (m + 1) ∧ leftK x t ws (m + 1) ≤ 4611686018427387904 := sgnA_bound (by omega) hx
          obtain ⟨q, hqe⟩ : ∃ q, q = sgnA x (unitP x.natAbs t ws m) := ⟨_, rfl⟩
          obtain ⟨r, hre⟩ : ∃ r, r = sgnA x (lostP x.natAbs t ws m) := ⟨_, rfl⟩
          obtain ⟨lf, hlf⟩ : ∃ lf, lf = leftK x t ws m := ⟨_, rfl⟩
          obtain ⟨lf', hlf'⟩ : ∃ lf, lf = leftK x t ws (m + 1) := ⟨_, rfl⟩
          rw [← hqe] at HQ hqb hlk
          rw [← hre] at HR hrb
          rw [← hlf] at hlb hlk ⊢
          rw [← hlf'] at hlb2 hlk
          have LQ : Hid (Lim q 5) := Lib.hid (Lim.of_i64 ⟨by omega, by omega⟩)
          have LR : Hid (Lim r 5) := Lib.hid (Lim.of_i64 ⟨by omega, by omega⟩)
          have BI : Hid (intOrNone q = .tuple #[.int .i64 q, .bool true]) := Lib.hid (by unfold intOrNone; rw [if_pos (by omega)])
          have HQE := Lib.hid hqe
          have HRE := Lib.hid hre
          have HLF' := Lib.hid hlf'
          have HLK := Lib.hid hlk
          obtain ⟨q1, q2⟩ := hqb
          obtain ⟨l1, l2⟩ := hlb
          obtain ⟨l3, l4⟩ := hlb2
          rw [← hlk] at l3 l4
          clear hy hyd hyb hx htb hq hr hq2 hr2 hun hll hsl hrb hqe hre hlf hlf' hlk
          go_upto_region 23 with (fail)
          refine wp_richM (MovB wr.heap.size) (QX 15 16 17 18 wr q r) [pVal ?z0, pVal ?z1, pBig x, pVal ?z3, pVal ?z4, pVal ?z5, pVal ?z6, pBig (y : Int), pBig (x * (y : Int)), pVal ?z9, pBig (t : Int), pQuo wr q r, pQuo wr q r, pBig q, pBigF wr r, pTriv, pTriv, pTriv, pTriv] [false, false, false, false, false, false, false, false, false, false, false, false, false, false, false, true, true, true, true] (F := ?F23) (by kernel_rfl) (by kernel_rfl) ?hF23 (fun _ _ t => Or.inl t) (fun _ _ _ h => h.1) ?hX23 ?hO23 (fun vs => QX.start vs _ (Only.refl wr).drew) ?hst23 ?hend23
          case hF23 =>
            intro vs
            simp only [fills]
            go_simp
            exact rfl
          case hX23 =>
            intro i L vs W v W' hi hX tt
            refine hX.other ?_ ?_ ?_ ?_ tt <;> (rintro rfl; exact absurd hi (by decide))
          case hst23 =>
            simp only [StepsX]
            refine ⟨?_, ?_, ?_, ?_, ?_, ?_, ?_, ?_, ?_, ?_, ?_, ?_, ?_, ?_, ?_, ?_, ?_, ?_, ?_, trivial⟩
            case refine_1 | refine_2 | refine_4 | refine_5 | refine_6 | refine_7 | refine_10 =>
              intro vs W hW hd K hK
              have k1 := hW.cellM ca1
              have k2 := hW.cellM cw
              simp [depsOf, Region.binds, List.filter_cons, GotAll, saidV, pVal] at hd
              unfold RichAt
              go_simp
              refine hK _ _ (Only.refl _) ?_
              exact rfl
            case refine_3 =>
              intro vs W hW hd K hK
              simp [depsOf, Region.binds, List.filter_cons, GotAll, saidV, pVal] at hd
              unfold RichAt
              go_simp
              refine (B1.out W).mono ?_
              rintro e w' ⟨b', s', k', c', rfl, hb, tt⟩
              exact ⟨_, rfl, hK _ _ tt ⟨b', s', k', c', rfl, hb⟩⟩
            case refine_8 =>
              intro vs W hW hd K hK
              simp [depsOf, Region.binds, List.filter_cons, GotAll, saidV, pVal] at hd
              unfold RichAt
              go_simp
              refine (B2.out W).mono ?_
              rintro e w' ⟨b', s', k', c', rfl, hb, tt⟩
              exact ⟨_, rfl, hK _ _ tt ⟨b', s', k', c', rfl, hb⟩⟩
            case refine_11 =>
              intro vs W hW hd K hK
              simp [depsOf, Region.binds, List.filter_cons, GotAll, saidV, pVal] at hd
              unfold RichAt
              go_simp
              refine (B3.out W).mono ?_
              rintro e w' ⟨b', s', k', c', rfl, hb, tt⟩
              exact ⟨_, rfl, hK _ _ tt ⟨b', s', k', c', rfl, hb⟩⟩
            case refine_9 =>
              intro vs W hW hd K hK
              simp [depsOf, Region.binds, List.filter_cons, GotAll, saidV, pVal] at hd
              obtain ⟨⟨b1, s1, k1, c1, e1, r1⟩, ⟨b2, s2, k2, c2, e2, r2⟩⟩ := hd
              unfold RichAt
              go_simp
              refine (bigMul_any r1 r2 (L1.out.mono (by omega)) (L2.out.mono (by omega))).mono ?_
              rintro e w' ⟨b', s', k', c', rfl, hb, tt⟩
              exact ⟨_, rfl, hK _ _ tt ⟨b', s', k', c', rfl, hb⟩⟩
            case refine_12 =>
              intro vs W hW hd K hK
              simp [depsOf, Region.binds, List.filter_cons, GotAll, saidV, pVal] at hd
              obtain ⟨⟨b1, s1, k1, c1, e1, r1⟩, ⟨b2, s2, k2, c2, e2, r2⟩⟩ := hd
              unfold RichAt
              go_simp
              refine (bigQuoF_any r1 r2 ((L1.out.mul L2.out).mono (by omega)) (L3.out.mono (by omega)) LN.out).mono ?_
              rintro e w' ⟨b', s', k', c', b'', s'', k'', c'', rfl, hb, hb', hf, tt⟩
              rw [HQ.out] at hb
              rw [HR.out] at hb'
              exact ⟨_, rfl, hK _ _ tt ⟨b', s', k', c', b'', s'', k'', c'', rfl, hb, hb', hf.of hW⟩⟩
            case refine_13 =>
              intro vs W hW hd K hK
              simp [depsOf, Region.binds, List.filter_cons, GotAll, saidV, pVal] at hd
              obtain ⟨b1, s1, k1, c1, b2, s2, k2, c2, e1, r1, r2, f2⟩ := hd
              unfold RichAt
              go_simp
              exact hK _ _ (Only.refl _) ⟨b1, s1, k1, c1, b2, s2, k2, c2, rfl, r1, r2, f2⟩
            case refine_14 =>
              intro vs W hW hd K hK
              simp [depsOf, Region.binds, List.filter_cons, GotAll, saidV, pVal] at hd
              obtain ⟨b1, s1, k1, c1, b2, s2, k2, c2, e1, r1, r2, f2⟩ := hd
              unfold RichAt
              go_simp
              exact hK _ _ (Only.refl _) ⟨b1, s1, k1, c1, rfl, r1⟩
            case refine_15 =>
              intro vs W hW hd K hK
              simp [depsOf, Region.binds, List.filter_cons, GotAll, saidV, pVal] at hd
              obtain ⟨b1, s1, k1, c1, b2, s2, k2, c2, e1, r1, r2, f2⟩ := hd
              unfold RichAt
              go_simp
              exact hK _ _ (Only.refl _) ⟨b2, s2, k2, c2, rfl, r2, f2⟩
            case refine_16 =>
              intro L vs W hL hX hu hcl hg hdl hd K hK
              have hn : L.getD 17 false = false := by
                cases h : L.getD 17 false with
                | false => rfl
                | true => exact absurd (hcl 17 _ rfl h 15 (by decide)) (by rw [hu]; decide)
              clear hd hcl hg hdl
              unfold RichAt
              go_simp
              exact hK _ _ (Or.inl ((Only.refl _).alloc _)) trivial (hX.box1 (by decide) (by decide) (by decide) hn)
            case refine_17 =>
              intro L vs W hL hX hu hcl hg hdl hd K hK
              have hn : L.getD 18 false = false := by
                cases h : L.getD 18 false with
                | false => rfl
                | true => exact absurd (hcl 18 _ rfl h 16 (by decide)) (by rw [hu]; decide)
              clear hd hcl hg hdl
              unfold RichAt
              go_simp
              exact hK _ _ (Or.inl ((Only.refl _).alloc _)) trivial (hX.box2 (by decide) (by decide) (by decide) hn)
            case refine_18 =>
              intro L vs W hL hX hu hcl hg hdl hd K hK
              have l15 := hdl 15 (by decide)
              have e13 := hg 13 (hdl 13 (by decide)) _ rfl
              simp [saidV] at e13
              obtain ⟨b1, s1, k1, c1, e1, r1⟩ := e13
              obtain ⟨g1, b0, s0, k0, c0, eg1, hg1, o1, -⟩ := hX.2.1 l15
              have hQ := Lib.hid (hX.put1 (v := undef) (by decide) (by decide) (by decide) l15 eg1 r1)
              have hF := Lib.hid (show FillsB wr.heap.size W ((W.setCell ⟨g1, 0, none⟩ (.bool b1)).setCell ⟨g1, 1, none⟩ (.slice s1 k1 c1)) from ⟨g1, b0, s0, k0, c0, b1, s1, k1, c1, hg1, o1, rfl⟩)
              obtain ⟨d1, d2, f1, f2, z1⟩ := o1.all
              clear hd hcl hg hdl hX r1 o1 hu
              unfold RichAt
              go_simp
              exact hK _ _ (Or.inr hF.out) trivial hQ.out.2
            case refine_19 =>
              intro L vs W hL hX hu hcl hg hdl hd K hK
              have l15 := hdl 16 (by decide)
              have e13 := hg 14 (hdl 14 (by decide)) _ rfl
              simp [saidV] at e13
              obtain ⟨b1, s1, k1, c1, e1, r1, fr1⟩ := e13
              obtain ⟨g1, b0, s0, k0, c0, eg1, hg1, o1, -⟩ := hX.2.2.1 l15
              have hQ := Lib.hid (hX.put2 (v := undef) (by decide) (by decide) (by decide) l15 eg1 r1 fr1)
              have hF := Lib.hid (show FillsB wr.heap.size W ((W.setCell ⟨g1, 0, none⟩ (.bool b1)).setCell ⟨g1, 1, none⟩ (.slice s1 k1 c1)) from ⟨g1, b0, s0, k0, c0, b1, s1, k1, c1, hg1, o1, rfl⟩)
              obtain ⟨d1, d2, f1, f2, z1⟩ := o1.all
              clear hd hcl hg hdl hX r1 o1 hu
              unfold RichAt
              go_simp
              exact hK _ _ (Or.inr hF.out) trivial hQ.out.2
          case hO23 =>
            simp only [List.forall_mem_cons]
            exact ⟨stabB_val _ _, stabB_val _ _, stabB_big _ _, stabB_val _ _, stabB_val _ _, stabB_val _ _, stabB_val _ _, stabB_big _ _, stabB_big _ _, stabB_val _ _, stabB_big _ _, stabB_quo _ _ _ _, stabB_quo _ _ _ _, stabB_big _ _, stabB_bigF _ _ _, stabB_triv _, stabB_triv _, stabB_triv _, stabB_triv _, fun _ h => by cases h⟩
          case hend23 =>
            intro Ls vs W hall hX hg
            obtain ⟨hO2, x15, x16, hne⟩ := hX
            have l15 := hall 15 (by decide)
            have l16 := hall 16 (by decide)
            replace hne := hne l15 l16
            obtain ⟨g13, b13, s13, k13, c13, eg13, hg13, o13, r13⟩ := x15 l15
            replace r13 := r13 (hall 17 (by decide))
            obtain ⟨g14, b14, s14, k14, c14, eg14, hg14, o14, r14⟩ := x16 l16
            replace r14 := r14 (hall 18 (by decide))
            obtain ⟨r14, f14⟩ := r14
            rw [eg13, eg14] at hne
            replace hne := ptr_ne hne
            clear hg hall x15 x16 l15 l16
            have hav : ¬ avB vp vl g14 := fun h => by have := (PLH.out.own _ h).1; omega
            have pl2 := PLH.out.only hO2
            have ox2 := OXH.out.only hO2
            have T2 := HO.out.trans hO2
            have li2 := LostI.fresh r14 f14 (fun b hb => (PLH.out.own b hb).1)
            have BQ := Lib.hid (bigInt_any r13 (LQ.out.mono (by omega)))
            rw [BI.out] at BQ
            have HNE := Lib.hid hne
            have HAV := Lib.hid hav
            have PL2 := Lib.hid pl2
            have LI2 := Lib.hid li2
            have HT2 := Lib.hid T2
            have OX2 := Lib.hid ox2
            have O14 := Lib.hid o14
            obtain ⟨d1, d2, f1, f2, z1⟩ := o13.all
            clear hav pl2 ox2 T2 li2 hne o14 o13 r13 r14 f14 hO2
            go_wp2_with fail
            go_at_call 73
            refine BQ.out.mono ?_
            rintro rv w3 ⟨rfl, t3⟩
            have tA := t3.trans ((Only.refl w3).alloc (.cells #[.int .i64 q] 3))
            have pl3 := PL2.out.only tA
            have li3 := LI2.out.only tA
            have o14 := O14.out.only tA
            have ox3 := OX2.out.only tA
            have T3 := HT2.out.trans tA
            have hBw : B ≤ (w3.alloc (.cells #[.int .i64 q] 3)).heap.size := by have := ox3.lt; rw [HB.out]; omega
            have hlen3 : (partsK x t ws m).length ≤ 1000000 := by rw [partsK_len]; omega
            clear t3 tA d1 d2 f1 f2 z1
            have PL3 := Lib.hid pl3
            have LI3 := Lib.hid li3
            have OB3 := Lib.hid o14
            have OX3 := Lib.hid ox3
            have HT3 := Lib.hid T3
            have HL3 := Lib.hid hlen3
            have HB3 := Lib.hid hBw
            clear pl3 li3 o14 ox3 T3 hlen3 hBw
            go_upto_region 26 with (at_builtin; refine append_int rfl (.tmp 88) (.tmp 90) rfl (base := B) (l := partsK x t ws m) (y := q) (g := w3.heap.size) rfl rfl PL3.out.p (by simp) HL3.out HB3.out ?_; intro sp4 cap4 w4 hP4 hG4 hob4)
            obtain ⟨pl4, hli4⟩ := PL3.out.int hP4 hG4 hob4
            have li4 := hli4 _ _ LI3.out
            have hg14 : vp.ownBlock ≠ some g14 := fun e => HAV.out (Or.inl e)
            have hgw : vp.ownBlock ≠ some w.heap.size := fun e => by have := (PL3.out.own _ (Or.inl e)).2; rw [HB.out] at this; omega
            have ob4 := Own2.grown OB3.out hG4 hg14
            have ox4 := Own2.grown OX3.out hG4 hgw
            have T4 : Only w w4 := HT3.out.grown hG4 fun r e => by have := (PL3.out.own _ (Or.inl e)).2; rw [HB.out] at this; omega
            have hps : partsK x t ws m ++ [q] = partsK x t ws (m + 1) := by rw [partsK_succ, HQE.out]
            rw [hps, partsK_len] at pl4
            rw [hps, partsK_len] at li4
            have hq0 := HAV.out
            have hav4 : ¬ avB (.slice sp4 (m + 1) cap4) vl g14 := fun h => by
              rcases h with h | h
              · rw [hps, partsK_len] at hob4
                rcases hob4 with e | e
                · exact hg14 (e.symm.trans h)
                · rw [e] at h
                  have h := Option.some.inj h
                  have := OB3.out.lt
                  omega
              · exact hq0 (Or.inr h)
            simp only [hps, partsK_len]
            have PL4 := Lib.hid pl4
            have LI4 := Lib.hid li4
            have OB4 := Lib.hid ob4
            have OX4 := Lib.hid ox4
            have HT4 := Lib.hid T4
            have HAV4 := Lib.hid hav4
            obtain ⟨d1, d2, f1, f2, z1⟩ := ob4.all
            clear pl4 hli4 li4 hg14 hgw ob4 ox4 T4 hps hq0 hav4 hP4 hG4 hob4
            go_upto_if 93 with (fail)
            go_cut [14] (fun p wc => p = .pointer (some ⟨g14, 0, none⟩) ∧ ∃ b s κ cp, Own2 wc g14 (.bool b) (.slice s κ cp) ∧ LostI wc (avB (.slice sp4 (m + 1) cap4) vl) (b, s, κ, cp) ((lostP x.natAbs t ws m : Nat) : Int) ∧ PL wc B (.slice sp4 (m + 1) cap4) vl (partsK x t ws (m + 1)) L (fun i => ((lostP x.natAbs t ws i : Nat) : Int)) ∧ Own2 wc w.heap.size (.int .i64 x) (.string c) ∧ Only w wc)
            case first =>
              by_cases hD : r < 0
              · obtain rfl : b14 = true := by have hbb := LI4.out.big.1; simp only at hbb; rw [hbb]; exact decide_eq_true hD
                have hneg : -r = ((lostP x.natAbs t ws m : Nat) : Int) := by rw [HRE.out] at hD ⊢; exact sgnA_abs hD
                have NB := bigNegF_any LI4.out.big (LR.out.mono (by omega))
                rw [hneg] at NB
                have NB := Lib.hid NB
                clear hD hneg
                go_wp2_with fail
                go_at_call 14
                refine NB.out.mono ?_
                rintro rv w5 ⟨b5, s5, κ5, c5, rfl, r5, f5, t5⟩
                have o5 := OB4.out.only t5
                have pl5 := (PL4.out.only t5).box o5 HAV4.out b5 s5 κ5 c5
                have li5 : LostI ((w5.setCell ⟨g14, 0, none⟩ (.bool b5)).setCell ⟨g14, 1, none⟩ (.slice s5 κ5 c5)) (avB (.slice sp4 (m + 1) cap4) vl) (b5, s5, κ5, c5) ((lostP x.natAbs t ws m : Nat) : Int) := LostI.fresh (r5.apart o5 b5 s5 κ5 c5) f5 (fun b hb => (PL4.out.own b hb).1)
                have hgx : w.heap.size ≠ g14 := by have := OX3.out.lt; have := HT2.out.size; omega
                have ox5 := ((OX4.out.only t5).far hgx 0 (.bool b5)).far hgx 1 (.slice s5 κ5 c5)
                have T5 := ((HT4.out.trans t5).set (p := g14) (by have := HO.out.size; omega) 0 (.bool b5)).set (p := g14) (by have := HO.out.size; omega) 1 (.slice s5 κ5 c5)
                obtain ⟨x1, x2, x3, x4, x5⟩ := o5.all
                have OB5 := Lib.hid (o5.set (.bool b5) (.slice s5 κ5 c5))
                have PL5 := Lib.hid pl5
                have LI5 := Lib.hid li5
                have OX5 := Lib.hid ox5
                have HT5 := Lib.hid T5
                clear o5 pl5 li5 hgx ox5 T5 r5 f5 t5 d1 d2 f1 f2 z1
                go_wp2
                go_meet
                exact ⟨rfl, b5, s5, κ5, c5, OB5.out, LI5.out, PL5.out, OX5.out, HT5.out⟩
              · obtain rfl : b14 = false := by have hbb := LI4.out.big.1; simp only at hbb; rw [hbb]; exact decide_eq_false hD
                have hpos : r = ((lostP x.natAbs t ws m : Nat) : Int) := by rw [HRE.out] at hD ⊢; exact sgnA_pos hD
                have li5 := LI4.out
                rw [hpos] at li5
                have LI5 := Lib.hid li5
                clear hD hpos li5
                go_wp2_with fail
                go_meet
                exact ⟨rfl, false, s14, k14, c14, OB4.out, LI5.out, PL4.out, OX4.out, HT4.out⟩
            case rest =>
              obtain ⟨rfl, b6, s6, κ6, c6, o6, li6, pl6, ox6, T6⟩ := hcut
              have tB := (Only.refl wc).alloc (.cells #[.bool b6, .slice s6 κ6 c6] 34)
              have PL6 := Lib.hid (pl6.only tB)
              have LI6 := Lib.hid (li6.only tB)
              have OX6 := Lib.hid (ox6.only tB)
              have HT6 := Lib.hid (T6.trans tB)
              have HB6 := Lib.hid (show B ≤ (wc.alloc (.cells #[.bool b6, .slice s6 κ6 c6] 34)).heap.size by have := (ox6.only tB).lt; rw [HB.out]; omega)
              have HL6 := Lib.hid (show L.length ≤ 1000000 by rw [HLL.out]; omega)
              obtain ⟨d1', d2', f1', f2', z1'⟩ := o6.all
              clear o6 li6 pl6 ox6 T6 tB d1 d2 f1 f2 z1
              go_wp2_with (at_builtin; refine append_big rfl (.tmp 96) (.tmp 98) rfl (base := B) (l := L) (y := (b6, s6, κ6, c6)) (g := wc.heap.size) rfl rfl PL6.out.l (by simp) (by simp) HL6.out HB6.out ?_; intro sp7 cap7 w7 hP7 hG7 hob7)
              have pl7 := PL6.out.big (by rw [HLL.out]; exact LI6.out) hP7 hG7 hob7
              have ox7 := Own2.grown OX6.out hG7 (fun e => by have := (PL6.out.own _ (Or.inr e)).2; rw [HB.out] at this; omega)
              have T7 : Only w w7 := HT6.out.grown hG7 fun r e => by have := (PL6.out.own _ (Or.inr e)).2; rw [HB.out] at this; omega
              have hl7 : (L ++ [(b6, s6, κ6, c6)]).length = m + 1 := by rw [List.length_append, HLL.out]; rfl
              have e7 : (L ++ [(b6, s6, κ6, c6)]).length = L.length + 1 := by simp
              rw [e7] at pl7
              clear e7
              have PL7 := Lib.hid pl7
              have OX7 := Lib.hid ox7
              have HT7 := Lib.hid T7
              have HL7 := Lib.hid hl7
              have hs := HLK.out
              clear pl7 ox7 T7 hP7 hG7 hob7 hl7 d1' d2' f1' f2' z1'
              have HLK2 := Lib.hid (hs.trans HLF'.out)
              clear hs
              go_wp2
              go_roundw
              case rel => exact ⟨_, _, m + 1, L ++ [(b6, s6, κ6, c6)], rfl, rfl, by omega, HL7.out, by go_num, by rw [HLK2.out], PL7.out, OX7.out, HT7.out⟩
              case measure => simp [intOf]; omega
        · obtain rfl : k = m := by omega
          obtain ⟨gp, capp, hvp, hgp, hrow⟩ := PLH.out.p.row (by rw [partsK_len]; exact HN0.out)
          obtain ⟨gl, capl, hvl, hgl, hrowl⟩ := PLH.out.l.row (by rw [HLL.out]; exact HN0.out)
          rw [partsK_len] at hvp hrow
          rw [HLL.out] at hvl hrowl
          subst hvp hvl
          have hdis : gp ≠ gl := fun e => PLH.out.d gp rfl (by rw [e]; rfl)
          have hrp := hrow (fun i => partJ x t ws 0 i) (fun i hi => by rw [partsK_at x t ws hi]; simp [partJ])
          have hrl := hrowl (fun b => b = gp ∨ b = wr.heap.size) (fun i => ((lostP x.natAbs t ws i : Nat) : Int)) (fun i y hy => ⟨(PLH.out.e i y hy).big, fun hn a e hv => by
            rcases hv with hv | hv
            · exact (PLH.out.e i y hy).far hn a e (Or.inl (by rw [hv]; rfl))
            · have := (PLH.out.e i y hy).big.block hn a e; omega⟩)
          have hLL := left_eq (u := x.natAbs) (t := t) (ws := ws) HP.out HT0.out.symm
          have hle : leftK x t ws k = sgnA x (leftP x.natAbs t ws) := by rw [HN.out]; exact leftK_end x t ws
          obtain ⟨LP, hLP⟩ : ∃ LP, LP = leftP x.natAbs t ws := ⟨_, rfl⟩
          have hLk : LP ≤ k := by rw [hLP, HN.out]; exact hLL.2.2
          rw [← hLP] at hle
          rw [hle]
          have HLP := Lib.hid hLP
          have HLk := Lib.hid hLk
          have HRP := Lib.hid hrp
          have HRL := Lib.hid hrl
          have HDIS := Lib.hid hdis
          have HGP := Lib.hid hgp
          have hone : (sgnA x LP < 0 → sgnA x 1 = -1) ∧ (¬ sgnA x LP < 0 → 0 < LP → sgnA x 1 = 1) := by
            rcases sgnA_cases x with ⟨-, -, q⟩ | ⟨-, -, q⟩ <;> rw [q, q] <;> constructor <;> intros <;> omega
          have HONE := Lib.hid hone
          clear hrow hrowl hrp hrl hLL hle hLP hLk hdis hgp hgl hlt hone
          obtain ⟨lv, hlv⟩ : ∃ lv, lv = sgnA x LP := ⟨_, rfl⟩
          have HLV := Lib.hid hlv
          rw [← hlv]
          clear hlv
          go_upto_if 104 with (fail)
          go_cut [17] (fun p wc => ∃ one : Int, p = .int .i64 one ∧ (-1 ≤ one ∧ one ≤ 1) ∧ (0 < LP → one = sgnA x 1) ∧ wc = wr)
          case first =>
            by_cases hD : lv < 0
            · go_wp2_with fail
              go_meet
              exact ⟨-1, rfl, by omega, fun _ => (HONE.out.1 (by rw [← HLV.out]; exact hD)).symm, rfl⟩
            · go_wp2_with fail
              go_meet
              exact ⟨1, rfl, by omega, fun h => (HONE.out.2 (by rw [← HLV.out]; exact hD) h).symm, rfl⟩
          case rest =>
            obtain ⟨one, rfl, ho1, ho2, rfl⟩ := hcut
            have MK := fun W => make_bools (e := (k : Int)) (n := k) rfl (by omega) W
            have HO2 := Lib.hid ho2
            have HB0 := Lib.hid (bools_made wc k)
            obtain ⟨o1a, o1b⟩ := ho1
            clear ho2
            go_wp2_with fail
            clear MK
            rw [HLV.out]
            have tq := (Only.refl wc).alloc (.cells (madeCells #[.bool false] k) 4)
            obtain ⟨gq, hgq⟩ : ∃ gq, gq = wc.heap.size := ⟨_, rfl⟩
            have hRP := HRP.out.only tq
            have hRL := HRL.out.only tq
            have hRB := HB0.out
            rw [← hgq] at hRL hRB ⊢
            have hox := OXH.out.only tq
            have hT := HO.out.trans tq
            have HPQ := Lib.hid (show gp ≠ gq by have := HRP.out.lt; omega)
            have HPL := HDIS
            have HQL := Lib.hid (show gq ≠ gl by have := HRL.out.lt; omega)
            have HGPW := Lib.hid (show w.heap.size ≠ gp by have := HGP.out; have := HB.out; omega)
            have HGQW := Lib.hid (show w.heap.size ≠ gq by have := OXH.out.lt; omega)
            have HGQ0 := Lib.hid (show w.heap.size ≤ gq by have := OXH.out.lt; omega)
            have HGP0 := Lib.hid (show w.heap.size ≤ gp by have := HGP.out; have := HB.out; omega)
            clear tq
            generalize (wc.alloc (.cells (madeCells #[.bool false] k) 4)) = w3 at *
            clear HRP HRL HB0 hgq
            have HOS := Lib.hid (show (ordP x t ws).length = k by unfold ordP; rw [lossOrd_len, HN.out])
            go_loopw [11, 19, 20] (fun lf _ _ wx => ∃ j : Nat, j ≤ LP ∧ lf = .int .i64 (sgnA x (LP - j)) ∧ IntR wx gp k (fun i => .int .i64 (partJ x t ws j i)) ∧ IntR wx gq k (fun i => .bool (decide (i ∈ (ordP x t ws).take j))) ∧ LostR wx (fun b => b = gp ∨ b = gq) gl k (fun i => ((lostP x.natAbs t ws i : Nat) : Int)) ∧ Own2 wx w.heap.size (.int .i64 x) (.string c) ∧ Only w wx) (fun lf _ _ _ => (intOf lf).natAbs)
            case atStart => exact ⟨0, Nat.zero_le _, rfl, hRP, hRB.ext (fun i _ => by simp), hRL, hox, hT⟩
            case round =>
              clear hRP hRB hRL hox hT
              obtain ⟨wx, rfl⟩ : ∃ W : World, W = wr := ⟨_, rfl⟩
              obtain ⟨j, hj, rfl, hRP, hRB, hRL, hox, hT⟩ := hrel
              have HRP := Lib.hid hRP
              have HRB := Lib.hid hRB
              have HRL := Lib.hid hRL
              have HOX := Lib.hid hox
              have HTx := Lib.hid hT
              clear hRP hRB hRL hox hT
              by_cases hjl : j < LP
              · have hj0 : ((sgnA x (LP - j) : Int) != 0) = true := sgnA_ne (by omega)
                have hlb := sgnA_small (x := x) (p := LP - j) (m := 100) (by have := HLk.out; omega)
                have hlb2 := sgnA_small (x := x) (p := LP - (j + 1)) (m := 100) (by have := HLk.out; omega)
                have hone := HO2.out (by omega)
                have hsub : sgnA x (LP - j) - one = sgnA x (LP - (j + 1)) := by rw [hone, sgnA_sub (by omega)]; congr 1
                obtain ⟨hjo, hbest⟩ := best_next (u := x.natAbs) (t := t) (ws := ws) HP.out HT0.out.symm (j := j) (by rw [← HLP.out]; exact hjl)
                have hjo : j < (ordP x t ws).length := hjo
                have hbest : bestK ws (lostP x.natAbs t ws) ((ordP x t ws).take j) ws.length = some ((ordP x t ws)[j]) := hbest
                rw [← HN.out] at hbest
                obtain ⟨lw, hlw⟩ : ∃ lw, lw = sgnA x (LP - j) := ⟨_, rfl⟩
                rw [← hlw] at hj0 hlb hsub ⊢
                rw [← hsub] at hlb2
                have hpn := part_next hjo
                have hgn := gone_next hjo
                have hbk : (ordP x t ws)[j] < k := by rw [HN.out]; exact lossOrd_mem.1 (List.getElem_mem hjo)
                generalize (ordP x t ws)[j] = bb at hbest hpn hgn hbk
                have HSUB := Lib.hid hsub
                have HONE2 := Lib.hid hone
                have HBEST := Lib.hid hbest
                have HPN := Lib.hid hpn
                have HGN := Lib.hid hgn
                have HBK := Lib.hid hbk
                have HLW := Lib.hid hlw
                obtain ⟨lb1, lb2⟩ := hlb
                obtain ⟨lb3, lb4⟩ := hlb2
                clear hsub hone hbest hpn hgn hbk hjo hlw
                go_wp2_with fail
                clear hj0
                go_loopw [19, 20] (fun bv iv wy => ∃ m : Nat, m ≤ k ∧ iv = .int .i64 (m : Int) ∧ bv = .int .i64 (bestI (bestK ws (lostP x.natAbs t ws) ((ordP x t ws).take j) m)) ∧ Only wx wy) (fun _ iv _ => k - (intOf iv).toNat)
                case atStart => exact ⟨0, Nat.zero_le _, rfl, rfl, Only.refl _⟩
                case round =>
                  obtain ⟨wy, rfl⟩ : ∃ W : World, W = wr := ⟨_, rfl⟩
                  obtain ⟨m, hm, rfl, rfl, hY⟩ := hrel
                  have HY := Lib.hid hY
                  have HT3 := Lib.hid (HTx.out.trans hY)
                  clear hY
                  by_cases hmk : m < k
                  · have m1 : (m : Int) < (k : Int) := by omega
                    obtain ⟨y, hy, hyd, -, hyb⟩ := HWS.out m hmk
                    have cw := HC.out _ HT3.out m y hy
                    have cg := (HRB.out.only HY.out).cell hmk
                    have hbs := best_step ws (lostP x.natAbs t ws) ((ordP x t ws).take j) m
                    have hcd : candB ws ((ordP x t ws).take j) m = (decide (0 < y) && !decide (m ∈ (ordP x t ws).take j)) := by unfold candB; rw [hyd]
                    rw [hcd] at hbs
                    clear hcd hy hyd
                    by_cases hy0 : 0 < y
                    · have y1 : (0 : Int) < (y : Int) := by omega
                      have y2 : (y : Int) ≤ 2147483648 := by omega
                      by_cases hgo : m ∈ (ordP x t ws).take j
                      · rw [decide_eq_true hgo] at cg
                        rw [decide_eq_true hgo, Bool.not_true, Bool.and_false, if_neg (by decide)] at hbs
                        have HBS := Lib.hid hbs
                        clear hbs hgo hyb
                        go_upto_region 39 with (fail)
                        go_quiet (fail)
                        go_wp2_with fail
                        go_roundw
                        case rel => exact ⟨m + 1, by omega, by go_num, by rw [HBS.out], HY.out.drewN _⟩
                        case measure => simp [intOf]; omega
                      · rw [decide_eq_false hgo] at cg
                        rw [decide_eq_false hgo, decide_eq_true hy0, Bool.not_false, Bool.and_true, if_pos rfl] at hbs
                        clear hgo hyb
                        cases hbm : bestK ws (lostP x.natAbs t ws) ((ordP x t ws).take j) m with
                        | none =>
                          rw [hbm] at hbs
                          simp only at hbs
                          have HBS := Lib.hid hbs
                          rw [show bestI none = -1 from rfl]
                          clear hbs hbm
                          go_upto_region 39 with (fail)
                          go_quiet (fail)
                          go_wp2_with fail
                          go_roundw
                          case rel => exact ⟨m + 1, by omega, by go_num, by rw [HBS.out]; rfl, HY.out.drewN _⟩
                          case measure => simp [intOf]; omega
                        | some bq =>
                          have hbq := best_lt hbm
                          rw [hbm] at hbs
                          simp only at hbs
                          rw [show bestI (some bq) = (bq : Int) from rfl]
                          have q1 : (bq : Int) < (k : Int) := by omega
                          have q2 : ¬ (bq : Int) < 0 := by omega
                          obtain ⟨e1, s1, k1, c1, ca1, ca2, r1⟩ := (HRL.out.only HY.out).at hmk
                          obtain ⟨e2, s2, k2, c2, cb1, cb2, r2⟩ := (HRL.out.only HY.out).at (i := bq) (by omega)
                          have hl1 := lost_lt (u := x.natAbs) HP.out ws m
                          have hl2 := lost_lt (u := x.natAbs) HP.out ws bq
                          have htb := HTB.out
                          have l1 : Lim ((lostP x.natAbs t ws m : Nat) : Int) 5 := Lim.of_i64 ⟨by omega, by omega⟩
                          have l2 : Lim ((lostP x.natAbs t ws bq : Nat) : Int) 5 := Lim.of_i64 ⟨by omega, by omega⟩
                          have CM := fun n : Cone wy => bigCmp_any (r1.only n.only) (r2.only n.only) (l1.mono (by omega)) (l2.mono (by omega))
                          have z1 := cell_coneP cw
                          have z2 := cell_coneP cg
                          have z3 := cell_coneP ca1
                          have z4 := cell_coneP ca2
                          have z5 := cell_coneP cb1
                          have z6 := cell_coneP cb2
                          by_cases hcmp : lostP x.natAbs t ws bq < lostP x.natAbs t ws m
                          · rw [if_pos hcmp] at hbs
                            have HBS := Lib.hid hbs
                            have hcv : cmpI ((lostP x.natAbs t ws m : Nat) : Int) ((lostP x.natAbs t ws bq : Nat) : Int) = 1 := by unfold cmpI; rw [if_neg (by omega), if_pos (by omega)]
                            simp only [hcv] at CM
                            have CM := Lib.hid CM
                            clear hbs hbm hcmp hcv l1 l2 hl1 hl2 htb r1 r2 hbq cw cg ca1 ca2 cb1 cb2
                            go_upto_region 39 with (fail)
                            refine wp_region_cone (by kernel_rfl) (by kernel_rfl) ?_
                            repeat (any_goals (first | go_big_quiet_step ((go_at_call 15; with_reducible exact Cone.call (CM.out _))) | quiet_step ((go_at_call 15; with_reducible exact Cone.call (CM.out _)))))
                            refine wpQuiet_nil ?_
                            rintro w7 ⟨⟨_, t7⟩, rfl⟩
                            clear z1 z2 z3 z4 z5 z6
                            go_wp2_with fail
                            go_roundw
                            case rel => exact ⟨m + 1, by omega, by go_num, by rw [HBS.out]; rfl, HY.out.trans t7⟩
                            case measure => simp [intOf]; omega
                          · rw [if_neg hcmp] at hbs
                            have HBS := Lib.hid hbs
                            obtain ⟨cv, hcv, hcv0⟩ : ∃ cv, cmpI ((lostP x.natAbs t ws m : Nat) : Int) ((lostP x.natAbs t ws bq : Nat) : Int) = cv ∧ ¬ 0 < cv := ⟨_, rfl, by unfold cmpI; split <;> (try split) <;> omega⟩
                            simp only [hcv] at CM
                            have CM := Lib.hid CM
                            clear hbs hbm hcmp hcv l1 l2 hl1 hl2 htb r1 r2 hbq cw cg ca1 ca2 cb1 cb2
                            go_upto_region 39 with (fail)
                            refine wp_region_cone (by kernel_rfl) (by kernel_rfl) ?_
                            repeat (any_goals (first | go_big_quiet_step ((go_at_call 15; with_reducible exact Cone.call (CM.out _))) | quiet_step ((go_at_call 15; with_reducible exact Cone.call (CM.out _)))))
                            refine wpQuiet_nil ?_
                            rintro w7 ⟨⟨_, t7⟩, rfl⟩
                            clear z1 z2 z3 z4 z5 z6
                            go_wp2_with fail
                            go_roundw
                            case rel => exact ⟨m + 1, by omega, by go_num, by rw [HBS.out]; rfl, HY.out.trans t7⟩
                            case measure => simp [intOf]; omega
                    · obtain rfl : y = 0 := by omega
                      rw [decide_eq_false hy0, Bool.false_and, if_neg (by decide)] at hbs
                      have HBS := Lib.hid hbs
                      clear hbs hy0 hyb cg
                      go_upto_region 39 with (fail)
                      go_quiet (fail)
                      go_wp2_with fail
                      go_roundw
                      case rel => exact ⟨m + 1, by omega, by go_num, by rw [HBS.out], HY.out.drewN _⟩
                      case measure => simp [intOf]; omega
                  · obtain rfl : k = m := by omega
                    rw [HBEST.out, show bestI (some bb) = (bb : Int) from rfl]
                    have hbk := HBK.out
                    have b1 : (bb : Int) < (k : Int) := by omega
                    have hRP := HRP.out.only HY.out
                    have hRB := HRB.out.only HY.out
                    have hRL := HRL.out.only HY.out
                    have hOX := HOX.out.only HY.out
                    have cp := hRP.cell hbk
                    have cq := hRB.cell hbk
                    have n1 := HPQ.out
                    have n2 := Ne.symm n1
                    have fp := hRP.free bb
                    have fq := hRB.free bb
                    have zp := hRP.lt
                    have zq := hRB.lt
                    have hpn := HPN.out
                    rw [← HONE2.out] at hpn
                    obtain ⟨pv, hpv⟩ : ∃ pv, pv = partJ x t ws j bb := ⟨_, rfl⟩
                    have hpb : -4611686018427387905 ≤ pv ∧ pv ≤ 4611686018427387905 := by
                      have h1 := unit_le (u := x.natAbs) HP.out HT0.out.symm (k := bb) (by rw [← HN.out]; exact hbk)
                      have h2 := HX.out
                      rw [hpv]; unfold partJ
                      have h3 : unitP x.natAbs t ws bb + (if bb ∈ (ordP x t ws).take j then 1 else 0) ≤ x.natAbs + 1 := by split <;> omega
                      have := sgnA_small (x := x) h3
                      omega
                    rw [← hpv] at cp hpn
                    obtain ⟨p1, p2⟩ := hpb
                    have hPN := Lib.hid (((hRP.set bb (.int .i64 (pv + one))).far (Ne.symm HPQ.out) bb (.bool true)).ext (f' := fun i => .int .i64 (partJ x t ws (j + 1) i)) fun i _ => by
                      have := hpn i
                      by_cases e : i = bb
                      · rw [if_pos e] at this ⊢; rw [← this]
                      · rw [if_neg e] at this ⊢; rw [← this])
                    have hBN := Lib.hid (((hRB.far HPQ.out bb (.int .i64 (pv + one))).set bb (.bool true)).ext fun i _ => HGN.out i)
                    have hLN := Lib.hid ((hRL.set HPL.out (Or.inl rfl) bb (.int .i64 (pv + one))).set HQL.out (Or.inr rfl) bb (.bool true))
                    have hON := Lib.hid ((hOX.far HGPW.out bb (.int .i64 (pv + one))).far HGQW.out bb (.bool true))
                    have hTN := Lib.hid ((HT3.out.set (p := gp) HGP0.out bb (.int .i64 (pv + one))).set (p := gq) HGQ0.out bb (.bool true))
                    clear hRP hRB hRL hOX hpn hpv hbk
                    go_wp2
                    go_roundw
                    case rel => exact ⟨j + 1, by omega, by rw [HSUB.out], hPN.out, hBN.out, hLN.out, hON.out, hTN.out⟩
                    case measure =>
                      have e1 := sgnA_natAbs x (LP - j)
                      have e2 := sgnA_natAbs x (LP - (j + 1))
                      rw [← HLW.out] at e1
                      rw [← HSUB.out] at e2
                      simpa [intOf, e1, e2] using (by omega : LP - (j + 1) < LP - j)
              · have hje : j = LP := by omega
                subst hje
                have h0e : sgnA x (j - j) = 0 := by rw [Nat.sub_self]; exact sgnA_zero x
                rw [h0e]
                have HFP : Hid (∀ i, i < k → (partsA x c ws)[i]? = some (partJ x t ws j i, c)) := Lib.hid fun i hi => by
                  rw [partsA_at (by rw [← HN.out]; exact hi)]
                  rw [← partJ_end HT0.out i, ← HLP.out]
                have HFL := Lib.hid (show (partsA x c ws).length = k by rw [partsA_len, HN.out])
                obtain ⟨ca1, ca2, -, -, za⟩ := HOX.out.all
                have hgpw := HRP.out.lt
                obtain ⟨B5, hB5⟩ : ∃ B5, B5 = wx.heap.size := ⟨_, rfl⟩
                have HB5 := Lib.hid hB5
                clear hB5 h0e hjl hj ca1 ca2 za hgpw
                go_wp2_with fail
                go_loopw [21, 22] (fun v iv wy => ∃ (i : Nat) (sp : Option Addr) (cp : Nat), i ≤ k ∧ iv = .int .i64 (i : Int) ∧ v = .slice sp i cp ∧ RmsO wy B5 (.slice sp i cp) ((partsA x c ws).take i) ∧ IntR wy gp k (fun i => .int .i64 (partJ x t ws j i)) ∧ Own2 wy w.heap.size (.int .i64 x) (.string c) ∧ Only w wy ∧ B5 ≤ wy.heap.size) (fun _ iv _ => k - (intOf iv).toNat)
                case atStart => exact ⟨0, none, 0, Nat.zero_le _, rfl, rfl, RmsO.nil _ _, HRP.out, HOX.out, HTx.out, by rw [HB5.out]; exact Nat.le_refl _⟩
                case round =>
                  obtain ⟨wy, rfl⟩ : ∃ W : World, W = wr := ⟨_, rfl⟩
                  obtain ⟨i, sp, cpp, hi, rfl, rfl, hO, hP, hX, hT, hB⟩ := hrel
                  have HO5 := Lib.hid hO
                  have HP5 := Lib.hid hP
                  have HX5 := Lib.hid hX
                  have HT5 := Lib.hid hT
                  have HB6 := Lib.hid hB
                  clear hO hP hX hT hB
                  by_cases hik : i < k
                  · have m1 : (i : Int) < (k : Int) := by omega
                    have cp := HP5.out.cell hik
                    obtain ⟨ca1, ca2, -, -, za⟩ := HX5.out.all
                    have hpi := HFP.out i hik
                    obtain ⟨pv, hpv⟩ : ∃ pv, pv = partJ x t ws j i := ⟨_, rfl⟩
                    rw [← hpv] at cp hpi
                    have htl : ((partsA x c ws).take i).length = i := by rw [List.length_take, HFL.out]; omega
                    have hnx : (partsA x c ws).take i ++ [(pv, c)] = (partsA x c ws).take (i + 1) := by rw [List.take_add_one, hpi]; rfl
                    have ho5 := HO5.out
                    obtain ⟨l5, hl5⟩ : ∃ l5, l5 = (partsA x c ws).take i := ⟨_, rfl⟩
                    rw [← hl5] at htl hnx ho5
                    have HO9 := Lib.hid ho5
                    have HTL := Lib.hid htl
                    have HNX := Lib.hid hnx
                    clear hpi hpv htl hnx ho5 hl5
                    go_upto_region 48 with (fail)
                    refine wp_rich_tail 9 [pVal ?y0, pVal ?y1, pVal ?y2, pVal ?y3, pVal ?y4, pVal ?y5, pVal ?y6, pVal ?y7, pOne2 (.int .i64 pv) (.string c)] (F := ?F48) (by kernel_rfl) (by kernel_rfl) (by kernel_rfl) (by kernel_rfl) (by kernel_rfl) (by kernel_rfl) (by kernel_rfl) ?hF48 ?hst48 ?hO48 ?hend48
                    case hF48 =>
                      intro vs
                      simp only [List.take_succ_cons, List.take_zero, fills]
                      go_simp
                      exact rfl
                    case hst48 =>
                      simp only [List.take_succ_cons, List.take_zero, StepsP]
                      refine ⟨?_, ?_, ?_, ?_, ?_, ?_, ?_, ?_, ?_, trivial⟩
                      case refine_1 | refine_2 | refine_3 | refine_4 | refine_5 | refine_6 | refine_7 | refine_8 =>
                        intro vs W hW hd K hK
                        have k1 := hW.cellM ca1
                        have k2 := hW.cellM ca2
                        have k3 := hW.cellM cp
                        simp [depsOf, Region.binds, List.filter_cons, GotAll, saidV, pVal] at hd
                        unfold RichAt
                        go_simp
                        refine hK _ _ (Only.refl _) ?_
                        exact rfl
                      case refine_9 =>
                        intro vs W hW hd K hK
                        simp [depsOf, Region.binds, List.filter_cons, GotAll, saidV, pVal] at hd
                        unfold RichAt
                        go_simp
                        exact hK _ _ ((Only.refl _).alloc _) ⟨_, rfl, Own2.new _ _ _ _⟩
                    case hO48 =>
                      simp only [List.forall_mem_cons]
                      exact ⟨stab_val _, stab_val _, stab_val _, stab_val _, stab_val _, stab_val _, stab_val _, stab_val _, stab_one2 _ _, fun _ h => by cases h⟩
                    case hend48 =>
                      intro vs W hW hg
                      simp [List.range_succ, depsOf, Region.binds, List.filter_cons, GotAll, saidV, pVal] at hg
                      obtain ⟨e0, e1, e2, e3, e4, e5, e6, e7, gb, e8, ob⟩ := hg
                      have tW := hW
                      obtain ⟨ob1, ob2, -, -, -⟩ := ob.all
                      have HO7 : Hid (RmsO W B5 (.slice sp i cpp) l5) := Lib.hid (own_only HO9.out tW)
                      have HP7 := Lib.hid (HP5.out.only tW)
                      have HX7 := Lib.hid (HX5.out.only tW)
                      have HT7 := Lib.hid (HT5.out.trans tW)
                      have HB7 := Lib.hid (Nat.le_trans HB6.out tW.size)
                      have HL7 := Lib.hid (show l5.length ≤ 1000000 by rw [HTL.out]; omega)
                      clear tW hW cp ca1 ca2 za ob
                      simp only [List.drop_succ_cons, List.drop_zero, e0, e1, e2, e3, e4, e5, e6, e7, e8]
                      go_wp2_with (at_builtin; refine append_rm rfl (.tmp 166) (.tmp 174) rfl (base := B5) (y := (pv, c)) (g := gb) rfl rfl HO7.out ob1 ob2 HL7.out HB7.out ?_; intro sp8 cap8 w8 hO8 hB8 hS8)
                      have hgp5 : gp < B5 := by have := HRP.out.lt; rw [HB5.out]; exact this
                      have hbx5 : w.heap.size < B5 := by have := HOX.out.lt; rw [HB5.out]; exact this
                      have hP8 := HP7.out.below hB8 hgp5
                      have hX8 := HX7.out.belowN hB8 hbx5
                      have hT8 : Only w w8 := HT7.out.below hB8 (by omega)
                      have hlen8 : (l5 ++ [(pv, c)]).length = i + 1 := by rw [List.length_append, HTL.out]; rfl
                      rw [hlen8, HNX.out] at hO8
                      have HO8 := Lib.hid hO8
                      have HP8 := Lib.hid hP8
                      have HX8 := Lib.hid hX8
                      have HT8 := Lib.hid hT8
                      have HB8 := Lib.hid (Nat.le_trans HB7.out hS8)
                      clear hO8 hP8 hX8 hT8 hB8 hS8 hlen8 hgp5 hbx5
                      simp only [List.length_append, HTL.out, List.length_singleton]
                      go_roundw
                      case rel => exact ⟨i + 1, sp8, cap8, by omega, by go_num, rfl, HO8.out, HP8.out, HX8.out, HT8.out, HB8.out⟩
                      case measure => simp [intOf]; omega
                  · obtain rfl : k = i := by omega
                    have hR := RmsO.toR HO5.out
                    rw [List.take_of_length_le (by rw [HFL.out]; exact Nat.le_refl _)] at hR
                    have HR5 := Lib.hid hR
                    clear hR
                    go_wp2_with fail
                    go_ret2
                    exact ⟨_, rfl, HR5.out, HT5.out⟩
end Go.Proofs.YtopklnaahdjafaaGreatDoor

/-
  MoneyParts: parts by any weights, held against the document's.
-/
namespace Go.Proofs.YtopklnaahdjafaaGreatDoor
open Go.RowKit Go.Shelf Go.Maps Go.WideMaps Go.ChangeShapes Go.WideShapes Go.ChangeAt
set_option linter.unusedVariables false
set_option linter.unusedSimpArgs false

section
variable {H : Type} {enc : TypeId × Value → H} {W : World} {base : Nat} {spare : Nat → Bool} {held : Bool}
set_option maxRecDepth 100000 in
theorem ints_nil {r : Reach} {b0 : Nat} {v : Value} {d : DataW H} {p : List MemPlace} (hval : Value.okWide Tryz.prog W r b0 24 v) (h : DataW.Trod enc Tryz.prog W base spare held 24 v d p) : ∀ n c, v = .slice none n c → c = 0 := by
  obtain ⟨a0, len, cap, rfl⟩ := okWide_slice (P := Tryz.prog) (w := W) (r := r) (base := b0) (t := 24) (v := v) Tryz.underlying24 hval
  obtain ⟨fuel, hf⟩ := h
  intro n c e
  simp only [Value.slice.injEq] at e
  rcases open_ints Tryz.underlying24 Tryz.underlying3 (by kernel_rfl) hf with ⟨hcs, _⟩ | ⟨a, len', cap', zs, hcs, _, hl, hm, hz, _, hc, hw⟩
  · simp [Value.cells] at hcs
    omega
  · simp [Value.cells] at hcs
    rw [e.1] at hcs
    simp at hcs
end

theorem ivC_len (l : List Int) : (ivC l).length = l.length := by simp [ivC]
/-- all of a list of ints behind an empty list of our own -/
theorem append_intsI {w : World} {ops : Array Oper} {rest : List Oper} {o : Oper} {a : Act} {Qx : Exit → Act → World → Prop} (hgd : o.guard = none) (s x : Operand)
    (ho : o.op = .call { callee := .builtin .append, args := #[s, x], argTypes := #[24, 24] }) {base : Nat} {v u : Value} {l : List Int} (hs : a.eval s = v) (hx : a.eval x = u)
    (hl : IntsO w base v []) (hu : IntsIn w u l) (hnil : ∀ n c, u = .slice none n c → c = 0) (hn : l.length ≤ 1000000) (hbase : base ≤ w.heap.size)
    (h : ∀ sp cap w', IntsO w' base (.slice sp l.length cap) l → Below base w w' → w.heap.size ≤ w'.heap.size → wpList Tryz.prog ops Qx rest (a.put o.dst (.slice sp l.length cap)) w') :
    wpList Tryz.prog ops Qx (o :: rest) a w := by
  obtain ⟨i0, hi, hz0, hz1, hz2⟩ := infoIntP
  obtain ⟨spu, capu, rfl, hcell⟩ := hu
  cases spu with
  | none =>
    have hl0 : l = [] := by
      cases l with
      | nil => rfl
      | cons y l =>
        obtain ⟨g, o, e, -⟩ := hcell (by simp)
        cases e
    subst hl0
    have hc0 := hnil _ _ rfl
    subst hc0
    refine wpList_append_own_none hgd s x 24 ho base 3 i0 1 Tryz.underlying24 hi v 0 _ hs hl hx ?_
    obtain ⟨sp2, cap2, e⟩ := own_form hl
    subst e
    exact h sp2 cap2 w hl (Below.refl _ _) (Nat.le_refl _)
  | some ad =>
    obtain ⟨g, off, spot⟩ := ad
    refine wpList_append_own_at w hgd s x 24 ho base 3 i0 (.int .i64 0) 1 8 Tryz.underlying24 hi hz0 hz1 hz2 rfl (by decide) v 0 [] hs hl ⟨g, off, spot⟩ l.length capu (ivC l) hx (by simp [ivC]) (fun j y hj => ?_) (fun y hy => ?_) (by unfold maxLen; omega) (by omega) hbase ?_
    · have hlt : j < (ivC l).length := (List.getElem?_eq_some_iff.1 hj).1
      rw [ivC_len] at hlt
      obtain ⟨g', o', e, hc⟩ := hcell (by omega)
      simp only [Option.some.injEq, Addr.mk.injEq] at e
      obtain ⟨rfl, rfl, rfl⟩ := e
      obtain ⟨z, hz⟩ : ∃ z, l[j]? = some z := ⟨_, List.getElem?_eq_getElem hlt⟩
      rw [ivC_at hz] at hj
      rw [← Option.some.inj hj, show (⟨g, off, none⟩ : Addr).add j = ⟨g, off + j, none⟩ by unfold Addr.add; split <;> simp_all]
      exact hc j z hz
    · simp only [ivC, List.mem_map] at hy
      obtain ⟨z, _, rfl⟩ := hy
      rfl
    · intro v' w2 hown' hg _ hob
      have hown2 : IntsO w2 base v' l := by unfold IntsO; rw [Nat.zero_add, List.nil_append] at hown'; exact hown'
      obtain ⟨sp, cap, e⟩ := own_form hown2
      subst e
      exact h sp cap w2 hown2 (Below.grown (Below.refl _ _) hg hbase fun k e => own_le hl k e) hg.size
theorem empty_ints (w : World) : IntsO (w.alloc (.cells #[] 3)) w.heap.size (.slice (some ⟨w.heap.size, 0, none⟩) 0 0) [] :=
  ⟨by simp [ivC], Or.inr ⟨w.heap.size, 0, _, rfl, Nat.le_refl _, heap_alloc_new _ _, Nat.le_refl _, Nat.zero_le _, by simp, by simp [ivC]⟩⟩
theorem IntsO.toIn {w : World} {base : Nat} {v : Value} {l : List Int} (h : IntsO w base v l) : IntsIn w v l := by
  by_cases h0 : 0 < l.length
  · have h2 := h
    rcases h.2 with ⟨-, e⟩ | ⟨g, cap, cur, e1, hg, hh, hc, -, hz, ht⟩
    · omega
    · refine ⟨some ⟨g, 0, none⟩, cap, e1, fun _ => ⟨g, 0, rfl, fun i x hx => ?_⟩⟩
      have hlt : i < l.length := (List.getElem?_eq_some_iff.1 hx).1
      have h3 : (cur.toList.take (l.length * 1))[i]? = (ivC l)[i]? := by rw [ht]
      rw [ivC_at hx, List.getElem?_take, if_pos (by omega)] at h3
      simp only [World.cell?, hh, Nat.zero_add]
      simpa using h3
  · obtain ⟨sp, cap, e⟩ := own_form h
    exact ⟨sp, cap, e, fun h1 => absurd h1 h0⟩

set_option maxRecDepth 100000 in
theorem sameI_any {va vb : Value} {l : List Int} {w : World} (ha : IntsIn w va l) (hb : IntsIn w vb l) (hl : l.length ≤ 1000000) :
    Calls Tryz.prog 39 #[va, vb] w fun r w' => r = .returned (.bool true) ∧ Only w w' := by
  obtain ⟨sa, ca, rfl, hca⟩ := ha
  obtain ⟨sb, cb, rfl, hcb⟩ := hb
  have HA := Lib.hid hca
  have HB := Lib.hid hcb
  have b1 : ((l.length : Int) != (l.length : Int)) = false := by simp
  clear hca hcb
  go_enter Tryz.func39, Tryz.ntmps39
  go_wp2_with fail
  go_loopw [5] (fun i wr => ∃ k : Nat, k ≤ l.length ∧ i = .int .i64 k ∧ Only w wr) (fun i _ => l.length - (intOf i).toNat)
  case atStart => exact ⟨0, Nat.zero_le _, rfl, Only.refl _⟩
  case round =>
    obtain ⟨k, hk, rfl, hlk⟩ := hrel
    have HW := Lib.hid hlk
    clear hlk
    by_cases hlt : k < l.length
    · obtain ⟨ga, oa, e1, x1⟩ := HA.out (by omega)
      obtain ⟨gb, ob, e2, x2⟩ := HB.out (by omega)
      subst e1; subst e2
      have ca' := HW.out.cellM (x1 k l[k] (List.getElem?_eq_getElem hlt))
      have cb' := HW.out.cellM (x2 k l[k] (List.getElem?_eq_getElem hlt))
      have i0 : (0 : Int) ≤ (k : Int) := by omega
      have i1 : (k : Int) < (l.length : Int) := by omega
      have b2 : (l[k] != l[k]) = false := by simp
      clear x1 x2
      go_wp2_with fail
      go_quiet (fail)
      go_wp2
      go_roundw
      case rel => exact ⟨k + 1, by omega, by go_num, HW.out.drewNB _⟩
      case measure => simp [intOf]; omega
    · have hk0 : k = l.length := by omega
      subst hk0
      go_wp2_with fail
      go_ret
      exact ⟨rfl, HW.out⟩
end Go.Proofs.YtopklnaahdjafaaGreatDoor

/-
  MoneyParts: for every amount and all weights.
-/
namespace Go.Proofs.YtopklnaahdjafaaGreatDoor
open Go.RowKit Go.Shelf Go.Maps Go.WideMaps
set_option linter.unusedVariables false
set_option linter.unusedSimpArgs false

theorem wI_inj' : ∀ {a b : List Nat}, wI a = wI b → b = a
  | [], [], _ => rfl
  | [], _ :: _, h => by simp [wI] at h
  | _ :: _, [], h => by simp [wI] at h
  | x :: a, y :: b, h => by
    simp only [wI, List.map_cons, List.cons.injEq] at h
    have h1 : y = x := by omega
    rw [h1, wI_inj' (a := a) (b := b) h.2]
theorem slice_eq {sp sp' : Option Addr} {n m cap cap' : Nat} (e : Value.slice sp n cap = .slice sp' m cap') : sp = sp' ∧ cap = cap' := by
  simp at e
  exact ⟨e.1, e.2.2⟩

set_option maxRecDepth 100000 in
theorem parts_out0 {x : Int} {c : ByteArray} {sp : Option Addr} {n cap : Nat} {w : World} (FM : FirstM w) (h0 : (110 : Int) < (n : Int)) :
    Calls Tryz.prog 6 #[.agg #[.int .i64 x, .string c], .slice sp n cap] w fun e w' => e = .returned (.bool true) ∧ Only w w' := by
  have FM := Lib.hid FM
  have oa := Own2.new w (.int .i64 x) (.string c) 23
  have ht := (Only.refl w).alloc (.cells #[.int .i64 x, .string c] 23)
  go_enter Tryz.func6, Tryz.ntmps6
  go_wp2_with fail
  go_at_call 7
  refine (FM.out _ ht).mono ?_
  rintro r w1 ⟨rfl, t1⟩
  replace oa := oa.only t1
  replace ht := ht.trans t1
  obtain ⟨ca1, ca2, -, -, za⟩ := oa.all
  clear t1
  go_wp2
  go_ret
  exact ⟨rfl, ht⟩

set_option maxRecDepth 100000 in
theorem parts_out1 {x : Int} {c : ByteArray} {sp : Option Addr} {n cap : Nat} {w : World} (FM : FirstM w) (h0 : (n : Int) ≤ 110) (h1 : (200 : Int) < (c.size : Int)) :
    Calls Tryz.prog 6 #[.agg #[.int .i64 x, .string c], .slice sp n cap] w fun e w' => e = .returned (.bool true) ∧ Only w w' := by
  have FM := Lib.hid FM
  have oa := Own2.new w (.int .i64 x) (.string c) 23
  have ht := (Only.refl w).alloc (.cells #[.int .i64 x, .string c] 23)
  go_enter Tryz.func6, Tryz.ntmps6
  go_wp2_with fail
  go_at_call 7
  refine (FM.out _ ht).mono ?_
  rintro r w1 ⟨rfl, t1⟩
  replace oa := oa.only t1
  replace ht := ht.trans t1
  obtain ⟨ca1, ca2, -, -, za⟩ := oa.all
  clear t1
  go_wp2
  go_ret
  exact ⟨rfl, ht⟩

set_option maxRecDepth 100000 in
set_option maxHeartbeats 1600000 in
theorem parts_walk {x E : Int} {c : ByteArray} {l : List Int} {P : List (Int × ByteArray)} {v : Value} {w : World} (FM : FirstM w) (hv : IntsIn w v l) (hnil : ∀ n c, v = .slice none n c → c = 0) (h0 : l.length ≤ 110) (h1 : (c.size : Int) ≤ 200) (hpl : P.length ≤ 110)
    (AL : ∀ W u, Only w W → IntsIn W u l → AlloIs W x c u fun r n w' => n = E ∧ AmsR w' r P)
    (RA : ∀ W, Only w W → Calls Tryz.prog 38 #[.agg #[.int .i64 x, .string c], v] W fun r w' => ∃ v', r = .returned (.tuple #[v', .int .i64 E]) ∧ AmsR w' v' P ∧ Only W w') :
    Calls Tryz.prog 6 #[.agg #[.int .i64 x, .string c], v] w fun e w' => e = .returned (.bool true) ∧ Only w w' := by
  obtain ⟨n, hn⟩ : ∃ n, n = l.length := ⟨_, rfl⟩
  have HV := Lib.hid hv
  obtain ⟨sp, cap, hve, -⟩ := hv
  rw [← hn] at hve h0
  subst hve
  have i0 : (n : Int) ≤ 110 := by omega
  have ie : ((E : Int) != E) = false := by simp
  have ipl : (P.length : Int) ≤ 110 := by omega
  have FM := Lib.hid FM
  have AL := Lib.hid AL
  have RA := Lib.hid RA
  have HNIL := Lib.hid hnil
  have HN := Lib.hid hn
  have oa := Own2.new w (.int .i64 x) (.string c) 23
  have ht := (Only.refl w).alloc (.cells #[.int .i64 x, .string c] 23)
  clear hnil hn
  go_enter Tryz.func6, Tryz.ntmps6
  go_wp2_with fail
  go_at_call 7
  refine (FM.out _ ht).mono ?_
  rintro r w1 ⟨rfl, t1⟩
  replace oa := oa.only t1
  replace ht := ht.trans t1
  obtain ⟨ca1, ca2, -, -, za⟩ := oa.all
  have tb := (Only.refl w1).alloc (.cells #[] 3)
  have hv2 := HV.out.only (ht.trans tb)
  have hem := empty_ints w1
  have HB1 := Lib.hid (show w1.heap.size ≤ (w1.alloc (.cells #[] 3)).heap.size from tb.size)
  have HL1 := Lib.hid (show l.length ≤ 1000000 by rw [← HN.out]; omega)
  have HV2 := Lib.hid hv2
  have HEM := Lib.hid hem
  have HT := Lib.hid ht
  have HOA := Lib.hid oa
  clear t1 tb hv2 hem ht oa
  go_upto_region 5 with (at_builtin; refine append_intsI rfl (.tmp 27) (.tmp 28) rfl (base := w1.heap.size) rfl rfl HEM.out HV2.out HNIL.out HL1.out HB1.out ?_; intro sp4 cap4 w4 hP4 hB4 hS4)
  have tw4 : Only w1 w4 := Below.trans ((Only.refl w1).alloc (.cells #[] 3)) hB4
  have oa4 := HOA.out.only tw4
  have ht4 := HT.out.trans tw4
  have hi4 := hP4.toIn
  rw [← HN.out] at hi4
  obtain ⟨cb1, cb2, -, -, zb⟩ := oa4.all
  have HT4 := Lib.hid ht4
  have HOA4 := Lib.hid oa4
  have HI4 := Lib.hid hi4
  have HA4 := Lib.hid (AL.out _ _ ht4 hi4)
  rw [← HN.out]
  clear tw4 oa4 ht4 hi4 hP4 hB4 hS4 ca1 ca2 za
  go_wp2_with fail
  go_at_call 8
  refine HA4.out.mono ?_
  rintro r w5 ⟨r5, _, rfl, ⟨rfl, hr5⟩, t5⟩
  have ht5 := HT4.out.trans t5
  have oa5 := HOA4.out.only t5
  obtain ⟨cc1, cc2, -, -, zc⟩ := oa5.all
  have HT5 := Lib.hid ht5
  have HI5 := Lib.hid (HI4.out.only t5)
  have HR5 := Lib.hid hr5
  clear t5 ht5 oa5 hr5 cb1 cb2 zb
  go_wp2_with fail
  go_at_call 22
  refine (amountR_any x c _).mono ?_
  rintro r w6 ⟨rfl, t6⟩
  have HT6 := Lib.hid (HT5.out.trans t6)
  have HI6 := Lib.hid (HI5.out.only t6)
  have HR6 := Lib.hid (HR5.out.only t6)
  clear t6 cc1 cc2 zc
  go_wp2_with fail
  go_at_call 38
  refine (RA.out _ HT6.out).mono ?_
  rintro r w7 ⟨r7, rfl, hr7, t7⟩
  have HT7 := Lib.hid (HT6.out.trans t7)
  have HI7 := Lib.hid (HI6.out.only t7)
  have HR7 := Lib.hid (HR6.out.only t7)
  have HV7 := Lib.hid (HV.out.only (HT6.out.trans t7))
  have HS7 := Lib.hid hr7
  clear t7 hr7
  obtain ⟨sa, ka, rfl, hra⟩ := HR7.out
  obtain ⟨sb, kb, rfl, hrb⟩ := HS7.out
  have ip : ((P.length : Int) != (P.length : Int)) = false := by simp
  have SI := Lib.hid (sameI_any HI7.out HV7.out HL1.out)
  clear hra hrb
  go_wp2_with (first | (go_at_call 9; refine (numM_any _ _).mono ?_; rintro r wn ⟨rfl, rfl⟩) | (go_at_call 39; refine SI.out.mono ?_; rintro r w8 ⟨rfl, t8⟩))
  have HT8 := Lib.hid (HT7.out.trans t8)
  have HR8 := Lib.hid (HR7.out.only t8)
  have HS8 := Lib.hid (HS7.out.only t8)
  clear t8 SI
  go_loopw [11] (fun iv wz => ∃ k : Nat, k ≤ P.length ∧ iv = .int .i64 (k : Int) ∧ Only w8 wz) (fun iv _ => P.length - (intOf iv).toNat)
  case atStart => exact ⟨0, Nat.zero_le _, rfl, Only.refl _⟩
  case round =>
    obtain ⟨k, hk, rfl, hO⟩ := hrel
    by_cases hlt : k < P.length
    · have k1 : (k : Int) < (P.length : Int) := by omega
      obtain ⟨sa', ka', ea, hra⟩ := HR8.out.only hO
      obtain ⟨sb', kb', eb, hrb⟩ := HS8.out.only hO
      obtain ⟨ga, oa, rfl, ha⟩ := hra (by omega)
      obtain ⟨gb, ob, rfl, hb⟩ := hrb (by omega)
      obtain ⟨rfl, rfl⟩ : sa = some ⟨ga, oa, none⟩ ∧ ka = ka' := by simpa using ea
      obtain ⟨rfl, rfl⟩ : sb = some ⟨gb, ob, none⟩ ∧ kb = kb' := by simpa using eb
      obtain ⟨y, hy⟩ : ∃ y, P[k]? = some y := ⟨_, List.getElem?_eq_getElem hlt⟩
      obtain ⟨a1, a2⟩ := ha k y hy
      obtain ⟨b1, b2⟩ := hb k y hy
      obtain ⟨y1, y2⟩ := y
      simp only at a1 a2 b1 b2
      have z1 := cell_coneP a1
      have z2 := cell_coneP a2
      have z3 := cell_coneP b1
      have z4 := cell_coneP b2
      have HO := Lib.hid hO
      clear ea eb hra hrb ha hb hy a1 a2 b1 b2 hO
      go_upto_region 12 with (fail)
      refine wp_region_cone (by kernel_rfl) (by kernel_rfl) ?_
      repeat (any_goals (first | go_big_quiet_step ((go_at_call 27; with_reducible exact Cone.call (same_self _ _ _))) | quiet_step ((go_at_call 27; with_reducible exact Cone.call (same_self _ _ _)))))
      refine wpQuiet_nil ?_
      rintro w9 ⟨⟨_, t9⟩, rfl⟩
      clear z1 z2 z3 z4
      go_wp2_with fail
      go_roundw
      case rel => exact ⟨k + 1, by omega, by go_num, HO.out.trans t9⟩
      case measure => simp [intOf]; omega
    · obtain rfl : k = P.length := by omega
      go_wp2_with fail
      go_ret
      exact ⟨rfl, HT8.out.trans hO⟩

theorem moneyParts_any {x : Int} (c : ByteArray) {v : Value} {l : List Int} {w : World} (hv : IntsIn w v l) (hnil : ∀ n c, v = .slice none n c → c = 0) (hP : Pow w) :
    Calls Tryz.prog 6 #[.agg #[.int .i64 x, .string c], v] w fun e w' => e = .returned (.bool true) ∧ Only w w' := by
  have FM := first_isM hP
  have hv2 := hv
  obtain ⟨sp, cap, rfl, -⟩ := hv2
  by_cases h0 : 110 < l.length
  · exact parts_out0 FM (by omega)
  by_cases h1 : 200 < c.size
  · exact parts_out1 FM (by omega) (by omega)
  by_cases hE : alloE x c l = 0
  · have hc : curE x c = 0 ∧ totE l = 0 := by
      unfold alloE at hE
      split at hE
      · rename_i a; exact ⟨a, hE⟩
      · rename_i a; exact absurd hE a
    have hg : GoodW l ∧ l.length ≤ 100 ∧ l.sum ≠ 0 := by
      have h2 := hc.2
      unfold totE at h2
      split at h2
      · cases h2
      · split at h2
        · cases h2
        · split at h2
          · split at h2
            · cases h2
            · rename_i a b c d; exact ⟨c, by omega, d⟩
          · cases h2
    obtain ⟨hg1, hg2, hg3⟩ := hg
    have hs := goodW_sum hg1
    obtain ⟨ws, e1, e2, e3⟩ := wI_of hg1
    subst e1
    have hb : ∀ (i y : Nat), ws[i]? = some y → y ≤ 2147483648 := fun i y hy => by
      have := hg1 (y : Int) (List.mem_of_getElem? (i := i) (by simp [wI, hy]))
      omega
    have hbd := curE_bd hc.1
    refine parts_walk (E := 0) (P := partsA x c ws) FM hv hnil (by omega) (by omega) (by first | (rw [partsA_len]; omega) | simp) (fun W u t hu => (allocate_any (x := x) (c := c) hu).mono ?_) fun W t => ?_
    · rintro e w' ⟨r, m, he, ⟨hm, hq⟩, ho⟩
      refine ⟨r, m, he, ⟨by rw [hm, hE], ?_⟩, ho⟩
      rcases hq with ⟨k, -⟩ | ⟨-, ws', e1, -, -, -, hA⟩
      · exact absurd hE k
      · rw [← wI_inj' e1]; exact hA
    · obtain ⟨sp', cap', ev, hr⟩ := hv.only t
      obtain ⟨rfl, rfl⟩ := slice_eq ev
      obtain ⟨g, o, rfl, hcell⟩ := hr (by
        rcases Nat.eq_zero_or_pos (wI ws).length with q | q
        · have : ws = [] := List.length_eq_zero_iff.1 (by rw [← wI_len, q])
          subst this
          simp [wI] at hg3
        · exact q)
      have C := check_any x c
      rw [hc.1] at C
      refine rall_walk (t := ws.sum) C (by rw [wI_len]) (by omega) rfl (by omega) hb ⟨by have := hbd.1; omega, by have := hbd.2; omega⟩ fun W' t' i y hy => t'.cellM (hcell i (y : Int) (by simp [wI, hy]))
  · refine parts_walk (E := alloE x c l) (P := []) FM hv hnil (by omega) (by omega) (by first | (rw [partsA_len]; omega) | simp) (fun W u t hu => (allocate_any (x := x) (c := c) hu).mono ?_) fun W t => ?_
    · rintro e w' ⟨r, m, he, ⟨hm, hq⟩, ho⟩
      refine ⟨r, m, he, ⟨hm, ?_⟩, ho⟩
      rcases hq with ⟨-, k⟩ | ⟨k, -⟩
      · rw [k]; exact ⟨none, 0, rfl, fun h => by simp at h⟩
      · exact absurd k hE
    · refine (rall_bad (hv.only t) hE).mono ?_
      rintro r w' ⟨rfl, tt⟩
      exact ⟨_, rfl, ⟨none, 0, rfl, fun h => by simp at h⟩, tt⟩
end Go.Proofs.YtopklnaahdjafaaGreatDoor
