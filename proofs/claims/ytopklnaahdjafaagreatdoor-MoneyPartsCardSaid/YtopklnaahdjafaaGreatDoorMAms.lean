/-
  Lists of amounts; their sum.
-/
import Derived.Test.YtopklnaahdjafaaGreatDoorMOps
import Derived.Test.YtopklnaahdjafaaGreatDoorGTl
namespace Go.Proofs.YtopklnaahdjafaaGreatDoor
open Go.RowKit Go.Shelf
set_option linter.unusedVariables false

/-- v reads as these amounts -/
def AmsR (w : World) (v : Value) (l : List (Int × ByteArray)) : Prop :=
  ∃ sp cap, v = .slice sp l.length cap ∧ (0 < l.length → ∃ g o, sp = some ⟨g, o, none⟩ ∧ ∀ (i : Nat) (x : Int × ByteArray), l[i]? = some x → w.cell? ⟨g, o + i * 2, none⟩ = some (.int .i64 x.1) ∧ w.cell? ⟨g, o + i * 2 + 1, none⟩ = some (.string x.2))

theorem AmsR.only {w w' : World} {v : Value} {l : List (Int × ByteArray)} (h : AmsR w v l) (t : Only w w') : AmsR w' v l := by
  obtain ⟨sp, cap, h1, h2⟩ := h
  refine ⟨sp, cap, h1, fun h0 => ?_⟩
  obtain ⟨g, o, e, h3⟩ := h2 h0
  refine ⟨g, o, e, fun i x hx => ?_⟩
  obtain ⟨c1, c2⟩ := h3 i x hx
  exact ⟨(Below.cell t (World.block_lt_of_cell? w _ c1)).trans c1, (Below.cell t (World.block_lt_of_cell? w _ c2)).trans c2⟩

/-- the error that a list has, at the first amount that has one -/
def listE (c : ByteArray) : List (Int × ByteArray) → Int
  | [] => 0
  | x :: l => if besE 0 c x.1 x.2 = 0 then listE c l else besE 0 c x.1 x.2
/-- the sum of all units -/
def listN : List (Int × ByteArray) → Int
  | [] => 0
  | x :: l => x.1 + listN l

theorem listN_snoc (l : List (Int × ByteArray)) (x : Int × ByteArray) : listN (l ++ [x]) = listN l + x.1 := by
  induction l with
  | nil => simp [listN]
  | cons y l ih => simp only [List.cons_append, listN, ih]; omega
theorem listE_snoc (c : ByteArray) (l : List (Int × ByteArray)) (x : Int × ByteArray) (h : listE c l = 0) : listE c (l ++ [x]) = besE 0 c x.1 x.2 := by
  induction l with
  | nil => simp only [List.nil_append, listE]; split <;> simp_all
  | cons y l ih =>
    simp only [listE] at h
    split at h
    · rename_i h1
      simp only [List.cons_append, listE]
      rw [if_pos h1]; exact ih h
    · contradiction

theorem listN_bound {c : ByteArray} {l : List (Int × ByteArray)} (h : listE c l = 0) : -(4611686018427387904 * (l.length : Int)) ≤ listN l ∧ listN l ≤ 4611686018427387904 * (l.length : Int) := by
  induction l with
  | nil => simp [listN]
  | cons y l ih =>
    simp only [listE] at h
    split at h
    · rename_i h1
      have hb := (besE_bd h1).2
      have := ih h
      simp only [listN, List.length_cons]
      obtain ⟨a, b⟩ := hb
      omega
    · contradiction

theorem listE_cons (c : ByteArray) (y : Int × ByteArray) (p : List (Int × ByteArray)) : listE c (y :: p) = if besE 0 c y.1 y.2 = 0 then listE c p else besE 0 c y.1 y.2 := rfl
theorem listE_append {c : ByteArray} {p : List (Int × ByteArray)} (r : List (Int × ByteArray)) (h : listE c p = 0) : listE c (p ++ r) = listE c r := by
  induction p with
  | nil => rfl
  | cons y p ih =>
    rw [listE_cons] at h
    split at h
    · rename_i h1
      rw [List.cons_append, listE_cons, if_pos h1]
      exact ih h
    · contradiction
theorem listE_at {c : ByteArray} {l : List (Int × ByteArray)} {k : Nat} {x : Int × ByteArray} (hk : l[k]? = some x) (h : listE c (l.take k) = 0) (hx : besE 0 c x.1 x.2 ≠ 0) : listE c l = besE 0 c x.1 x.2 := by
  obtain ⟨hlt, rfl⟩ := List.getElem?_eq_some_iff.1 hk
  have e := listE_append (l[k] :: l.drop (k + 1)) h
  rw [listE_cons, if_neg hx] at e
  rw [← e]
  congr 1
  simp

abbrev SumIs (w : World) (c : ByteArray) (v : Value) (n : Int) (d : ByteArray) (e : Int) : Prop := Calls Tryz.prog 10 #[.string c, v] w fun r w' => r = .returned (.tuple #[.agg #[.int .i64 n, .string d], .int .i64 e]) ∧ Only w w'

theorem sum_18 {c : ByteArray} {v : Value} (F : FindIs c ⟨#[]⟩ 0 18) (w : World) : SumIs w c v 0 ⟨#[]⟩ 18 := by
  have F := Lib.hid F
  have ht := (Only.refl w).alloc (.cells #[.int .i64 0, .string ⟨#[]⟩] 23)
  have o3 := Own2.new w (.int .i64 0) (.string ⟨#[]⟩) 23
  go_enter Tryz.func10, Tryz.ntmps10
  go_wp2_with fail
  go_at_call 43
  refine (F.out _).mono ?_
  rintro r w1 ⟨rfl, t1⟩
  have o3 := (o3.only t1).alloc (.cells #[.string ⟨#[]⟩, .int .i64 0] 45)
  have ht := (ht.trans t1).alloc (.cells #[.string ⟨#[]⟩, .int .i64 0] 45)
  obtain ⟨d1, d2, f1, f2, z1⟩ := o3.all
  clear t1 o3
  go_wp2
  simp [bodyPost, results, Tryz.results10, go_sem, World.cell?_setCell_other, d1, d2]
  exact (ht.set (by omega) 0 _).set (by omega) 1 _

set_option maxRecDepth 100000 in
set_option maxHeartbeats 3200000 in
theorem sum_walk {c : ByteArray} {k₀ : Int} {v : Value} {l : List (Int × ByteArray)} {w : World} (hl : AmsR w v l) (hlen : l.length ≤ 1000000) (hI : ∀ x ∈ l, I64 x.1) (F : FindIs c c k₀ 0) (hc : (curOf c).isSome = true) :
    SumIs w c v (if listE c l = 0 then okI (amE (listN l)) (listN l) else 0) (if listE c l = 0 then okS (amE (listN l)) c else ⟨#[]⟩) (if listE c l = 0 then amE (listN l) else listE c l) := by
  obtain ⟨N, hN⟩ : ∃ N, N = (if listE c l = 0 then okI (amE (listN l)) (listN l) else 0) := ⟨_, rfl⟩
  obtain ⟨S, hS⟩ : ∃ S, S = (if listE c l = 0 then okS (amE (listN l)) c else ⟨#[]⟩) := ⟨_, rfl⟩
  obtain ⟨E, hE⟩ : ∃ E, E = (if listE c l = 0 then amE (listN l) else listE c l) := ⟨_, rfl⟩
  rw [← hN, ← hS, ← hE]
  have HN := Lib.hid hN
  have HS := Lib.hid hS
  have HE := Lib.hid hE
  have HL := Lib.hid hl
  have HI := Lib.hid hI
  have F := Lib.hid F
  clear hN hS hE hI hl
  obtain ⟨sp, cap, hv, -⟩ := HL.out
  have il : (l.length : Int) ≤ 1000000 := by omega
  have ht := (Only.refl w).alloc (.cells #[.int .i64 0, .string ⟨#[]⟩] 23)
  have o3 := Own2.new w (.int .i64 0) (.string ⟨#[]⟩) 23
  subst hv
  have hent : ∀ args w, (callFunc 44 args).run Tryz.prog w = .ok (.enter 44 args) w := fun _ _ => by kernel_rfl
  go_enter Tryz.func10, Tryz.ntmps10
  go_wp2_with fail
  go_at_call 43
  refine (F.out _).mono ?_
  rintro r w1 ⟨rfl, t1⟩
  have oA := ((o3.only t1).alloc (.cells #[.string c, .int .i64 k₀] 45)).alloc (.cells #[.int .u64 0, .int .u64 0] 85)
  have hT := ((ht.trans t1).alloc (.cells #[.string c, .int .i64 k₀] 45)).alloc (.cells #[.int .u64 0, .int .u64 0] 85)
  have oC := (Own2.new w1 (.string c) (.int .i64 k₀) 45).alloc (.cells #[.int .u64 0, .int .u64 0] 85)
  have oT := Own2.new1 w1 (.cells #[.string c, .int .i64 k₀] 45) (.int .u64 0) (.int .u64 0) 85
  have hz := hT.size
  have HW := Lib.hid (ht.trans t1).size
  clear t1 ht o3
  go_wp2_with fail
  go_loopw [29] (fun i wr => ∃ k : Nat, k ≤ l.length ∧ i = .int .i64 k ∧ listE c (l.take k) = 0 ∧ Only w wr ∧ Own2 wr w.heap.size (.int .i64 0) (.string ⟨#[]⟩) ∧ Own2 wr w1.heap.size (.string c) (.int .i64 k₀) ∧ (∃ h lo : Int, enc (listN (l.take k)) = .agg #[.int .u64 h, .int .u64 lo] ∧ Own2 wr (w1.heap.size + 1) (.int .u64 h) (.int .u64 lo))) (fun i _ => l.length - (intOf i).toNat)
  case atStart => exact ⟨0, Nat.zero_le _, rfl, rfl, hT, oA, oC, 0, 0, rfl, oT⟩
  case round =>
    clear hT oA oC oT
    obtain ⟨j, hj, rfl, he, hT, oA, oC, h, lo, hen, oT⟩ := hrel
    have HEJ := Lib.hid he
    have HEN := Lib.hid hen
    clear he hen
    by_cases hlt : j < l.length
    · have il2 : (j : Int) < (l.length : Int) := by omega
      obtain ⟨sp', cap', hv, hr⟩ := HL.out.only hT
      obtain ⟨g, o, rfl, hcells⟩ := hr (by omega)
      obtain ⟨rfl, rfl⟩ : sp = some ⟨g, o, none⟩ ∧ cap = cap' := by simpa using hv
      obtain ⟨x, hx⟩ : ∃ x, l[j]? = some x := ⟨_, List.getElem?_eq_getElem hlt⟩
      obtain ⟨c1, c2⟩ := hcells j x hx
      have hxi : I64 x.1 := HI.out x (List.mem_of_getElem? hx)
      have B := beside_any 0 c x.1 x.2
      obtain ⟨x1, x2⟩ := x
      simp only at c1 c2 B hxi
      obtain ⟨e, he⟩ : ∃ e, e = besE 0 c x1 x2 := ⟨_, rfl⟩
      rw [← he] at B
      have B := Lib.hid B
      have HX := Lib.hid hx
      have HEE := Lib.hid he
      clear hcells hv hx he hr
      by_cases h0 : e = 0
      · subst h0
        have F2 := Lib.hid (from_any hxi)
        obtain ⟨h', lo', -, -, -, -, -, en2⟩ := enc_words x1
        have hsum : listN (l.take (j + 1)) = listN (l.take j) + x1 := by
          rw [List.take_add_one, HX.out]; exact listN_snoc _ _
        have hnext : listE c (l.take (j + 1)) = 0 := by
          rw [List.take_add_one, HX.out]; exact (listE_snoc c _ _ HEJ.out).trans HEE.out.symm
        have bd := listN_bound HEJ.out
        have bd2 := listN_bound hnext
        have lt1 : (l.take j).length ≤ 1000000 := by rw [List.length_take]; omega
        have lt2 : (l.take (j + 1)).length ≤ 1000000 := by rw [List.length_take]; omega
        have i1 : In (listN (l.take j)) := ⟨by omega, by omega⟩
        have i2 : In (listN (l.take (j + 1))) := ⟨by omega, by omega⟩
        have A := add_any i1 hxi.in_
        rw [← hsum, ans_in i2, HEN.out, en2] at A
        obtain ⟨h2, lo2, -, -, -, -, -, en3⟩ := enc_words (listN (l.take (j + 1)))
        rw [en3] at A
        have A := Lib.hid A
        have EN3 := Lib.hid en3
        have HNX := Lib.hid hnext
        have F3 : FromIs x1 (.agg #[.int .u64 h', .int .u64 lo']) := by rw [← en2]; exact F2.out
        clear hsum hnext bd bd2 i1 i2 lt1 lt2 en2 en3 F2
        go_wp2_with fail
        refine (B.out _).mono ?_
        rintro r w2 ⟨rfl, t2⟩
        have oX := ((Own2.new wr (.int .i64 x1) (.string x2) 23).only t2).alloc (.cells #[.string (okS 0 c), .int .i64 (okI 0 (fK c))] 45)
        have oA2 := ((oA.alloc (.cells #[.int .i64 x1, .string x2] 23)).only t2).alloc (.cells #[.string (okS 0 c), .int .i64 (okI 0 (fK c))] 45)
        have oC2 := ((oC.alloc (.cells #[.int .i64 x1, .string x2] 23)).only t2).alloc (.cells #[.string (okS 0 c), .int .i64 (okI 0 (fK c))] 45)
        have oT2 := ((oT.alloc (.cells #[.int .i64 x1, .string x2] 23)).only t2).alloc (.cells #[.string (okS 0 c), .int .i64 (okI 0 (fK c))] 45)
        have hT2 := ((hT.alloc (.cells #[.int .i64 x1, .string x2] 23)).trans t2).alloc (.cells #[.string (okS 0 c), .int .i64 (okI 0 (fK c))] 45)
        clear t2 oA oC oT hT c1 c2
        go_wp2_with fail
        refine wp_name (fun W => Only w W ∧ Own2 W w.heap.size (.int .i64 0) (.string ⟨#[]⟩) ∧ Own2 W w1.heap.size (.string c) (.int .i64 k₀) ∧ Own2 W (w1.heap.size + 1) (.int .u64 h) (.int .u64 lo) ∧ Own2 W wr.heap.size (.int .i64 x1) (.string x2)) ⟨hT2, oA2, oC2, oT2, oX⟩ ?_
        clear hT2 oA2 oC2 oT2 oX
        rintro W ⟨hT, oA, oC, oT, oX⟩
        obtain ⟨k1, k2⟩ := oT.cone
        obtain ⟨k3, k4⟩ := oX.cone
        refine wp_region_cone_rest2 5 (by kernel_rfl) (by kernel_rfl) (by kernel_rfl) (by kernel_rfl) (by kernel_rfl) (by kernel_rfl) ?_
        simp only [List.take_succ_cons, List.take_zero]
        repeat (any_goals (first | go_big_quiet_step ((first | (go_at_call 46; with_reducible exact Cone.call (F3 _)) | (go_at_call 45; with_reducible exact Cone.call (A.out _)))) | quiet_step ((first | (go_at_call 46; with_reducible exact Cone.call (F3 _)) | (go_at_call 45; with_reducible exact Cone.call (A.out _))))))
        refine wpQuiet_nil ?_
        rintro w6 ⟨⟨_, t6⟩, rfl⟩
        have hT6 := hT.trans t6
        have oA6 := oA.only t6
        have oC6 := oC.only t6
        have oT6 := oT.only t6
        obtain ⟨d1, d2, f1, f2, z1⟩ := oT6.all
        clear k1 k2 k3 k4 oA oC oT oX hT t6
        have hw1 : w.heap.size ≤ w1.heap.size := HW.out
        have hT7 := Lib.hid ((hT6.set (p := w1.heap.size + 1) (by omega) 0 (.int .u64 h2)).set (p := w1.heap.size + 1) (by omega) 1 (.int .u64 lo2))
        have oA7 := Lib.hid ((oA6.far (p := w1.heap.size + 1) (by omega) 0 (.int .u64 h2)).far (p := w1.heap.size + 1) (by omega) 1 (.int .u64 lo2))
        have oC7 := Lib.hid ((oC6.far (p := w1.heap.size + 1) (by omega) 0 (.int .u64 h2)).far (p := w1.heap.size + 1) (by omega) 1 (.int .u64 lo2))
        have oT7 := Lib.hid (oT6.set (.int .u64 h2) (.int .u64 lo2))
        clear hT6 oA6 oC6 oT6
        refine wpAny_take (i := 5) (v := ?_) rfl (by kernel_rfl) (by kernel_rfl) (by kernel_rfl) (fun _ _ _ h => h) (Or.inl ⟨by rfl, ?_⟩) ?_
        rotate_left
        · intro w; go_simp; rfl
        refine wpAny_take (i := 6) (v := ?_) rfl (by kernel_rfl) (by kernel_rfl) (by kernel_rfl) (fun _ _ _ h => h) (Or.inl ⟨by rfl, ?_⟩) ?_
        rotate_left
        · intro w; go_simp; rfl
        refine wpAny_take (i := 7) (v := ?_) rfl (by kernel_rfl) (by kernel_rfl) (by kernel_rfl) (fun _ _ _ h => h) (Or.inl ⟨by rfl, ?_⟩) ?_
        rotate_left
        · intro w; go_simp; rfl
        refine wpAny_ready (rs := [8]) (by kernel_rfl) (by simp) ?_
        refine AllReady.cons rfl (fun K hK => ?_) AllReady.nil
        go_simp
        refine hK _ _ ?_
        clear hK K
        refine wpAny_done (by kernel_rfl) ?_ _
        clear d1 d2 f1 f2
        go_wp2
        go_roundw
        case rel => exact ⟨j + 1, by omega, by go_num, HNX.out, hT7.out, oA7.out, oC7.out, h2, lo2, EN3.out, oT7.out⟩
        case measure => simp [intOf]; omega
      · have e1 := (ne_eqs h0).1
        have e2 := (ne_eqs h0).2
        have hE1 : listE c l = e := by rw [HEE.out]; exact listE_at HX.out HEJ.out (by rw [← HEE.out]; exact h0)
        have vN : N = 0 := by rw [HN.out, hE1, if_neg h0]
        have vS : S = ⟨#[]⟩ := by rw [HS.out, hE1, if_neg h0]
        have vE : E = e := by rw [HE.out, hE1, if_neg h0]
        have VN := Lib.hid vN
        have VS := Lib.hid vS
        have VE := Lib.hid vE
        clear hE1 vN vS vE h0
        go_wp2_with fail
        refine (B.out _).mono ?_
        rintro r w2 ⟨rfl, t2⟩
        have oA2 := ((oA.alloc (.cells #[.int .i64 x1, .string x2] 23)).only t2).alloc (.cells #[.string (okS e c), .int .i64 (okI e (fK c))] 45)
        have hT2 := ((hT.alloc (.cells #[.int .i64 x1, .string x2] 23)).trans t2).alloc (.cells #[.string (okS e c), .int .i64 (okI e (fK c))] 45)
        obtain ⟨d1, d2, f1, f2, z1⟩ := oA2.all
        clear t2 oA oC oT hT c1 c2 oA2
        go_wp2
        rw [VN.out, VS.out, VE.out]
        simp [bodyPost, results, Tryz.results10, go_sem, World.cell?_setCell_other, d1, d2]
        exact (hT2.set (p := w.heap.size) (by omega) 0 _).set (p := w.heap.size) (by omega) 1 _
    · have hjl : j = l.length := by omega
      subst hjl
      have he := HEJ.out
      have hn := HEN.out
      rw [List.take_of_length_le (Nat.le_refl _)] at he hn
      have bd := listN_bound he
      have A := amount_any c k₀ (n := listN l) ⟨by omega, by omega⟩
      rw [hn] at A
      have vN : N = okI (amE (listN l)) (listN l) := by rw [HN.out, if_pos he]
      have vS : S = okS (amE (listN l)) c := by rw [HS.out, if_pos he]
      have vE : E = amE (listN l) := by rw [HE.out, if_pos he]
      rw [← vN, ← vS, ← vE] at A
      have A := Lib.hid A
      obtain ⟨c1, c2, -, -, z1⟩ := oC.all
      obtain ⟨t1, t2, -, -, z2⟩ := oT.all
      clear he hn bd vN vS vE
      go_wp2_with fail
      go_at_call 47
      refine (A.out _).mono ?_
      rintro r w4 ⟨rfl, t4⟩
      have hT4 := hT.trans t4
      clear c1 c2 z1 t1 t2 z2
      obtain ⟨d1, d2, f1, f2, z1⟩ := (oA.only t4).all
      clear oA oC oT t4 hT
      go_wp2
      simp [bodyPost, results, Tryz.results10, go_sem, World.cell?_setCell_other, d1, d2]
      exact (hT4.set (p := w.heap.size) (by omega) 0 _).set (p := w.heap.size) (by omega) 1 _

def sumLE (c : ByteArray) (l : List (Int × ByteArray)) : Int := if (curOf c).isSome then if listE c l = 0 then amE (listN l) else listE c l else 18

theorem sum_any {c : ByteArray} {v : Value} {l : List (Int × ByteArray)} {w : World} (hl : AmsR w v l) (hlen : l.length ≤ 1000000) (hI : ∀ x ∈ l, I64 x.1) :
    SumIs w c v (okI (sumLE c l) (listN l)) (okS (sumLE c l) c) (sumLE c l) := by
  have F := find_any c
  unfold fE at F
  unfold sumLE
  by_cases h : (curOf c).isSome = true
  · rw [if_pos h]
    rw [if_pos h, okS_0] at F
    have S := sum_walk hl hlen hI F h
    by_cases h2 : listE c l = 0
    · simpa only [if_pos h2] using S
    · rw [if_neg h2, okI_ne h2, okS_ne h2]
      simpa only [if_neg h2] using S
  · rw [if_neg h, okI_ne (by decide), okS_ne (by decide)]
    rw [if_neg h, okS_ne (by decide), show fK c = 0 by
      unfold fK
      cases hc : curOf c with
      | none => rfl
      | some k => simp [hc] at h] at F
    exact sum_18 F w
end Go.Proofs.YtopklnaahdjafaaGreatDoor
