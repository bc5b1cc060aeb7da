/-
  A text's bytes written behind a key; a part read.
-/
import Derived.Test.YtipcdbdlopmdoaaDoorKPut
import Derived.Test.YtipcdbdlopmdoaaDoorNRest3
import Derived.Deep.RegionWith
import Derived.RegionTactic
namespace Go.Proofs.YtipcdbdlopmdoaaDoor
open Go.RowKit Go.Maps Go.WideMaps Go.Shelf
set_option linter.unusedVariables false
set_option linter.unusedSimpArgs false

set_option maxRecDepth 100000 in
set_option maxHeartbeats 1600000 in
theorem putText_any {p : KP} (hs : p.s.length ≤ 1000000) {w : World} (hm : MaxAt w) {base : Nat} {v : Value} {l : List UInt8} (hb : BytesO w base v l) (hbase : base ≤ w.heap.size) (hl : l.length ≤ 1000000) :
    Calls Tryd.prog 32 #[v, pv p] w fun e w' => ∃ v', e = .returned v' ∧ BytesO w' base v' (l ++ (esc p.s ++ [0, 1])) ∧ Grew w v w' v' := by
  unfold pv
  have t1 : Only w (w.alloc (.cells #[.int .i64 p.kind, .int .i64 p.n, .string (ktxt p.s)] 40)) := (Only.refl w).alloc _
  have ES := escape_any (s := ktxt p.s) (by rw [ktxt_size]; omega) (hm.only t1)
  have hE : (esc p.s).length ≤ 2000000 := by have := esc_length p.s; have : p.s.count 0 ≤ p.s.length := List.count_le_length; omega
  obtain ⟨E, hEE⟩ : ∃ E, E = esc p.s := ⟨_, rfl⟩
  rw [show (ktxt p.s).data.toList = p.s from rfl, ← hEE] at ES
  rw [← hEE] at hE
  rw [← hEE]
  have HB := Lib.hid (hb.only t1)
  have ES := Lib.hid ES
  have HT := Lib.hid t1
  have HL := Lib.hid hl
  have hz : (ktxt E ++ (⟨#[0, 1]⟩ : ByteArray)).size = E.length + 2 := by rw [ByteArray.size_append]; rfl
  have hd : (ktxt E ++ (⟨#[0, 1]⟩ : ByteArray)).data.toList = E ++ [0, 1] := by simp
  have HZ := Lib.hid hz
  have HD := Lib.hid hd
  have hE9 : E.length + 2 ≤ 9223372036854775807 := by omega
  have HE := Lib.hid hE
  have hE8 : decide (9223372036854775807 < E.length + 2) = false := by simpa using hE9
  clear hb hm t1 hs hl hEE hz hd hE
  go_enter Tryd.func32, Tryd.ntmps32
  go_wp2_with (first | (go_at_call 38; refine ES.out.mono ?_; rintro r w1 ⟨rfl, t2⟩; have HB2 := Lib.hid (HB.out.only t2); have HT2 := Lib.hid (HT.out.trans t2); clear t2) | (at_builtin; refine append_textG rfl (.tmp 5) (.tmp 9) rfl (base := base) (ktxt E ++ ⟨#[0, 1]⟩) rfl rfl HB2.out (by rw [HZ.out]; have := HL.out; have := HE.out; omega) (by have := HT2.out.size; omega) ?_; intro v3 w3 hb3 ht3))
  rw [HD.out] at hb3
  go_ret
  exact ⟨_, rfl, hb3, ((Grew.refl w v).only HT2.out).trans ht3⟩

/-- what a kind's take answers -/
def tkV : Option (KP × List UInt8) → Value
  | none => .tuple #[pv ⟨0, 0, []⟩, .string ⟨#[]⟩, .bool false]
  | some (p, r) => .tuple #[pv p, .string (ktxt r), .bool true]

theorem num_snoc : ∀ (l : List UInt8) (a : Nat) (b : UInt8), num a (l ++ [b]) = num a l * 256 + b.toNat
  | [], a, b => rfl
  | c :: l, a, b => by simp only [List.cons_append, num, num_snoc l]

theorem or_byte {n c : Nat} (hn : n < 72057594037927936) (hc : c < 256) : bits .or .u64 (IntKind.u64.wrap ((n : Int) * 256)) (IntKind.u64.wrap (c : Int)) = ((n * 256 + c : Nat) : Int) := by
  rw [IntKind.wrap_u64, IntKind.wrap_u64, show ((n : Int) * 256 % 18446744073709551616) = ((2 ^ 8 * n : Nat) : Int) by omega, show ((c : Int) % 18446744073709551616) = ((c : Nat) : Int) by omega,
    bits_or_u64_nat _ _ (by omega) (by omega), ← Nat.two_pow_add_eq_or_of_lt (i := 8) (by omega)]
  congr 1; omega

theorem data_get {D : ByteArray} {k : Nat} (h : k < D.size) : D.data.toList.take (k + 1) = D.data.toList.take k ++ [D[k]] := by
  rw [List.take_add_one, List.getElem?_eq_getElem (by simpa using h)]
  simp
  rfl

set_option maxRecDepth 100000 in
set_option maxHeartbeats 1600000 in
theorem takeInt_any {D : ByteArray} (hd : D.size ≤ 1000000) (w : World) : Calls Tryd.prog 29 #[.string D] w fun e w' =>
    e = .returned (tkV (if D.data.toList.length < 8 then none else some (⟨1, (num 0 (D.data.toList.take 8) : Int) - 9223372036854775808, []⟩, D.data.toList.drop 8))) ∧ Only w w' := by
  have hds : D.data.toList.length = D.size := by simp
  rw [hds]
  by_cases h8 : D.size < 8
  · rw [if_pos h8]
    have i1 : decide ((D.size : Int) < 8) = true := by simp; omega
    clear hds
    go_enter Tryd.func29, Tryd.ntmps29
    go_wp2_with fail
    simp [bodyPost, results, Tryd.results29, go_sem]
    exact ⟨rfl, (Only.refl w).alloc _⟩
  · rw [if_neg h8]
    have i1 : decide ((D.size : Int) < 8) = false := by simp; omega
    obtain ⟨N8, hN8⟩ : ∃ N8, N8 = num 0 (D.data.toList.take 8) := ⟨_, rfl⟩
    rw [← hN8]
    have HN8 := Lib.hid hN8
    have hdr : ktxt (D.data.toList.drop 8) = D.extract 8 D.size := by rw [← Lib.extract_to_end]
    have HDR := Lib.hid hdr
    clear hds hN8 hdr
    go_enter Tryd.func29, Tryd.ntmps29
    go_wp2_with fail
    go_loopw [5, 6, 11] (fun v1 _ i wr => ∃ (k n : Nat), k ≤ 8 ∧ i = .int .i64 k ∧ v1 = .int .u64 n ∧ n = num 0 (D.data.toList.take k) ∧ Own3 wr w.heap.size (.int .i64 0) (.int .i64 0) (.string ⟨#[]⟩) ∧ Only w wr) (fun _ _ i _ => 8 - (intOf i).toNat)
    case atStart => exact ⟨0, 0, by omega, rfl, rfl, by simp [num], Own3.new _ _ _ _ _, (Only.refl w).alloc _⟩
    case round =>
      obtain ⟨k, n, hk, rfl, rfl, hn, ho, ht⟩ := hrel
      by_cases hlt : k < 8
      · have j1 : (k : Int) < 8 := by omega
        have j2 : (k : Int) < (D.size : Int) := by omega
        have j3 : k < D.size := by omega
        have hb : n < 72057594037927936 := by
          obtain ⟨-, h2⟩ := num_split (D.data.toList.take k) 0
          have hl : (D.data.toList.take k).length = k := by simp; omega
          rw [hl, ← hn] at h2
          have : (256 : Nat) ^ k ≤ 256 ^ 7 := Nat.pow_le_pow_right (by omega) (by omega)
          omega
        have hs : n * 256 + (D[k]).toNat = num 0 (D.data.toList.take (k + 1)) := by rw [data_get j3, num_snoc, hn]
        obtain ⟨c, hc⟩ : ∃ c : Nat, c = (D[k]).toNat := ⟨_, rfl⟩
        have hc1 : c < 256 := by rw [hc]; exact (D[k]).toNat_lt
        have OB := or_byte hb hc1
        have hc2 : ((D[k]).toNat : Int) = (c : Int) := by rw [hc]
        rw [← hc] at hs
        have HS := Lib.hid hs
        have HO := Lib.hid ho
        have HT := Lib.hid ht
        clear hn ho ht hk hb hs hc hc1
        go_wp2_with fail
        refine ⟨⟨k + 1, n * 256 + c, by omega, by push_cast; rfl, by push_cast; rfl, HS.out, HO.out, HT.out⟩, ?_⟩
        simp [intOf]; omega
      · have hk8 : k = 8 := by omega
        subst hk8
        have hb : n < 18446744073709551616 := by
          obtain ⟨-, h2⟩ := num_split (D.data.toList.take 8) 0
          have hl : (D.data.toList.take 8).length = 8 := by simp; omega
          rw [hl, ← hn] at h2
          omega
        rw [← HN8.out] at hn
        subst hn
        have X : wrap64 (bits .xor .u64 (n : Int) 9223372036854775808) = (n : Int) - 9223372036854775808 := by
          have := bits_xor_u64_nat n 9223372036854775808 hb (by omega)
          rw [show ((9223372036854775808 : Nat) : Int) = 9223372036854775808 from rfl] at this
          rw [this, xor_flip n hb]
          unfold wrap64
          split <;> omega
        have IA := fun W => int_any ((n : Int) - 9223372036854775808) W
        obtain ⟨z, hz⟩ : ∃ z, z = (n : Int) - 9223372036854775808 := ⟨_, rfl⟩
        rw [← hz] at X IA
        have HZ := Lib.hid hz
        unfold pv at IA
        have X2 : IntKind.i64.wrap (bits .xor .u64 (n : Int) 9223372036854775808) = z := (IntWalk.i64_left _).trans X
        have IA2 : ∀ W, Calls Tryd.prog 19 #[.int .i64 (IntKind.i64.wrap (bits .xor .u64 (n : Int) 9223372036854775808))] W fun e w' => e = .returned (.agg #[.int .i64 1, .int .i64 z, .string (ktxt [])]) ∧ Only W w' := fun W => by rw [X2]; exact IA W
        clear X2
        have j1 : (8 : Int) ≤ (D.size : Int) := by omega
        have HO := Lib.hid ho
        have HT := Lib.hid ht
        clear ho ht hk hb hz hlt
        go_wp2_with fail
        go_region_with (go_at_call 19; refine (IA2 _).mono ?_; rintro r w6 ⟨rfl, t6⟩; obtain ⟨c0, c1, c2, f0, f1, f2, z1⟩ := (HO.out.drew.only t6).all6; have T2 := Lib.hid (HT.out.drew.trans t6); clear t6)
        go_wp2_with fail
        simp [bodyPost, results, Tryd.results29, go_sem, World.cell?_setCell_other, c0, c1, c2]
        refine ⟨?_, T2.out.set3 (Nat.le_refl _) _ _ _⟩
        rw [← HZ.out]
        rw [← HDR.out]
        rfl

theorem unesc_short : ∀ (n : Nat) (s : List UInt8), s.length ≤ n → (unesc s).length ≤ s.length
  | n, [], _ => by rw [unesc]; exact Nat.le_refl _
  | n, [a], _ => by rw [unesc]; exact Nat.le_refl _
  | 0, _ :: _ :: _, h => by simp at h
  | n + 1, a :: b :: r, h => by
    rw [unesc]
    split
    · have := unesc_short n r (by simp at h; omega)
      simp only [List.length_cons]; omega
    · have := unesc_short n (b :: r) (by simp at h ⊢; omega)
      simp only [List.length_cons] at this ⊢; omega

/-- cut, counted: what takeText goes by -/
theorem cut_is (s : List UInt8) : (Lib.index s [0, 1] = -1 → (Lib.cut s [0, 1]).2.2 = false) ∧ (Lib.index s [0, 1] ≠ -1 → Lib.cut s [0, 1] = (s.take (Lib.index s [0, 1]).toNat, s.drop ((Lib.index s [0, 1]).toNat + 2), true)) := by
  have hge := Lib.index_ge s [0, 1]
  unfold Lib.cut
  refine ⟨fun h => ?_, fun h => ?_⟩
  · rw [if_neg (by omega)]
  · rw [if_pos (by omega)]; rfl

set_option maxRecDepth 100000 in
set_option maxHeartbeats 1600000 in
theorem takeText_any {D : ByteArray} (hd : D.size ≤ 1000000) {w : World} (hm : MaxAt w) : Calls Tryd.prog 33 #[.string D] w fun e w' =>
    e = .returned (tkV ((scan D.data.toList).map fun x => (⟨2, 0, x.1⟩, x.2))) ∧ Only w w' := by
  rw [← tk_scan _ _ (Nat.le_refl _)]
  have t1 : Only w (w.alloc (.cells #[.int .i64 0, .int .i64 0, .string ⟨#[]⟩] 40)) := (Only.refl w).alloc _
  have CU := (cut_any (s := D) (by omega) (hm.only t1)).mono fun e w' (h : _ ∧ _) => (⟨h.1, by obtain ⟨q, rfl⟩ := h.2; exact (Only.refl _).drewN q⟩ : _ ∧ Only _ w')
  obtain ⟨K1, K2⟩ := cut_is D.data.toList
  have o := Own3.new w (.int .i64 0) (.int .i64 0) (.string ⟨#[]⟩) 40
  by_cases hi : Lib.index D.data.toList [0, 1] = -1
  · have hc := K1 hi
    have e0 : tk D.data.toList = none := by unfold tk; rw [if_pos hi]
    rw [e0]
    generalize (Lib.cut D.data.toList [0, 1]).1 = f at CU
    generalize (Lib.cut D.data.toList [0, 1]).2.1 = b at CU
    rw [hc] at CU
    have CU := Lib.hid CU
    have O := Lib.hid o
    have T := Lib.hid t1
    clear K1 K2 hi hc e0 o t1 hm
    go_enter Tryd.func33, Tryd.ntmps33
    go_wp2_with (go_at_call 39; refine CU.out.mono ?_; rintro r w1 ⟨rfl, t2⟩; obtain ⟨c0, c1, c2, f0, f1, f2, z1⟩ := (O.out.only t2).all6; have T2 := Lib.hid (T.out.trans t2); clear t2)
    simp [bodyPost, results, Tryd.results33, go_sem, World.cell?_setCell_other, c0, c1, c2]
    exact ⟨rfl, T2.out.set3 (Nat.le_refl _) _ _ _⟩
  · have hc := K2 hi
    have hfl : (D.data.toList.take (Lib.index D.data.toList [0, 1]).toNat).length ≤ D.size := by simp; omega
    have e0 : tk D.data.toList = if good (D.data.toList.take (Lib.index D.data.toList [0, 1]).toNat) = true then some (unesc (D.data.toList.take (Lib.index D.data.toList [0, 1]).toNat), D.data.toList.drop ((Lib.index D.data.toList [0, 1]).toNat + 2)) else none := by unfold tk; rw [if_neg hi]
    rw [e0]
    rw [hc] at CU
    generalize D.data.toList.take (Lib.index D.data.toList [0, 1]).toNat = f at CU hfl
    generalize D.data.toList.drop ((Lib.index D.data.toList [0, 1]).toNat + 2) = b at CU
    have C0 := fun W => count0_any (ktxt f) W
    have C2 := fun (W : World) (h : MaxAt W) => count2_any (s := ktxt f) (by rw [ktxt_size]; omega) h
    have UE := fun (W : World) (h : MaxAt W) => unescape_any (s := ktxt f) (by rw [ktxt_size]; omega) h
    have TX := fun (W : World) => text_any (ktxt (unesc f)) (by
      have h1 : (unesc f).length ≤ f.length := unesc_short _ f (Nat.le_refl _)
      rw [ktxt_size]; omega) W
    obtain ⟨G1, G2⟩ := good_count _ f (Nat.le_refl _)
    rw [show (ktxt f).data.toList = f from rfl] at C0 C2 UE
    rw [show (ktxt (unesc f)).data.toList = unesc f from rfl] at TX
    unfold pv at TX
    obtain ⟨n0, h0⟩ : ∃ n0, n0 = f.count 0 := ⟨_, rfl⟩
    obtain ⟨n2, h2⟩ : ∃ n2, n2 = Lib.count f [0, 255] := ⟨_, rfl⟩
    rw [← h0] at C0 G2
    rw [← h2] at C2 G2
    have CU := Lib.hid CU
    have O := Lib.hid o
    have T := Lib.hid t1
    have C0 := Lib.hid C0
    have C2 := Lib.hid C2
    have UE := Lib.hid UE
    have TX := Lib.hid TX
    have M := Lib.hid (hm.only t1)
    clear K1 K2 hi hc e0 o t1 hm h0 h2 G1 hfl
    by_cases hg : good f = true
    · rw [if_pos hg]
      have hn : n0 = n2 := G2.2 hg
      subst hn
      clear G2 hg
      go_enter Tryd.func33, Tryd.ntmps33
      go_wp2_with (first | (go_at_call 39; refine CU.out.mono ?_; rintro r w1 ⟨rfl, t2⟩; have O1 := Lib.hid (O.out.only t2); have T2 := Lib.hid (T.out.trans t2); have M2 := Lib.hid (M.out.only t2); clear t2) | (go_at_call 37; with_reducible refine (C2.out _ M2.out).mono ?_; rintro r w2 ⟨rfl, rfl⟩) | (go_at_call 37; with_reducible refine (C0.out _).mono ?_; rintro r w2 ⟨rfl, rfl⟩) | (go_at_call 38; refine (UE.out _ M2.out).mono ?_; rintro r w3 ⟨rfl, t3⟩) | (go_at_call 20; refine (TX.out _).mono ?_; rintro r w4 ⟨rfl, t4⟩; obtain ⟨c0, c1, c2, f0, f1, f2, z1⟩ := ((O1.out.only t3).only t4).all6; have T4 := Lib.hid ((T2.out.trans t3).trans t4); clear t3 t4))
      simp [bodyPost, results, Tryd.results33, go_sem, World.cell?_setCell_other, c0, c1, c2]
      exact ⟨rfl, T4.out.set3 (Nat.le_refl _) _ _ _⟩
    · rw [if_neg hg]
      have hn : ((n0 : Int) == (n2 : Int)) = false := by
        rw [beq_eq_false_iff_ne]
        intro e
        exact hg (G2.1 (by omega))
      clear G2 hg
      go_enter Tryd.func33, Tryd.ntmps33
      go_wp2_with (first | (go_at_call 39; refine CU.out.mono ?_; rintro r w1 ⟨rfl, t2⟩; obtain ⟨c0, c1, c2, f0, f1, f2, z1⟩ := (O.out.only t2).all6; have T2 := Lib.hid (T.out.trans t2); have M2 := Lib.hid (M.out.only t2); clear t2) | (go_at_call 37; with_reducible refine (C2.out _ M2.out).mono ?_; rintro r w2 ⟨rfl, rfl⟩) | (go_at_call 37; with_reducible refine (C0.out _).mono ?_; rintro r w2 ⟨rfl, rfl⟩))
      simp [bodyPost, results, Tryd.results33, go_sem, World.cell?_setCell_other, c0, c1, c2]
      exact ⟨rfl, T2.out.set3 (Nat.le_refl _) _ _ _⟩
end Go.Proofs.YtipcdbdlopmdoaaDoor
