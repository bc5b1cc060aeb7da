/-
  The document's Encode, of any parts.
-/
import Derived.Test.YtipcdbdlopmdoaaDoorKRParts
import Derived.Test.YtipcdbdlopmdoaaDoorKCmp
import Derived.Test.YtipcdbdlopmdoaaDoorKCopy
import Derived.Test.YtipcdbdlopmdoaaDoorKPut
namespace Go.Proofs.YtipcdbdlopmdoaaDoor
open Go.RowKit Go.Maps Go.WideMaps Go.Shelf
set_option linter.unusedVariables false
set_option linter.unusedSimpArgs false

/-- a part as the document's Decode may answer it: its text is longer than those that come in -/
structure ROk (p : KP) : Prop where
  k1 : -9223372036854775808 ≤ p.kind
  k2 : p.kind ≤ 9223372036854775807
  n : numOk p
  s : p.s.length ≤ 2000
theorem KOk.r {p : KP} (h : KOk p) : ROk p := ⟨h.k1, h.k2, h.n, by have := h.s; omega⟩
theorem rencP_le {p : KP} (h : ROk p) : (encP p).length ≤ 4100 := by
  have h1 := esc_length p.s
  have h2 : p.s.count 0 ≤ p.s.length := List.count_le_length
  have := h.s
  by_cases e : p.kind = 1
  · rw [encP_1 e]; omega
  · have : (encP p).length = (esc p.s).length + 3 := by simp [encP, bodyP, e]
    omega
theorem rencL_le : ∀ (l : List KP), (∀ p ∈ l, ROk p) → (encL l).length ≤ 4100 * l.length
  | [], _ => by simp [encL]
  | p :: l, h => by
    have h1 := rencL_le l fun q hq => h q (List.mem_cons_of_mem _ hq)
    have h2 := rencP_le (h p (List.mem_cons_self ..))
    simp only [encL, List.length_append, List.length_cons]
    omega

theorem esc_snoc (s : List UInt8) (b : UInt8) : esc (s ++ [b]) = esc s ++ (if b = 0 then [0, 255] else [b]) := by
  induction s with
  | nil => simp [esc]
  | cons c s ih =>
    simp only [List.cons_append, esc, ih]
    split <;> simp

theorem add_low {n : Int} (h1 : -9223372036854775808 ≤ n) (h2 : n ≤ 9223372036854775807) : IntKind.u64.wrap (IntKind.u64.wrap n + 9223372036854775808) = (low n : Int) := by
  rw [IntKind.wrap_u64, IntKind.wrap_u64]
  unfold low
  omega

theorem byte_new2 {w : World} : ∀ j u, (([0, 1] : List UInt8).map u8V)[j]? = some u → (w.alloc (.cells #[.int .u8 0, .int .u8 1] 5)).cell? ⟨w.heap.size, j, none⟩ = some u := by
  intro j u hj
  rw [cell_new]
  match j, hj with
  | 0, hj => simpa [u8V] using hj
  | 1, hj => simpa [u8V] using hj
  | j + 2, hj => simp at hj

set_option maxRecDepth 100000 in
set_option maxHeartbeats 9600000 in
theorem rencode_any {w : World} {v : Value} {l : List KP} (h : PartsR w v l) (hl : l.length ≤ 1000000) (hk : ∀ x ∈ l, ROk x) :
    Calls Tryd.prog 13 #[v] w fun e w' => e = .returned (.tuple #[.string (ktxt (keyE l)), .int .i64 (errE l)]) ∧ Only w w' := by
  obtain ⟨sp, cap, rfl, hcells⟩ := h
  by_cases h8 : 8 < l.length
  · have e1 : errE l = 9 := by unfold errE; rw [if_pos h8]
    have e2 : keyE l = [] := by unfold keyE; rw [e1]; rfl
    rw [e1, e2]
    have i1 : decide ((8 : Int) < (l.length : Int)) = true := by simp; omega
    clear hcells hk e1 e2
    go_enter Tryd.func13, Tryd.ntmps13
    go_wp2_with fail
    go_ret2
    exact ⟨rfl, Only.refl _⟩
  · have i1 : decide ((8 : Int) < (l.length : Int)) = false := by simp; omega
    have HC := Lib.hid hcells
    have HK := Lib.hid hk
    obtain ⟨E, hE⟩ : ∃ E, E = errE l := ⟨_, rfl⟩
    obtain ⟨S, hS⟩ : ∃ S, S = ktxt (keyE l) := ⟨_, rfl⟩
    rw [← hE, ← hS]
    have HE := Lib.hid hE
    have HS := Lib.hid hS
    have i2 : (l.length : Int) ≤ 8 := by omega
    clear hcells hk hE hS hl
    go_enter Tryd.func13, Tryd.ntmps13
    go_wp2_with fail
    go_loopw [4, 5, 6, 7, 8] (fun bv i _ _ _ x => ∃ k : Nat, k ≤ l.length ∧ i = .int .i64 k ∧ BytesO x w.heap.size bv (encL (l.take k)) ∧ Hid ((l.take k).all kindOk = true) ∧ Only w x) (fun _ i _ _ _ _ => l.length - (intOf i).toNat)
    case atStart => exact ⟨0, Nat.zero_le _, rfl, BytesO.nil _ _, Lib.hid rfl, Only.refl _⟩
    case round =>
      obtain ⟨k, hk, rfl, hb, ha, ht⟩ := hrel
      by_cases hlt : k < l.length
      · have j1 : (k : Int) < (l.length : Int) := by omega
        have j0 : (0 : Int) ≤ (k : Int) := by omega
        obtain ⟨g, o, hsp, hat⟩ := HC.out (by omega)
        subst hsp
        obtain ⟨c0, c1, c2⟩ := (hat k hlt).only ht
        have BL := Lib.hid (show g < w.heap.size from World.block_lt_of_cell? w _ (hat k hlt).1)
        have ok := HK.out _ (List.getElem_mem hlt)
        have hsn := encL_snoc l k hlt
        have han := all_snoc l k hlt
        have hle2 : (encL (l.take k)).length ≤ 40000 := by
          have := rencL_le (l.take k) (fun p hp => HK.out p (List.mem_of_mem_take hp))
          have h0 : (l.take k).length ≤ k := List.length_take_le k l
          omega
        obtain ⟨p, hp⟩ : ∃ p, p = l[k] := ⟨_, rfl⟩
        rw [← hp] at c0 c1 c2 ok hsn han
        have HAT := Lib.hid hat
        have HP := Lib.hid hp
        have HSN := Lib.hid hsn
        have HAN := Lib.hid han
        have HT := Lib.hid ht
        have OK := Lib.hid ok
        have hkn : k + 1 ≤ l.length := hlt
        obtain ⟨L, hL⟩ : ∃ L, L = encL (l.take k) := ⟨_, rfl⟩
        rw [← hL] at hb hle2
        have HL := Lib.hid hL
        have HLL := Lib.hid hle2
        have SZ := Lib.hid ht.size
        clear hat hp hsn han ht hL hk ok hle2
        by_cases hk1 : p.kind = 1
        · rw [hk1] at c0
          obtain ⟨b1, b2⟩ := OK.out.n
          have X := add_low b1 b2
          have hU : low p.n < 18446744073709551616 := by unfold low; omega
          obtain ⟨U, hu⟩ : ∃ U, U = low p.n := ⟨_, rfl⟩
          rw [← hu] at X hU
          have HU := Lib.hid hu
          obtain ⟨x0, x1, x2, x3, x4, x5, x6, x7, hbe, e0, e1, e2, e3, e4, e5, e6, e7⟩ := be8 hU
          have HBE := Lib.hid hbe
          have E0 := Lib.hid e0
          have E1 := Lib.hid e1
          have E2 := Lib.hid e2
          have E3 := Lib.hid e3
          have E4 := Lib.hid e4
          have E5 := Lib.hid e5
          have E6 := Lib.hid e6
          have E7 := Lib.hid e7
          clear hbe e0 e1 e2 e3 e4 e5 e6 e7 hu b1 b2
          have t2 := (Only.refl wr).alloc (.cells #[.int .u8 1] 5)
          have HO := Lib.hid (HT.out.alloc (.cells #[.int .u8 1] 5))
          have f0 := cell_onlyK c0 t2
          have f1 := cell_onlyK c1 t2
          have HC := Lib.hid (byte_new (w := wr) (c := 1) (z := 1) rfl)
          have HB1 := Lib.hid (hb.only t2)
          clear hb t2
          go_wp2_with (at_builtin; refine append_byte rfl (.tmp 32) (.tmp 39) rfl (base := w.heap.size) [1] rfl rfl HB1.out HC.out (by have := HLL.out; simp; omega) (by have := SZ.out; simp; omega) ?_; intro v3 w3 hb3 ht3 hs3; have g0 := below_cellK ht3 BL.out f0; have g1 := below_cellK ht3 BL.out f1; have ho3 := Lib.hid (show Only w w3 from Below.trans HO.out ht3); replace hb3 := Lib.hid hb3; clear ht3 hs3 HO HB1 HC f0 f1 c0 c1 c2)
          go_loopw [4, 7] (fun bv i x => ∃ q : Nat, q ≤ 8 ∧ i = .int .i64 (7 - q) ∧ BytesO x w.heap.size bv (L ++ 1 :: [x0, x1, x2, x3, x4, x5, x6, x7].take q) ∧ Only w x) (fun _ i _ => (intOf i + 1).toNat)
          case atStart => exact ⟨0, by omega, rfl, by simpa using hb3.out, ho3.out⟩
          case round =>
            clear hb3 ho3 g0 g1
            obtain ⟨q, hq, hi, hb3, ho3⟩ := hrel
            rcases (by omega : q = 0 ∨ q = 1 ∨ q = 2 ∨ q = 3 ∨ q = 4 ∨ q = 5 ∨ q = 6 ∨ q = 7 ∨ q = 8) with rfl | rfl | rfl | rfl | rfl | rfl | rfl | rfl | rfl
            · replace hi : _ = Value.int .i64 7 := hi
              subst hi
              have HC := Lib.hid (byte_new (w := wr) (c := x0) (z := (U : Int) / 72057594037927936) (by rw [E0.out]))
              have HB1 := Lib.hid (hb3.only ((Only.refl wr).alloc (.cells #[.int .u8 ((U : Int) / 72057594037927936)] 5)))
              have HO := Lib.hid (ho3.alloc (.cells #[.int .u8 ((U : Int) / 72057594037927936)] 5))
              clear hb3 ho3 hq
              go_wp2_with (at_builtin; refine append_byte rfl (.tmp 58) (.tmp 64) rfl (base := w.heap.size) [x0] rfl rfl HB1.out HC.out (by have := HLL.out; simp; omega) (by have := HO.out.size; simp at this ⊢; omega) ?_; intro v4 w4 hb4 ht4 hs4)
              go_roundw
              case rel => exact ⟨1, by omega, rfl, by simpa using hb4, Below.trans HO.out ht4⟩
              case measure => simp [intOf]
            · replace hi : _ = Value.int .i64 6 := hi
              subst hi
              have HC := Lib.hid (byte_new (w := wr) (c := x1) (z := IntKind.u8.wrap ((U : Int) / 281474976710656)) (by rw [E1.out]; exact (IntKind.wrap_u8 _).symm))
              have HB1 := Lib.hid (hb3.only ((Only.refl wr).alloc (.cells #[.int .u8 (IntKind.u8.wrap ((U : Int) / 281474976710656))] 5)))
              have HO := Lib.hid (ho3.alloc (.cells #[.int .u8 (IntKind.u8.wrap ((U : Int) / 281474976710656))] 5))
              clear hb3 ho3 hq
              go_wp2_with (at_builtin; refine append_byte rfl (.tmp 58) (.tmp 64) rfl (base := w.heap.size) [x1] rfl rfl HB1.out HC.out (by have := HLL.out; simp; omega) (by have := HO.out.size; simp at this ⊢; omega) ?_; intro v4 w4 hb4 ht4 hs4)
              go_roundw
              case rel => exact ⟨2, by omega, rfl, by simpa using hb4, Below.trans HO.out ht4⟩
              case measure => simp [intOf]
            · replace hi : _ = Value.int .i64 5 := hi
              subst hi
              have HC := Lib.hid (byte_new (w := wr) (c := x2) (z := IntKind.u8.wrap ((U : Int) / 1099511627776)) (by rw [E2.out]; exact (IntKind.wrap_u8 _).symm))
              have HB1 := Lib.hid (hb3.only ((Only.refl wr).alloc (.cells #[.int .u8 (IntKind.u8.wrap ((U : Int) / 1099511627776))] 5)))
              have HO := Lib.hid (ho3.alloc (.cells #[.int .u8 (IntKind.u8.wrap ((U : Int) / 1099511627776))] 5))
              clear hb3 ho3 hq
              go_wp2_with (at_builtin; refine append_byte rfl (.tmp 58) (.tmp 64) rfl (base := w.heap.size) [x2] rfl rfl HB1.out HC.out (by have := HLL.out; simp; omega) (by have := HO.out.size; simp at this ⊢; omega) ?_; intro v4 w4 hb4 ht4 hs4)
              go_roundw
              case rel => exact ⟨3, by omega, rfl, by simpa using hb4, Below.trans HO.out ht4⟩
              case measure => simp [intOf]
            · replace hi : _ = Value.int .i64 4 := hi
              subst hi
              have HC := Lib.hid (byte_new (w := wr) (c := x3) (z := IntKind.u8.wrap ((U : Int) / 4294967296)) (by rw [E3.out]; exact (IntKind.wrap_u8 _).symm))
              have HB1 := Lib.hid (hb3.only ((Only.refl wr).alloc (.cells #[.int .u8 (IntKind.u8.wrap ((U : Int) / 4294967296))] 5)))
              have HO := Lib.hid (ho3.alloc (.cells #[.int .u8 (IntKind.u8.wrap ((U : Int) / 4294967296))] 5))
              clear hb3 ho3 hq
              go_wp2_with (at_builtin; refine append_byte rfl (.tmp 58) (.tmp 64) rfl (base := w.heap.size) [x3] rfl rfl HB1.out HC.out (by have := HLL.out; simp; omega) (by have := HO.out.size; simp at this ⊢; omega) ?_; intro v4 w4 hb4 ht4 hs4)
              go_roundw
              case rel => exact ⟨4, by omega, rfl, by simpa using hb4, Below.trans HO.out ht4⟩
              case measure => simp [intOf]
            · replace hi : _ = Value.int .i64 3 := hi
              subst hi
              have HC := Lib.hid (byte_new (w := wr) (c := x4) (z := IntKind.u8.wrap ((U : Int) / 16777216)) (by rw [E4.out]; exact (IntKind.wrap_u8 _).symm))
              have HB1 := Lib.hid (hb3.only ((Only.refl wr).alloc (.cells #[.int .u8 (IntKind.u8.wrap ((U : Int) / 16777216))] 5)))
              have HO := Lib.hid (ho3.alloc (.cells #[.int .u8 (IntKind.u8.wrap ((U : Int) / 16777216))] 5))
              clear hb3 ho3 hq
              go_wp2_with (at_builtin; refine append_byte rfl (.tmp 58) (.tmp 64) rfl (base := w.heap.size) [x4] rfl rfl HB1.out HC.out (by have := HLL.out; simp; omega) (by have := HO.out.size; simp at this ⊢; omega) ?_; intro v4 w4 hb4 ht4 hs4)
              go_roundw
              case rel => exact ⟨5, by omega, rfl, by simpa using hb4, Below.trans HO.out ht4⟩
              case measure => simp [intOf]
            · replace hi : _ = Value.int .i64 2 := hi
              subst hi
              have HC := Lib.hid (byte_new (w := wr) (c := x5) (z := IntKind.u8.wrap ((U : Int) / 65536)) (by rw [E5.out]; exact (IntKind.wrap_u8 _).symm))
              have HB1 := Lib.hid (hb3.only ((Only.refl wr).alloc (.cells #[.int .u8 (IntKind.u8.wrap ((U : Int) / 65536))] 5)))
              have HO := Lib.hid (ho3.alloc (.cells #[.int .u8 (IntKind.u8.wrap ((U : Int) / 65536))] 5))
              clear hb3 ho3 hq
              go_wp2_with (at_builtin; refine append_byte rfl (.tmp 58) (.tmp 64) rfl (base := w.heap.size) [x5] rfl rfl HB1.out HC.out (by have := HLL.out; simp; omega) (by have := HO.out.size; simp at this ⊢; omega) ?_; intro v4 w4 hb4 ht4 hs4)
              go_roundw
              case rel => exact ⟨6, by omega, rfl, by simpa using hb4, Below.trans HO.out ht4⟩
              case measure => simp [intOf]
            · replace hi : _ = Value.int .i64 1 := hi
              subst hi
              have HC := Lib.hid (byte_new (w := wr) (c := x6) (z := IntKind.u8.wrap ((U : Int) / 256)) (by rw [E6.out]; exact (IntKind.wrap_u8 _).symm))
              have HB1 := Lib.hid (hb3.only ((Only.refl wr).alloc (.cells #[.int .u8 (IntKind.u8.wrap ((U : Int) / 256))] 5)))
              have HO := Lib.hid (ho3.alloc (.cells #[.int .u8 (IntKind.u8.wrap ((U : Int) / 256))] 5))
              clear hb3 ho3 hq
              go_wp2_with (at_builtin; refine append_byte rfl (.tmp 58) (.tmp 64) rfl (base := w.heap.size) [x6] rfl rfl HB1.out HC.out (by have := HLL.out; simp; omega) (by have := HO.out.size; simp at this ⊢; omega) ?_; intro v4 w4 hb4 ht4 hs4)
              go_roundw
              case rel => exact ⟨7, by omega, rfl, by simpa using hb4, Below.trans HO.out ht4⟩
              case measure => simp [intOf]
            · replace hi : _ = Value.int .i64 0 := hi
              subst hi
              have HC := Lib.hid (byte_new (w := wr) (c := x7) (z := IntKind.u8.wrap ((U : Int))) (by rw [E7.out]; exact (IntKind.wrap_u8 _).symm))
              have HB1 := Lib.hid (hb3.only ((Only.refl wr).alloc (.cells #[.int .u8 (IntKind.u8.wrap ((U : Int)))] 5)))
              have HO := Lib.hid (ho3.alloc (.cells #[.int .u8 (IntKind.u8.wrap ((U : Int)))] 5))
              clear hb3 ho3 hq
              go_wp2_with (at_builtin; refine append_byte rfl (.tmp 58) (.tmp 64) rfl (base := w.heap.size) [x7] rfl rfl HB1.out HC.out (by have := HLL.out; simp; omega) (by have := HO.out.size; simp at this ⊢; omega) ?_; intro v4 w4 hb4 ht4 hs4)
              go_roundw
              case rel => exact ⟨8, by omega, rfl, by simpa using hb4, Below.trans HO.out ht4⟩
              case measure => simp [intOf]
            · replace hi : _ = Value.int .i64 (-1) := hi
              subst hi
              have HB3 := Lib.hid hb3
              have HO3 := Lib.hid ho3
              clear hb3 ho3 hq
              go_wp2_with fail
              go_roundw
              case rel => exact ⟨k + 1, hkn, by push_cast; rfl, by rw [HSN.out, ← HL.out, show encP p = 1 :: [x0, x1, x2, x3, x4, x5, x6, x7] by rw [← HBE.out, HU.out]; simp [encP, bodyP, hk1]]; exact HB3.out, Lib.hid (by rw [HAN.out, ha.out]; simp [kindOk, hk1]), HO3.out⟩
              case measure => simp [intOf]; omega
        · by_cases hk2 : p.kind = 2
          · rw [hk2] at c0
            have t2 := (Only.refl wr).alloc (.cells #[.int .u8 2] 5)
            have HO := Lib.hid (HT.out.alloc (.cells #[.int .u8 2] 5))
            have f0 := cell_onlyK c0 t2
            have HC := Lib.hid (byte_new (w := wr) (c := 2) (z := 2) rfl)
            have HB1 := Lib.hid (hb.only t2)
            clear hb t2
            go_wp2_with (at_builtin; refine append_byte rfl (.tmp 32) (.tmp 39) rfl (base := w.heap.size) [2] rfl rfl HB1.out HC.out (by have := HLL.out; simp; omega) (by have := SZ.out; simp; omega) ?_; intro v3 w3 hb3 ht3 hs3; have g0 := below_cellK ht3 BL.out f0; have ho3 := Lib.hid (show Only w w3 from Below.trans HO.out ht3); replace hb3 := Lib.hid hb3; clear ht3 hs3 HO HB1 HC f0 c0 c1 c2)
            go_loopw [4, 8] (fun bv i x => ∃ q : Nat, q ≤ p.s.length ∧ i = .int .i64 q ∧ BytesO x w.heap.size bv (L ++ 2 :: esc (p.s.take q)) ∧ Only w x) (fun _ i _ => p.s.length - (intOf i).toNat)
            case atStart => exact ⟨0, by omega, rfl, by simpa [esc] using hb3.out, ho3.out⟩
            case round =>
              clear hb3 ho3 g0
              obtain ⟨q, hq, rfl, hb3, ho3⟩ := hrel
              obtain ⟨-, -, d2⟩ := (HAT.out k hlt).only ho3
              rw [← HP.out] at d2
              by_cases hql : q < p.s.length
              · have j3 : (q : Int) < (p.s.length : Int) := by omega
                have j4 : (0 : Int) ≤ (q : Int) := by omega
                have HB3 := Lib.hid hb3
                have HO3 := Lib.hid ho3
                have hsz : q < (ktxt p.s).size := hql
                have j5 : (q : Int) ≤ 2000 := by have := OK.out.s; omega
                have hgt : (ktxt p.s)[q]'hsz = p.s[q] := rfl
                have hsn2 := Lib.hid (show esc (p.s.take (q + 1)) = esc (p.s.take q) ++ (if p.s[q] = 0 then [0, 255] else [p.s[q]]) by rw [show p.s.take (q + 1) = p.s.take q ++ [p.s[q]] by rw [List.take_add_one, List.getElem?_eq_getElem hql]; rfl, esc_snoc])
                have HE2 := Lib.hid (show (esc (p.s.take q)).length ≤ 4000 by
                  have h1 := esc_length (p.s.take q)
                  have h2 : (p.s.take q).count 0 ≤ (p.s.take q).length := List.count_le_length
                  have h3 : (p.s.take q).length ≤ p.s.length := by simp; omega
                  have := OK.out.s
                  omega)
                by_cases hz : (ktxt p.s)[q]'hsz = 0
                · have hz' : p.s[q] = 0 := hz
                  have t3 := (Only.refl wr).alloc (.cells #[.int .u8 0] 5)
                  have HO := Lib.hid (ho3.alloc (.cells #[.int .u8 0] 5))
                  have f2 := cell_onlyK d2 t3
                  have HC := Lib.hid (byte_new (w := wr) (c := 0) (z := 0) rfl)
                  have HB1 := Lib.hid (hb3.only t3)
                  clear hb3 ho3 hq t3
                  go_wp2_with (first | (at_builtin; refine append_byte rfl (.tmp 76) (.tmp 84) rfl (base := w.heap.size) [0] rfl rfl HB1.out HC.out (by have := HLL.out; have := HE2.out; simp; omega) (by have := HO.out.size; simp at this ⊢; omega) ?_; intro v4 w4 hb4 ht4 hs4; have g2 := below_cellK ht4 BL.out f2; have ho4 := Lib.hid (show Only w w4 from Below.trans HO.out ht4); replace hb4 := Lib.hid hb4; clear ht4 hs4 f2 d2; have HC5 := Lib.hid (byte_new (w := w4) (c := 255) (z := 255) rfl); have HB5 := Lib.hid (hb4.out.only ((Only.refl w4).alloc (.cells #[.int .u8 255] 5))); have HO5 := Lib.hid (ho4.out.alloc (.cells #[.int .u8 255] 5))) | (at_builtin; refine append_byte rfl (.tmp 94) (.tmp 95) rfl (base := w.heap.size) [255] rfl rfl HB5.out HC5.out (by have := HLL.out; have := HE2.out; simp; omega) (by have := HO5.out.size; simp at this ⊢; omega) ?_; intro v5 w5 hb5 ht5 hs5; have ho5 := Lib.hid (show Only w w5 from Below.trans HO5.out ht5); replace hb5 := Lib.hid hb5))
                  go_roundw
                  case rel => exact ⟨q + 1, by omega, by push_cast; rfl, by rw [hsn2.out, if_pos hz']; simpa [hz] using hb5.out, ho5.out⟩
                  case measure => simp [intOf]; omega
                · have hz' : ¬ p.s[q] = 0 := hz
                  have hz3 : ¬ ((ktxt p.s)[q]'hsz).toNat = 0 := fun h => hz (UInt8.toNat_inj.mp (by simpa using h))
                  have hz2 : decide ((((ktxt p.s)[q]'hsz).toNat : Int) = 0) = false := by
                    rw [decide_eq_false_iff_not]
                    omega
                  have hz4 : decide (((ktxt p.s)[q]'hsz).toNat = 0) = false := by
                    rw [decide_eq_false_iff_not]
                    omega
                  have hz6 : ((p.s[q].toNat : Int) == 0) = false := by
                    rw [beq_eq_false_iff_ne]
                    have : ¬ p.s[q].toNat = 0 := hz3
                    omega
                  have t3 := (Only.refl wr).alloc (.cells #[.int .u8 (((ktxt p.s)[q]'hsz).toNat : Int)] 5)
                  have HO := Lib.hid (ho3.alloc (.cells #[.int .u8 (((ktxt p.s)[q]'hsz).toNat : Int)] 5))
                  have f2 := cell_onlyK d2 t3
                  have HC := Lib.hid (byte_new (w := wr) (c := (ktxt p.s)[q]'hsz) rfl)
                  have HB1 := Lib.hid (hb3.only t3)
                  clear hb3 ho3 hq t3
                  go_wp2_with (first | (at_builtin; refine append_byte rfl (.tmp 76) (.tmp 84) rfl (base := w.heap.size) [(ktxt p.s)[q]'hsz] rfl rfl HB1.out HC.out (by have := HLL.out; have := HE2.out; simp; omega) (by have := HO.out.size; simp at this ⊢; omega) ?_; intro v4 w4 hb4 ht4 hs4; have g2 := below_cellK ht4 BL.out f2; have ho4 := Lib.hid (show Only w w4 from Below.trans HO.out ht4); replace hb4 := Lib.hid hb4; clear ht4 hs4 f2 d2))
                  go_roundw
                  case rel => exact ⟨q + 1, by omega, by push_cast; rfl, by rw [hsn2.out, if_neg hz', ← hgt]; simpa using hb4.out, ho4.out⟩
                  case measure => simp [intOf]; omega
              · have hq0 : q = p.s.length := by omega
                subst hq0
                rw [List.take_length] at hb3
                have HB3 := Lib.hid hb3
                have HO3 := Lib.hid ho3
                have HE2 := Lib.hid (show (esc p.s).length ≤ 4000 by
                  have h1 := esc_length p.s
                  have h2 : p.s.count 0 ≤ p.s.length := List.count_le_length
                  have := OK.out.s
                  omega)
                have t3 := (Only.refl wr).alloc (.cells #[.int .u8 0, .int .u8 1] 5)
                have HO := Lib.hid (ho3.alloc (.cells #[.int .u8 0, .int .u8 1] 5))
                have HC := Lib.hid (byte_new2 (w := wr))
                have HB1 := Lib.hid (hb3.only t3)
                clear hb3 ho3 hq hql t3
                go_wp2_with (at_builtin; refine append_byte rfl (.tmp 97) (.tmp 98) rfl (base := w.heap.size) [0, 1] rfl rfl HB1.out HC.out (by have := HLL.out; have := HE2.out; simp; omega) (by have := HO.out.size; simp at this ⊢; omega) ?_; intro v4 w4 hb4 ht4 hs4; have ho4 := Lib.hid (show Only w w4 from Below.trans HO.out ht4); replace hb4 := Lib.hid hb4; clear ht4 hs4)
                go_roundw
                case rel => exact ⟨k + 1, hkn, by push_cast; rfl, by rw [HSN.out, ← HL.out, show encP p = 2 :: (esc p.s ++ [0, 1]) by simp [encP, bodyP, hk2]]; simpa using hb4.out, Lib.hid (by rw [HAN.out, ha.out]; simp [kindOk, hk2]), ho4.out⟩
                case measure => simp [intOf]; omega
          · have n1 : (p.kind == 1) = false := by rw [beq_eq_false_iff_ne]; exact hk1
            have n2 : (p.kind == 2) = false := by rw [beq_eq_false_iff_ne]; exact hk2
            have n3 : (p.kind != 1) = true := by rw [bne_iff_ne]; exact hk1
            have n4 : (p.kind != 2) = true := by rw [bne_iff_ne]; exact hk2
            have eE : E = 7 := by
              rw [HE.out]
              have h3 : kindOk p = false := by simp [kindOk, hk1, hk2]
              have h4 : l.all kindOk = false := by
                rw [List.all_eq_false]
                exact ⟨l[k], List.getElem_mem _, by rw [← HP.out, h3]; simp⟩
              unfold errE
              rw [if_neg h8, if_pos h4]
            have eS : S = ⟨#[]⟩ := by rw [HS.out]; unfold keyE; rw [← HE.out, eE]; rfl
            have EE := Lib.hid eE
            have ES := Lib.hid eS
            clear eE eS hk1 hk2 hb
            go_wp2_with fail
            go_ret2
            exact ⟨by rw [EE.out, ES.out]; rfl, HT.out⟩
      · have hk0 : k = l.length := by omega
        subst hk0
        rw [List.take_length] at hb ha
        have hle := rencL_le l HK.out
        have HT := Lib.hid ht
        obtain ⟨L, hL⟩ : ∃ L, L = encL l := ⟨_, rfl⟩
        have hz : L.length ≤ 40000 := by rw [hL]; omega
        rw [← hL] at hb
        obtain ⟨sb, cb, evb⟩ : ∃ sb cb, u4 = .slice sb L.length cb := by
          rcases hb.form with ⟨e1, e2⟩ | ⟨g, c, e, -⟩
          · exact ⟨none, 0, by rw [e1, e2]; rfl⟩
          · exact ⟨_, _, e⟩
        subst evb
        by_cases h200 : 200 < L.length
        · have eE : E = 8 := by
            rw [HE.out]; unfold errE
            rw [if_neg h8, if_neg (by rw [ha.out]; simp), if_pos (by rw [← hL]; omega)]
          have eS : S = ⟨#[]⟩ := by rw [HS.out]; unfold keyE; rw [← HE.out, eE]; rfl
          have EE := Lib.hid eE
          have ES := Lib.hid eS
          have i3 : decide ((200 : Int) < (L.length : Int)) = true := by simp; omega
          have i4 : decide (200 < L.length) = true := by simpa using h200
          clear eE eS hle ht hlt hk hL hb h200
          go_wp2_with fail
          go_ret2
          exact ⟨by rw [EE.out, ES.out]; rfl, HT.out⟩
        · have eE : E = 0 := by
            rw [HE.out]; unfold errE
            rw [if_neg h8, if_neg (by rw [ha.out]; simp), if_neg (by rw [← hL]; omega)]
          have eS : S = ktxt L := by rw [HS.out]; unfold keyE; rw [← HE.out, eE, hL]; rfl
          have EE := Lib.hid eE
          have ES := Lib.hid eS
          have i3 : decide ((200 : Int) < (L.length : Int)) = false := by simp; omega
          have i4 : decide (200 < L.length) = false := by simpa using h200
          have cv := bytes_string hb
          clear eE eS hle ht hlt hk hL hb h200
          go_wp2_with fail
          go_ret2
          exact ⟨by rw [EE.out, ES.out]; rfl, HT.out⟩
end Go.Proofs.YtipcdbdlopmdoaaDoor
