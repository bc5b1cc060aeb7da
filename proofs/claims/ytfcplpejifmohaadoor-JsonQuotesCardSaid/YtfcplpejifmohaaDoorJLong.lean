/-
  JsonLong: the walk.
-/
import Derived.Test.YtfcplpejifmohaaDoorJLongP
import Derived.Deep.OwnRows
import Derived.Lib.ConvBytes
namespace Go.Proofs.YtfcplpejifmohaaDoor
open Go.RowKit Go.Maps Go.WideMaps Go.Shelf
set_option linter.unusedVariables false
set_option linter.unusedSimpArgs false

/-! ### a row of bytes that is written -/
def RowB (w : World) (g : Nat) (l : List UInt8) : Prop := ∃ ty, w.heap[g]? = some (.cells (l.map u8V).toArray ty)
theorem RowB.cell {w : World} {g : Nat} {l : List UInt8} (h : RowB w g l) (j : Nat) (u : Value) (hj : (l.map u8V)[j]? = some u) : w.cell? ⟨g, 0 + j, none⟩ = some u := by
  obtain ⟨ty, h⟩ := h
  rw [Nat.zero_add]
  simp only [World.cell?, h]
  simpa using hj
theorem RowB.some {w : World} {g : Nat} {l : List UInt8} (h : RowB w g l) {j : Nat} (hj : j < l.length) : ∃ u : Value, w.cell? ⟨g, j, none⟩ = some u := by
  have := h.cell j (u8V l[j]) (by rw [List.getElem?_map, List.getElem?_eq_getElem hj]; rfl)
  rw [Nat.zero_add] at this
  exact ⟨_, this⟩
theorem RowB.free {w : World} {g : Nat} {l : List UInt8} (h : RowB w g l) (j : Nat) : w.frozen? ⟨g, j, none⟩ = false := by
  obtain ⟨ty, h⟩ := h; simp [World.frozen?, h]
theorem RowB.set {w : World} {g : Nat} {l : List UInt8} (h : RowB w g l) (j : Nat) {e : Int} {c : UInt8} (he : e = c.toNat) : RowB (w.setCell ⟨g, j, none⟩ (.int .u8 e)) g (l.set j c) := by
  subst he
  obtain ⟨ty, h⟩ := h
  refine ⟨ty, (heap_setCell_same h _).trans ?_⟩
  simp [List.map_set, u8V]
theorem RowB.made (w : World) (n : Nat) : RowB (w.alloc (.cells (madeCells #[.int .u8 0] n) 5)) w.heap.size (List.replicate n 0) := by
  have e : madeCells #[.int .u8 0] n = ((List.replicate n (0 : UInt8)).map u8V).toArray := by
    apply Array.ext
    · simp [size_madeCells]
    · intro i h1 h2; simp [madeCells, u8V, Nat.mod_one]
  rw [e]
  exact ⟨_, heap_alloc_new _ _⟩
theorem make_bytes {e : Int} {n : Nat} (he : e = n) (hn : n ≤ 1000000) (w : World) : (Instr.makeSlice 26 (.int .i64 e) (.int .i64 e)).run Tryd.prog w = .ok (.slice (some ⟨w.heap.size, 0, none⟩) n n) (w.alloc (.cells (madeCells #[.int .u8 0] n) 5)) := by
  subst he
  exact run_make_row' (P := Tryd.prog) 26 5 (.int .u8 0) 1 Tryd.underlying26 infoU8 rfl .i64 .i64 n (by omega) (by omega) w
theorem set_blank (k n : Nat) (h : k < n) : (List.replicate k (32 : UInt8) ++ List.replicate (n - k) 0).set k 32 = List.replicate (k + 1) 32 ++ List.replicate (n - (k + 1)) 0 := by
  obtain ⟨d, hd⟩ : ∃ d, n - k = d + 1 := ⟨n - k - 1, by omega⟩
  rw [hd, List.replicate_succ, List.set_append_right _ _ (by rw [List.length_replicate]; omega), List.length_replicate, Nat.sub_self, List.set_cons_zero, show n - (k + 1) = d by omega, List.replicate_succ']
  simp
theorem set_one (n : Nat) : (List.replicate (n + 1) (32 : UInt8)).set 0 49 = longL n := rfl

/-! ### what Parse answers of a text at the limits -/
def POut (l : List UInt8) (e1 at_ : Int) (b : Bool) : Prop := ∀ (W : World) (v : Value), BytesIn W v l → Tb W → Calls Tryd.prog 12 #[v] W fun e w' =>
  (∃ (k : Int) (t : List UInt8) (sa : Option Addr) (na ca : Nat) (sb : Option Addr) (nb cb : Nat) (a : Int), e = .returned (.tuple #[.agg #[.int .i64 k, txt t, .slice sa na ca, .slice sb nb cb], .int .i64 a, .int .i64 e1]) ∧ (b = true → a = at_)) ∧ Only W w'
theorem pout_ok {l : List UInt8} (hl : l.length ≤ 65536) {x : JV} {q : Nat} (h : parseE l = .ok x q) (at_ : Int) : POut l 0 at_ false := fun W v hb hT => by
  refine (parseN_any hb hl hT).mono ?_
  rintro e w' ⟨t, hr⟩
  rw [h] at hr
  obtain ⟨v, rfl, hv⟩ := hr
  obtain ⟨kk, tt, La, Na, rfl, ⟨la1, la2, la3, rfl⟩, ⟨na1, na2, na3, rfl⟩⟩ := hv.form
  exact ⟨⟨_, _, _, _, _, _, _, _, _, rfl, fun h => by cases h⟩, t⟩
theorem pout_bad {l : List UInt8} (hl : l.length ≤ 65536) {a b : Nat} (h : parseE l = .bad a b) (hb11 : b ≠ 11) : POut l b a true := fun W v hb hT => by
  refine (parseN_any hb hl hT).mono ?_
  rintro e w' ⟨t, hr⟩
  rw [h] at hr
  obtain ⟨a', h1, rfl⟩ := hr
  exact ⟨⟨0, [], none, 0, 0, none, 0, 0, a', rfl, fun _ => by rcases h1 with h1 | h1; exact absurd h1 hb11; exact h1⟩, t⟩
theorem pout_long {l : List UInt8} (hl : 65536 < l.length) : POut l 8 0 true := fun W v hb hT => by
  obtain ⟨⟨sp, cap, rfl⟩, -⟩ := hb
  refine (parse_long hl).mono ?_
  rintro e w' ⟨rfl, t⟩
  exact ⟨⟨0, [], none, 0, 0, none, 0, 0, 0, rfl, fun _ => rfl⟩, t⟩

theorem BytesIn.conv (w : World) (s : ByteArray) : BytesIn (Lib.bytesWorld w 5 s) (.slice (some ⟨w.heap.size, 0, none⟩) s.size (grownCap w s.size 0 5)) s.data.toList := by
  rw [← data_len]
  refine BytesIn.cells fun j u h => ?_
  have hj : j < s.size := by have := (List.getElem?_eq_some_iff.1 h).1; simpa using this
  rw [Nat.zero_add, Lib.bytesWorld_cell w _ s j hj]
  rw [List.getElem?_map, List.getElem?_eq_getElem (by rw [data_len]; exact hj)] at h
  simp only [Option.map_some, Option.some.injEq] at h
  rw [← h]
  simp [u8V, List.getD, List.getElem?_eq_getElem, hj]
theorem bytesW_only (w : World) (t : TypeId) (s : ByteArray) : Only w (Lib.bytesWorld w t s) :=
  Turn.only ⟨rfl, rfl, rfl, by rw [Lib.bytesWorld_size]; omega, fun i hi _ => Lib.bytesWorld_at_old w t s i hi⟩

set_option maxRecDepth 100000 in
set_option maxHeartbeats 6400000 in
theorem long_walk {n r q m : Int} {L D K : Nat} (hr : n.tmod 3 = r) (hr1 : -2 ≤ r ∧ r ≤ 2) (hq : (r + 3).tmod 3 = q) (hm : q - 1 = m) (hm1 : -1 ≤ m ∧ m ≤ 1) (hL : (65536 : Int) + m = L) (hD : (32 : Int) + m = D) (hK : (1000 : Int) + m = K)
    {z : Bool} (hz : decide (0 < m) = z) {e1 e2 e3 : Int} (P1 : POut (longL (L - 1)) e1 0 z) (P2 : POut (deepL D) e2 32 z) (P3 : POut (manyL (K - 1)) e3 2001 z)
    (he : (z = true ∧ e1 = 8 ∧ e2 = 20 ∧ e3 = 9) ∨ (z = false ∧ e1 = 0 ∧ e2 = 0 ∧ e3 = 0)) {w : World} (hT : Tb w) : Calls Tryd.prog 5 #[.int .i64 n] w fun e w' => e = .returned (.bool true) ∧ Only w w' := by
  have HT := Lib.hid hT
  have NM := Lib.hid numJ_any
  have FI := Lib.hid (fun W (h : Tb W) => first7_any h)
  have HP1 := Lib.hid P1
  have HP2 := Lib.hid P2
  have HP3 := Lib.hid P3
  have HE := Lib.hid he
  have hq2 : (r + 3) % 3 = q := by rw [← hq, Int.tmod_eq_emod_of_nonneg (by omega)]
  clear hT P1 P2 P3 he
  go_enter Tryd.func5, Tryd.ntmps5
  go_wp2_with fail
  refine (FI.out _ HT.out).mono ?_
  rintro r0 w1 ⟨rfl, t1⟩
  have H1 := Lib.hid t1
  clear t1
  go_upto_region 3 with (fail)
  have iL : (L : Int) ≤ 65537 := by omega
  have iL0 : (65535 : Int) ≤ (L : Int) := by omega
  have iD : (D : Int) ≤ 33 := by omega
  have iK : (K : Int) ≤ 1001 := by omega
  have iK0 : (999 : Int) ≤ (K : Int) := by omega
  have MK := make_bytes (e := (L : Int)) (n := L) rfl (by omega) w1
  have HR0 := Lib.hid (RowB.made w1 L)
  obtain ⟨g, hg⟩ : ∃ g, g = w1.heap.size := ⟨_, rfl⟩
  rw [← hg] at MK HR0
  have HGE := Lib.hid (show w1.heap.size ≤ g by rw [hg]; exact Nat.le_refl _)
  clear hg hr hq hq2 hm hr1
  have cvs : ∀ (W : World) (s : ByteArray), (convert 9 26 (.string s)).run Tryd.prog W = .ok (.slice (some ⟨W.heap.size, 0, none⟩) s.size (grownCap W s.size 0 5)) (Lib.bytesWorld W 5 s) := fun W s => Lib.run_convert_string_bytes W _ _ _ s Tryd.underlying9 Tryd.underlying26 Tryd.underlying5
  go_wp2_with fail
  go_loopw [5] (fun iv wx => ∃ k : Nat, iv = .int .i64 (k : Int) ∧ k ≤ L ∧ RowB wx g (List.replicate k 32 ++ List.replicate (L - k) 0) ∧ Only w1 wx) (fun iv _ => L - (intOf iv).toNat)
  case atStart => exact ⟨0, rfl, Nat.zero_le _, by simpa using HR0.out, (Only.refl _).alloc _⟩
  case round =>
    obtain ⟨k, rfl, hk, hrow, ht⟩ := hrel
    by_cases hlt : k < L
    · have k1 : (k : Int) < (L : Int) := by omega
      have c1 := hrow.free k
      obtain ⟨old, c2⟩ := hrow.some (j := k) (by simp; omega)
      have hrow2 := hrow.set k (e := 32) (c := 32) rfl
      rw [set_blank k L hlt] at hrow2
      have HROW := Lib.hid hrow2
      have HT2 := Lib.hid (ht.set HGE.out k (.int .u8 32))
      clear hrow hrow2 ht
      go_wp2_with fail
      go_roundw
      case rel => exact ⟨k + 1, by push_cast; rfl, hlt, HROW.out, HT2.out⟩
      case measure => simp [intOf]; omega
    · have hk0 : k = L := by omega
      subst hk0
      have k1 : ¬ (k : Int) < (k : Int) := by omega
      have k2 : (0 : Int) < (k : Int) := by omega
      have hrow2 : RowB wr g (List.replicate (k - 1 + 1) 32) := by rw [show k - 1 + 1 = k by omega]; simpa using hrow
      have c1 := hrow2.free 0
      obtain ⟨old, c2⟩ := hrow2.some (j := 0) (by simp)
      have hrow3 := hrow2.set 0 (e := 49) (c := 49) rfl
      rw [set_one] at hrow3
      have hlen : (longL (k - 1)).length = k := by unfold longL; rw [List.length_cons, List.length_replicate]; omega
      have HB1 : Hid (BytesIn (wr.setCell ⟨g, 0, none⟩ (.int .u8 49)) (.slice (some ⟨g, 0, none⟩) k k) (longL (k - 1))) := Lib.hid (by
        have := BytesIn.cells (cap := k) (l := longL (k - 1)) hrow3.cell
        rwa [hlen] at this)
      have H2 := Lib.hid (H1.out.trans (ht.set HGE.out 0 (.int .u8 49)))
      clear hrow hrow2 hrow3 ht hlt hlen
      go_wp2_with fail
      refine (HP1.out _ _ HB1.out (HT.out.only H2.out)).mono ?_
      rintro r0 w2 ⟨⟨ka, ta, sa, na, ca, sb, nb, cb, a1, rfl, -⟩, t2⟩
      have H3 := Lib.hid ((H2.out.trans t2).alloc (.cells #[.int .i64 ka, txt ta, .slice sa na ca, .slice sb nb cb] 25))
      clear t2 c1 c2
      go_wp2_with fail
      go_loopw [9, 10, 11] (fun dv bv iv wx => ∃ (i : Nat) (Dd Bk : ByteArray), dv = .string Dd ∧ bv = .string Bk ∧ iv = .int .i64 (i : Int) ∧ i ≤ D ∧ Dd.size = i ∧ Bk.size = i ∧ Hid (Dd.data.toList = List.replicate i 91) ∧ Hid (Bk.data.toList = List.replicate i 93) ∧ Only w wx) (fun _ _ iv _ => D - (intOf iv).toNat)
      case atStart => exact ⟨0, ⟨#[]⟩, ⟨#[]⟩, rfl, rfl, rfl, Nat.zero_le _, rfl, rfl, Lib.hid rfl, Lib.hid rfl, H3.out⟩
      case round =>
        clear H3 H2
        obtain ⟨i, Dd, Bk, rfl, rfl, rfl, hi, hd1, hb1, hDd, hBk, ht⟩ := hrel
        have HT3 := Lib.hid ht
        clear ht
        by_cases hid : i < D
        · have k3 : (i : Int) < (D : Int) := by omega
          have q1 : (Dd.size : Int) ≤ 33 := by omega
          have q2 : (Bk.size : Int) ≤ 33 := by omega
          have HD1 := Lib.hid hd1
          have HB1 := Lib.hid hb1
          clear hd1 hb1
          go_wp2_with fail
          go_roundw
          case rel => exact ⟨i + 1, _, _, rfl, rfl, by push_cast; rfl, hid, by rw [ByteArray.size_append, HD1.out]; rfl, by rw [ByteArray.size_append, HB1.out]; rfl, Lib.hid (by simp [hDd.out, List.replicate_succ']), Lib.hid (by simp [hBk.out, List.replicate_succ']), HT3.out⟩
          case measure => simp [intOf]; omega
        · have hi0 : i = D := by omega
          subst hi0
          have k3 : ¬ (i : Int) < (i : Int) := by omega
          have q1 : (Dd.size : Int) ≤ 33 := by omega
          have q2 : (Bk.size : Int) ≤ 33 := by omega
          have HDS := Lib.hid (show (Dd ++ Bk).data.toList = deepL i by simp [deepL, hDd.out, hBk.out])
          clear hid hd1 hb1
          have BC := fun W => BytesIn.conv W (Dd ++ Bk)
          have CO := Lib.hid (fun W => bytesW_only W 5 (Dd ++ Bk))
          rw [HDS.out] at BC
          have BC := Lib.hid BC
          go_wp2_with fail
          refine (HP2.out _ _ (by have h := BC.out wr; simpa using h) (HT.out.only (HT3.out.trans (CO.out wr)))).mono ?_
          rintro r0 w4 ⟨⟨ka2, ta2, sa2, na2, ca2, sb2, nb2, cb2, a2, rfl, ha2⟩, t4⟩
          have H4 := Lib.hid (((HT3.out.trans (CO.out wr)).trans t4).alloc (.cells #[.int .i64 ka2, txt ta2, .slice sa2 na2 ca2, .slice sb2 nb2 cb2] 25))
          have HA2 := Lib.hid ha2
          clear t4 ha2 BC CO HDS
          go_wp2_with fail
          go_loopw [15, 16] (fun mv iv wx => ∃ (j : Nat) (S : ByteArray), mv = .string S ∧ iv = .int .i64 ((j + 1 : Nat) : Int) ∧ j + 1 ≤ K ∧ S.size = 2 * j + 2 ∧ Hid (S.data.toList = [91, 49] ++ moreL j) ∧ Only w wx) (fun _ iv _ => K - (intOf iv).toNat)
          case atStart => exact ⟨0, ⟨#[91, 49]⟩, rfl, rfl, by omega, rfl, Lib.hid rfl, H4.out⟩
          case round =>
            clear H4
            obtain ⟨j, S, rfl, rfl, hj, hs1, hS, ht⟩ := hrel
            have HT5 := Lib.hid ht
            clear ht
            obtain ⟨j1, hj1⟩ : ∃ j1 : Nat, j1 = j + 1 := ⟨_, rfl⟩
            rw [← hj1] at hj ⊢
            have q3 : (S.size : Int) ≤ 10000 := by omega
            by_cases hjk : j1 < K
            · have k4 : (j1 : Int) < (K : Int) := by omega
              have HS1 := Lib.hid hs1
              have HJ1 := Lib.hid hj1
              clear hs1 hj1
              go_wp2_with fail
              go_roundw
              case rel => exact ⟨j + 1, _, rfl, by congr 1; have := HJ1.out; omega, by have := HJ1.out; omega, by rw [ByteArray.size_append, HS1.out]; show 2 * j + 2 + 2 = _; omega, Lib.hid (by simp [hS.out, moreL]), HT5.out⟩
              case measure => simp [intOf]; omega
            · have hjK : j1 = K := by omega
              subst hjK
              have k4 : ¬ (j1 : Int) < (j1 : Int) := by omega
              have HDS := Lib.hid (show (S ++ ⟨#[93]⟩).data.toList = manyL (j1 - 1) by rw [hj1, Nat.add_sub_cancel]; simp [manyL, hS.out])
              have BC := fun W => BytesIn.conv W (S ++ ⟨#[93]⟩)
              have CO := Lib.hid (fun W => bytesW_only W 5 (S ++ ⟨#[93]⟩))
              rw [HDS.out] at BC
              have BC := Lib.hid BC
              clear hjk hs1 hj1
              go_wp2_with fail
              refine (HP3.out _ _ (by have h := BC.out wr; rw [ByteArray.size_append] at h; exact h) (HT.out.only (HT5.out.trans (CO.out wr)))).mono ?_
              rintro r0 w6 ⟨⟨ka3, ta3, sa3, na3, ca3, sb3, nb3, cb3, a3, rfl, ha3⟩, t6⟩
              have H6 := Lib.hid (((HT5.out.trans (CO.out wr)).trans t6).alloc (.cells #[.int .i64 ka3, txt ta3, .slice sa3 na3 ca3, .slice sb3 nb3 cb3] 25))
              have HA3 := Lib.hid ha3
              clear t6 ha3 BC CO HDS
              rcases HE.out with ⟨rfl, rfl, rfl, rfl⟩ | ⟨rfl, rfl, rfl, rfl⟩
              · obtain rfl := HA2.out rfl
                obtain rfl := HA3.out rfl
                go_wp2_with (go_at_call 11; refine (NM.out _ _).mono ?_; rintro r w'' ⟨rfl, rfl⟩)
                go_ret
                exact ⟨rfl, H6.out⟩
              · go_wp2_with (go_at_call 11; refine (NM.out _ _).mono ?_; rintro r w'' ⟨rfl, rfl⟩)
                go_ret
                exact ⟨rfl, H6.out⟩

theorem jsonLong_any {n : Int} (hn : -9223372036854775808 ≤ n ∧ n ≤ 9223372036854775807) {w : World} (hT : Tb w) : Calls Tryd.prog 5 #[.int .i64 n] w fun e w' => e = .returned (.bool true) ∧ Only w w' := by
  obtain ⟨r, hr⟩ : ∃ r, n.tmod 3 = r := ⟨_, rfl⟩
  have hr1 : -2 ≤ r ∧ r ≤ 2 := by
    have h1 := Int.tmod_lt_of_pos n (show (0 : Int) < 3 by decide)
    have h2 := Int.lt_tmod_of_pos n (show (0 : Int) < 3 by decide)
    omega
  obtain ⟨q, hq⟩ : ∃ q, (r + 3).tmod 3 = q := ⟨_, rfl⟩
  have hq2 : q = (r + 3) % 3 := by rw [← hq, Int.tmod_eq_emod_of_nonneg (by omega)]
  have hq3 : q = 0 ∨ q = 1 ∨ q = 2 := by omega
  rcases hq3 with rfl | rfl | rfl
  · obtain ⟨x1, q1, h1⟩ := parse_blanks 65534
    obtain ⟨x2, q2, h2⟩ := okB_is deep31
    obtain ⟨x3, q3, h3⟩ := parse_many (k := 998) (by omega)
    exact long_walk (m := -1) (L := 65535) (D := 31) (K := 999) (z := false) hr hr1 hq (by omega) (by omega) (by omega) (by omega) (by omega) (by decide) (pout_ok (by unfold longL; rw [List.length_cons, List.length_replicate]; omega) h1 _) (pout_ok (by unfold deepL; rw [List.length_append, List.length_replicate, List.length_replicate]; omega) h2 _) (pout_ok (by rw [manyL_length]; omega) h3 _) (Or.inr ⟨rfl, rfl, rfl, rfl⟩) hT
  · obtain ⟨x1, q1, h1⟩ := parse_blanks 65535
    obtain ⟨x2, q2, h2⟩ := okB_is deep32
    obtain ⟨x3, q3, h3⟩ := parse_many (k := 999) (by omega)
    exact long_walk (m := 0) (L := 65536) (D := 32) (K := 1000) (z := false) hr hr1 hq (by omega) (by omega) (by omega) (by omega) (by omega) (by decide) (pout_ok (by unfold longL; rw [List.length_cons, List.length_replicate]; omega) h1 _) (pout_ok (by unfold deepL; rw [List.length_append, List.length_replicate, List.length_replicate]; omega) h2 _) (pout_ok (by rw [manyL_length]; omega) h3 _) (Or.inr ⟨rfl, rfl, rfl, rfl⟩) hT
  · have h2 := badB_is deep33 (by decide)
    have h3 := parse_more (k := 1000) (Nat.le_refl _)
    exact long_walk (m := 1) (L := 65537) (D := 33) (K := 1001) (z := true) hr hr1 hq (by omega) (by omega) (by omega) (by omega) (by omega) (by decide) (pout_long (by unfold longL; rw [List.length_cons, List.length_replicate]; omega)) (pout_bad (by unfold deepL; rw [List.length_append, List.length_replicate, List.length_replicate]; omega) h2 (by decide)) (pout_bad (by rw [manyL_length]; omega) h3 (by decide)) (Or.inl ⟨rfl, rfl, rfl, rfl⟩) hT
end Go.Proofs.YtfcplpejifmohaaDoor
