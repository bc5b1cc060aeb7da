/-
  Digits of a number.
-/
import Derived.Test.YtagilpgplcphpaaNQuo2
import Derived.Test.YtagilpgplcphpaaBPlain6
import Derived.LoopTactic
import Derived.Laws.BytesString
import Derived.Lib.Hide
namespace Go.Proofs.Ytagilpgplcphpaa
open Go.RowKit Go.Shelf

def u8V (c : UInt8) : Value := .int .u8 c.toNat

/-- block B holds forty letters, the last of them l -/
def TextAt (w : World) (B : Nat) (n : Nat) (l : List UInt8) : Prop := ∃ cs : Array Value, w.heap[B]? = some (.cells cs 85) ∧ cs.size = 40 ∧ n ≤ 40 ∧ cs.toList.drop n = l.map u8V

theorem TextAt.only {w w' : World} {B n : Nat} {l : List UInt8} (h : TextAt w B n l) (t : Only w w') : TextAt w' B n l := by
  obtain ⟨cs, h1, h2⟩ := h
  exact ⟨cs, (t.block B (Array.getElem?_eq_some_iff.1 h1).1).trans h1, h2⟩
theorem TextAt.far {w : World} {B n p : Nat} {l : List UInt8} (h : TextAt w B n l) (e : B ≠ p) (j : Nat) (u : Value) : TextAt (w.setCell ⟨p, j, none⟩ u) B n l := by
  obtain ⟨cs, h1, h2⟩ := h
  exact ⟨cs, (heap_setCell_other e u).trans h1, h2⟩
theorem TextAt.lt {w : World} {B n : Nat} {l : List UInt8} (h : TextAt w B n l) : B < w.heap.size := by
  obtain ⟨cs, h1, h2⟩ := h
  exact (Array.getElem?_eq_some_iff.1 h1).1
theorem TextAt.cell {w : World} {B p : Nat} {l : List UInt8} (h : TextAt w B (p + 1) l) : (∃ x, w.cell? ⟨B, p, none⟩ = some x) ∧ w.frozen? ⟨B, p, none⟩ = false := by
  obtain ⟨cs, h1, h2, h3, h4⟩ := h
  exact ⟨⟨cs[p], by simp [World.cell?, h1, show p < cs.size by omega]⟩, by simp [World.frozen?, h1]⟩
theorem TextAt.put {w : World} {B p : Nat} {l : List UInt8} (h : TextAt w B (p + 1) l) (c : UInt8) : TextAt (w.setCell ⟨B, p, none⟩ (u8V c)) B p (c :: l) := by
  obtain ⟨cs, h1, h2, h3, h4⟩ := h
  refine ⟨cs.setIfInBounds p (u8V c), heap_setCell_same h1 _, by simpa using h2, by omega, ?_⟩
  have hp : p < cs.toList.length := by simp; omega
  simp only [Array.toList_setIfInBounds, List.map_cons]
  rw [List.drop_eq_getElem_cons (by simpa using hp), List.getElem_set_self, List.drop_set_of_lt (by omega), h4]

abbrev BysI (v : Value) (u : Value) (r : Nat) : Prop := ∀ w, Calls Try.prog 44 #[v, .int .u64 10] w fun e w' => e = .returned (.tuple #[u, .int .u64 (r : Int)]) ∧ Only w w'

/-- a letter as the walk reckons it -/
theorem letter (m : Nat) : IntKind.u8.wrap (48 + IntKind.u8.wrap ((m % 10 : Nat) : Int)) = (dig1 m).toNat := by
  have h : m % 10 < 10 := Nat.mod_lt _ (by decide)
  unfold dig1
  generalize m % 10 = d at *
  have h2 : (UInt8.ofNat (48 + d)).toNat = 48 + d := by simp [UInt8.toNat_ofNat]; omega
  rw [h2, IntKind.wrap_u8, IntKind.wrap_u8]; omega

/-- what the loop keeps -/
def StrAt (w wr : World) (A B : Nat) (hA lA : Int) (m k n : Nat) (s : Value) : Prop :=
  ∃ (bs : Nat) (i j : Int), s = .pointer (some ⟨bs, 0, none⟩) ∧ Own2 wr bs (.int .u64 i) (.int .u64 j) ∧ enc ((m / 10 ^ k : Nat) : Int) = .agg #[.int .u64 i, .int .u64 j] ∧ w.heap.size ≤ bs ∧ A ≠ bs ∧ B ≠ bs ∧
    Own2 wr A (.int .u64 hA) (.int .u64 lA) ∧ TextAt wr B n (lowDigits m k) ∧ Only w wr ∧ n + k = 40 ∧ k ≤ 39 ∧ (2 ≤ k → m / 10 ^ (k - 1) ≠ 0)

/-- the digits, `-` ahead or not: k of them -/
def StrIs (m : Nat) (b : Bool) (w : World) (e : Ending) (w' : World) : Prop :=
  (∃ k, 1 ≤ k ∧ m / 10 ^ k = 0 ∧ (2 ≤ k → m / 10 ^ (k - 1) ≠ 0) ∧ e = .returned (.string ⟨((if b then [45] else []) ++ lowDigits m k).toArray⟩)) ∧ Only w w'

theorem StrAt.next {w wr w2 : World} {A B : Nat} {hA lA p' q' : Int} {m k t bs : Nat} {u : Value} (h : StrAt w wr A B hA lA m k (t + 1) (.pointer (some ⟨bs, 0, none⟩))) (t2 : Only wr w2) (hB : B = w.heap.size + 1)
    (hu : u = .int .u8 ((48 + ((m / 10 ^ k % 10 : Nat) : Int)) % 256)) (e2 : enc ((m / 10 ^ k / 10 : Nat) : Int) = .agg #[.int .u64 p', .int .u64 q']) (hgo : k = 0 ∨ m / 10 ^ k ≠ 0) (h38 : k ≤ 38) :
    StrAt w ((((w2.setCell ⟨bs, 0, none⟩ (.int .u64 p')).setCell ⟨bs, 1, none⟩ (.int .u64 q')).setCell ⟨B, t, none⟩ u).alloc (.cells #[.int .u64 p', .int .u64 q'] 67)) A B hA lA m (k + 1) t (.pointer (some ⟨w2.heap.size, 0, none⟩)) := by
  obtain ⟨bs', i, j, es, o1, ek, n1, n2, n3, o2, tx, ht, hk, hk9, hk2⟩ := h
  simp only [Value.pointer.injEq, Option.some.injEq, Addr.mk.injEq, and_true] at es
  subst es
  have hu2 : u = u8V (dig1 (m / 10 ^ k)) := by
    rw [hu]
    unfold u8V dig1
    have h1 : m / 10 ^ k % 10 < 10 := Nat.mod_lt _ (by decide)
    generalize m / 10 ^ k % 10 = d at *
    have h2 : (UInt8.ofNat (48 + d)).toNat = 48 + d := by simp [UInt8.toNat_ofNat]; omega
    rw [h2]; congr 1; omega
  subst hu2
  have hB2 : A ≠ B ∨ A = B := by omega
  have z2 := t2.size
  have oA := (o2.only t2)
  have lA2 := o2.lt
  have lB2 := tx.lt
  have lb := o1.lt
  have TX := (((tx.only t2).far (by omega) 0 (.int .u64 p')).far (by omega) 1 (.int .u64 q')).put (dig1 (m / 10 ^ k))
  have hAB : A ≠ B := by
    rintro rfl
    obtain ⟨ty, a1⟩ := o2
    obtain ⟨cs, b1, b2, -⟩ := tx
    rw [a1] at b1
    simp only [Option.some.injEq, Obj.cells.injEq] at b1
    rw [← b1.1] at b2
    simp at b2
  have fin : Only w (((w2.setCell ⟨bs, 0, none⟩ (.int .u64 p')).setCell ⟨bs, 1, none⟩ (.int .u64 q')).setCell ⟨B, t, none⟩ (u8V (dig1 (m / 10 ^ k)))) := (((ht.trans t2).set n1 0 _).set n1 1 _).set (by omega) t _
  have hsz : (((w2.setCell ⟨bs, 0, none⟩ (.int .u64 p')).setCell ⟨bs, 1, none⟩ (.int .u64 q')).setCell ⟨B, t, none⟩ (u8V (dig1 (m / 10 ^ k)))).heap.size = w2.heap.size := by simp
  refine ⟨w2.heap.size, p', q', rfl, ?_, ?_, by have := ht.size; omega, by omega, by omega, (((oA.far n2 0 _).far n2 1 _).far hAB t _).alloc _, TX.only ((Only.refl _).alloc _), fin.alloc _, by omega, by omega, fun _ => ?_⟩
  · have := Own2.new (((w2.setCell ⟨bs, 0, none⟩ (.int .u64 p')).setCell ⟨bs, 1, none⟩ (.int .u64 q')).setCell ⟨B, t, none⟩ (u8V (dig1 (m / 10 ^ k)))) (.int .u64 p') (.int .u64 q') 67
    rwa [hsz] at this
  · rw [← e2, Nat.div_div_eq_div_mul, ← Nat.pow_succ]
  · rcases hgo with e | e
    · omega
    · simpa using e

theorem slice_forty (B n : Nat) (hn : n < 40) {x : Int} (hx : x = n) {L : Nat} (hL : 40 - n = L) (w : World) : (Instr.sliceAt 85 (.pointer (some ⟨B, 0, none⟩)) (some (.int .i64 x)) none none).run Try.prog w = .ok (.slice (some ⟨B, n, none⟩) L L) w := by
  subst hx hL
  have e40 : Try.prog.arrayLen 85 = 40 := by kernel_rfl
  have es : ∀ w : World, (sizeOf (Try.prog.elem 85)).run Try.prog w = .ok 1 w := fun w => by kernel_rfl
  have h := run_sliceAt_array_l (P := Try.prog) (t := 85) w ⟨B, 0, none⟩ (by kernel_rfl) .i64 (n : Int) (by omega) (by rw [e40]; omega)
  rw [h, es, e40]
  simp only [Result.andThen, slicedAt, Int.toNat_natCast]
  rw [if_neg (by omega)]
  simp [Addr.add]
  omega

theorem forty_string {W : World} {B n : Nat} {l : List UInt8} (h : ∀ j v, (l.map fun c => Value.int .u8 (c.toNat : Int))[j]? = some v → W.cell? ⟨B, n + j, none⟩ = some v) {L : Nat} (hl : l.length = L) :
    (convert 86 9 (.slice (some ⟨B, n, none⟩) L L)).run Try.prog W = .ok (.string ⟨l.toArray⟩) W := by
  rw [run_convert_bytes_string W 86 9 5 _ _ _ (by kernel_rfl) (by kernel_rfl) (by kernel_rfl)]
  have hc : (loadCells ⟨B, n, none⟩ L).run Try.prog W = .ok ((l.map fun c => (c.toNat : Int)).map (Value.int .u8)).toArray W := by
    have := run_loadCells_list (P := Try.prog) (w := W) ⟨B, n, none⟩ (l.map fun c => Value.int .u8 (c.toNat : Int)) (fun j v hj => by have := h j v hj; by_cases e : j = 0 <;> simp_all [Addr.add])
    simp only [List.length_map, hl] at this
    rw [this]; simp [Function.comp_def]
  rw [run_bytesToString W _ _ _ _ hc]
  congr 2
  have : ∀ (l : List UInt8) (s : ByteArray), (l.map fun c => (c.toNat : Int)).foldl (fun r n => r.push (UInt8.ofNat n.toNat)) s = ⟨s.data ++ l.toArray⟩ := by
    intro l
    induction l with
    | nil => intro s; simp
    | cons c l ih => intro s; simp only [List.map_cons, List.foldl_cons, ih]; simp [ByteArray.push]
  rw [this]; simp

theorem TextAt.cells {w : World} {B n : Nat} {l : List UInt8} (h : TextAt w B n l) : (∀ j v, (l.map fun c => Value.int .u8 (c.toNat : Int))[j]? = some v → w.cell? ⟨B, n + j, none⟩ = some v) ∧ l.length = 40 - n := by
  obtain ⟨cs, h1, h2, h3, h4⟩ := h
  refine ⟨fun j v hj => ?_, ?_⟩
  · change (l.map u8V)[j]? = some v at hj
    rw [← h4, List.getElem?_drop] at hj
    simp only [World.cell?, h1]
    simpa using hj
  · have := congrArg List.length h4
    simp at this
    omega

set_option maxHeartbeats 3200000 in
theorem string_walk {h l i j : Int} {b : Bool} {m : Nat} (hm : m < 340282366920938463463374607431768211456) (S : SizeIs (.agg #[.int .u64 h, .int .u64 l]) (.agg #[.int .u64 i, .int .u64 j])) (he : enc (m : Int) = .agg #[.int .u64 i, .int .u64 j])
    (D : ∀ n : Nat, n < 340282366920938463463374607431768211456 → ∀ p q p' q' : Int, enc (n : Int) = .agg #[.int .u64 p, .int .u64 q] → enc ((n / 10 : Nat) : Int) = .agg #[.int .u64 p', .int .u64 q'] → BysI (.agg #[.int .u64 p, .int .u64 q]) (.agg #[.int .u64 p', .int .u64 q']) (n % 10))
    (BL : BelowIs (.agg #[.int .u64 h, .int .u64 l]) b) (w : World) :
    Calls Try.prog 34 #[.agg #[.int .u64 h, .int .u64 l]] w (StrIs m b w) := by
  go_enter Try.func34, Try.ntmps34
  go_wp2_with fail
  go_at_call 40
  refine (S _).mono ?_
  rintro r w1 ⟨rfl, t1⟩
  have h0 : StrAt w (w1.alloc (.cells #[.int .u64 i, .int .u64 j] 67)) w.heap.size (w.heap.size + 1) h l m 0 40 (.pointer (some ⟨w1.heap.size, 0, none⟩)) := by
    have o1 := ((Own2.new w (.int .u64 h) (.int .u64 l) 24).alloc _).only t1
    have hs := t1.size
    simp at hs
    refine ⟨w1.heap.size, i, j, rfl, Own2.new _ _ _ _, by simpa using he, by omega, by omega, by omega, o1.alloc _, ?_, (((Only.refl w).alloc _).alloc _).trans t1 |>.alloc _, rfl, by omega, by omega⟩
    refine TextAt.only (w := w1) (TextAt.only ?_ t1) ((Only.refl w1).alloc _)
    refine ⟨_, by simpa using heap_alloc_new (w.alloc (.cells #[.int .u64 h, .int .u64 l] 24)) _, by simp, Nat.le_refl _, by simp [lowDigits]⟩
  have H0 := Lib.hid h0
  clear h0 t1
  obtain ⟨A, hA⟩ : ∃ A, A = w.heap.size := ⟨_, rfl⟩
  obtain ⟨B, hB⟩ : ∃ B, B = w.heap.size + 1 := ⟨_, rfl⟩
  rw [← hB, ← hA] at H0
  have HA := Lib.hid hA
  have HB := Lib.hid hB
  have HD := Lib.hid D
  have HM := Lib.hid hm
  clear D hm
  go_wp2_with fail
  rw [← hB, ← hA]
  clear hA hB
  go_loopw [4, 5] (fun at' s wr => ∃ k n : Nat, at' = .int .i64 n ∧ StrAt w wr A B h l m k n s) (fun at' _ _ => (intOf at').toNat)
  case atStart => exact ⟨0, 40, rfl, H0.out⟩
  case round =>
    obtain ⟨k, n, rfl, hs⟩ := hrel
    have HS := Lib.hid hs
    obtain ⟨bs, p, q, rfl, o1, ek, n1, n2, n3, o2, tx, ht, hk, hk9, hk2⟩ := hs
    obtain ⟨c1, c2, f1, f2, z1⟩ := o1.all
    obtain ⟨c3, c4, f3, f4, z2⟩ := o2.all
    have TX := Lib.hid tx
    have HT := Lib.hid ht
    have O1 := Lib.hid o1
    have O2 := Lib.hid o2
    have EK := Lib.hid ek
    have N := Lib.hid (And.intro n1 (And.intro n2 n3))
    have HK := Lib.hid hk
    have HK9 := Lib.hid hk9
    have HK2 := Lib.hid hk2
    clear tx ht o1 o2 ek n1 n2 n3 hk hk9 hk2
    have key : (k = 0 ∧ n = 40) ∨ (k ≠ 0 ∧ p = 0 ∧ q ≠ 0) ∨ (k ≠ 0 ∧ p ≠ 0) ∨ (k ≠ 0 ∧ p = 0 ∧ q = 0) := by have := HK.out; omega
    by_cases hgo : k = 0 ∨ m / 10 ^ k ≠ 0
    · have hk38 : k ≤ 38 := by
        rcases hgo with e | e
        · omega
        · have h1 : 10 ^ k ≤ m := by
            rcases Nat.lt_or_ge m (10 ^ k) with c | c
            · exact absurd (Nat.div_eq_of_lt c) e
            · exact c
          exact Nat.le_of_lt_succ ((Nat.pow_lt_pow_iff_right (by decide)).1 (Nat.lt_of_le_of_lt h1 (Nat.lt_of_lt_of_le HM.out (by decide : 340282366920938463463374607431768211456 ≤ 10 ^ 39))))
      obtain ⟨t, rfl⟩ : ∃ t, n = t + 1 := ⟨n - 1, by have := HK.out; omega⟩
      have hnz : k ≠ 0 → ¬ (p = 0 ∧ q = 0) := fun hk0 => by
        rcases hgo with e | e
        · exact absurd e hk0
        · rintro ⟨rfl, rfl⟩
          have hlt : m / 10 ^ k < 340282366920938463463374607431768211456 := Nat.lt_of_le_of_lt (Nat.div_le_self _ _) HM.out
          have e1 := EK.out
          generalize m / 10 ^ k = x at e e1 hlt
          simp only [enc, Value.agg.injEq, Array.mk.injEq, List.cons.injEq, Value.int.injEq, true_and, and_true] at e1
          omega
      have htt : (t : Int) < 40 := by have := HK.out; omega
      obtain ⟨p', q', -, -, -, -, -, e2⟩ := enc_words ((m / 10 ^ k / 10 : Nat) : Int)
      have T := HD.out (m / 10 ^ k) (Nat.lt_of_le_of_lt (Nat.div_le_self _ _) HM.out) p q p' q' EK.out e2
      have hkey2 : (k = 0 ∧ ((t : Int) + 1 == 40) = true) ∨ (((t : Int) + 1 == 40) = false ∧ p = 0 ∧ q ≠ 0) ∨ (((t : Int) + 1 == 40) = false ∧ p ≠ 0) := by
        have := HK.out
        rcases key with ⟨a, b⟩ | ⟨a, b, c⟩ | ⟨a, b⟩ | ⟨a, b, c⟩
        · exact Or.inl ⟨a, by simp; omega⟩
        · exact Or.inr (Or.inl ⟨by simp; omega, b, c⟩)
        · exact Or.inr (Or.inr ⟨by simp; omega, b⟩)
        · exact absurd ⟨b, c⟩ (hnz a)
      have HGO := Lib.hid hgo
      have HK38 := Lib.hid hk38
      have E2 := Lib.hid e2
      clear key hgo hk38 hnz e2
      obtain ⟨d, hd⟩ : ∃ d, d = m / 10 ^ k % 10 := ⟨_, rfl⟩
      rw [← hd] at T
      have DD := Lib.hid hd
      clear hd
      rcases hkey2 with ⟨rfl, hn⟩ | ⟨hn, rfl, hq⟩ | ⟨hn, hp⟩
      all_goals
        go_wp2_with fail
        go_at_call 44
        refine (T _).mono ?_
        rintro r w2 ⟨rfl, t2⟩
        have tx2 := TX.out.only t2
        obtain ⟨⟨x0, x1⟩, x2⟩ := tx2.cell
        obtain ⟨d1, d2, g1, g2, y1⟩ := (O1.out.only t2).all
        have nb1 : ¬ B = bs := N.out.2.2
        have nb2 : ¬ bs = B := fun e => nb1 e.symm
        have TX2 := Lib.hid tx2
        have T2 := Lib.hid t2
        clear tx2 t2 c1 c2 c3 c4 f1 f2 f3 f4 z1 z2 T
        go_wp2_with fail
        go_roundw
        case rel => exact ⟨_, t, rfl, HS.out.next T2.out HB.out (by rw [← DD.out]) E2.out (by first | exact Or.inl rfl | exact HGO.out) HK38.out⟩
        case measure => simp [intOf]
    · have hk0 : k ≠ 0 := fun e => hgo (Or.inl e)
      have hmz : m / 10 ^ k = 0 := by
        rcases Nat.eq_zero_or_pos (m / 10 ^ k) with e | e
        · exact e
        · exact absurd (Or.inr (by omega)) hgo
      have e1 := EK.out
      rw [hmz] at e1
      have hpq : p = 0 ∧ q = 0 := by
        simp only [enc, Value.agg.injEq, Array.mk.injEq, List.cons.injEq, Value.int.injEq, true_and, and_true] at e1
        omega
      obtain ⟨rfl, rfl⟩ := hpq
      obtain ⟨t, rfl⟩ : ∃ t, n = t + 1 := ⟨n - 1, by have := HK.out; have := HK9.out; omega⟩
      have hn : ((t : Int) + 1 == 40) = false := by have := HK.out; simp; omega
      have htt : (t : Int) + 1 < 40 := by have := HK.out; omega
      have HMZ := Lib.hid hmz
      have HK0 := Lib.hid hk0
      clear key hgo hmz hk0 e1
      go_wp2_with fail
      go_at_call 39
      refine (BL _).mono ?_
      rintro r w2 ⟨rfl, t2⟩
      have tx2 := TX.out.only t2
      obtain ⟨⟨x0, x1⟩, x2⟩ := tx2.cell
      have TX2 := Lib.hid tx2
      have T2 := Lib.hid t2
      clear tx2 t2 c1 c2 c3 c4 f1 f2 f3 f4 z1 z2
      have HT0 := TX2.out
      obtain ⟨L, hL⟩ : ∃ L, 40 - (t + 1) = L := ⟨_, rfl⟩
      obtain ⟨L', hL'⟩ : ∃ L, 40 - t = L := ⟨_, rfl⟩
      have hlen := lowDigits_length m k
      cases b
      · have sl := slice_forty B (t + 1) (by have := HK.out; have := HK9.out; omega) (x := (t : Int) + 1) (by omega) hL
        obtain ⟨cc, cl⟩ := HT0.cells
        have cv := forty_string cc (cl.trans hL)
        clear hL hL' hlen cl cc HT0 x1 x2
        go_wp2_with fail
        go_ret
        exact ⟨⟨k, by have := HK0.out; omega, HMZ.out, HK2.out, by simp⟩, HT.out.trans T2.out⟩
      · have ht0 : t < 40 := by have := HK.out; omega
        have sl := slice_forty B t ht0 (x := (t : Int)) rfl hL'
        have hp := HT0.put 45
        rw [show u8V 45 = .int .u8 45 from rfl] at hp
        obtain ⟨cc, cl⟩ := hp.cells
        clear hp
        have cv := forty_string cc (cl.trans hL')
        have hB9 : w.heap.size ≤ B := by have := HB.out; omega
        clear hL hL' hlen cl cc HT0 ht0
        go_wp2_with fail
        go_ret
        exact ⟨⟨k, by have := HK0.out; omega, HMZ.out, HK2.out, by simp⟩, (HT.out.trans T2.out).set hB9 t _⟩
end Go.Proofs.Ytagilpgplcphpaa
