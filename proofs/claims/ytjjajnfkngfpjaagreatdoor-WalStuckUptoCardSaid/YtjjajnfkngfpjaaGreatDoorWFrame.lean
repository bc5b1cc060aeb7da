/-
  word, putWord, copied, Frame.
-/
import Derived.Test.YtjjajnfkngfpjaaGreatDoorWSum
import Derived.Laws.BitsAll
import Derived.Laws.ShiftsVar
import Derived.StillTailTactics
namespace Go.Proofs.YtjjajnfkngfpjaaGreatDoor
open Go.RowKit Go.Maps Go.WideMaps

section
variable {w w' : World} {p : Nat} {S S' : Fsp.Fs} {c c' : Bool} {Q : Nat → Prop} {mo : Option Nat} {pl : List UInt8 → Pl}

/-- block g holds these bytes -/
def BufAt (w : World) (g : Nat) (l : List UInt8) : Prop := w.heap[g]? = some (.cells (l.map byteV).toArray 5 (0, 0))

theorem BufAt.cell {g : Nat} {l : List UInt8} (h : BufAt w g l) {j : Nat} {x : UInt8} (hj : l[j]? = some x) : w.cell? ⟨g, j, none⟩ = some (byteV x) := by
  unfold World.cell?
  unfold BufAt at h
  simp only [h]
  simp [hj]

theorem BufAt.frozen {g : Nat} {l : List UInt8} (h : BufAt w g l) (j : Nat) : w.frozen? ⟨g, j, none⟩ = false := by
  unfold BufAt at h
  simp [World.frozen?, h]

theorem BufAt.set {g : Nat} {l : List UInt8} (h : BufAt w g l) (j : Nat) (x : UInt8) : BufAt (w.setCell ⟨g, j, none⟩ (byteV x)) g (l.set j x) := by
  unfold BufAt at *
  rw [heap_setCell_same h]
  simp [List.map_set]

def put (l : List UInt8) (off : Nat) (d : List UInt8) : List UInt8 := l.take off ++ (d ++ l.drop (off + d.length))

theorem put_nil (l : List UInt8) (off : Nat) : put l off [] = l := by unfold put; simp

theorem put_snoc {l : List UInt8} {off : Nat} {d : List UInt8} {x : UInt8} (h : off + d.length < l.length) : (put l off d).set (off + d.length) x = put l off (d ++ [x]) := by
  unfold put
  have e : (l.take off).length = off := by simp; omega
  rw [List.set_append_right _ _ (by omega), e, Nat.add_sub_cancel_left, List.set_append_right _ _ (Nat.le_refl _), Nat.sub_self]
  rw [List.drop_eq_getElem_cons h, List.set_cons_zero]
  simp [Nat.add_assoc]

theorem put_length {l : List UInt8} {off : Nat} {d : List UInt8} (h : off + d.length ≤ l.length) : (put l off d).length = l.length := by
  unfold put; simp; omega

theorem le_snoc (x k : Nat) : Walp.le x (k + 1) = Walp.le x k ++ [UInt8.ofNat (x / 256 ^ k)] := by
  induction k generalizing x with
  | zero => simp [Walp.le]
  | succ k ih =>
    rw [Walp.le, ih, Walp.le, List.cons_append, Nat.div_div_eq_div_mul, Nat.pow_succ, Nat.mul_comm 256]

theorem byteV_ofNat (n : Nat) : byteV (UInt8.ofNat n) = .int .u8 ((n % 256 : Nat) : Int) := by
  unfold byteV; rw [UInt8.toNat_ofNat']

theorem put_step {wr : World} {g off k x : Nat} {l : List UInt8} (hs : BufAt (wr.setCell ⟨g, off + k, none⟩ (.int .u8 ((x / 256 ^ k % 256 : Nat) : Int))) g l) (ht : Turn (fun b => b = g) w wr) {v : Int} (e : ((x / 256 ^ k % 256 : Nat) : Int) = v) :
    BufAt (wr.setCell ⟨g, off + k, none⟩ (.int .u8 v)) g l ∧ Turn (fun b => b = g) w (wr.setCell ⟨g, off + k, none⟩ (.int .u8 v)) := by
  rw [e] at hs
  exact ⟨hs, ht.set g _ (Or.inl rfl) _⟩

set_option maxRecDepth 100000 in
set_option maxHeartbeats 1000000 in
theorem putWord_any {g off n cap : Nat} {l : List UInt8} (x : Nat) (hx : x < 4294967296) (h : BufAt w g l) (hn : 4 ≤ n) (hl : off + 4 ≤ l.length) :
    Calls Tryz.prog 59 #[.slice (some ⟨g, off, none⟩) n cap, .int .u32 (x : Int)] w fun r w' => r = .returned (.tuple #[]) ∧ BufAt w' g (put l off (Walp.le4 x)) ∧ Turn (fun b => b = g) w w' := by
  have HB := Lib.hid h
  clear h
  have hn' : (4 : Int) ≤ (n : Int) := by omega
  go_enter Tryz.func59, Tryz.ntmps59
  go_wp2_with fail
  go_loopw [5] (fun i wr => ∃ k : Nat, k ≤ 4 ∧ i = .int .i64 k ∧ BufAt wr g (put l off (Walp.le x k)) ∧ Turn (fun b => b = g) w wr) (fun i _ => 4 - (intOf i).toNat)
  case atStart => exact ⟨0, Nat.zero_le _, rfl, by rw [Walp.le, put_nil]; exact HB.out, Turn.refl _ _⟩
  case round =>
    obtain ⟨k, hk, rfl, hb, ht⟩ := hrel
    have HBB := Lib.hid hb
    have HT := Lib.hid ht
    clear hb ht
    by_cases hlt : k < 4
    · have hlen : (put l off (Walp.le x k)).length = l.length := put_length (by rw [Walp.le_length]; omega)
      obtain ⟨y, hy⟩ : ∃ y, (put l off (Walp.le x k))[off + k]? = some y := ⟨_, List.getElem?_eq_getElem (by omega)⟩
      have cy := HBB.out.cell hy
      have fy := HBB.out.frozen (off + k)
      have hset := HBB.out.set (off + k) (UInt8.ofNat (x / 256 ^ k))
      have hps := put_snoc (l := l) (off := off) (d := Walp.le x k) (x := UInt8.ofNat (x / 256 ^ k)) (by rw [Walp.le_length]; omega)
      rw [Walp.le_length, ← le_snoc] at hps
      rw [hps, byteV_ofNat] at hset
      have HS := Lib.hid hset
      clear hps hset hlen hy
      unfold byteV at cy
      have HK := fun (v : Int) (e : ((x / 256 ^ k % 256 : Nat) : Int) = v) => put_step HS.out HT.out e
      rcases (show k = 0 ∨ k = 1 ∨ k = 2 ∨ k = 3 by omega) with rfl | rfl | rfl | rfl
      all_goals
        (try simp only [Nat.add_zero] at cy fy)
        have H2 := Lib.hid HK
        clear HK
        go_wp2
        go_roundw
        case rel => exact ⟨_, by omega, by go_num, (H2.out _ (by omega)).1, (H2.out _ (by omega)).2⟩
        case measure => simp [intOf]
    · have hk0 : k = 4 := by omega
      subst hk0
      go_wp2
      go_end0
      exact ⟨rfl, HBB.out, HT.out⟩

set_option maxHeartbeats 400000 in
theorem wCopied_any {v : Value} {data : List UInt8} (h : SliceR w v data) (hl : data.length ≤ 281474976710656) :
    Calls Tryz.prog 57 #[v] w fun r w' => ∃ g, r = .returned (.slice (some ⟨g, 0, none⟩) data.length data.length) ∧ w'.ownsRow w.heap.size 5 1 (.slice (some ⟨g, 0, none⟩) data.length data.length) data.length (data.map byteV) ∧ Turn (fun _ => False) w w' := by
  have hmax : data.length ≤ maxLen := by unfold maxLen; omega
  obtain ⟨sp, cap, rfl, hsrc⟩ := h
  obtain ⟨i0, hi, hz0, hz1, hz2⟩ := info_parts Tryz.infoU8
  go_enter Tryz.func57, Tryz.ntmps57
  go_wp2_with (at_make; refine wpList_make_full _ rfl _ _ 37 rfl w.heap.size 5 i0 (.int .u8 0) 1 Tryz.underlying37 hi hz0 hz1 _ _ _ _ data.length rfl rfl rfl rfl ?b1 ?b2 ?b3 ?_)
  case b1 => rw [hz2]; omega
  case b2 => unfold maxLen; omega
  case b3 => omega
  intro w1 hown hgrow
  have hcopy : ∃ cur : List Value, cur.length = data.length ∧ w1.heap[w.heap.size]? = some (.cells cur.toArray 5 (0, 0)) := by
    rcases hown.2 with ⟨hv, _⟩ | ⟨g, cap', cur, hv, hg, hh, h1, h2, h3, h4⟩
    · cases hv
    · simp only [Value.slice.injEq, Option.some.injEq, Addr.mk.injEq] at hv
      obtain ⟨⟨rfl, _⟩, _, rfl⟩ := hv
      exact ⟨cur.toList, by simp [h3], by rw [hh]⟩
  obtain ⟨cur, hcl, hcw⟩ := hcopy
  have hsz1 : (Tryz.prog.info? 5).map (·.size) = some 1 := by rw [hi]; simp [hz1]
  have hpos : 0 < (data.map byteV).length → some (⟨w.heap.size, 0, none⟩ : Addr) = some ⟨w.heap.size, 0, none⟩ ∧ ∃ ad, sp = some ad ∧ ∀ j v, (data.map byteV)[j]? = some v → w1.cell? (ad.add j) = some v := by
    intro h0
    obtain ⟨ad, e1, e2⟩ := hsrc (by simpa using h0)
    refine ⟨rfl, ad, e1, fun j v hj => ?_⟩
    rw [List.getElem?_map] at hj
    obtain ⟨x, hx, rfl⟩ := Option.map_eq_some_iff.1 hj
    exact hgrow.cell (e2 j x hx) (by simp)
  have hn : (data.map byteV).length = Nat.min data.length data.length := by simp
  have hfit : 0 + (data.map byteV).length ≤ cur.length := by simp [hcl]
  have h1 : ∀ v ∈ data.map byteV, v.oneCell' = true := by
    intro v hv
    obtain ⟨x, _, rfl⟩ := List.mem_map.1 hv
    rfl
  have hb : Below w.heap.size w w1 := (Below.refl _ _).grown hgrow (Nat.le_refl _) (fun k h => by cases h)
  obtain ⟨X, hX⟩ : ∃ X, X = data.map byteV := ⟨_, rfl⟩
  rw [← hX] at hpos hn hfit h1
  have HX := Lib.hid hX
  have HS := Lib.hid hpos
  have HC := Lib.hid hcw
  have HD := Lib.hid hfit
  have HN := Lib.hid hn
  have HL := Lib.hid hcl
  clear hl hsrc hpos hcw hown hgrow hX hfit hn hcl
  go_wp2_with (with_reducible refine wpList_copy_splice rfl (.tmp 7) (.tmp 8) 37 37 rfl 5 Tryz.underlying37 hsz1 (some ⟨w.heap.size, 0, none⟩) sp data.length data.length data.length cap rfl rfl w.heap.size 0 cur 5 HC.out X HN.out HS.out HD.out h1 w.heap.size w hb (Nat.le_refl _) ?_)
  intro w2 hw2 hb2
  go_wp2
  go_ret
  have hsp : splice cur 0 X = data.map byteV := by
    have h0 : X.length = data.length := by rw [HX.out]; simp
    unfold splice
    rw [List.take_zero, List.nil_append, List.drop_eq_nil_of_le (by rw [Nat.zero_add, h0, HL.out]; exact Nat.le_refl _), List.append_nil, HX.out]
  have hw2' := hw2.out
  rw [hsp] at hw2'
  exact ⟨_, rfl, ⟨by simp, Or.inr ⟨w.heap.size, data.length, _, rfl, Nat.le_refl _, hw2', Nat.le_refl _, hmax, by simp, List.take_of_length_le (by simp)⟩⟩, Below.turn hb2 _⟩

/-- where such bytes lie -/
theorem cells_at {ad : Addr} {b : List UInt8} (h : ∀ j x, b[j]? = some x → w.cell? (ad.add j) = some (byteV x)) (h0 : 0 < b.length) :
    ∃ g off, ad = ⟨g, off, none⟩ ∧ ∀ j x, b[j]? = some x → w.cell? ⟨g, off + j, none⟩ = some (byteV x) := by
  obtain ⟨g, off, spot⟩ := ad
  have hs := World.cell?_spot (h 0 b[0] (by simp))
  have hspot : spot = none := by simpa [Addr.add] using hs
  subst hspot
  refine ⟨g, off, rfl, fun j x hj => ?_⟩
  have := h j x hj
  have e : (⟨g, off, none⟩ : Addr).add j = ⟨g, off + j, none⟩ := by unfold Addr.add; split <;> simp_all
  rwa [e] at this

theorem or_join (i a b : Nat) (ha : a < 2 ^ i) (h : 2 ^ i * b + a < 4294967296) : bits .or .u32 (a : Int) ((2 ^ i * b : Nat) : Int) = ((2 ^ i * b + a : Nat) : Int) := by
  rw [u32_or_nat _ _ (by omega) (by omega), Nat.or_comm, ← Nat.two_pow_add_eq_or_of_lt ha]

theorem or_word (a b c d : Nat) (ha : a < 2 ^ 8) (hb : b < 2 ^ 8) (hc : c < 2 ^ 8) (hd : d < 2 ^ 8) :
    bits .or .u32 (bits .or .u32 (bits .or .u32 (a : Int) ((b : Int) * 256)) ((c : Int) * 65536)) ((d : Int) * 16777216) = ((a + 256 * (b + 256 * (c + 256 * d)) : Nat) : Int) := by
  have e1 : (b : Int) * 256 = ((2 ^ 8 * b : Nat) : Int) := by omega
  have e2 : (c : Int) * 65536 = ((2 ^ 16 * c : Nat) : Int) := by omega
  have e3 : (d : Int) * 16777216 = ((2 ^ 24 * d : Nat) : Int) := by omega
  rw [e1, or_join 8 a b ha (by omega), e2, or_join 16 _ c (by omega) (by omega), e3, or_join 24 _ d (by omega) (by omega)]
  congr 1
  omega

theorem made_list (n : Nat) : (madeCells #[.int .u8 0] n).toList = (List.replicate n (0 : UInt8)).map byteV := by
  rw [List.map_replicate]
  refine List.eq_replicate_iff.2 ⟨by simp [madeCells], fun x hx => ?_⟩
  unfold madeCells at hx
  simp only [Array.toList_map, List.mem_map] at hx
  obtain ⟨i, _, rfl⟩ := hx
  simp [Nat.mod_one]

theorem num4 (x0 x1 x2 x3 : UInt8) : Walp.num [x0, x1, x2, x3] = x0.toNat + 256 * (x1.toNat + 256 * (x2.toNat + 256 * x3.toNat)) := by simp [Walp.num]

set_option maxRecDepth 100000 in
set_option maxHeartbeats 1000000 in
theorem word_any {v : Value} {b : List UInt8} (h : SliceR w v b) (hl : b.length ≤ maxLen) (h4 : 4 ≤ b.length) :
    Calls Tryz.prog 77 #[v] w fun r w' => r = .returned (.int .u32 (Walp.num (b.take 4) : Nat)) ∧ Like w w' := by
  obtain ⟨sp, cap, rfl, hcell⟩ := h
  unfold maxLen at hl
  obtain ⟨ad, rfl, x⟩ := hcell (by omega)
  match b, h4 with
  | x0 :: x1 :: x2 :: x3 :: r, h4 =>
    obtain ⟨g, off, rfl, y⟩ := cells_at x (by simp)
    have c0 := y 0 x0 rfl
    have c1 := y 1 x1 rfl
    have c2 := y 2 x2 rfl
    have c3 := y 3 x3 rfl
    rw [Nat.add_zero] at c0
    have l0 := x0.toNat_lt
    have l1 := x1.toNat_lt
    have l2 := x2.toNat_lt
    have l3 := x3.toNat_lt
    have ht : (x0 :: x1 :: x2 :: x3 :: r).take 4 = [x0, x1, x2, x3] := by simp
    rw [ht, num4]
    obtain ⟨n, hn⟩ : ∃ n, (x0 :: x1 :: x2 :: x3 :: r).length = n := ⟨_, rfl⟩
    rw [hn] at hl h4 ⊢
    have i0 : (0 : Int) < (n : Int) := by omega
    have i1 : (1 : Int) < (n : Int) := by omega
    have i2 : (2 : Int) < (n : Int) := by omega
    have i3 : (3 : Int) < (n : Int) := by omega
    have j0 : 0 < n := by omega
    have j1 : 1 < n := by omega
    have j2 : 2 < n := by omega
    have j3 : 3 < n := by omega
    unfold byteV at c0 c1 c2 c3
    clear x y hcell hn ht h4
    go_enter Tryz.func77, Tryz.ntmps77
    go_wp2_with fail
    go_quiet (fail)
    go_wp2
    go_ret
    refine ⟨ret_int ?_, like_drewN _ _⟩
    exact or_word _ _ _ _ l0 l1 l2 l3

theorem own_buf {base g n : Nat} {l : List UInt8} (h : w.ownsRow base 5 1 (.slice (some ⟨g, 0, none⟩) n n) n (l.map byteV)) : BufAt w g l ∧ base ≤ g := by
  rcases h.2 with ⟨hv, _⟩ | ⟨g', cap', cur, hv, hg, hh, h1, h2, h3, h4⟩
  · cases hv
  · simp only [Value.slice.injEq, Option.some.injEq, Addr.mk.injEq] at hv
    obtain ⟨⟨rfl, _⟩, _, rfl⟩ := hv
    refine ⟨?_, hg⟩
    unfold BufAt
    have e : cur.toList = l.map byteV := by rw [← h4, List.take_of_length_le (by rw [Nat.mul_one]; simp; omega)]
    rw [hh, ← e]

theorem buf_own {base g : Nat} {l : List UInt8} (h : BufAt w g l) (hg : base ≤ g) (hl : l.length ≤ maxLen) : w.ownsRow base 5 1 (.slice (some ⟨g, 0, none⟩) l.length l.length) l.length (l.map byteV) :=
  ⟨by simp, Or.inr ⟨g, l.length, _, rfl, hg, h, Nat.le_refl _, hl, by simp, List.take_of_length_le (by simp)⟩⟩

theorem put_put {A B : List UInt8} (n : Nat) (hA : A.length = 4) (hB : B.length = 4) : put (put (List.replicate (8 + n) 0) 0 A) 4 B = A ++ (B ++ List.replicate n 0) := by
  have e1 : put (List.replicate (8 + n) 0) 0 A = A ++ List.replicate (4 + n) 0 := by
    unfold put; rw [hA]; simp [List.drop_replicate]; omega
  rw [e1]
  unfold put
  rw [hB, List.take_append_of_le_length (by omega), List.take_of_length_le (by omega)]
  have e2 : (A ++ List.replicate (4 + n) (0 : UInt8)).drop (4 + 4) = List.replicate n 0 := by
    rw [List.drop_append, List.drop_of_length_le (by omega), hA, List.drop_replicate]
    simp
  rw [e2]

theorem splice_frame {b A B : List UInt8} (hA : A.length = 4) (hB : B.length = 4) : splice ((A ++ (B ++ List.replicate b.length 0)).map byteV) 8 (b.map byteV) = (A ++ (B ++ b)).map byteV := by
  unfold splice
  have e1 : ((A ++ (B ++ List.replicate b.length 0)).map byteV).take 8 = (A ++ B).map byteV := by
    rw [← List.map_take, ← List.append_assoc, List.take_append_of_le_length (by simp; omega), List.take_of_length_le (by simp; omega)]
  have e2 : ((A ++ (B ++ List.replicate b.length 0)).map byteV).drop (8 + (b.map byteV).length) = [] := List.drop_of_length_le (by simp; omega)
  rw [e1, e2]
  simp

set_option maxRecDepth 100000 in
set_option maxHeartbeats 1000000 in
theorem frame_nil {v : Value} (hT : SumTab w) (h : SliceR w v []) :
    Calls Tryz.prog 25 #[v] w fun r w' => ∃ g, r = .returned (.slice (some ⟨g, 0, none⟩) 8 8) ∧ w'.ownsRow w.heap.size 5 1 (.slice (some ⟨g, 0, none⟩) 8 8) 8 ((Walp.frame []).map byteV) ∧ Turn (fun _ => False) w w' := by
  have hR := h
  obtain ⟨sp, cap, rfl, hsrc⟩ := h
  obtain ⟨i0, hi, hz0, hz1, hz2⟩ := info_parts Tryz.infoU8
  have HR := Lib.hid hR
  have HT := Lib.hid hT
  have hsz1 : (Tryz.prog.info? 5).map (·.size) = some 1 := by rw [hi]; simp [hz1]
  clear hR hsrc hT
  rw [List.length_nil] at HR ⊢
  go_enter Tryz.func25, Tryz.ntmps25
  go_wp2_with (at_make; refine wpList_make_full _ rfl _ _ 37 rfl w.heap.size 5 i0 (.int .u8 0) 1 Tryz.underlying37 hi hz0 hz1 _ _ _ _ 8 rfl rfl rfl rfl ?b1 ?b2 ?b3 ?_)
  case b1 => rw [hz2]; omega
  case b2 => unfold maxLen; omega
  case b3 => omega
  intro w1 hown hgrow
  go_wp2_with fail
  obtain ⟨h1, _⟩ := own_buf (l := List.replicate 8 0) (by rw [← made_list]; exact hown)
  have t1 : Turn (fun _ => False) w w1 := (Turn.refl _ w).grown hgrow (fun k e => by cases e)
  have H1 := Lib.hid h1
  have T1 := Lib.hid t1
  clear h1 t1 hown hgrow
  go_at_call 59
  refine (putWord_any (w := w1) (g := w.heap.size) (off := 0) 0 (by omega) H1.out (by omega) (by simp)).mono ?_
  rintro r w2 ⟨rfl, h2, t2⟩
  have T2 := Lib.hid (T1.out.trans t2 (fun i hi e => by omega))
  have h2d : BufAt w2.drew w.heap.size (put (List.replicate 8 0) 0 (Walp.le4 0)) := h2
  have H2D := Lib.hid h2d
  clear h2 t2 h2d
  go_wp2_with fail
  go_region_with (first | (go_at_call 27; refine (sum_any (HT.out.turned (T2.out.drew)) (HR.out.turned T2.out.drew) (by simp)).mono ?_; rintro r w3 ⟨rfl, rfl⟩) | (go_at_call 59; refine (putWord_any (Walp.sum []) (Walp.sum_lt []) H2D.out (by omega) (by decide)).mono ?_; rintro r w3 ⟨rfl, h3, t3⟩))
  all_goals
    have T3 := Lib.hid (T2.out.drew.trans t3 (fun i hi e => by omega))
    have H3 := Lib.hid h3
    clear h3 t3
    go_wp2_with (with_reducible refine wpList_copy_nothing rfl (.tmp 19) (.tmp 20) 37 37 rfl 5 Tryz.underlying37 hsz1 _ sp _ _ 0 cap rfl rfl (Nat.min_zero _) ?_)
    go_ret
    have e3 : put (put (List.replicate 8 (0 : UInt8)) 0 (Walp.le4 0)) 4 (Walp.le4 (Walp.sum [])) = Walp.frame [] := by decide
    have h3 := H3.out
    rw [e3] at h3
    have hown := buf_own (w := w3) (base := w.heap.size) (g := w.heap.size) (l := Walp.frame []) h3 (Nat.le_refl _) (by rw [Walp.frame_length]; unfold maxLen; simp)
    rw [Walp.frame_length] at hown
    exact ⟨_, rfl, hown, T3.out⟩

set_option maxRecDepth 100000 in
set_option maxHeartbeats 1000000 in
theorem frame_some {v : Value} {b : List UInt8} (hne : ¬ b = []) (hT : SumTab w) (h : SliceR w v b) (hl : b.length ≤ 1048576) :
    Calls Tryz.prog 25 #[v] w fun r w' => ∃ g, r = .returned (.slice (some ⟨g, 0, none⟩) (8 + b.length) (8 + b.length)) ∧ w'.ownsRow w.heap.size 5 1 (.slice (some ⟨g, 0, none⟩) (8 + b.length) (8 + b.length)) (8 + b.length) ((Walp.frame b).map byteV) ∧ Turn (fun _ => False) w w' := by
  have hR := h
  obtain ⟨sp, cap, rfl, hsrc⟩ := h
  obtain ⟨i0, hi, hz0, hz1, hz2⟩ := info_parts Tryz.infoU8
  have HR := Lib.hid hR
  have HS := Lib.hid hsrc
  have HT := Lib.hid hT
  have hlen : ((8 + b.length : Nat) : Int) = 8 + (b.length : Int) := by omega
  have hl' : (b.length : Int) ≤ 1048576 := by omega
  clear hR hsrc hT
  go_enter Tryz.func25, Tryz.ntmps25
  go_wp2_with (at_make; refine wpList_make_full _ rfl _ _ 37 rfl w.heap.size 5 i0 (.int .u8 0) 1 Tryz.underlying37 hi hz0 hz1 _ _ _ _ (8 + b.length) rfl rfl hlen.symm hlen.symm ?b1 ?b2 ?b3 ?_)
  case b1 => rw [hz2]; omega
  case b2 => unfold maxLen; omega
  case b3 => omega
  intro w1 hown hgrow
  go_wp2_with fail
  obtain ⟨h1, _⟩ := own_buf (l := List.replicate (8 + b.length) 0) (by rw [← made_list]; exact hown)
  have t1 : Turn (fun _ => False) w w1 := (Turn.refl _ w).grown hgrow (fun k e => by cases e)
  have H1 := Lib.hid h1
  have T1 := Lib.hid t1
  clear h1 t1 hown hgrow
  go_at_call 59
  refine (putWord_any b.length (by omega) H1.out (by omega) (by simp; omega)).mono ?_
  rintro r w2 ⟨rfl, h2, t2⟩
  have H2 := Lib.hid h2
  have T2 := Lib.hid (T1.out.trans t2 (fun i hi e => by omega))
  have hl2 : (put (List.replicate (8 + b.length) (0 : UInt8)) 0 (Walp.le4 b.length)).length = 8 + b.length := by rw [put_length (by rw [Walp.le_length]; simp; omega)]; simp
  have h2d : BufAt w2.drew w.heap.size (put (List.replicate (8 + b.length) 0) 0 (Walp.le4 b.length)) := h2
  have H2D := Lib.hid h2d
  clear h2 t2 h2d
  go_wp2_with fail
  go_region_with (first | (go_at_call 27; refine (sum_any (HT.out.turned (T2.out.drew)) (HR.out.turned T2.out.drew) (by omega)).mono ?_; rintro r w3 ⟨rfl, rfl⟩) | (go_at_call 59; refine (putWord_any (Walp.sum b) (Walp.sum_lt b) H2D.out (by omega) (by rw [hl2]; omega)).mono ?_; rintro r w3 ⟨rfl, h3, t3⟩))
  all_goals
    have T3 := Lib.hid (T2.out.drew.trans t3 (fun i hi e => by omega))
    rw [put_put _ (Walp.le_length _ _) (Walp.le_length _ _)] at h3
    have hR3 := HR.out.turned T3.out
    obtain ⟨sp3, cap3, hv3, hsrc3⟩ := hR3
    simp only [Value.slice.injEq] at hv3
    obtain ⟨rfl, _, rfl⟩ := hv3
    have hb3 : Below w.heap.size w w3 := ⟨T3.out.os, T3.out.tape, T3.out.output, T3.out.size, fun k hk => T3.out.block k hk (fun q => q)⟩
    have h38 : w3.heap[w.heap.size]? = some (.cells ((Walp.le4 b.length ++ (Walp.le4 (Walp.sum b) ++ List.replicate b.length 0)).map byteV).toArray 5 (0, 0)) := h3
    have hcl : ((Walp.le4 b.length ++ (Walp.le4 (Walp.sum b) ++ List.replicate b.length 0)).map byteV).length = 8 + b.length := by simp [Walp.le_length]; omega
    have hsp := splice_frame (b := b) (A := Walp.le4 b.length) (B := Walp.le4 (Walp.sum b)) (Walp.le_length _ _) (Walp.le_length _ _)
    obtain ⟨cur, hcur⟩ : ∃ cur, cur = (Walp.le4 b.length ++ (Walp.le4 (Walp.sum b) ++ List.replicate b.length 0)).map byteV := ⟨_, rfl⟩
    obtain ⟨X, hX⟩ : ∃ X, X = b.map byteV := ⟨_, rfl⟩
    have hXl : X.length = b.length := by rw [hX]; simp
    rw [← hcur] at h38 hcl hsp
    rw [← hX] at hsp
    have hsz1 : (Tryz.prog.info? 5).map (·.size) = some 1 := by rw [hi]; simp [hz1]
    have hsrcX : 0 < X.length → ∃ ad, sp = some ad ∧ ∀ j v, X[j]? = some v → w3.cell? (ad.add j) = some v := by
      intro h0
      obtain ⟨ad, e1, e2⟩ := hsrc3 (by omega)
      refine ⟨ad, e1, fun j v hj => ?_⟩
      rw [hX, List.getElem?_map] at hj
      obtain ⟨x, hx, rfl⟩ := Option.map_eq_some_iff.1 hj
      exact e2 j x hx
    have h1 : ∀ v ∈ X, v.oneCell' = true := by
      intro v hv
      rw [hX] at hv
      obtain ⟨x, _, rfl⟩ := List.mem_map.1 hv
      rfl
    have HC := Lib.hid h38
    have HCL := Lib.hid hcl
    have HSP := Lib.hid hsp
    have HXL := Lib.hid hXl
    have hpos : 0 < X.length → some (⟨w.heap.size, 8, none⟩ : Addr) = some ⟨w.heap.size, 8, none⟩ ∧ ∃ ad, sp = some ad ∧ ∀ j v, X[j]? = some v → w3.cell? (ad.add j) = some v := fun h0 => ⟨rfl, hsrcX h0⟩
    have hn : X.length = Nat.min b.length b.length := by rw [hXl]; exact (Nat.min_self _).symm
    have hfit : 8 + X.length ≤ cur.length := by omega
    have HSP2 := Lib.hid hpos
    have HN := Lib.hid hn
    have HFIT := Lib.hid hfit
    clear hpos hn hfit
    have HO := Lib.hid h1
    clear h38 hcl hsp hXl hsrcX h1 hX hcur h3 t3 hsrc3 hl2
    have HB3 := Lib.hid hb3
    clear hb3
    go_wp2_with (with_reducible refine wpList_copy_splice rfl (.tmp 19) (.tmp 20) 37 37 rfl 5 Tryz.underlying37 hsz1 (some ⟨w.heap.size, 8, none⟩) sp b.length b.length b.length cap rfl rfl w.heap.size 8 cur 5 HC.out X HN.out HSP2.out HFIT.out HO.out w.heap.size w HB3.out (Nat.le_refl _) ?_)
    intro w4 hw4 hb4
    go_wp2
    go_ret
    have e4 := hw4.out
    rw [HSP.out] at e4
    have hfr : (Walp.frame b).length = 8 + b.length := Walp.frame_length b
    have hown := buf_own (w := w4) (base := w.heap.size) (g := w.heap.size) (l := Walp.frame b) e4 (Nat.le_refl _) (by rw [hfr]; unfold maxLen; omega)
    rw [hfr] at hown
    exact ⟨_, rfl, hown, Below.turn hb4 _⟩

theorem frame_any {v : Value} {b : List UInt8} (hT : SumTab w) (h : SliceR w v b) (hl : b.length ≤ 1048576) :
    Calls Tryz.prog 25 #[v] w fun r w' => ∃ g, r = .returned (.slice (some ⟨g, 0, none⟩) (8 + b.length) (8 + b.length)) ∧ w'.ownsRow w.heap.size 5 1 (.slice (some ⟨g, 0, none⟩) (8 + b.length) (8 + b.length)) (8 + b.length) ((Walp.frame b).map byteV) ∧ Turn (fun _ => False) w w' := by
  by_cases hb : b = []
  · subst hb; exact frame_nil hT h
  · exact frame_some hb hT h hl

end
end Go.Proofs.YtjjajnfkngfpjaaGreatDoor
