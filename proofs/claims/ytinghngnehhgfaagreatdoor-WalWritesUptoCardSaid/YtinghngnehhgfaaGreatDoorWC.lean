/-
  PARTS: WSum, WFrame, WBytes, WName.
-/
import Derived.Test.YtinghngnehhgfaaGreatDoorWB
import Derived.Test.YtinghngnehhgfaaGreatDoorWA
import Derived.IntWalk
import Derived.Laws.BitsAll
import Derived.Laws.ShiftsVar
import Derived.StillTailTactics
import Derived.Shelf.Lay
import Derived.Shelf.Strconv.Itoa3
import Derived.Shelf.Strings.Repeat
/-
  Sum: the table, the loop.
-/
namespace Go.Proofs.YtinghngnehhgfaaGreatDoor
open Go.RowKit Go.Maps Go.WideMaps

/-- the table of sums lies in w -/
def SumTab (w : World) : Prop := ∀ i : Nat, i < 16 → w.cell? ⟨0, i, none⟩ = some (.int .u32 (Walp.tab i : Nat))

section
variable {w w' : World} {p : Nat} {S S' : Fsp.Fs} {c c' : Bool} {Q : Nat → Prop} {mo : Option Nat} {pl : List UInt8 → Pl}

theorem SumTab.turned (h : SumTab w) (ht : Turn (fun _ => False) w w') : SumTab w' := fun i hi => turn_cell ht (h i hi)

theorem xor_u32 (a b : Nat) (ha : a < 4294967296) (hb : b < 4294967296) : bits .xor .u32 (a : Int) (b : Int) = ((a ^^^ b : Nat) : Int) := u32_xor_nat a b ha hb

theorem and15 (x : Nat) (h : x < 4294967296) : bits .and .u32 (x : Int) 15 = ((x % 16 : Nat) : Int) := by
  have := u32_and_nat x 15 h (by decide)
  rw [show ((15 : Nat) : Int) = 15 from rfl] at this
  rw [this]
  congr 1
  exact Nat.and_two_pow_sub_one_eq_mod x 4

theorem half_x (x : Nat) (h : x < 4294967296) : bits .xor .u32 ((Walp.tab (x % 16) : Nat) : Int) ((x : Int) / 16) = ((Walp.half x : Nat) : Int) := by
  have e : (x : Int) / 16 = ((x / 16 : Nat) : Int) := by omega
  rw [e, xor_u32 _ _ (Walp.tab_lt _) (by omega)]; rfl

theorem not_u32 (x : Nat) (h : x < 4294967296) : bits .xor .u32 IntKind.u32.max (x : Int) = ((4294967295 - x : Nat) : Int) := by
  have e : IntKind.u32.max = ((4294967295 : Nat) : Int) := rfl
  rw [e, xor_u32 _ _ (by decide) h]
  congr 1
  apply Nat.eq_of_testBit_eq
  intro i
  rw [Nat.testBit_xor, show (4294967295 : Nat) = 2 ^ 32 - 1 from rfl, Nat.testBit_two_pow_sub_one, show 2 ^ 32 - 1 - x = 2 ^ 32 - (x + 1) by omega, Nat.testBit_two_pow_sub_succ (by omega)]
  by_cases hi : i < 32
  · simp [hi]
  · have : x.testBit i = false := Nat.testBit_lt_two_pow (Nat.lt_of_lt_of_le (show x < 2 ^ 32 by omega) (Nat.pow_le_pow_right (by decide) (by omega)))
    simp [hi, this]

set_option maxRecDepth 100000 in
set_option maxHeartbeats 1000000 in
theorem sum_any {v : Value} {b : List UInt8} (hT : SumTab w) (h : SliceR w v b) (hl : b.length ≤ 281474976710656) :
    Calls Tryz.prog 51 #[v] w fun r w' => r = .returned (.int .u32 (Walp.sum b : Nat)) ∧ w = w' := by
  obtain ⟨sp, cap, rfl, hcell⟩ := h
  have HC := Lib.hid hcell
  have HT := Lib.hid hT
  clear hcell hT
  go_enter Tryz.func51, Tryz.ntmps51
  go_wp2_with fail
  go_loop [3, 8] (fun s i => ∃ k : Nat, k ≤ b.length ∧ i = .int .i64 k ∧ s = .int .u32 (Walp.run (b.take k) : Nat)) (fun _ i => b.length - (intOf i).toNat)
  case atStart => exact ⟨0, Nat.zero_le _, rfl, rfl⟩
  case round =>
    obtain ⟨k, hk, rfl, rfl⟩ := hrel
    by_cases hlt : k < b.length
    · obtain ⟨ad, e1, x1⟩ := HC.out (by omega)
      subst e1
      have cx := x1 k b[k] (List.getElem?_eq_getElem hlt)
      have i0 : (0 : Int) ≤ (k : Int) := by omega
      have i1 : (k : Int) < (b.length : Int) := by omega
      have hrun := Walp.run_lt (b.take k)
      have hsn : Walp.run (b.take (k + 1)) = Walp.byteS (Walp.run (b.take k)) b[k] := by
        rw [List.take_succ_eq_append_getElem hlt, Walp.run_snoc]
      have HS := Lib.hid hsn
      clear hsn x1
      obtain ⟨s, hs⟩ : ∃ s, s = Walp.run (b.take k) := ⟨_, rfl⟩
      obtain ⟨y, hy⟩ : ∃ y, y = b[k] := ⟨_, rfl⟩
      rw [← hs] at hrun HS ⊢
      rw [← hy] at cx HS
      have hyl := y.toNat_lt
      obtain ⟨x1, hx1⟩ : ∃ x, x = s ^^^ y.toNat := ⟨_, rfl⟩
      have hl1 : x1 < 4294967296 := by rw [hx1]; exact Walp.byte_xor_lt hrun y
      obtain ⟨x2, hx2⟩ : ∃ x, x = Walp.half x1 := ⟨_, rfl⟩
      have hl2 : x2 < 4294967296 := by rw [hx2]; exact Walp.half_lt hl1
      obtain ⟨x3, hx3⟩ : ∃ x, x = Walp.half x2 := ⟨_, rfl⟩
      have e1 : bits .xor .u32 (s : Int) (y.toNat : Int) = (x1 : Int) := by rw [hx1]; exact xor_u32 _ _ hrun (by omega)
      have HX : Hid (x3 = Walp.byteS s y) := by rw [hx3, hx2, hx1]; exact Lib.hid rfl
      have a1 := and15 x1 hl1
      have a2 := and15 x2 hl2
      have k1 := HT.out (x1 % 16) (Nat.mod_lt _ (by decide))
      have k2 := HT.out (x2 % 16) (Nat.mod_lt _ (by decide))
      have z1 := half_x x1 hl1
      have z2 := half_x x2 hl2
      rw [← hx2] at z1
      rw [← hx3] at z2
      obtain ⟨m1, hm1⟩ : ∃ m, m = x1 % 16 := ⟨_, rfl⟩
      obtain ⟨m2, hm2⟩ : ∃ m, m = x2 % 16 := ⟨_, rfl⟩
      rw [← hm1] at a1 k1 z1
      rw [← hm2] at a2 k2 z2
      have j1 : (m1 : Int) < 16 := by omega
      have j2 : (m2 : Int) < 16 := by omega
      clear hx1 hx2 hx3 hm1 hm2 hs hy
      unfold byteV at cx
      go_wp2
      go_round
      case rel => exact ⟨k + 1, by omega, by go_num, by rw [HS.out, ← HX.out]⟩
      case measure => simp [intOf]; omega
    · have hk0 : k = b.length := by omega
      subst hk0
      have hrun := Walp.run_lt (b.take b.length)
      have e1 := not_u32 _ hrun
      rw [List.take_length] at e1 ⊢
      clear hrun
      have HE := Lib.hid e1
      clear e1
      go_wp2
      go_ret
      exact ⟨ret_int HE.out, rfl⟩

end
end Go.Proofs.YtinghngnehhgfaaGreatDoor

/-
  word, putWord, copied, Frame.
-/
namespace Go.Proofs.YtinghngnehhgfaaGreatDoor
open Go.RowKit Go.Maps Go.WideMaps

section
variable {w w' : World} {p : Nat} {S S' : Fsp.Fs} {c c' : Bool} {Q : Nat → Prop} {mo : Option Nat} {pl : List UInt8 → Pl}

/-- block g holds these bytes -/
def BufAt (w : World) (g : Nat) (l : List UInt8) : Prop := w.heap[g]? = some (.cells (l.map byteV).toArray 5 (0, 0))

theorem BufAt.cell {g : Nat} {l : List UInt8} (h : BufAt w g l) {j : Nat} {x : UInt8} (hj : l[j]? = some x) : w.cell? ⟨g, j, none⟩ = some (byteV x) := by
  unfold World.cell?
  unfold BufAt at h
  simp only [h]
  simp [hj]

theorem BufAt.frozen {g : Nat} {l : List UInt8} (h : BufAt w g l) (j : Nat) : w.frozen? ⟨g, j, none⟩ = false := by
  unfold BufAt at h
  simp [World.frozen?, h]

theorem BufAt.set {g : Nat} {l : List UInt8} (h : BufAt w g l) (j : Nat) (x : UInt8) : BufAt (w.setCell ⟨g, j, none⟩ (byteV x)) g (l.set j x) := by
  unfold BufAt at *
  rw [heap_setCell_same h]
  simp [List.map_set]

def put (l : List UInt8) (off : Nat) (d : List UInt8) : List UInt8 := l.take off ++ (d ++ l.drop (off + d.length))

theorem put_nil (l : List UInt8) (off : Nat) : put l off [] = l := by unfold put; simp

theorem put_snoc {l : List UInt8} {off : Nat} {d : List UInt8} {x : UInt8} (h : off + d.length < l.length) : (put l off d).set (off + d.length) x = put l off (d ++ [x]) := by
  unfold put
  have e : (l.take off).length = off := by simp; omega
  rw [List.set_append_right _ _ (by omega), e, Nat.add_sub_cancel_left, List.set_append_right _ _ (Nat.le_refl _), Nat.sub_self]
  rw [List.drop_eq_getElem_cons h, List.set_cons_zero]
  simp [Nat.add_assoc]

theorem put_length {l : List UInt8} {off : Nat} {d : List UInt8} (h : off + d.length ≤ l.length) : (put l off d).length = l.length := by
  unfold put; simp; omega

theorem le_snoc (x k : Nat) : Walp.le x (k + 1) = Walp.le x k ++ [UInt8.ofNat (x / 256 ^ k)] := by
  induction k generalizing x with
  | zero => simp [Walp.le]
  | succ k ih =>
    rw [Walp.le, ih, Walp.le, List.cons_append, Nat.div_div_eq_div_mul, Nat.pow_succ, Nat.mul_comm 256]

theorem byteV_ofNat (n : Nat) : byteV (UInt8.ofNat n) = .int .u8 ((n % 256 : Nat) : Int) := by
  unfold byteV; rw [UInt8.toNat_ofNat']

theorem put_step {wr : World} {g off k x : Nat} {l : List UInt8} (hs : BufAt (wr.setCell ⟨g, off + k, none⟩ (.int .u8 ((x / 256 ^ k % 256 : Nat) : Int))) g l) (ht : Turn (fun b => b = g) w wr) {v : Int} (e : ((x / 256 ^ k % 256 : Nat) : Int) = v) :
    BufAt (wr.setCell ⟨g, off + k, none⟩ (.int .u8 v)) g l ∧ Turn (fun b => b = g) w (wr.setCell ⟨g, off + k, none⟩ (.int .u8 v)) := by
  rw [e] at hs
  exact ⟨hs, ht.set g _ (Or.inl rfl) _⟩

set_option maxRecDepth 100000 in
set_option maxHeartbeats 1000000 in
theorem putWord_any {g off n cap : Nat} {l : List UInt8} (x : Nat) (hx : x < 4294967296) (h : BufAt w g l) (hn : 4 ≤ n) (hl : off + 4 ≤ l.length) :
    Calls Tryz.prog 50 #[.slice (some ⟨g, off, none⟩) n cap, .int .u32 (x : Int)] w fun r w' => r = .returned (.tuple #[]) ∧ BufAt w' g (put l off (Walp.le4 x)) ∧ Turn (fun b => b = g) w w' := by
  have HB := Lib.hid h
  clear h
  have hn' : (4 : Int) ≤ (n : Int) := by omega
  go_enter Tryz.func50, Tryz.ntmps50
  go_wp2_with fail
  go_loopw [5] (fun i wr => ∃ k : Nat, k ≤ 4 ∧ i = .int .i64 k ∧ BufAt wr g (put l off (Walp.le x k)) ∧ Turn (fun b => b = g) w wr) (fun i _ => 4 - (intOf i).toNat)
  case atStart => exact ⟨0, Nat.zero_le _, rfl, by rw [Walp.le, put_nil]; exact HB.out, Turn.refl _ _⟩
  case round =>
    obtain ⟨k, hk, rfl, hb, ht⟩ := hrel
    have HBB := Lib.hid hb
    have HT := Lib.hid ht
    clear hb ht
    by_cases hlt : k < 4
    · have hlen : (put l off (Walp.le x k)).length = l.length := put_length (by rw [Walp.le_length]; omega)
      obtain ⟨y, hy⟩ : ∃ y, (put l off (Walp.le x k))[off + k]? = some y := ⟨_, List.getElem?_eq_getElem (by omega)⟩
      have cy := HBB.out.cell hy
      have fy := HBB.out.frozen (off + k)
      have hset := HBB.out.set (off + k) (UInt8.ofNat (x / 256 ^ k))
      have hps := put_snoc (l := l) (off := off) (d := Walp.le x k) (x := UInt8.ofNat (x / 256 ^ k)) (by rw [Walp.le_length]; omega)
      rw [Walp.le_length, ← le_snoc] at hps
      rw [hps, byteV_ofNat] at hset
      have HS := Lib.hid hset
      clear hps hset hlen hy
      unfold byteV at cy
      have HK := fun (v : Int) (e : ((x / 256 ^ k % 256 : Nat) : Int) = v) => put_step HS.out HT.out e
      rcases (show k = 0 ∨ k = 1 ∨ k = 2 ∨ k = 3 by omega) with rfl | rfl | rfl | rfl
      all_goals
        (try simp only [Nat.add_zero] at cy fy)
        have H2 := Lib.hid HK
        clear HK
        go_wp2
        go_roundw
        case rel => exact ⟨_, by omega, by go_num, (H2.out _ (by omega)).1, (H2.out _ (by omega)).2⟩
        case measure => simp [intOf]
    · have hk0 : k = 4 := by omega
      subst hk0
      go_wp2
      go_end0
      exact ⟨rfl, HBB.out, HT.out⟩

set_option maxHeartbeats 400000 in
theorem wCopied_any {v : Value} {data : List UInt8} (h : SliceR w v data) (hl : data.length ≤ 281474976710656) :
    Calls Tryz.prog 62 #[v] w fun r w' => ∃ g, r = .returned (.slice (some ⟨g, 0, none⟩) data.length data.length) ∧ w'.ownsRow w.heap.size 5 1 (.slice (some ⟨g, 0, none⟩) data.length data.length) data.length (data.map byteV) ∧ Turn (fun _ => False) w w' := by
  have hmax : data.length ≤ maxLen := by unfold maxLen; omega
  obtain ⟨sp, cap, rfl, hsrc⟩ := h
  obtain ⟨i0, hi, hz0, hz1, hz2⟩ := info_parts Tryz.infoU8
  go_enter Tryz.func62, Tryz.ntmps62
  go_wp2_with (at_make; refine wpList_make_full _ rfl _ _ 33 rfl w.heap.size 5 i0 (.int .u8 0) 1 Tryz.underlying33 hi hz0 hz1 _ _ _ _ data.length rfl rfl rfl rfl ?b1 ?b2 ?b3 ?_)
  case b1 => rw [hz2]; omega
  case b2 => unfold maxLen; omega
  case b3 => omega
  intro w1 hown hgrow
  have hcopy : ∃ cur : List Value, cur.length = data.length ∧ w1.heap[w.heap.size]? = some (.cells cur.toArray 5 (0, 0)) := by
    rcases hown.2 with ⟨hv, _⟩ | ⟨g, cap', cur, hv, hg, hh, h1, h2, h3, h4⟩
    · cases hv
    · simp only [Value.slice.injEq, Option.some.injEq, Addr.mk.injEq] at hv
      obtain ⟨⟨rfl, _⟩, _, rfl⟩ := hv
      exact ⟨cur.toList, by simp [h3], by rw [hh]⟩
  obtain ⟨cur, hcl, hcw⟩ := hcopy
  have hsz1 : (Tryz.prog.info? 5).map (·.size) = some 1 := by rw [hi]; simp [hz1]
  have hpos : 0 < (data.map byteV).length → some (⟨w.heap.size, 0, none⟩ : Addr) = some ⟨w.heap.size, 0, none⟩ ∧ ∃ ad, sp = some ad ∧ ∀ j v, (data.map byteV)[j]? = some v → w1.cell? (ad.add j) = some v := by
    intro h0
    obtain ⟨ad, e1, e2⟩ := hsrc (by simpa using h0)
    refine ⟨rfl, ad, e1, fun j v hj => ?_⟩
    rw [List.getElem?_map] at hj
    obtain ⟨x, hx, rfl⟩ := Option.map_eq_some_iff.1 hj
    exact hgrow.cell (e2 j x hx) (by simp)
  have hn : (data.map byteV).length = Nat.min data.length data.length := by simp
  have hfit : 0 + (data.map byteV).length ≤ cur.length := by simp [hcl]
  have h1 : ∀ v ∈ data.map byteV, v.oneCell' = true := by
    intro v hv
    obtain ⟨x, _, rfl⟩ := List.mem_map.1 hv
    rfl
  have hb : Below w.heap.size w w1 := (Below.refl _ _).grown hgrow (Nat.le_refl _) (fun k h => by cases h)
  obtain ⟨X, hX⟩ : ∃ X, X = data.map byteV := ⟨_, rfl⟩
  rw [← hX] at hpos hn hfit h1
  have HX := Lib.hid hX
  have HS := Lib.hid hpos
  have HC := Lib.hid hcw
  have HD := Lib.hid hfit
  have HN := Lib.hid hn
  have HL := Lib.hid hcl
  clear hl hsrc hpos hcw hown hgrow hX hfit hn hcl
  go_wp2_with (with_reducible refine wpList_copy_splice rfl (.tmp 7) (.tmp 8) 33 33 rfl 5 Tryz.underlying33 hsz1 (some ⟨w.heap.size, 0, none⟩) sp data.length data.length data.length cap rfl rfl w.heap.size 0 cur 5 HC.out X HN.out HS.out HD.out h1 w.heap.size w hb (Nat.le_refl _) ?_)
  intro w2 hw2 hb2
  go_wp2
  go_ret
  have hsp : splice cur 0 X = data.map byteV := by
    have h0 : X.length = data.length := by rw [HX.out]; simp
    unfold splice
    rw [List.take_zero, List.nil_append, List.drop_eq_nil_of_le (by rw [Nat.zero_add, h0, HL.out]; exact Nat.le_refl _), List.append_nil, HX.out]
  have hw2' := hw2.out
  rw [hsp] at hw2'
  exact ⟨_, rfl, ⟨by simp, Or.inr ⟨w.heap.size, data.length, _, rfl, Nat.le_refl _, hw2', Nat.le_refl _, hmax, by simp, List.take_of_length_le (by simp)⟩⟩, Below.turn hb2 _⟩

/-- where such bytes lie -/
theorem cells_at {ad : Addr} {b : List UInt8} (h : ∀ j x, b[j]? = some x → w.cell? (ad.add j) = some (byteV x)) (h0 : 0 < b.length) :
    ∃ g off, ad = ⟨g, off, none⟩ ∧ ∀ j x, b[j]? = some x → w.cell? ⟨g, off + j, none⟩ = some (byteV x) := by
  obtain ⟨g, off, spot⟩ := ad
  have hs := World.cell?_spot (h 0 b[0] (by simp))
  have hspot : spot = none := by simpa [Addr.add] using hs
  subst hspot
  refine ⟨g, off, rfl, fun j x hj => ?_⟩
  have := h j x hj
  have e : (⟨g, off, none⟩ : Addr).add j = ⟨g, off + j, none⟩ := by unfold Addr.add; split <;> simp_all
  rwa [e] at this

theorem or_join (i a b : Nat) (ha : a < 2 ^ i) (h : 2 ^ i * b + a < 4294967296) : bits .or .u32 (a : Int) ((2 ^ i * b : Nat) : Int) = ((2 ^ i * b + a : Nat) : Int) := by
  rw [u32_or_nat _ _ (by omega) (by omega), Nat.or_comm, ← Nat.two_pow_add_eq_or_of_lt ha]

theorem or_word (a b c d : Nat) (ha : a < 2 ^ 8) (hb : b < 2 ^ 8) (hc : c < 2 ^ 8) (hd : d < 2 ^ 8) :
    bits .or .u32 (bits .or .u32 (bits .or .u32 (a : Int) ((b : Int) * 256)) ((c : Int) * 65536)) ((d : Int) * 16777216) = ((a + 256 * (b + 256 * (c + 256 * d)) : Nat) : Int) := by
  have e1 : (b : Int) * 256 = ((2 ^ 8 * b : Nat) : Int) := by omega
  have e2 : (c : Int) * 65536 = ((2 ^ 16 * c : Nat) : Int) := by omega
  have e3 : (d : Int) * 16777216 = ((2 ^ 24 * d : Nat) : Int) := by omega
  rw [e1, or_join 8 a b ha (by omega), e2, or_join 16 _ c (by omega) (by omega), e3, or_join 24 _ d (by omega) (by omega)]
  congr 1
  omega

theorem made_list (n : Nat) : (madeCells #[.int .u8 0] n).toList = (List.replicate n (0 : UInt8)).map byteV := by
  rw [List.map_replicate]
  refine List.eq_replicate_iff.2 ⟨by simp [madeCells], fun x hx => ?_⟩
  unfold madeCells at hx
  simp only [Array.toList_map, List.mem_map] at hx
  obtain ⟨i, _, rfl⟩ := hx
  simp [Nat.mod_one]

theorem num4 (x0 x1 x2 x3 : UInt8) : Walp.num [x0, x1, x2, x3] = x0.toNat + 256 * (x1.toNat + 256 * (x2.toNat + 256 * x3.toNat)) := by simp [Walp.num]

set_option maxRecDepth 100000 in
set_option maxHeartbeats 1000000 in
theorem word_any {v : Value} {b : List UInt8} (h : SliceR w v b) (hl : b.length ≤ maxLen) (h4 : 4 ≤ b.length) :
    Calls Tryz.prog 81 #[v] w fun r w' => r = .returned (.int .u32 (Walp.num (b.take 4) : Nat)) ∧ Like w w' := by
  obtain ⟨sp, cap, rfl, hcell⟩ := h
  unfold maxLen at hl
  obtain ⟨ad, rfl, x⟩ := hcell (by omega)
  match b, h4 with
  | x0 :: x1 :: x2 :: x3 :: r, h4 =>
    obtain ⟨g, off, rfl, y⟩ := cells_at x (by simp)
    have c0 := y 0 x0 rfl
    have c1 := y 1 x1 rfl
    have c2 := y 2 x2 rfl
    have c3 := y 3 x3 rfl
    rw [Nat.add_zero] at c0
    have l0 := x0.toNat_lt
    have l1 := x1.toNat_lt
    have l2 := x2.toNat_lt
    have l3 := x3.toNat_lt
    have ht : (x0 :: x1 :: x2 :: x3 :: r).take 4 = [x0, x1, x2, x3] := by simp
    rw [ht, num4]
    obtain ⟨n, hn⟩ : ∃ n, (x0 :: x1 :: x2 :: x3 :: r).length = n := ⟨_, rfl⟩
    rw [hn] at hl h4 ⊢
    have i0 : (0 : Int) < (n : Int) := by omega
    have i1 : (1 : Int) < (n : Int) := by omega
    have i2 : (2 : Int) < (n : Int) := by omega
    have i3 : (3 : Int) < (n : Int) := by omega
    have j0 : 0 < n := by omega
    have j1 : 1 < n := by omega
    have j2 : 2 < n := by omega
    have j3 : 3 < n := by omega
    unfold byteV at c0 c1 c2 c3
    clear x y hcell hn ht h4
    go_enter Tryz.func81, Tryz.ntmps81
    go_wp2_with fail
    go_quiet (fail)
    go_wp2
    go_ret
    refine ⟨ret_int ?_, like_drewN _ _⟩
    exact or_word _ _ _ _ l0 l1 l2 l3

theorem own_buf {base g n : Nat} {l : List UInt8} (h : w.ownsRow base 5 1 (.slice (some ⟨g, 0, none⟩) n n) n (l.map byteV)) : BufAt w g l ∧ base ≤ g := by
  rcases h.2 with ⟨hv, _⟩ | ⟨g', cap', cur, hv, hg, hh, h1, h2, h3, h4⟩
  · cases hv
  · simp only [Value.slice.injEq, Option.some.injEq, Addr.mk.injEq] at hv
    obtain ⟨⟨rfl, _⟩, _, rfl⟩ := hv
    refine ⟨?_, hg⟩
    unfold BufAt
    have e : cur.toList = l.map byteV := by rw [← h4, List.take_of_length_le (by rw [Nat.mul_one]; simp; omega)]
    rw [hh, ← e]

theorem buf_own {base g : Nat} {l : List UInt8} (h : BufAt w g l) (hg : base ≤ g) (hl : l.length ≤ maxLen) : w.ownsRow base 5 1 (.slice (some ⟨g, 0, none⟩) l.length l.length) l.length (l.map byteV) :=
  ⟨by simp, Or.inr ⟨g, l.length, _, rfl, hg, h, Nat.le_refl _, hl, by simp, List.take_of_length_le (by simp)⟩⟩

theorem put_put {A B : List UInt8} (n : Nat) (hA : A.length = 4) (hB : B.length = 4) : put (put (List.replicate (8 + n) 0) 0 A) 4 B = A ++ (B ++ List.replicate n 0) := by
  have e1 : put (List.replicate (8 + n) 0) 0 A = A ++ List.replicate (4 + n) 0 := by
    unfold put; rw [hA]; simp [List.drop_replicate]; omega
  rw [e1]
  unfold put
  rw [hB, List.take_append_of_le_length (by omega), List.take_of_length_le (by omega)]
  have e2 : (A ++ List.replicate (4 + n) (0 : UInt8)).drop (4 + 4) = List.replicate n 0 := by
    rw [List.drop_append, List.drop_of_length_le (by omega), hA, List.drop_replicate]
    simp
  rw [e2]

theorem splice_frame {b A B : List UInt8} (hA : A.length = 4) (hB : B.length = 4) : splice ((A ++ (B ++ List.replicate b.length 0)).map byteV) 8 (b.map byteV) = (A ++ (B ++ b)).map byteV := by
  unfold splice
  have e1 : ((A ++ (B ++ List.replicate b.length 0)).map byteV).take 8 = (A ++ B).map byteV := by
    rw [← List.map_take, ← List.append_assoc, List.take_append_of_le_length (by simp; omega), List.take_of_length_le (by simp; omega)]
  have e2 : ((A ++ (B ++ List.replicate b.length 0)).map byteV).drop (8 + (b.map byteV).length) = [] := List.drop_of_length_le (by simp; omega)
  rw [e1, e2]
  simp

set_option maxRecDepth 100000 in
set_option maxHeartbeats 1000000 in
theorem frame_nil {v : Value} (hT : SumTab w) (h : SliceR w v []) :
    Calls Tryz.prog 34 #[v] w fun r w' => ∃ g, r = .returned (.slice (some ⟨g, 0, none⟩) 8 8) ∧ w'.ownsRow w.heap.size 5 1 (.slice (some ⟨g, 0, none⟩) 8 8) 8 ((Walp.frame []).map byteV) ∧ Turn (fun _ => False) w w' := by
  have hR := h
  obtain ⟨sp, cap, rfl, hsrc⟩ := h
  obtain ⟨i0, hi, hz0, hz1, hz2⟩ := info_parts Tryz.infoU8
  have HR := Lib.hid hR
  have HT := Lib.hid hT
  have hsz1 : (Tryz.prog.info? 5).map (·.size) = some 1 := by rw [hi]; simp [hz1]
  clear hR hsrc hT
  rw [List.length_nil] at HR ⊢
  go_enter Tryz.func34, Tryz.ntmps34
  go_wp2_with (at_make; refine wpList_make_full _ rfl _ _ 33 rfl w.heap.size 5 i0 (.int .u8 0) 1 Tryz.underlying33 hi hz0 hz1 _ _ _ _ 8 rfl rfl rfl rfl ?b1 ?b2 ?b3 ?_)
  case b1 => rw [hz2]; omega
  case b2 => unfold maxLen; omega
  case b3 => omega
  intro w1 hown hgrow
  go_wp2_with fail
  obtain ⟨h1, _⟩ := own_buf (l := List.replicate 8 0) (by rw [← made_list]; exact hown)
  have t1 : Turn (fun _ => False) w w1 := (Turn.refl _ w).grown hgrow (fun k e => by cases e)
  have H1 := Lib.hid h1
  have T1 := Lib.hid t1
  clear h1 t1 hown hgrow
  go_at_call 50
  refine (putWord_any (w := w1) (g := w.heap.size) (off := 0) 0 (by omega) H1.out (by omega) (by simp)).mono ?_
  rintro r w2 ⟨rfl, h2, t2⟩
  have T2 := Lib.hid (T1.out.trans t2 (fun i hi e => by omega))
  have h2d : BufAt w2.drew w.heap.size (put (List.replicate 8 0) 0 (Walp.le4 0)) := h2
  have H2D := Lib.hid h2d
  clear h2 t2 h2d
  go_wp2_with fail
  go_region_with (first | (go_at_call 51; refine (sum_any (HT.out.turned (T2.out.drew)) (HR.out.turned T2.out.drew) (by simp)).mono ?_; rintro r w3 ⟨rfl, rfl⟩) | (go_at_call 50; refine (putWord_any (Walp.sum []) (Walp.sum_lt []) H2D.out (by omega) (by decide)).mono ?_; rintro r w3 ⟨rfl, h3, t3⟩))
  all_goals
    have T3 := Lib.hid (T2.out.drew.trans t3 (fun i hi e => by omega))
    have H3 := Lib.hid h3
    clear h3 t3
    go_wp2_with (with_reducible refine wpList_copy_nothing rfl (.tmp 19) (.tmp 20) 33 33 rfl 5 Tryz.underlying33 hsz1 _ sp _ _ 0 cap rfl rfl (Nat.min_zero _) ?_)
    go_ret
    have e3 : put (put (List.replicate 8 (0 : UInt8)) 0 (Walp.le4 0)) 4 (Walp.le4 (Walp.sum [])) = Walp.frame [] := by decide
    have h3 := H3.out
    rw [e3] at h3
    have hown := buf_own (w := w3) (base := w.heap.size) (g := w.heap.size) (l := Walp.frame []) h3 (Nat.le_refl _) (by rw [Walp.frame_length]; unfold maxLen; simp)
    rw [Walp.frame_length] at hown
    exact ⟨_, rfl, hown, T3.out⟩

set_option maxRecDepth 100000 in
set_option maxHeartbeats 1000000 in
theorem frame_some {v : Value} {b : List UInt8} (hne : ¬ b = []) (hT : SumTab w) (h : SliceR w v b) (hl : b.length ≤ 1048576) :
    Calls Tryz.prog 34 #[v] w fun r w' => ∃ g, r = .returned (.slice (some ⟨g, 0, none⟩) (8 + b.length) (8 + b.length)) ∧ w'.ownsRow w.heap.size 5 1 (.slice (some ⟨g, 0, none⟩) (8 + b.length) (8 + b.length)) (8 + b.length) ((Walp.frame b).map byteV) ∧ Turn (fun _ => False) w w' := by
  have hR := h
  obtain ⟨sp, cap, rfl, hsrc⟩ := h
  obtain ⟨i0, hi, hz0, hz1, hz2⟩ := info_parts Tryz.infoU8
  have HR := Lib.hid hR
  have HS := Lib.hid hsrc
  have HT := Lib.hid hT
  have hlen : ((8 + b.length : Nat) : Int) = 8 + (b.length : Int) := by omega
  have hl' : (b.length : Int) ≤ 1048576 := by omega
  clear hR hsrc hT
  go_enter Tryz.func34, Tryz.ntmps34
  go_wp2_with (at_make; refine wpList_make_full _ rfl _ _ 33 rfl w.heap.size 5 i0 (.int .u8 0) 1 Tryz.underlying33 hi hz0 hz1 _ _ _ _ (8 + b.length) rfl rfl hlen.symm hlen.symm ?b1 ?b2 ?b3 ?_)
  case b1 => rw [hz2]; omega
  case b2 => unfold maxLen; omega
  case b3 => omega
  intro w1 hown hgrow
  go_wp2_with fail
  obtain ⟨h1, _⟩ := own_buf (l := List.replicate (8 + b.length) 0) (by rw [← made_list]; exact hown)
  have t1 : Turn (fun _ => False) w w1 := (Turn.refl _ w).grown hgrow (fun k e => by cases e)
  have H1 := Lib.hid h1
  have T1 := Lib.hid t1
  clear h1 t1 hown hgrow
  go_at_call 50
  refine (putWord_any b.length (by omega) H1.out (by omega) (by simp; omega)).mono ?_
  rintro r w2 ⟨rfl, h2, t2⟩
  have H2 := Lib.hid h2
  have T2 := Lib.hid (T1.out.trans t2 (fun i hi e => by omega))
  have hl2 : (put (List.replicate (8 + b.length) (0 : UInt8)) 0 (Walp.le4 b.length)).length = 8 + b.length := by rw [put_length (by rw [Walp.le_length]; simp; omega)]; simp
  have h2d : BufAt w2.drew w.heap.size (put (List.replicate (8 + b.length) 0) 0 (Walp.le4 b.length)) := h2
  have H2D := Lib.hid h2d
  clear h2 t2 h2d
  go_wp2_with fail
  go_region_with (first | (go_at_call 51; refine (sum_any (HT.out.turned (T2.out.drew)) (HR.out.turned T2.out.drew) (by omega)).mono ?_; rintro r w3 ⟨rfl, rfl⟩) | (go_at_call 50; refine (putWord_any (Walp.sum b) (Walp.sum_lt b) H2D.out (by omega) (by rw [hl2]; omega)).mono ?_; rintro r w3 ⟨rfl, h3, t3⟩))
  all_goals
    have T3 := Lib.hid (T2.out.drew.trans t3 (fun i hi e => by omega))
    rw [put_put _ (Walp.le_length _ _) (Walp.le_length _ _)] at h3
    have hR3 := HR.out.turned T3.out
    obtain ⟨sp3, cap3, hv3, hsrc3⟩ := hR3
    simp only [Value.slice.injEq] at hv3
    obtain ⟨rfl, _, rfl⟩ := hv3
    have hb3 : Below w.heap.size w w3 := ⟨T3.out.os, T3.out.tape, T3.out.output, T3.out.size, fun k hk => T3.out.block k hk (fun q => q)⟩
    have h38 : w3.heap[w.heap.size]? = some (.cells ((Walp.le4 b.length ++ (Walp.le4 (Walp.sum b) ++ List.replicate b.length 0)).map byteV).toArray 5 (0, 0)) := h3
    have hcl : ((Walp.le4 b.length ++ (Walp.le4 (Walp.sum b) ++ List.replicate b.length 0)).map byteV).length = 8 + b.length := by simp [Walp.le_length]; omega
    have hsp := splice_frame (b := b) (A := Walp.le4 b.length) (B := Walp.le4 (Walp.sum b)) (Walp.le_length _ _) (Walp.le_length _ _)
    obtain ⟨cur, hcur⟩ : ∃ cur, cur = (Walp.le4 b.length ++ (Walp.le4 (Walp.sum b) ++ List.replicate b.length 0)).map byteV := ⟨_, rfl⟩
    obtain ⟨X, hX⟩ : ∃ X, X = b.map byteV := ⟨_, rfl⟩
    have hXl : X.length = b.length := by rw [hX]; simp
    rw [← hcur] at h38 hcl hsp
    rw [← hX] at hsp
    have hsz1 : (Tryz.prog.info? 5).map (·.size) = some 1 := by rw [hi]; simp [hz1]
    have hsrcX : 0 < X.length → ∃ ad, sp = some ad ∧ ∀ j v, X[j]? = some v → w3.cell? (ad.add j) = some v := by
      intro h0
      obtain ⟨ad, e1, e2⟩ := hsrc3 (by omega)
      refine ⟨ad, e1, fun j v hj => ?_⟩
      rw [hX, List.getElem?_map] at hj
      obtain ⟨x, hx, rfl⟩ := Option.map_eq_some_iff.1 hj
      exact e2 j x hx
    have h1 : ∀ v ∈ X, v.oneCell' = true := by
      intro v hv
      rw [hX] at hv
      obtain ⟨x, _, rfl⟩ := List.mem_map.1 hv
      rfl
    have HC := Lib.hid h38
    have HCL := Lib.hid hcl
    have HSP := Lib.hid hsp
    have HXL := Lib.hid hXl
    have hpos : 0 < X.length → some (⟨w.heap.size, 8, none⟩ : Addr) = some ⟨w.heap.size, 8, none⟩ ∧ ∃ ad, sp = some ad ∧ ∀ j v, X[j]? = some v → w3.cell? (ad.add j) = some v := fun h0 => ⟨rfl, hsrcX h0⟩
    have hn : X.length = Nat.min b.length b.length := by rw [hXl]; exact (Nat.min_self _).symm
    have hfit : 8 + X.length ≤ cur.length := by omega
    have HSP2 := Lib.hid hpos
    have HN := Lib.hid hn
    have HFIT := Lib.hid hfit
    clear hpos hn hfit
    have HO := Lib.hid h1
    clear h38 hcl hsp hXl hsrcX h1 hX hcur h3 t3 hsrc3 hl2
    have HB3 := Lib.hid hb3
    clear hb3
    go_wp2_with (with_reducible refine wpList_copy_splice rfl (.tmp 19) (.tmp 20) 33 33 rfl 5 Tryz.underlying33 hsz1 (some ⟨w.heap.size, 8, none⟩) sp b.length b.length b.length cap rfl rfl w.heap.size 8 cur 5 HC.out X HN.out HSP2.out HFIT.out HO.out w.heap.size w HB3.out (Nat.le_refl _) ?_)
    intro w4 hw4 hb4
    go_wp2
    go_ret
    have e4 := hw4.out
    rw [HSP.out] at e4
    have hfr : (Walp.frame b).length = 8 + b.length := Walp.frame_length b
    have hown := buf_own (w := w4) (base := w.heap.size) (g := w.heap.size) (l := Walp.frame b) e4 (Nat.le_refl _) (by rw [hfr]; unfold maxLen; omega)
    rw [hfr] at hown
    exact ⟨_, rfl, hown, Below.turn hb4 _⟩

theorem frame_any {v : Value} {b : List UInt8} (hT : SumTab w) (h : SliceR w v b) (hl : b.length ≤ 1048576) :
    Calls Tryz.prog 34 #[v] w fun r w' => ∃ g, r = .returned (.slice (some ⟨g, 0, none⟩) (8 + b.length) (8 + b.length)) ∧ w'.ownsRow w.heap.size 5 1 (.slice (some ⟨g, 0, none⟩) (8 + b.length) (8 + b.length)) (8 + b.length) ((Walp.frame b).map byteV) ∧ Turn (fun _ => False) w w' := by
  by_cases hb : b = []
  · subst hb; exact frame_nil hT h
  · exact frame_some hb hT h hl

end
end Go.Proofs.YtinghngnehhgfaaGreatDoor

/-
  Bytes behind bytes; exref's Bytes, Lent, Kept; exref2's Low.
-/
namespace Go.Proofs.YtinghngnehhgfaaGreatDoor
open Go.RowKit Go.Maps Go.WideMaps

section
variable {w w' : World} {Q : Nat → Prop}

theorem append_bytes {ops : Array Oper} {rest : List Oper} {o : Oper} {a : Act} {Qx : Exit → Act → World → Prop} (hgd : o.guard = none) (s x : Operand)
    (ho : o.op = .call { callee := .builtin .append, args := #[s, x], argTypes := #[33, 33] }) {base : Nat} {v u : Value} {l m : List UInt8} (hs : a.eval s = v) (hx : a.eval x = u)
    (hl : w.ownsRow base 5 1 v l.length (l.map byteV)) (hm : SliceB w u m) (hn : l.length + m.length ≤ 1000000000000) (hbase : base ≤ w.heap.size)
    (h : ∀ sp cap w', w'.ownsRow base 5 1 (.slice sp (l ++ m).length cap) (l ++ m).length ((l ++ m).map byteV) → Turn (fun b => v.ownBlock = some b) w w' → wpList Tryz.prog ops Qx rest (a.put o.dst (.slice sp (l ++ m).length cap)) w') :
    wpList Tryz.prog ops Qx (o :: rest) a w := by
  obtain ⟨i0, hi, hz0, hz1, hz2⟩ := info_parts Tryz.infoU8
  rcases hm with ⟨rfl, rfl⟩ | ⟨ad, cap, rfl, hc⟩
  · obtain ⟨sp2, cap2, hv, _⟩ := own_slice hl
    refine wpList_append_own_none hgd s x 33 ho base 5 i0 1 Tryz.underlying33 hi v l.length _ hs hl hx ?_
    have h2 := h sp2 cap2 w (by rw [List.append_nil, ← hv]; exact hl) (Turn.refl _ _)
    rw [List.append_nil, ← hv] at h2
    exact h2
  · refine wpList_append_own_at w hgd s x 33 ho base 5 i0 (.int .u8 0) 1 1 Tryz.underlying33 hi hz0 hz1 hz2 rfl (by decide) v l.length _ hs hl ad m.length cap (m.map byteV) hx (by simp) (fun j y hj => ?_) (fun y hy => ?_) (by unfold maxLen; omega) (by omega) hbase ?_
    · rw [List.getElem?_map] at hj
      obtain ⟨z, hz, rfl⟩ := Option.map_eq_some_iff.1 hj
      exact hc j z hz
    · obtain ⟨z, _, rfl⟩ := List.mem_map.1 hy
      rfl
    · intro v' w2 hown hg _ _
      have hown2 : w2.ownsRow base 5 1 v' (l ++ m).length ((l ++ m).map byteV) := by rw [List.length_append, List.map_append]; exact hown
      obtain ⟨sp4, cap4, e4, _⟩ := own_slice hown2
      subst e4
      exact h sp4 cap4 w2 hown2 ((Turn.refl _ w).grown hg (fun k e => Or.inl e))

theorem empty_row (w : World) : (w.alloc (.cells #[] 5)).ownsRow w.heap.size 5 1 (.slice (some ⟨w.heap.size, 0, none⟩) 0 0) ([] : List UInt8).length (([] : List UInt8).map byteV) :=
  ⟨by simp, Or.inr ⟨w.heap.size, 0, _, rfl, Nat.le_refl _, heap_alloc_new _ _, Nat.le_refl _, Nat.zero_le _, by simp, by simp⟩⟩

theorem SliceB.later {v : Value} {b : List UInt8} (h : SliceB w v b) (ht : Turn (fun _ => False) w w') : SliceB w' v b := h.turned ht (fun _ _ _ _ _ q => q)



end
end Go.Proofs.YtinghngnehhgfaaGreatDoor

/-
  Itoa, Repeat off the shelf; SegmentName; segmentNumber.
-/
namespace Go.Proofs
open Go.Shelf
def Tryz.laysM171_ren : Go.Shelf.Ren := ⟨fun | 171 => 41 | 243 => 55 | 246 => 75 | 283 => 89 | 284 => 90 | 285 => 91 | 286 => 92 | 129 => 74 | 317 => 96 | 318 => 97 | 319 => 98 | 320 => 99 | 337 => 100 | 338 => 101 | n => n, fun | 3 => 3 | 9 => 9 | 2 => 2 | 4 => 4 | 171 => 121 | 0 => 0 | 53 => 107 | 37 => 33 | 5 => 5 | 173 => 123 | 212 => 133 | 51 => 59 | 20 => 20 | 213 => 134 | 46 => 79 | 232 => 136 | 233 => 137 | n => n, fun | 17 => 1 | 18 => 3 | 19 => 4 | n => n⟩
theorem Tryz.laysM171 : Go.Proofs.LaysM.n171 Tryz.prog Tryz.laysM171_ren := {
  mixed := by kernel_rfl
  f129 := Tryz.func74.trans (congrArg some (by kernel_rfl))
  f171 := Tryz.func41.trans (congrArg some (by kernel_rfl))
  f243 := Tryz.func55.trans (congrArg some (by kernel_rfl))
  f246 := Tryz.func75.trans (congrArg some (by kernel_rfl))
  f283 := Tryz.func89.trans (congrArg some (by kernel_rfl))
  f284 := Tryz.func90.trans (congrArg some (by kernel_rfl))
  f285 := Tryz.func91.trans (congrArg some (by kernel_rfl))
  f286 := Tryz.func92.trans (congrArg some (by kernel_rfl))
  f317 := Tryz.func96.trans (congrArg some (by kernel_rfl))
  f318 := Tryz.func97.trans (congrArg some (by kernel_rfl))
  f319 := Tryz.func98.trans (congrArg some (by kernel_rfl))
  f320 := Tryz.func99.trans (congrArg some (by kernel_rfl))
  f337 := Tryz.func100.trans (congrArg some (by kernel_rfl))
  f338 := Tryz.func101.trans (congrArg some (by kernel_rfl))
  t0 := Tryz.underlying0
  a0 := Tryz.isAgg0
  z0 := Tryz.sizeOf0
  v0 := Tryz.zeroValue0
  t2 := Tryz.underlying2
  a2 := Tryz.isAgg2
  z2 := Tryz.sizeOf2
  v2 := Tryz.zeroValue2
  t3 := Tryz.underlying3
  a3 := Tryz.isAgg3
  z3 := Tryz.sizeOf3
  v3 := Tryz.zeroValue3
  t4 := Tryz.underlying4
  a4 := Tryz.isAgg4
  z4 := Tryz.sizeOf4
  v4 := Tryz.zeroValue4
  t5 := Tryz.underlying5
  a5 := Tryz.isAgg5
  z5 := Tryz.sizeOf5
  v5 := Tryz.zeroValue5
  t9 := Tryz.underlying9
  a9 := Tryz.isAgg9
  z9 := Tryz.sizeOf9
  v9 := Tryz.zeroValue9
  t20 := Tryz.underlying20
  a20 := Tryz.isAgg20
  z20 := Tryz.sizeOf20
  v20 := Tryz.zeroValue20
  t37 := Tryz.underlying33
  a37 := Tryz.isAgg33
  z37 := Tryz.sizeOf33
  v37 := Tryz.zeroValue33
  t46 := Tryz.underlying79
  a46 := Tryz.isAgg79
  z46 := Tryz.sizeOf79
  v46 := Tryz.zeroValue79
  t51 := Tryz.underlying59
  a51 := Tryz.isAgg59
  z51 := Tryz.sizeOf59
  v51 := Tryz.zeroValue59
  t53 := Tryz.underlying107
  a53 := Tryz.isAgg107
  z53 := Tryz.sizeOf107
  v53 := Tryz.zeroValue107
  t171 := Tryz.underlying121
  a171 := Tryz.isAgg121
  z171 := Tryz.sizeOf121
  v171 := Tryz.zeroValue121
  t173 := Tryz.underlying123
  a173 := Tryz.isAgg123
  z173 := Tryz.sizeOf123
  v173 := Tryz.zeroValue123
  t212 := Tryz.underlying133
  a212 := Tryz.isAgg133
  z212 := Tryz.sizeOf133
  v212 := Tryz.zeroValue133
  t213 := Tryz.underlying134
  a213 := Tryz.isAgg134
  z213 := Tryz.sizeOf134
  t232 := Tryz.underlying136
  a232 := Tryz.isAgg136
  z232 := Tryz.sizeOf136
  v232 := Tryz.zeroValue136
  t233 := Tryz.underlying137
  a233 := Tryz.isAgg137
  z233 := Tryz.sizeOf137
  v233 := Tryz.zeroValue137
  g17 := by kernel_rfl
  g18 := by kernel_rfl
  g19 := by kernel_rfl
  i0 := by kernel_rfl
  i2 := by kernel_rfl
  i3 := by kernel_rfl
  i4 := by kernel_rfl
  i5 := by kernel_rfl
  i9 := by kernel_rfl
  i20 := by kernel_rfl
  i37 := by kernel_rfl
  i46 := by kernel_rfl
  i51 := by kernel_rfl
  i53 := by kernel_rfl
  i171 := by kernel_rfl
  i173 := by kernel_rfl
  i212 := by kernel_rfl
  i232 := by kernel_rfl
  i233 := by kernel_rfl
  m17 := by kernel_rfl
  m18 := by kernel_rfl
  m19 := by kernel_rfl }
def Tryz.lays105_ren : Go.Shelf.Ren := ⟨fun | 105 => 42 | 212 => 56 | 99 => 36 | 165 => 57 | 166 => 58 | 170 => 59 | 169 => 60 | 263 => 76 | 264 => 77 | 206 => 52 | 240 => 78 | 241 => 79 | 276 => 93 | 277 => 94 | n => n, fun | 9 => 9 | 3 => 3 | 4 => 4 | 20 => 20 | 0 => 0 | 46 => 79 | 109 => 80 | 5 => 5 | 72 => 84 | 76 => 88 | 51 => 59 | 146 => 109 | 53 => 107 | 148 => 111 | 70 => 82 | 37 => 33 | 75 => 87 | 127 => 91 | 164 => 125 | 80 => 90 | n => n, fun | n => n⟩
theorem Tryz.lays105 : Go.Proofs.Lays.n105 Tryz.prog Tryz.lays105_ren := {
  mixed := by kernel_rfl
  f99 := Tryz.func36.trans (congrArg some (by kernel_rfl))
  f105 := Tryz.func42.trans (congrArg some (by kernel_rfl))
  f165 := Tryz.func57.trans (congrArg some (by kernel_rfl))
  f166 := Tryz.func58.trans (congrArg some (by kernel_rfl))
  f169 := Tryz.func60.trans (congrArg some (by kernel_rfl))
  f170 := Tryz.func59.trans (congrArg some (by kernel_rfl))
  f206 := Tryz.func52.trans (congrArg some (by kernel_rfl))
  f212 := Tryz.func56.trans (congrArg some (by kernel_rfl))
  f240 := Tryz.func78.trans (congrArg some (by kernel_rfl))
  f241 := Tryz.func79.trans (congrArg some (by kernel_rfl))
  f263 := Tryz.func76.trans (congrArg some (by kernel_rfl))
  f264 := Tryz.func77.trans (congrArg some (by kernel_rfl))
  f276 := Tryz.func93.trans (congrArg some (by kernel_rfl))
  f277 := Tryz.func94.trans (congrArg some (by kernel_rfl))
  t0 := Tryz.underlying0
  a0 := Tryz.isAgg0
  z0 := Tryz.sizeOf0
  v0 := Tryz.zeroValue0
  t3 := Tryz.underlying3
  a3 := Tryz.isAgg3
  z3 := Tryz.sizeOf3
  v3 := Tryz.zeroValue3
  t4 := Tryz.underlying4
  a4 := Tryz.isAgg4
  z4 := Tryz.sizeOf4
  v4 := Tryz.zeroValue4
  t5 := Tryz.underlying5
  a5 := Tryz.isAgg5
  z5 := Tryz.sizeOf5
  v5 := Tryz.zeroValue5
  t9 := Tryz.underlying9
  a9 := Tryz.isAgg9
  z9 := Tryz.sizeOf9
  v9 := Tryz.zeroValue9
  t20 := Tryz.underlying20
  a20 := Tryz.isAgg20
  z20 := Tryz.sizeOf20
  v20 := Tryz.zeroValue20
  t37 := Tryz.underlying33
  a37 := Tryz.isAgg33
  z37 := Tryz.sizeOf33
  v37 := Tryz.zeroValue33
  t46 := Tryz.underlying79
  a46 := Tryz.isAgg79
  z46 := Tryz.sizeOf79
  v46 := Tryz.zeroValue79
  t51 := Tryz.underlying59
  a51 := Tryz.isAgg59
  z51 := Tryz.sizeOf59
  v51 := Tryz.zeroValue59
  t53 := Tryz.underlying107
  a53 := Tryz.isAgg107
  z53 := Tryz.sizeOf107
  v53 := Tryz.zeroValue107
  t70 := Tryz.underlying82
  a70 := Tryz.isAgg82
  z70 := Tryz.sizeOf82
  v70 := Tryz.zeroValue82
  t72 := Tryz.underlying84
  a72 := Tryz.isAgg84
  z72 := Tryz.sizeOf84
  v72 := Tryz.zeroValue84
  t75 := Tryz.underlying87
  a75 := Tryz.isAgg87
  z75 := Tryz.sizeOf87
  v75 := Tryz.zeroValue87
  t76 := Tryz.underlying88
  a76 := Tryz.isAgg88
  z76 := Tryz.sizeOf88
  v76 := Tryz.zeroValue88
  t109 := Tryz.underlying80
  a109 := Tryz.isAgg80
  z109 := Tryz.sizeOf80
  v109 := Tryz.zeroValue80
  t127 := Tryz.underlying91
  a127 := Tryz.isAgg91
  z127 := Tryz.sizeOf91
  v127 := Tryz.zeroValue91
  t146 := Tryz.underlying109
  a146 := Tryz.isAgg109
  z146 := Tryz.sizeOf109
  v146 := Tryz.zeroValue109
  t148 := Tryz.underlying111
  a148 := Tryz.isAgg111
  z148 := Tryz.sizeOf111
  v148 := Tryz.zeroValue111
  t164 := Tryz.underlying125
  a164 := Tryz.isAgg125
  z164 := Tryz.sizeOf125
  v164 := Tryz.zeroValue125 }
theorem Tryz.builderExtra105 : Builder.Extra Tryz.prog Tryz.lays105_ren where
  sizeBuilder := by kernel_rfl
  liesBuilder := by kernel_rfl
  t5 := Tryz.underlying5
  a5 := Tryz.isAgg5
  z5 := Tryz.sizeOf5
  v5 := Tryz.zeroValue5
  infoByte := by kernel_rfl
  cellsByte := by kernel_rfl
  sizeByte := by kernel_rfl
  neB5 := by decide
end Go.Proofs
namespace Go.Proofs.YtinghngnehhgfaaGreatDoor
open Go.RowKit Go.Maps Go.WideMaps

section
variable {w w' : World} {p : Nat} {S S' : Fsp.Fs} {c c' : Bool} {Q : Nat → Prop} {mo : Option Nat} {pl : List UInt8 → Pl}

/-- a text of these bytes -/
abbrev txt (l : List UInt8) : ByteArray := ⟨l.toArray⟩
theorem txt_list (l : List UInt8) : (txt l).data.toList = l := rfl
theorem txt_data (s : ByteArray) : txt s.data.toList = s := rfl

theorem itoa_any (n : Nat) (hn : n < 100) (t : ByteArray) (ht : t = txt (Lib.decDigits n)) (w : World) : Calls Tryz.prog 41 #[.int .i64 n] w fun r w' => r = .returned (.string t) ∧ Turn (fun _ => False) w w' :=
  (Any.strconv_Itoa_small { Tryz.laysM171 with } n hn w).mono fun r w' h => ⟨by rw [h.1, ht], by rw [h.2]; exact Turn.refl _ _⟩

theorem repeat_one (k : Nat) : Lib.repeatL [48] k = List.replicate k 48 := by
  induction k with
  | zero => rfl
  | succ k ih => rw [List.replicate_succ, Lib.repeatL, ih]; rfl

theorem repeat_any (k : Nat) (hk : k ≤ 8) (t : ByteArray) (ht : t = txt (List.replicate k 48)) (w : World) : Calls Tryz.prog 42 #[.string ⟨#[48]⟩, .int .i64 k] w fun r w' => r = .returned (.string t) ∧ Turn (fun _ => False) w w' :=
  (Any.strings_Repeat Tryz.lays105 Tryz.builderExtra105 ⟨#[48]⟩ k w (by omega) (by show 1 * k ≤ _; omega)).mono fun r w' h => ⟨by rw [h.1, ht, show (⟨#[48]⟩ : ByteArray).data.toList = [48] from rfl, repeat_one], Below.turn h.2 _⟩

/-- the name of a segment -/
def segName (s : ByteArray) (n : Nat) : ByteArray := txt (Walp.seg s.data.toList n)
theorem segName_list (s : ByteArray) (n : Nat) : (segName s n).data.toList = Walp.seg s.data.toList n := rfl

set_option maxRecDepth 100000 in
set_option maxHeartbeats 1000000 in
theorem name_core (s : ByteArray) (hs : s.size ≤ 1000) (n : Nat) (h1 : 1 ≤ n) (h2 : n < 100000000) (w : World)
    (hI : ∀ t, t = txt (Lib.decDigits n) → Calls Tryz.prog 41 #[.int .i64 n] w fun r w' => r = .returned (.string t) ∧ Turn (fun _ => False) w w') :
    Calls Tryz.prog 21 #[.string s, .int .i64 n] w fun r w' => r = .returned (.string (segName s n)) ∧ Turn (fun _ => False) w w' := by
  obtain ⟨hd, hk⟩ := Walp.dig_dec 8 n (by omega) (by decide)
  obtain ⟨t, ht⟩ : ∃ t, t = txt (Lib.decDigits n) := ⟨_, rfl⟩
  have hsz : t.size = (Lib.decDigits n).length := by rw [ht]; simp [txt, Lib.size_eq]
  obtain ⟨k, hkk⟩ : ∃ k, k = 8 - t.size := ⟨_, rfl⟩
  have e8 : (8 : Int) - (t.size : Int) = (k : Int) := by omega
  obtain ⟨u, hu⟩ : ∃ u, u = txt (List.replicate k 48) := ⟨_, rfl⟩
  have i1 : (1 : Int) ≤ (n : Int) := by omega
  have i2 : (n : Int) ≤ 99999999 := by omega
  have HT := Lib.hid ht
  have HI := Lib.hid hI
  have HU := Lib.hid hu
  have hfin : s ++ (⟨#[47]⟩ : ByteArray) ++ u ++ t = segName s n := by
    apply ByteArray.ext
    apply Array.ext'
    rw [ByteArray.data_append, ByteArray.data_append, ByteArray.data_append, Array.toList_append, Array.toList_append, Array.toList_append, hu, ht, hkk, hsz]
    show _ = Walp.seg s.data.toList n
    unfold Walp.seg
    rw [hd]
    simp
  have hus : u.size = k := by rw [hu]; simp [txt, Lib.size_eq]
  have b1 : ¬ 9223372036854775807 < s.size + 1 + u.size := by omega
  have b2 : ¬ 9223372036854775807 < s.size + 1 + u.size + t.size := by omega
  have HF := Lib.hid hfin
  have i3 : (t.size : Int) ≤ 8 := by omega
  have i4 : (n : Int) ≤ 99999999 := by omega
  clear hI ht hu hd hk hsz hkk hfin hus
  go_enter Tryz.func21, Tryz.ntmps21
  go_wp2_with (first | (go_at_call 41; refine (HI.out t HT.out).mono ?_; rintro r w1 ⟨rfl, t1⟩) | (go_at_call 42; refine (repeat_any k (by omega) u HU.out _).mono ?_; rintro r w2 ⟨rfl, t2⟩))
  go_ret
  exact ⟨by rw [HF.out]; rfl, t1.trans t2 (fun _ _ q => q)⟩

theorem name_any (s : ByteArray) (hs : s.size ≤ 1000) (n : Nat) (h1 : 1 ≤ n) (h2 : n < 100) (w : World) :
    Calls Tryz.prog 21 #[.string s, .int .i64 n] w fun r w' => r = .returned (.string (segName s n)) ∧ Turn (fun _ => False) w w' :=
  name_core s hs n h1 (by omega) w fun t ht => itoa_any n h2 t ht w

theorem grow_turn (w : World) (k : Nat) (os : Array Obj) (Q : Nat → Prop) : Turn Q w (Go.Sort.grow (w.drewN k) os) :=
  ⟨rfl, rfl, rfl, by simp [Go.Sort.grow, World.drewN], fun i hi _ => by simp [Go.Sort.grow, World.drewN, Array.getElem?_append, hi]⟩

/-- any number's name, where the library's table lies -/
theorem name_tab (s : ByteArray) (hs : s.size ≤ 1000) (n : Nat) (h1 : 1 ≤ n) (h2 : n < 100000000) (w : World) (htab : Lib.TabIs Tryz.prog w "internal/strconv.uint64pow10" .u64 Lib.pow10Tab) :
    Calls Tryz.prog 21 #[.string s, .int .i64 n] w fun r w' => r = .returned (.string (segName s n)) ∧ Turn (fun _ => False) w w' :=
  name_core s hs n h1 h2 w fun t ht => (Any.strconv_Itoa Tryz.laysM171 n (by omega) (by omega) w htab).mono fun r w' h => ⟨by
      rw [h.1, ht]
      have : Lib.itoa (n : Int) = Lib.decDigits n := by unfold Lib.itoa; rw [if_neg (by omega), Int.toNat_natCast]
      rw [this], by obtain ⟨k, os, e⟩ := h.2; rw [e]; exact grow_turn w k os _⟩

theorem isDig_int (c : UInt8) : Walp.isDig c = true ↔ 48 ≤ (c.toNat : Int) ∧ (c.toNat : Int) ≤ 57 := by
  rw [Walp.isDig_iff]; omega

theorem val_take {l : List UInt8} {k : Nat} (h : k < l.length) : Walp.val (l.take (k + 1)) = Walp.val (l.take k) * 10 + (l[k].toNat - 48) := by
  rw [List.take_succ_eq_append_getElem h, Walp.val_snoc]

set_option maxRecDepth 100000 in
set_option maxHeartbeats 1000000 in
theorem number_any (s : ByteArray) (w : World) : Calls Tryz.prog 44 #[.string s] w fun r w' => r = .returned (.int .i64 (Walp.segNum s.data.toList : Nat)) ∧ w = w' := by
  have hl : s.data.toList.length = s.size := (Lib.size_eq s).symm
  by_cases h8 : s.size = 8
  · have b1 : ((s.size : Int) != 8) = false := by rw [h8]; rfl
    go_enter Tryz.func44, Tryz.ntmps44
    have H8 := Lib.hid h8
    have HL := Lib.hid hl
    clear h8 hl
    go_wp2_with fail
    go_loop [3, 9] (fun n i => ∃ k : Nat, k ≤ 8 ∧ i = .int .i64 k ∧ (s.data.toList.take k).all Walp.isDig = true ∧ n = .int .i64 (Walp.val (s.data.toList.take k) : Nat)) (fun _ i => 8 - (intOf i).toNat)
    case atStart => exact ⟨0, by omega, rfl, rfl, rfl⟩
    case round =>
      obtain ⟨k, hk, rfl, hall, rfl⟩ := hrel
      by_cases hlt : k < 8
      · have hks : k < s.size := by have := H8.out; omega
        have hkl : k < s.data.toList.length := by have := HL.out; omega
        have hv := (Walp.dig_val hall).2
        rw [List.length_take] at hv
        have hv2 : Walp.val (s.data.toList.take k) < 10 ^ 8 := Nat.lt_of_lt_of_le hv (Nat.pow_le_pow_right (by decide) (by omega))
        have hvt := val_take hkl
        have e : s.data.toList[k] = s[k] := rfl
        rw [e] at hvt
        have i0 : (0 : Int) ≤ (k : Int) := by omega
        have i1 : (k : Int) < (s.size : Int) := by omega
        have HA := Lib.hid hall
        clear hall hv
        have hc := s[k].toNat_lt
        cases hd : Walp.isDig s[k] with
        | true =>
          have hdd := (isDig_int _).1 hd
          have hall' : (s.data.toList.take (k + 1)).all Walp.isDig = true := by
            rw [List.take_succ_eq_append_getElem hkl, List.all_append, HA.out]
            simp only [List.all_cons, List.all_nil, Bool.and_true, Bool.true_and]
            exact hd
          have HV := Lib.hid hvt
          have HA' := Lib.hid hall'
          obtain ⟨d1, d2⟩ := hdd
          clear hvt hall' hd e
          generalize Walp.val (s.data.toList.take k) = x at *
          go_wp2
          go_round
          case rel => exact ⟨k + 1, by omega, by go_num, HA'.out, by rw [HV.out]; congr 1; omega⟩
          case measure => simp [intOf]; omega
        | false =>
          have hz : Walp.segNum s.data.toList = 0 := by
            unfold Walp.segNum
            rw [if_neg]
            rintro ⟨_, h2⟩
            rw [List.all_eq_true] at h2
            have := h2 s.data.toList[k] (List.getElem_mem hkl)
            rw [e, hd] at this; cases this
          have hdd : (s[k].toNat : Int) < 48 ∨ 57 < (s[k].toNat : Int) := by
            have h1 := (isDig_int s[k])
            rw [hd] at h1
            have h2 : ¬ (48 ≤ (s[k].toNat : Int) ∧ (s[k].toNat : Int) ≤ 57) := fun q => by have := h1.2 q; cases this
            omega
          have HZ := Lib.hid hz
          clear hvt hd e hz
          rcases hdd with d1 | d1
          all_goals
            go_wp2
            go_ret
            exact ⟨ret_int (by rw [HZ.out]; rfl), rfl⟩
      · have hk0 : k = 8 := by omega
        subst hk0
        have hz : Walp.segNum s.data.toList = Walp.val (s.data.toList.take 8) := by
          have h8l : s.data.toList.length = 8 := by have := HL.out; have := H8.out; omega
          rw [List.take_of_length_le (by omega)] at hall ⊢
          unfold Walp.segNum
          rw [if_pos ⟨h8l, hall⟩]
        have HZ := Lib.hid hz
        clear hz hall
        go_wp2
        go_ret
        exact ⟨ret_int (by rw [HZ.out]), rfl⟩
  · have b1 : ((s.size : Int) != 8) = true := by rw [bne_iff_ne]; omega
    have hz : Walp.segNum s.data.toList = 0 := by
      unfold Walp.segNum
      rw [if_neg]
      rintro ⟨h1, _⟩; omega
    rw [hz]
    go_enter Tryz.func44, Tryz.ntmps44
    go_wp2
    go_ret
    exact ⟨rfl, rfl⟩

end
end Go.Proofs.YtinghngnehhgfaaGreatDoor
