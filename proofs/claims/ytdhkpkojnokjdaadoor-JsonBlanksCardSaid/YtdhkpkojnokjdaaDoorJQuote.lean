/-
  A text between quotes, appended.
-/
import Derived.Test.YtdhkpkojnokjdaaDoorGJc
import Derived.Test.YtdhkpkojnokjdaaDoorGNt
import Derived.Deep.RegionLaw
namespace Go.Proofs.YtdhkpkojnokjdaaDoor
open Go.RowKit Go.Shelf
set_option linter.unusedVariables false
set_option linter.unusedSimpArgs false

def hexC (n : Nat) : UInt8 := if n < 10 then UInt8.ofNat (48 + n) else UInt8.ofNat (87 + n)
/-- a byte between quotes -/
def quoB (c : UInt8) : List UInt8 := if c.toNat = 34 ∨ c.toNat = 92 then [92, c] else if c.toNat < 32 ∨ c.toNat = 127 then [92, 117, 48, 48, hexC (c.toNat / 16), hexC (c.toNat % 16)] else [c]
def quoL (s : List UInt8) : List UInt8 := s.flatMap quoB
def quoteB (s : List UInt8) : List UInt8 := 34 :: (quoL s ++ [34])
theorem quoB_len (c : UInt8) : (quoB c).length ≤ 6 := by unfold quoB; split; (· simp); (split <;> simp)
theorem quoL_len (s : List UInt8) : (quoL s).length ≤ 6 * s.length := by
  induction s with
  | nil => simp [quoL]
  | cons c s ih =>
    have := quoB_len c
    unfold quoL at *
    rw [List.flatMap_cons, List.length_append, List.length_cons]
    omega
theorem quoL_next {s : List UInt8} {k : Nat} (h : k < s.length) : quoL (s.take (k + 1)) = quoL (s.take k) ++ quoB s[k] := by
  unfold quoL
  rw [List.take_succ_eq_append_getElem h, List.flatMap_append]
  simp

/-- what an append leaves -/
def AppO (w : World) (base : Nat) (l : List UInt8) (e : Ending) (w' : World) : Prop := ∃ v', e = .returned v' ∧ BytesO w' base v' l ∧ Below base w w' ∧ w.heap.size ≤ w'.heap.size

theorem hex_index : ∀ n, n < 16 → (#[48, 49, 50, 51, 52, 53, 54, 55, 56, 57, 97, 98, 99, 100, 101, 102] : Array UInt8)[n]? = some (hexC n) := by decide

set_option maxRecDepth 100000 in
theorem and_15 {n : Nat} (h : n < 256) : bits BinOp.and IntKind.u8 (n : Int) 15 = (n : Int) % 16 := by
  have : ∀ x : Fin 256, bits BinOp.and IntKind.u8 ((x.val : Nat) : Int) 15 = ((x.val : Nat) : Int) % 16 := by decide
  exact this ⟨n, h⟩
theorem hex_at {i : Int} (m : Nat) (hm : m < 16) (hi : i = (m : Int)) : ∀ h, (((⟨#[48, 49, 50, 51, 52, 53, 54, 55, 56, 57, 97, 98, 99, 100, 101, 102]⟩ : ByteArray)[i.toNat]'h).toNat : Int) = ((hexC m).toNat : Int) := by
  subst hi
  have : ∀ x : Fin 16, (((⟨#[48, 49, 50, 51, 52, 53, 54, 55, 56, 57, 97, 98, 99, 100, 101, 102]⟩ : ByteArray)[x.val]'x.isLt).toNat : Int) = ((hexC x.val).toNat : Int) := by decide
  intro h
  exact this ⟨m, hm⟩

theorem cells_list (w : World) (l : List UInt8) (vs : Array Value) (h : vs.toList = l.map u8V) : ∀ j u, (l.map u8V)[j]? = some u → (w.alloc (.cells vs 5)).cell? ⟨w.heap.size, j, none⟩ = some u := by
  intro j u hj
  rw [cell_new]
  rw [← h] at hj
  simpa using hj

/-- bytes appended as a step of a region that draws its order -/
theorem step_bytes {w : World} {ops : Array Oper} {o : Oper} {a : Act} {K : Act → World → Prop} {Qx : Exit → Act → World → Prop} {E : Prop} (hgd : o.guard = none) (s x : Operand)
    (ho : o.op = .call { callee := .builtin .append, args := #[s, x], argTypes := #[26, 26] }) {base : Nat} {v : Value} {l : List UInt8} (y : List UInt8) {g n : Nat} (hs : a.eval s = v) (hx : a.eval x = .slice (some ⟨g, 0, none⟩) n n) (hny : n = y.length)
    (hl : BytesO w base v l) (h1 : ∀ j u, (y.map u8V)[j]? = some u → w.cell? ⟨g, j, none⟩ = some u) (hn : l.length + y.length ≤ 100000000) (hbase : base ≤ w.heap.size)
    (h : ∀ v' w', BytesO w' base v' (l ++ y) → Below base w w' → w.heap.size ≤ w'.heap.size → K (a.put o.dst v') w') :
    if Region.wanted o (yielded ops a.tmps) = true then Oper.wp Tryd.prog o a w K Qx else E := by
  have hw : Region.wanted o (yielded ops a.tmps) = true := by simp [Region.wanted, hgd]
  rw [if_pos hw]
  subst hny
  obtain ⟨i0, hi, hz0, hz1, hz2⟩ := infoU8_parts
  obtain ⟨v', w2, hrun, hown', hg, -, -⟩ := run_append_own_at (P := Tryd.prog) (w := w) base 26 o.type 5 i0 (.int .u8 0) 1 1 Tryd.underlying26 hi hz0 hz1 hz2 rfl (by decide) v l.length _ hl ⟨g, 0, none⟩ y.length y.length (y.map u8V) (by simp) (fun j u hj => by
      have := h1 j u hj
      rwa [show (⟨g, 0, none⟩ : Addr).add j = ⟨g, j, none⟩ by unfold Addr.add; split <;> simp_all]) (fun u hu => by
      simp only [List.mem_map] at hu
      obtain ⟨c, -, rfl⟩ := hu
      rfl) (by unfold maxLen; omega) (by omega) hbase
  unfold Oper.wp
  simp [execOp, ho, resolve, invoke, builtin, hs, hx, hrun, Result.andThen]
  have hown2 : BytesO w2 base v' (l ++ y) := by unfold BytesO; rw [List.length_append, List.map_append]; exact hown'
  exact h v' w2 hown2 (Below.grown (Below.refl _ _) hg hbase (fun k e => hl.own k e)) hg.size

set_option maxRecDepth 100000 in
set_option maxHeartbeats 6400000 in
theorem appendQuoted_any {s : ByteArray} {base : Nat} {v : Value} {l : List UInt8} {w : World} (hb : BytesO w base v l) (hbase : base ≤ w.heap.size) (hs : s.size ≤ 1000000) (hn : l.length ≤ 1000000) :
    Calls Tryd.prog 29 #[v, .string s] w (AppO w base (l ++ quoteB s.data.toList)) := by
  have HB := Lib.hid (hb.only ((Only.refl w).alloc (.cells #[.int .u8 34] 5)))
  have HO := Lib.hid (one_byte w (e := 34) (c := 34) rfl)
  have is1 : (s.size : Int) ≤ 1000000 := by omega
  clear hb
  go_enter Tryd.func29, Tryd.ntmps29
  go_wp2_with (at_builtin; refine append_byte rfl (.tmp 7) (.tmp 8) rfl (base := base) [34] rfl rfl HB.out HO.out (by simp; omega) (by simp; omega) ?_)
  intro v1 w1 hb1 hbl1 hs1
  have hs1' : w.heap.size ≤ w1.heap.size := by (try simp at hs1); omega
  have HB1 := Lib.hid hb1
  have HL1 := Lib.hid (Below.trans (Below.alloc (Below.refl _ _) hbase (.cells #[.int .u8 34] 5)) (Below.mono hbl1 (Nat.le_refl _)))
  clear hb1 hbl1 hs1 HB HO
  go_wp2_with fail
  go_loopg [0, 12] (s.size) (fun g bv iv wr => ∃ k : Nat, iv = .int .i64 (k : Int) ∧ k ≤ s.size ∧ s.size - k ≤ g ∧ BytesO wr base bv ((l ++ [34]) ++ quoL (s.data.toList.take k)) ∧ Below base w wr ∧ w.heap.size ≤ wr.heap.size)
  case atStart => exact ⟨0, rfl, Nat.zero_le _, Nat.le_refl _, by have := HB1.out; simpa [quoL] using this, HL1.out, hs1'⟩
  case round =>
    obtain ⟨k, rfl, hk, hg, hbr, hbl, hsz⟩ := hrel
    by_cases hlt : k < s.size
    · have il : (k : Int) < (s.size : Int) := by omega
      have hq := quoL_next (s := s.data.toList) (k := k) (by rw [data_len]; exact hlt)
      have hqlen := quoL_len (s.data.toList.take k)
      have htl : (s.data.toList.take k).length = k := by rw [List.length_take, data_len]; omega
      rw [htl] at hqlen
      rw [show s.data.toList[k]'(by rw [data_len]; exact hlt) = s[k]'hlt from rfl] at hq
      obtain ⟨c, hc⟩ : ∃ c : UInt8, c = s[k]'hlt := ⟨_, rfl⟩
      have hc2 : (s[k]'hlt).toNat = c.toNat := by rw [hc]
      rw [← hc] at hq
      have HQ := Lib.hid hq
      have HBR := Lib.hid hbr
      have HBL := Lib.hid hbl
      have hc256 : c.toNat < 256 := c.toNat_lt
      obtain ⟨n, hcn⟩ : ∃ n, n = c.toNat := ⟨_, rfl⟩
      rw [← hcn] at hc2 hc256
      have HCN := Lib.hid hcn
      clear hbr hbl hq hc htl hcn
      by_cases h1 : n = 34 ∨ n = 92
      · have hqb : quoB c = [92, c] := by unfold quoB; rw [← HCN.out, if_pos h1]
        have HQB := Lib.hid hqb
        have HC := Lib.hid (cells_list wr [92, c] #[.int .u8 92, .int .u8 (n : Int)] (by simp [u8V, HCN.out]))
        have HB3 := Lib.hid (HBR.out.only ((Only.refl wr).alloc (.cells #[.int .u8 92, .int .u8 (n : Int)] 5)))
        have key : ((n : Int) == 34) = true ∨ (((n : Int) == 34) = false ∧ ((n : Int) == 92) = true) := by
          rcases h1 with rfl | rfl
          · left; rfl
          · right; exact ⟨rfl, rfl⟩
        clear h1 hqb
        rcases key with e1 | ⟨e1, e2⟩
        all_goals
          go_wp2_with (at_builtin; refine append_byte rfl (.tmp 29) (.tmp 31) rfl (base := base) [92, c] rfl rfl HB3.out HC.out (by simp; omega) (by simp; omega) ?_)
          intro v4 w4 hb4 hbl4 hs4
          have HB4 := Lib.hid hb4
          have HL4 := Lib.hid (Below.trans (Below.alloc HBL.out (by omega) (.cells #[.int .u8 92, .int .u8 (n : Int)] 5)) hbl4)
          have hs5 : w.heap.size ≤ w4.heap.size := by (try simp at hs4); omega
          clear hb4 hbl4 hs4 HB3 HC
          go_wp2_with fail
          go_roundg (s.size - (k + 1))
          case measure => omega
          case rel => exact ⟨k + 1, by go_num, by omega, Nat.le_refl _, by rw [HQ.out, HQB.out]; simpa using HB4.out, HL4.out, hs5⟩
      · by_cases h2 : n < 32 ∨ n = 127
        · have e1 : ((n : Int) == 34) = false := by rw [Bool.eq_false_iff]; intro e; have := beq_iff_eq.1 e; omega
          have e2 : ((n : Int) == 92) = false := by rw [Bool.eq_false_iff]; intro e; have := beq_iff_eq.1 e; omega
          have hqb : quoB c = [92, 117, 48, 48, hexC (n / 16), hexC (n % 16)] := by unfold quoB; rw [← HCN.out, if_neg h1, if_pos h2]
          have HQB := Lib.hid hqb
          have key : decide ((n : Int) < 32) = true ∨ (decide ((n : Int) < 32) = false ∧ ((n : Int) == 127) = true) := by
            rcases h2 with h | rfl
            · left; exact decide_eq_true (by omega)
            · right; exact ⟨rfl, rfl⟩
          clear h1 h2 hqb
          rcases key with e3 | ⟨e3, e4⟩
          all_goals
            go_upto_region 10 with (fail)
            have ia : (0 : Int) ≤ (n : Int) / 16 := by omega
            have ib : (n : Int) / 16 < 16 := by omega
            have ic : (0 : Int) ≤ (n : Int) % 16 := by omega
            have id1 : (n : Int) % 16 < 16 := by omega
            have hy : bits BinOp.and IntKind.u8 (n : Int) 15 = (n : Int) % 16 := and_15 hc256
            have hz1 : ∀ h, (((⟨#[48, 49, 50, 51, 52, 53, 54, 55, 56, 57, 97, 98, 99, 100, 101, 102]⟩ : ByteArray)[((n : Int) / 16).toNat]'h).toNat : Int) = ((hexC (n / 16)).toNat : Int) := hex_at (n / 16) (by omega) (by omega)
            have hz2 : ∀ h, (((⟨#[48, 49, 50, 51, 52, 53, 54, 55, 56, 57, 97, 98, 99, 100, 101, 102]⟩ : ByteArray)[((n : Int) % 16).toNat]'h).toNat : Int) = ((hexC (n % 16)).toNat : Int) := hex_at (n % 16) (by omega) (by omega)
            have HC := Lib.hid (cells_list wr.drew [92, 117, 48, 48, hexC (n / 16), hexC (n % 16)] #[.int .u8 92, .int .u8 117, .int .u8 48, .int .u8 48, .int .u8 ((hexC (n / 16)).toNat : Int), .int .u8 ((hexC (n % 16)).toNat : Int)] (by simp [u8V]))
            have HB3 := Lib.hid (HBR.out.only (Only.alloc (Only.refl wr).drew (.cells #[.int .u8 92, .int .u8 117, .int .u8 48, .int .u8 48, .int .u8 ((hexC (n / 16)).toNat : Int), .int .u8 ((hexC (n % 16)).toNat : Int)] 5)))
            go_region_law (first | (refine step_bytes (base := base) rfl (.tmp 40) (.tmp 47) rfl [92, 117, 48, 48, hexC (n / 16), hexC (n % 16)] ?_ ?_ rfl HB3.out HC.out ?_ ?_ ?_; rfl; rfl; (simp; omega); (simp; omega); intro v4 w4 hb4 hbl4 hs4) | fail)
            all_goals
              have HB4 := Lib.hid hb4
              have HL4 := Lib.hid (Below.trans (Below.alloc (Below.drew HBL.out) (Nat.le_trans hbase hsz) (.cells #[.int .u8 92, .int .u8 117, .int .u8 48, .int .u8 48, .int .u8 ((hexC (n / 16)).toNat : Int), .int .u8 ((hexC (n % 16)).toNat : Int)] 5)) hbl4)
              have hs5 : w.heap.size ≤ w4.heap.size := by (try simp at hs4); omega
              clear hb4 hbl4 hs4 HB3 HC
              go_wp2_with fail
              go_roundg (s.size - (k + 1))
              case measure => omega
              case rel => exact ⟨k + 1, by go_num, by omega, Nat.le_refl _, by rw [HQ.out, HQB.out]; simpa using HB4.out, HL4.out, hs5⟩
        · have e1 : ((n : Int) == 34) = false := by rw [Bool.eq_false_iff]; intro e; have := beq_iff_eq.1 e; omega
          have e2 : ((n : Int) == 92) = false := by rw [Bool.eq_false_iff]; intro e; have := beq_iff_eq.1 e; omega
          have e3 : decide ((n : Int) < 32) = false := decide_eq_false (by omega)
          have e4 : ((n : Int) == 127) = false := by rw [Bool.eq_false_iff]; intro e; have := beq_iff_eq.1 e; omega
          have hqb : quoB c = [c] := by unfold quoB; rw [← HCN.out, if_neg h1, if_neg h2]
          have HQB := Lib.hid hqb
          have HC := Lib.hid (cells_list wr [c] #[.int .u8 (n : Int)] (by simp [u8V, HCN.out]))
          have HB3 := Lib.hid (HBR.out.only ((Only.refl wr).alloc (.cells #[.int .u8 (n : Int)] 5)))
          clear h1 h2 hqb
          go_wp2_with (at_builtin; refine append_byte rfl (.tmp 18) (.tmp 20) rfl (base := base) [c] rfl rfl HB3.out HC.out (by simp; omega) (by simp; omega) ?_)
          intro v4 w4 hb4 hbl4 hs4
          have HB4 := Lib.hid hb4
          have HL4 := Lib.hid (Below.trans (Below.alloc HBL.out (by omega) (.cells #[.int .u8 (n : Int)] 5)) hbl4)
          have hs5 : w.heap.size ≤ w4.heap.size := by (try simp at hs4); omega
          clear hb4 hbl4 hs4 HB3 HC
          go_wp2_with fail
          go_roundg (s.size - (k + 1))
          case measure => omega
          case rel => exact ⟨k + 1, by go_num, by omega, Nat.le_refl _, by rw [HQ.out, HQB.out]; simpa using HB4.out, HL4.out, hs5⟩
    · obtain rfl : k = s.size := by omega
      have il : ¬ (s.size : Int) < (s.size : Int) := by omega
      rw [List.take_of_length_le (by rw [data_len]; exact Nat.le_refl _)] at hbr
      have hql := quoL_len s.data.toList
      rw [data_len] at hql
      have HB3 := Lib.hid (hbr.only ((Only.refl wr).alloc (.cells #[.int .u8 34] 5)))
      have HC := Lib.hid (one_byte wr (e := 34) (c := 34) rfl)
      have HBL := Lib.hid hbl
      clear hbr hbl
      go_wp2_with (at_builtin; refine append_byte rfl (.tmp 50) (.tmp 51) rfl (base := base) [34] rfl rfl HB3.out HC.out (by simp; omega) (by simp; omega) ?_)
      intro v4 w4 hb4 hbl4 hs4
      have HB4 := Lib.hid hb4
      have HL4 := Lib.hid (Below.trans (Below.alloc HBL.out (by omega) (.cells #[.int .u8 34] 5)) hbl4)
      have hs5 : w.heap.size ≤ w4.heap.size := by (try simp at hs4); omega
      clear hb4 hbl4 hs4 HB3 HC
      go_wp2_with fail
      go_ret
      exact ⟨_, rfl, by unfold quoteB; simpa using HB4.out, HL4.out, hs5⟩
end Go.Proofs.YtdhkpkojnokjdaaDoor
