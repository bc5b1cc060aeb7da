/-
  Bytes appended: only their own row changes, or a new one is made.
-/
import Derived.Test.YtdhkpkojnokjdaaDoorJQuote
import Derived.Test.YtdhkpkojnokjdaaDoorGJo
namespace Go.Proofs.YtdhkpkojnokjdaaDoor
open Go.RowKit Go.Maps Go.WideMaps Go.Shelf
set_option linter.unusedVariables false
set_option linter.unusedSimpArgs false

/-- of the older blocks only that of v may have changed; the block of v' is that one, or new -/
def Grew (w : World) (v : Value) (w' : World) (v' : Value) : Prop := Turn (fun i => v.ownBlock = some i) w w' ∧ ∀ g, v'.ownBlock = some g → v.ownBlock = some g ∨ w.heap.size ≤ g
theorem Grew.refl (w : World) (v : Value) : Grew w v w v := ⟨Turn.refl _ _, fun g h => Or.inl h⟩
theorem Grew.trans {a b c : World} {v v1 v2 : Value} (h : Grew a v b v1) (k : Grew b v1 c v2) : Grew a v c v2 := by
  refine ⟨h.1.trans k.1 (fun i hi e => ?_), fun g hg => ?_⟩
  · rcases h.2 i e with q | q
    · exact q
    · omega
  · rcases k.2 g hg with q | q
    · exact h.2 g q
    · exact Or.inr (Nat.le_trans h.1.size q)
theorem Grew.only {a b c : World} {v v1 : Value} (h : Grew a v b v1) (t : Only b c) : Grew a v c v1 := h.trans ⟨t.turn.mono (fun _ q => q.elim), fun g e => Or.inl e⟩
theorem Grew.alloc {a b : World} {v v1 : Value} (h : Grew a v b v1) (o : Obj) : Grew a v (b.alloc o) v1 := h.only ((Only.refl b).alloc o)
theorem Grew.drew {a b : World} {v v1 : Value} (h : Grew a v b v1) : Grew a v b.drew v1 := h.only (Only.refl b).drew
theorem Grew.size {a b : World} {v v1 : Value} (h : Grew a v b v1) : a.heap.size ≤ b.heap.size := h.1.size
theorem Grew.below {a b : World} {v v1 : Value} {base : Nat} {l : List UInt8} (h : Grew a v b v1) (hb : BytesO a base v l) (hbase : base ≤ a.heap.size) : Below base a b :=
  ⟨h.1.os, h.1.tape, h.1.output, h.1.size, fun k hk => h.1.block k (by omega) (fun e => by have := hb.own k e; omega)⟩
theorem Grew.of {w w' : World} {v v' : Value} (hg : w.grownBy w' v.ownBlock) (h : v'.ownBlock = v.ownBlock ∨ v'.ownBlock = some w.heap.size) : Grew w v w' v' := by
  refine ⟨Turn.grown (Turn.refl _ _) hg (fun k e => Or.inl e), fun g e => ?_⟩
  rcases h with h | h
  · exact Or.inl (h ▸ e)
  · rw [h] at e; cases e; exact Or.inr (Nat.le_refl _)

/-- one byte or more are appended -/
theorem append_byteG {w : World} {ops : Array Oper} {rest : List Oper} {o : Oper} {a : Act} {Qx : Exit → Act → World → Prop} (hgd : o.guard = none) (s x : Operand)
    (ho : o.op = .call { callee := .builtin .append, args := #[s, x], argTypes := #[26, 26] }) {base : Nat} {v : Value} {l : List UInt8} (y : List UInt8) {g : Nat} (hs : a.eval s = v) (hx : a.eval x = .slice (some ⟨g, 0, none⟩) y.length y.length)
    (hl : BytesO w base v l) (h1 : ∀ j u, (y.map u8V)[j]? = some u → w.cell? ⟨g, j, none⟩ = some u) (hn : l.length + y.length ≤ 100000000) (hbase : base ≤ w.heap.size)
    (h : ∀ v' w', BytesO w' base v' (l ++ y) → Grew w v w' v' → wpList Tryd.prog ops Qx rest (a.put o.dst v') w') :
    wpList Tryd.prog ops Qx (o :: rest) a w := by
  obtain ⟨i0, hi, hz0, hz1, hz2⟩ := infoU8_parts
  refine wpList_append_own_at w hgd s x 26 ho base 5 i0 (.int .u8 0) 1 1 Tryd.underlying26 hi hz0 hz1 hz2 rfl (by decide) v l.length _ hs hl ⟨g, 0, none⟩ y.length y.length (y.map u8V) hx (by simp) (fun j u hj => ?_) (fun u hu => ?_) (by unfold maxLen; omega) (by omega) hbase ?_
  · have := h1 j u hj
    rwa [show (⟨g, 0, none⟩ : Addr).add j = ⟨g, j, none⟩ by unfold Addr.add; split <;> simp_all]
  · simp only [List.mem_map] at hu
    obtain ⟨c, -, rfl⟩ := hu
    rfl
  · intro v' w2 hown' hg _ h5
    have hown2 : BytesO w2 base v' (l ++ y) := by unfold BytesO; rw [List.length_append, List.map_append]; exact hown'
    exact h v' w2 hown2 (Grew.of hg h5)

/-- where a text that is appended comes to stand -/
theorem own_text {w : World} {base : Nat} {v : Value} {l : List UInt8} (hl : BytesO w base v l) (y : ByteArray) (hn : l.length + y.size ≤ 100000000) {ty : TypeId} {v' : Value} {w' : World}
    (hr : (Builtin.append_ #[26, 9] ty #[v, .string y]).run Tryd.prog w = .ok v' w') : v'.ownBlock = v.ownBlock ∨ v'.ownBlock = some w.heap.size := by
  obtain ⟨i0, hi, hz0, hz1, hz2⟩ := infoU8_parts
  rcases hl.2 with ⟨rfl, h0⟩ | ⟨g, cap, cur, rfl, hbg, hg, hnc, hcm, hcs, htake⟩
  · by_cases hm : y.size = 0
    · have hf := Lib.run_firstCells_string (P := Tryd.prog) w 1 y
      rw [hm] at hf
      simp [Builtin.append_, run_underlying Tryd.underlying26, run_underlying Tryd.underlying9, sizeOf, typeInfo, hi, hz1, Builtin.lenOf, hm, hf] at hr
      exact Or.inl (by rw [← hr.1])
    · have hr2 := run_append_nil_string (P := Tryd.prog) w 26 9 ty 5 i0 (.int .u8 0) Tryd.underlying26 Tryd.underlying9 hi hz0 y (by omega) (by omega) (by rw [hz2]; omega)
      rw [hr] at hr2
      simp only [Result.ok.injEq] at hr2
      exact Or.inr (by rw [hr2.1]; rfl)
  · by_cases hroom : l.length + y.size ≤ cap
    · have hcs' : cur.size = cap := by simpa using hcs
      have hr2 := Lib.run_append_room_string (P := Tryd.prog) w 26 9 ty 5 i0 Tryd.underlying26 Tryd.underlying9 hi hz1 g l.length cap cur hg y hroom (by omega)
      rw [hr] at hr2
      simp only [Result.ok.injEq] at hr2
      exact Or.inl (by rw [hr2.1]; rfl)
    · have holds : ∀ j u, (l.map u8V)[j]? = some u → w.cell? ((⟨g, 0, none⟩ : Addr).add j) = some u := World.ownsRow.cells (g := g) hl rfl
      have hr2 := Lib.run_append_grow_string (P := Tryd.prog) w 26 9 ty 5 i0 (.int .u8 0) Tryd.underlying26 Tryd.underlying9 hi hz0 ⟨g, 0, none⟩ l.length cap (l.map u8V) (by rw [hz1]; simp) holds y (by omega) (by omega) (by rw [hz2]; exact growslice_fits (by omega) (by omega))
      rw [hr] at hr2
      simp only [Result.ok.injEq] at hr2
      exact Or.inr (by rw [hr2.1]; rfl)

/-- a text is appended -/
theorem append_textG {w : World} {ops : Array Oper} {rest : List Oper} {o : Oper} {a : Act} {Qx : Exit → Act → World → Prop} (hgd : o.guard = none) (s x : Operand)
    (ho : o.op = .call { callee := .builtin .append, args := #[s, x], argTypes := #[26, 9] }) {base : Nat} {v : Value} {l : List UInt8} (y : ByteArray) (hs : a.eval s = v) (hx : a.eval x = .string y)
    (hl : BytesO w base v l) (hn : l.length + y.size ≤ 100000000) (hbase : base ≤ w.heap.size)
    (h : ∀ v' w', BytesO w' base v' (l ++ y.data.toList) → Grew w v w' v' → wpList Tryd.prog ops Qx rest (a.put o.dst v') w') :
    wpList Tryd.prog ops Qx (o :: rest) a w := by
  obtain ⟨i0, hi, hz0, hz1, hz2⟩ := infoU8_parts
  refine wpList_plain hgd fun K hK => ?_
  obtain ⟨v', w2, hr, hown', hg, -⟩ := Lib.run_append_own_string (P := Tryd.prog) w base 26 9 o.type 5 i0 Tryd.underlying26 Tryd.underlying9 hi hz0 hz1 hz2 v l.length _ hl y (by unfold maxLen; omega) (by omega) hbase
  have h5 := own_text hl y hn hr
  unfold Oper.wp execOp
  simp only [ho, resolve, invoke, builtin, Sem.run_bind, Sem.run_pure, Result.andThen_ok, List.map_toArray, List.map_cons, List.map_nil, hs, hx, hr]
  have hown2 : BytesO w2 base v' (l ++ y.data.toList) := by
    unfold BytesO
    rw [List.length_append, List.map_append, show y.data.toList.length = y.size by simp]
    have := hown'
    rwa [strCells_map] at this
  exact hK _ _ (h v' w2 hown2 (Grew.of hg h5))

/-- bytes appended as a step of a region that draws its order -/
theorem step_bytesG {w : World} {ops : Array Oper} {o : Oper} {a : Act} {K : Act → World → Prop} {Qx : Exit → Act → World → Prop} {E : Prop} (hgd : o.guard = none) (s x : Operand)
    (ho : o.op = .call { callee := .builtin .append, args := #[s, x], argTypes := #[26, 26] }) {base : Nat} {v : Value} {l : List UInt8} (y : List UInt8) {g n : Nat} (hs : a.eval s = v) (hx : a.eval x = .slice (some ⟨g, 0, none⟩) n n) (hny : n = y.length)
    (hl : BytesO w base v l) (h1 : ∀ j u, (y.map u8V)[j]? = some u → w.cell? ⟨g, j, none⟩ = some u) (hn : l.length + y.length ≤ 100000000) (hbase : base ≤ w.heap.size)
    (h : ∀ v' w', BytesO w' base v' (l ++ y) → Grew w v w' v' → K (a.put o.dst v') w') :
    if Region.wanted o (yielded ops a.tmps) = true then Oper.wp Tryd.prog o a w K Qx else E := by
  have hw : Region.wanted o (yielded ops a.tmps) = true := by simp [Region.wanted, hgd]
  rw [if_pos hw]
  subst hny
  obtain ⟨i0, hi, hz0, hz1, hz2⟩ := infoU8_parts
  obtain ⟨v', w2, hrun, hown', hg, -, h5⟩ := run_append_own_at (P := Tryd.prog) (w := w) base 26 o.type 5 i0 (.int .u8 0) 1 1 Tryd.underlying26 hi hz0 hz1 hz2 rfl (by decide) v l.length _ hl ⟨g, 0, none⟩ y.length y.length (y.map u8V) (by simp) (fun j u hj => by
      have := h1 j u hj
      rwa [show (⟨g, 0, none⟩ : Addr).add j = ⟨g, j, none⟩ by unfold Addr.add; split <;> simp_all]) (fun u hu => by
      simp only [List.mem_map] at hu
      obtain ⟨c, -, rfl⟩ := hu
      rfl) (by unfold maxLen; omega) (by omega) hbase
  unfold Oper.wp
  simp [execOp, ho, resolve, invoke, builtin, hs, hx, hrun, Result.andThen]
  have hown2 : BytesO w2 base v' (l ++ y) := by unfold BytesO; rw [List.length_append, List.map_append]; exact hown'
  exact h v' w2 hown2 (Grew.of hg h5)

/-- what an append leaves -/
def AppG (w : World) (base : Nat) (v : Value) (l : List UInt8) (e : Ending) (w' : World) : Prop := ∃ v', e = .returned v' ∧ BytesO w' base v' l ∧ Grew w v w' v'

set_option maxRecDepth 100000 in
set_option maxHeartbeats 6400000 in
theorem appendQuoted_grew {s : ByteArray} {base : Nat} {v : Value} {l : List UInt8} {w : World} (hb : BytesO w base v l) (hbase : base ≤ w.heap.size) (hs : s.size ≤ 1000000) (hn : l.length ≤ 1000000) :
    Calls Tryd.prog 29 #[v, .string s] w (AppG w base v (l ++ quoteB s.data.toList)) := by
  have HB := Lib.hid (hb.only ((Only.refl w).alloc (.cells #[.int .u8 34] 5)))
  have HO := Lib.hid (one_byte w (e := 34) (c := 34) rfl)
  have is1 : (s.size : Int) ≤ 1000000 := by omega
  clear hb
  go_enter Tryd.func29, Tryd.ntmps29
  go_wp2_with (at_builtin; refine append_byteG rfl (.tmp 7) (.tmp 8) rfl (base := base) [34] rfl rfl HB.out HO.out (by simp; omega) (by simp; omega) ?_)
  intro v1 w1 hb1 hbl1
  have hs1 := hbl1.size
  have hs1' : w.heap.size ≤ w1.heap.size := by (try simp at hs1); omega
  have HB1 := Lib.hid hb1
  have HL1 := Lib.hid (((Grew.refl w v).alloc (.cells #[.int .u8 34] 5)).trans hbl1)
  clear hb1 hbl1 hs1 HB HO
  go_wp2_with fail
  go_loopg [0, 12] (s.size) (fun g bv iv wr => ∃ k : Nat, iv = .int .i64 (k : Int) ∧ k ≤ s.size ∧ s.size - k ≤ g ∧ BytesO wr base bv ((l ++ [34]) ++ quoL (s.data.toList.take k)) ∧ Grew w v wr bv ∧ w.heap.size ≤ wr.heap.size)
  case atStart => exact ⟨0, rfl, Nat.zero_le _, Nat.le_refl _, by have := HB1.out; simpa [quoL] using this, HL1.out, hs1'⟩
  case round =>
    obtain ⟨k, rfl, hk, hg, hbr, hbl, hsz⟩ := hrel
    by_cases hlt : k < s.size
    · have il : (k : Int) < (s.size : Int) := by omega
      have hq := quoL_next (s := s.data.toList) (k := k) (by rw [data_len]; exact hlt)
      have hqlen := quoL_len (s.data.toList.take k)
      have htl : (s.data.toList.take k).length = k := by rw [List.length_take, data_len]; omega
      rw [htl] at hqlen
      rw [show s.data.toList[k]'(by rw [data_len]; exact hlt) = s[k]'hlt from rfl] at hq
      obtain ⟨c, hc⟩ : ∃ c : UInt8, c = s[k]'hlt := ⟨_, rfl⟩
      have hc2 : (s[k]'hlt).toNat = c.toNat := by rw [hc]
      rw [← hc] at hq
      have HQ := Lib.hid hq
      have HBR := Lib.hid hbr
      have HBL := Lib.hid hbl
      have hc256 : c.toNat < 256 := c.toNat_lt
      obtain ⟨n, hcn⟩ : ∃ n, n = c.toNat := ⟨_, rfl⟩
      rw [← hcn] at hc2 hc256
      have HCN := Lib.hid hcn
      clear hbr hbl hq hc htl hcn
      by_cases h1 : n = 34 ∨ n = 92
      · have hqb : quoB c = [92, c] := by unfold quoB; rw [← HCN.out, if_pos h1]
        have HQB := Lib.hid hqb
        have HC := Lib.hid (cells_list wr [92, c] #[.int .u8 92, .int .u8 (n : Int)] (by simp [u8V, HCN.out]))
        have HB3 := Lib.hid (HBR.out.only ((Only.refl wr).alloc (.cells #[.int .u8 92, .int .u8 (n : Int)] 5)))
        have key : ((n : Int) == 34) = true ∨ (((n : Int) == 34) = false ∧ ((n : Int) == 92) = true) := by
          rcases h1 with rfl | rfl
          · left; rfl
          · right; exact ⟨rfl, rfl⟩
        clear h1 hqb
        rcases key with e1 | ⟨e1, e2⟩
        all_goals
          go_wp2_with (at_builtin; refine append_byteG rfl (.tmp 29) (.tmp 31) rfl (base := base) [92, c] rfl rfl HB3.out HC.out (by simp; omega) (by simp; omega) ?_)
          intro v4 w4 hb4 hbl4
          have hs4 := hbl4.size
          have HB4 := Lib.hid hb4
          have HL4 := Lib.hid ((HBL.out.alloc (.cells #[.int .u8 92, .int .u8 (n : Int)] 5)).trans hbl4)
          have hs5 : w.heap.size ≤ w4.heap.size := by (try simp at hs4); omega
          clear hb4 hbl4 hs4 HB3 HC
          go_wp2_with fail
          go_roundg (s.size - (k + 1))
          case measure => omega
          case rel => exact ⟨k + 1, by go_num, by omega, Nat.le_refl _, by rw [HQ.out, HQB.out]; simpa using HB4.out, HL4.out, hs5⟩
      · by_cases h2 : n < 32 ∨ n = 127
        · have e1 : ((n : Int) == 34) = false := by rw [Bool.eq_false_iff]; intro e; have := beq_iff_eq.1 e; omega
          have e2 : ((n : Int) == 92) = false := by rw [Bool.eq_false_iff]; intro e; have := beq_iff_eq.1 e; omega
          have hqb : quoB c = [92, 117, 48, 48, hexC (n / 16), hexC (n % 16)] := by unfold quoB; rw [← HCN.out, if_neg h1, if_pos h2]
          have HQB := Lib.hid hqb
          have key : decide ((n : Int) < 32) = true ∨ (decide ((n : Int) < 32) = false ∧ ((n : Int) == 127) = true) := by
            rcases h2 with h | rfl
            · left; exact decide_eq_true (by omega)
            · right; exact ⟨rfl, rfl⟩
          clear h1 h2 hqb
          rcases key with e3 | ⟨e3, e4⟩
          all_goals
            go_upto_region 10 with (fail)
            have ia : (0 : Int) ≤ (n : Int) / 16 := by omega
            have ib : (n : Int) / 16 < 16 := by omega
            have ic : (0 : Int) ≤ (n : Int) % 16 := by omega
            have id1 : (n : Int) % 16 < 16 := by omega
            have hy : bits BinOp.and IntKind.u8 (n : Int) 15 = (n : Int) % 16 := and_15 hc256
            have hz1 : ∀ h, (((⟨#[48, 49, 50, 51, 52, 53, 54, 55, 56, 57, 97, 98, 99, 100, 101, 102]⟩ : ByteArray)[((n : Int) / 16).toNat]'h).toNat : Int) = ((hexC (n / 16)).toNat : Int) := hex_at (n / 16) (by omega) (by omega)
            have hz2 : ∀ h, (((⟨#[48, 49, 50, 51, 52, 53, 54, 55, 56, 57, 97, 98, 99, 100, 101, 102]⟩ : ByteArray)[((n : Int) % 16).toNat]'h).toNat : Int) = ((hexC (n % 16)).toNat : Int) := hex_at (n % 16) (by omega) (by omega)
            have HC := Lib.hid (cells_list wr.drew [92, 117, 48, 48, hexC (n / 16), hexC (n % 16)] #[.int .u8 92, .int .u8 117, .int .u8 48, .int .u8 48, .int .u8 ((hexC (n / 16)).toNat : Int), .int .u8 ((hexC (n % 16)).toNat : Int)] (by simp [u8V]))
            have HB3 := Lib.hid (HBR.out.only (Only.alloc (Only.refl wr).drew (.cells #[.int .u8 92, .int .u8 117, .int .u8 48, .int .u8 48, .int .u8 ((hexC (n / 16)).toNat : Int), .int .u8 ((hexC (n % 16)).toNat : Int)] 5)))
            go_region_law (first | (refine step_bytesG (base := base) rfl (.tmp 40) (.tmp 47) rfl [92, 117, 48, 48, hexC (n / 16), hexC (n % 16)] ?_ ?_ rfl HB3.out HC.out ?_ ?_ ?_; rfl; rfl; (simp; omega); (simp; omega); intro v4 w4 hb4 hbl4) | fail)
            all_goals
              have hs4 := hbl4.size
              have HB4 := Lib.hid hb4
              have HL4 := Lib.hid (((Grew.drew HBL.out).alloc (.cells #[.int .u8 92, .int .u8 117, .int .u8 48, .int .u8 48, .int .u8 ((hexC (n / 16)).toNat : Int), .int .u8 ((hexC (n % 16)).toNat : Int)] 5)).trans hbl4)
              have hs5 : w.heap.size ≤ w4.heap.size := by (try simp at hs4); omega
              clear hb4 hbl4 hs4 HB3 HC
              go_wp2_with fail
              go_roundg (s.size - (k + 1))
              case measure => omega
              case rel => exact ⟨k + 1, by go_num, by omega, Nat.le_refl _, by rw [HQ.out, HQB.out]; simpa using HB4.out, HL4.out, hs5⟩
        · have e1 : ((n : Int) == 34) = false := by rw [Bool.eq_false_iff]; intro e; have := beq_iff_eq.1 e; omega
          have e2 : ((n : Int) == 92) = false := by rw [Bool.eq_false_iff]; intro e; have := beq_iff_eq.1 e; omega
          have e3 : decide ((n : Int) < 32) = false := decide_eq_false (by omega)
          have e4 : ((n : Int) == 127) = false := by rw [Bool.eq_false_iff]; intro e; have := beq_iff_eq.1 e; omega
          have hqb : quoB c = [c] := by unfold quoB; rw [← HCN.out, if_neg h1, if_neg h2]
          have HQB := Lib.hid hqb
          have HC := Lib.hid (cells_list wr [c] #[.int .u8 (n : Int)] (by simp [u8V, HCN.out]))
          have HB3 := Lib.hid (HBR.out.only ((Only.refl wr).alloc (.cells #[.int .u8 (n : Int)] 5)))
          clear h1 h2 hqb
          go_wp2_with (at_builtin; refine append_byteG rfl (.tmp 18) (.tmp 20) rfl (base := base) [c] rfl rfl HB3.out HC.out (by simp; omega) (by simp; omega) ?_)
          intro v4 w4 hb4 hbl4
          have hs4 := hbl4.size
          have HB4 := Lib.hid hb4
          have HL4 := Lib.hid ((HBL.out.alloc (.cells #[.int .u8 (n : Int)] 5)).trans hbl4)
          have hs5 : w.heap.size ≤ w4.heap.size := by (try simp at hs4); omega
          clear hb4 hbl4 hs4 HB3 HC
          go_wp2_with fail
          go_roundg (s.size - (k + 1))
          case measure => omega
          case rel => exact ⟨k + 1, by go_num, by omega, Nat.le_refl _, by rw [HQ.out, HQB.out]; simpa using HB4.out, HL4.out, hs5⟩
    · obtain rfl : k = s.size := by omega
      have il : ¬ (s.size : Int) < (s.size : Int) := by omega
      rw [List.take_of_length_le (by rw [data_len]; exact Nat.le_refl _)] at hbr
      have hql := quoL_len s.data.toList
      rw [data_len] at hql
      have HB3 := Lib.hid (hbr.only ((Only.refl wr).alloc (.cells #[.int .u8 34] 5)))
      have HC := Lib.hid (one_byte wr (e := 34) (c := 34) rfl)
      have HBL := Lib.hid hbl
      clear hbr hbl
      go_wp2_with (at_builtin; refine append_byteG rfl (.tmp 50) (.tmp 51) rfl (base := base) [34] rfl rfl HB3.out HC.out (by simp; omega) (by simp; omega) ?_)
      intro v4 w4 hb4 hbl4
      have hs4 := hbl4.size
      have HB4 := Lib.hid hb4
      have HL4 := Lib.hid ((HBL.out.alloc (.cells #[.int .u8 34] 5)).trans hbl4)
      have hs5 : w.heap.size ≤ w4.heap.size := by (try simp at hs4); omega
      clear hb4 hbl4 hs4 HB3 HC
      go_wp2_with fail
      go_ret
      exact ⟨_, rfl, by unfold quoteB; simpa using HB4.out, HL4.out⟩
end Go.Proofs.YtdhkpkojnokjdaaDoor
