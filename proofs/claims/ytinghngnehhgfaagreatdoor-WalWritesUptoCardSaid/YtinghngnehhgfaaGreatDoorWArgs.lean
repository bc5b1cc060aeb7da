/-
  What comes in, read as the walks want it: bytes, lists of records; what the listed tables hold; what a bound on the bulk gives; a world for the witness.
-/
import Derived.Test.YtinghngnehhgfaaGreatDoorWJ
import Derived.Test.YtinghngnehhgfaaGreatDoorCards
import Derived.Test.YtinghngnehhgfaaGreatDoorTie
import Derived.WalkKit
import Derived.ProofKit
import Derived.OpenShut
import Derived.Carry
import Derived.ChangeMaps5
import Derived.Deep.Slices
import Derived.Deep.Fields
import Derived.Deep.DeepHandedRow
import Derived.Lib.LaidTab
import Derived.Stop.LaidErr
import Derived.SizedLaws
namespace Go.Proofs.YtinghngnehhgfaaGreatDoor
open Go.ChangeShapes Go.WideShapes Go.ChangeAt Go.RowKit Go.Deep
set_option linter.unusedVariables false

theorem ownK : ownKnob Tryz.prog.godebug = none := by kernel_rfl
theorem laidOut : laidOutB Tryz.prog = true := by kernel_rfl
theorem cellsU8 : Tryz.prog.cellsOf 5 = 1 := by kernel_rfl
theorem cellsBytes : Tryz.prog.cellsOf 33 = 1 := by kernel_rfl

/-! ### the listed tables -/
theorem gSum : Tryz.prog.globalNamed "exchequer/wal.sumOfHalf" = some 0 := by kernel_rfl
theorem gSumType : (Tryz.prog.globals[0]?).map (·.type) = some 96 := by kernel_rfl
theorem cellsArr16 : Tryz.prog.cellsOf 96 = 16 := by kernel_rfl
theorem cellsU32 : Tryz.prog.cellsOf 59 = 1 := by kernel_rfl
theorem gPow : Tryz.prog.globalNamed "internal/strconv.uint64pow10" = some 1 := by kernel_rfl
theorem gPowType : (Tryz.prog.globals[1]?).map (·.type) = some 133 := by kernel_rfl
theorem cellsArr20 : Tryz.prog.cellsOf 133 = 20 := by kernel_rfl
theorem cellsU64 : Tryz.prog.cellsOf 107 = 1 := by kernel_rfl

/-- the four variables that the rows list -/
abbrev laids : List (String × DataW Unit) := [("math/bits.deBruijn32tab", Rows.laid_math_bits_deBruijn32tab), ("math/bits.deBruijn64tab", Rows.laid_math_bits_deBruijn64tab), ("internal/strconv.uint64pow10", Rows.laid_internal_strconv_uint64pow10), ("exchequer/wal.sumOfHalf", Rows.laid_exchequer_wal_sumOfHalf)]

def sumList : List Int := [0, 498536548, 997073096, 651767980, 1994146192, 1802195444, 1303535960, 1342533948, 3988292384, 4027552580, 3604390888, 3412177804, 2607071920, 2262029012, 2685067896, 3183342108]

theorem tab_of_sum (i : Nat) (hi : i < 16) : sumList.getD i 0 = ((Walp.tab i : Nat) : Int) := by
  have h : ∀ i : Fin 16, sumList.getD i.1 0 = ((Walp.tab i.1 : Nat) : Int) := by decide
  exact h ⟨i, hi⟩

theorem sumTab_of {W : World} (h : laidMetH Tryz.prog laids W) : SumTab W := by
  have h1 : laidMet Tryz.prog laids W := h
  have h4 := h1.tail.tail.tail
  have ht : Lib.TabIs Tryz.prog W "exchequer/wal.sumOfHalf" .u32 sumList := Lib.tabIs_of_head (rest := []) gSum gSumType Tryz.underlying96 Tryz.underlying59 cellsU32 cellsArr16 h4
  intro i hi
  have := ht.cell gSum i (by show i < 16; exact hi)
  rw [tab_of_sum i hi] at this
  exact this

theorem powTab_of {W : World} (h : laidMetH Tryz.prog laids W) : Lib.TabIs Tryz.prog W "internal/strconv.uint64pow10" .u64 Lib.pow10Tab := by
  have h1 : laidMet Tryz.prog laids W := h
  have h3 := h1.tail.tail
  exact Lib.tabIs_of_head (rest := [("exchequer/wal.sumOfHalf", Rows.laid_exchequer_wal_sumOfHalf)]) gPow gPowType Tryz.underlying133 Tryz.underlying107 cellsU64 cellsArr20 h3

/-! ### a world for the witness -/
def litV : DataW Unit → Value
  | .lit (.int k z) => .int k z
  | _ => .bool false
def cellsV : DataW Unit → Array Value
  | .agg ps => (ps.map litV).toArray
  | _ => #[]
def layV (cs : Array Value) : Obj → Obj
  | .cells _ t frozen => .cells cs t frozen
  | o => o
noncomputable def laidWorld (os : Os) : World :=
  { World.holding Tryz.prog os ⟨#[], #[], []⟩ with heap := ((((World.holding Tryz.prog os ⟨#[], #[], []⟩).heap.modify 0 (layV (cellsV Rows.laid_exchequer_wal_sumOfHalf))).modify 1 (layV (cellsV Rows.laid_internal_strconv_uint64pow10))).modify 3 (layV (cellsV Rows.laid_math_bits_deBruijn32tab))).modify 4 (layV (cellsV Rows.laid_math_bits_deBruijn64tab)) }

/-! ### what came in -/
section
variable {H : Type} {enc : TypeId × Value → H} {W : World} {base : Nat} {spare : Nat → Bool} {held : Bool}

def byteOf (z : Int) : UInt8 := UInt8.ofNat z.toNat

theorem byteV_of {z : Int} (h : (Lit.int .u8 z).wf = true) : byteV (byteOf z) = .int .u8 z := by
  have hx : 0 ≤ z ∧ z ≤ 255 := by simpa [Lit.wf, IntKind.min, IntKind.max, IntKind.signed, IntKind.bits] using h
  have : (UInt8.ofNat z.toNat).toNat = z.toNat := by
    rw [UInt8.toNat_ofNat']
    exact Nat.mod_eq_of_lt (by have : z.toNat ≤ 255 := by omega
                               omega)
  unfold byteV byteOf
  rw [this, Int.toNat_of_nonneg hx.1]

theorem bounds_of {z : Int} (h : (Lit.int .i64 z).wf = true) : -9223372036854775808 ≤ z ∧ z ≤ 9223372036854775807 := by
  simpa [Lit.wf, IntKind.min, IntKind.max, IntKind.signed, IntKind.bits] using h

theorem bulk_one {H : Type} (d : DataW H) : 1 ≤ Rows.uptoBulk d := by
  cases d with
  | lit l => cases l <;> simp [Rows.uptoBulk]
  | nil => simp [Rows.uptoBulk]
  | ptr d => simp [Rows.uptoBulk]
  | slice elems spare => simp [Rows.uptoBulk]
  | agg parts => simp [Rows.uptoBulk]
  | iface t d => simp [Rows.uptoBulk]
  | map entries => simp [Rows.uptoBulk]
  | held h => simp [Rows.uptoBulk]

theorem bulk_append {H : Type} (l r : List (DataW H)) : Rows.uptoBulkAll (l ++ r) = Rows.uptoBulkAll l + Rows.uptoBulkAll r := by
  induction l with
  | nil => simp [Rows.uptoBulkAll]
  | cons x l ih => simp only [List.cons_append, Rows.uptoBulkAll, ih]; omega

theorem bulk_length {H : Type} (l : List (DataW H)) : l.length ≤ Rows.uptoBulkAll l := by
  induction l with
  | nil => simp [Rows.uptoBulkAll]
  | cons x r ih => have := bulk_one x; simp only [Rows.uptoBulkAll, List.length_cons]; omega

theorem spot_none {a : Addr} {v : Value} (h : W.cell? (a.add 0) = some v) : ∃ g off, a = ⟨g, off, none⟩ := by
  obtain ⟨b, off, spot⟩ := a
  have hs : spot = none := by simpa [Addr.add] using World.cell?_spot h
  subst hs
  exact ⟨b, off, rfl⟩

theorem add_at (b off i : Nat) : (⟨b, off, none⟩ : Addr).add i = ⟨b, off + i, none⟩ := by
  unfold Addr.add; split <;> simp_all

/-- a datum of so many places -/
def Places (d : DataW H) (c : Nat) : Prop := (d = .nil ∧ c = 0) ∨ ∃ es ss, d = .slice es ss ∧ es.length + ss.length = c

theorem Places.bulk {d : DataW H} {c : Nat} (h : Places d c) : c + 1 ≤ Rows.uptoBulk d := by
  rcases h with ⟨rfl, rfl⟩ | ⟨es, ss, rfl, rfl⟩
  · exact bulk_one _
  · have h1 := bulk_length es
    have h2 := bulk_length ss
    simp only [Rows.uptoBulk]; omega

theorem bytes_open (hsp : ∀ b, spare b = true) {fuel : Nat} {cs : List Value} {x : DataW H × List MemPlace} (h : DataW.trod enc Tryz.prog W base spare held fuel 33 cs = some x) :
    ∃ v b c, cs = [v] ∧ (c ≤ 281474976710656 → BytesIn W v b) ∧ b.length ≤ c ∧ Places x.1 c := by
  rcases open_ints Tryz.underlying33 Tryz.underlying5 cellsU8 h with ⟨rfl, rfl⟩ | ⟨a, len, cap, zs, rfl, _, hl, hm, hz, rfl, hc, hw⟩
  · exact ⟨_, [], 0, rfl, fun _ => ⟨⟨none, 0, rfl, Nat.le_refl _, by decide, fun h => absurd h (by simp)⟩, Or.inl ⟨rfl, rfl⟩, Nat.zero_le _⟩, Nat.le_refl _, Or.inl ⟨rfl, rfl⟩⟩
  · rw [if_pos (hsp _)] at hz
    have hzl : len ≤ zs.length := by omega
    have hbl : ((zs.take len).map byteOf).length = len := by simp; omega
    have hcell : ∀ j x, ((zs.take len).map byteOf)[j]? = some x → W.cell? (a.add j) = some (byteV x) := fun j x hj => by
      have hjl : j < len := by have := (List.getElem?_eq_some_iff.1 hj).1; omega
      have hjz : j < zs.length := by omega
      rw [List.getElem?_map, List.getElem?_take_of_lt hjl, List.getElem?_eq_getElem hjz] at hj
      simp only [Option.map_some, Option.some.injEq] at hj
      subst hj
      rw [hc j hjz, byteV_of (hw _ (List.getElem_mem hjz))]
      simp [List.getD, List.getElem?_eq_getElem hjz]
    refine ⟨_, (zs.take len).map byteOf, cap, rfl, fun hcap => ⟨⟨some a, cap, by rw [hbl], by rw [hbl]; exact hl, ⟨by rw [hbl]; omega, by omega⟩, fun h0 => ?_⟩, Or.inr ⟨a, cap, by rw [hbl], hcell⟩, by rw [hbl]; omega⟩, by rw [hbl]; exact hl, Or.inr ⟨_, _, rfl, by simp [lits]; omega⟩⟩
    obtain ⟨g, off, rfl⟩ := spot_none (hcell 0 _ (List.getElem?_eq_getElem h0))
    exact ⟨g, off, rfl, fun j x hj => by rw [← add_at]; exact hcell j x hj⟩

theorem list_of {α : Type} {p : Nat → α → Prop} : ∀ n, (∀ i, i < n → ∃ x, p i x) → ∃ l : List α, l.length = n ∧ ∀ i x, l[i]? = some x → p i x
  | 0, _ => ⟨[], rfl, fun i x h => by simp at h⟩
  | n + 1, h => by
    obtain ⟨l, hl, hp⟩ := list_of n fun i hi => h i (by omega)
    obtain ⟨x, hx⟩ := h n (by omega)
    refine ⟨l ++ [x], by simp [hl], fun i y hy => ?_⟩
    by_cases hi : i < l.length
    · rw [List.getElem?_append_left hi] at hy; exact hp i y hy
    · have : i < (l ++ [x]).length := (List.getElem?_eq_some_iff.1 hy).1
      have : i = l.length := by simp at this; omega
      subst this
      rw [List.getElem?_append_right (Nat.le_refl _)] at hy
      simp at hy
      subst hy
      rw [hl]; exact hx

/-- all the bytes of a list of records, one more for each -/
def total (l : List (List UInt8)) : Nat := (l.map fun q => q.length + 1).sum

theorem total_snoc (l : List (List UInt8)) (q : List UInt8) : total (l ++ [q]) = total l + (q.length + 1) := by simp [total]

theorem total_bulk {H : Type} (D : Nat → DataW H) : ∀ (n : Nat) (l : List (List UInt8)), l.length = n → (∀ i q, l[i]? = some q → q.length + 1 ≤ Rows.uptoBulk (D i)) → total l ≤ Rows.uptoBulkAll ((List.range n).map D)
  | 0, l, hl, _ => by rw [List.length_eq_zero_iff.1 hl]; simp [total]
  | n + 1, l, hl, h => by
    obtain ⟨a, c, rfl⟩ := Walp.snoc_of (l := l) (by omega)
    have ha : a.length = n := by simp at hl; exact hl
    rw [total_snoc, List.range_succ, List.map_append, bulk_append]
    have h1 := total_bulk D n a ha (fun i q hq => h i q (by rw [List.getElem?_append_left (by have := (List.getElem?_eq_some_iff.1 hq).1; omega)]; exact hq))
    have h2 := h n c (by rw [List.getElem?_append_right (by omega), ha]; simp)
    simp only [List.map_cons, List.map_nil, Rows.uptoBulkAll]
    omega

theorem total_each {l : List (List UInt8)} {q : List UInt8} (h : q ∈ l) : q.length + 1 ≤ total l := by
  unfold total
  induction l with
  | nil => cases h
  | cons x r ih =>
    simp only [List.map_cons, List.sum_cons]
    cases List.mem_cons.1 h with
    | inl e => subst e; omega
    | inr e => have := ih e; omega

set_option maxRecDepth 100000 in
/-- the bytes that came in -/
theorem bytes_at {r : Reach} {b0 : Nat} {v : Value} {d : DataW H} {p : List MemPlace} (hsp : ∀ b, spare b = true) (hval : Value.okWide Tryz.prog W r b0 33 v) (h : DataW.Trod enc Tryz.prog W base spare held 33 v d p) :
    ∃ b c, (c ≤ 281474976710656 → BytesIn W v b) ∧ b.length ≤ c ∧ Places d c := by
  obtain ⟨a0, len, cap, rfl⟩ := okWide_slice (P := Tryz.prog) (w := W) (r := r) (base := b0) (t := 33) (v := v) Tryz.underlying33 hval
  obtain ⟨fuel, hf⟩ := h
  obtain ⟨v, b, c, hcs, hb, hl, hp⟩ := bytes_open hsp hf
  simp [Value.cells] at hcs
  subst hcs
  exact ⟨b, c, hb, hl, hp⟩

set_option maxRecDepth 100000 in
/-- by the bound on the bulk -/
theorem bytes_in {r : Reach} {b0 : Nat} {v : Value} {d : DataW H} {p : List MemPlace} (hval : Value.okWide Tryz.prog W r b0 33 v) (h : DataW.Trod enc Tryz.prog W base (fun _ => true) held 33 v d p) (hk : Rows.uptoBulk d ≤ 1048576) :
    ∃ b, BytesIn W v b ∧ b.length + 1 ≤ Rows.uptoBulk d := by
  obtain ⟨b, c, hb, hl, hp⟩ := bytes_at (fun _ => rfl) hval h
  have := hp.bulk
  exact ⟨b, hb (by omega), by omega⟩

theorem bytesU8 : Tryz.prog.bytesOf 5 = 1 := by kernel_rfl

set_option maxRecDepth 100000 in
/-- by the form's own reach -/
theorem bytes_sized {r : Reach} {b0 : Nat} {v : Value} {d : DataW H} {p : List MemPlace} (hval : Value.okWide Tryz.prog W r b0 33 v) (h : DataW.Trod enc Tryz.prog W base (fun _ => true) held 33 v d p)
    {ts : List TypeId} {ds : List (DataW H)} (hs : (DataW.weightsEach Tryz.prog ts ds).all (· ≤ reachBytes) = true) (j : Nat) (ht : ts[j]? = some 33) (hd : ds[j]? = some d) : ∃ b, BytesIn W v b := by
  obtain ⟨b, c, hb, hl, hp⟩ := bytes_at (fun _ => rfl) hval h
  refine ⟨b, hb ?_⟩
  rcases hp with ⟨_, rfl⟩ | ⟨es, ss, rfl, rfl⟩
  · decide
  · have := sized_slice hs ht hd Tryz.underlying33
    rw [bytesU8] at this
    unfold reachBytes at this
    omega

set_option maxRecDepth 100000 in
/-- the records that came in -/
theorem lists_in {r : Reach} {b0 : Nat} {v : Value} {d : DataW H} {p : List MemPlace} (hval : Value.okWide Tryz.prog W r b0 22 v) (h : DataW.Trod enc Tryz.prog W base (fun _ => true) held 22 v d p) (hk : Rows.uptoBulk d ≤ 1048576) : ∃ l, ListsIn W v l ∧ total l + 1 ≤ Rows.uptoBulk d := by
  obtain ⟨a0, len, cap, rfl⟩ := okWide_slice (P := Tryz.prog) (w := W) (r := r) (base := b0) (t := 22) (v := v) Tryz.underlying22 hval
  obtain ⟨fuel, hf⟩ := h
  rcases open_slice Tryz.underlying22 hf with ⟨hcs, hd⟩ | ⟨a, len', cap', m, n, D, Pl, hcs, _, hl, hm, hmm, hd, hx⟩
  · simp [Value.cells] at hcs
    obtain ⟨rfl, rfl, rfl⟩ := hcs
    exact ⟨[], ⟨none, 0, rfl, Nat.zero_le _, fun i o h => by simp at h⟩, by show 0 + 1 ≤ _; exact bulk_one d⟩
  · simp [Value.cells] at hcs
    obtain ⟨rfl, rfl, rfl⟩ := hcs
    rw [cellsBytes] at hx
    have hle : len ≤ m := by rw [hmm]; split <;> omega
    have hd1 : d = .slice ((List.range len).map D) ((List.range (m - len)).map fun j => D (len + j)) := (Prod.mk.inj hd).1
    have hmem : ∀ i, i < len → Rows.uptoBulk (D i) ≤ Rows.uptoBulk d := fun i hi => by
      have h1 : ∀ l : List (DataW H), ∀ y ∈ l, Rows.uptoBulk y ≤ Rows.uptoBulkAll l := fun l => by
        induction l with
        | nil => intro y hy; cases hy
        | cons z r ih =>
          intro y hy
          simp only [Rows.uptoBulkAll]
          cases List.mem_cons.1 hy with
          | inl e => subst e; omega
          | inr e => have := ih y e; omega
      have := h1 ((List.range len).map D) (D i) (List.mem_map.2 ⟨i, List.mem_range.2 hi, rfl⟩)
      rw [hd1]; simp only [Rows.uptoBulk]; omega
    obtain ⟨ls, hol, hop⟩ := list_of (p := fun i (q : List UInt8) => (∃ u, W.cell? (a.add i) = some u ∧ BytesIn W u q) ∧ q.length + 1 ≤ Rows.uptoBulk (D i)) len fun i hi => by
      obtain ⟨cs', h1, h2⟩ := hx i (by omega)
      rw [Nat.mul_one] at h1
      obtain ⟨u, q, c, rfl, hq, hlq, hpl⟩ := bytes_open (fun _ => rfl) h2
      have hb1 := hpl.bulk
      have hb2 := hmem i hi
      exact ⟨q, ⟨u, cell_of_cells?_one h1, hq (by have : c + 1 ≤ Rows.uptoBulk (D i) := hb1; omega)⟩, by have : c + 1 ≤ Rows.uptoBulk (D i) := hb1; omega⟩
    refine ⟨ls, ⟨some a, cap, by rw [hol], by rw [hol]; omega, fun i q hq => ?_⟩, ?_⟩
    · obtain ⟨⟨u, hu, hb⟩, _⟩ := hop i q hq
      exact ⟨a, u, rfl, hu, hb⟩
    · have ht := total_bulk D len ls hol (fun i q hq => (hop i q hq).2)
      rw [hd1]
      simp only [Rows.uptoBulk]
      omega

/-- what turned nowhere of what was there -/
theorem Turn.below {w w' : World} (h : Turn (fun _ => False) w w') : Below w.heap.size w w' := ⟨h.os, h.tape, h.output, h.size, fun k hk => h.block k hk (fun q => q)⟩
end
end Go.Proofs.YtinghngnehhgfaaGreatDoor
