/-
  A JSON value that comes in to a law.
-/
import Derived.Test.YtdhkpkojnokjdaaDoorJOpen
import Derived.Test.YtdhkpkojnokjdaaDoorJSame
namespace Go.Proofs.YtdhkpkojnokjdaaDoor
open Go.ChangeShapes Go.WideShapes Go.ChangeAt Go.RowKit Go.Deep Go.Joins Go.Lib
set_option linter.unusedVariables false

/-- of lengths as a machine's memory holds -/
abbrev reachN : Nat := 140737488355328
mutual
def Broad : GV → Prop
  | .mk k t l ns => t.length ≤ reachN ∧ l.length ≤ reachN ∧ ns.length ≤ reachN ∧ (∀ s ∈ ns, s.length ≤ reachN) ∧ BroadL l
def BroadL : List GV → Prop
  | [] => True
  | x :: r => Broad x ∧ BroadL r
end
theorem BroadL.at_ : ∀ {l : List GV}, BroadL l → ∀ i (h : i < l.length), Broad l[i]
  | x :: r, h, 0, hi => by unfold BroadL at h; exact h.1
  | x :: r, h, i + 1, hi => by unfold BroadL at h; simpa using BroadL.at_ h.2 i (by simpa using hi)
theorem BroadL.of : ∀ {l : List GV}, (∀ x ∈ l, Broad x) → BroadL l
  | [], _ => by unfold BroadL; trivial
  | x :: r, h => by unfold BroadL; exact ⟨h x (List.mem_cons_self ..), BroadL.of fun y hy => h y (List.mem_cons_of_mem _ hy)⟩

theorem listJ_of {α : Type} {p : Nat → α → Prop} : ∀ n, (∀ i, i < n → ∃ x, p i x) → ∃ l : List α, l.length = n ∧ ∀ i (h : i < l.length), p i l[i]
  | 0, _ => ⟨[], rfl, fun i h => by simp at h⟩
  | n + 1, h => by
    obtain ⟨l, hl, hp⟩ := listJ_of n fun i hi => h i (by omega)
    obtain ⟨x, hx⟩ := h n (by omega)
    refine ⟨l ++ [x], by simp [hl], fun i hi => ?_⟩
    by_cases hil : i < l.length
    · rw [List.getElem_append_left hil]; exact hp i hil
    · have : i = l.length := by simp at hi; omega
      subst this
      rw [List.getElem_append_right (Nat.le_refl _)]
      simp only [Nat.sub_self, List.getElem_cons_zero]
      rw [hl]; exact hx
theorem GCells.of {w : World} {g : Nat} : ∀ {l : List GV} {off : Nat}, (∀ i (h : i < l.length), ∃ a b c d, (w.cell? ⟨g, off + i * 4, none⟩ = some a ∧ w.cell? ⟨g, off + i * 4 + 1, none⟩ = some b ∧ w.cell? ⟨g, off + i * 4 + 2, none⟩ = some c ∧ w.cell? ⟨g, off + i * 4 + 3, none⟩ = some d) ∧ GIn w l[i] (.agg #[a, b, c, d])) → GCells w l g off
  | [], off, _ => by unfold GCells; trivial
  | x :: r, off, h => by
    unfold GCells
    refine ⟨by have := h 0 (by simp); simpa only [Nat.zero_mul, Nat.add_zero, List.getElem_cons_zero] using this, GCells.of fun i hi => ?_⟩
    obtain ⟨a, b, c, d, ⟨h1, h2, h3, h4⟩, hx⟩ := h (i + 1) (by simp; omega)
    have e : off + (i + 1) * 4 = off + 4 + i * 4 := by omega
    rw [e] at h1 h2 h3 h4
    exact ⟨a, b, c, d, ⟨h1, h2, h3, h4⟩, by simpa using hx⟩

theorem weightsAll_memR {R : Nat} {H : Type} {P : Program} {e : TypeId} : ∀ {l : List (DataW H)}, (DataW.weightsAll P e l).all (· ≤ R) = true → ∀ d ∈ l, (d.weights P e).all (· ≤ R) = true
  | [], _, d, h => by simp at h
  | x :: r, h, d, hd => by
    rw [DataW.weightsAll, List.all_append, Bool.and_eq_true] at h
    rcases List.mem_cons.1 hd with rfl | hd
    · exact h.1
    · exact weightsAll_memR h.2 d hd

section
variable {H : Type} {enc : TypeId × Value → H} {W : World} {base : Nat} {spare : Nat → Bool} {held : Bool}

set_option maxRecDepth 100000 in
theorem w_slice {t e : TypeId} {elems sp : List (DataW H)} (hu : Tryd.prog.underlying t = some (.slice e)) (h : ((DataW.slice elems sp).weights Tryd.prog t).all (· ≤ reachBytes) = true) : (elems.length + sp.length) * Tryd.prog.bytesOf e ≤ reachBytes ∧ ∀ d ∈ elems, (d.weights Tryd.prog e).all (· ≤ reachBytes) = true := by
  rw [DataW.weights, hu] at h
  generalize reachBytes = R at h ⊢
  rw [List.all_cons, List.all_append, Bool.and_eq_true, Bool.and_eq_true] at h
  obtain ⟨h1, h2, -⟩ := h
  exact ⟨by simpa only [decide_eq_true_eq] using h1, fun d hd => weightsAll_memR h2 d hd⟩
set_option maxRecDepth 100000 in
theorem w_agg {d0 d1 d2 d3 : DataW H} (h : ((DataW.agg [d0, d1, d2, d3]).weights Tryd.prog 25).all (· ≤ reachBytes) = true) : (d1.weights Tryd.prog 9).all (· ≤ reachBytes) = true ∧ (d2.weights Tryd.prog 22).all (· ≤ reachBytes) = true ∧ (d3.weights Tryd.prog 23).all (· ≤ reachBytes) = true := by
  rw [DataW.weights, Tryd.underlying25] at h
  simp only [List.map_cons, List.map_nil, DataW.weightsEach, List.all_append, Bool.and_eq_true, List.append_nil] at h
  exact ⟨h.2.1, h.2.2.1, h.2.2.2⟩
theorem w_str {s : ByteArray} (h : ((DataW.lit (.string s.data.toList) : DataW H).weights Tryd.prog 9).all (· ≤ reachBytes) = true) : s.data.toList.length ≤ reachN := by
  rw [DataW.weights] at h
  simp only [List.all_cons, List.all_nil, Bool.and_true, decide_eq_true_eq] at h
  have := reachBytes_lt
  show _ ≤ 2 ^ 47
  omega

theorem cellsJV : Tryd.prog.cellsOf 25 = 4 := by kernel_rfl
theorem cellsST : Tryd.prog.cellsOf 9 = 1 := by kernel_rfl
theorem bytesJV : Tryd.prog.bytesOf 25 = 72 := by kernel_rfl
theorem bytesST : Tryd.prog.bytesOf 9 = 16 := by kernel_rfl
theorem txt_of (s : ByteArray) : Value.string s = txt s.data.toList := by
  show Value.string s = Value.string ⟨s.data.toList.toArray⟩
  congr 1
theorem spot_none {a : Addr} {v : Value} (h : W.cell? a = some v) : a.spot = none := World.cell?_spot h

set_option maxRecDepth 100000 in
/-- names that came in -/
theorem names_open {fuel : Nat} {v : Value} {d : DataW H} {p : List MemPlace} (h : DataW.trod enc Tryd.prog W base (fun _ => true) held fuel 23 [v] = some (d, p)) (hw : (d.weights Tryd.prog 23).all (· ≤ reachBytes) = true) :
    ∃ ns, NamesIn W v ns ∧ ns.length ≤ reachN ∧ ∀ s ∈ ns, s.length ≤ reachN := by
  rcases open_slice Tryd.underlying23 h with ⟨hcs, hd⟩ | ⟨a, len, cap, m, n, D, Pl, hcs, _, hl, hm, hmm, hd, hx⟩
  · simp only [List.cons.injEq, and_true] at hcs
    subst hcs
    exact ⟨[], NamesIn.nil W, by simp, by simp⟩
  · simp only [List.cons.injEq, and_true] at hcs
    simp only [Prod.mk.injEq] at hd
    obtain ⟨rfl, -⟩ := hd
    subst hcs
    rw [if_pos rfl] at hmm
    subst hmm
    obtain ⟨w1, w2⟩ := w_slice Tryd.underlying23 hw
    rw [bytesST] at w1
    rw [cellsST] at hx
    obtain ⟨ls, hol, hop⟩ := listJ_of (p := fun i (s : List UInt8) => W.cell? (a.add i) = some (txt s) ∧ s.length ≤ reachN) len fun i hi => by
      obtain ⟨cs', h1, h2⟩ := hx i (by omega)
      obtain ⟨s, e1, e2, e3⟩ := DataW.trod_string Tryd.underlying9 h2
      subst e1
      simp only [Prod.mk.injEq] at e2
      obtain ⟨-, hlen, hcell⟩ := World.cells?_some h1
      have hc := hcell 0 (by simp)
      rw [Nat.mul_one] at hc
      have ha : ((a.add i).add 0) = a.add i := by
        obtain ⟨b, off, spot⟩ := a
        have := spot_none hc
        unfold Addr.add at *
        split <;> simp_all
      rw [ha] at hc
      refine ⟨s.data.toList, by rw [hc, ← txt_of]; rfl, w_str (H := H) ?_⟩
      rw [← e2.1]
      exact w2 _ (List.mem_map.2 ⟨i, List.mem_range.2 hi, rfl⟩)
    have hlen : ls.length ≤ reachN := by
      have := reachBytes_lt
      simp only [List.length_map, List.length_range] at w1
      show _ ≤ 2 ^ 47
      rw [hol]
      omega
    refine ⟨ls, ⟨some a, m, by rw [hol], by rw [hol]; exact hl, ?_⟩, hlen, fun s hs => ?_⟩
    · by_cases h0 : ls = []
      · exact Or.inl h0
      · have hp : 0 < ls.length := List.length_pos_iff.2 h0
        obtain ⟨b, off, spot⟩ := a
        have hs := spot_none (hop 0 hp).1
        have hspot : spot = none := by
          cases spot with
          | none => rfl
          | some s => simp [Addr.add] at hs
        subst hspot
        refine Or.inr ⟨b, off, rfl, fun i hi => ?_⟩
        have := (hop i hi).1
        rwa [add_at] at this
    · obtain ⟨i, hi, rfl⟩ := List.getElem_of_mem hs
      exact (hop i hi).2

set_option maxRecDepth 100000 in
/-- a value's four cells -/
theorem val_open : ∀ (m : Nat) {fuel : Nat} {cs : List Value} {d : DataW H} {p : List MemPlace}, SizeOf.sizeOf d ≤ m → DataW.trod enc Tryd.prog W base (fun _ => true) held fuel 25 cs = some (d, p) → (d.weights Tryd.prog 25).all (· ≤ reachBytes) = true →
    ∃ x a b c e, cs = [a, b, c, e] ∧ GIn W x (.agg #[a, b, c, e]) ∧ Broad x
  | 0, fuel, cs, d, p, hm, h, hw => by
    obtain ⟨y0, y1, y2, y3, n, hx, -⟩ := trod_struct4 Tryd.underlying25 h
    simp only [Prod.mk.injEq] at hx
    rw [hx.1] at hm
    simp at hm
  | m + 1, fuel, cs, d, p, hm, h, hw => by
    obtain ⟨y0, y1, y2, y3, n, hx, hl, f0, f1, f2, f3⟩ := trod_struct4 Tryd.underlying25 h
    simp only [Prod.mk.injEq] at hx
    obtain ⟨rfl, -⟩ := hx
    rw [cellsJV] at hl
    match cs, hl with
    | [a, b, c, e], _ =>
      obtain ⟨w1, w2, w3⟩ := w_agg hw
      have g0 : DataW.trod enc Tryd.prog W base (fun _ => true) held n 3 [a] = some y0 := f0
      have g1 : DataW.trod enc Tryd.prog W base (fun _ => true) held n 9 [b] = some y1 := f1
      have g2 : DataW.trod enc Tryd.prog W base (fun _ => true) held n 22 [c] = some y2 := f2
      have g3 : DataW.trod enc Tryd.prog W base (fun _ => true) held n 23 [e] = some y3 := f3
      obtain ⟨k, e0, -, -⟩ := DataW.trod_int Tryd.underlying3 g0
      obtain ⟨s, e1, e1', -⟩ := DataW.trod_string Tryd.underlying9 g1
      simp only [List.cons.injEq, and_true] at e0 e1
      subst e0 e1
      rw [e1'] at w1
      obtain ⟨ns, n1, n2, n3⟩ := names_open (d := y3.1) (p := y3.2) g3 w3
      have s1 := w_str w1
      rcases open_slice Tryd.underlying22 g2 with ⟨hcs, hd⟩ | ⟨ad, len, cap, m', n', D, Pl, hcs, _, hll, hmx, hmm, hd, hx⟩
      · simp only [List.cons.injEq, and_true] at hcs
        subst hcs
        refine ⟨.mk k s.data.toList [] ns, _, _, _, _, rfl, ?_, ?_⟩
        · unfold GIn
          exact ⟨.slice none 0 0, e, by rw [txt_of], ⟨none, 0, rfl, Or.inl rfl⟩, n1⟩
        · unfold Broad
          exact ⟨s1, by simp, n2, n3, by unfold BroadL; trivial⟩
      · simp only [List.cons.injEq, and_true] at hcs
        subst hcs
        rw [if_pos rfl] at hmm
        subst hmm
        have hy2 : y2.1 = .slice ((List.range len).map D) ((List.range (m' - len)).map fun j => D (len + j)) := by rw [hd]
        rw [hy2] at w2
        obtain ⟨v1, v2⟩ := w_slice Tryd.underlying22 w2
        rw [bytesJV] at v1
        rw [cellsJV] at hx
        have hsz : SizeOf.sizeOf y2.1 < SizeOf.sizeOf (DataW.agg [y0.1, y1.1, y2.1, y3.1]) := by
          simp
          omega
        obtain ⟨ls, hol, hop⟩ := listJ_of (p := fun i (x : GV) => Broad x ∧ ∃ a b c e, (W.cell? (ad.add (i * 4)) = some a ∧ W.cell? ((ad.add (i * 4)).add 1) = some b ∧ W.cell? ((ad.add (i * 4)).add 2) = some c ∧ W.cell? ((ad.add (i * 4)).add 3) = some e) ∧ GIn W x (.agg #[a, b, c, e])) len fun i hi => by
          obtain ⟨cs', h1, h2⟩ := hx i (by omega)
          have hmem : D i ∈ (List.range len).map D := List.mem_map.2 ⟨i, List.mem_range.2 hi, rfl⟩
          have hs1 : SizeOf.sizeOf (D i) < SizeOf.sizeOf y2.1 := by
            rw [hy2]
            have := List.sizeOf_lt_of_mem hmem
            simp only [DataW.slice.sizeOf_spec]
            omega
          obtain ⟨x, a, b, c, e, rfl, hg, hb⟩ := val_open m (d := D i) (p := Pl i) (by omega) h2 (v2 _ hmem)
          obtain ⟨-, hlen, hcell⟩ := World.cells?_some h1
          have c0 := hcell 0 (by simp)
          have ha : ((ad.add (i * 4)).add 0) = ad.add (i * 4) := by
            obtain ⟨b, off, spot⟩ := ad
            have := spot_none c0
            unfold Addr.add at *
            split <;> simp_all
          rw [ha] at c0
          exact ⟨x, hb, a, b, c, e, ⟨c0, hcell 1 (by simp), hcell 2 (by simp), hcell 3 (by simp)⟩, hg⟩
        have hlen : ls.length ≤ reachN := by
          have := reachBytes_lt
          simp only [List.length_map, List.length_range] at v1
          show _ ≤ 2 ^ 47
          rw [hol]
          omega
        refine ⟨.mk k s.data.toList ls ns, _, _, _, _, rfl, ?_, ?_⟩
        · unfold GIn
          refine ⟨.slice (some ad) len m', e, by rw [txt_of], ⟨some ad, m', by rw [hol], ?_⟩, n1⟩
          by_cases h0 : ls = []
          · exact Or.inl h0
          · have hp : 0 < ls.length := List.length_pos_iff.2 h0
            obtain ⟨b, off, spot⟩ := ad
            obtain ⟨-, a', b', c', e', ⟨hs, -⟩, -⟩ := hop 0 hp
            have hs := spot_none hs
            have hspot : spot = none := by
              cases spot with
              | none => rfl
              | some s => simp [Addr.add] at hs
            subst hspot
            refine Or.inr ⟨b, off, rfl, GCells.of fun i hi => ?_⟩
            obtain ⟨-, a2, b2, c2, e2, ⟨q0, q1, q2, q3⟩, hg⟩ := hop i hi
            rw [add_at] at q0
            rw [add_at, add_at] at q1 q2 q3
            exact ⟨a2, b2, c2, e2, ⟨q0, q1, q2, q3⟩, hg⟩
        · unfold Broad
          refine ⟨s1, hlen, n2, n3, BroadL.of fun x hx => ?_⟩
          obtain ⟨i, hi, rfl⟩ := List.getElem_of_mem hx
          exact (hop i hi).1

set_option maxRecDepth 100000 in
/-- the value that came in -/
theorem jval_open {r : Reach} {b0 : Nat} {v : Value} {d : DataW H} {p : List MemPlace} (hval : Value.okWide Tryd.prog W r b0 25 v) (h : DataW.Trod enc Tryd.prog W base (fun _ => true) held 25 v d p) (hw : (d.weights Tryd.prog 25).all (· ≤ reachBytes) = true) :
    ∃ x, GIn W x v ∧ Broad x := by
  obtain ⟨cs, rfl, hsz⟩ := okWide_struct Tryd.underlying25 hval
  obtain ⟨fuel, hf⟩ := h
  obtain ⟨c0, c1, c2, c3, rfl⟩ := array4 (hsz.trans cellsJV)
  have hf' : DataW.trod enc Tryd.prog W base (fun _ => true) held fuel 25 [c0, c1, c2, c3] = some (d, p) := by
    have := hf
    simpa [Value.cells] using this
  obtain ⟨x, a, b, c, e, hcs, hg, hb⟩ := val_open _ (Nat.le_refl _) hf' hw
  simp only [List.cons.injEq, and_true] at hcs
  obtain ⟨rfl, rfl, rfl, rfl⟩ := hcs
  exact ⟨x, hg, hb⟩
end
end Go.Proofs.YtdhkpkojnokjdaaDoor
