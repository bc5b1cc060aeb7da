/-
  exref1: fails; a file among the others; without a file.
-/
import Derived.Test.YtpaekggmphahoaaESmall
namespace Go.Proofs.Ytpaekggmphahoaa
open Go.RowKit Go.Maps Go.WideMaps
set_option linter.unusedVariables false
set_option linter.unusedSimpArgs false

theorem hset {w : World} {p j : Nat} {cs : Array Value} {t : TypeId} {fr : Nat × Nat} (h : w.heap[p]? = some (.cells cs t fr)) (v : Value) : (w.setCell ⟨p, j, none⟩ v).heap[p]? = some (.cells (cs.setIfInBounds j v) t fr) := by
  simp [World.setCell, Array.getElem?_modify, h]

section
variable {w w' : World} {q : Nat} {S S' : Fsp.Fs} {Q : Nat → Prop} {v : Value} {l : List RF}
/-- the head alone has turned -/
theorem RefX.headed (h : RefX w q S Q v l) (hh : w'.heap[q]? = some (.cells #[.int .i64 (S'.room : Int), v, .int .i64 (S'.steps : Int), .int .i64 (S'.armed : Int), .bool S'.down] 41 (0, 0))) (ht : Turn (fun b => b = q) w w') (hL : S'.L = S.L) : RefX w' q S' Q v l :=
  { h with
    head := hh
    L := hL.trans h.L
    row := ownsRow_turned h.row ht (fun r hr e => h.ownq (by rw [hr, e]))
    data := fun i x hx => (h.data i x hx).turned ht (fun h0 r hr e => (h.sep i x hx h0 r hr).1 e)
    lt := fun b hb => Nat.lt_of_lt_of_le (h.lt b hb) ht.size }

def failsB (S : Fsp.Fs) : Bool := decide (S.armed = 1)

set_option maxRecDepth 100000 in
theorem rFails_any (h : RefX w q S Q v l) (ha : S.armed ≤ 9223372036854775807) (hs : S.steps < 9223372036854775807) :
    Calls Try.prog 55 #[.pointer (some ⟨q, 0, none⟩)] w fun r w' => r = .returned (.bool (failsB S)) ∧ RefX w' q (Fsp.stepped S) Q v l ∧ Turn (fun b => b = q) w w' := by
  have H := Lib.hid h
  obtain ⟨c0, c1, c2, c3, c4, fr⟩ := h.cells
  have f2 := fr 2
  have f3 := fr 3
  have f4 := fr 4
  have hz := h.lt q h.inQ
  have hh := h.head
  have HH := Lib.hid hh
  obtain ⟨A, hA⟩ : ∃ A, A = S.armed := ⟨_, rfl⟩
  obtain ⟨B, hB⟩ : ∃ B, B = S.steps := ⟨_, rfl⟩
  rw [← hA] at c3 ha
  rw [← hB] at c2 hs
  have HA := Lib.hid hA
  have HB := Lib.hid hB
  clear h fr hh hA hB
  have T1 := fun (j : Nat) (u : Value) => (Turn.refl (fun b => b = q) w).set q j (Or.inl rfl) u
  by_cases h1 : A = 1
  · subst h1
    have hres : failsB S = true := by unfold failsB; rw [← HA.out]; rfl
    have hst : Fsp.stepped S = { S with armed := 0, down := true } := by unfold Fsp.stepped; rw [if_pos HA.out.symm]
    have hW : RefX ((w.setCell ⟨q, 3, none⟩ (.int .i64 0)).setCell ⟨q, 4, none⟩ (.bool true)) q (Fsp.stepped S) Q v l := by
      rw [hst]
      refine H.out.headed ?_ ((T1 3 _).set q 4 (Or.inl rfl) _) rfl
      exact hset (hset HH.out _) _
    have HW := Lib.hid hW
    have HT := Lib.hid ((T1 3 (.int .i64 0)).set q 4 (Or.inl rfl) (.bool true))
    rw [hres]
    clear hres hst hW T1
    go_enter Try.func55, Try.ntmps55
    go_wp2_with fail
    go_ret
    exact ⟨rfl, HW.out, HT.out⟩
  · have hres : failsB S = false := by unfold failsB; rw [← HA.out]; simp [h1]
    have hst : Fsp.stepped S = { S with armed := S.armed - 1, steps := S.steps + 1 } := by unfold Fsp.stepped; rw [if_neg (by rw [← HA.out]; exact h1)]
    rw [hres]
    by_cases h0 : A = 0
    · subst h0
      have hW : RefX (w.setCell ⟨q, 2, none⟩ (.int .i64 ((B : Int) + 1))) q (Fsp.stepped S) Q v l := by
        rw [hst]
        refine H.out.headed ?_ (T1 2 _) rfl
        have := hset (j := 2) HH.out (.int .i64 ((B : Int) + 1))
        simp only [← HA.out, ← HB.out] at this ⊢
        simpa using this
      have HW := Lib.hid hW
      have HT := Lib.hid (T1 2 (.int .i64 ((B : Int) + 1)))
      have b1 : (B : Int) + 1 ≤ 9223372036854775807 := by omega
      have b0 : (0 : Int) ≤ (B : Int) := by omega
      clear hres hst hW T1 h1
      go_enter Try.func55, Try.ntmps55
      go_wp2_with fail
      go_ret
      exact ⟨rfl, HW.out, HT.out⟩
    · obtain ⟨Z, rfl⟩ : ∃ Z, A = Z + 1 := ⟨A - 1, by omega⟩
      have z0 : (0 : Int) < (Z : Int) := by omega
      have z1 : ((Z : Int) == 0) = false := by simp; omega
      have z2 : (Z : Int) + 1 ≤ 9223372036854775807 := by omega
      have hW : RefX ((w.setCell ⟨q, 3, none⟩ (.int .i64 (Z : Int))).setCell ⟨q, 2, none⟩ (.int .i64 ((B : Int) + 1))) q (Fsp.stepped S) Q v l := by
        rw [hst]
        refine H.out.headed ?_ ((T1 3 _).set q 2 (Or.inl rfl) _) rfl
        have := hset (j := 2) (hset (j := 3) HH.out (.int .i64 (Z : Int))) (.int .i64 ((B : Int) + 1))
        simp only [← HA.out, ← HB.out] at this ⊢
        rw [show Z + 1 - 1 = Z by omega]
        simpa using this
      have HW := Lib.hid hW
      have HT := Lib.hid ((T1 3 (.int .i64 (Z : Int))).set q 2 (Or.inl rfl) (.int .i64 ((B : Int) + 1)))
      have b1 : (B : Int) + 1 ≤ 9223372036854775807 := by omega
      have b0 : (0 : Int) ≤ (B : Int) := by omega
      have c3 : w.cell? ⟨q, 3, none⟩ = some (.int .i64 ((Z : Int) + 1)) := c3
      have e1 : (Z : Int) + 1 - 1 = (Z : Int) := by omega
      clear hres hst hW T1 h1 h0 ha hs
      go_enter Try.func55, Try.ntmps55
      go_wp2_with fail
      go_ret
      exact ⟨rfl, HW.out, HT.out⟩
end

/-! ### rows of files of our own -/
set_option maxRecDepth 100000 in
theorem infoRf : ∃ i, Try.prog.info? 44 = some i ∧ i.zero = some (.agg #[.string ⟨#[]⟩, .slice none 0 0, .int .i64 0]) ∧ i.size = 3 ∧ i.bytes = 48 := by
  have h : (Try.prog.info? 44).map (fun i => (i.zero, i.size, i.bytes)) = some (some (.agg #[.string ⟨#[]⟩, .slice none 0 0, .int .i64 0]), 3, 48) := by kernel_rfl
  cases hi : Try.prog.info? 44 with
  | none => rw [hi] at h; simp at h
  | some i =>
    rw [hi] at h
    simp only [Option.map_some, Option.some.injEq, Prod.mk.injEq] at h
    exact ⟨i, rfl, h.1, h.2.1, h.2.2⟩
def RfsO (w : World) (base : Nat) (v : Value) (l : List RF) : Prop := w.ownsRow base 44 3 v l.length (rfC l)
theorem RfsO.nil (w : World) (base : Nat) : RfsO w base (.slice none 0 0) [] := World.ownsRow_nil _ _ _ _
theorem RfsO.form {w : World} {base : Nat} {v : Value} {l : List RF} (h : RfsO w base v l) : ∃ sp cap, v = .slice sp l.length cap := by
  rcases h.2 with ⟨h1, h2⟩ | ⟨g, cap, cur, h1, _⟩
  · exact ⟨none, 0, by rw [h1, h2]⟩
  · exact ⟨_, _, h1⟩
theorem RfsO.own {w : World} {base : Nat} {v : Value} {l : List RF} (h : RfsO w base v l) : ∀ r, v.ownBlock = some r → base ≤ r ∧ r < w.heap.size := fun r hr => by
  rcases h.2 with ⟨rfl, _⟩ | ⟨g, cap, cur, rfl, hg, hh, _⟩
  · cases hr
  · simp [Value.ownBlock] at hr
    subst hr
    exact ⟨hg, (Array.getElem?_eq_some_iff.1 hh).1⟩
set_option maxRecDepth 100000 in
theorem append_rf {w : World} {ops : Array Oper} {rest : List Oper} {o : Oper} {a : Act} {Qx : Exit → Act → World → Prop} (hgd : o.guard = none) (s x : Operand)
    (ho : o.op = .call { callee := .builtin .append, args := #[s, x], argTypes := #[39, 39] }) {base : Nat} {v : Value} {l : List RF} {y : RF} {g : Nat} {nb : ByteArray} {sd : Option Addr} {ld cd : Nat} (hs : a.eval s = v) (hx : a.eval x = .slice (some ⟨g, 0, none⟩) 1 1)
    (hl : RfsO w base v l) (hnb : nb = ⟨y.name.toArray⟩) (hdv : y.dv = .slice sd ld cd) (h1 : w.cell? ⟨g, 0, none⟩ = some (.string nb)) (h2 : w.cell? ⟨g, 1, none⟩ = some (.slice sd ld cd)) (h3 : w.cell? ⟨g, 2, none⟩ = some (.int .i64 (y.f.synced : Int))) (hn : l.length ≤ 1000000) (hbase : base ≤ w.heap.size)
    (h : ∀ sp cap w', RfsO w' base (.slice sp (l.length + 1) cap) (l ++ [y]) → Below base w w' → w.heap.size ≤ w'.heap.size → wpList Try.prog ops Qx rest (a.put o.dst (.slice sp (l.length + 1) cap)) w') :
    wpList Try.prog ops Qx (o :: rest) a w := by
  obtain ⟨i0, hi, hz0, hz1, hz2⟩ := infoRf
  subst hnb
  refine wpList_append_own_at w hgd s x 39 ho base 44 i0 (.agg #[.string ⟨#[]⟩, .slice none 0 0, .int .i64 0]) 3 48 Try.underlying39 hi hz0 hz1 hz2 rfl (by decide) v l.length _ hs hl ⟨g, 0, none⟩ 1 1 y.cells hx (by simp [RF.cells]) (fun j u hj => ?_) (fun u hu => ?_) (by unfold maxLen; omega) (by omega) hbase ?_
  · unfold RF.cells at hj
    rcases j with _ | _ | _ | j
    · simp at hj; subst hj; exact h1
    · simp at hj; subst hj
      rw [show (⟨g, 0, none⟩ : Addr).add (0 + 1) = ⟨g, 1, none⟩ by unfold Addr.add; split <;> simp_all, hdv]
      exact h2
    · simp at hj; subst hj
      rw [show (⟨g, 0, none⟩ : Addr).add (0 + 1 + 1) = ⟨g, 2, none⟩ by unfold Addr.add; split <;> simp_all]
      exact h3
    · simp at hj
  · simp only [RF.cells, List.mem_cons, List.not_mem_nil, or_false] at hu
    rcases hu with rfl | rfl | rfl
    · rfl
    · rw [hdv]; rfl
    · rfl
  · intro v' w2 hown' hg _ _
    have hown2 : RfsO w2 base v' (l ++ [y]) := by
      unfold RfsO
      rw [List.length_append, rfC_append, show rfC [y] = y.cells by simp [rfC]]
      exact hown'
    obtain ⟨sp, cap, e⟩ := hown2.form
    rw [show (l ++ [y]).length = l.length + 1 by simp] at e
    subst e
    exact h sp cap w2 hown2 (Below.grown (Below.refl _ _) hg hbase fun k e => (hl.own k e).1) hg.size

/-! ### a file among the others -/
def goPut (x : RF) : List RF → Bool → List RF
  | [], d => if d then [] else [x]
  | y :: r, d => if y.name = x.name then goPut x r d else if d = false ∧ x.name < y.name then x :: y :: goPut x r true else y :: goPut x r d
def goDrop (n : List UInt8) (l : List RF) : List RF := l.filter fun y => decide (y.name ≠ n)

theorem goPut_true {x : RF} : ∀ {r : List RF}, (∀ y ∈ r, x.name < y.name) → goPut x r true = r
  | [], _ => rfl
  | y :: r, h => by
    have hy := h y (List.mem_cons_self ..)
    rw [goPut, if_neg (fun e => Fsp.lt_irrefl' x.name (by rw [e] at hy; exact hy)), if_neg (fun e => by cases e.1), goPut_true fun z hz => h z (List.mem_cons_of_mem _ hz)]
theorem goPut_first {x : RF} : ∀ {r : List RF}, (∀ y ∈ r, x.name < y.name) → goPut x r false = x :: r
  | [], _ => rfl
  | y :: r, h => by
    have hy := h y (List.mem_cons_self ..)
    rw [goPut, if_neg (fun e => Fsp.lt_irrefl' x.name (by rw [e] at hy; exact hy)), if_pos ⟨rfl, hy⟩, goPut_true fun z hz => h z (List.mem_cons_of_mem _ hz)]
theorem goPut_put {x : RF} : ∀ {l : List RF}, Fsp.Sorted (l.map RF.pair) → (goPut x l false).map RF.pair = Fsp.put (l.map RF.pair) x.name x.f
  | [], _ => rfl
  | y :: r, h => by
    obtain ⟨h1, h2⟩ := List.pairwise_cons.1 h
    have h1' : ∀ z ∈ r, y.name < z.name := fun z hz => h1 z.pair (List.mem_map_of_mem hz)
    rw [List.map_cons, Fsp.put, goPut]
    show _ = if y.name = x.name then _ else if x.name < y.name then _ else _
    by_cases e : y.name = x.name
    · rw [if_pos e, if_pos e, goPut_first fun z hz => by rw [← e]; exact h1' z hz]
      rfl
    · rw [if_neg e, if_neg e]
      by_cases e2 : x.name < y.name
      · rw [if_pos ⟨rfl, e2⟩, if_pos e2, goPut_true fun z hz => Fsp.lt_trans' e2 (h1' z hz)]
        rfl
      · rw [if_neg (fun q => e2 q.2), if_neg e2, List.map_cons, goPut_put h2]
theorem goDrop_del {n : List UInt8} : ∀ {l : List RF}, Fsp.Sorted (l.map RF.pair) → (goDrop n l).map RF.pair = Fsp.del (l.map RF.pair) n
  | [], _ => rfl
  | y :: r, h => by
    obtain ⟨h1, h2⟩ := List.pairwise_cons.1 h
    have h1' : ∀ z ∈ r, y.name < z.name := fun z hz => h1 z.pair (List.mem_map_of_mem hz)
    rw [List.map_cons, Fsp.del]
    show _ = if y.name = n then _ else _
    unfold goDrop
    rw [List.filter_cons]
    by_cases e : y.name = n
    · rw [if_pos e, if_neg (by simp [e])]
      rw [List.filter_eq_self.2 fun z hz => by
        have := h1' z hz
        simp only [decide_eq_true_eq]
        intro e2
        rw [e, e2] at this
        exact Fsp.lt_irrefl' n this]
    · rw [if_neg e, if_pos (by simp [e]), List.map_cons]
      have := goDrop_del (n := n) h2
      unfold goDrop at this
      rw [this]
theorem goPut_mem {x z : RF} : ∀ {l : List RF} {d : Bool}, z ∈ goPut x l d → z = x ∨ z ∈ l
  | [], d, h => by
    unfold goPut at h
    split at h
    · simp at h
    · simp at h; exact Or.inl h
  | y :: r, d, h => by
    unfold goPut at h
    split at h
    · rcases goPut_mem h with k | k
      · exact Or.inl k
      · exact Or.inr (List.mem_cons_of_mem _ k)
    · split at h
      · simp only [List.mem_cons] at h
        rcases h with k | k | k
        · exact Or.inl k
        · exact Or.inr (by rw [k]; exact List.mem_cons_self ..)
        · rcases goPut_mem k with k | k
          · exact Or.inl k
          · exact Or.inr (List.mem_cons_of_mem _ k)
      · rcases List.mem_cons.1 h with k | k
        · exact Or.inr (by rw [k]; exact List.mem_cons_self ..)
        · rcases goPut_mem k with k | k
          · exact Or.inl k
          · exact Or.inr (List.mem_cons_of_mem _ k)
theorem goPut_len {x : RF} : ∀ {l : List RF} {d : Bool}, (goPut x l d).length ≤ l.length + 1
  | [], d => by unfold goPut; split <;> simp
  | y :: r, d => by
    unfold goPut
    split
    · have := goPut_len (x := x) (l := r) (d := d); simp; omega
    · split
      · rename_i h
        have : ∀ {r : List RF}, (goPut x r true).length ≤ r.length := by
          intro r
          induction r with
          | nil => simp [goPut]
          | cons z r ih =>
            unfold goPut
            split
            · simp; omega
            · rw [if_neg (fun e => by cases e.1)]; simpa using ih
        have := this (r := r)
        simp; omega
      · have := goPut_len (x := x) (l := r) (d := d); simp; omega
end Go.Proofs.Ytpaekggmphahoaa
