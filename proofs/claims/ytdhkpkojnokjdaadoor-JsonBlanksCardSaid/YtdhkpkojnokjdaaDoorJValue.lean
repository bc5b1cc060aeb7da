/-
  A value read.
-/
import Derived.Test.YtdhkpkojnokjdaaDoorJMembs
namespace Go.Proofs.YtdhkpkojnokjdaaDoor
open Go.RowKit Go.Shelf
set_option linter.unusedVariables false
set_option linter.unusedSimpArgs false

/-- block b holds four cells -/
def Own4 (w : World) (b : Nat) (x y z u : Value) : Prop := ∃ ty, w.heap[b]? = some (.cells #[x, y, z, u] ty)
theorem Own4.lt {w : World} {b : Nat} {x y z u : Value} (h : Own4 w b x y z u) : b < w.heap.size := by
  obtain ⟨ty, h⟩ := h; exact (Array.getElem?_eq_some_iff.1 h).1
theorem Own4.only {w w' : World} {b : Nat} {x y z u : Value} (h : Own4 w b x y z u) (t : Only w w') : Own4 w' b x y z u := by
  have := h.lt
  obtain ⟨ty, h⟩ := h
  exact ⟨ty, (t.block b this).trans h⟩
theorem Own4.but {w w' : World} {b R : Nat} {x y z u : Value} (h : Own4 w b x y z u) (t : But R w w') (hb : b ≠ R) : Own4 w' b x y z u := by
  have := h.lt
  obtain ⟨ty, h⟩ := h
  exact ⟨ty, (t.block b this hb).trans h⟩
theorem Own4.new (w : World) (x y z u : Value) (ty : TypeId) : Own4 (w.alloc (.cells #[x, y, z, u] ty)) w.heap.size x y z u := ⟨_, heap_alloc_new ..⟩
theorem Own4.set {w : World} {b : Nat} {x y z u : Value} (h : Own4 w b x y z u) (x' y' z' u' : Value) : Own4 ((((w.setCell ⟨b, 0, none⟩ x').setCell ⟨b, 1, none⟩ y').setCell ⟨b, 2, none⟩ z').setCell ⟨b, 3, none⟩ u') b x' y' z' u' := by
  obtain ⟨ty, h⟩ := h
  exact ⟨ty, heap_setCell_same (heap_setCell_same (heap_setCell_same (heap_setCell_same h x') y') z') u'⟩
theorem Own4.all {w : World} {b : Nat} {x y z u : Value} (h : Own4 w b x y z u) : (w.cell? ⟨b, 0, none⟩ = some x ∧ w.cell? ⟨b, 1, none⟩ = some y ∧ w.cell? ⟨b, 2, none⟩ = some z ∧ w.cell? ⟨b, 3, none⟩ = some u) ∧
    (w.frozen? ⟨b, 0, none⟩ = false ∧ w.frozen? ⟨b, 1, none⟩ = false ∧ w.frozen? ⟨b, 2, none⟩ = false ∧ w.frozen? ⟨b, 3, none⟩ = false) := by
  obtain ⟨ty, h⟩ := h
  refine ⟨⟨?_, ?_, ?_, ?_⟩, ?_, ?_, ?_, ?_⟩ <;> simp [World.cell?, World.frozen?, h]

theorem kindE_at {s : List UInt8} {p k q : Nat} (h : kindE s p = .ok k q) : p ≤ q ∧ q < s.length ∧ k ≤ 6 := by
  unfold kindE byteE at h
  have hge := skipE_ge blankL s p
  cases hs : s[skipE blankL s p]? with
  | none => rw [hs] at h; simp [Rs.bind] at h
  | some x =>
    rw [hs] at h
    have hlt := (List.getElem?_eq_some_iff.1 hs).1
    simp only [Rs.bind] at h
    unfold kindOf at h
    split at h
    · simp only [Rs.ok.injEq] at h; obtain ⟨rfl, rfl⟩ := h; exact ⟨hge, hlt, by decide⟩
    split at h
    · simp only [Rs.ok.injEq] at h; obtain ⟨rfl, rfl⟩ := h; exact ⟨hge, hlt, by decide⟩
    split at h
    · simp only [Rs.ok.injEq] at h; obtain ⟨rfl, rfl⟩ := h; exact ⟨hge, hlt, by decide⟩
    split at h
    · simp only [Rs.ok.injEq] at h; obtain ⟨rfl, rfl⟩ := h; exact ⟨hge, hlt, by decide⟩
    split at h
    · simp only [Rs.ok.injEq] at h; obtain ⟨rfl, rfl⟩ := h; exact ⟨hge, hlt, by decide⟩
    split at h
    · simp only [Rs.ok.injEq] at h; obtain ⟨rfl, rfl⟩ := h; exact ⟨hge, hlt, by decide⟩
    split at h
    · simp only [Rs.ok.injEq] at h; obtain ⟨rfl, rfl⟩ := h; exact ⟨hge, hlt, by decide⟩
    simp at h

abbrev set4 (w : World) (b : Nat) (x y z u : Value) : World := (((w.setCell ⟨b, 0, none⟩ x).setCell ⟨b, 1, none⟩ y).setCell ⟨b, 2, none⟩ z).setCell ⟨b, 3, none⟩ u
theorem turn_set4 {Q : Nat → Prop} {a w : World} {b : Nat} (h : Turn Q a w) (hb : Q b ∨ a.heap.size ≤ b) (x y z u : Value) : Turn Q a (set4 w b x y z u) := (((h.set b 0 hb x).set b 1 hb y).set b 2 hb z).set b 3 hb u
theorem rd_set4 {w : World} {R p b : Nat} {D : ByteArray} (h : RdAt w R D p) (hb : R ≠ b) (x y z u : Value) : RdAt (set4 w b x y z u) R D p := (((Own2.far h hb 0 x).far hb 1 y).far hb 2 z).far hb 3 u
theorem vrep_set4 {w : World} {b m B : Nat} {x : JV} {v : Value} (h : VRep w x (fun i => m ≤ i) v) (hb : b < m) (hB : B ≤ m) (x1 y z u : Value) : VRep (set4 w b x1 y z u) x (fun i => B ≤ i) v :=
  VRep.mono x (fun i _ p => by omega) (VRep.turn (turn_set4 (Q := fun i => i = b) (Turn.refl _ w) (Or.inl rfl) x1 y z u) x (fun i hi e => by omega) h)

abbrev zero4 : Obj := .cells #[.int .i64 0, .string ⟨#[]⟩, .slice none 0 0, .slice none 0 0] 25

set_option maxRecDepth 100000 in
set_option maxHeartbeats 12800000 in
theorem value_step {D : ByteArray} {R n : Nat} (hl : D.size ≤ 1000000) (hR0 : R ≠ 0) (hR1 : R ≠ 1) (IH : ∀ m, m ≤ n → ValIs D R m) : ValIs D R (n + 1) := by
  intro p depth ahead w h hp hT hd hah hst
  obtain ⟨full, hfull⟩ : ∃ full, full = valueE D.data.toList (n + 1) p depth ahead := ⟨_, rfl⟩
  rw [← hfull] at hst ⊢
  have hu : full = (kindE D.data.toList p).bind fun k q => (limE D.data.toList q k depth ahead).bind fun _ q =>
      if k = 0 then (wordE D.data.toList [110, 117, 108, 108] q).bind fun _ r => .ok (.plain 0) r
      else if k = 1 then (wordE D.data.toList [102, 97, 108, 115, 101] q).bind fun _ r => .ok (.plain 1) r
      else if k = 2 then (wordE D.data.toList [116, 114, 117, 101] q).bind fun _ r => .ok (.plain 2) r
      else if k = 3 then (literalE D.data.toList q).bind fun t r => .ok (.num t) r
      else if k = 4 then (quotedE D.data.toList q).bind fun t r => .ok (.str t) r
      else if k = 5 then ((endsE 93 D.data.toList (q + 1)).bind fun b r => if b = true then .ok [] r else elemE D.data.toList n r (depth + 1) []).bind fun l t => .ok (.arr l) t
      else ((endsE 125 D.data.toList (q + 1)).bind fun b r => if b = true then .ok ([], []) r else membE D.data.toList n r (depth + 1) [] []).bind fun m t => .ok (.obj m.1 m.2) t := by
    rw [hfull]; conv => lhs; unfold valueE
  have HST := Lib.hid hst
  have IH := Lib.hid IH
  have hRlt := h.lt
  have h1 := h.alloc zero4
  have KA := kind_any h1 hp hl
  have hkat : ∀ k q, kindE D.data.toList p = .ok k q → p ≤ q ∧ q < D.data.toList.length ∧ k ≤ 6 := fun k q h => kindE_at h
  obtain ⟨u, hue⟩ : ∃ u, u = kindE D.data.toList p := ⟨_, rfl⟩
  rw [← hue] at KA hu hkat
  have HU := Lib.hid hu
  have HKA := Lib.hid hkat
  have HO := Lib.hid (Own4.new w (.int .i64 0) (.string ⟨#[]⟩) (.slice none 0 0) (.slice none 0 0) 25)
  have HT0 := Lib.hid ((Only.refl w).alloc zero4)
  have HTB := Lib.hid hT
  have ne : w.heap.size ≠ R := by omega
  clear hu hue hkat hfull hst h h1 hT
  go_enter Tryd.func24, Tryd.ntmps24
  go_wp2_with fail
  go_at_call 37
  refine KA.mono ?_
  intro e w1 hP
  rcases hP.cases with ⟨k, q, v, rfl, hq, rfl, rfl, r1, t1⟩ | ⟨a, b, a', rfl, rfl, hk, t1⟩
  · obtain ⟨hpq, hqlt, hk6⟩ := HKA.out k q rfl
    rw [data_len] at hqlt
    have LA := limits_any (k := k) (depth := depth) (ahead := ahead) r1 hq hl hk6
    have hu2 := HU.out.trans (show _ = (limE D.data.toList q k depth ahead).bind _ from rfl)
    have hlat : ∀ (u : Unit) (q' : Nat), limE D.data.toList q k depth ahead = .ok u q' → q' = q ∧ ahead < 1000 ∧ ((k = 5 ∨ k = 6) → depth < 32) := fun u q' h => limE_at h
    obtain ⟨u, hue⟩ : ∃ u, u = limE D.data.toList q k depth ahead := ⟨_, rfl⟩
    rw [← hue] at LA hu2 hlat
    have HU2 := Lib.hid hu2
    have HLA := Lib.hid hlat
    have HT1 := Lib.hid (Turn.trans (HT0.out.but R) t1 (fun _ _ q => q) : But R w w1)
    have HO1 := Lib.hid (HO.out.but t1 ne)
    clear hP KA HU HKA r1 t1 hu2 hue hlat
    go_wp2_with fail
    go_at_call 38
    refine LA.mono ?_
    intro e w2 hP
    rcases hP.cases with ⟨x, q2, v, rfl, hq2, rfl, rfl, r2, t2⟩ | ⟨a, b, a', rfl, rfl, hk, t2⟩
    · obtain ⟨rfl, hah2, hdp⟩ := HLA.out x q2 rfl
      have hu3 : full = _ := HU2.out.trans rfl
      have HU3 := Lib.hid hu3
      have HT2 := Lib.hid (But.then_ HT1.out t2)
      have HO2 := Lib.hid (HO1.out.but t2 ne)
      have HTB2 := Lib.hid (HTB.out.turn HT2.out (fun e => hR0 e.symm) (fun e => hR1 e.symm))
      have HR2 := Lib.hid r2
      clear hP LA HU2 HLA r2 t2 hu3
      rcases (by omega : k = 0 ∨ k = 1 ∨ k = 2 ∨ k = 3 ∨ k = 4 ∨ k = 5 ∨ k = 6) with rfl | rfl | rfl | rfl | rfl | rfl | rfl
      · have hu4 : full = (wordE D.data.toList [110, 117, 108, 108] q2).bind fun _ r => .ok (.plain 0) r := HU3.out
        have CC : Calls Tryd.prog 39 #[.pointer (some ⟨R, 0, none⟩), .string ⟨#[110, 117, 108, 108]⟩] w2 (Post w2 R D (fun _ v _ => v = .tuple #[]) (wordE D.data.toList [110, 117, 108, 108] q2)) := word_any (T := ⟨#[110, 117, 108, 108]⟩) HR2.out hq2 hl (by decide)
        obtain ⟨u, hue⟩ : ∃ u, u = wordE D.data.toList [110, 117, 108, 108] q2 := ⟨_, rfl⟩
        rw [← hue] at hu4 CC
        have HU4 := Lib.hid hu4
        clear hu4 hue HU3
        go_wp2_with fail
        go_at_call 39
        refine CC.mono ?_
        intro e w3 hP
        rcases hP.cases with ⟨t, q3, v, rfl, hq3, rfl, rfl, r3, t3⟩ | ⟨a, b, a', rfl, rfl, hk, t3⟩
        · have HK := Lib.hid (HU4.out.trans (show _ = Rs.ok (.plain 0) q3 from rfl))
          have ho3 := HO2.out.but t3 ne
          obtain ⟨⟨c1, c2, c3, c4⟩, f1, f2, f3, f4⟩ := ho3.all
          have HT3 := Lib.hid (HT2.out.then_ t3)
          have HR3 := Lib.hid r3
          clear hP CC HU4 r3 t3 ho3
          go_wp2_with fail
          simp [bodyPost, results, Tryd.results24, go_sem, World.cell?_setCell_other, c1, c2, c3, c4]
          exact post_ok HK.out (turn_set4 HT3.out (Or.inr (Nat.le_refl _)) _ _ _ _) hq3 ⟨rfl, by decide⟩ (rd_set4 HR3.out ne.symm _ _ _ _)
        · have HK := Lib.hid (HU4.out.trans rfl)
          have HT3 := Lib.hid (HT2.out.then_ t3)
          clear hP CC HU4 t3
          go_wp2_with fail
          simp [bodyPost]
          exact post_on HK.out HT3.out hk
      · have hu4 : full = (wordE D.data.toList [102, 97, 108, 115, 101] q2).bind fun _ r => .ok (.plain 1) r := HU3.out
        have CC : Calls Tryd.prog 39 #[.pointer (some ⟨R, 0, none⟩), .string ⟨#[102, 97, 108, 115, 101]⟩] w2 (Post w2 R D (fun _ v _ => v = .tuple #[]) (wordE D.data.toList [102, 97, 108, 115, 101] q2)) := word_any (T := ⟨#[102, 97, 108, 115, 101]⟩) HR2.out hq2 hl (by decide)
        obtain ⟨u, hue⟩ : ∃ u, u = wordE D.data.toList [102, 97, 108, 115, 101] q2 := ⟨_, rfl⟩
        rw [← hue] at hu4 CC
        have HU4 := Lib.hid hu4
        clear hu4 hue HU3
        go_wp2_with fail
        go_at_call 39
        refine CC.mono ?_
        intro e w3 hP
        rcases hP.cases with ⟨t, q3, v, rfl, hq3, rfl, rfl, r3, t3⟩ | ⟨a, b, a', rfl, rfl, hk, t3⟩
        · have HK := Lib.hid (HU4.out.trans (show _ = Rs.ok (.plain 1) q3 from rfl))
          have ho3 := HO2.out.but t3 ne
          obtain ⟨⟨c1, c2, c3, c4⟩, f1, f2, f3, f4⟩ := ho3.all
          have HT3 := Lib.hid (HT2.out.then_ t3)
          have HR3 := Lib.hid r3
          clear hP CC HU4 r3 t3 ho3
          go_wp2_with fail
          simp [bodyPost, results, Tryd.results24, go_sem, World.cell?_setCell_other, c1, c2, c3, c4]
          exact post_ok HK.out (turn_set4 HT3.out (Or.inr (Nat.le_refl _)) _ _ _ _) hq3 ⟨rfl, by decide⟩ (rd_set4 HR3.out ne.symm _ _ _ _)
        · have HK := Lib.hid (HU4.out.trans rfl)
          have HT3 := Lib.hid (HT2.out.then_ t3)
          clear hP CC HU4 t3
          go_wp2_with fail
          simp [bodyPost]
          exact post_on HK.out HT3.out hk
      · have hu4 : full = (wordE D.data.toList [116, 114, 117, 101] q2).bind fun _ r => .ok (.plain 2) r := HU3.out
        have CC : Calls Tryd.prog 39 #[.pointer (some ⟨R, 0, none⟩), .string ⟨#[116, 114, 117, 101]⟩] w2 (Post w2 R D (fun _ v _ => v = .tuple #[]) (wordE D.data.toList [116, 114, 117, 101] q2)) := word_any (T := ⟨#[116, 114, 117, 101]⟩) HR2.out hq2 hl (by decide)
        obtain ⟨u, hue⟩ : ∃ u, u = wordE D.data.toList [116, 114, 117, 101] q2 := ⟨_, rfl⟩
        rw [← hue] at hu4 CC
        have HU4 := Lib.hid hu4
        clear hu4 hue HU3
        go_wp2_with fail
        go_at_call 39
        refine CC.mono ?_
        intro e w3 hP
        rcases hP.cases with ⟨t, q3, v, rfl, hq3, rfl, rfl, r3, t3⟩ | ⟨a, b, a', rfl, rfl, hk, t3⟩
        · have HK := Lib.hid (HU4.out.trans (show _ = Rs.ok (.plain 2) q3 from rfl))
          have ho3 := HO2.out.but t3 ne
          obtain ⟨⟨c1, c2, c3, c4⟩, f1, f2, f3, f4⟩ := ho3.all
          have HT3 := Lib.hid (HT2.out.then_ t3)
          have HR3 := Lib.hid r3
          clear hP CC HU4 r3 t3 ho3
          go_wp2_with fail
          simp [bodyPost, results, Tryd.results24, go_sem, World.cell?_setCell_other, c1, c2, c3, c4]
          exact post_ok HK.out (turn_set4 HT3.out (Or.inr (Nat.le_refl _)) _ _ _ _) hq3 ⟨rfl, by decide⟩ (rd_set4 HR3.out ne.symm _ _ _ _)
        · have HK := Lib.hid (HU4.out.trans rfl)
          have HT3 := Lib.hid (HT2.out.then_ t3)
          clear hP CC HU4 t3
          go_wp2_with fail
          simp [bodyPost]
          exact post_on HK.out HT3.out hk
      · have hu4 : full = (literalE D.data.toList q2).bind fun t r => .ok (.num t) r := HU3.out
        have CC := literal_any HR2.out hq2 hl
        obtain ⟨u, hue⟩ : ∃ u, u = literalE D.data.toList q2 := ⟨_, rfl⟩
        rw [← hue] at hu4 CC
        have HU4 := Lib.hid hu4
        clear hu4 hue HU3
        go_wp2_with fail
        go_at_call 40
        refine CC.mono ?_
        intro e w3 hP
        rcases hP.cases with ⟨t, q3, v, rfl, hq3, rfl, rfl, r3, t3⟩ | ⟨a, b, a', rfl, rfl, hk, t3⟩
        · have HK := Lib.hid (HU4.out.trans (show _ = Rs.ok (.num t) q3 from rfl))
          have ho3 := HO2.out.but t3 ne
          obtain ⟨⟨c1, c2, c3, c4⟩, f1, f2, f3, f4⟩ := ho3.all
          have HT3 := Lib.hid (HT2.out.then_ t3)
          have HR3 := Lib.hid r3
          clear hP CC HU4 r3 t3 ho3
          go_wp2_with fail
          simp [bodyPost, results, Tryd.results24, go_sem, World.cell?_setCell_other, c1, c2, c3, c4]
          exact post_ok HK.out (turn_set4 HT3.out (Or.inr (Nat.le_refl _)) _ _ _ _) hq3 rfl (rd_set4 HR3.out ne.symm _ _ _ _)
        · have HK := Lib.hid (HU4.out.trans rfl)
          have HT3 := Lib.hid (HT2.out.then_ t3)
          clear hP CC HU4 t3
          go_wp2_with fail
          simp [bodyPost]
          exact post_on HK.out HT3.out hk
      · have hu4 : full = (quotedE D.data.toList q2).bind fun t r => .ok (.str t) r := HU3.out
        have CC := quoted_any HR2.out hqlt hl HTB2.out hR0 hR1
        obtain ⟨u, hue⟩ : ∃ u, u = quotedE D.data.toList q2 := ⟨_, rfl⟩
        rw [← hue] at hu4 CC
        have HU4 := Lib.hid hu4
        clear hu4 hue HU3
        go_wp2_with fail
        go_at_call 41
        refine CC.mono ?_
        intro e w3 hP
        rcases hP.cases with ⟨t, q3, v, rfl, hq3, rfl, rfl, r3, t3⟩ | ⟨a, b, a', rfl, rfl, hk, t3⟩
        · have HK := Lib.hid (HU4.out.trans (show _ = Rs.ok (.str t) q3 from rfl))
          have ho3 := HO2.out.but t3 ne
          obtain ⟨⟨c1, c2, c3, c4⟩, f1, f2, f3, f4⟩ := ho3.all
          have HT3 := Lib.hid (HT2.out.then_ t3)
          have HR3 := Lib.hid r3
          clear hP CC HU4 r3 t3 ho3
          go_wp2_with fail
          simp [bodyPost, results, Tryd.results24, go_sem, World.cell?_setCell_other, c1, c2, c3, c4]
          exact post_ok HK.out (turn_set4 HT3.out (Or.inr (Nat.le_refl _)) _ _ _ _) hq3 rfl (rd_set4 HR3.out ne.symm _ _ _ _)
        · have HK := Lib.hid (HU4.out.trans rfl)
          have HT3 := Lib.hid (HT2.out.then_ t3)
          clear hP CC HU4 t3
          go_wp2_with fail
          simp [bodyPost]
          exact post_on HK.out HT3.out hk
      · have hd32 := hdp (Or.inl rfl)
        have hu4 : full = ((endsE 93 D.data.toList (q2 + 1)).bind fun b r => if b = true then .ok [] r else elemE D.data.toList n r (depth + 1) []).bind fun l t => .ok (.arr l) t := HU3.out
        have CC := elements_any (n := n) (depth := depth + 1) (fun m hm => IH.out m (by omega)) HR2.out hqlt hl HTB2.out hR0 hR1 (by omega) (fun a e => HST.out a (by rw [hu4, e]; rfl))
        obtain ⟨u, hue⟩ : ∃ u, u = ((endsE 93 D.data.toList (q2 + 1)).bind fun b r => if b = true then .ok [] r else elemE D.data.toList n r (depth + 1) []) := ⟨_, rfl⟩
        rw [← hue] at hu4 CC
        have HU4 := Lib.hid hu4
        have hcast : ((depth + 1 : Nat) : Int) = (depth : Int) + 1 := rfl
        rw [hcast] at CC
        have id32 : (depth : Int) < 32 := by omega
        have hsz2 := HT2.out.size
        clear hu4 hue HU3 hcast
        go_wp2_with fail
        go_at_call 42
        refine CC.mono ?_
        intro e w3 hP
        rcases hP.cases with ⟨l, q3, v, rfl, hq3, rfl, ⟨xs, hls⟩, r3, t3⟩ | ⟨a, b, a', rfl, rfl, hk, t3⟩
        · have HK := Lib.hid (HU4.out.trans (show _ = Rs.ok (.arr l) q3 from rfl))
          obtain ⟨sp, cap, rfl⟩ := hls.form
          have HV := Lib.hid hls.arr
          have hb2 := HO2.out.lt
          have ho3 := HO2.out.but t3 ne
          obtain ⟨⟨c1, c2, c3, c4⟩, f1, f2, f3, f4⟩ := ho3.all
          have HT3 := Lib.hid (HT2.out.then_ t3)
          have HR3 := Lib.hid r3
          clear hP CC HU4 r3 t3 ho3 hls
          go_wp2_with fail
          simp [bodyPost, results, Tryd.results24, go_sem, World.cell?_setCell_other, c1, c2, c3, c4]
          exact post_ok HK.out (turn_set4 HT3.out (Or.inr (Nat.le_refl _)) _ _ _ _) hq3 (vrep_set4 HV.out hb2 hsz2 _ _ _ _) (rd_set4 HR3.out ne.symm _ _ _ _)
        · have HK := Lib.hid (HU4.out.trans rfl)
          have HT3 := Lib.hid (HT2.out.then_ t3)
          clear hP CC HU4 t3
          go_wp2_with fail
          simp [bodyPost]
          exact post_on HK.out HT3.out hk
      · have hd32 := hdp (Or.inr rfl)
        have hu4 : full = ((endsE 125 D.data.toList (q2 + 1)).bind fun b r => if b = true then .ok ([], []) r else membE D.data.toList n r (depth + 1) [] []).bind fun m t => .ok (.obj m.1 m.2) t := HU3.out
        have CC := members_any (n := n) (depth := depth + 1) (fun m hm => IH.out m (by omega)) HR2.out hqlt hl HTB2.out hR0 hR1 (by omega) (fun a e => HST.out a (by rw [hu4, e]; rfl))
        obtain ⟨u, hue⟩ : ∃ u, u = ((endsE 125 D.data.toList (q2 + 1)).bind fun b r => if b = true then .ok ([], []) r else membE D.data.toList n r (depth + 1) [] []) := ⟨_, rfl⟩
        rw [← hue] at hu4 CC
        have HU4 := Lib.hid hu4
        have hcast : ((depth + 1 : Nat) : Int) = (depth : Int) + 1 := rfl
        rw [hcast] at CC
        have id32 : (depth : Int) < 32 := by omega
        have hsz2 := HT2.out.size
        clear hu4 hue HU3 hcast
        go_wp2_with fail
        go_at_call 43
        refine CC.mono ?_
        intro e w3 hP
        rcases hP.cases with ⟨m, q3, v, rfl, hq3, rfl, ⟨N, L, xs, rfl, hls, hns, hmn⟩, r3, t3⟩ | ⟨a, b, a', rfl, rfl, hk, t3⟩
        · have HK := Lib.hid (HU4.out.trans (show _ = Rs.ok (.obj m.1 m.2) q3 from rfl))
          have HV := Lib.hid (hls.obj hns hmn)
          obtain ⟨sp, cap, rfl⟩ := hls.form
          obtain ⟨np, ncap, rfl⟩ := hns.form
          have hb2 := HO2.out.lt
          have ho3 := HO2.out.but t3 ne
          obtain ⟨⟨c1, c2, c3, c4⟩, f1, f2, f3, f4⟩ := ho3.all
          have HT3 := Lib.hid (HT2.out.then_ t3)
          have HR3 := Lib.hid r3
          clear hP CC HU4 r3 t3 ho3 hls hns hmn
          go_wp2_with fail
          simp [bodyPost, results, Tryd.results24, go_sem, World.cell?_setCell_other, c1, c2, c3, c4]
          exact post_ok HK.out (turn_set4 HT3.out (Or.inr (Nat.le_refl _)) _ _ _ _) hq3 (vrep_set4 HV.out hb2 hsz2 _ _ _ _) (rd_set4 HR3.out ne.symm _ _ _ _)
        · have HK := Lib.hid (HU4.out.trans rfl)
          have HT3 := Lib.hid (HT2.out.then_ t3)
          clear hP CC HU4 t3
          go_wp2_with fail
          simp [bodyPost]
          exact post_on HK.out HT3.out hk
    · have HK := Lib.hid (HU2.out.trans rfl)
      have HT2 := Lib.hid (But.then_ HT1.out t2)
      clear hP LA HU2 t2
      go_wp2_with fail
      simp [bodyPost]
      exact post_on HK.out HT2.out hk
  · have HK := Lib.hid (HU.out.trans rfl)
    have HT1 := Lib.hid (Turn.trans (HT0.out.but R) t1 (fun _ _ q => q) : But R w w1)
    clear hP KA HU t1
    go_wp2_with fail
    simp [bodyPost]
    exact post_on HK.out HT1.out hk

theorem value_any {D : ByteArray} {R : Nat} (hl : D.size ≤ 1000000) (hR0 : R ≠ 0) (hR1 : R ≠ 1) : ∀ n, ValIs D R n := by
  intro n
  induction n using Nat.strongRecOn with
  | ind n ih =>
    cases n with
    | zero => intro p depth ahead w _ _ _ _ _ hst; exact absurd (by unfold valueE; rfl) (hst p)
    | succ n => exact value_step hl hR0 hR1 (fun m hm => ih m (by omega))
end Go.Proofs.YtdhkpkojnokjdaaDoor
