/-
  Same: two values compared, members by rising names.
-/
import Derived.Test.YtdhkpkojnokjdaaDoorJEx
namespace Go.Proofs.YtdhkpkojnokjdaaDoor
open Go.RowKit Go.Maps Go.WideMaps Go.Shelf
set_option linter.unusedVariables false
set_option linter.unusedSimpArgs false

abbrev gv0 : GV := .mk 0 [] [] []
/-- element by element -/
def eqAll (f : GV → GV → Bool) : List GV → List GV → Bool
  | x :: r, y :: q => f x y && eqAll f r q
  | [], _ => true
  | _ :: _, [] => true
/-- member by member, by these places -/
def memAll (f : GV → GV → Bool) (l l2 : List GV) (ns ns2 : List (List UInt8)) : List Nat → List Nat → Bool
  | i :: r, j :: q => (ns.getD i [] == ns2.getD j [] && f (l.getD i gv0) (l2.getD j gv0)) && memAll f l l2 ns ns2 r q
  | [], _ => true
  | _ :: _, [] => true
/-- what Same answers -/
def sameG : Nat → GV → GV → Bool
  | 0, _, _ => true
  | n + 1, .mk k t l ns, .mk k2 t2 l2 ns2 => if k ≠ k2 then false else if k = 3 ∨ k = 4 then t == t2 else if k = 5 then (l.length == l2.length) && eqAll (sameG n) l l2
    else if k = 6 then if l.length ≠ l2.length ∨ ns.length ≠ ns2.length then false else memAll (sameG n) l l2 ns ns2 (ordN (ns.take (min l.length ns.length))) (ordN (ns2.take (min l.length ns.length))) else true

mutual
/-- a value that is not too large to be compared -/
def Slim : GV → Prop
  | .mk k t l ns => t.length ≤ 1000000 ∧ l.length ≤ 1000000 ∧ ns.length ≤ 1000 ∧ (∀ s ∈ ns, s.length ≤ 1000000) ∧ SlimL l
def SlimL : List GV → Prop
  | [] => True
  | x :: r => Slim x ∧ SlimL r
end
theorem SlimL.at_ : ∀ {l : List GV}, SlimL l → ∀ i (h : i < l.length), Slim l[i]
  | x :: r, h, 0, hi => by unfold SlimL at h; exact h.1
  | x :: r, h, i + 1, hi => by unfold SlimL at h; simpa using SlimL.at_ h.2 i (by simpa using hi)

theorem eqAll_drop (f : GV → GV → Bool) {l l2 : List GV} {j : Nat} (h : j < l.length) (h2 : j < l2.length) : eqAll f (l.drop j) (l2.drop j) = (f l[j] l2[j] && eqAll f (l.drop (j + 1)) (l2.drop (j + 1))) := by
  rw [List.drop_eq_getElem_cons h, List.drop_eq_getElem_cons h2, eqAll]
theorem eqAll_end (f : GV → GV → Bool) {l l2 : List GV} : eqAll f (l.drop l.length) l2 = true := by rw [List.drop_length]; cases l2 <;> rfl

set_option maxRecDepth 100000 in
set_option maxHeartbeats 3200000 in
theorem equalFunc_any {f : GV → GV → Bool} {l l2 : List GV} {L L2 : Value} {w : World} (hL : ElemsIn w L l) (hL2 : ElemsIn w L2 l2) (h1 : l.length ≤ 1000000) (h2 : l2.length ≤ 1000000)
    (ih : ∀ i (h : i < l.length) (h2 : i < l2.length) (w' : World) (a b : Value), GIn w' l[i] a → GIn w' l2[i] b → Calls Tryd.prog 13 #[a, b] w' fun e w2 => e = .returned (.bool (f l[i] l2[i])) ∧ Only w' w2) :
    Calls Tryd.prog 26 #[L, L2, .func (.func 13) #[] #[]] w fun e w' => e = .returned (.bool (l.length == l2.length && eqAll f l l2)) ∧ Only w w' := by
  obtain ⟨sp, cap, rfl, hc⟩ := hL
  obtain ⟨sp2, cap2, rfl, hc2⟩ := hL2
  have il : (l.length : Int) ≤ 1000000 := by omega
  have il2 : (l2.length : Int) ≤ 1000000 := by omega
  have HC := Lib.hid hc
  have HC2 := Lib.hid hc2
  have IH := Lib.hid ih
  clear hc hc2 ih
  by_cases hne : l.length = l2.length
  · have hb : (l.length == l2.length) = true := by simpa using hne
    rw [hb, Bool.true_and]
    have ine : ¬ (l.length : Int) ≠ (l2.length : Int) := by omega
    have ieq : (l.length : Int) = (l2.length : Int) := by omega
    obtain ⟨z, hz⟩ : ∃ z, z = eqAll f l l2 := ⟨_, rfl⟩
    rw [← hz]
    have HZ := Lib.hid hz
    have HNE := Lib.hid hne
    clear hz hb hne
    go_enter Tryd.func26, Tryd.ntmps26
    go_wp2_with fail
    go_loopw [17, 7, 8, 9] (fun kv _ _ _ wx => ∃ j : Nat, kv = .int .i64 (j : Int) ∧ j ≤ l.length ∧ Only w wx ∧ Hid (z = eqAll f (l.drop j) (l2.drop j))) (fun kv _ _ _ _ => l.length - (intOf kv).toNat)
    case atStart => exact ⟨0, rfl, Nat.zero_le _, Only.refl _, Lib.hid (by simpa using HZ.out)⟩
    case round =>
      obtain ⟨j, rfl, hj, ht, hzj⟩ := hrel
      have HT := Lib.hid ht
      clear ht
      by_cases hlt : j < l.length
      · have hlt2 : j < l2.length := by have := HNE.out; omega
        have ij : (j : Int) < (l.length : Int) := by omega
        have ij2 : (j : Int) < (l2.length : Int) := by omega
        rcases HC.out with h0 | ⟨g, off, hsp, hcell⟩
        · rw [h0] at hlt; simp at hlt
        rcases HC2.out with h0 | ⟨g2, off2, hsp2, hcell2⟩
        · rw [h0] at hlt2; simp at hlt2
        subst hsp hsp2
        obtain ⟨c0, c1, c2, c3, ⟨q0, q1, q2, q3⟩, hgx⟩ := GCells.at_ (GCells.only HT.out l hcell) j hlt
        obtain ⟨k9, t9, sp9, n9, m9, sq9, u9, v9, rfl, rfl, rfl, rfl⟩ := GIn.shape hgx
        obtain ⟨d0, d1, d2, d3, ⟨y0, y1, y2, y3⟩, hgy⟩ := GCells.at_ (GCells.only HT.out l2 hcell2) j hlt2
        obtain ⟨k8, t8, sp8, n8, m8, sq8, u8, v8, rfl, rfl, rfl, rfl⟩ := GIn.shape hgy
        have e1 : (⟨g, off, none⟩ : Addr).add (j * 4) = ⟨g, off + j * 4, none⟩ := add_at _ _ _
        have e2 : (⟨g2, off2, none⟩ : Addr).add (j * 4) = ⟨g2, off2 + j * 4, none⟩ := add_at _ _ _
        obtain ⟨W1, hW1⟩ : ∃ W1, W1 = wr.alloc (.cells #[.int .i64 k9, txt t9, .slice sp9 n9 m9, .slice sq9 u9 v9] 25) := ⟨_, rfl⟩
        have tS := (Only.refl wr).alloc (.cells #[.int .i64 k9, txt t9, .slice sp9 n9 m9, .slice sq9 u9 v9] 25)
        have tS2 := tS.alloc (.cells #[.int .i64 k8, txt t8, .slice sp8 n8 m8, .slice sq8 u8 v8] 25)
        have y0' := cell_only y0 tS
        have y1' := cell_only y1 tS
        have y2' := cell_only y2 tS
        have y3' := cell_only y3 tS
        have C := Lib.hid (IH.out j hlt hlt2 _ _ _ (GIn.only tS2 _ hgx) (GIn.only tS2 _ hgy))
        have HS := Lib.hid (HT.out.trans tS2)
        have hstep := eqAll_drop f hlt hlt2
        obtain ⟨u, hu⟩ : ∃ u, u = f l[j] l2[j] := ⟨_, rfl⟩
        rw [← hu] at C hstep
        have HST := Lib.hid hstep
        have O1 := Lib.hid ((Own4.new wr (.int .i64 k9) (txt t9) (.slice sp9 n9 m9) (.slice sq9 u9 v9) 25).only ((Only.refl _).alloc (.cells #[.int .i64 k8, txt t8, .slice sp8 n8 m8, .slice sq8 u8 v8] 25)))
        obtain ⟨⟨o0, o1, o2, o3⟩, -⟩ := O1.out.all
        clear hu hstep hgx hgy hcell hcell2 tS tS2 hW1 W1
        cases u
        · go_wp2_with (go_at_call 13; refine C.out.mono ?_; rintro r w3 ⟨rfl, t3⟩)
          go_ret
          have hf : z = false := by rw [hzj.out, HST.out]; rfl
          exact ⟨by rw [hf]; rfl, HS.out.trans t3⟩
        · go_wp2_with (go_at_call 13; refine C.out.mono ?_; rintro r w3 ⟨rfl, t3⟩)
          have HT3 := Lib.hid (HS.out.trans t3)
          clear t3
          go_roundw
          case rel => exact ⟨j + 1, by push_cast; rfl, hlt, HT3.out, Lib.hid (by rw [hzj.out, HST.out, Bool.true_and])⟩
          case measure => simp [intOf]; omega
      · have hje : j = l.length := by omega
        have ij : ¬ (j : Int) < (l.length : Int) := by omega
        have hf : z = true := by rw [hzj.out, hje]; exact eqAll_end f
        subst hf
        go_wp2_with fail
        go_ret
        exact ⟨rfl, HT.out⟩
  · have hb : (l.length == l2.length) = false := by simpa using hne
    rw [hb, Bool.false_and]
    have ine : ((l.length : Int) != (l2.length : Int)) = true := by rw [bne_iff_ne]; omega
    have ine2 : ¬ (l.length : Int) = (l2.length : Int) := by omega
    go_enter Tryd.func26, Tryd.ntmps26
    go_wp2_with fail
    go_ret
    exact ⟨rfl, Only.refl _⟩

theorem memAll_drop (f : GV → GV → Bool) (l l2 : List GV) (ns ns2 : List (List UInt8)) {os os2 : List Nat} {j : Nat} (h : j < os.length) (h2 : j < os2.length) :
    memAll f l l2 ns ns2 (os.drop j) (os2.drop j) = ((ns.getD os[j] [] == ns2.getD os2[j] [] && f (l.getD os[j] gv0) (l2.getD os2[j] gv0)) && memAll f l l2 ns ns2 (os.drop (j + 1)) (os2.drop (j + 1))) := by
  rw [List.drop_eq_getElem_cons h, List.drop_eq_getElem_cons h2, memAll]
theorem memAll_end (f : GV → GV → Bool) (l l2 : List GV) (ns ns2 : List (List UInt8)) {os os2 : List Nat} : memAll f l l2 ns ns2 (os.drop os.length) os2 = true := by
  rw [List.drop_length]; cases os2 <;> rfl
theorem ordN_in {ns : List (List UInt8)} {i : Nat} (h : i ∈ ordN ns) : i < ns.length := (ordIs ns).2 i h
theorem ordN_len (ns : List (List UInt8)) : (ordN ns).length = ns.length := (ordIs ns).1
theorem getG {l : List GV} {i : Nat} (h : i < l.length) : l.getD i gv0 = l[i] := by simp [List.getD, List.getElem?_eq_getElem h]

theorem Own4.cone {w : World} {b : Nat} {x y z u : Value} (h : Own4 w b x y z u) : (∀ n : Cone w, n.out.cell? ⟨b, 0, none⟩ = some x) ∧ (∀ n : Cone w, n.out.cell? ⟨b, 1, none⟩ = some y) ∧ (∀ n : Cone w, n.out.cell? ⟨b, 2, none⟩ = some z) ∧ (∀ n : Cone w, n.out.cell? ⟨b, 3, none⟩ = some u) :=
  ⟨fun n => (h.only n.only).all.1.1, fun n => (h.only n.only).all.1.2.1, fun n => (h.only n.only).all.1.2.2.1, fun n => (h.only n.only).all.1.2.2.2⟩
theorem cell_cone {w : World} {a : Addr} {v : Value} (h : w.cell? a = some v) : ∀ n : Cone w, n.out.cell? a = some v := fun n => cell_only h n.only

set_option maxRecDepth 100000 in
set_option maxHeartbeats 6400000 in
theorem sameMembers_any {f : GV → GV → Bool} {k k2 : Int} {t t2 : List UInt8} {l l2 : List GV} {ns ns2 : List (List UInt8)} {a b : Value} {w : World} (hx : GIn w (.mk k t l ns) a) (hy : GIn w (.mk k2 t2 l2 ns2) b) (sx : Slim (.mk k t l ns)) (sy : Slim (.mk k2 t2 l2 ns2))
    (ih : ∀ i j (h : i < l.length) (h2 : j < l2.length) (w' : World) (a b : Value), GIn w' l[i] a → GIn w' l2[j] b → Calls Tryd.prog 13 #[a, b] w' fun e w2 => e = .returned (.bool (f l[i] l2[j])) ∧ Only w' w2) :
    Calls Tryd.prog 27 #[a, b] w fun e w' => e = .returned (.bool (if l.length ≠ l2.length ∨ ns.length ≠ ns2.length then false else memAll f l l2 ns ns2 (ordN (ns.take (min l.length ns.length))) (ordN (ns2.take (min l.length ns.length))))) ∧ Only w w' := by
  unfold Slim at sx sy
  obtain ⟨-, sx1, sx2, sx3, -⟩ := sx
  obtain ⟨-, sy1, sy2, sy3, -⟩ := sy
  unfold GIn at hx hy
  obtain ⟨L, N, rfl, ⟨sp, cap, rfl, hc⟩, hN⟩ := hx
  obtain ⟨L2, N2, rfl, ⟨sp2, cap2, rfl, hc2⟩, hN2⟩ := hy
  have hNN := hN
  have hNN2 := hN2
  obtain ⟨sq, cq, rfl, hcq, hnm⟩ := hNN
  obtain ⟨sq2, cq2, rfl, hcq2, hnm2⟩ := hNN2
  obtain ⟨W2, hW2⟩ : ∃ W2, W2 = (w.alloc (.cells #[.int .i64 k, txt t, .slice sp l.length cap, .slice sq ns.length cq] 25)).alloc (.cells #[.int .i64 k2, txt t2, .slice sp2 l2.length cap2, .slice sq2 ns2.length cq2] 25) := ⟨_, rfl⟩
  have O1 : Own4 W2 w.heap.size (.int .i64 k) (txt t) (.slice sp l.length cap) (.slice sq ns.length cq) := by
    rw [hW2]; exact (Own4.new w _ _ _ _ 25).only ((Only.refl _).alloc _)
  have O2 : Own4 W2 (w.heap.size + 1) (.int .i64 k2) (txt t2) (.slice sp2 l2.length cap2) (.slice sq2 ns2.length cq2) := by
    rw [hW2]
    have := Own4.new (w.alloc (.cells #[.int .i64 k, txt t, .slice sp l.length cap, .slice sq ns.length cq] 25)) (.int .i64 k2) (txt t2) (.slice sp2 l2.length cap2) (.slice sq2 ns2.length cq2) 25
    simpa using this
  have T2 : Only w W2 := by rw [hW2]; exact ((Only.refl w).alloc _).alloc _
  have i1 : (l.length : Int) ≤ 1000000 := by omega
  have i2 : (l2.length : Int) ≤ 1000000 := by omega
  have i3 : (ns.length : Int) ≤ 1000 := by omega
  have i4 : (ns2.length : Int) ≤ 1000 := by omega
  by_cases hne : l.length = l2.length ∧ ns.length = ns2.length
  · obtain ⟨hn1, hn2⟩ := hne
    rw [if_neg (by omega)]
    obtain ⟨m, hm⟩ : ∃ m, m = min l.length ns.length := ⟨_, rfl⟩
    rw [← hm]
    have hml : m ≤ l.length := by omega
    have hmn : m ≤ ns.length := by omega
    have em : min (l2.length : Int) (ns2.length : Int) = (m : Int) := by omega
    have R2 := Lib.hid (fun W (tW : Only w W) => risingIs (ns2.take m) (.slice sq2 m cq2) W ((hN2.take (by omega)).only tW) (by rw [List.length_take]; omega) (fun s h => sy3 s (List.mem_of_mem_take h)))
    have R1 := Lib.hid (fun W (tW : Only w W) => risingIs (ns.take m) (.slice sq m cq) W ((hN.take (by omega)).only tW) (by rw [List.length_take]; omega) (fun s h => sx3 s (List.mem_of_mem_take h)))
    obtain ⟨os, hos⟩ : ∃ os, os = ordN (ns.take m) := ⟨_, rfl⟩
    obtain ⟨os2, hos2⟩ : ∃ os2, os2 = ordN (ns2.take m) := ⟨_, rfl⟩
    rw [← hos] at R1
    rw [← hos2] at R2
    rw [← hos, ← hos2]
    have LO := Lib.hid (show os.length = m by rw [hos, ordN_len, List.length_take]; omega)
    have LO2 := Lib.hid (show os2.length = m by rw [hos2, ordN_len, List.length_take]; omega)
    have HO := Lib.hid (show ∀ i ∈ os, i < m from fun i h => by rw [hos] at h; have := ordN_in h; rw [List.length_take] at this; omega)
    have HO2 := Lib.hid (show ∀ i ∈ os2, i < m from fun i h => by rw [hos2] at h; have := ordN_in h; rw [List.length_take] at this; omega)
    obtain ⟨z, hz⟩ : ∃ z, z = memAll f l l2 ns ns2 os os2 := ⟨_, rfl⟩
    rw [← hz]
    have HZ := Lib.hid hz
    have q1 : (m : Int) ≤ (cq : Int) := by omega
    have q2 : (m : Int) ≤ (cq2 : Int) := by omega
    have q3 : (m : Int) ≤ 1000 := by omega
    have ie1 : (l.length : Int) = (l2.length : Int) := by omega
    have ie2 : (ns.length : Int) = (ns2.length : Int) := by omega
    have HML := Lib.hid hml
    have HMN := Lib.hid hmn
    have HN1 := Lib.hid hn1
    have HN2 := Lib.hid hn2
    have HC := Lib.hid hc
    have HC2 := Lib.hid hc2
    have HNM := Lib.hid hnm
    have HNM2 := Lib.hid hnm2
    have IH := Lib.hid ih
    have HO1 := Lib.hid O1
    have HOB := Lib.hid O2
    have HT2 := Lib.hid T2
    have HW2 := Lib.hid hW2
    obtain ⟨⟨x0, x1, x2, x3⟩, -⟩ := O1.all
    obtain ⟨⟨y0, y1, y2, y3⟩, -⟩ := O2.all
    rw [hW2] at x0 x1 x2 x3 y0 y1 y2 y3
    clear hn1 hn2 hm hml hmn hos hos2 hz hc hc2 hnm hnm2 ih O1 O2 T2 hN hN2 hW2 sx3 sy3 hcq hcq2
    go_enter Tryd.func27, Tryd.ntmps27
    go_wp2_with fail
    rw [← HW2.out]
    refine (R2.out _ HT2.out).mono ?_
    rintro r w3 ⟨⟨V2, rfl, s2, c2, rfl, hI2⟩, t3⟩
    have HI2 := Lib.hid hI2
    have HO3 := Lib.hid (HO1.out.only t3)
    have HOB3 := Lib.hid (HOB.out.only t3)
    have H3 := Lib.hid (HT2.out.trans t3)
    obtain ⟨⟨x0, x1, x2, x3⟩, -⟩ := HO3.out.all
    obtain ⟨⟨y0, y1, y2, y3⟩, -⟩ := HOB3.out.all
    clear hI2 t3
    go_wp2_with fail
    refine (R1.out _ H3.out).mono ?_
    rintro r w4 ⟨⟨V1, rfl, s1, c1, rfl, hI1⟩, t4⟩
    have HI1 := Lib.hid hI1
    have HO4 := Lib.hid (HO3.out.only t4)
    have HOB4 := Lib.hid (HOB3.out.only t4)
    have H4 := Lib.hid (H3.out.trans t4)
    have HI2 := Lib.hid (show os2 = [] ∨ ∃ g, s2 = some ⟨g, 0, none⟩ ∧ ∀ i (h : i < os2.length), w4.cell? ⟨g, i, none⟩ = some (.int .i64 (os2[i] : Int)) from by
      rcases HI2.out with h | ⟨g, h1, -, h2⟩
      · exact Or.inl h
      · exact Or.inr ⟨g, h1, fun i hi => cell_only (h2 i hi) t4⟩)
    have iO : (os.length : Int) ≤ 1000 := by have := LO.out; omega
    clear hI1 t4 x0 x1 x2 x3 y0 y1 y2 y3
    go_wp2_with fail
    go_loopw [44, 7, 8, 9] (fun kv _ _ _ wx => ∃ j : Nat, kv = .int .i64 (j : Int) ∧ j ≤ os.length ∧ Only w4 wx ∧ Hid (z = memAll f l l2 ns ns2 (os.drop j) (os2.drop j))) (fun kv _ _ _ _ => os.length - (intOf kv).toNat)
    case atStart => exact ⟨0, rfl, Nat.zero_le _, Only.refl _, Lib.hid (by simpa using HZ.out)⟩
    case round =>
      obtain ⟨j, rfl, hj, ht, hzj⟩ := hrel
      have HT := Lib.hid ht
      clear ht
      by_cases hlt : j < os.length
      · have hlt2 : j < os2.length := by have := LO.out; have := LO2.out; omega
        have ij : (j : Int) < (os.length : Int) := by omega
        have ij2 : (j : Int) < (os2.length : Int) := by omega
        have hst := memAll_drop f l l2 ns ns2 hlt hlt2
        have hi1 := HO.out _ (List.getElem_mem hlt)
        have hi2 := HO2.out _ (List.getElem_mem hlt2)
        rcases HI1.out with h0 | ⟨ga, rfl, -, hca⟩
        · rw [h0] at hlt; simp at hlt
        rcases HI2.out with h0 | ⟨gb, rfl, hcb⟩
        · rw [h0] at hlt2; simp at hlt2
        have oa := cell_only (hca j hlt) HT.out
        have ob := cell_only (hcb j hlt2) HT.out
        obtain ⟨i, hi⟩ : ∃ i, i = os[j] := ⟨_, rfl⟩
        obtain ⟨p, hp⟩ : ∃ p, p = os2[j] := ⟨_, rfl⟩
        rw [← hi] at hst oa hi1
        rw [← hp] at hst ob hi2
        have bl : i < l.length := by have := HML.out; omega
        have bn : i < ns.length := by have := HMN.out; omega
        have bl2 : p < l2.length := by have := HML.out; have := HN1.out; omega
        have bn2 : p < ns2.length := by have := HMN.out; have := HN2.out; omega
        have b1 : (i : Int) < (l.length : Int) := by omega
        have b2 : (i : Int) < (ns.length : Int) := by omega
        have b3 : (p : Int) < (l2.length : Int) := by omega
        have b4 : (p : Int) < (ns2.length : Int) := by omega
        have hWr := H4.out.trans HT.out
        rcases HC.out with h0 | ⟨g, off, rfl, hcell⟩
        · rw [h0] at bl; simp at bl
        rcases HC2.out with h0 | ⟨g2, off2, rfl, hcell2⟩
        · rw [h0] at bl2; simp at bl2
        rcases HNM.out with h0 | ⟨gn, offn, rfl, hncell⟩
        · rw [h0] at bn; simp at bn
        rcases HNM2.out with h0 | ⟨gn2, offn2, rfl, hncell2⟩
        · rw [h0] at bn2; simp at bn2
        obtain ⟨c0', c1', c2', c3', ⟨q0, q1, q2, q3⟩, hgx⟩ := GCells.at_ (GCells.only hWr l hcell) i bl
        obtain ⟨k9, t9, sp9, n9, m9, sq9, u9, v9, rfl, rfl, rfl, rfl⟩ := GIn.shape hgx
        obtain ⟨d0, d1, d2, d3, ⟨y0, y1, y2, y3⟩, hgy⟩ := GCells.at_ (GCells.only hWr l2 hcell2) p bl2
        obtain ⟨k8, t8, sp8, n8, m8, sq8, u8, v8, rfl, rfl, rfl, rfl⟩ := GIn.shape hgy
        have nc := cell_only (hncell i bn) hWr
        have nd := cell_only (hncell2 p bn2) hWr
        rw [getD_in bn, getD_in bn2, getG bl, getG bl2] at hst
        obtain ⟨na, hna⟩ : ∃ na, na = ns[i] := ⟨_, rfl⟩
        obtain ⟨nb, hnb⟩ : ∃ nb, nb = ns2[p] := ⟨_, rfl⟩
        rw [← hna] at nc hst
        rw [← hnb] at nd hst
        have C := fun n : Cone wr => IH.out i p bl bl2 n.out _ _ (GIn.only n.only _ hgx) (GIn.only n.only _ hgy)
        obtain ⟨u, hu⟩ : ∃ u, u = f l[i] l2[p] := ⟨_, rfl⟩
        rw [← hu] at C hst
        have HST := Lib.hid hst
        have e1 : (⟨g, off, none⟩ : Addr).add (i * 4) = ⟨g, off + i * 4, none⟩ := add_at _ _ _
        have e2 : (⟨g2, off2, none⟩ : Addr).add (p * 4) = ⟨g2, off2 + p * 4, none⟩ := add_at _ _ _
        have e3 := add_at gn offn i
        have e4 := add_at gn2 offn2 p
        have e5 := add_at0 ga j
        have e6 := add_at0 gb j
        have z0 := cell_cone q0
        have z1 := cell_cone q1
        have z2 := cell_cone q2
        have z3 := cell_cone q3
        have z4 := cell_cone y0
        have z5 := cell_cone y1
        have z6 := cell_cone y2
        have z7 := cell_cone y3
        have z8 := cell_cone nc
        have z9 := cell_cone nd
        obtain ⟨r0, r1, r2, r3⟩ := (HO4.out.only HT.out).cone
        obtain ⟨r4, r5, r6, r7⟩ := (HOB4.out.only HT.out).cone
        clear hst hgx hgy hcell hcell2 hncell hncell2 hna hnb hu hi hp hca hcb hWr q0 q1 q2 q3 y0 y1 y2 y3 nc nd hi1 hi2 bl bl2 bn bn2
        cases hab : (na == nb)
        · have hab2 : (na != nb) = true := by simp [bne, hab]
          go_wp2_with fail
          refine wp_region_cone (by kernel_rfl) (by kernel_rfl) ?_
          repeat (any_goals (first | go_big_quiet_step ((go_at_call 13; with_reducible exact Cone.call (C _))) | quiet_step ((go_at_call 13; with_reducible exact Cone.call (C _)))))
          refine wpQuiet_nil ?_
          rintro w6 ⟨⟨_, t6⟩, rfl⟩
          go_wp2_with fail
          go_ret
          have hf : z = false := by rw [hzj.out, HST.out, hab]; rfl
          exact ⟨by rw [hf]; rfl, (H4.out.trans HT.out).trans t6⟩
        · have hab2 : (na != nb) = false := by simp [bne, hab]
          cases u
          · go_wp2_with fail
            refine wp_region_cone (by kernel_rfl) (by kernel_rfl) ?_
            repeat (any_goals (first | go_big_quiet_step ((go_at_call 13; with_reducible exact Cone.call (C _))) | quiet_step ((go_at_call 13; with_reducible exact Cone.call (C _)))))
            refine wpQuiet_nil ?_
            rintro w6 ⟨⟨_, t6⟩, rfl⟩
            go_wp2_with fail
            go_ret
            have hf : z = false := by rw [hzj.out, HST.out, hab]; rfl
            exact ⟨by rw [hf]; rfl, (H4.out.trans HT.out).trans t6⟩
          · go_wp2_with fail
            refine wp_region_cone (by kernel_rfl) (by kernel_rfl) ?_
            repeat (any_goals (first | go_big_quiet_step ((go_at_call 13; with_reducible exact Cone.call (C _))) | quiet_step ((go_at_call 13; with_reducible exact Cone.call (C _)))))
            refine wpQuiet_nil ?_
            rintro w6 ⟨⟨_, t6⟩, rfl⟩
            have HT6 := Lib.hid (HT.out.trans t6)
            clear t6
            go_wp2_with fail
            go_roundw
            case rel => exact ⟨j + 1, by push_cast; rfl, hlt, HT6.out, Lib.hid (by rw [hzj.out, HST.out, hab]; rfl)⟩
            case measure => simp [intOf]; omega
      · have hje : j = os.length := by omega
        have ij : ¬ (j : Int) < (os.length : Int) := by omega
        have hf : z = true := by rw [hzj.out, hje]; exact memAll_end f l l2 ns ns2
        subst hf
        go_wp2_with fail
        go_ret
        exact ⟨rfl, H4.out.trans HT.out⟩
  · have hb : (l.length ≠ l2.length ∨ ns.length ≠ ns2.length) := by omega
    rw [if_pos hb]
    obtain ⟨⟨x0, x1, x2, x3⟩, -⟩ := O1.all
    obtain ⟨⟨y0, y1, y2, y3⟩, -⟩ := O2.all
    have HT2 := Lib.hid T2
    rw [hW2] at x0 x1 x2 x3 y0 y1 y2 y3 HT2
    clear O1 O2 T2 hW2 hN hN2 hc hc2 hnm hnm2 ih sx3 sy3 hcq hcq2
    by_cases h1 : l.length = l2.length
    · have d1 : ((l.length : Int) != (l2.length : Int)) = false := by simp [h1]
      have d3 : (l.length : Int) = (l2.length : Int) := by omega
      have d2 : ((ns.length : Int) != (ns2.length : Int)) = true := by rw [bne_iff_ne]; omega
      have d4 : ¬ (ns.length : Int) = (ns2.length : Int) := by omega
      go_enter Tryd.func27, Tryd.ntmps27
      go_wp2_with fail
      go_ret
      exact ⟨rfl, by have h := HT2.out; rw [h1] at h; exact h⟩
    · have d1 : ((l.length : Int) != (l2.length : Int)) = true := by rw [bne_iff_ne]; omega
      have d3 : ¬ (l.length : Int) = (l2.length : Int) := by omega
      go_enter Tryd.func27, Tryd.ntmps27
      go_wp2_with fail
      go_ret
      exact ⟨rfl, HT2.out⟩

set_option maxRecDepth 100000 in
set_option maxHeartbeats 3200000 in
theorem same_step {n : Nat} {k k2 : Int} {t t2 : List UInt8} {l l2 : List GV} {ns ns2 : List (List UInt8)} {a b : Value} {w : World} (hx : GIn w (.mk k t l ns) a) (hy : GIn w (.mk k2 t2 l2 ns2) b) (sx : Slim (.mk k t l ns)) (sy : Slim (.mk k2 t2 l2 ns2))
    (ih : ∀ i j (h : i < l.length) (h2 : j < l2.length) (w' : World) (a b : Value), GIn w' l[i] a → GIn w' l2[j] b → Calls Tryd.prog 13 #[a, b] w' fun e w2 => e = .returned (.bool (sameG n l[i] l2[j])) ∧ Only w' w2) :
    Calls Tryd.prog 13 #[a, b] w fun e w' => e = .returned (.bool (sameG (n + 1) (.mk k t l ns) (.mk k2 t2 l2 ns2))) ∧ Only w w' := by
  have sx' := sx
  have sy' := sy
  unfold Slim at sx' sy'
  obtain ⟨a1, a2, -, -, -⟩ := sx'
  obtain ⟨a3, a4, -, -, -⟩ := sy'
  have hx' := hx
  have hy' := hy
  unfold GIn at hx' hy'
  obtain ⟨L, N, rfl, ⟨sp, cap, rfl, hc⟩, sq, cq, rfl, -, -⟩ := hx'
  obtain ⟨L2, N2, rfl, ⟨sp2, cap2, rfl, hc2⟩, sq2, cq2, rfl, -, -⟩ := hy'
  obtain ⟨W2, hW2⟩ : ∃ W2, W2 = (w.alloc (.cells #[.int .i64 k, txt t, .slice sp l.length cap, .slice sq ns.length cq] 25)).alloc (.cells #[.int .i64 k2, txt t2, .slice sp2 l2.length cap2, .slice sq2 ns2.length cq2] 25) := ⟨_, rfl⟩
  have O1 : Own4 W2 w.heap.size (.int .i64 k) (txt t) (.slice sp l.length cap) (.slice sq ns.length cq) := by
    rw [hW2]; exact (Own4.new w _ _ _ _ 25).only ((Only.refl _).alloc _)
  have O2 : Own4 W2 (w.heap.size + 1) (.int .i64 k2) (txt t2) (.slice sp2 l2.length cap2) (.slice sq2 ns2.length cq2) := by
    rw [hW2]
    have := Own4.new (w.alloc (.cells #[.int .i64 k, txt t, .slice sp l.length cap, .slice sq ns.length cq] 25)) (.int .i64 k2) (txt t2) (.slice sp2 l2.length cap2) (.slice sq2 ns2.length cq2) 25
    simpa using this
  have T2 : Only w W2 := by rw [hW2]; exact ((Only.refl w).alloc _).alloc _
  have E := Lib.hid (equalFunc_any (f := sameG n) (show ElemsIn W2 (.slice sp l.length cap) l from ElemsIn.only ⟨sp, cap, rfl, hc⟩ T2) (show ElemsIn W2 (.slice sp2 l2.length cap2) l2 from ElemsIn.only ⟨sp2, cap2, rfl, hc2⟩ T2) a2 a4 (fun i h h2 => ih i i h h2))
  have M := Lib.hid (sameMembers_any (f := sameG n) (GIn.only T2 _ hx) (GIn.only T2 _ hy) sx sy ih)
  obtain ⟨⟨x0, x1, x2, x3⟩, -⟩ := O1.all
  obtain ⟨⟨y0, y1, y2, y3⟩, -⟩ := O2.all
  have HT2 := Lib.hid T2
  have HW2 := Lib.hid hW2
  rw [hW2] at x0 x1 x2 x3 y0 y1 y2 y3
  clear O1 O2 T2 hx hy sx sy ih hc hc2 hW2 a1 a2 a3 a4
  by_cases hk : k = k2
  · subst hk
    have hkb : ¬ ((k : Int) ≠ k) := fun h => h rfl
    by_cases h3 : k = 3
    · subst h3
      have e : sameG (n + 1) (.mk 3 t l ns) (.mk 3 t2 l2 ns2) = (t == t2) := by simp [sameG]
      rw [e]
      obtain ⟨z, hz⟩ : ∃ z, z = (t == t2) := ⟨_, rfl⟩
      rw [← hz]
      have hz2 := hz.symm
      clear hz e
      go_enter Tryd.func13, Tryd.ntmps13
      go_wp2_with fail
      go_ret
      exact ⟨rfl, by rw [← HW2.out]; exact HT2.out⟩
    by_cases h4 : k = 4
    · subst h4
      have e : sameG (n + 1) (.mk 4 t l ns) (.mk 4 t2 l2 ns2) = (t == t2) := by simp [sameG]
      rw [e]
      obtain ⟨z, hz⟩ : ∃ z, z = (t == t2) := ⟨_, rfl⟩
      rw [← hz]
      have hz2 := hz.symm
      clear hz e
      go_enter Tryd.func13, Tryd.ntmps13
      go_wp2_with fail
      go_ret
      exact ⟨rfl, by rw [← HW2.out]; exact HT2.out⟩
    by_cases h5 : k = 5
    · subst h5
      have e : sameG (n + 1) (.mk 5 t l ns) (.mk 5 t2 l2 ns2) = (l.length == l2.length && eqAll (sameG n) l l2) := by simp [sameG]
      rw [e]
      obtain ⟨z, hz⟩ : ∃ z, z = (l.length == l2.length && eqAll (sameG n) l l2) := ⟨_, rfl⟩
      rw [← hz] at E ⊢
      clear hz e
      go_enter Tryd.func13, Tryd.ntmps13
      go_wp2_with fail
      rw [← HW2.out]
      refine E.out.mono ?_
      rintro r w3 ⟨rfl, t3⟩
      go_wp2_with fail
      go_ret
      exact ⟨rfl, HT2.out.trans t3⟩
    by_cases h6 : k = 6
    · subst h6
      have e : sameG (n + 1) (.mk 6 t l ns) (.mk 6 t2 l2 ns2) = (if l.length ≠ l2.length ∨ ns.length ≠ ns2.length then false else memAll (sameG n) l l2 ns ns2 (ordN (ns.take (min l.length ns.length))) (ordN (ns2.take (min l.length ns.length)))) := by simp [sameG]
      rw [e]
      obtain ⟨z, hz⟩ : ∃ z, z = (if l.length ≠ l2.length ∨ ns.length ≠ ns2.length then false else memAll (sameG n) l l2 ns ns2 (ordN (ns.take (min l.length ns.length))) (ordN (ns2.take (min l.length ns.length)))) := ⟨_, rfl⟩
      rw [← hz] at M ⊢
      clear hz e
      go_enter Tryd.func13, Tryd.ntmps13
      go_wp2_with fail
      rw [← HW2.out]
      refine M.out.mono ?_
      rintro r w3 ⟨rfl, t3⟩
      go_wp2_with fail
      go_ret
      exact ⟨rfl, HT2.out.trans t3⟩
    · have e : sameG (n + 1) (.mk k t l ns) (.mk k t2 l2 ns2) = true := by simp [sameG, h3, h4, h5, h6]
      rw [e]
      have b3 : (k == 3) = false := by simpa using h3
      have b4 : (k == 4) = false := by simpa using h4
      have b5 : (k == 5) = false := by simpa using h5
      have b6 : (k == 6) = false := by simpa using h6
      clear e
      go_enter Tryd.func13, Tryd.ntmps13
      go_wp2_with fail
      go_ret
      exact ⟨rfl, by rw [← HW2.out]; exact HT2.out⟩
  · have e : sameG (n + 1) (.mk k t l ns) (.mk k2 t2 l2 ns2) = false := by simp [sameG, hk]
    rw [e]
    have b1 : (k != k2) = true := by rw [bne_iff_ne]; exact hk
    clear e
    go_enter Tryd.func13, Tryd.ntmps13
    go_wp2_with fail
    go_ret
    exact ⟨rfl, by rw [← HW2.out]; exact HT2.out⟩

/-- the whole of Same -/
theorem same_any : ∀ (n : Nat) (x y : GV) (w : World) (a b : Value), SizeOf.sizeOf x < n → GIn w x a → GIn w y b → Slim x → Slim y → Calls Tryd.prog 13 #[a, b] w fun e w' => e = .returned (.bool (sameG n x y)) ∧ Only w w'
  | 0, x, y, w, a, b, h, _, _, _, _ => absurd h (Nat.not_lt_zero _)
  | n + 1, .mk k t l ns, .mk k2 t2 l2 ns2, w, a, b, h, hx, hy, sx, sy => by
    have sx' := sx
    have sy' := sy
    unfold Slim at sx' sy'
    refine same_step hx hy sx sy (fun i j hi hj w' a b ha hb => same_any n l[i] l2[j] w' a b ?_ ha hb (sx'.2.2.2.2.at_ i hi) (sy'.2.2.2.2.at_ j hj))
    have := List.sizeOf_lt_of_mem (List.getElem_mem hi)
    simp at h
    omega
end Go.Proofs.YtdhkpkojnokjdaaDoor
