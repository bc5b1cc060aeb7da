/-
  Values as they are read; an array's elements.
-/
import Derived.Test.YtdhkpkojnokjdaaDoorJName
namespace Go.Proofs.YtdhkpkojnokjdaaDoor
open Go.RowKit Go.Shelf
set_option linter.unusedVariables false
set_option linter.unusedSimpArgs false

mutual
/-- a value, n steps deep at most -/
def valueE (s : List UInt8) : Nat → Nat → Nat → Nat → Rs JV
  | 0, p, depth, ahead => .bad p 99
  | n + 1, p, depth, ahead => (kindE s p).bind fun k q => (limE s q k depth ahead).bind fun _ q =>
    if k = 0 then (wordE s [110, 117, 108, 108] q).bind fun _ r => .ok (.plain 0) r
    else if k = 1 then (wordE s [102, 97, 108, 115, 101] q).bind fun _ r => .ok (.plain 1) r
    else if k = 2 then (wordE s [116, 114, 117, 101] q).bind fun _ r => .ok (.plain 2) r
    else if k = 3 then (literalE s q).bind fun t r => .ok (.num t) r
    else if k = 4 then (quotedE s q).bind fun t r => .ok (.str t) r
    else if k = 5 then ((endsE 93 s (q + 1)).bind fun b r => if b = true then .ok [] r else elemE s n r (depth + 1) []).bind fun l t => .ok (.arr l) t
    else ((endsE 125 s (q + 1)).bind fun b r => if b = true then .ok ([], []) r else membE s n r (depth + 1) [] []).bind fun m t => .ok (.obj m.1 m.2) t
def elemE (s : List UInt8) : Nat → Nat → Nat → List JV → Rs (List JV)
  | 0, p, depth, acc => .bad p 99
  | n + 1, p, depth, acc => (valueE s n p depth acc.length).bind fun x q => (endsE 93 s q).bind fun b r => if b = true then .ok (acc ++ [x]) r else (markE 44 s r).bind fun _ t => elemE s n t depth (acc ++ [x])
def membE (s : List UInt8) : Nat → Nat → Nat → List (List UInt8) → List JV → Rs (List (List UInt8) × List JV)
  | 0, p, depth, ns, acc => .bad p 99
  | n + 1, p, depth, ns, acc => (nameE s p ns).bind fun t q => (markE 58 s q).bind fun _ q2 => (valueE s n q2 depth 0).bind fun x q3 => (endsE 125 s q3).bind fun b r =>
    if b = true then .ok (ns ++ [t], acc ++ [x]) r else (markE 44 s r).bind fun _ t2 => membE s n t2 depth (ns ++ [t]) (acc ++ [x])
end

theorem limE_at {s : List UInt8} {p k depth ahead q : Nat} {u : Unit} (h : limE s p k depth ahead = .ok u q) : q = p ∧ ahead < 1000 ∧ ((k = 5 ∨ k = 6) → depth < 32) := by
  unfold limE at h
  split at h
  · simp at h
  · split at h
    · simp at h
    · rename_i h2
      split at h
      · simp at h
      · rename_i h3
        simp only [Rs.ok.injEq] at h
        refine ⟨h.2.symm, by simpa using h3, fun hk => ?_⟩
        simp at h2
        rcases hk with rfl | rfl
        · simpa using h2
        · simpa using h2
theorem valueE_ahead {s : List UInt8} {n p depth ahead q : Nat} {x : JV} (h : valueE s n p depth ahead = .ok x q) : ahead < 1000 := by
  cases n with
  | zero => unfold valueE at h; simp at h
  | succ n =>
    unfold valueE at h
    cases h1 : kindE s p with
    | bad a b => rw [h1] at h; simp [Rs.bind] at h
    | ok k q1 =>
      rw [h1] at h
      simp only [Rs.bind] at h
      cases h2 : limE s q1 k depth ahead with
      | bad a b => rw [h2] at h; simp at h
      | ok u q2 => exact (limE_at h2).2.1

/-- the contract of value, n steps deep -/
def ValIs (D : ByteArray) (R n : Nat) : Prop := ∀ (p depth ahead : Nat) (w : World), RdAt w R D p → p ≤ D.size → Tb w → depth ≤ 32 → ahead ≤ 1000000 → (∀ a, valueE D.data.toList n p depth ahead ≠ .bad a 99) →
  Calls Tryd.prog 24 #[.pointer (some ⟨R, 0, none⟩), .int .i64 (depth : Int), .int .i64 (ahead : Int)] w (Post w R D (fun x v w' => VRep w' x (fun i => w.heap.size ≤ i) v) (valueE D.data.toList n p depth ahead))

theorem cells_four (w : World) (a b c d : Value) (t : TypeId) : ∀ j u, [a, b, c, d][j]? = some u → (w.alloc (.cells #[a, b, c, d] t)).cell? ⟨w.heap.size, j, none⟩ = some u := by
  intro j u hj
  rw [cell_new]
  simpa using hj

theorem ListAt.form {w : World} {B : Nat} {L N : Value} {acc : List JV} {xs : List Value} (h : ListAt w B L N acc xs) : ∃ sp cap, L = .slice sp acc.length cap := by
  rcases h.1.1.2 with ⟨e, h0⟩ | ⟨g, cap, cur, e, _⟩
  · exact ⟨none, 0, by rw [e, h0]⟩
  · exact ⟨_, cap, e⟩

set_option maxRecDepth 100000 in
set_option maxHeartbeats 6400000 in
theorem elements_any {D : ByteArray} {R p n depth : Nat} {w : World} (IH : ∀ m, m < n → ValIs D R m) (h : RdAt w R D p) (hp : p < D.size) (hl : D.size ≤ 1000000) (hT : Tb w) (hR0 : R ≠ 0) (hR1 : R ≠ 1) (hd : depth ≤ 32)
    (hst : ∀ a, ((endsE 93 D.data.toList (p + 1)).bind fun b r => if b = true then .ok [] r else elemE D.data.toList n r depth []) ≠ .bad a 99) :
    Calls Tryd.prog 42 #[.pointer (some ⟨R, 0, none⟩), .int .i64 (depth : Int)] w (Post w R D (fun l v w' => ∃ xs, ListAt w' w.heap.size v nilS l xs) ((endsE 93 D.data.toList (p + 1)).bind fun b r => if b = true then .ok [] r else elemE D.data.toList n r depth [])) := by
  obtain ⟨full, hfull⟩ : ∃ full, full = ((endsE 93 D.data.toList (p + 1)).bind fun b r => if b = true then .ok [] r else elemE D.data.toList n r depth []) := ⟨_, rfl⟩
  rw [← hfull] at hst ⊢
  have HF := Lib.hid hfull
  have HST := Lib.hid hst
  obtain ⟨B, hB⟩ : ∃ B, B = w.heap.size := ⟨_, rfl⟩
  have hR : R < B := by rw [hB]; exact h.lt
  have HBE := Lib.hid hB
  obtain ⟨g0, g1⟩ := hT.size
  rw [← hB] at g0 g1 ⊢
  have G0 := Lib.hid (And.intro g0 g1)
  have TBW := Lib.hid hT
  obtain ⟨y1, y2, y3, y4, y5⟩ := h.all
  have r1 := h.put1 (.int .i64 ((p + 1 : Nat) : Int))
  have EN := ends_any (c := 93) r1 hp hl
  have t1 := but_set R w 1 (.int .i64 ((p + 1 : Nat) : Int))
  have T1 := hT.turn t1 (fun e => hR0 e.symm) (fun e => hR1 e.symm)
  have ip : (p : Int) < 1000000 := by omega
  obtain ⟨u, hu⟩ : ∃ u, u = endsE 93 D.data.toList (p + 1) := ⟨_, rfl⟩
  rw [← hu] at EN hfull
  have HF2 := Lib.hid hfull
  have HT1 := Lib.hid t1
  have HTB := Lib.hid T1
  have IH := Lib.hid IH
  have hcast : ((p + 1 : Nat) : Int) = (p : Int) + 1 := rfl
  rw [hcast] at EN HT1 HTB
  clear hfull hu h hT hst hB g0 g1 r1 t1 T1 hcast HF
  go_enter Tryd.func42, Tryd.ntmps42
  go_wp2_with fail
  go_at_call 56
  refine EN.mono ?_
  intro e w2 hP
  rcases hP.cases with ⟨b, q, v, rfl, hq, rfl, rfl, r2, t2⟩ | ⟨a, b, a', rfl, rfl, hk, t2⟩
  · have HT2 := Lib.hid (HT1.out.then_ t2)
    have HTB2 := Lib.hid (HTB.out.turn t2 (fun e => hR0 e.symm) (fun e => hR1 e.symm))
    have HR2 := Lib.hid r2
    clear hP EN r2 t2
    cases b
    · have HK := Lib.hid (HF2.out.trans rfl)
      clear HF2
      go_wp2_with fail
      go_loopg [5] n (fun g v wr => ∃ (m q : Nat) (acc : List JV) (xs : List Value), ListAt wr B v nilS acc xs ∧ q ≤ D.size ∧ m ≤ g ∧ m ≤ n ∧ acc.length ≤ 1000 ∧ RdAt wr R D q ∧ ButO R B w wr ∧ full = elemE D.data.toList m q depth acc)
      case atStart => exact ⟨n, q, [], [], ListAt.nil _ _ _, hq, Nat.le_refl _, Nat.le_refl _, by simp, HR2.out, HT2.out.own B, HK.out⟩
      case round =>
        obtain ⟨m, q, acc, xs, hL, hq, hg, hmn, hac, hr, ht, hu⟩ := hrel
        cases m with
        | zero => exact absurd hu (by have := HST.out q; unfold elemE; exact this)
        | succ m =>
          obtain ⟨sp, cap, rfl⟩ := hL.form
          have hsz := ht.size
          have hTb : Tb wr := TBW.out.turn ht (by have := G0.out; omega) (by have := G0.out; omega)
          have hu2 : full = (valueE D.data.toList m q depth acc.length).bind fun x q => (endsE 93 D.data.toList q).bind fun b r => if b = true then .ok (acc ++ [x]) r else (markE 44 D.data.toList r).bind fun _ t => elemE D.data.toList m t depth (acc ++ [x]) := by rw [hu]; conv => lhs; unfold elemE
          have hah : ∀ x q', valueE D.data.toList m q depth acc.length = .ok x q' → acc.length < 1000 := fun x q' h => valueE_ahead h
          have V := IH.out m (by omega) q depth acc.length wr hr hq hTb hd (by omega) (fun a e => HST.out a (by rw [hu2, e]; rfl))
          obtain ⟨u, hue⟩ : ∃ u, u = valueE D.data.toList m q depth acc.length := ⟨_, rfl⟩
          rw [← hue] at V hu2 hah
          have HU := Lib.hid hu2
          have HAH := Lib.hid hah
          have HL := Lib.hid hL
          have HT := Lib.hid ht
          have hRw := hr.lt
          have hG := And.intro hg (And.intro hmn hac)
          have HG := Lib.hid hG
          clear hu2 hah hue hu hL ht hr hTb hG
          go_wp2_with fail
          go_at_call 24
          refine V.mono ?_
          intro e w3 hP
          rcases hP.cases with ⟨x, q3, v, rfl, hq3, rfl, hv, r3, t3⟩ | ⟨a, b, a', rfl, rfl, hk, t3⟩
          · have hu3 := HU.out.trans rfl
            have hac2 := HAH.out x q3 rfl
            obtain ⟨kk, tt, La, Na, rfl, ⟨la1, la2, la3, rfl⟩, ⟨na1, na2, na3, rfl⟩⟩ := hv.form
            have hsz3 := t3.size
            have HV := Lib.hid (VRep.turn (Only.alloc (Only.refl w3) (.cells #[.int .i64 (kk : Int), txt tt, .slice la1 la2 la3, .slice na1 na2 na3] 25)).turn x (fun _ _ q => q) hv)
            have HL3 := Lib.hid ((HL.out.but t3 hR).only ((Only.refl w3).alloc (.cells #[.int .i64 (kk : Int), txt tt, .slice la1 la2 la3, .slice na1 na2 na3] 25)))
            have HR3 := Lib.hid (r3.alloc (.cells #[.int .i64 (kk : Int), txt tt, .slice la1 la2 la3, .slice na1 na2 na3] 25))
            have HT3 := Lib.hid (Turn.alloc (HT.out.then_ (t3.own B)) (.cells #[.int .i64 (kk : Int), txt tt, .slice la1 la2 la3, .slice na1 na2 na3] 25))
            have HC := Lib.hid (cells_four w3 (.int .i64 (kk : Int)) (txt tt) (.slice la1 la2 la3) (.slice na1 na2 na3) 25)
            have HLb := Lib.hid (fun g hg => (HL.out.1.1.lt g hg).2 : ∀ g, (Value.slice sp acc.length cap).ownBlock = some g → g < wr.heap.size)
            have HU3 := Lib.hid hu3
            clear hP V HU HAH hv r3 t3 hu3
            go_wp2_with (at_builtin; refine append_jv rfl (.tmp 15) (.tmp 21) rfl (.int .i64 (kk : Int)) (txt tt) (.slice la1 la2 la3) (.slice na1 na2 na3) rfl rfl HL3.out.1.1 HC.out (by intro u hu; simp only [List.mem_cons, List.not_mem_nil, or_false] at hu; rcases hu with rfl | rfl | rfl | rfl <;> rfl) (by have := HG.out; omega) ?_)
            intro L5 w5 hown5 hgr5 hat5
            have hL5 := HL3.out.snoc (m := wr.heap.size) HV.out (by have := HBE.out; omega) HLb.out (fun g hg => by cases hg) (by simp; omega) hgr5 (by simpa using hat5) hown5
            have hr5 : RdAt w5 R D q3 := by
              obtain ⟨ty, hh⟩ := HR3.out
              refine ⟨ty, (hgr5.block R (Array.getElem?_eq_some_iff.1 hh).1 (fun e => ?_)).trans hh⟩
              have hh2 : B ≤ R := HL3.out.1.2 R e.symm
              omega
            have ht5 := ButO.then_ HT3.out (grown_own hgr5 (fun g hg => HL3.out.1.2 g hg))
            have hEN := ends_any (c := 93) hr5 hq3 hl
            obtain ⟨u, hue⟩ : ∃ u, u = endsE 93 D.data.toList q3 := ⟨_, rfl⟩
            have hu5 : full = u.bind fun b r => if b = true then .ok (acc ++ [x]) r else (markE 44 D.data.toList r).bind fun _ t => elemE D.data.toList m t depth (acc ++ [x]) := by rw [hue]; exact HU3.out
            rw [← hue] at hEN
            have HL5 := Lib.hid hL5
            have HR5 := Lib.hid hr5
            have HT5 := Lib.hid ht5
            have HU5 := Lib.hid hu5
            clear hL5 hr5 ht5 hown5 hgr5 hat5 HL3 HV HR3 HT3 HC HU3 hue hu5
            go_wp2_with fail
            go_at_call 56
            refine hEN.mono ?_
            intro e w6 hP
            rcases hP.cases with ⟨b, q6, v, rfl, hq6, rfl, rfl, r6, t6⟩ | ⟨a, b, a', rfl, rfl, hk, t6⟩
            · have HT6 := Lib.hid (HT5.out.then_ (t6.own B))
              have HL6 := Lib.hid (HL5.out.but t6 hR)
              have HR6 := Lib.hid r6
              have hu6 := HU5.out.trans rfl
              clear hP hEN r6 t6 HU5
              cases b
              · have hu7 : full = (markE 44 D.data.toList q6).bind fun _ t => elemE D.data.toList m t depth (acc ++ [x]) := hu6
                have MK := mark_any (c := 44) HR6.out hq6 hl
                obtain ⟨u, hue⟩ : ∃ u, u = markE 44 D.data.toList q6 := ⟨_, rfl⟩
                rw [← hue] at MK hu7
                have HU7 := Lib.hid hu7
                clear hu6 hu7 hue
                go_wp2_with fail
                go_at_call 57
                refine MK.mono ?_
                intro e w7 hP
                rcases hP.cases with ⟨b, q7, v, rfl, hq7, rfl, rfl, r7, t7⟩ | ⟨a, b, a', rfl, rfl, hk, t7⟩
                · have HK7 := Lib.hid (HU7.out.trans rfl)
                  have HT7 := Lib.hid (HT6.out.then_ (t7.own B))
                  have HL7 := Lib.hid (HL6.out.but t7 hR)
                  have HR7 := Lib.hid r7
                  clear hP MK r7 t7 HU7
                  go_wp2_with fail
                  go_roundg m
                  case measure => have := HG.out; omega
                  case rel => exact ⟨m, q7, acc ++ [x], _, HL7.out, hq7, Nat.le_refl _, by have := HG.out; omega, by rw [List.length_append, List.length_singleton]; omega, HR7.out, HT7.out, HK7.out⟩
                · have HK7 := Lib.hid (HU7.out.trans rfl)
                  have HT7 := Lib.hid (HT6.out.then_ (t7.own B))
                  clear hP MK t7 HU7
                  go_wp2_with fail
                  simp [bodyPost]
                  exact post_on HK7.out (HT7.out.but (by have := HBE.out; omega)) hk
              · have HK := Lib.hid (hu6.trans (show _ = Rs.ok (acc ++ [x]) q6 from rfl))
                clear hu6
                go_wp2_with fail
                go_ret
                exact post_ok HK.out (HT6.out.but (by have := HBE.out; omega)) hq6 ⟨_, HL6.out⟩ HR6.out
            · have HK := Lib.hid (HU5.out.trans rfl)
              have HT6 := Lib.hid (HT5.out.then_ (t6.own B))
              clear hP hEN t6 HU5
              go_wp2_with fail
              simp [bodyPost]
              exact post_on HK.out (HT6.out.but (by have := HBE.out; omega)) hk
          · have HK := Lib.hid (HU.out.trans rfl)
            have HT3 := Lib.hid (HT.out.then_ (t3.own B))
            clear hP V HU HAH t3
            go_wp2_with fail
            simp [bodyPost]
            exact post_on HK.out (HT3.out.but (by have := HBE.out; omega)) hk
    · have HK := Lib.hid (HF2.out.trans rfl)
      clear HF2
      go_wp2_with fail
      go_ret
      exact post_ok HK.out HT2.out hq ⟨[], ListAt.nil _ _ _⟩ HR2.out
  · have HK := Lib.hid (HF2.out.trans rfl)
    have HT2 := Lib.hid (HT1.out.then_ t2)
    clear hP EN t2 HF2
    go_wp2_with fail
    simp [bodyPost]
    exact post_on HK.out HT2.out hk
end Go.Proofs.YtdhkpkojnokjdaaDoor
