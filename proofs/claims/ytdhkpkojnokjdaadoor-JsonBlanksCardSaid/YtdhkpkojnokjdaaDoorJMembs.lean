/-
  An object's members.
-/
import Derived.Test.YtdhkpkojnokjdaaDoorJElems
namespace Go.Proofs.YtdhkpkojnokjdaaDoor
open Go.RowKit Go.Shelf
set_option linter.unusedVariables false
set_option linter.unusedSimpArgs false

def MembRep (B : Nat) (m : List (List UInt8) × List JV) (v : Value) (w : World) : Prop := ∃ N L xs, v = .tuple #[N, L] ∧ ListAt w B L N m.2 xs ∧ NamesAt w B N m.1 ∧ m.1.length = m.2.length
theorem nameE_len {s : List UInt8} {p q : Nat} {ns : List (List UInt8)} {t : List UInt8} (h : nameE s p ns = .ok t q) : ns.length < 1000 := by
  unfold nameE at h
  cases h1 : byteE s (skipE blankL s p) with
  | bad a b => rw [h1] at h; simp [Rs.bind] at h
  | ok c r =>
    rw [h1] at h
    simp only [Rs.bind] at h
    unfold nameOf at h
    split at h
    · split at h
      · simp at h
      · rename_i h2; simpa using h2
    · simp at h
theorem NamesAt.form {w : World} {B : Nat} {N : Value} {ns : List (List UInt8)} (h : NamesAt w B N ns) : ∃ sp cap, N = .slice sp ns.length cap := by
  rcases h.1.2 with ⟨e, h0⟩ | ⟨g, cap, cur, e, _⟩
  · exact ⟨none, 0, by rw [e, h0]⟩
  · exact ⟨_, cap, e⟩
theorem rd_grown {w w' : World} {R B p : Nat} {D : ByteArray} {row : Option Nat} (h : RdAt w R D p) (hg : w.grownBy w' row) (hr : ∀ g, row = some g → B ≤ g) (hR : R < B) : RdAt w' R D p := by
  obtain ⟨ty, hh⟩ := h
  refine ⟨ty, (hg.block R (Array.getElem?_eq_some_iff.1 hh).1 (fun e => ?_)).trans hh⟩
  have hh2 : B ≤ R := hr R e.symm
  omega

set_option maxRecDepth 100000 in
set_option maxHeartbeats 12800000 in
theorem members_any {D : ByteArray} {R p n depth : Nat} {w : World} (IH : ∀ m, m < n → ValIs D R m) (h : RdAt w R D p) (hp : p < D.size) (hl : D.size ≤ 1000000) (hT : Tb w) (hR0 : R ≠ 0) (hR1 : R ≠ 1) (hd : depth ≤ 32)
    (hst : ∀ a, ((endsE 125 D.data.toList (p + 1)).bind fun b r => if b = true then .ok ([], []) r else membE D.data.toList n r depth [] []) ≠ .bad a 99) :
    Calls Tryd.prog 43 #[.pointer (some ⟨R, 0, none⟩), .int .i64 (depth : Int)] w (Post w R D (fun m v w' => MembRep w.heap.size m v w') ((endsE 125 D.data.toList (p + 1)).bind fun b r => if b = true then .ok ([], []) r else membE D.data.toList n r depth [] [])) := by
  obtain ⟨full, hfull⟩ : ∃ full, full = ((endsE 125 D.data.toList (p + 1)).bind fun b r => if b = true then .ok ([], []) r else membE D.data.toList n r depth [] []) := ⟨_, rfl⟩
  rw [← hfull] at hst ⊢
  have HST := Lib.hid hst
  obtain ⟨B, hB⟩ : ∃ B, B = w.heap.size := ⟨_, rfl⟩
  have hR : R < B := by rw [hB]; exact h.lt
  have HBE := Lib.hid hB
  obtain ⟨g0, g1⟩ := hT.size
  rw [← hB] at g0 g1 ⊢
  have G0 := Lib.hid (And.intro g0 g1)
  have TBW := Lib.hid hT
  obtain ⟨y1, y2, y3, y4, y5⟩ := h.all
  have r1 := h.put1 (.int .i64 ((p + 1 : Nat) : Int))
  have EN := ends_any (c := 125) r1 hp hl
  have t1 := but_set R w 1 (.int .i64 ((p + 1 : Nat) : Int))
  have ip : (p : Int) < 1000000 := by omega
  obtain ⟨u, hu⟩ : ∃ u, u = endsE 125 D.data.toList (p + 1) := ⟨_, rfl⟩
  rw [← hu] at EN hfull
  have HF2 := Lib.hid hfull
  have HT1 := Lib.hid t1
  have IH := Lib.hid IH
  have hcast : ((p + 1 : Nat) : Int) = (p : Int) + 1 := rfl
  rw [hcast] at EN HT1
  clear hfull hu h hT hst hB g0 g1 r1 t1 hcast
  go_enter Tryd.func43, Tryd.ntmps43
  go_wp2_with fail
  go_at_call 56
  refine EN.mono ?_
  intro e w2 hP
  rcases hP.cases with ⟨b, q, v, rfl, hq, rfl, rfl, r2, t2⟩ | ⟨a, b, a', rfl, rfl, hk, t2⟩
  · have HT2 := Lib.hid (HT1.out.then_ t2)
    have HR2 := Lib.hid r2
    clear hP EN r2 t2
    cases b
    · have HK := Lib.hid (HF2.out.trans rfl)
      clear HF2
      go_wp2_with fail
      go_loopg [6, 7] n (fun g nv v wr => ∃ (m q : Nat) (ns : List (List UInt8)) (acc : List JV) (xs : List Value), ListAt wr B v nv acc xs ∧ NamesAt wr B nv ns ∧ ns.length = acc.length ∧ q ≤ D.size ∧ m ≤ g ∧ m ≤ n ∧ acc.length ≤ 1000 ∧ RdAt wr R D q ∧ ButO R B w wr ∧ full = membE D.data.toList m q depth ns acc)
      case atStart => exact ⟨n, q, [], [], [], ListAt.nil _ _ _, NamesAt.nil _ _, rfl, hq, Nat.le_refl _, Nat.le_refl _, by simp, HR2.out, HT2.out.own B, HK.out⟩
      case round =>
        obtain ⟨m, q, ns, acc, xs, hL, hN, hlen, hq, hg, hmn, hac, hr, ht, hu⟩ := hrel
        cases m with
        | zero => exact absurd hu (by have := HST.out q; unfold membE; exact this)
        | succ m =>
          obtain ⟨sp, cap, rfl⟩ := hL.form
          obtain ⟨np, ncap, rfl⟩ := hN.form
          have hsz := ht.size
          have hTb : Tb wr := TBW.out.turn ht (by have := G0.out; omega) (by have := G0.out; omega)
          have hu2 : full = (nameE D.data.toList q ns).bind fun t q => (markE 58 D.data.toList q).bind fun _ q2 => (valueE D.data.toList m q2 depth 0).bind fun x q3 => (endsE 125 D.data.toList q3).bind fun b r =>
            if b = true then .ok (ns ++ [t], acc ++ [x]) r else (markE 44 D.data.toList r).bind fun _ t2 => membE D.data.toList m t2 depth (ns ++ [t]) (acc ++ [x]) := by rw [hu]; conv => lhs; unfold membE
          have hah : ∀ x q', nameE D.data.toList q ns = .ok x q' → ns.length < 1000 := fun x q' h => nameE_len h
          have NM := name_any hr hq hl hTb hR0 hR1 hN hR (by omega)
          obtain ⟨u, hue⟩ : ∃ u, u = nameE D.data.toList q ns := ⟨_, rfl⟩
          rw [← hue] at NM hu2 hah
          have HU := Lib.hid hu2
          have HAH := Lib.hid hah
          have HL := Lib.hid hL
          have HN := Lib.hid hN
          have HT := Lib.hid ht
          have hG := And.intro hg (And.intro hmn hac)
          have HG := Lib.hid hG
          have HLN := Lib.hid hlen
          clear hu2 hah hue hu hL ht hr hTb hG hN hg hmn hac hlen
          go_wp2_with fail
          go_at_call 58
          refine NM.mono ?_
          intro e w3 hP
          rcases hP.cases with ⟨t, q3, v, rfl, hq3, rfl, rfl, r3, t3⟩ | ⟨a, b, a', rfl, rfl, hk, t3⟩
          · have hu3 := HU.out.trans rfl
            have hac2 := HAH.out t q3 rfl
            have hsz3 := t3.size
            have HL3 := Lib.hid ((HL.out.but t3 hR).only ((Only.refl w3).alloc (.cells #[txt t] 9)))
            have HN3 := Lib.hid ((HN.out.but t3 hR).only ((Only.refl w3).alloc (.cells #[txt t] 9)))
            have HR3 := Lib.hid (r3.alloc (.cells #[txt t] 9))
            have HT3 := Lib.hid (Turn.alloc (HT.out.then_ (t3.own B)) (.cells #[txt t] 9))
            have HC : Hid ((w3.alloc (.cells #[txt t] 9)).cell? ⟨w3.heap.size, 0, none⟩ = some (txt t)) := Lib.hid (by rw [cell_new]; rfl)
            have HU3 := Lib.hid hu3
            clear hP NM HU HAH r3 t3 hu3 HL HN HT
            go_wp2_with (at_builtin; refine append_name rfl (.tmp 17) (.tmp 21) rfl ⟨t.toArray⟩ rfl rfl HN3.out.1 HC.out (by have := HG.out; have := HLN.out; omega) ?_)
            intro N5 w5 hown5 hgr5 hat5
            have hat6 : N5.ownBlock = (Value.slice np ns.length ncap).ownBlock ∨ N5.ownBlock = some (w3.alloc (.cells #[txt t] 9)).heap.size := by simpa using hat5
            have hL5 := HL3.out.beside hgr5 hat6
            have hN5 := HN3.out.snoc (by have := HBE.out; simp; omega) hat6 hown5
            have hr5 := rd_grown HR3.out hgr5 (fun g hg => HN3.out.2 g hg) hR
            have ht5 : ButO R B w w5 := ButO.then_ HT3.out (grown_own hgr5 (fun g hg => HN3.out.2 g hg))
            obtain ⟨np5, ncap5, e5⟩ := hN5.form
            rw [List.length_append, List.length_singleton] at e5
            subst e5
            have MK := mark_any (c := 58) hr5 hq3 hl
            obtain ⟨u, hue⟩ : ∃ u, u = markE 58 D.data.toList q3 := ⟨_, rfl⟩
            have hu5 : full = u.bind fun _ q2 => (valueE D.data.toList m q2 depth 0).bind fun x q3 => (endsE 125 D.data.toList q3).bind fun b r =>
              if b = true then .ok (ns ++ [t], acc ++ [x]) r else (markE 44 D.data.toList r).bind fun _ t2 => membE D.data.toList m t2 depth (ns ++ [t]) (acc ++ [x]) := by rw [hue]; exact HU3.out
            rw [← hue] at MK
            have HL5 := Lib.hid hL5
            have HN5 := Lib.hid hN5
            have HT5 := Lib.hid ht5
            have HU5 := Lib.hid hu5
            clear hL5 hN5 hr5 ht5 hown5 hgr5 hat5 HL3 HN3 HR3 HT3 HC HU3 hue hu5
            go_wp2_with fail
            go_at_call 57
            refine MK.mono ?_
            intro e w6 hP
            rcases hP.cases with ⟨b, q6, v, rfl, hq6, rfl, rfl, r6, t6⟩ | ⟨a, b, a', rfl, rfl, hk, t6⟩
            · have ht6 := HT5.out.then_ (t6.own B)
              have hsz6 := ht6.size
              have HL6 := Lib.hid (HL5.out.but t6 hR)
              have HN6 := Lib.hid (HN5.out.but t6 hR)
              have hu6 : full = (valueE D.data.toList m q6 depth 0).bind fun x q3 => (endsE 125 D.data.toList q3).bind fun b r =>
                if b = true then .ok (ns ++ [t], acc ++ [x]) r else (markE 44 D.data.toList r).bind fun _ t2 => membE D.data.toList m t2 depth (ns ++ [t]) (acc ++ [x]) := HU5.out
              have hTb6 : Tb w6 := TBW.out.turn ht6 (by have := G0.out; omega) (by have := G0.out; omega)
              have V := IH.out m (by have := HG.out; omega) q6 depth 0 w6 r6 hq6 hTb6 hd (by omega) (fun a e => HST.out a (by rw [hu6, e]; rfl))
              obtain ⟨u, hue⟩ : ∃ u, u = valueE D.data.toList m q6 depth 0 := ⟨_, rfl⟩
              rw [← hue] at V hu6
              have HU6 := Lib.hid hu6
              have HT6 := Lib.hid ht6
              clear hP MK r6 t6 HU5 hu6 ht6 hue hTb6 HL5 HN5 HT5
              go_wp2_with fail
              go_at_call 24
              refine V.mono ?_
              intro e w7 hP
              rcases hP.cases with ⟨x, q7, v, rfl, hq7, rfl, hv, r7, t7⟩ | ⟨a, b, a', rfl, rfl, hk, t7⟩
              · have hu7 := HU6.out.trans rfl
                obtain ⟨kk, tt, La, Na, rfl, ⟨la1, la2, la3, rfl⟩, ⟨na1, na2, na3, rfl⟩⟩ := hv.form
                have hsz7 := t7.size
                have HV := Lib.hid (VRep.turn (Only.alloc (Only.refl w7) (.cells #[.int .i64 (kk : Int), txt tt, .slice la1 la2 la3, .slice na1 na2 na3] 25)).turn x (fun _ _ q => q) hv)
                have HL7 := Lib.hid ((HL6.out.but t7 hR).only ((Only.refl w7).alloc (.cells #[.int .i64 (kk : Int), txt tt, .slice la1 la2 la3, .slice na1 na2 na3] 25)))
                have HN7 := Lib.hid ((HN6.out.but t7 hR).only ((Only.refl w7).alloc (.cells #[.int .i64 (kk : Int), txt tt, .slice la1 la2 la3, .slice na1 na2 na3] 25)))
                have HR7 := Lib.hid (r7.alloc (.cells #[.int .i64 (kk : Int), txt tt, .slice la1 la2 la3, .slice na1 na2 na3] 25))
                have HT7 := Lib.hid (Turn.alloc (HT6.out.then_ (t7.own B)) (.cells #[.int .i64 (kk : Int), txt tt, .slice la1 la2 la3, .slice na1 na2 na3] 25))
                have HC := Lib.hid (cells_four w7 (.int .i64 (kk : Int)) (txt tt) (.slice la1 la2 la3) (.slice na1 na2 na3) 25)
                have HLb := Lib.hid (fun g hg => (HL6.out.1.1.lt g hg).2 : ∀ g, (Value.slice sp acc.length cap).ownBlock = some g → g < w6.heap.size)
                have HNb := Lib.hid (fun g hg => (HN6.out.1.lt g hg).2 : ∀ g, (Value.slice np5 (ns.length + 1) ncap5).ownBlock = some g → g < w6.heap.size)
                have HU7 := Lib.hid hu7
                clear hP V HU6 hv r7 t7 hu7
                go_wp2_with (at_builtin; refine append_jv rfl (.tmp 25) (.tmp 29) rfl (.int .i64 (kk : Int)) (txt tt) (.slice la1 la2 la3) (.slice na1 na2 na3) rfl rfl HL7.out.1.1 HC.out (by intro u hu; simp only [List.mem_cons, List.not_mem_nil, or_false] at hu; rcases hu with rfl | rfl | rfl | rfl <;> rfl) (by have := HG.out; omega) ?_)
                intro L8 w8 hown8 hgr8 hat8
                have hL8 := HL7.out.snoc (m := w6.heap.size) HV.out (by have := HBE.out; omega) HLb.out HNb.out (by simp; omega) hgr8 (by simpa using hat8) hown8
                have hN8 := HN7.out.beside hgr8 HL7.out.2.2
                have hr8 := rd_grown HR7.out hgr8 (fun g hg => HL7.out.1.2 g hg) hR
                have ht8 : ButO R B w w8 := ButO.then_ HT7.out (grown_own hgr8 (fun g hg => HL7.out.1.2 g hg))
                have hEN := ends_any (c := 125) hr8 hq7 hl
                obtain ⟨u, hue⟩ : ∃ u, u = endsE 125 D.data.toList q7 := ⟨_, rfl⟩
                have hu8 : full = u.bind fun b r => if b = true then .ok (ns ++ [t], acc ++ [x]) r else (markE 44 D.data.toList r).bind fun _ t2 => membE D.data.toList m t2 depth (ns ++ [t]) (acc ++ [x]) := by rw [hue]; exact HU7.out
                rw [← hue] at hEN
                have HL8 := Lib.hid hL8
                have HN8 := Lib.hid hN8
                have HT8 := Lib.hid ht8
                have HU8 := Lib.hid hu8
                clear hL8 hN8 hr8 ht8 hown8 hgr8 hat8 HL7 HN7 HV HR7 HT7 HC HU7 hue hu8 HL6 HN6 HT6
                go_wp2_with fail
                go_at_call 56
                refine hEN.mono ?_
                intro e w9 hP
                rcases hP.cases with ⟨b, q9, v, rfl, hq9, rfl, rfl, r9, t9⟩ | ⟨a, b, a', rfl, rfl, hk, t9⟩
                · have HT9 := Lib.hid (HT8.out.then_ (t9.own B))
                  have HL9 := Lib.hid (HL8.out.but t9 hR)
                  have HN9 := Lib.hid (HN8.out.but t9 hR)
                  have HR9 := Lib.hid r9
                  have hu9 := HU8.out.trans rfl
                  clear hP hEN r9 t9 HU8 HL8 HN8 HT8
                  cases b
                  · have hu10 : full = (markE 44 D.data.toList q9).bind fun _ t2 => membE D.data.toList m t2 depth (ns ++ [t]) (acc ++ [x]) := hu9
                    have MK := mark_any (c := 44) HR9.out hq9 hl
                    obtain ⟨u, hue⟩ : ∃ u, u = markE 44 D.data.toList q9 := ⟨_, rfl⟩
                    rw [← hue] at MK hu10
                    have HU10 := Lib.hid hu10
                    clear hu9 hu10 hue
                    go_wp2_with fail
                    go_at_call 57
                    refine MK.mono ?_
                    intro e w10 hP
                    rcases hP.cases with ⟨b, q10, v, rfl, hq10, rfl, rfl, r10, t10⟩ | ⟨a, b, a', rfl, rfl, hk, t10⟩
                    · have HK10 := Lib.hid (HU10.out.trans rfl)
                      have HT10 := Lib.hid (HT9.out.then_ (t10.own B))
                      have HL10 := Lib.hid (HL9.out.but t10 hR)
                      have HN10 := Lib.hid (HN9.out.but t10 hR)
                      have HR10 := Lib.hid r10
                      clear hP MK r10 t10 HU10
                      go_wp2_with fail
                      go_roundg m
                      case measure => have := HG.out; omega
                      case rel => exact ⟨m, q10, ns ++ [t], acc ++ [x], _, HL10.out, HN10.out, by have := HLN.out; simp; omega, hq10, Nat.le_refl _, by have := HG.out; omega, by have := HLN.out; rw [List.length_append, List.length_singleton]; omega, HR10.out, HT10.out, HK10.out⟩
                    · have HK10 := Lib.hid (HU10.out.trans rfl)
                      have HT10 := Lib.hid (HT9.out.then_ (t10.own B))
                      clear hP MK t10 HU10
                      go_wp2_with fail
                      simp [bodyPost]
                      exact post_on HK10.out (HT10.out.but (by have := HBE.out; omega)) hk
                  · have HK := Lib.hid (hu9.trans (show _ = Rs.ok (ns ++ [t], acc ++ [x]) q9 from rfl))
                    clear hu9
                    go_wp2_with fail
                    go_ret2
                    exact post_ok HK.out (HT9.out.but (by have := HBE.out; omega)) hq9 ⟨_, _, _, rfl, HL9.out, HN9.out, by have := HLN.out; simp; omega⟩ HR9.out
                · have HK := Lib.hid (HU8.out.trans rfl)
                  have HT9 := Lib.hid (HT8.out.then_ (t9.own B))
                  clear hP hEN t9 HU8
                  go_wp2_with fail
                  simp [bodyPost]
                  exact post_on HK.out (HT9.out.but (by have := HBE.out; omega)) hk
              · have HK := Lib.hid (HU6.out.trans rfl)
                have HT7 := Lib.hid (HT6.out.then_ (t7.own B))
                clear hP V HU6 t7
                go_wp2_with fail
                simp [bodyPost]
                exact post_on HK.out (HT7.out.but (by have := HBE.out; omega)) hk
            · have HK := Lib.hid (HU5.out.trans rfl)
              have HT6 := Lib.hid (HT5.out.then_ (t6.own B))
              clear hP MK t6 HU5
              go_wp2_with fail
              simp [bodyPost]
              exact post_on HK.out (HT6.out.but (by have := HBE.out; omega)) hk
          · have HK := Lib.hid (HU.out.trans rfl)
            have HT3 := Lib.hid (HT.out.then_ (t3.own B))
            clear hP NM HU HAH t3
            go_wp2_with fail
            simp [bodyPost]
            exact post_on HK.out (HT3.out.but (by have := HBE.out; omega)) hk
    · have HK := Lib.hid (HF2.out.trans rfl)
      clear HF2
      go_wp2_with fail
      go_ret2
      exact post_ok HK.out HT2.out hq ⟨nilS, nilS, [], rfl, ListAt.nil _ _ _, NamesAt.nil _ _, rfl⟩ HR2.out
  · have HK := Lib.hid (HF2.out.trans rfl)
    have HT2 := Lib.hid (HT1.out.then_ t2)
    clear hP EN t2 HF2
    go_wp2_with fail
    simp [bodyPost]
    exact post_on HK.out HT2.out hk
end Go.Proofs.YtdhkpkojnokjdaaDoor
