/-
  JsonMembers: the walk.
-/
import Derived.Test.YtfcplpejifmohaaDoorJMembA
namespace Go.Proofs.YtfcplpejifmohaaDoor
open Go.RowKit Go.Maps Go.WideMaps Go.Shelf
set_option linter.unusedVariables false
set_option linter.unusedSimpArgs false

/-- what Get answers, of a value that was read -/
theorem GetRes.uni {k : Int} {l : List GV} {ns : List (List UInt8)} {t : List UInt8} {lo : Nat} {e : Ending} {w' : World} (h : GetRes k l ns t lo e w') (h1 : ns.length ≤ l.length) (h2 : k ≠ 6 → ns = []) :
    ∃ (k9 : Int) (t9 : List UInt8) (sp9 : Option Addr) (n9 m9 : Nat) (sq9 : Option Addr) (u9 v9 : Nat) (is : Bool), e = .returned (.tuple #[.agg #[.int .i64 k9, txt t9, .slice sp9 n9 m9, .slice sq9 u9 v9], .bool is]) ∧
      (is = true → k = 6 ∧ ∃ (i : Nat) (h : i < l.length), idxL t ns = (i : Int) ∧ GIn w' l[i] (.agg #[.int .i64 k9, txt t9, .slice sp9 n9 m9, .slice sq9 u9 v9])) ∧ (is = false → idxL t ns = -1) := by
  have hr := idxL_range t ns
  rcases h with ⟨i, hi, v', hk, hz, rfl, hm⟩ | ⟨hc, rfl⟩
  · obtain ⟨k9, t9, sp9, n9, m9, sq9, u9, v9, rfl⟩ := hm.gin.form
    exact ⟨k9, t9, sp9, n9, m9, sq9, u9, v9, true, rfl, fun _ => ⟨hk, i, hi, hz, hm.gin⟩, (fun h => by cases h)⟩
  · refine ⟨0, [], none, 0, 0, none, 0, 0, false, rfl, (fun h => by cases h), fun _ => ?_⟩
    rcases hc with h | h | h
    · rw [h2 h]; rfl
    · omega
    · omega

/-- a member that is there -/
theorem get_member {t0 : List UInt8} {l : List GV} {ns : List (List UInt8)} {j : Nat} (hnd : ns.Nodup) (hj : j < ns.length) (hjl : j < l.length) {v : Value} {W : World} (hx : GIn W (.mk 6 t0 l ns) v) (sx : Slim (.mk 6 t0 l ns)) :
    Calls Tryd.prog 20 #[v, txt (ns[j])] W fun e w' => (∃ v', e = .returned (.tuple #[v', .bool true]) ∧ Mine (fun _ => False) W.heap.size w'.heap.size w' l[j] v') ∧ Only W w' := by
  have hne := idxL_at hnd j hj
  refine (get_any (t := ns[j]) hx sx).mono ?_
  rintro e w' ⟨hres, tt⟩
  refine ⟨?_, tt⟩
  rcases hres with ⟨i2, hi2, v', -, hz2, rfl, hm⟩ | ⟨hc2, -⟩
  · have e2 : i2 = j := by omega
    subst e2
    exact ⟨v', rfl, hm⟩
  · exfalso
    rcases hc2 with h | h | h
    · exact h rfl
    · omega
    · omega

set_option maxRecDepth 100000 in
set_option maxHeartbeats 12800000 in
theorem members_found {b : List UInt8} {bv : Value} {t : List UInt8} {x : JV} {q : Nat} (h1 : b.length ≤ 4000) (h2 : t.length ≤ 4000) (hp : parseE b = .ok x q) (hf0 : ∀ k t0 l ns, toG x = .mk k t0 l ns → 0 ≤ idxL t ns) {w : World} (hb : BytesIn w bv b) (hT : Tb w) : Calls Tryd.prog 7 #[bv, txt t] w fun e w' => e = .returned (.bool true) ∧ Only w w' := by
  obtain ⟨k, t0, l, ns, hG, hS, hn1, hn2, hn3, hn4⟩ := (parseE_well (by omega) hp).parts
  have GT := Lib.hid (fun (W : World) (v : Value) (nm : List UInt8) (hx : GIn W (.mk k t0 l ns) v) => get_any (t := nm) hx hS)
  have hS' := hS
  unfold Slim at hS'
  obtain ⟨-, s2, s3, -, s5⟩ := hS'
  have SS := Lib.hid (fun i (h : i < l.length) (W : World) (a b : Value) (ha : GIn W l[i] a) (hb : GIn W l[i] b) => same_self ha hb (s5.at_ i h))
  have HB := Lib.hid hb
  obtain ⟨⟨sp, cap, rfl⟩, -⟩ := hb
  have HT := Lib.hid hT
  have NM := Lib.hid numJ_any
  have FI := Lib.hid (fun W (h : Tb W) => first7_any h)
  have PA := Lib.hid (fun (W : World) (v : Value) (hb : BytesIn W v b) (h : Tb W) => parseN_any hb (by omega) h)
  rw [hp] at PA
  have HG := Lib.hid hG
  have HN1 := Lib.hid hn1
  have HN3 := Lib.hid hn3
  have HN4 := Lib.hid hn4
  have HND := Lib.hid hn2
  have HSS := Lib.hid hS
  have EQ := Lib.hid (fun j (h : j < ns.length) => idxL_eq (t := t) hn2 h)
  have hzr := idxL_range t ns
  obtain ⟨z, hz⟩ : ∃ z, z = idxL t ns := ⟨_, rfl⟩
  have hf := hf0 _ _ _ _ hG
  rw [← hz] at hzr EQ hf
  clear hf0
  have HZ := Lib.hid hz
  have i1 : ¬ (4000 : Int) < (b.length : Int) := by omega
  have i2 : ¬ (4000 : Int) < (t.length : Int) := by omega
  have d1 : decide ((4000 : Int) < (b.length : Int)) = false := decide_eq_false i1
  have d2 : decide ((4000 : Int) < (t.length : Int)) = false := decide_eq_false i2
  have i3 : (ns.length : Int) ≤ 1000 := by omega
  have iz1 : -1 ≤ z := hzr.1
  have iz2 : z < (ns.length : Int) := hzr.2
  clear hT hp hG hS s2 s3 s5 hn1 hn2 hn3 hn4 hz hzr
  go_enter Tryd.func7, Tryd.ntmps7
  go_wp2_with fail
  refine (FI.out _ HT.out).mono ?_
  rintro r w1 ⟨rfl, t1⟩
  have H1 := Lib.hid t1
  clear t1
  go_wp2_with fail
  refine (PA.out _ _ (HB.out.only' H1.out) (HT.out.only H1.out)).mono ?_
  rintro r w2 ⟨t2, v, rfl, hv⟩
  have hg := hv.gin
  rw [HG.out] at hg
  clear hv
  have hg' := hg
  unfold GIn at hg'
  obtain ⟨L, N, rfl, ⟨sl, cl, rfl, hc⟩, sn, cn, rfl, hcn, hnm⟩ := hg'
  have HV := Lib.hid hg
  have HC := Lib.hid hc
  have HNM := Lib.hid hnm
  have O3 := Lib.hid (Own4.new w2 (.int .i64 k) (txt t0) (.slice sl l.length cl) (.slice sn ns.length cn) 25)
  have T23 := Lib.hid ((Only.refl w2).alloc (.cells #[.int .i64 k, txt t0, .slice sl l.length cl, .slice sn ns.length cn] 25))
  have H2 := Lib.hid (H1.out.trans t2)
  obtain ⟨⟨c0, c1, c2, c3⟩, -⟩ := O3.out.all
  clear hg hc hnm t2 hcn
  go_wp2_with (go_at_call 11; refine (NM.out _ _).mono ?_; rintro r w'' ⟨rfl, rfl⟩)
  refine (GT.out _ _ t (GIn.only T23.out _ HV.out)).mono ?_
  rintro r w4 ⟨hres, t4⟩
  obtain ⟨k9, t9, sp9, n9, m9, sq9, u9, v9, is, rfl, hyes, hno⟩ := hres.uni HN1.out HN4.out
  have HYES := Lib.hid hyes
  have HNO := Lib.hid hno
  have T24 := Lib.hid (T23.out.trans t4)
  have O4 := Lib.hid (O3.out.only t4)
  have O9 := Lib.hid (Own4.new w4 (.int .i64 k9) (txt t9) (.slice sp9 n9 m9) (.slice sq9 u9 v9) 25)
  clear hres hyes hno t4 c0 c1 c2 c3
  go_wp2_with fail
  go_loopw [11, 12] (fun av kv wx => ∃ j : Nat, kv = .int .i64 (j : Int) ∧ av = .int .i64 (if 0 ≤ z ∧ z < (j : Int) then z else -1) ∧ j ≤ ns.length ∧ Only w4 wx ∧ Own4 wx w4.heap.size (.int .i64 k9) (txt t9) (.slice sp9 n9 m9) (.slice sq9 u9 v9)) (fun _ kv _ => ns.length - (intOf kv).toNat)
  case atStart => exact ⟨0, rfl, by rw [if_neg (by omega)], Nat.zero_le _, (Only.refl _).alloc _, O9.out⟩
  case round =>
    obtain ⟨j, rfl, rfl, hj, ht, o9⟩ := hrel
    have TR := Lib.hid (T24.out.trans ht)
    have HTR := Lib.hid ht
    have H9 := Lib.hid o9
    obtain ⟨⟨x0, x1, x2, x3⟩, -⟩ := (O4.out.only ht).all
    clear ht o9
    by_cases hlt : j < ns.length
    · have ij : (j : Int) < (ns.length : Int) := by omega
      rcases HNM.out with h0 | ⟨g, off, rfl, hcell⟩
      · rw [h0] at hlt; simp at hlt
      have nc := cell_only (hcell j hlt) TR.out
      have e1 := add_at g off j
      have heq := EQ.out j hlt
      obtain ⟨s, hs⟩ : ∃ s, s = ns[j] := ⟨_, rfl⟩
      rw [← hs] at nc heq
      have HEQ := Lib.hid heq
      clear hcell hs heq
      cases hab : (s == t)
      · go_wp2_with fail
        go_roundw
        case rel => exact ⟨j + 1, by push_cast; rfl, by
          have h3 : ¬ z = (j : Int) := fun e => by rw [beq_eq_false_iff_ne] at hab; exact hab (HEQ.out.2 e)
          by_cases h4 : 0 ≤ z ∧ z < (j : Int)
          · rw [if_pos h4, if_pos (by omega)]
          · rw [if_neg h4, if_neg (by omega)], hlt, HTR.out, H9.out⟩
        case measure => simp [intOf]; omega
      · have hzj : z = (j : Int) := HEQ.out.1 (by simpa using hab)
        go_wp2_with fail
        go_roundw
        case rel => exact ⟨j + 1, by push_cast; rfl, by rw [if_pos (by omega), hzj], hlt, HTR.out, H9.out⟩
        case measure => simp [intOf]; omega
    · have hje : j = ns.length := by omega
      have ij : ¬ (j : Int) < (ns.length : Int) := by omega
      have hat : (if 0 ≤ z ∧ z < (j : Int) then z else -1) = z := by
        split
        · rfl
        · omega
      rw [hat]
      clear hat
      obtain ⟨wo, rfl⟩ : ∃ wo, wo = wr := ⟨_, rfl⟩
      cases is
      case' true =>
        obtain ⟨-, i, hi, hzi, hgi⟩ := HYES.out rfl
        rw [← HZ.out] at hzi
        subst hzi
        have iz3 : (0 : Int) ≤ (i : Int) := by omega
        have dz : decide ((0 : Int) ≤ (i : Int)) = true := decide_eq_true iz3
        have il : (i : Int) < (l.length : Int) := by omega
        have hcc := HC.out
        obtain ⟨gl, offl, hsl, hcell⟩ := hcc.resolve_left (fun h0 => by rw [h0] at hi; simp at hi)
        subst hsl
        obtain ⟨c0', c1', c2', c3', ⟨q0, q1, q2, q3⟩, hgx⟩ := GCells.at_ (GCells.only TR.out l hcell) i hi
        obtain ⟨k8, t8, sp8, n8, m8, sq8, u8, v8, rfl, rfl, rfl, rfl⟩ := GIn.shape hgx
        have C := fun n : Cone wo => SS.out i hi n.out _ _ (GIn.only (HTR.out.trans n.only) _ hgi) (GIn.only n.only _ hgx)
        have e2 : (⟨gl, offl, none⟩ : Addr).add (i * 4) = ⟨gl, offl + i * 4, none⟩ := add_at _ _ _
        have z0 := cell_cone q0
        have z1 := cell_cone q1
        have z2 := cell_cone q2
        have z3 := cell_cone q3
        obtain ⟨r0, r1, r2, r3⟩ := (O4.out.only HTR.out).cone
        obtain ⟨r4, r5, r6, r7⟩ := H9.out.cone
        clear hgx hgi hcell hcc q0 q1 q2 q3
        go_wp2_with fail
        refine wp_region_cone (by kernel_rfl) (by kernel_rfl) ?_
        repeat (any_goals (first | go_big_quiet_step ((go_at_call 13; with_reducible exact Cone.call (C _))) | quiet_step ((go_at_call 13; with_reducible exact Cone.call (C _)))))
        refine wpQuiet_nil ?_
        rintro w6 ⟨⟨_, t6⟩, rfl⟩
        clear C z0 z1 z2 z3 r0 r1 r2 r3 r4 r5 r6 r7 e2 x0 x1 x2 x3
      case' false =>
        exfalso
        have hz1 : z = -1 := by rw [HZ.out]; exact HNO.out rfl
        omega
      all_goals
        have H6 := Lib.hid t6
        clear t6
        go_wp2_with fail
        go_loopw [13, 14, 15] (fun kv _ _ wx => ∃ j : Nat, kv = .int .i64 (j : Int) ∧ j ≤ ns.length ∧ Only wo wx) (fun kv _ _ _ => ns.length - (intOf kv).toNat)
        case atStart => exact ⟨0, rfl, Nat.zero_le _, H6.out⟩
        case round =>
          obtain ⟨j2, rfl, hj2, ht⟩ := hrel
          have T2R := Lib.hid (T24.out.trans (HTR.out.trans ht))
          have O6 := Lib.hid (O4.out.only (HTR.out.trans ht))
          have HT2 := Lib.hid ht
          obtain ⟨⟨x0, x1, x2, x3⟩, -⟩ := O6.out.all
          clear ht
          by_cases hlt : j2 < ns.length
          · have hk6 : k = 6 := Classical.byContradiction fun e => by have := HN4.out e; rw [this] at hlt; simp at hlt
            have hll := HN3.out hk6
            have hjl : j2 < l.length := by omega
            clear hll
            have ij2 : (j2 : Int) < (ns.length : Int) := by omega
            have il2 : (j2 : Int) < (l.length : Int) := by omega
            obtain ⟨g, off, hsn, hcell⟩ := HNM.out.resolve_left (fun h0 => by rw [h0] at hlt; simp at hlt)
            subst hsn
            obtain ⟨gl2, offl2, hsl2, hlcell⟩ := HC.out.resolve_left (fun h0 => by rw [h0] at hjl; simp at hjl)
            have nc := cell_only (hcell j2 hlt) T2R.out
            obtain ⟨c0', c1', c2', c3', ⟨q0, q1, q2, q3⟩, hgx⟩ := GCells.at_ (GCells.only T2R.out l hlcell) j2 hjl
            obtain ⟨k8, t8, sp8, n8, m8, sq8, u8, v8, rfl, rfl, rfl, rfl⟩ := GIn.shape hgx
            have HGX := Lib.hid hgx
            subst hk6
            obtain ⟨s, hs⟩ : ∃ s, s = ns[j2] := ⟨_, rfl⟩
            have e1 := add_at g off j2
            have e2 : (⟨gl2, offl2, none⟩ : Addr).add (j2 * 4) = ⟨gl2, offl2 + j2 * 4, none⟩ := add_at _ _ _
            have GC0 := fun W (hW : Only wr W) => get_member HND.out hlt hjl (GIn.only (T2R.out.trans hW) _ HV.out) HSS.out
            rw [← hs] at nc GC0
            have GC := Lib.hid GC0
            first | subst hsl2 | (simp only [Option.some.injEq, Addr.mk.injEq, and_true] at hsl2; obtain ⟨h5, h6⟩ := hsl2; obtain rfl := h5.symm; obtain rfl := h6.symm)
            clear hcell hlcell hgx hs GC0
            go_upto_region 19 with (fail)
            refine wp_richJ (GetX wr (l[j2]'hjl)) (getV (.agg #[.int .i64 6, txt t0, .slice (some ⟨gl2, offl2, none⟩) l.length cl, .slice (some ⟨g, off, none⟩) ns.length cn]) (.pointer (some ⟨w2.heap.size, 3, none⟩)) (.slice (some ⟨g, off, none⟩) ns.length cn) (.int .i64 (j2 : Int)) (.pointer (some ⟨g, off + j2, none⟩)) (txt s)) (F := ?F19) (by kernel_rfl) (by kernel_rfl) ?hF19 ?h019 ?hst19 ?hend19
            case hF19 =>
              intro vs
              simp only [fills]
              go_simp
              exact rfl
            case h019 => exact fun vs => GetX.start _ _ _ (Only.refl _).drew
            case hst19 =>
              simp only [StepsJ, Nat.zero_add, Nat.reduceAdd]
              refine ⟨?_, ?_, ?_, ?_, ?_, ?_, ?_, ?_, ?_, ?_, ?_, ?_, ?_, trivial⟩
              case refine_7 =>
                intro L vs W hLs hX hLi hcl hgot hdl hd K hK
                simp [depsOf, Region.binds, List.filter_cons, GotAll, getV] at hd
                unfold RichAt
                go_simp
                refine (GC.out W hX.1).mono ?_
                rintro e w' ⟨⟨v', rfl, hm⟩, t⟩
                exact ⟨_, rfl, hK _ _ trivial (hX.call hLi t hm)⟩
              case refine_11 =>
                intro L vs W hLs hX hLi hcl hgot hdl hd K hK
                unfold RichAt
                go_simp
                exact hK _ _ trivial (hX.box hLi)
              case refine_12 =>
                intro L vs W hLs hX hLi hcl hgot hdl hd K hK
                have l10 : L.getD 10 false = true := hdl 10 (by simp [depsOf, Region.binds, List.filter_cons])
                have l8 : L.getD 8 false = true := hdl 8 (by simp [depsOf, Region.binds, List.filter_cons])
                have l7 : L.getD 7 false = true := hcl 8 _ rfl l8 7 (by simp [depsOf, Region.binds, List.filter_cons])
                have l6 : L.getD 6 false = true := hcl 7 _ rfl l7 6 (by simp [depsOf, Region.binds, List.filter_cons])
                have g8 := hgot 8 l8 _ rfl
                have g7 := hgot 7 l7 _ rfl
                simp [depsOf, Region.binds, List.filter_cons, getV] at g8 g7
                obtain ⟨bg, b0, b1, b2, b3, hbg, -, og⟩ := hX.2.1 l10
                obtain ⟨lo, hi, v', hv6, -, -, hm, -⟩ := hX.2.2.1 l6
                obtain ⟨k7, t7, sp7, n7, m7, sq7, u7, v7, rfl⟩ := hm.gin.form
                have hv8 := g8 _ _ (g7.symm.trans hv6)
                obtain ⟨⟨y0, y1, y2, y3⟩, f0, f1, f2, f3⟩ := og.all
                have hP := hX.put (u := undef) l6 l10 hbg hv6
                unfold RichAt
                go_simp
                exact hK _ _ trivial hP
              case refine_9 | refine_10 =>
                intro L vs W hLs hX hLi hcl hgot hdl hd K hK
                have l7 : L.getD 7 false = true := hdl 7 (by simp [depsOf, Region.binds, List.filter_cons])
                have l6 : L.getD 6 false = true := hcl 7 _ rfl l7 6 (by simp [depsOf, Region.binds, List.filter_cons])
                have g7 := hgot 7 l7 _ rfl
                simp [depsOf, Region.binds, List.filter_cons, getV] at g7
                obtain ⟨lo, hi, v', hv6, -, -, hm, -⟩ := hX.2.2.1 l6
                have hv7 := g7.symm.trans hv6
                unfold RichAt
                go_simp
                refine hK _ _ ?_ (hX.other (by decide) (by decide) (by decide) (Only.refl _))
                simp [depsOf, Region.binds, List.filter_cons, getV, hv7]
              all_goals
                intro L vs W hLs hX hLi hcl hgot hdl hd K hK
                obtain ⟨⟨k1, k2, k3, k4⟩, -⟩ := (O6.out.only hX.1).all
                have kn := cell_only nc hX.1
                simp [depsOf, Region.binds, List.filter_cons, GotAll, getV] at hd
                unfold RichAt
                go_simp
                refine hK _ _ ?_ (hX.other (by decide) (by decide) (by decide) (Only.refl _))
                first | exact rfl | simp [depsOf, Region.binds, List.filter_cons, getV]
            case hend19 =>
              intro L vs W hL hX hg
              obtain ⟨l6, -, bg, b0, b1, b2, b3, hv10, hv6, og⟩ := hX.2.2.2 (hL 11 (by simp))
              obtain ⟨lo, hi, v', hv6', -, -, hm, -⟩ := hX.2.2.1 l6
              have hv' : v' = .agg #[b0, b1, b2, b3] := by rw [hv6] at hv6'; simpa using hv6'.symm
              subst hv'
              obtain ⟨k7, t7, sp7, n7, m7, sq7, u7, v7, hf⟩ := hm.gin.form
              simp only [Value.agg.injEq, Array.mk.injEq, List.cons.injEq, and_true] at hf
              obtain ⟨rfl, rfl, rfl, rfl⟩ := hf
              simp [List.range_succ, depsOf, Region.binds, List.filter_cons, GotAll, getV] at hg
              obtain ⟨-, -, -, -, -, -, g7, g8, g9, g12⟩ := hg
              have e7 := g7.symm.trans hv6
              have e9 : vs 9 = .bool true := g9 _ _ e7
              have e12 : vs 12 = .bool true := g12.symm.trans e9
              have C2 := fun n : Cone W => SS.out j2 hjl n.out _ _ (GIn.only n.only _ hm.gin) (GIn.only (hX.1.trans n.only) _ HGX.out)
              have z0 := cell_cone (cell_only q0 hX.1)
              have z1 := cell_cone (cell_only q1 hX.1)
              have z2 := cell_cone (cell_only q2 hX.1)
              have z3 := cell_cone (cell_only q3 hX.1)
              obtain ⟨r0, r1, r2, r3⟩ := (O6.out.only hX.1).cone
              obtain ⟨r4, r5, r6, r7⟩ := og.cone
              have HXW := Lib.hid hX.1
              rw [hv10, e12]
              clear hX hm hL g7 g8 g9 g12 e7 e9 e12 hv6 hv6' hv10 og
              go_wp2_with fail
              refine wp_region_cone (by kernel_rfl) (by kernel_rfl) ?_
              repeat (any_goals (first | go_big_quiet_step ((go_at_call 13; with_reducible exact Cone.call (C2 _))) | quiet_step ((go_at_call 13; with_reducible exact Cone.call (C2 _)))))
              refine wpQuiet_nil ?_
              rintro w7 ⟨⟨_, t7⟩, rfl⟩
              have H7 := Lib.hid (HT2.out.trans (HXW.out.trans t7))
              clear t7 C2 z0 z1 z2 z3 r0 r1 r2 r3 r4 r5 r6 r7
              go_wp2_with fail
              go_roundw
              case rel => exact ⟨j2 + 1, by push_cast; rfl, hlt, H7.out⟩
              case measure => simp [intOf]; omega
          · have ij2 : ¬ (j2 : Int) < (ns.length : Int) := by omega
            by_cases hk : k = 6
            · subst hk
              go_wp2_with fail
              go_ret
              exact ⟨rfl, H2.out.trans T2R.out⟩
            · first
              | exact absurd (HYES.out (by trivial)).1 hk
              | (have b6 : (k == 6) = false := by simpa using hk
                 go_wp2_with fail
                 go_ret
                 exact ⟨rfl, H2.out.trans T2R.out⟩)

set_option maxRecDepth 100000 in
set_option maxHeartbeats 12800000 in
theorem members_none {b : List UInt8} {bv : Value} {t : List UInt8} {x : JV} {q : Nat} (h1 : b.length ≤ 4000) (h2 : t.length ≤ 4000) (hp : parseE b = .ok x q) (hf0 : ∀ k t0 l ns, toG x = .mk k t0 l ns → idxL t ns < 0) {w : World} (hb : BytesIn w bv b) (hT : Tb w) : Calls Tryd.prog 7 #[bv, txt t] w fun e w' => e = .returned (.bool true) ∧ Only w w' := by
  obtain ⟨k, t0, l, ns, hG, hS, hn1, hn2, hn3, hn4⟩ := (parseE_well (by omega) hp).parts
  have GT := Lib.hid (fun (W : World) (v : Value) (nm : List UInt8) (hx : GIn W (.mk k t0 l ns) v) => get_any (t := nm) hx hS)
  have hS' := hS
  unfold Slim at hS'
  obtain ⟨-, s2, s3, -, s5⟩ := hS'
  have SS := Lib.hid (fun i (h : i < l.length) (W : World) (a b : Value) (ha : GIn W l[i] a) (hb : GIn W l[i] b) => same_self ha hb (s5.at_ i h))
  have HB := Lib.hid hb
  obtain ⟨⟨sp, cap, rfl⟩, -⟩ := hb
  have HT := Lib.hid hT
  have NM := Lib.hid numJ_any
  have FI := Lib.hid (fun W (h : Tb W) => first7_any h)
  have PA := Lib.hid (fun (W : World) (v : Value) (hb : BytesIn W v b) (h : Tb W) => parseN_any hb (by omega) h)
  rw [hp] at PA
  have HG := Lib.hid hG
  have HN1 := Lib.hid hn1
  have HN3 := Lib.hid hn3
  have HN4 := Lib.hid hn4
  have HND := Lib.hid hn2
  have HSS := Lib.hid hS
  have EQ := Lib.hid (fun j (h : j < ns.length) => idxL_eq (t := t) hn2 h)
  have hzr := idxL_range t ns
  obtain ⟨z, hz⟩ : ∃ z, z = idxL t ns := ⟨_, rfl⟩
  have hf := hf0 _ _ _ _ hG
  rw [← hz] at hzr EQ hf
  clear hf0
  have HZ := Lib.hid hz
  have i1 : ¬ (4000 : Int) < (b.length : Int) := by omega
  have i2 : ¬ (4000 : Int) < (t.length : Int) := by omega
  have d1 : decide ((4000 : Int) < (b.length : Int)) = false := decide_eq_false i1
  have d2 : decide ((4000 : Int) < (t.length : Int)) = false := decide_eq_false i2
  have i3 : (ns.length : Int) ≤ 1000 := by omega
  have iz1 : -1 ≤ z := hzr.1
  have iz2 : z < (ns.length : Int) := hzr.2
  clear hT hp hG hS s2 s3 s5 hn1 hn2 hn3 hn4 hz hzr
  go_enter Tryd.func7, Tryd.ntmps7
  go_wp2_with fail
  refine (FI.out _ HT.out).mono ?_
  rintro r w1 ⟨rfl, t1⟩
  have H1 := Lib.hid t1
  clear t1
  go_wp2_with fail
  refine (PA.out _ _ (HB.out.only' H1.out) (HT.out.only H1.out)).mono ?_
  rintro r w2 ⟨t2, v, rfl, hv⟩
  have hg := hv.gin
  rw [HG.out] at hg
  clear hv
  have hg' := hg
  unfold GIn at hg'
  obtain ⟨L, N, rfl, ⟨sl, cl, rfl, hc⟩, sn, cn, rfl, hcn, hnm⟩ := hg'
  have HV := Lib.hid hg
  have HC := Lib.hid hc
  have HNM := Lib.hid hnm
  have O3 := Lib.hid (Own4.new w2 (.int .i64 k) (txt t0) (.slice sl l.length cl) (.slice sn ns.length cn) 25)
  have T23 := Lib.hid ((Only.refl w2).alloc (.cells #[.int .i64 k, txt t0, .slice sl l.length cl, .slice sn ns.length cn] 25))
  have H2 := Lib.hid (H1.out.trans t2)
  obtain ⟨⟨c0, c1, c2, c3⟩, -⟩ := O3.out.all
  clear hg hc hnm t2 hcn
  go_wp2_with (go_at_call 11; refine (NM.out _ _).mono ?_; rintro r w'' ⟨rfl, rfl⟩)
  refine (GT.out _ _ t (GIn.only T23.out _ HV.out)).mono ?_
  rintro r w4 ⟨hres, t4⟩
  obtain ⟨k9, t9, sp9, n9, m9, sq9, u9, v9, is, rfl, hyes, hno⟩ := hres.uni HN1.out HN4.out
  have HYES := Lib.hid hyes
  have HNO := Lib.hid hno
  have T24 := Lib.hid (T23.out.trans t4)
  have O4 := Lib.hid (O3.out.only t4)
  have O9 := Lib.hid (Own4.new w4 (.int .i64 k9) (txt t9) (.slice sp9 n9 m9) (.slice sq9 u9 v9) 25)
  clear hres hyes hno t4 c0 c1 c2 c3
  go_wp2_with fail
  go_loopw [11, 12] (fun av kv wx => ∃ j : Nat, kv = .int .i64 (j : Int) ∧ av = .int .i64 (if 0 ≤ z ∧ z < (j : Int) then z else -1) ∧ j ≤ ns.length ∧ Only w4 wx ∧ Own4 wx w4.heap.size (.int .i64 k9) (txt t9) (.slice sp9 n9 m9) (.slice sq9 u9 v9)) (fun _ kv _ => ns.length - (intOf kv).toNat)
  case atStart => exact ⟨0, rfl, by rw [if_neg (by omega)], Nat.zero_le _, (Only.refl _).alloc _, O9.out⟩
  case round =>
    obtain ⟨j, rfl, rfl, hj, ht, o9⟩ := hrel
    have TR := Lib.hid (T24.out.trans ht)
    have HTR := Lib.hid ht
    have H9 := Lib.hid o9
    obtain ⟨⟨x0, x1, x2, x3⟩, -⟩ := (O4.out.only ht).all
    clear ht o9
    by_cases hlt : j < ns.length
    · have ij : (j : Int) < (ns.length : Int) := by omega
      rcases HNM.out with h0 | ⟨g, off, rfl, hcell⟩
      · rw [h0] at hlt; simp at hlt
      have nc := cell_only (hcell j hlt) TR.out
      have e1 := add_at g off j
      have heq := EQ.out j hlt
      obtain ⟨s, hs⟩ : ∃ s, s = ns[j] := ⟨_, rfl⟩
      rw [← hs] at nc heq
      have HEQ := Lib.hid heq
      clear hcell hs heq
      cases hab : (s == t)
      · go_wp2_with fail
        go_roundw
        case rel => exact ⟨j + 1, by push_cast; rfl, by
          have h3 : ¬ z = (j : Int) := fun e => by rw [beq_eq_false_iff_ne] at hab; exact hab (HEQ.out.2 e)
          by_cases h4 : 0 ≤ z ∧ z < (j : Int)
          · rw [if_pos h4, if_pos (by omega)]
          · rw [if_neg h4, if_neg (by omega)], hlt, HTR.out, H9.out⟩
        case measure => simp [intOf]; omega
      · have hzj : z = (j : Int) := HEQ.out.1 (by simpa using hab)
        exfalso
        omega
    · have hje : j = ns.length := by omega
      have ij : ¬ (j : Int) < (ns.length : Int) := by omega
      have hat : (if 0 ≤ z ∧ z < (j : Int) then z else -1) = z := by
        split
        · rfl
        · omega
      rw [hat]
      clear hat
      obtain ⟨wo, rfl⟩ : ∃ wo, wo = wr := ⟨_, rfl⟩
      cases is
      case' true =>
        exfalso
        obtain ⟨-, i, hi, hzi, hgi⟩ := HYES.out rfl
        rw [← HZ.out] at hzi
        omega
      case' false =>
        have hz1 : z = -1 := by rw [HZ.out]; exact HNO.out rfl
        subst hz1
        obtain ⟨r0, r1, r2, r3⟩ := (O4.out.only HTR.out).cone
        obtain ⟨r4, r5, r6, r7⟩ := H9.out.cone
        go_wp2_with fail
        refine wp_region_cone (by kernel_rfl) (by kernel_rfl) ?_
        repeat (any_goals (first | go_big_quiet_step ((fail)) | quiet_step ((fail))))
        refine wpQuiet_nil ?_
        rintro w6 ⟨⟨_, t6⟩, rfl⟩
        clear r0 r1 r2 r3 r4 r5 r6 r7 x0 x1 x2 x3
      all_goals
        have H6 := Lib.hid t6
        clear t6
        go_wp2_with fail
        go_loopw [13, 14, 15] (fun kv _ _ wx => ∃ j : Nat, kv = .int .i64 (j : Int) ∧ j ≤ ns.length ∧ Only wo wx) (fun kv _ _ _ => ns.length - (intOf kv).toNat)
        case atStart => exact ⟨0, rfl, Nat.zero_le _, H6.out⟩
        case round =>
          obtain ⟨j2, rfl, hj2, ht⟩ := hrel
          have T2R := Lib.hid (T24.out.trans (HTR.out.trans ht))
          have O6 := Lib.hid (O4.out.only (HTR.out.trans ht))
          have HT2 := Lib.hid ht
          obtain ⟨⟨x0, x1, x2, x3⟩, -⟩ := O6.out.all
          clear ht
          by_cases hlt : j2 < ns.length
          · have hk6 : k = 6 := Classical.byContradiction fun e => by have := HN4.out e; rw [this] at hlt; simp at hlt
            have hll := HN3.out hk6
            have hjl : j2 < l.length := by omega
            clear hll
            have ij2 : (j2 : Int) < (ns.length : Int) := by omega
            have il2 : (j2 : Int) < (l.length : Int) := by omega
            obtain ⟨g, off, hsn, hcell⟩ := HNM.out.resolve_left (fun h0 => by rw [h0] at hlt; simp at hlt)
            subst hsn
            obtain ⟨gl2, offl2, hsl2, hlcell⟩ := HC.out.resolve_left (fun h0 => by rw [h0] at hjl; simp at hjl)
            have nc := cell_only (hcell j2 hlt) T2R.out
            obtain ⟨c0', c1', c2', c3', ⟨q0, q1, q2, q3⟩, hgx⟩ := GCells.at_ (GCells.only T2R.out l hlcell) j2 hjl
            obtain ⟨k8, t8, sp8, n8, m8, sq8, u8, v8, rfl, rfl, rfl, rfl⟩ := GIn.shape hgx
            have HGX := Lib.hid hgx
            subst hk6
            obtain ⟨s, hs⟩ : ∃ s, s = ns[j2] := ⟨_, rfl⟩
            have e1 := add_at g off j2
            have e2 : (⟨gl2, offl2, none⟩ : Addr).add (j2 * 4) = ⟨gl2, offl2 + j2 * 4, none⟩ := add_at _ _ _
            have GC0 := fun W (hW : Only wr W) => get_member HND.out hlt hjl (GIn.only (T2R.out.trans hW) _ HV.out) HSS.out
            rw [← hs] at nc GC0
            have GC := Lib.hid GC0
            first | subst hsl2 | (simp only [Option.some.injEq, Addr.mk.injEq, and_true] at hsl2; obtain ⟨h5, h6⟩ := hsl2; obtain rfl := h5.symm; obtain rfl := h6.symm)
            clear hcell hlcell hgx hs GC0
            go_upto_region 19 with (fail)
            refine wp_richJ (GetX wr (l[j2]'hjl)) (getV (.agg #[.int .i64 6, txt t0, .slice (some ⟨gl2, offl2, none⟩) l.length cl, .slice (some ⟨g, off, none⟩) ns.length cn]) (.pointer (some ⟨w2.heap.size, 3, none⟩)) (.slice (some ⟨g, off, none⟩) ns.length cn) (.int .i64 (j2 : Int)) (.pointer (some ⟨g, off + j2, none⟩)) (txt s)) (F := ?F19) (by kernel_rfl) (by kernel_rfl) ?hF19 ?h019 ?hst19 ?hend19
            case hF19 =>
              intro vs
              simp only [fills]
              go_simp
              exact rfl
            case h019 => exact fun vs => GetX.start _ _ _ (Only.refl _).drew
            case hst19 =>
              simp only [StepsJ, Nat.zero_add, Nat.reduceAdd]
              refine ⟨?_, ?_, ?_, ?_, ?_, ?_, ?_, ?_, ?_, ?_, ?_, ?_, ?_, trivial⟩
              case refine_7 =>
                intro L vs W hLs hX hLi hcl hgot hdl hd K hK
                simp [depsOf, Region.binds, List.filter_cons, GotAll, getV] at hd
                unfold RichAt
                go_simp
                refine (GC.out W hX.1).mono ?_
                rintro e w' ⟨⟨v', rfl, hm⟩, t⟩
                exact ⟨_, rfl, hK _ _ trivial (hX.call hLi t hm)⟩
              case refine_11 =>
                intro L vs W hLs hX hLi hcl hgot hdl hd K hK
                unfold RichAt
                go_simp
                exact hK _ _ trivial (hX.box hLi)
              case refine_12 =>
                intro L vs W hLs hX hLi hcl hgot hdl hd K hK
                have l10 : L.getD 10 false = true := hdl 10 (by simp [depsOf, Region.binds, List.filter_cons])
                have l8 : L.getD 8 false = true := hdl 8 (by simp [depsOf, Region.binds, List.filter_cons])
                have l7 : L.getD 7 false = true := hcl 8 _ rfl l8 7 (by simp [depsOf, Region.binds, List.filter_cons])
                have l6 : L.getD 6 false = true := hcl 7 _ rfl l7 6 (by simp [depsOf, Region.binds, List.filter_cons])
                have g8 := hgot 8 l8 _ rfl
                have g7 := hgot 7 l7 _ rfl
                simp [depsOf, Region.binds, List.filter_cons, getV] at g8 g7
                obtain ⟨bg, b0, b1, b2, b3, hbg, -, og⟩ := hX.2.1 l10
                obtain ⟨lo, hi, v', hv6, -, -, hm, -⟩ := hX.2.2.1 l6
                obtain ⟨k7, t7, sp7, n7, m7, sq7, u7, v7, rfl⟩ := hm.gin.form
                have hv8 := g8 _ _ (g7.symm.trans hv6)
                obtain ⟨⟨y0, y1, y2, y3⟩, f0, f1, f2, f3⟩ := og.all
                have hP := hX.put (u := undef) l6 l10 hbg hv6
                unfold RichAt
                go_simp
                exact hK _ _ trivial hP
              case refine_9 | refine_10 =>
                intro L vs W hLs hX hLi hcl hgot hdl hd K hK
                have l7 : L.getD 7 false = true := hdl 7 (by simp [depsOf, Region.binds, List.filter_cons])
                have l6 : L.getD 6 false = true := hcl 7 _ rfl l7 6 (by simp [depsOf, Region.binds, List.filter_cons])
                have g7 := hgot 7 l7 _ rfl
                simp [depsOf, Region.binds, List.filter_cons, getV] at g7
                obtain ⟨lo, hi, v', hv6, -, -, hm, -⟩ := hX.2.2.1 l6
                have hv7 := g7.symm.trans hv6
                unfold RichAt
                go_simp
                refine hK _ _ ?_ (hX.other (by decide) (by decide) (by decide) (Only.refl _))
                simp [depsOf, Region.binds, List.filter_cons, getV, hv7]
              all_goals
                intro L vs W hLs hX hLi hcl hgot hdl hd K hK
                obtain ⟨⟨k1, k2, k3, k4⟩, -⟩ := (O6.out.only hX.1).all
                have kn := cell_only nc hX.1
                simp [depsOf, Region.binds, List.filter_cons, GotAll, getV] at hd
                unfold RichAt
                go_simp
                refine hK _ _ ?_ (hX.other (by decide) (by decide) (by decide) (Only.refl _))
                first | exact rfl | simp [depsOf, Region.binds, List.filter_cons, getV]
            case hend19 =>
              intro L vs W hL hX hg
              obtain ⟨l6, -, bg, b0, b1, b2, b3, hv10, hv6, og⟩ := hX.2.2.2 (hL 11 (by simp))
              obtain ⟨lo, hi, v', hv6', -, -, hm, -⟩ := hX.2.2.1 l6
              have hv' : v' = .agg #[b0, b1, b2, b3] := by rw [hv6] at hv6'; simpa using hv6'.symm
              subst hv'
              obtain ⟨k7, t7, sp7, n7, m7, sq7, u7, v7, hf⟩ := hm.gin.form
              simp only [Value.agg.injEq, Array.mk.injEq, List.cons.injEq, and_true] at hf
              obtain ⟨rfl, rfl, rfl, rfl⟩ := hf
              simp [List.range_succ, depsOf, Region.binds, List.filter_cons, GotAll, getV] at hg
              obtain ⟨-, -, -, -, -, -, g7, g8, g9, g12⟩ := hg
              have e7 := g7.symm.trans hv6
              have e9 : vs 9 = .bool true := g9 _ _ e7
              have e12 : vs 12 = .bool true := g12.symm.trans e9
              have C2 := fun n : Cone W => SS.out j2 hjl n.out _ _ (GIn.only n.only _ hm.gin) (GIn.only (hX.1.trans n.only) _ HGX.out)
              have z0 := cell_cone (cell_only q0 hX.1)
              have z1 := cell_cone (cell_only q1 hX.1)
              have z2 := cell_cone (cell_only q2 hX.1)
              have z3 := cell_cone (cell_only q3 hX.1)
              obtain ⟨r0, r1, r2, r3⟩ := (O6.out.only hX.1).cone
              obtain ⟨r4, r5, r6, r7⟩ := og.cone
              have HXW := Lib.hid hX.1
              rw [hv10, e12]
              clear hX hm hL g7 g8 g9 g12 e7 e9 e12 hv6 hv6' hv10 og
              go_wp2_with fail
              refine wp_region_cone (by kernel_rfl) (by kernel_rfl) ?_
              repeat (any_goals (first | go_big_quiet_step ((go_at_call 13; with_reducible exact Cone.call (C2 _))) | quiet_step ((go_at_call 13; with_reducible exact Cone.call (C2 _)))))
              refine wpQuiet_nil ?_
              rintro w7 ⟨⟨_, t7⟩, rfl⟩
              have H7 := Lib.hid (HT2.out.trans (HXW.out.trans t7))
              clear t7 C2 z0 z1 z2 z3 r0 r1 r2 r3 r4 r5 r6 r7
              go_wp2_with fail
              go_roundw
              case rel => exact ⟨j2 + 1, by push_cast; rfl, hlt, H7.out⟩
              case measure => simp [intOf]; omega
          · have ij2 : ¬ (j2 : Int) < (ns.length : Int) := by omega
            by_cases hk : k = 6
            · subst hk
              go_wp2_with fail
              go_ret
              exact ⟨rfl, H2.out.trans T2R.out⟩
            · first
              | exact absurd (HYES.out (by trivial)).1 hk
              | (have b6 : (k == 6) = false := by simpa using hk
                 go_wp2_with fail
                 go_ret
                 exact ⟨rfl, H2.out.trans T2R.out⟩)

theorem members_good {b : List UInt8} {bv : Value} {t : List UInt8} {x : JV} {q : Nat} (h1 : b.length ≤ 4000) (h2 : t.length ≤ 4000) (hp : parseE b = .ok x q) {w : World} (hb : BytesIn w bv b) (hT : Tb w) : Calls Tryd.prog 7 #[bv, txt t] w fun e w' => e = .returned (.bool true) ∧ Only w w' := by
  rcases hx : toG x with ⟨k, t0, l, ns⟩
  by_cases hz : 0 ≤ idxL t ns
  · exact members_found h1 h2 hp (fun k' t' l' ns' h => by rw [hx] at h; simp only [GV.mk.injEq] at h; rw [← h.2.2.2]; exact hz) hb hT
  · exact members_none h1 h2 hp (fun k' t' l' ns' h => by rw [hx] at h; simp only [GV.mk.injEq] at h; rw [← h.2.2.2]; omega) hb hT

theorem jsonMembers_any {b : List UInt8} {bv : Value} (s : ByteArray) {w : World} (hb : BytesIn w bv b) (hT : Tb w) : Calls Tryd.prog 7 #[bv, .string s] w fun e w' => e = .returned (.bool true) ∧ Only w w' := by
  have e : Value.string s = txt s.data.toList := by
    show Value.string s = .string ⟨s.data.toList.toArray⟩
    apply congrArg
    apply ByteArray.ext; simp
  rw [e]
  by_cases h1 : b.length ≤ 4000
  · by_cases h2 : s.data.toList.length ≤ 4000
    · cases hp : parseE b with
      | ok x q => exact members_good h1 h2 hp hb hT
      | bad x y => exact members_bad h1 h2 hp hb hT
    · exact members_long (Or.inr (by omega)) hb hT
  · exact members_long (Or.inl (by omega)) hb hT
end Go.Proofs.YtfcplpejifmohaaDoor
