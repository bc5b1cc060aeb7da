/-
  Events.
-/
import Derived.Test.YtnlanemldapfiaaGreatVEvs
import Derived.Test.YtnlanemldapfiaaGreatVCopy
import Derived.Test.YtnlanemldapfiaaGreatVIng
import Derived.Test.YtnlanemldapfiaaGreatV5Stab
namespace Go.Proofs.YtnlanemldapfiaaGreat.se
open Go.RowKit Go.Maps Go.WideMaps Go.Shelf Go.Sort Go.Proofs.YtnlanemldapfiaaGreat.Tb
set_option linter.unusedVariables false
attribute [local go_sem] Oper.semAt_some

/-- an event of a list, by its place -/
def evAt (L : List Ev) (i : Nat) : Ev := L.getD i ⟨[], [], [], 0, 0⟩
def cfE (L : List Ev) (i j : Nat) : Int := st.cmpN (evAt L i).at_ (evAt L j).at_
/-- events by instants, those of one instant as they stood -/
def byTime (L : List Ev) : List Ev := (Sorted.srt (Sorted.byT (st.lessOf (cfE L))) (List.range' 0 L.length)).map (evAt L)
theorem byTime_length (L : List Ev) : (byTime L).length = L.length := by
  unfold byTime
  rw [List.length_map, Sorted.srt_length, List.length_range']

theorem less_is (L : List Ev) (i j : Nat) : st.lessOf (cfE L) i j = decide ((evAt L i).at_ < (evAt L j).at_) := by
  unfold st.lessOf cfE st.cmpN
  by_cases h : (evAt L i).at_ < (evAt L j).at_
  · rw [if_pos h]; simp [h]
  · rw [if_neg h]
    split <;> simp [h]

theorem list_ids (L : List Ev) : st.listE (evAt L) (List.range' 0 L.length) = evC L := by
  unfold st.listE evC
  have e : (List.range' 0 L.length).map (evAt L) = L := by
    refine List.ext_getElem (by simp) fun i h1 h2 => ?_
    simp [evAt, List.getD, List.getElem?_eq_getElem h2]
  conv => rhs; rw [← e]
  rw [List.flatMap_map]

set_option maxRecDepth 100000 in
theorem ins_nil (f : Value) (w : World) : Calls Tryz.prog 96 #[.slice none 0 0, .int .i64 0, .int .i64 0, f] w fun e w' => e = .returned (.tuple #[]) ∧ w' = w := by
  go_enter Tryz.func96, Tryz.ntmps96
  go_wp2_with fail
  refine wp_loop_rounds 1 ?_
  rw [rounds_succ]
  go_wp2
  go_end0
  exact ⟨rfl, rfl⟩

set_option maxRecDepth 100000 in
theorem stab_nil (f : Value) (w : World) : Calls Tryz.prog 70 #[.slice none 0 0, .int .i64 0, f] w fun e w' => e = .returned (.tuple #[]) ∧ w' = w := by
  go_enter Tryz.func70, Tryz.ntmps70
  go_wp2_with fail
  refine wp_loop_rounds 1 ?_
  rw [rounds_succ]
  go_wp2_with (go_at_call 96; refine (ins_nil _ _).mono ?_; rintro e w' ⟨rfl, rfl⟩)
  refine wp_loop_rounds 1 ?_
  rw [rounds_succ]
  go_wp2
  go_end0
  exact ⟨rfl, rfl⟩

theorem stable_nil (f : Value) (w : World) : Calls Tryz.prog 45 #[.slice none 0 0, f] w fun e w' => e = .returned (.tuple #[]) ∧ w' = w := by
  go_enter Tryz.func45, Tryz.ntmps45
  go_wp2_with (go_at_call 70; refine (stab_nil _ _).mono ?_; rintro e w' ⟨rfl, rfl⟩)
  go_end0
  exact ⟨rfl, rfl⟩

/-- a world's first blocks alone -/
def cutW (W : World) (g : Nat) : World := { W with heap := W.heap.take g }
theorem cutW_only {W : World} {g : Nat} (hg : g ≤ W.heap.size) : (cutW W g).heap.size = g ∧ st.Only (cutW W g) W := by
  have hs : (cutW W g).heap.size = g := by simp [cutW]; omega
  refine ⟨hs, rfl, rfl, rfl, by rw [hs]; exact hg, fun k hk _ => ?_⟩
  rw [hs] at hk
  show W.heap[k]? = (W.heap.extract 0 g)[k]?
  rw [Array.getElem?_extract, if_pos (by omega), Nat.zero_add]

theorem weakE (L : List Ev) : Sorted.Weak (st.lessOf (cfE L)) := by
  constructor
  · intro x; rw [less_is]; simp
  · intro x y z h1 h2; rw [less_is, decide_eq_true_eq] at h1 h2 ⊢; omega
  · intro x y z h1 h2 h3 h4
    simp only [less_is, decide_eq_false_iff_not] at *
    omega

theorem cmpIsE (L : List Ev) (w0 : World) (n : Nat) : st.CmpIs (evAt L) w0 n (cfE L) := fun W x y _ _ _ => st.cmpEv_any (evAt L x) (evAt L y) W

/-- SortStableFunc of a list of the call's own: what lies below it stays -/
theorem sortEv {W : World} {base : Nat} {v : Value} {L : List Ev} (ho : EvO W base v L) (hl : L.length ≤ 1000000) :
    Calls Tryz.prog 45 #[v, .func (.func 46) #[] #[]] W fun e w' => e = .returned (.tuple #[]) ∧ EvsR w' v (byTime L) ∧ (v = .slice none 0 0 ∧ w' = W ∨ ∃ g, v.ownBlock = some g ∧ base ≤ g ∧ st.Only (cutW W g) w') := by
  rcases ho.form with ⟨rfl, rfl⟩ | ⟨g, cap, rfl, hbg, tail, hh⟩
  · refine (stable_nil _ W).mono ?_
    rintro e w' ⟨rfl, rfl⟩
    exact ⟨rfl, ⟨none, 0, rfl, fun h0 => by simp [byTime_length] at h0⟩, .inl ⟨rfl, rfl⟩⟩
  · have hg : g ≤ W.heap.size := Nat.le_of_lt (Array.getElem?_eq_some_iff.1 hh).1
    obtain ⟨hs, ho2⟩ := cutW_only hg
    have hr : st.Row (evAt L) W g (List.range' 0 L.length) := ⟨_, tail, by rw [list_ids]; exact hh⟩
    refine (st.stable_any (cap := cap) (weakE L) (cmpIsE L (cutW W g) L.length) hr ho2 (by rw [hs]; exact Nat.le_refl _) hl).mono ?_
    rintro e w' ⟨rfl, hr2, ht2⟩
    refine ⟨rfl, ⟨some ⟨g, 0, none⟩, cap, by rw [byTime_length], fun h0 => ⟨g, 0, rfl, fun j x hj => ?_⟩⟩, .inr ⟨g, rfl, hbg, ht2⟩⟩
    unfold byTime at hj
    rw [List.getElem?_map, Option.map_eq_some_iff] at hj
    obtain ⟨i, hi, rfl⟩ := hj
    rw [Nat.zero_add]
    exact hr2.at hi

theorem EvsR.kept {W W' : World} {row : Option Nat} {v : Value} {l : List Ev} (h : EvsR W v l) (hg : W.grownBy W' row) (hr : ∀ r, row = some r → ∃ o : Obj, W.heap[r]? = some o ∧ o.isCells = false) : EvsR W' v l := by
  obtain ⟨sp, cap, h1, h2⟩ := h
  refine ⟨sp, cap, h1, fun h0 => ?_⟩
  obtain ⟨b, o, e, h3⟩ := h2 h0
  refine ⟨b, o, e, fun i x hx => ?_⟩
  obtain ⟨c0, c1, c2, c3, c4⟩ := h3 i x hx
  exact ⟨cell_kept c0 hg hr, cell_kept c1 hg hr, cell_kept c2 hg hr, cell_kept c3 hg hr, cell_kept c4 hg hr⟩

theorem results_8 {fn : Func} (hr : fn.results = #[.tmp 8]) {W : World} {tmps : Array Value} {u : Value} (hu : tmps.getD 8 undef = u) : (results fn tmps).run Tryz.prog W = .ok u W := by
  have hu' : tmps[8]?.getD undef = u := by simpa using hu
  simp only [results, hr]
  simp [hu']

theorem wpIn_app {F : Fence} {n : Nat} {P : Program} {o : Oper} {a : Act} {K : Act → World → Prop} {Q : Exit → Act → World → Prop} {w w' : World} {v v' xv : Value} (s x : Operand) (t : TypeId) (ho : o.op = .call { callee := .builtin .append, args := #[s, x], argTypes := #[t, t] })
    (hs : a.eval s = v) (hx : a.eval x = xv) (hr : (Builtin.append_ #[t, t] o.type #[v, xv]).run P w = .ok v' w') (hK : K (a.put o.dst v') w') : o.wpIn F n P a w K Q := by
  unfold Oper.wpIn
  refine ⟨by simp [Oper.about, ho, resolve, Target.leads, Sem.run_pure], ?_⟩
  rw [Oper.semAt_plain F _ _ (by rw [ho]; intro c hc'; cases hc')]
  simp [execOp, ho, resolve, invoke, builtin, hs, hx, hr, Result.andThen]
  exact hK

theorem EvO.slice {w : World} {base : Nat} {v : Value} {l : List Ev} (h : EvO w base v l) : ∃ sp k cap, v = .slice sp k cap := by
  rcases h.form with ⟨rfl, _⟩ | ⟨g, cap, rfl, _⟩
  · exact ⟨_, _, _, rfl⟩
  · exact ⟨_, _, _, rfl⟩

theorem cell_box {W : World} {b : Nat} {v : Value} {ty : TypeId} (h : W.heap[b]? = some (.cells #[v] ty)) : W.cell? ⟨b, 0, none⟩ = some v := by simp [World.cell?, h]
theorem box_row {W W2 w' : World} {Lb n₀ : Nat} {v : Value} {l : List Ev} (h : W.heap[Lb]? = some (.cells #[v] 22)) (hw : Turn (fun _ => False) W W2) (ho : EvO W n₀ v l) (hg : W2.grownBy w' v.ownBlock) (hL : Lb < n₀) : w'.cell? ⟨Lb, 0, none⟩ = some v ∧ w'.frozen? ⟨Lb, 0, none⟩ = false := by
  have h2 := turn_heap hw h
  have h3 : w'.heap[Lb]? = some (.cells #[v] 22) := (hg.block Lb (Array.getElem?_eq_some_iff.1 h2).1 (fun e => by
    rcases ho.form with ⟨rfl, _⟩ | ⟨g, cap, rfl, hgg, _⟩
    · cases e
    · simp [Value.ownBlock] at e; omega)).trans h2
  exact ⟨cell_box h3, by simp [World.frozen?, h3]⟩

set_option maxRecDepth 100000 in
set_option maxHeartbeats 4000000 in
theorem events_ok {w : World} {mp rep : Nat} {t : Tr Key Val} (h : MetR w mp t rep) (hE : ∀ x ∈ t.list.map Prod.snd, EvIn x) (hct : t.count ≤ 1000) (acc : List UInt8) (ha : acc.length ≤ 281474976710656) (fr til : Int) (hc : faultE acc fr til = 0) :
    Calls Tryz.prog 19 #[.pointer (some ⟨mp, 0, none⟩), strE acc, .int .i64 fr, .int .i64 til] w fun r w' => ∃ v, r = .returned v ∧ EvsR w' v (byTime (evsOf t acc fr til)) ∧ Turn (fun _ => False) w w' := by
  obtain ⟨hz, root, ver, hv, hm, hr⟩ := h
  have HF := Lib.hid (fun w => fault_any acc ha fr til w)
  rw [hc] at HF
  have hmw : mp < w.heap.size := (Array.getElem?_eq_some_iff.1 hm).1
  have HMPW := Lib.hid hmw
  have HM := Lib.hid hm
  have HR := Lib.hid hr
  have HE := Lib.hid hE
  have HZ := Lib.hid hz
  have HCT := Lib.hid hct
  clear hc ha hm hr hE hz hv hct hmw
  refine (callsIn_wide (n := 10)).1 ?_
  refine callsIn_of_wp_marks Tryz.func19 rfl trivial ?_ rfl
  simp only [Tryz.ntmps19, List.size_toArray, List.length_cons, List.length_nil, Nat.reduceAdd, Nat.reduceSub, Array.replicate_succ, Array.replicate_zero, List.push_toArray, List.append_toArray, List.nil_append, List.cons_append]
  refine wpIn_wide.2 ?_
  go_wp2_with (go_at_call 28; refine (HF.out _).mono ?_; rintro e w1 ⟨rfl, t1⟩)
  have HT3 := Lib.hid (t1.trans (turnBox w1 (.cells #[.slice none 0 0] 22)) (fun _ _ q => q))
  have hbx : (w1.alloc (.cells #[.slice none 0 0] 22)).heap[w1.heap.size]? = some (.cells #[.slice none 0 0] 22) := heap_alloc_new w1 _
  have HMW := Lib.hid (show w.heap.size ≤ w1.heap.size from t1.size)
  have hsz : (w1.alloc (.cells #[.slice none 0 0] 22)).heap.size = w1.heap.size + 1 := by simp
  go_at_call 29
  refine (during_any mp acc fr til _ (HM.out.later HT3.out (fun q => q)) (HR.out.later HT3.out)).mono ?_
  rintro r w4 ⟨rfl, hd, t4⟩
  have ht4 := HT3.out.trans t4 (fun _ _ q => q)
  have hbox := turn_heap t4 hbx
  have hsz4 : (durLb (w1.heap.size + 1)).size = 4 := rfl
  have hb3 : w1.heap.size + 1 + 3 < w4.heap.size := by
    rw [hsz] at hd
    obtain ⟨o, ho, _⟩ := cells_of_cell hd.c3
    exact (Array.getElem?_eq_some_iff.1 ho).1
  rw [hsz] at hd
  clear hbx HT3 t1 HM HR t4 hsz4
  rw [hsz]
  clear hsz
  obtain ⟨Lb, hLb⟩ : ∃ Lb, w1.heap.size = Lb := ⟨_, rfl⟩
  rw [hLb] at hd hbox hb3 HMW ⊢
  obtain ⟨B, hB⟩ : ∃ B, Lb + 1 = B := ⟨_, rfl⟩
  rw [hB] at hd hb3 ⊢
  have HD := Lib.hid hd
  have HBOX := Lib.hid hbox
  have HT4 := Lib.hid ht4
  have HSZ := Lib.hid (show Lb < B ∧ B + 3 < w4.heap.size by omega)
  clear hd hbox ht4 hB hLb hb3
  go_wp2_with fail
  refine (wpIn_wide (n := 10)).1 ?_
  refine wpIn_hands rfl (by decide) (gf := 58) (lb := durLb B) rfl trivial (enters_of Tryz.func58 (by kernel_rfl) rfl) (encs := enc1 (t := t)) (fun _ => rfl) (EvI w Lb B mp acc fr til t w4.heap.size) (evI_from HT4.out.size) ⟨HD.out, ⟨_, HBOX.out, EvO.nil _ _⟩, HT4.out, Nat.le_refl _⟩ (dur1_hands (n := 10 - 1) (fun pre W h => h.dur))
    (fun x a' W => ∃ g, a' = { tmps := #[.pointer (some ⟨mp, 0, none⟩), strE acc, .int .i64 fr, .int .i64 til, undef, undef, undef, undef, .slice none 0 0, .pointer (some ⟨Lb, 0, none⟩), .pointer (some ⟨g, 0, none⟩), strE acc, .int .i64 fr, .int .i64 til, .int .i64 0, .bool false, .pointer (some ⟨mp, 0, none⟩), strE acc, .int .i64 fr, .int .i64 til, .func (.func 58) #[] (durLb B), valV x.1, undef, undef, undef, undef, undef, undef, undef, undef], defers := [] } ∧ W.heap[g]? = some (evBox x.1)) ?aAx ?aassign ?abody ?adone
  case aAx =>
    rintro x a' _ A B' row ⟨g, e, hb⟩ hg hr
    exact ⟨g, e, (grownBy_keeps_cells hg (fun r e => (hr r e).2) hb rfl).trans hb⟩
  case aassign =>
    intro m l x W hW
    gi_wp2
    exact ⟨⟨W.heap.size, rfl, heap_alloc_new W _⟩, turnBox W _⟩
  case abody =>
    intro m l pre x a' W hI hlen hax
    have hnw := hI.size
    obtain ⟨g, rfl, hb⟩ := hax
    obtain ⟨v, hbv, ho⟩ := hI.row
    have HCP := Lib.hid (fun W => copied_any x.1 (HE.out x.1 x.2) W)
    have hpl : pre.length ≤ 1000000 := by have := hlen; have := HCT.out; rw [HZ.out.1.count] at this; omega
    have POST := Lib.hid (fun (W4 w' : World) (v' : Value) t4 ho' hg => ev_post (x := x) (W4 := W4) (w' := w') (v' := v') hI hbv ho t4 ho' hg HSZ.out HMPW.out HMW.out)
    have HO := Lib.hid ho
    have HBV := Lib.hid hbv
    have HB := Lib.hid hb
    have HPL := Lib.hid hpl
    have HNW := Lib.hid hnw
    clear hI ho hbv hb hpl hlen
    gi_wp2
    refine wpIn_region_any (by kernel_rfl) ?_
    try (change wpAnyIn _ _ _ _ _ _ _ _ _ (World.drew _))
    have hw := (like_drew W).turn (fun _ => False)
    obtain ⟨⟨b0, b1, b2, b3, b4⟩, _⟩ := ev_open (turn_heap hw HB.out)
    have cl : W.drew.cell? ⟨Lb, 0, none⟩ = some v := cell_box (turn_heap hw HBV.out)
    obtain ⟨Wc, hWc⟩ : ∃ Wc, W.drew = Wc := ⟨_, rfl⟩
    rw [hWc] at hw b0 b1 b2 b3 b4 cl ⊢
    clear hWc
    refine wpAnyIn_ready (rs := [0, 1]) (by kernel_rfl) (by simp) ?_
    refine AllReadyIn.cons rfl (fun K hK => ?_) (AllReadyIn.cons rfl (fun K hK => ?_) AllReadyIn.nil)
    · (go_simp; (first | (refine ⟨trivial, ?_⟩) | (refine ⟨fun _ h => (by cases h), ?_⟩) | skip); refine hK _ _ ?_; clear hK K)
      refine wpAnyIn_ready (rs := [1]) (by kernel_rfl) (by simp) ?_
      refine AllReadyIn.cons rfl (fun K hK => ?_) AllReadyIn.nil
      (go_simp; (first | (refine ⟨trivial, ?_⟩) | (refine ⟨fun _ h => (by cases h), ?_⟩) | skip); refine hK _ _ ?_; clear hK K)
      refine wpAnyIn_ready (rs := [2]) (by kernel_rfl) (by simp) ?_
      refine AllReadyIn.cons rfl (fun K hK => ?_) AllReadyIn.nil
      (go_simp; gi_wp2_with ((first | (refine ⟨trivial, fun h => (by cases h), ?_⟩) | (refine ⟨trivial, ?_⟩) | (refine ⟨fun h => (by cases h), ?_⟩) | skip); gi_at_call 26; refine (CallsIn.inRound _ (callsIn_wide.2 (HCP.out _))).mono ?_; rintro e W3 ⟨rfl, t3⟩))
      have cl := turn_cell t3 cl
      have hw := hw.trans t3 (fun _ _ q => q)
      clear t3 b0 b1 b2 b3 b4
      obtain ⟨Wc, rfl⟩ : ∃ Wc, Wc = W3 := ⟨_, rfl⟩
      refine wpAnyIn_ready (rs := [3]) (by kernel_rfl) (by simp) ?_
      refine AllReadyIn.cons rfl (fun K hK => ?_) AllReadyIn.nil
      obtain ⟨gb, hgb⟩ : ∃ gb, Wc.heap.size = gb := ⟨_, rfl⟩
      (go_simp; (first | (refine ⟨trivial, ?_⟩) | (refine ⟨fun _ h => (by cases h), ?_⟩) | skip); refine hK _ _ ?_; clear hK K)
      have ta := turnBox Wc (.cells #[strE x.1.key, strE x.1.acc, strE x.1.met, .int .i64 x.1.qty, .int .i64 x.1.at_] 32)
      have hb4 : (Wc.alloc (.cells #[strE x.1.key, strE x.1.acc, strE x.1.met, .int .i64 x.1.qty, .int .i64 x.1.at_] 32)).heap[Wc.heap.size]? = some (evBox x.1) := heap_alloc_new Wc _
      have cl := turn_cell ta cl
      have hw := hw.trans ta (fun _ _ q => q)
      rw [hgb] at hb4
      obtain ⟨W2, hW2⟩ : ∃ W2, Wc.alloc (.cells #[strE x.1.key, strE x.1.acc, strE x.1.met, .int .i64 x.1.qty, .int .i64 x.1.at_] 32) = W2 := ⟨_, rfl⟩
      rw [hW2] at hb4 cl hw ⊢
      clear ta hgb hW2
      obtain ⟨v', w', hr, ho', hg'⟩ := append_ev (HO.out.later hw) hb4 (by rw [List.length_map]; exact HPL.out) (Nat.le_trans HNW.out hw.size)
      obtain ⟨sp2, k2, cap2, rfl⟩ := ho'.slice
      obtain ⟨cx, fx⟩ := box_row HBV.out hw HO.out hg' (by have := HSZ.out; omega)
      have HWW := Lib.hid hw
      have HO' := Lib.hid ho'
      have HG' := Lib.hid hg'
      clear hw ho' hg' hb4 cl
      refine wpAnyIn_ready (rs := [4]) (by kernel_rfl) (by simp) ?_
      refine AllReadyIn.cons rfl (fun K hK => ?_) AllReadyIn.nil
      refine wpIn_app (.tmp 22) (.tmp 25) 22 rfl rfl rfl hr (hK _ _ ?_)
      clear hK K
      go_simp
      refine wpAnyIn_ready (rs := [5]) (by kernel_rfl) (by simp) ?_
      refine AllReadyIn.cons rfl (fun K hK => ?_) AllReadyIn.nil
      (go_simp; (first | (refine ⟨trivial, ?_⟩) | (refine ⟨fun _ h => (by cases h), ?_⟩) | skip); refine hK _ _ ?_; clear hK K)
      refine wpAnyIn_done (by kernel_rfl) ?_ _
      exact POST.out W2 w' _ HWW.out HO'.out HG'.out
    · (go_simp; (first | (refine ⟨trivial, ?_⟩) | (refine ⟨fun _ h => (by cases h), ?_⟩) | skip); refine hK _ _ ?_; clear hK K)
      refine wpAnyIn_ready (rs := [0, 2]) (by kernel_rfl) (by simp) ?_
      refine AllReadyIn.cons rfl (fun K hK => ?_) (AllReadyIn.cons rfl (fun K hK => ?_) AllReadyIn.nil)
      · (go_simp; (first | (refine ⟨trivial, ?_⟩) | (refine ⟨fun _ h => (by cases h), ?_⟩) | skip); refine hK _ _ ?_; clear hK K)
        refine wpAnyIn_ready (rs := [2]) (by kernel_rfl) (by simp) ?_
        refine AllReadyIn.cons rfl (fun K hK => ?_) AllReadyIn.nil
        (go_simp; gi_wp2_with ((first | (refine ⟨trivial, fun h => (by cases h), ?_⟩) | (refine ⟨trivial, ?_⟩) | (refine ⟨fun h => (by cases h), ?_⟩) | skip); gi_at_call 26; refine (CallsIn.inRound _ (callsIn_wide.2 (HCP.out _))).mono ?_; rintro e W3 ⟨rfl, t3⟩))
        have cl := turn_cell t3 cl
        have hw := hw.trans t3 (fun _ _ q => q)
        clear t3 b0 b1 b2 b3 b4
        obtain ⟨Wc, rfl⟩ : ∃ Wc, Wc = W3 := ⟨_, rfl⟩
        refine wpAnyIn_ready (rs := [3]) (by kernel_rfl) (by simp) ?_
        refine AllReadyIn.cons rfl (fun K hK => ?_) AllReadyIn.nil
        obtain ⟨gb, hgb⟩ : ∃ gb, Wc.heap.size = gb := ⟨_, rfl⟩
        (go_simp; (first | (refine ⟨trivial, ?_⟩) | (refine ⟨fun _ h => (by cases h), ?_⟩) | skip); refine hK _ _ ?_; clear hK K)
        have ta := turnBox Wc (.cells #[strE x.1.key, strE x.1.acc, strE x.1.met, .int .i64 x.1.qty, .int .i64 x.1.at_] 32)
        have hb4 : (Wc.alloc (.cells #[strE x.1.key, strE x.1.acc, strE x.1.met, .int .i64 x.1.qty, .int .i64 x.1.at_] 32)).heap[Wc.heap.size]? = some (evBox x.1) := heap_alloc_new Wc _
        have cl := turn_cell ta cl
        have hw := hw.trans ta (fun _ _ q => q)
        rw [hgb] at hb4
        obtain ⟨W2, hW2⟩ : ∃ W2, Wc.alloc (.cells #[strE x.1.key, strE x.1.acc, strE x.1.met, .int .i64 x.1.qty, .int .i64 x.1.at_] 32) = W2 := ⟨_, rfl⟩
        rw [hW2] at hb4 cl hw ⊢
        clear ta hgb hW2
        obtain ⟨v', w', hr, ho', hg'⟩ := append_ev (HO.out.later hw) hb4 (by rw [List.length_map]; exact HPL.out) (Nat.le_trans HNW.out hw.size)
        obtain ⟨sp2, k2, cap2, rfl⟩ := ho'.slice
        obtain ⟨cx, fx⟩ := box_row HBV.out hw HO.out hg' (by have := HSZ.out; omega)
        have HWW := Lib.hid hw
        have HO' := Lib.hid ho'
        have HG' := Lib.hid hg'
        clear hw ho' hg' hb4 cl
        refine wpAnyIn_ready (rs := [4]) (by kernel_rfl) (by simp) ?_
        refine AllReadyIn.cons rfl (fun K hK => ?_) AllReadyIn.nil
        refine wpIn_app (.tmp 22) (.tmp 25) 22 rfl rfl rfl hr (hK _ _ ?_)
        clear hK K
        go_simp
        refine wpAnyIn_ready (rs := [5]) (by kernel_rfl) (by simp) ?_
        refine AllReadyIn.cons rfl (fun K hK => ?_) AllReadyIn.nil
        (go_simp; (first | (refine ⟨trivial, ?_⟩) | (refine ⟨fun _ h => (by cases h), ?_⟩) | skip); refine hK _ _ ?_; clear hK K)
        refine wpAnyIn_done (by kernel_rfl) ?_ _
        exact POST.out W2 w' _ HWW.out HO'.out HG'.out
      · (go_simp; gi_wp2_with ((first | (refine ⟨trivial, fun h => (by cases h), ?_⟩) | (refine ⟨trivial, ?_⟩) | (refine ⟨fun h => (by cases h), ?_⟩) | skip); gi_at_call 26; refine (CallsIn.inRound _ (callsIn_wide.2 (HCP.out _))).mono ?_; rintro e W3 ⟨rfl, t3⟩))
        have cl := turn_cell t3 cl
        have hw := hw.trans t3 (fun _ _ q => q)
        clear t3 b0 b1 b2 b3 b4
        obtain ⟨Wc, rfl⟩ : ∃ Wc, Wc = W3 := ⟨_, rfl⟩
        refine wpAnyIn_ready (rs := [0, 3]) (by kernel_rfl) (by simp) ?_
        refine AllReadyIn.cons rfl (fun K hK => ?_) (AllReadyIn.cons rfl (fun K hK => ?_) AllReadyIn.nil)
        · (go_simp; (first | (refine ⟨trivial, ?_⟩) | (refine ⟨fun _ h => (by cases h), ?_⟩) | skip); refine hK _ _ ?_; clear hK K)
          refine wpAnyIn_ready (rs := [3]) (by kernel_rfl) (by simp) ?_
          refine AllReadyIn.cons rfl (fun K hK => ?_) AllReadyIn.nil
          obtain ⟨gb, hgb⟩ : ∃ gb, Wc.heap.size = gb := ⟨_, rfl⟩
          (go_simp; (first | (refine ⟨trivial, ?_⟩) | (refine ⟨fun _ h => (by cases h), ?_⟩) | skip); refine hK _ _ ?_; clear hK K)
          have ta := turnBox Wc (.cells #[strE x.1.key, strE x.1.acc, strE x.1.met, .int .i64 x.1.qty, .int .i64 x.1.at_] 32)
          have hb4 : (Wc.alloc (.cells #[strE x.1.key, strE x.1.acc, strE x.1.met, .int .i64 x.1.qty, .int .i64 x.1.at_] 32)).heap[Wc.heap.size]? = some (evBox x.1) := heap_alloc_new Wc _
          have cl := turn_cell ta cl
          have hw := hw.trans ta (fun _ _ q => q)
          rw [hgb] at hb4
          obtain ⟨W2, hW2⟩ : ∃ W2, Wc.alloc (.cells #[strE x.1.key, strE x.1.acc, strE x.1.met, .int .i64 x.1.qty, .int .i64 x.1.at_] 32) = W2 := ⟨_, rfl⟩
          rw [hW2] at hb4 cl hw ⊢
          clear ta hgb hW2
          obtain ⟨v', w', hr, ho', hg'⟩ := append_ev (HO.out.later hw) hb4 (by rw [List.length_map]; exact HPL.out) (Nat.le_trans HNW.out hw.size)
          obtain ⟨sp2, k2, cap2, rfl⟩ := ho'.slice
          obtain ⟨cx, fx⟩ := box_row HBV.out hw HO.out hg' (by have := HSZ.out; omega)
          have HWW := Lib.hid hw
          have HO' := Lib.hid ho'
          have HG' := Lib.hid hg'
          clear hw ho' hg' hb4 cl
          refine wpAnyIn_ready (rs := [4]) (by kernel_rfl) (by simp) ?_
          refine AllReadyIn.cons rfl (fun K hK => ?_) AllReadyIn.nil
          refine wpIn_app (.tmp 22) (.tmp 25) 22 rfl rfl rfl hr (hK _ _ ?_)
          clear hK K
          go_simp
          refine wpAnyIn_ready (rs := [5]) (by kernel_rfl) (by simp) ?_
          refine AllReadyIn.cons rfl (fun K hK => ?_) AllReadyIn.nil
          (go_simp; (first | (refine ⟨trivial, ?_⟩) | (refine ⟨fun _ h => (by cases h), ?_⟩) | skip); refine hK _ _ ?_; clear hK K)
          refine wpAnyIn_done (by kernel_rfl) ?_ _
          exact POST.out W2 w' _ HWW.out HO'.out HG'.out
        · obtain ⟨gb, hgb⟩ : ∃ gb, Wc.heap.size = gb := ⟨_, rfl⟩
          (go_simp; (first | (refine ⟨trivial, ?_⟩) | (refine ⟨fun _ h => (by cases h), ?_⟩) | skip); refine hK _ _ ?_; clear hK K)
          have ta := turnBox Wc (.cells #[strE x.1.key, strE x.1.acc, strE x.1.met, .int .i64 x.1.qty, .int .i64 x.1.at_] 32)
          have hb4 : (Wc.alloc (.cells #[strE x.1.key, strE x.1.acc, strE x.1.met, .int .i64 x.1.qty, .int .i64 x.1.at_] 32)).heap[Wc.heap.size]? = some (evBox x.1) := heap_alloc_new Wc _
          have cl := turn_cell ta cl
          have hw := hw.trans ta (fun _ _ q => q)
          rw [hgb] at hb4
          obtain ⟨W2, hW2⟩ : ∃ W2, Wc.alloc (.cells #[strE x.1.key, strE x.1.acc, strE x.1.met, .int .i64 x.1.qty, .int .i64 x.1.at_] 32) = W2 := ⟨_, rfl⟩
          rw [hW2] at hb4 cl hw ⊢
          clear ta hgb hW2
          refine wpAnyIn_ready (rs := [0]) (by kernel_rfl) (by simp) ?_
          refine AllReadyIn.cons rfl (fun K hK => ?_) AllReadyIn.nil
          (go_simp; (first | (refine ⟨trivial, ?_⟩) | (refine ⟨fun _ h => (by cases h), ?_⟩) | skip); refine hK _ _ ?_; clear hK K)
          obtain ⟨v', w', hr, ho', hg'⟩ := append_ev (HO.out.later hw) hb4 (by rw [List.length_map]; exact HPL.out) (Nat.le_trans HNW.out hw.size)
          obtain ⟨sp2, k2, cap2, rfl⟩ := ho'.slice
          obtain ⟨cx, fx⟩ := box_row HBV.out hw HO.out hg' (by have := HSZ.out; omega)
          have HWW := Lib.hid hw
          have HO' := Lib.hid ho'
          have HG' := Lib.hid hg'
          clear hw ho' hg' hb4 cl
          refine wpAnyIn_ready (rs := [4]) (by kernel_rfl) (by simp) ?_
          refine AllReadyIn.cons rfl (fun K hK => ?_) AllReadyIn.nil
          refine wpIn_app (.tmp 22) (.tmp 25) 22 rfl rfl rfl hr (hK _ _ ?_)
          clear hK K
          go_simp
          refine wpAnyIn_ready (rs := [5]) (by kernel_rfl) (by simp) ?_
          refine AllReadyIn.cons rfl (fun K hK => ?_) AllReadyIn.nil
          (go_simp; (first | (refine ⟨trivial, ?_⟩) | (refine ⟨fun _ h => (by cases h), ?_⟩) | skip); refine hK _ _ ?_; clear hK K)
          refine wpAnyIn_done (by kernel_rfl) ?_ _
          exact POST.out W2 w' _ HWW.out HO'.out HG'.out
  case adone =>
    intro D W xs hDe hS hI hmk
    obtain ⟨v, hbv, ho⟩ := hI.row
    rw [hS] at ho
    have hlen : (evsOf t acc fr til).length ≤ 1000000 := by
      have h3 : (evsOf t acc fr til).length ≤ (t.list.map Prod.snd).length := List.length_filter_le _ _
      have h4 := HCT.out
      rw [HZ.out.1.count] at h4
      rw [List.length_map] at h3
      omega
    have HO := Lib.hid (show EvO W w4.heap.size v (evsOf t acc fr til) from ho)
    have HSO := Lib.hid (sortEv (show EvO W w4.heap.size v (evsOf t acc fr til) from ho) hlen)
    have hcv := cell_box hbv
    have HBV := Lib.hid hbv
    have HMK := Lib.hid hmk
    have HT := Lib.hid hI.turn
    have HDE := Lib.hid hDe
    have HNW := Lib.hid hI.size
    clear ho hlen hbv hmk hI hS hDe HF HE HZ HCT HD HBOX
    go_wp2_with fail
    go_at_call 45
    refine HSO.out.mono ?_
    rintro e w5 ⟨rfl, hr5, h5⟩
    have LOW := Lib.hid (show (∀ k, k < w4.heap.size ∨ k = D → w5.heap[k]? = W.heap[k]?) ∧ (w5.os = W.os ∧ w5.tape = W.tape ∧ w5.output = W.output ∧ w4.heap.size ≤ w5.heap.size) from by
      rcases h5 with ⟨_, rfl⟩ | ⟨g, hg, hbg, ht⟩
      · exact ⟨fun k _ => rfl, rfl, rfl, rfl, HNW.out⟩
      · rcases HO.out.form with ⟨rfl, _⟩ | ⟨g2, cap, rfl, _, tail, hh⟩
        · cases hg
        · simp [Value.ownBlock] at hg
          subst hg
          have hgl : g2 ≤ W.heap.size := Nat.le_of_lt (Array.getElem?_eq_some_iff.1 hh).1
          obtain ⟨hs, ho2⟩ := cutW_only hgl
          have hne : D ≠ g2 := fun e => by
            have := HMK.out
            rw [e, hh] at this; cases this
          refine ⟨fun k hk => ?_, ht.os.trans ho2.os.symm, ht.tape.trans ho2.tape.symm, ht.output.trans ho2.output.symm, Nat.le_trans hbg (by have := ht.size; rw [hs] at this; exact this)⟩
          have hkg : k < g2 := by
            have := HDE.out
            rcases hk with hk | hk
            · omega
            · omega
          exact (ht.block k (by rw [hs]; exact hkg) (fun q => q)).trans (ho2.block k (by rw [hs]; exact hkg) (fun q => q)).symm)
    have hcv5 : w5.cell? ⟨Lb, 0, none⟩ = some v := cell_box ((LOW.out.1 Lb (Or.inl (by have := HSZ.out; omega))).trans HBV.out)
    have HMK5 := Lib.hid ((LOW.out.1 D (Or.inr rfl)).trans HMK.out)
    have HT5 := Lib.hid (show Turn (fun _ => False) w w5 from ⟨LOW.out.2.1.trans HT.out.os, LOW.out.2.2.1.trans HT.out.tape, LOW.out.2.2.2.1.trans HT.out.output, Nat.le_trans HT4.out.size LOW.out.2.2.2.2, fun k hk _ => (LOW.out.1 k (Or.inl (Nat.lt_of_lt_of_le hk HT4.out.size))).trans (HT.out.block k hk (fun q => q))⟩)
    have HR5 := Lib.hid hr5
    have HDD := Lib.hid (show w.heap.size ≤ D by rw [← HDE.out]; exact HT4.out.size)
    clear hr5 h5 hcv LOW
    go_wp2_with fail
    refine ⟨by simp, .inl ⟨_, _, rfl, run_takeDeferred HMK5.out, ?_⟩⟩
    refine ⟨_, results_8 (by kernel_rfl) rfl, _, rfl, ?_, ?_⟩
    · exact HR5.out.kept (grownBy_putObj' _ _ _) (fun r e => by cases e; exact ⟨_, HMK5.out, rfl⟩)
    · exact turn_later HT5.out (grownBy_putObj' _ _ _) (fun r e => by cases e; exact HDD.out)
end Go.Proofs.YtnlanemldapfiaaGreat.se
