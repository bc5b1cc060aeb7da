/-
  Totals.
-/
import Derived.Test.YtnlanemldapfiaaGreatVTot
import Derived.Test.YtnlanemldapfiaaGreatVTots
import Derived.Test.YtnlanemldapfiaaGreatVPl2
import Derived.Carry
namespace Go.Proofs.YtnlanemldapfiaaGreat.se
open Go.RowKit Go.Maps Go.WideMaps Go.Shelf Go.Sort Go.Proofs.YtnlanemldapfiaaGreat.Tb
set_option linter.unusedVariables false
attribute [local go_sem] Oper.semAt_some

theorem zeroTot (w : World) : (zeroValue 37).run Tryz.prog w = .ok (totV (0, 0)) w := by kernel_rfl

/-- one block turns at most -/
theorem turn_row {W W' : World} {row : Option Nat} (hg : W.grownBy W' row) : Turn (fun b => some b = row) W W' := ⟨hg.os, hg.tape, hg.output, hg.size, fun k hk hq => hg.block k hk hq⟩

theorem DurAt.kept {W W' : World} {row : Option Nat} {B mp : Nat} {acc : List UInt8} {fr to : Int} {t : Tr Key Val} (h : DurAt W B mp acc fr to t) (hg : W.grownBy W' row) (hr : ∀ r, row = some r → ∃ o : Obj, W.heap[r]? = some o ∧ o.isCells = false) : DurAt W' B mp acc fr to t := by
  obtain ⟨s, root, ver, rep, hm, htr⟩ := h.met
  refine ⟨cell_kept h.c0 hg hr, cell_kept h.c1 hg hr, cell_kept h.c2 hg hr, cell_kept h.c3 hg hr, s, root, ver, rep, (grownBy_keeps_cells hg hr hm rfl).trans hm, htr.turned (turn_row hg) ?_⟩
  intro b cs fr2 e hb
  obtain ⟨o, ho, hc⟩ := hr b e.symm
  rw [hb] at ho; cases ho; cases hc

/-- where the summing stands -/
structure TotI (w : World) (Mb B mp : Nat) (acc : List UInt8) (fr to : Int) (t : Tr Key Val) (pre : List (EvT t)) (W : World) : Prop where
  dur : DurAt W B mp acc fr to t
  box : W.cell? ⟨Mb + 1, 0, none⟩ = some (.map (some Mb))
  sums : ∃ D, W.ownsMap Tryz.prog 9 totElem Mb pre.length D ∧ SumsD D (pre.map Subtype.val)
  turn : Turn (fun _ => False) w W

theorem turn_later {w A B : World} {row : Option Nat} (h : Turn (fun _ => False) w A) (hg : A.grownBy B row) (hr : ∀ r, row = some r → w.heap.size ≤ r) : Turn (fun _ => False) w B :=
  ⟨hg.os.trans h.os, hg.tape.trans h.tape, hg.output.trans h.output, Nat.le_trans h.size hg.size, fun k hk _ => (hg.block k (Nat.lt_of_lt_of_le hk h.size) (fun e => by have := hr k e.symm; omega)).trans (h.block k hk (fun q => q))⟩

theorem totI_from {w : World} {Mb B mp : Nat} {acc : List UInt8} {fr to : Int} {t : Tr Key Val} {n : Nat} (h1 : w.heap.size ≤ n) (h2 : Mb < n) : OwnFrom n (TotI w Mb B mp acc fr to t) := by
  rintro pre A B' row ⟨i1, i2, ⟨D, i3, i4⟩, i5⟩ hg hr
  have hr2 := fun r e => (hr r e).2
  refine ⟨i1.kept hg hr2, cell_kept i2 hg hr2, ⟨D, i3.kept hg ?_, i4⟩, turn_later i5 hg (fun r e => Nat.le_trans h1 (hr r e).1)⟩
  intro e
  have := (hr Mb e.symm).1
  omega

theorem TotI.grown {w W W' : World} {Mb B mp : Nat} {acc : List UInt8} {fr to : Int} {t : Tr Key Val} {pre : List (EvT t)} (h : TotI w Mb B mp acc fr to t pre W) (hw : w.heap.size ≤ Mb) (hg : W.grownBy W' (some Mb)) (x : EvT t)
    (hs : ∃ D, W'.ownsMap Tryz.prog 9 totElem Mb (pre ++ [x]).length D ∧ SumsD D ((pre ++ [x]).map Subtype.val)) : TotI w Mb B mp acc fr to t (pre ++ [x]) W' := by
  obtain ⟨i1, i2, ⟨D, ⟨es, clock, hb, _⟩, _⟩, i5⟩ := h
  have hr : ∀ r, some Mb = some r → ∃ o : Obj, W.heap[r]? = some o ∧ o.isCells = false := fun r e => by cases e; exact ⟨_, hb, rfl⟩
  exact ⟨i1.kept hg hr, cell_kept i2 hg hr, hs, turn_later i5 hg (fun r e => by cases e; exact hw)⟩

theorem Stays.grown {W W' : World} {n₀ Mb : Nat} (hg : W.grownBy W' (some Mb)) (hM : Mb < n₀) (hb : ∃ o : Obj, W.heap[Mb]? = some o ∧ o.isCells = false) : Stays n₀ W W' := by
  refine ⟨hg.size, fun k o hk ho _ => (hg.block k (Array.getElem?_eq_some_iff.1 ho).1 (fun e => by cases e; omega)).trans ho, fun b cs fr e => (hg.block b (Array.getElem?_eq_some_iff.1 e).1 (fun q => ?_)).trans e⟩
  cases q
  obtain ⟨o, ho, hc⟩ := hb
  rw [e] at ho; cases ho; cases hc

/-- names at a slice -/
def NamR (w : World) (v : Value) (ns : List (List UInt8)) : Prop :=
  ∃ sp cap, v = .slice sp ns.length cap ∧ (0 < ns.length → ∃ g, sp = some ⟨g, 0, none⟩ ∧ ∀ (i : Nat) (x : List UInt8), ns[i]? = some x → w.cell? ⟨g, i, none⟩ = some (strE x))
theorem NamR.of {w : World} {base : Nat} {v : Value} {ns : List (List UInt8)} (h : w.ownsRow base 9 1 v ns.length (ns.map encStr)) : NamR w v ns := by
  have h' := h
  rcases h.2 with ⟨hv, hn⟩ | ⟨g, cap, cur, hv, hg, hh, h1, h2, h3, h4⟩
  · have : ns = [] := List.length_eq_zero_iff.1 hn
    subst this
    exact ⟨none, 0, hv, fun h0 => by simp at h0⟩
  · refine ⟨some ⟨g, 0, none⟩, cap, hv, fun _ => ⟨g, rfl, fun i x hx => ?_⟩⟩
    have hown : w.ownsRow base 9 1 (.slice (some ⟨g, 0, none⟩) ns.length cap) ns.length (ns.map encStr) := by rw [← hv]; exact h
    have hlt : i < ns.length := (List.getElem?_eq_some_iff.1 hx).1
    refine (hown.cellAt i (by omega)).trans ?_
    rw [List.getElem?_map, hx]
    rfl
theorem NamR.later {w w' : World} {v : Value} {l : List (List UInt8)} (h : NamR w v l) (t : Turn (fun _ => False) w w') : NamR w' v l := by
  obtain ⟨sp, cap, h1, h2⟩ := h
  refine ⟨sp, cap, h1, fun h0 => ?_⟩
  obtain ⟨g, e, h3⟩ := h2 h0
  exact ⟨g, e, fun i x hx => turn_cell t (h3 i x hx)⟩

theorem results_vi {fn : Func} (hr : fn.results = #[.tmp 8, .tmp 9]) {W : World} {tmps : Array Value} {u v : Value} (hu : tmps.getD 8 undef = u) (hv : tmps.getD 9 undef = v) : (results fn tmps).run Tryz.prog W = .ok (.tuple #[u, v]) W := by
  have hu' : tmps[8]?.getD undef = u := by simpa using hu
  have hv' : tmps[9]?.getD undef = v := by simpa using hv
  simp only [results, hr]
  simp [hu', hv']

set_option maxRecDepth 100000 in
set_option maxHeartbeats 1000000 in
theorem totals_bad (mp : Nat) (acc : List UInt8) (ha : acc.length ≤ 281474976710656) (fr to : Int) {c : Int} (hc : faultE acc fr to = c) (h0 : c ≠ 0) (w : World) :
    Calls Tryz.prog 10 #[.pointer (some ⟨mp, 0, none⟩), strE acc, .int .i64 fr, .int .i64 to] w fun r w' => r = .returned (.tuple #[.slice none 0 0, .int .i64 c]) ∧ Turn (fun _ => False) w w' := by
  have HF := Lib.hid (fun w => fault_any acc ha fr to w)
  rw [hc] at HF
  have e0 : (c != 0) = true := by simpa using h0
  clear hc h0 ha
  refine (callsIn_wide (n := 10)).1 ?_
  refine callsIn_of_wp_marks Tryz.func10 rfl trivial ?_ rfl
  simp only [Tryz.ntmps10, List.size_toArray, List.length_cons, List.length_nil, Nat.reduceAdd, Nat.reduceSub, Array.replicate_succ, Array.replicate_zero, List.push_toArray, List.append_toArray, List.nil_append, List.cons_append]
  refine wpIn_wide.2 ?_
  go_wp2_with (go_at_call 28; refine (HF.out _).mono ?_; rintro e w1 ⟨rfl, t1⟩)
  refine ⟨_, results_vi (by kernel_rfl) rfl rfl, rfl, t1⟩

theorem keyS {m : List UInt8} (h : m.length ≤ 281474976710656) : keyOf Tryz.prog 9 (strE m) = some (.string m) := by
  have := keyOf_string_mk (P := Tryz.prog) Tryz.underlying9 (s := ⟨m.toArray⟩) (by simp [ByteArray.size, maxLen]; omega)
  simpa using this

theorem totV_wrap (a b : Int) : totV (wr a, wr b) = .agg #[.string ⟨#[]⟩, .int .i64 (wrap64 a), .int .i64 (wrap64 b)] := by
  show Value.agg #[_, .int .i64 (IntKind.i64.wrap a), .int .i64 (IntKind.i64.wrap b)] = _
  rw [IntWalk.i64_left, IntWalk.i64_left]

theorem tot_same {v : Value} {p : Int × Int} {ps : List MemPlace} (h : totElem v = some (totD p, ps)) : v = totV p := by
  obtain ⟨q, rfl, e⟩ := totElem_inv h
  simp only [Prod.mk.injEq, totD, DataW.agg.injEq, List.cons.injEq, DataW.lit.injEq, Lit.int.injEq, and_true, true_and] at e
  rw [show p = q from Prod.ext e.1.1 e.1.2]

def Hold (p : Prop) : Prop := p
theorem hold {p : Prop} (h : Hold p) : p := h
theorem field1 (q c : Int) (w : World) : Sem.run Tryz.prog (Instr.field 37 (.agg #[.string ⟨#[]⟩, .int .i64 q, .int .i64 c]) 1) w = .ok (.int .i64 q) w := by kernel_rfl
theorem field2 (q c : Int) (w : World) : Sem.run Tryz.prog (Instr.field 37 (.agg #[.string ⟨#[]⟩, .int .i64 q, .int .i64 c]) 2) w = .ok (.int .i64 c) w := by kernel_rfl

theorem look_tot {W : World} {Mb n : Nat} {D : DataW Unit} {L : List Ev} (h1 : W.ownsMap Tryz.prog 9 totElem Mb n D) (h2 : SumsD D L) (m : List UInt8) (hm : m.length ≤ 281474976710656) :
    Sem.run Tryz.prog (Instr.lookup 82 (.map (some Mb)) (strE m) false) W = .ok (.agg #[.string ⟨#[]⟩, .int .i64 (qtyOf L m), .int .i64 (cntOf L m)]) W := by
  obtain ⟨v, ps, hrun, hv⟩ := h1.lookup lawS Tryz.underlying82 (zeroTot W) (totElem_mk (0, 0)) (keyS hm)
  rw [h2.at_] at hv
  obtain rfl := tot_same hv
  exact hrun

theorem TotR.kept {W W' : World} {row : Option Nat} {v : Value} {l : List Tot} (h : TotR W v l) (hg : W.grownBy W' row) (hr : ∀ r, row = some r → ∃ o : Obj, W.heap[r]? = some o ∧ o.isCells = false) : TotR W' v l := by
  obtain ⟨sp, cap, h1, h2⟩ := h
  refine ⟨sp, cap, h1, fun h0 => ?_⟩
  obtain ⟨g, e, h3⟩ := h2 h0
  refine ⟨g, e, fun i x hx => ?_⟩
  obtain ⟨c1, c2, c3⟩ := h3 i x hx
  exact ⟨cell_kept c1 hg hr, cell_kept c2 hg hr, cell_kept c3 hg hr⟩

theorem totals_len (L : List Ev) : (totalsOf L).length = (namesOf L).length := by simp [totalsOf]
theorem totals_at {L : List Ev} {k : Nat} (h : k < (namesOf L).length) : (totalsOf L).take (k + 1) = (totalsOf L).take k ++ [((namesOf L)[k], qtyOf L (namesOf L)[k], cntOf L (namesOf L)[k])] := by
  have hk : k < (totalsOf L).length := by rw [totals_len]; exact h
  rw [List.take_add_one, List.getElem?_eq_getElem hk]
  simp [totalsOf]

set_option maxRecDepth 100000 in
set_option maxHeartbeats 4000000 in
theorem totals_ok {w : World} {mp rep : Nat} {t : Tr Key Val} (h : MetR w mp t rep) (hE : ∀ x ∈ t.list.map Prod.snd, EvIn x) (hct : t.count ≤ 1000) (acc : List UInt8) (ha : acc.length ≤ 281474976710656) (fr to : Int) (hc : faultE acc fr to = 0) :
    Calls Tryz.prog 10 #[.pointer (some ⟨mp, 0, none⟩), strE acc, .int .i64 fr, .int .i64 to] w fun r w' => ∃ v, r = .returned (.tuple #[v, .int .i64 0]) ∧ TotR w' v (totalsOf (evsOf t acc fr to)) ∧ Turn (fun _ => False) w w' := by
  obtain ⟨hz, root, ver, hv, hm, hr⟩ := h
  have HF := Lib.hid (fun w => fault_any acc ha fr to w)
  rw [hc] at HF
  have HM := Lib.hid hm
  have HR := Lib.hid hr
  have HE := Lib.hid hE
  have HZ := Lib.hid hz
  have HCT := Lib.hid hct
  have HW : w.heap.size ≤ w.heap.size := Nat.le_refl _
  have hmm := @run_makeMap Tryz.prog
  clear hc ha hm hr hE hz hv hct HW
  refine (callsIn_wide (n := 10)).1 ?_
  refine callsIn_of_wp_marks Tryz.func10 rfl trivial ?_ rfl
  simp only [Tryz.ntmps10, List.size_toArray, List.length_cons, List.length_nil, Nat.reduceAdd, Nat.reduceSub, Array.replicate_succ, Array.replicate_zero, List.push_toArray, List.append_toArray, List.nil_append, List.cons_append]
  refine wpIn_wide.2 ?_
  go_wp2_with (go_at_call 28; refine (HF.out _).mono ?_; rintro e w1 ⟨rfl, t1⟩)
  have HT3 := Lib.hid ((t1.trans (turnBox w1 (.map #[] 0)) (fun _ _ q => q)).trans (turnBox _ (.cells #[.map (some w1.heap.size)] 82)) (fun _ _ q => q))
  have hbx := cell_new (w1.alloc (.map #[] 0)) #[.map (some w1.heap.size)] 82 0
  rw [World.size_alloc] at hbx
  have hown0 := (World.ownsMap_made (H := Unit) w1 Tryz.prog 9 totElem).alloc (.cells #[.map (some w1.heap.size)] 82)
  have HMW := Lib.hid (show w.heap.size ≤ w1.heap.size from t1.size)
  have hsz : ((w1.alloc (.map #[] 0)).alloc (.cells #[.map (some w1.heap.size)] 82)).heap.size = w1.heap.size + 2 := by simp
  go_at_call 29
  refine (during_any mp acc fr to _ (HM.out.later HT3.out (fun q => q)) (HR.out.later HT3.out)).mono ?_
  rintro r w4 ⟨rfl, hd, t4⟩
  have ht4 := HT3.out.trans t4 (fun _ _ q => q)
  have hbox := turn_cell t4 hbx
  have hown := hown0.kept (grow_of t4) (by simp)
  have hsz4 := t4.size
  rw [hsz] at hsz4 hd
  clear hbx hown0 HT3 t1 HM HR t4
  rw [hsz]
  clear hsz
  generalize hMb : w1.heap.size = Mb at *
  generalize hB : Mb + 2 = B at *
  have HD := Lib.hid hd
  have HBOX := Lib.hid hbox
  have HOWN := Lib.hid hown
  have HT4 := Lib.hid ht4
  have HSZ := Lib.hid hsz4
  have HBB := Lib.hid hB
  clear hd hbox hown ht4 hsz4 hB hMb hmm
  go_wp2_with fail
  refine (wpIn_wide (n := 10)).1 ?_
  refine wpIn_hands rfl (by decide) (gf := 58) (lb := durLb B) rfl trivial (enters_of Tryz.func58 (by kernel_rfl) rfl) (encs := enc1 (t := t)) (fun _ => rfl) (TotI w Mb B mp acc fr to t) (totI_from HT4.out.size (by have := HSZ.out; have := HBB.out; omega)) ⟨HD.out, HBOX.out, ⟨.map [], HOWN.out, sums_nil⟩, HT4.out⟩ (dur1_hands (n := 10 - 1) (fun pre W h => h.dur))
    (fun x a' W => ∃ g, a' = { tmps := #[.pointer (some ⟨mp, 0, none⟩), strE acc, .int .i64 fr, .int .i64 to, undef, undef, undef, undef, .slice none 0 0, .int .i64 0, .int .i64 0, .pointer (some ⟨Mb + 1, 0, none⟩), .pointer (some ⟨g, 0, none⟩), undef, undef, undef, undef, strE acc, .int .i64 fr, .int .i64 to, .int .i64 0, .int .i64 0, .bool false, undef, .map (some Mb), .pointer (some ⟨mp, 0, none⟩), strE acc, .int .i64 fr, .int .i64 to, .func (.func 58) #[] (durLb B), valV x.1, undef, undef, undef, undef, undef, undef, undef, undef, undef, undef, undef, undef, undef, undef, undef, undef, undef, undef, undef, undef, undef, undef, undef, undef, undef, undef, undef, undef, undef, undef, undef, undef, undef, undef, undef, undef, undef, undef], defers := [] } ∧ W.heap[g]? = some (evBox x.1)) ?aAx ?aassign ?abody ?adone
  case aAx =>
    rintro x a' _ A B' row ⟨g, e, hb⟩ hg hr
    exact ⟨g, e, (grownBy_keeps_cells hg (fun r e => (hr r e).2) hb rfl).trans hb⟩
  case aassign =>
    intro m l x W hW
    gi_wp2
    exact ⟨⟨W.heap.size, rfl, heap_alloc_new W _⟩, turnBox W _⟩
  case abody =>
    intro m l pre x a' W hI hlen hax
    obtain ⟨g, rfl, hb⟩ := hax
    obtain ⟨D, h1, h2⟩ := hI.sums
    have hkey : keyOf Tryz.prog 9 (strE x.1.met) = some (.string x.1.met) := keyS (HE.out x.1 x.2).m
    obtain ⟨v, ps, hrun, hv⟩ := h1.lookup lawS Tryz.underlying82 (zeroTot W) (totElem_mk (0, 0)) hkey
    rw [h2.at_] at hv
    obtain rfl := tot_same hv
    have HP := Lib.hid (SumsD.put h2 x.1)
    have hpl : pre.length < maxLen := by have := hlen; have := HCT.out; rw [HZ.out.1.count] at this; unfold maxLen; omega
    generalize qtyOf (pre.map Subtype.val) x.1.met = q at *
    generalize cntOf (pre.map Subtype.val) x.1.met = c at *
    have hT1 := turnBox W (.cells #[.string ⟨#[]⟩, .int .i64 q, .int .i64 c] 37)
    have n1 := cell_new W #[.string ⟨#[]⟩, .int .i64 q, .int .i64 c] 37 1
    have n2 := cell_new W #[.string ⟨#[]⟩, .int .i64 q, .int .i64 c] 37 2
    have hI1 := (totI_from (acc := acc) (fr := fr) (to := to) (t := t) (B := B) (mp := mp) HT4.out.size (show Mb < w4.heap.size by have := HSZ.out; have := HBB.out; omega)).alloc (.cells #[.string ⟨#[]⟩, .int .i64 q, .int .i64 c] 37) hI
    have h1' := h1.alloc (.cells #[.string ⟨#[]⟩, .int .i64 q, .int .i64 c] 37)
    have hbox := hI.box
    obtain ⟨⟨b0, b1, b2, b3, b4⟩, _⟩ := ev_open hb
    obtain ⟨W1, hW1⟩ : ∃ W1, W.alloc (.cells #[.string ⟨#[]⟩, .int .i64 q, .int .i64 c] 37) = W1 := ⟨_, rfl⟩
    rw [hW1] at hT1 n1 n2 hI1 h1'
    obtain ⟨W2, hrun2, h3, hg3⟩ := h1'.update lawS Tryz.underlying82 hpl hkey (totElem_mk (wr (q + x.1.qty), wr (c + 1)))
    rw [totV_wrap] at hrun2
    have hbox1 := turn_cell hT1 hbox
    have d2 := turn_cell hT1 b2
    have d3 := turn_cell hT1 b3
    have HI1 := Lib.hid hI1
    have HST := Lib.hid ((Stays.turn (n₀ := w4.heap.size) hT1).trans (Stays.grown hg3 (by have := HSZ.out; have := HBB.out; omega) (by obtain ⟨es, ck, hh, _⟩ := h1'; exact ⟨_, hh, rfl⟩)))
    have HG3 := Lib.hid hg3
    have HO3 := Lib.hid h3
    clear hI1 h1 h1' h2 hT1 hg3 h3 hI hb hlen b0 b1 b4 hkey hpl hv
    gi_wp2
    refine ⟨HST.out, HI1.out.grown HMW.out HG3.out x ⟨D.put (.string x.1.met) (totD (wr (q + x.1.qty), wr (c + 1))), ?_, ?_⟩⟩
    · rw [List.length_append]; exact HO3.out
    · rw [List.map_append]; exact HP.out
  case adone =>
    intro D W xs hDe hS hI hmk
    have hD := Nat.le_of_eq hDe
    clear hDe
    obtain ⟨Dm, h1, h2⟩ := hI.sums
    have hn : xs.length ≤ 1000 := by
      have e0 := congrArg List.length hS
      rw [List.length_map] at e0
      have e : xs.length = (evsOf t acc fr to).length := e0
      have h3 : (evsOf t acc fr to).length ≤ (t.list.map Prod.snd).length := List.length_filter_le _ _
      have h4 := HCT.out
      rw [HZ.out.1.count] at h4
      rw [List.length_map] at h3
      omega
    have hks : ∀ x, Maps.has Dm (.string x) = true → x.length ≤ 281474976710656 := fun x hx => by
      obtain ⟨y, hy, e⟩ := List.mem_map.1 ((h2.has x).1 hx)
      rw [hS] at hy
      rw [← e]
      exact (HE.out y (List.mem_filter.1 hy).1).m
    rw [hS] at h2
    have hks2 : ∀ m ∈ namesOf (evsOf t acc fr to), m.length ≤ 281474976710656 := fun m hm => hks m ((h2.has m).2 ((mem_namesOf _ m).1 hm))
    have HSU := Lib.hid (show SumsD Dm (evsOf t acc fr to) from h2)
    clear hS h2
    obtain ⟨L, hL⟩ : ∃ L, evsOf t acc fr to = L := ⟨_, rfl⟩
    rw [hL] at HSU
    rw [hL] at hks2
    have HLE := Lib.hid hL
    clear hL
    have HRI := Lib.hid (rising_any h1 hn hks)
    have HO := Lib.hid h1
    have HT := Lib.hid hI.turn
    have hbx := hI.box
    have HMK := Lib.hid hmk
    have HKS := Lib.hid hks2
    have HDD := Lib.hid (show w.heap.size ≤ D from Nat.le_trans HT4.out.size hD)
    have HN := Lib.hid hn
    clear hn hks hks2 h1 hI hmk HE HCT HZ HD HBOX HOWN HT4 HSZ HBB HMW HF hD
    go_wp2_with fail
    go_at_call 30
    refine HRI.out.mono ?_
    rintro e w5 ⟨v5, met, rfl, hnd, hmem, hlen5, hrow, t5⟩
    have es := names_sorted hnd (fun x => (hmem x).trans (HSU.out.has x))
    have el : met.length = (namesOf L).length := by rw [← es, List.length_mergeSort]
    rw [es, el] at hrow
    obtain ⟨sp, cap, rfl, hc5⟩ := NamR.of hrow
    have HC5 := Lib.hid hc5
    have HO5 := Lib.hid (HO.out.kept (grow_of t5) (by simp))
    have hbx5 := turn_cell t5 hbx
    have HT5 := Lib.hid (HT.out.trans t5 (fun _ _ q => q))
    have HMK5 := Lib.hid (turn_heap t5 HMK.out)
    have HN5 := Lib.hid (show (namesOf L).length ≤ 1000 by have := HN.out; omega)
    clear hbx hc5 hrow es el hnd hmem hlen5 t5 HO HT HMK HRI HN
    go_wp2_with fail
    have HNN := Lib.hid (show (namesOf L).length ≤ 9223372036854775807 by have := HN5.out; omega)
    go_loopw [14, 50] (fun v i wr => ∃ (k : Nat) (l1 : List Tot) (sp2 : Option Addr) (cap2 : Nat), k ≤ (namesOf L).length ∧ l1 = (totalsOf L).take k ∧ i = .int .i64 k ∧ v = .slice sp2 l1.length cap2 ∧ TotO wr w5.heap.size (.slice sp2 l1.length cap2) l1 ∧ Below w5.heap.size w5 wr)
      (fun _ i _ => (namesOf L).length - (intOf i).toNat)
    case atStart => exact ⟨0, [], none, 0, Nat.zero_le _, rfl, rfl, rfl, TotO.nil _ _, Below.refl _ _⟩
    case round =>
      obtain ⟨k, l1, sp2, cap2, hk, hl1, rfl, rfl, hto, hbl⟩ := hrel
      have tn : Turn (fun _ => False) w5 wr := Below.turn hbl _
      by_cases hlt : k < (namesOf L).length
      · obtain ⟨g5, e5, hc6⟩ := HC5.out (by omega)
        subst e5
        have hcm := turn_cell tn (hc6 k _ (List.getElem?_eq_getElem hlt))
        have hbxr := turn_cell tn hbx5
        have hor := HO5.out.kept (grow_of tn) (by simp)
        have hml := HKS.out (namesOf L)[k] (List.getElem_mem hlt)
        have hlk := look_tot hor HSU.out (namesOf L)[k] hml
        have hT := totals_at hlt
        rw [← hl1] at hT
        have i0 : (0 : Int) ≤ (k : Int) := by omega
        have i1 : (k : Int) < ((namesOf L).length : Int) := by omega
        have i2 : (k : Int) ≤ 1000 := by have := HN5.out; omega
        have HL5 := Lib.hid (show l1.length ≤ 1000000 by rw [hl1, List.length_take]; have := HN5.out; omega)
        obtain ⟨l2, hl2⟩ : ∃ l2, l1 ++ [((namesOf L)[k], qtyOf L (namesOf L)[k], cntOf L (namesOf L)[k])] = l2 := ⟨_, rfl⟩
        rw [hl2] at hT
        have HL2 := Lib.hid hl2
        have HTO := Lib.hid hto
        have HBL := Lib.hid hbl
        have HLT := Lib.hid hlt
        have HTT := Lib.hid hT
        clear hl2 hto hbl hT hc6 hor hml hl1 hk
        generalize (namesOf L)[k] = m at *
        clear hlt
        generalize qtyOf L m = q at *
        generalize cntOf L m = c at *
        have fd1 := fun W => field1 q c W
        have fd2 := fun W => field2 q c W
        have x0 := cell_new wr #[strE m, .int .i64 q, .int .i64 c] 37 0
        go_wp2_with (at_builtin; refine hold ?_)
        unfold Hold
        refine append_tot rfl _ _ rfl (base := w5.heap.size) (l := l1) (y := (m, q, c)) (g := wr.heap.size) rfl rfl (HTO.out.later (turnBox _ _)) ?c0 ?c1 ?c2 HL5.out ?cb ?_
        case c0 => exact cell_new _ _ _ 0
        case c1 => exact cell_new _ _ _ 1
        case c2 => exact cell_new _ _ _ 2
        case cb => rw [World.size_alloc]; exact Nat.le_succ_of_le tn.size
        intro sp3 cap3 w6 h6 hb6 hs6 hk6
        rw [HL2.out] at h6 ⊢
        go_wp2_with fail
        go_roundw
        case rel => exact ⟨k + 1, l2, sp3, cap3, HLT.out, HTT.out.symm, by go_num, rfl, h6, (HBL.out.alloc tn.size _).trans hb6⟩
        case measure => have := HLT.out; simp [intOf]; omega
      · have hk0 : k = (namesOf L).length := by omega
        subst hk0
        have hl2 : l1 = totalsOf L := by rw [hl1, ← totals_len, List.take_length]
        rw [hl2] at hto
        have i1 : ((namesOf L).length : Int) < ((namesOf L).length : Int) ↔ False := by simp
        have HTR := Lib.hid hto.toR
        have HMR := Lib.hid (turn_heap tn HMK5.out)
        have HTE := Lib.hid (HT5.out.trans tn (fun _ _ q => q))
        rw [hl2]
        clear hlt hk hl1 hl2 hto hbl tn hbx5
        go_wp2_with fail
        refine ⟨by simp, .inl ⟨_, _, rfl, run_takeDeferred HMR.out, ?_⟩⟩
        refine ⟨_, results_vi (by kernel_rfl) rfl rfl, _, rfl, ?_, ?_⟩
        · rw [HLE.out]
          exact HTR.out.kept (grownBy_putObj' _ _ _) (fun r e => by cases e; exact ⟨_, HMR.out, rfl⟩)
        · exact turn_later HTE.out (grownBy_putObj' _ _ _) (fun r e => by cases e; exact HDD.out)
end Go.Proofs.YtnlanemldapfiaaGreat.se
