/-
  Accounts.
-/
import Derived.Test.YtnlanemldapfiaaGreatVTotal
namespace Go.Proofs.YtnlanemldapfiaaGreat.se
open Go.RowKit Go.Maps Go.WideMaps Go.Shelf Go.Sort Go.Proofs.YtnlanemldapfiaaGreat.Tb
set_option linter.unusedVariables false
attribute [local go_sem] Oper.semAt_some

/-- a number in a map -/
abbrev intV (c : Int) : Value := .int .i64 c
noncomputable abbrev intElem : Value → Option (DataW Unit × List MemPlace) := plainElem Tryz.prog 3
theorem zeroInt (w : World) : (zeroValue 3).run Tryz.prog w = .ok (.int .i64 0) w := by kernel_rfl

section
variable {w w' : World}

set_option maxRecDepth 100000 in
set_option maxHeartbeats 1000000 in
theorem riseI_any {mb n : Nat} {D : DataW Unit} (hown : w.ownsMap Tryz.prog 9 intElem mb n D) (hn : n ≤ 1000) (hks : ∀ x, Maps.has D (.string x) = true → x.length ≤ 281474976710656) :
    Calls Tryz.prog 44 #[.map (some mb)] w fun r w' => ∃ (v : Value) (met : List (List UInt8)), r = .returned v ∧ met.Nodup ∧ (∀ x, x ∈ met ↔ Maps.has D (.string x) = true) ∧ met.length ≤ n ∧ w'.ownsRow w.heap.size 9 1 v met.length ((met.mergeSort leB).map encStr) ∧ Turn (fun _ => False) w w' := by
  obtain ⟨i0, hi, hz0, hz1, hz2⟩ := info_parts infoString
  have hbl := hown.lt
  have HKS := Lib.hid hks
  have HM := Lib.hid (Nat.le_trans hown.size_le hn)
  have HSZ := Lib.hid hown.size_le
  clear hn hks
  go_enter Tryz.func44, Tryz.ntmps44
  go_wp2_with (at_range; refine wpList_range_own _ rfl _ 98 rfl 9 3 lawS Tryz.underlying98 _ mb _ D rfl hown ?_; intro w0 hrg0 hg0 hs0)
  go_frame
  go_loopw [3] (fun v wr => ∃ (left : Lit → Bool) (cnt : Nat) (met : List (List UInt8)), wr.ranges Tryz.prog 9 intElem mb w.heap.size n D left cnt ∧ met.length + cnt ≤ Maps.size D ∧
      wr.ownsRow w.heap.size 9 1 v met.length (met.map encStr) ∧ Collected D left met ∧ Below w.heap.size w wr)
    (fun _ wr => wr.rangeLeft mb w.heap.size)
  case atStart =>
    exact ⟨_, _, [], hrg0, by simp, World.ownsRow_nil _ _ _ _, Collected.start D, (Below.refl _ _).grown hg0 (Nat.le_refl _) (fun j hj => by cases hj)⟩
  case round =>
    obtain ⟨left, cnt, met, hrg, hcs, hrow, hC, hnx⟩ := hrel
    have HC := Lib.hid hC
    have HCS := Lib.hid hcs
    have HR := Lib.hid hrow
    clear hC hcs hrow
    go_wp2_with (at_next; refine wpList_next_ranges _ rfl _ rfl 9 lawS intElem encStr intV (fun key kl hk => by obtain ⟨x, hx, _⟩ := Maps.keyOf_str Tryz.underlying9 hk; exact ⟨x, hx⟩) (fun v y hv => by obtain ⟨p, rfl, _⟩ := plainElem_int_inv Tryz.underlying3 hv; exact ⟨p, rfl⟩) mb w.heap.size _ _ _ _ rfl hrg ?_ ?_)
    · intro hc0 hl0
      have HL := Lib.hid hl0
      clear hl0 hc0
      have hlen : met.length < 4611686018427387904 := by
        have h2 := HCS.out
        have h3 := HM.out
        omega
      have HN := Lib.hid hlen
      clear hlen
      go_wp2_with (go_at_call 59; refine (sort_any HR.out rfl HN.out).mono ?_; rintro r w2 ⟨rfl, hrow2, hg2⟩)
      go_ret
      refine ⟨_, met, rfl, HC.out.1, fun x => ?_, ?_, hrow2, Below.turn (hnx.grown hg2 hnx.size (fun j hj => ?_)) _⟩
      · rw [HC.out.2 x, HL.out]; simp
      · have := HCS.out; have := HSZ.out; omega
      · exact (HR.out.lt j hj).1
    · intro x c1 kl yd yp w2 cnt2 hkey hlk hv hat hrg2 hlt hg2 hs2 hen
      obtain ⟨x', ex, rfl, _⟩ := Maps.keyOf_str Tryz.underlying9 hkey
      obtain rfl : x = x' := encStr_inj ex
      have hrow2 := HR.out.kept hg2 (Or.inr (row_ne_iter HR.out hrg).symm)
      have hstep := HC.out.step hlk hat
      have hnx2 : Below w.heap.size w w2 := hnx.grown hg2 hnx.size (fun j hj => by cases hj; exact Nat.le_refl _)
      have HS := Lib.hid hstep
      have HR2 := Lib.hid hrow2
      have HCL := Lib.hid (clone_any ⟨x.toArray⟩ (by have h := HKS.out x ((hstep.2 x).1 (by simp)).1; simpa [ByteArray.size] using h) w2)
      have hlen : met.length + 1 ≤ 1000 := by
        have h2 := HCS.out
        have h3 := HM.out
        omega
      have HN := Lib.hid hlen
      clear hlen hs2 hstep hrow2 hkey hlk hat hv ex
      go_wp2_with (first | (go_at_call 54; refine HCL.out.mono ?_; rintro r w3 ⟨rfl, t3⟩) | (at_builtin; refine wpList_append_own _ rfl _ _ 53 rfl w.heap.size 9 i0 (.string ⟨#[]⟩) 1 16 Tryz.underlying53 hi hz0 hz1 hz2 rfl (by decide) _ _ _ rfl ((ownsRow_turned HR2.out t3 (fun _ _ q => q)).alloc _) ⟨w3.heap.size, 0, none⟩ 1 1 [encStr x] rfl rfl (cell_one_new _ _ _) (by simp [Value.oneCell', encStr]) (by have := HN.out; unfold maxLen; omega) (by have := HN.out; omega) (by have := hnx2.size; have := t3.size; simp; omega) ?_; intro v' w4 hown' hg4 hnil4; go_frame))
      have hr3 := ownsRow_turned HR2.out t3 (fun _ _ q => q)
      have hrg3 := hrg2.kept (grow_of t3) (by simp) (by simp)
      have hrg4 := (hrg3.alloc _).kept hg4 (row_ne_low hr3 hbl) (row_ne_iter hr3 hrg3)
      go_roundw
      case rel =>
        refine ⟨_, cnt2, met ++ [x], hrg4, by have := HCS.out; simp; omega, by simpa using hown', HS.out, ?_⟩
        exact ((hnx2.grown (grow_of t3) hnx2.size (fun j hj => by cases hj)).alloc (Nat.le_trans hnx2.size t3.size) _).grown hg4 (by have := hnx2.size; have := t3.size; simp; omega) (fun j hj => (hr3.lt j hj).1)
      case measure => rw [hrg4.left_eq, hrg.left_eq]; exact hlt
end

theorem NamR.kept {W W' : World} {row : Option Nat} {v : Value} {l : List (List UInt8)} (h : NamR W v l) (hg : W.grownBy W' row) (hr : ∀ r, row = some r → ∃ o : Obj, W.heap[r]? = some o ∧ o.isCells = false) : NamR W' v l := by
  obtain ⟨sp, cap, h1, h2⟩ := h
  refine ⟨sp, cap, h1, fun h0 => ?_⟩
  obtain ⟨g, e, h3⟩ := h2 h0
  exact ⟨g, e, fun i x hx => cell_kept (h3 i x hx) hg hr⟩

/-- the accounts of events, rising -/
def accsOf (l : List Ev) : List (List UInt8) := namesOf (l.map fun x => { x with met := x.acc })
theorem mem_accsOf (l : List Ev) (m : List UInt8) : m ∈ accsOf l ↔ m ∈ l.map Ev.acc := by
  unfold accsOf
  rw [mem_namesOf, List.map_map]
  rfl

structure AccD (D : DataW Unit) (l : List Ev) : Prop where
  map : IsMap D
  has : ∀ m, Maps.has D (.string m) = true ↔ m ∈ l.map Ev.acc
theorem acc_nil : AccD (.map []) [] := ⟨⟨[], rfl⟩, fun m => by simp [Maps.has]⟩
theorem AccD.put {D : DataW Unit} {l : List Ev} (h : AccD D l) (x : Ev) (d : DataW Unit) : AccD (D.put (.string x.acc) d) (l ++ [x]) := by
  refine ⟨?_, fun m => ?_⟩
  · obtain ⟨es, rfl⟩ := h.map
    exact ⟨_, rfl⟩
  · by_cases e : m = x.acc
    · subst e
      rw [has_put_same h.map (isKeyS _)]
      simp
    · rw [has_put_other (string_ne e), h.has m, List.map_append, List.mem_append]
      simp [e]
theorem accs_sorted {met : List (List UInt8)} {l : List Ev} (hn : met.Nodup) (hm : ∀ x, x ∈ met ↔ x ∈ l.map Ev.acc) : met.mergeSort leB = accsOf l :=
  names_sorted hn (fun x => by rw [hm, List.map_map]; rfl)

/-- where the counting stands -/
structure AccI (w : World) (Mb : Nat) (t : Tr Key Val) (pre : List (PrT t)) (W : World) : Prop where
  box : W.cell? ⟨Mb + 1, 0, none⟩ = some (.map (some Mb))
  sums : ∃ D, W.ownsMap Tryz.prog 9 intElem Mb pre.length D ∧ AccD D (pre.map fun p => p.1.2)
  turn : Turn (fun _ => False) w W

theorem accI_from {w : World} {Mb : Nat} {t : Tr Key Val} {n : Nat} (h1 : w.heap.size ≤ n) (h2 : Mb < n) : OwnFrom n (AccI w Mb t) := by
  rintro pre A B' row ⟨i2, ⟨D, i3, i4⟩, i5⟩ hg hr
  have hr2 := fun r e => (hr r e).2
  refine ⟨cell_kept i2 hg hr2, ⟨D, i3.kept hg ?_, i4⟩, turn_later i5 hg (fun r e => Nat.le_trans h1 (hr r e).1)⟩
  intro e
  have := (hr Mb e.symm).1
  omega

theorem AccI.grown {w W W' : World} {Mb : Nat} {t : Tr Key Val} {pre : List (PrT t)} (h : AccI w Mb t pre W) (hw : w.heap.size ≤ Mb) (hg : W.grownBy W' (some Mb)) (x : PrT t)
    (hs : ∃ D, W'.ownsMap Tryz.prog 9 intElem Mb (pre ++ [x]).length D ∧ AccD D ((pre ++ [x]).map fun p => p.1.2)) : AccI w Mb t (pre ++ [x]) W' := by
  obtain ⟨i2, ⟨D, ⟨es, clock, hb, _⟩, _⟩, i5⟩ := h
  have hr : ∀ r, some Mb = some r → ∃ o : Obj, W.heap[r]? = some o ∧ o.isCells = false := fun r e => by cases e; exact ⟨_, hb, rfl⟩
  exact ⟨cell_kept i2 hg hr, hs, turn_later i5 hg (fun r e => by cases e; exact hw)⟩

theorem results_2 {fn : Func} (hr : fn.results = #[.tmp 2]) {W : World} {tmps : Array Value} {u : Value} (hu : tmps.getD 2 undef = u) : (results fn tmps).run Tryz.prog W = .ok u W := by
  have hu' : tmps[2]?.getD undef = u := by simpa using hu
  simp only [results, hr]
  simp [hu']

set_option maxRecDepth 100000 in
set_option maxHeartbeats 4000000 in
/-- **Accounts** -/
theorem accounts_any {w : World} {mp rep : Nat} {t : Tr Key Val} (h : MetR w mp t rep) (hE : ∀ x ∈ t.list.map Prod.snd, EvIn x) (hct : t.count ≤ 1000) :
    Calls Tryz.prog 18 #[.pointer (some ⟨mp, 0, none⟩)] w fun r w' => ∃ v, r = .returned v ∧ NamR w' v (accsOf (t.list.map Prod.snd)) ∧ Turn (fun _ => False) w w' := by
  obtain ⟨hz, root, ver, hv, hm, hr⟩ := h
  have HM := Lib.hid hm
  have HR := Lib.hid hr
  have HE := Lib.hid hE
  have HZ := Lib.hid hz
  have HCT := Lib.hid hct
  have hmm := @run_makeMap Tryz.prog
  clear hm hr hE hz hv hct
  refine (callsIn_wide (n := 10)).1 ?_
  refine callsIn_of_wp_marks Tryz.func18 rfl trivial ?_ rfl
  simp only [Tryz.ntmps18, List.size_toArray, List.length_cons, List.length_nil, Nat.reduceAdd, Nat.reduceSub, Array.replicate_succ, Array.replicate_zero, List.push_toArray, List.append_toArray, List.nil_append, List.cons_append]
  refine wpIn_wide.2 ?_
  have HT3 := Lib.hid ((turnBox w (.map #[] 0)).trans (turnBox _ (.cells #[.map (some w.heap.size)] 98)) (fun _ _ q => q))
  have hbx := cell_new (w.alloc (.map #[] 0)) #[.map (some w.heap.size)] 98 0
  rw [World.size_alloc] at hbx
  have hown0 := (World.ownsMap_made (H := Unit) w Tryz.prog 9 intElem).alloc (.cells #[.map (some w.heap.size)] 98)
  have hsz : ((w.alloc (.map #[] 0)).alloc (.cells #[.map (some w.heap.size)] 98)).heap.size = w.heap.size + 2 := by simp
  go_wp2_with (go_at_call 42; refine (kept_any _ _).mono ?_; rintro e w1 ⟨rfl, rfl⟩)
  go_at_call 43
  refine (tall_at _ _).mono ?_
  rintro r w4 ⟨B1, B2, rfl, b2, b1, t4⟩
  have ht4 := HT3.out.trans t4 (fun _ _ q => q)
  have hbox := turn_cell t4 hbx
  have hown := hown0.kept (grow_of t4) (by simp)
  have hsz4 := t4.size
  rw [hsz] at hsz4
  have HMW := Lib.hid (Nat.le_refl w.heap.size)
  clear hbx hown0 HT3 t4 hsz
  obtain ⟨Mb, hMb⟩ : ∃ Mb, w.heap.size = Mb := ⟨_, rfl⟩
  have HMM := Lib.hid hMb
  rw [hMb] at hbox hown hsz4 ⊢
  have HB1 := Lib.hid b1
  have HB2 := Lib.hid b2
  have HM4 := Lib.hid (HM.out.later ht4 (fun q => q))
  have HR4 := Lib.hid (HR.out.later ht4)
  have HBOX := Lib.hid hbox
  have HOWN := Lib.hid hown
  have HT4 := Lib.hid ht4
  have HSZ := Lib.hid hsz4
  clear hbox hown ht4 hsz4 hMb hmm b1 b2 HM HR
  go_wp2_with fail
  refine (wpIn_wide (n := 10)).1 ?_
  refine wpIn_rangeFunc_ownH rfl (by decide) (gf := 95) (lb := #[.pointer (some ⟨B2, 0, none⟩)]) rfl trivial (enters_of Tryz.func95 (by kernel_rfl) rfl) (tall_stops (n := 10 - 1) HB2.out HB1.out HM4.out HR4.out) KeepsN.trans keepsN_b (Below.refl _ _) (fun _ => rfl)
    (AccI w Mb t) (fun _ _ _ => False) (accI_from HT4.out.size (by have := HSZ.out; omega)) ?aIx ⟨HBOX.out, ⟨.map [], HOWN.out, acc_nil⟩, HT4.out⟩ (fun x a' W => ∃ g, a' = { tmps := #[.pointer (some ⟨mp, 0, none⟩), undef, .slice none 0 0, .pointer (some ⟨Mb + 1, 0, none⟩), undef, .pointer (some ⟨g, 0, none⟩), .map (some Mb), .pointer (some ⟨mp, 0, none⟩), .pointer (some ⟨mp, 2, none⟩), .func (.func 95) #[] #[.pointer (some ⟨B2, 0, none⟩)], keyV x.1.1, valV x.1.2, undef, undef, undef, undef, undef, undef, undef], defers := [] } ∧ W.heap[g]? = some (evBox x.1.2)) ?aAx ?aassign ?abody ?adone ?astop
  case aassign =>
    intro l2 pre x W K hI hK
    gi_wp2
    have tt : Turn (fun _ => False) W (W.alloc (evBox x.1.2)) := turnBox W _
    exact hK _ (W.alloc (evBox x.1.2)) ⟨tt.size, fun k o _ hk _ => turn_heap tt hk⟩ (KeepsN.turn tt (fun _ _ _ q => q.elim)) ((accI_from HT4.out.size (by have := HSZ.out; omega)).alloc _ hI) ⟨W.heap.size, rfl, heap_alloc_new W _⟩
  case aIx => exact fun _ _ _ _ _ h _ _ => False.elim h
  case aAx =>
    rintro x a' _ A B' row ⟨g, e, hb⟩ hg hr
    exact ⟨g, e, (grownBy_keeps_cells hg (fun r e => (hr r e).2) hb rfl).trans hb⟩
  case astop => exact fun _ _ _ _ _ _ h _ => False.elim h
  case abody =>
    intro l2 pre x a' W hl2 hrec hI hax hlen
    obtain ⟨g, rfl, hb⟩ := hax
    obtain ⟨D, h1, h2⟩ := hI.sums
    have hkey : keyOf Tryz.prog 9 (strE x.1.2.acc) = some (.string x.1.2.acc) := keyS (HE.out x.1.2 (List.mem_map.2 ⟨x.1, x.2, rfl⟩)).a
    obtain ⟨c, hrun, hat, hwc⟩ := h1.lookup_int lawS Tryz.underlying98 Tryz.underlying3 (zeroInt W) hkey
    have HP := Lib.hid (AccD.put h2 x.1.2 (.lit (.int .i64 (wrap64 (c + 1)))))
    have hpl : pre.length < maxLen := by have := hlen; have := HCT.out; rw [HZ.out.1.count] at this; unfold maxLen; omega
    obtain ⟨W2, hrun2, h3, hg3⟩ := h1.update lawS Tryz.underlying98 hpl hkey (plainElem_int Tryz.underlying3 (wrap64_wf (c + 1)))
    have hbox := hI.box
    obtain ⟨⟨b0, b1, b2, b3, b4⟩, _⟩ := ev_open hb
    have HI1 := Lib.hid hI
    have HST := Lib.hid (Stays.grown (n₀ := w4.heap.size) hg3 (by have := HSZ.out; omega) (by obtain ⟨es, ck, hh, _⟩ := h1; exact ⟨_, hh, rfl⟩))
    have HG3 := Lib.hid hg3
    have HO3 := Lib.hid h3
    clear h1 h2 hg3 h3 hI hb hlen b0 b2 b3 b4 hkey hpl hat hwc hrec hl2
    gi_wp2
    refine ⟨⟨HST.out.size, fun k o hk ho hc => HST.out.same k o hk ho (NotRow.of hc)⟩, HST.out.keeps, HI1.out.grown (by have := HMM.out; omega) HG3.out x ⟨D.put (.string x.1.2.acc) (.lit (.int .i64 (wrap64 (c + 1)))), ?_, ?_⟩⟩
    · rw [List.length_append]; exact HO3.out
    · rw [List.map_append]; exact HP.out
  case adone =>
    intro D ys W hD he hI hmk
    obtain ⟨Dm, h1, h2⟩ := hI.sums
    have hl : ys.map (fun p => p.1.2) = t.list.map Prod.snd := by
      have e := congrArg (List.map Prod.snd) he
      rw [List.map_map] at e
      exact e
    have hn : ys.length ≤ 1000 := by
      have e0 := congrArg List.length he
      rw [List.length_map] at e0
      have h4 := HCT.out
      rw [HZ.out.1.count] at h4
      omega
    rw [hl] at h2
    have hks : ∀ x, Maps.has Dm (.string x) = true → x.length ≤ 281474976710656 := fun x hx => by
      obtain ⟨y, hy, e⟩ := List.mem_map.1 ((h2.has x).1 hx)
      rw [← e]
      exact (HE.out y hy).a
    have HRI := Lib.hid (riseI_any h1 hn hks)
    have HSU := Lib.hid h2
    have HT := Lib.hid hI.turn
    have hbx := hI.box
    have HMK := Lib.hid hmk
    have HDD := Lib.hid (show w.heap.size ≤ D from Nat.le_trans HT4.out.size hD)
    clear hn hks h1 h2 hI hmk HE HCT HZ HBOX HOWN HT4 HSZ HMM HMW hD hl
    go_wp2_with fail
    go_at_call 44
    refine HRI.out.mono ?_
    rintro e w5 ⟨v5, met, rfl, hnd, hmem, hlen5, hrow, t5⟩
    have es := accs_sorted hnd (fun x => (hmem x).trans (HSU.out.has x))
    have el : met.length = (accsOf (t.list.map Prod.snd)).length := by rw [← es, List.length_mergeSort]
    rw [es, el] at hrow
    have HN5 := Lib.hid (NamR.of hrow)
    have HT5 := Lib.hid (HT.out.trans t5 (fun _ _ q => q))
    have HMK5 := Lib.hid (turn_heap t5 HMK.out)
    clear hbx hrow es el hnd hmem hlen5 t5 HT HMK HRI
    go_wp2_with fail
    refine ⟨by simp, .inl ⟨_, _, rfl, run_takeDeferred HMK5.out, ?_⟩⟩
    refine ⟨_, results_2 (by kernel_rfl) rfl, _, rfl, ?_, ?_⟩
    · exact HN5.out.kept (grownBy_putObj' _ _ _) (fun r e => by cases e; exact ⟨_, HMK5.out, rfl⟩)
    · exact turn_later HT5.out (grownBy_putObj' _ _ _) (fun r e => by cases e; exact HDD.out)
end Go.Proofs.YtnlanemldapfiaaGreat.se
