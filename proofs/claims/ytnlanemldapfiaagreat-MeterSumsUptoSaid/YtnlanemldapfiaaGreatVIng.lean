/-
  Ingest.
-/
import Derived.Test.YtnlanemldapfiaaGreatVCopy
import Derived.Test.YtnlanemldapfiaaGreatVTab2
import Derived.Conc.MuLone
namespace Go.Proofs.YtnlanemldapfiaaGreat.se
open Go.RowKit Go.Maps Go.WideMaps Go.RwLone Go.Proofs.YtnlanemldapfiaaGreat.Tb
set_option linter.unusedVariables false

/-- a meter at rest -/
def MetR (w : World) (mp : Nat) (t : Tr Key Val) (rep : Nat) : Prop :=
  (t.Sized ∧ Rises t.list) ∧ ∃ root, ∃ ver : Nat, ver ≤ t.count ∧ MetC w mp 0 0 0 root (ver : Int) (rep : Int) ∧ TrAt w (.pointer root) t

theorem MetR.later {w w' : World} {mp rep : Nat} {t : Tr Key Val} (h : MetR w mp t rep) (ht : Turn (fun _ => False) w w') : MetR w' mp t rep := by
  obtain ⟨hz, root, ver, hv, hm, hr⟩ := h
  exact ⟨hz, root, ver, hv, hm.later ht (fun q => q), hr.later ht⟩

theorem putL_new {l : List (Key × Val)} {k : Key} (h : ∀ y ∈ l, y.1 ≠ k) (v : Val) : (putL l k v).length = l.length + 1 := by
  induction l with
  | nil => rfl
  | cons y l ih =>
    rw [putL]
    by_cases h1 : k < y.1
    · rw [if_pos h1]; simp
    · rw [if_neg h1]
      by_cases h2 : y.1 < k
      · rw [if_pos h2, List.length_cons, ih (fun z hz => h z (List.mem_cons_of_mem _ hz)), List.length_cons]
      · exact absurd (eq_of_not h2 h1) (h y (List.mem_cons_self ..))

theorem findL_none_iff {l : List (Key × Val)} {k : Key} (h : findL l k = none) : ∀ y ∈ l, y.1 ≠ k := by
  intro y hy e
  unfold findL at h
  rw [Option.map_eq_none_iff, List.find?_eq_none] at h
  exact h y hy (by simp [e])

theorem count_new {t : Tr Key Val} (hz : t.Sized) (hr : Rises t.list) {k : Key} (h : Tb.get t k = none) (v : Val) : (put t k v).count = t.count + 1 := by
  rw [(sized_put hz k v).count, hz.count, put_list hr, putL_new (findL_none_iff (by rw [← Tb.get_list hr]; exact h))]

theorem rises_put {t : Tr Key Val} (hr : Rises t.list) (k : Key) (v : Val) : Rises (put t k v).list := by
  rw [put_list hr]
  exact rises_putL hr k v

/-- what comes in answer -/
abbrev ansV (b : Bool) (c : Int) : Value := .tuple #[.bool b, .int .i64 c]

section
variable {w w' : World} {mp rep : Nat} {t : Tr Key Val}

theorem results_bi {fn : Func} (hr : fn.results = #[.tmp 4, .tmp 5]) {W : World} {tmps : Array Value} {u v : Value} (hu : tmps.getD 4 undef = u) (hv : tmps.getD 5 undef = v) : (results fn tmps).run Tryz.prog W = .ok (.tuple #[u, v]) W := by
  have hu' : tmps[4]?.getD undef = u := by simpa using hu
  have hv' : tmps[5]?.getD undef = v := by simpa using hv
  simp only [results, hr]
  simp [hu', hv']

set_option maxRecDepth 100000 in
set_option maxHeartbeats 1600000 in
theorem ing_bad (h : MetR w mp t rep) (x : Ev) (hx : EvIn x) {c : Int} (hc : checkE x = c) (h0 : c ≠ 0) :
    Calls Tryz.prog 9 #[.pointer (some ⟨mp, 0, none⟩), valV x] w fun r w' => r = .returned (ansV false c) ∧ MetR w' mp t rep ∧ Turn (fun b => b = mp) w w' := by
  obtain ⟨W1, hW1, tb, bx0, bx1, bx2, bx3, bx4⟩ := ev_box w x
  have HC := Lib.hid (fun w => check_any x hx w)
  rw [hc] at HC
  have e0 : (c != 0) = true := by simpa using h0
  have HM := Lib.hid h
  have HTB := Lib.hid tb
  clear h hx hc tb h0
  go_enter_defers Tryz.func9, Tryz.ntmps9
  go_wp2_with (go_at_call 14; refine (HC.out _).mono ?_; rintro e w2 ⟨rfl, t2⟩)
  have tt := HTB.out.trans t2 (fun _ _ q => q)
  exact ⟨_, results_bi (by kernel_rfl) rfl rfl, rfl, HM.out.later tt, tt.mono (fun _ q => q.elim)⟩

/-- an event's box, hidden -/
structure BoxE (W : World) (g : Nat) (x : Ev) : Prop where
  b0 : W.cell? ⟨g, 0, none⟩ = some (strE x.key)
  b1 : W.cell? ⟨g, 1, none⟩ = some (strE x.acc)
  b2 : W.cell? ⟨g, 2, none⟩ = some (strE x.met)
  b3 : W.cell? ⟨g, 3, none⟩ = some (.int .i64 x.qty)
  b4 : W.cell? ⟨g, 4, none⟩ = some (.int .i64 x.at_)

theorem boxE {W : World} {g : Nat} {x : Ev} (h : W.heap[g]? = some (evBox x)) : BoxE W g x := by
  obtain ⟨⟨c0, c1, c2, c3, c4⟩, _⟩ := ev_open h
  exact ⟨c0, c1, c2, c3, c4⟩

set_option maxRecDepth 100000 in
set_option maxHeartbeats 4000000 in
theorem ing_put (h : MetR w mp t rep) (x : Ev) (hx : EvIn x) (hc : checkE x = 0) (hq : Tb.get t x.key = none) (hn : t.count < 5000) :
    Calls Tryz.prog 9 #[.pointer (some ⟨mp, 0, none⟩), valV x] w fun r w' => r = .returned (ansV false 0) ∧ MetR w' mp (put t x.key x) rep ∧ Turn (fun b => b = mp) w w' := by
  obtain ⟨W1, hW1, tb, bx0, bx1, bx2, bx3, bx4⟩ := ev_box w x
  have hbx : W1.heap[w.heap.size]? = some (evBox x) := by rw [← hW1]; exact heap_alloc_new w _
  obtain ⟨hz, root, ver, hv, hm, hr⟩ := h
  have HC := Lib.hid (fun w => check_any x hx w)
  rw [hc] at HC
  have HM := Lib.hid hm
  have HR := Lib.hid hr
  have HZ := Lib.hid hz
  have HV := Lib.hid hv
  have HTB := Lib.hid tb
  have HB1 := Lib.hid hbx
  have HX := Lib.hid hx
  obtain ⟨B, hB⟩ : ∃ B, w.heap.size = B := ⟨_, rfl⟩
  rw [hB] at bx0 bx1 bx2 bx3 bx4 HB1
  have HBS := Lib.hid hB
  clear hx hc tb hz hv hm hr hbx
  go_enter_defers Tryz.func9, Tryz.ntmps9
  go_wp2_with fail
  clear bx0 bx1 bx2 bx3 bx4 hW1 hB
  go_at_call 14
  refine (HC.out _).mono ?_
  rintro e w2 ⟨rfl, t2⟩
  have HT2 := Lib.hid (HTB.out.trans t2 (fun _ _ q => q))
  have HB2 := Lib.hid (turn_heap t2 HB1.out)
  have HM2 := Lib.hid (HM.out.later HT2.out (fun q => q))
  have HR2 := Lib.hid (HR.out.later HT2.out)
  clear HB1 HM HR HTB t2
  go_wp2_with fail
  go_at_call 21
  refine (Go.MuLone.lock_free Tryz.muLib ⟨mp, 0, none⟩ _ (HM2.out.cell 0) (HM2.out.free 0)).mono ?_
  rintro e wL ⟨rfl, rfl⟩
  go_wp2_with fail
  have hL : MetC (w2.setCell ⟨mp, 0, none⟩ (.int .i32 1)) mp 1 0 0 root (ver : Int) (rep : Int) := HM2.out.set0 1
  have tL : Turn (fun b => b = mp) w2 (w2.setCell ⟨mp, 0, none⟩ (.int .i32 1)) := turn1 w2 mp 0 _
  have rL := HR2.out.turned tL HM2.out.noNode
  have bL : (w2.setCell ⟨mp, 0, none⟩ (.int .i32 1)).heap[B]? = some (evBox x) := (heap_setCell_other (fun e => by have hm := HM2.out; have hb := HB2.out; rw [show B = mp from e, show w2.heap[mp]? = _ from hm] at hb; cases hb) _).trans HB2.out
  obtain ⟨wl, hwl⟩ : ∃ wl, w2.setCell ⟨mp, 0, none⟩ (.int .i32 1) = wl := ⟨_, rfl⟩
  rw [hwl] at hL tL rL bL ⊢
  have HL := Lib.hid hL
  have HTL := Lib.hid ((HT2.out.mono (fun _ q => q.elim)).trans tL (fun _ _ q => q))
  have HRL := Lib.hid rL
  have HBL := Lib.hid bL
  obtain ⟨⟨b0, b1, b2, b3, b4⟩, f0, f1, f2, f3, f4⟩ := ev_open bL
  clear hL tL rL bL hwl HM2 HR2 HT2 HB2
  have HG := Lib.hid (fun (W : World) (hW : Turn (fun _ => False) wl W) => tget_any (HL.out.later hW (fun q => q)) (HRL.out.later hW) x.key)
  have HQ := Lib.hid hq
  have HN := Lib.hid hn
  rw [hq] at HG
  unfold gotV at HG
  clear hq hn
  refine (wpIn_wide (n := 10)).1 ?_
  refine wpIn_mono (Q := NormQ (fun _ a' W' => ∃ g, wl.heap.size ≤ g ∧ a' = ({ tmps := #[.pointer (some ⟨mp, 0, none⟩), valV x, undef, .pointer (some ⟨B, 0, none⟩), .bool false, .int .i64 0, .int .i64 0, .pointer (some ⟨g, 0, none⟩), .bool false, valV x, .int .i64 0, .int .i64 0, .bool false, undef, .pointer (some ⟨mp, 0, none⟩), .bool false, .pointer (some ⟨mp, 0, none⟩), .pointer (some ⟨mp, 0, none⟩), .pointer (some ⟨mp, 0, none⟩), .tuple #[], .pointer (some ⟨mp, 0, none⟩), .pointer (some ⟨mp, 0, none⟩), .pointer (some ⟨mp, 0, none⟩), .tuple #[valV noEv, .bool false], .pointer (some ⟨mp, 0, none⟩), .pointer (some ⟨mp, 0, none⟩), .pointer (some ⟨mp, 2, none⟩), .pointer (some ⟨B, 0, none⟩), keyV x.key, .tuple #[valV noEv, .bool false], valV noEv, .bool false, undef, undef, undef, undef, undef, undef, undef, undef, undef, undef, undef, undef, undef, undef, undef, undef, undef, undef, undef, undef, undef, undef, undef, undef, undef, undef, undef, undef], defers := [{ target := .fn (.func 22) #[], args := #[.pointer (some ⟨mp, 0, none⟩)] }] } : Act) ∧ W'.heap[g]? = some (evBox noEv) ∧ Turn (fun _ => False) wl W')) ?_ ?_
  · refine wpIn_region_any (by kernel_rfl) ?_
    try (change wpAnyIn _ _ _ _ _ _ _ _ _ (World.drew _))
    have b0 := turn_cell ((like_drew wl).turn (fun _ => False)) b0
    have hw0 := (like_drew wl).turn (fun _ => False)
    obtain ⟨W, hW⟩ : ∃ W, wl.drew = W := ⟨_, rfl⟩
    rw [hW] at b0 hw0 ⊢
    clear hW
    have HTW := Lib.hid hw0
    (first | (refine wpAnyIn_take (i := 0) (v := ?_) rfl rfl (by kernel_rfl) (by kernel_rfl) (by kernel_rfl) (fun _ _ _ h => h) ⟨Or.inl ⟨by rfl, ?_⟩, fun _ => rfl⟩ ?_; rotate_left; (intro w'; first | (go_simp; done) | (go_simp; with_reducible rfl))) | (refine wpAnyIn_take (i := 0) (v := undef) rfl rfl (by kernel_rfl) (by kernel_rfl) (by kernel_rfl) (fun _ _ _ h => h) ⟨Or.inr ⟨by rfl, rfl⟩, fun _ => rfl⟩ ?_))
    (first | (refine wpAnyIn_take (i := 1) (v := ?_) rfl rfl (by kernel_rfl) (by kernel_rfl) (by kernel_rfl) (fun _ _ _ h => h) ⟨Or.inl ⟨by rfl, ?_⟩, fun _ => rfl⟩ ?_; rotate_left; (intro w'; first | (go_simp; done) | (go_simp; with_reducible rfl))) | (refine wpAnyIn_take (i := 1) (v := undef) rfl rfl (by kernel_rfl) (by kernel_rfl) (by kernel_rfl) (fun _ _ _ h => h) ⟨Or.inr ⟨by rfl, rfl⟩, fun _ => rfl⟩ ?_))
    (first | (refine wpAnyIn_take (i := 2) (v := ?_) rfl rfl (by kernel_rfl) (by kernel_rfl) (by kernel_rfl) (fun _ _ _ h => h) ⟨Or.inl ⟨by rfl, ?_⟩, fun _ => rfl⟩ ?_; rotate_left; (intro w'; first | (go_simp; done) | (go_simp; with_reducible rfl))) | (refine wpAnyIn_take (i := 2) (v := undef) rfl rfl (by kernel_rfl) (by kernel_rfl) (by kernel_rfl) (fun _ _ _ h => h) ⟨Or.inr ⟨by rfl, rfl⟩, fun _ => rfl⟩ ?_))
    (first | (refine wpAnyIn_take (i := 3) (v := ?_) rfl rfl (by kernel_rfl) (by kernel_rfl) (by kernel_rfl) (fun _ _ _ h => h) ⟨Or.inl ⟨by rfl, ?_⟩, fun _ => rfl⟩ ?_; rotate_left; (intro w'; first | (go_simp; done) | (go_simp; with_reducible rfl))) | (refine wpAnyIn_take (i := 3) (v := undef) rfl rfl (by kernel_rfl) (by kernel_rfl) (by kernel_rfl) (fun _ _ _ h => h) ⟨Or.inr ⟨by rfl, rfl⟩, fun _ => rfl⟩ ?_))
    refine wpAnyIn_ready (rs := [4, 9]) (by kernel_rfl) (by simp) ?_
    refine AllReadyIn.cons rfl (fun K hK => ?_) (AllReadyIn.cons rfl (fun K hK => ?_) AllReadyIn.nil)
    · (go_simp; (first | (refine ⟨trivial, ?_⟩) | (refine ⟨fun _ h => (by cases h), ?_⟩) | skip); refine hK _ _ ?_; clear hK K)
      refine wpAnyIn_ready (rs := [5, 9]) (by kernel_rfl) (by simp) ?_
      refine AllReadyIn.cons rfl (fun K hK => ?_) (AllReadyIn.cons rfl (fun K hK => ?_) AllReadyIn.nil)
      · (go_simp; gi_wp2_with ((first | (refine ⟨trivial, fun h => (by cases h), ?_⟩) | (refine ⟨trivial, ?_⟩) | (refine ⟨fun h => (by cases h), ?_⟩) | skip); gi_at_call 23; refine (callsIn_wide.2 (HG.out _ HTW.out)).mono ?_; rintro e W3 ⟨rfl, t3⟩))
        have hw1 := HTW.out.trans t3 (fun _ _ q => q)
        have b0 := turn_cell t3 b0
        clear HTW hw0 t3
        have HTW := Lib.hid hw1
        have hw0 := hw1
        clear hw1
        obtain ⟨W, rfl⟩ : ∃ W, W = W3 := ⟨_, rfl⟩
        (first | (refine wpAnyIn_take (i := 6) (v := ?_) rfl rfl (by kernel_rfl) (by kernel_rfl) (by kernel_rfl) (fun _ _ _ h => h) ⟨Or.inl ⟨by rfl, ?_⟩, fun _ => rfl⟩ ?_; rotate_left; (intro w'; first | (go_simp; done) | (go_simp; with_reducible rfl))) | (refine wpAnyIn_take (i := 6) (v := undef) rfl rfl (by kernel_rfl) (by kernel_rfl) (by kernel_rfl) (fun _ _ _ h => h) ⟨Or.inr ⟨by rfl, rfl⟩, fun _ => rfl⟩ ?_))
        (first | (refine wpAnyIn_take (i := 7) (v := ?_) rfl rfl (by kernel_rfl) (by kernel_rfl) (by kernel_rfl) (fun _ _ _ h => h) ⟨Or.inl ⟨by rfl, ?_⟩, fun _ => rfl⟩ ?_; rotate_left; (intro w'; first | (go_simp; done) | (go_simp; with_reducible rfl))) | (refine wpAnyIn_take (i := 7) (v := undef) rfl rfl (by kernel_rfl) (by kernel_rfl) (by kernel_rfl) (fun _ _ _ h => h) ⟨Or.inr ⟨by rfl, rfl⟩, fun _ => rfl⟩ ?_))
        (first | (refine wpAnyIn_take (i := 8) (v := ?_) rfl rfl (by kernel_rfl) (by kernel_rfl) (by kernel_rfl) (fun _ _ _ h => h) ⟨Or.inl ⟨by rfl, ?_⟩, fun _ => rfl⟩ ?_; rotate_left; (intro w'; first | (go_simp; done) | (go_simp; with_reducible rfl))) | (refine wpAnyIn_take (i := 8) (v := undef) rfl rfl (by kernel_rfl) (by kernel_rfl) (by kernel_rfl) (fun _ _ _ h => h) ⟨Or.inr ⟨by rfl, rfl⟩, fun _ => rfl⟩ ?_))
        refine wpAnyIn_ready (rs := [9]) (by kernel_rfl) (by simp) ?_
        refine AllReadyIn.cons rfl (fun K hK => ?_) AllReadyIn.nil
        obtain ⟨g, hg⟩ : ∃ g, W.heap.size = g := ⟨_, rfl⟩
        (go_simp; (first | (refine ⟨trivial, ?_⟩) | (refine ⟨fun _ h => (by cases h), ?_⟩) | skip); refine hK _ _ ?_; clear hK K)
        have ta := turnBox W (.cells #[.string ⟨#[]⟩, .string ⟨#[]⟩, .string ⟨#[]⟩, .int .i64 0, .int .i64 0] 32)
        have hb : (W.alloc (.cells #[.string ⟨#[]⟩, .string ⟨#[]⟩, .string ⟨#[]⟩, .int .i64 0, .int .i64 0] 32)).heap[W.heap.size]? = some (evBox noEv) := heap_alloc_new W _
        have hw1 := HTW.out.trans ta (fun _ _ q => q)
        have hgw := hw0.size
        rw [hg] at hb hgw
        have HGW := Lib.hid hgw
        have b0 := turn_cell ta b0
        obtain ⟨W2, hW2⟩ : ∃ W2, W.alloc (.cells #[.string ⟨#[]⟩, .string ⟨#[]⟩, .string ⟨#[]⟩, .int .i64 0, .int .i64 0] 32) = W2 := ⟨_, rfl⟩
        rw [hW2] at hb hw1 b0 ⊢
        clear HTW ta hgw hg hW2 hw0
        have hw0 := hw1
        have HTW := Lib.hid hw1
        clear hw1
        obtain ⟨W, rfl⟩ : ∃ W, W = W2 := ⟨_, rfl⟩
        refine wpAnyIn_ready (rs := [10]) (by kernel_rfl) (by simp) ?_
        refine AllReadyIn.cons rfl (fun K hK => ?_) AllReadyIn.nil
        obtain ⟨⟨z0, z1, z2, z3, z4⟩, f0, f1, f2, f3, f4⟩ := ev_open hb
        (go_simp; (first | (refine ⟨trivial, ?_⟩) | (refine ⟨fun _ h => (by cases h), ?_⟩) | skip); refine hK _ _ ?_; clear hK K)
        refine wpAnyIn_ready (rs := [11]) (by kernel_rfl) (by simp) ?_
        refine AllReadyIn.cons rfl (fun K hK => ?_) AllReadyIn.nil
        (go_simp; (first | (refine ⟨trivial, ?_⟩) | (refine ⟨fun _ h => (by cases h), ?_⟩) | skip); refine hK _ _ ?_; clear hK K)
        refine wpAnyIn_done (by kernel_rfl) ?_ _
        exact ⟨g, HGW.out, rfl, setEv_at hb _, setEv_turn HTW.out (Or.inr HGW.out) _⟩
      · obtain ⟨g, hg⟩ : ∃ g, W.heap.size = g := ⟨_, rfl⟩
        (go_simp; (first | (refine ⟨trivial, ?_⟩) | (refine ⟨fun _ h => (by cases h), ?_⟩) | skip); refine hK _ _ ?_; clear hK K)
        have ta := turnBox W (.cells #[.string ⟨#[]⟩, .string ⟨#[]⟩, .string ⟨#[]⟩, .int .i64 0, .int .i64 0] 32)
        have hb : (W.alloc (.cells #[.string ⟨#[]⟩, .string ⟨#[]⟩, .string ⟨#[]⟩, .int .i64 0, .int .i64 0] 32)).heap[W.heap.size]? = some (evBox noEv) := heap_alloc_new W _
        have hw1 := HTW.out.trans ta (fun _ _ q => q)
        have hgw := hw0.size
        rw [hg] at hb hgw
        have HGW := Lib.hid hgw
        have b0 := turn_cell ta b0
        obtain ⟨W2, hW2⟩ : ∃ W2, W.alloc (.cells #[.string ⟨#[]⟩, .string ⟨#[]⟩, .string ⟨#[]⟩, .int .i64 0, .int .i64 0] 32) = W2 := ⟨_, rfl⟩
        rw [hW2] at hb hw1 b0 ⊢
        clear HTW ta hgw hg hW2 hw0
        have hw0 := hw1
        have HTW := Lib.hid hw1
        clear hw1
        obtain ⟨W, rfl⟩ : ∃ W, W = W2 := ⟨_, rfl⟩
        refine wpAnyIn_ready (rs := [5]) (by kernel_rfl) (by simp) ?_
        refine AllReadyIn.cons rfl (fun K hK => ?_) AllReadyIn.nil
        (go_simp; gi_wp2_with ((first | (refine ⟨trivial, fun h => (by cases h), ?_⟩) | (refine ⟨trivial, ?_⟩) | (refine ⟨fun h => (by cases h), ?_⟩) | skip); gi_at_call 23; refine (callsIn_wide.2 (HG.out _ HTW.out)).mono ?_; rintro e W3 ⟨rfl, t3⟩))
        have hw1 := HTW.out.trans t3 (fun _ _ q => q)
        have hb := turn_heap t3 hb
        have b0 := turn_cell t3 b0
        clear HTW hw0 t3
        have HTW := Lib.hid hw1
        have hw0 := hw1
        clear hw1
        obtain ⟨W, rfl⟩ : ∃ W, W = W3 := ⟨_, rfl⟩
        (first | (refine wpAnyIn_take (i := 6) (v := ?_) rfl rfl (by kernel_rfl) (by kernel_rfl) (by kernel_rfl) (fun _ _ _ h => h) ⟨Or.inl ⟨by rfl, ?_⟩, fun _ => rfl⟩ ?_; rotate_left; (intro w'; first | (go_simp; done) | (go_simp; with_reducible rfl))) | (refine wpAnyIn_take (i := 6) (v := undef) rfl rfl (by kernel_rfl) (by kernel_rfl) (by kernel_rfl) (fun _ _ _ h => h) ⟨Or.inr ⟨by rfl, rfl⟩, fun _ => rfl⟩ ?_))
        (first | (refine wpAnyIn_take (i := 7) (v := ?_) rfl rfl (by kernel_rfl) (by kernel_rfl) (by kernel_rfl) (fun _ _ _ h => h) ⟨Or.inl ⟨by rfl, ?_⟩, fun _ => rfl⟩ ?_; rotate_left; (intro w'; first | (go_simp; done) | (go_simp; with_reducible rfl))) | (refine wpAnyIn_take (i := 7) (v := undef) rfl rfl (by kernel_rfl) (by kernel_rfl) (by kernel_rfl) (fun _ _ _ h => h) ⟨Or.inr ⟨by rfl, rfl⟩, fun _ => rfl⟩ ?_))
        (first | (refine wpAnyIn_take (i := 8) (v := ?_) rfl rfl (by kernel_rfl) (by kernel_rfl) (by kernel_rfl) (fun _ _ _ h => h) ⟨Or.inl ⟨by rfl, ?_⟩, fun _ => rfl⟩ ?_; rotate_left; (intro w'; first | (go_simp; done) | (go_simp; with_reducible rfl))) | (refine wpAnyIn_take (i := 8) (v := undef) rfl rfl (by kernel_rfl) (by kernel_rfl) (by kernel_rfl) (fun _ _ _ h => h) ⟨Or.inr ⟨by rfl, rfl⟩, fun _ => rfl⟩ ?_))
        refine wpAnyIn_ready (rs := [10]) (by kernel_rfl) (by simp) ?_
        refine AllReadyIn.cons rfl (fun K hK => ?_) AllReadyIn.nil
        obtain ⟨⟨z0, z1, z2, z3, z4⟩, f0, f1, f2, f3, f4⟩ := ev_open hb
        (go_simp; (first | (refine ⟨trivial, ?_⟩) | (refine ⟨fun _ h => (by cases h), ?_⟩) | skip); refine hK _ _ ?_; clear hK K)
        refine wpAnyIn_ready (rs := [11]) (by kernel_rfl) (by simp) ?_
        refine AllReadyIn.cons rfl (fun K hK => ?_) AllReadyIn.nil
        (go_simp; (first | (refine ⟨trivial, ?_⟩) | (refine ⟨fun _ h => (by cases h), ?_⟩) | skip); refine hK _ _ ?_; clear hK K)
        refine wpAnyIn_done (by kernel_rfl) ?_ _
        exact ⟨g, HGW.out, rfl, setEv_at hb _, setEv_turn HTW.out (Or.inr HGW.out) _⟩
    · obtain ⟨g, hg⟩ : ∃ g, W.heap.size = g := ⟨_, rfl⟩
      (go_simp; (first | (refine ⟨trivial, ?_⟩) | (refine ⟨fun _ h => (by cases h), ?_⟩) | skip); refine hK _ _ ?_; clear hK K)
      have ta := turnBox W (.cells #[.string ⟨#[]⟩, .string ⟨#[]⟩, .string ⟨#[]⟩, .int .i64 0, .int .i64 0] 32)
      have hb : (W.alloc (.cells #[.string ⟨#[]⟩, .string ⟨#[]⟩, .string ⟨#[]⟩, .int .i64 0, .int .i64 0] 32)).heap[W.heap.size]? = some (evBox noEv) := heap_alloc_new W _
      have hw1 := HTW.out.trans ta (fun _ _ q => q)
      have hgw := hw0.size
      rw [hg] at hb hgw
      have HGW := Lib.hid hgw
      have b0 := turn_cell ta b0
      obtain ⟨W2, hW2⟩ : ∃ W2, W.alloc (.cells #[.string ⟨#[]⟩, .string ⟨#[]⟩, .string ⟨#[]⟩, .int .i64 0, .int .i64 0] 32) = W2 := ⟨_, rfl⟩
      rw [hW2] at hb hw1 b0 ⊢
      clear HTW ta hgw hg hW2 hw0
      have hw0 := hw1
      have HTW := Lib.hid hw1
      clear hw1
      obtain ⟨W, rfl⟩ : ∃ W, W = W2 := ⟨_, rfl⟩
      refine wpAnyIn_ready (rs := [4]) (by kernel_rfl) (by simp) ?_
      refine AllReadyIn.cons rfl (fun K hK => ?_) AllReadyIn.nil
      (go_simp; (first | (refine ⟨trivial, ?_⟩) | (refine ⟨fun _ h => (by cases h), ?_⟩) | skip); refine hK _ _ ?_; clear hK K)
      refine wpAnyIn_ready (rs := [5]) (by kernel_rfl) (by simp) ?_
      refine AllReadyIn.cons rfl (fun K hK => ?_) AllReadyIn.nil
      (go_simp; gi_wp2_with ((first | (refine ⟨trivial, fun h => (by cases h), ?_⟩) | (refine ⟨trivial, ?_⟩) | (refine ⟨fun h => (by cases h), ?_⟩) | skip); gi_at_call 23; refine (callsIn_wide.2 (HG.out _ HTW.out)).mono ?_; rintro e W3 ⟨rfl, t3⟩))
      have hw1 := HTW.out.trans t3 (fun _ _ q => q)
      have hb := turn_heap t3 hb
      have b0 := turn_cell t3 b0
      clear HTW hw0 t3
      have HTW := Lib.hid hw1
      have hw0 := hw1
      clear hw1
      obtain ⟨W, rfl⟩ : ∃ W, W = W3 := ⟨_, rfl⟩
      (first | (refine wpAnyIn_take (i := 6) (v := ?_) rfl rfl (by kernel_rfl) (by kernel_rfl) (by kernel_rfl) (fun _ _ _ h => h) ⟨Or.inl ⟨by rfl, ?_⟩, fun _ => rfl⟩ ?_; rotate_left; (intro w'; first | (go_simp; done) | (go_simp; with_reducible rfl))) | (refine wpAnyIn_take (i := 6) (v := undef) rfl rfl (by kernel_rfl) (by kernel_rfl) (by kernel_rfl) (fun _ _ _ h => h) ⟨Or.inr ⟨by rfl, rfl⟩, fun _ => rfl⟩ ?_))
      (first | (refine wpAnyIn_take (i := 7) (v := ?_) rfl rfl (by kernel_rfl) (by kernel_rfl) (by kernel_rfl) (fun _ _ _ h => h) ⟨Or.inl ⟨by rfl, ?_⟩, fun _ => rfl⟩ ?_; rotate_left; (intro w'; first | (go_simp; done) | (go_simp; with_reducible rfl))) | (refine wpAnyIn_take (i := 7) (v := undef) rfl rfl (by kernel_rfl) (by kernel_rfl) (by kernel_rfl) (fun _ _ _ h => h) ⟨Or.inr ⟨by rfl, rfl⟩, fun _ => rfl⟩ ?_))
      (first | (refine wpAnyIn_take (i := 8) (v := ?_) rfl rfl (by kernel_rfl) (by kernel_rfl) (by kernel_rfl) (fun _ _ _ h => h) ⟨Or.inl ⟨by rfl, ?_⟩, fun _ => rfl⟩ ?_; rotate_left; (intro w'; first | (go_simp; done) | (go_simp; with_reducible rfl))) | (refine wpAnyIn_take (i := 8) (v := undef) rfl rfl (by kernel_rfl) (by kernel_rfl) (by kernel_rfl) (fun _ _ _ h => h) ⟨Or.inr ⟨by rfl, rfl⟩, fun _ => rfl⟩ ?_))
      refine wpAnyIn_ready (rs := [10]) (by kernel_rfl) (by simp) ?_
      refine AllReadyIn.cons rfl (fun K hK => ?_) AllReadyIn.nil
      obtain ⟨⟨z0, z1, z2, z3, z4⟩, f0, f1, f2, f3, f4⟩ := ev_open hb
      (go_simp; (first | (refine ⟨trivial, ?_⟩) | (refine ⟨fun _ h => (by cases h), ?_⟩) | skip); refine hK _ _ ?_; clear hK K)
      refine wpAnyIn_ready (rs := [11]) (by kernel_rfl) (by simp) ?_
      refine AllReadyIn.cons rfl (fun K hK => ?_) AllReadyIn.nil
      (go_simp; (first | (refine ⟨trivial, ?_⟩) | (refine ⟨fun _ h => (by cases h), ?_⟩) | skip); refine hK _ _ ?_; clear hK K)
      refine wpAnyIn_done (by kernel_rfl) ?_ _
      exact ⟨g, HGW.out, rfl, setEv_at hb _, setEv_turn HTW.out (Or.inr HGW.out) _⟩
  rintro e a' W' hq
  cases e <;> first | (exact hq.elim) | skip
  obtain ⟨g, hgl, rfl, hbg, ht⟩ := hq
  dsimp only
  have HTG := Lib.hid ht
  have HLG := Lib.hid (HL.out.later ht (fun q => q))
  have HRG := Lib.hid (HRL.out.later ht)
  have HBG := Lib.hid (turn_heap ht HBL.out)
  obtain ⟨⟨b0, b1, b2, b3, b4⟩, f0, f1, f2, f3, f4⟩ := ev_open HBG.out
  have HLEN := Lib.hid (len_q HLG.out HRG.out rfl)
  have HCP := Lib.hid (fun w => copied_any x HX.out w)
  have i1 : ¬ (5000 : Int) ≤ (t.count : Nat) := by have := HN.out; omega
  clear hbg ht HL HRL HBL hgl HG
  go_wp2_with (first | (go_at_call 25; refine HLEN.out.mono ?_; rintro e w3 ⟨rfl, rfl⟩) | (go_at_call 26; refine (HCP.out _).mono ?_; rintro e w4 ⟨rfl, t4⟩; have hb4 := turn_heap t4 HBG.out; obtain ⟨⟨b0, b1, b2, b3, b4⟩, f0, f1, f2, f3, f4⟩ := ev_open hb4))
  obtain ⟨w5, hw5⟩ : ∃ w5, setEv w4 B x = w5 := ⟨_, rfl⟩
  have t5 : Turn (fun b => b = mp) w w5 := by rw [← hw5]; exact setEv_turn (((HTL.out.trans HTG.out (fun _ _ q => q.elim)).trans t4 (fun _ _ q => q.elim))) (Or.inr (Nat.le_of_eq HBS.out)) x
  have hne : B ≠ mp := fun e => by have hm := HLG.out; have hb := HBG.out; rw [e, show w3.heap[mp]? = _ from hm] at hb; cases hb
  have h5 : w3.heap.size ≤ w4.heap.size := t4.size
  have t45 : Turn (fun b => b = B) w3 w5 := by rw [← hw5]; exact setEv_turn (Q := fun b => b = B) (t4.mono (fun _ q => q.elim)) (Or.inl rfl) x
  have m5 := HLG.out.later t45 (fun e => hne e.symm)
  have r5 := HRG.out.turned t45 (fun b cs fr e hh => by subst e; rw [HBG.out] at hh; cases hh)
  have b5 : w5.heap[B]? = some (evBox x) := by rw [← hw5]; exact setEv_at hb4 x
  change Code.wp _ _ _ _ (setEv w4 B x)
  rw [hw5]
  have HM5 := Lib.hid m5
  have HR5 := Lib.hid r5
  have HT5 := Lib.hid t5
  have HB5 := Lib.hid b5
  have HNE := Lib.hid hne
  have HP := Lib.hid (tput_any (HM5.out.later ((like_drew w5).turn (fun _ => False)) (fun q => q)) (HR5.out.later ((like_drew w5).turn (fun _ => False))) HZ.out.1 (by have := HN.out; omega) (by have := HV.out; have := HN.out; omega) x.key x)
  clear b0 b1 b2 b3 b4 f0 f1 f2 f3 f4 hb4 t4 t5 hne h5 t45 m5 r5 b5 hw5 HTG HLG HRG HBG HLEN HCP HTL
  obtain ⟨⟨b0, b1, b2, b3, b4⟩, _⟩ := ev_open HB5.out
  refine (wpIn_wide (n := 10)).1 ?_
  refine wpIn_mono (Q := NormQ (fun _ a' W' => ∃ root2, a' = ({ tmps := #[.pointer (some ⟨mp, 0, none⟩), valV x, undef, .pointer (some ⟨B, 0, none⟩), .bool false, .int .i64 0, .int .i64 0, .pointer (some ⟨g, 0, none⟩), .bool false, valV x, .int .i64 0, .int .i64 0, .bool false, undef, .pointer (some ⟨mp, 0, none⟩), .bool false, .pointer (some ⟨mp, 0, none⟩), .pointer (some ⟨mp, 0, none⟩), .pointer (some ⟨mp, 0, none⟩), .tuple #[], .pointer (some ⟨mp, 0, none⟩), .pointer (some ⟨mp, 0, none⟩), .pointer (some ⟨mp, 0, none⟩), .tuple #[valV noEv, .bool false], .pointer (some ⟨mp, 0, none⟩), .pointer (some ⟨mp, 0, none⟩), .pointer (some ⟨mp, 2, none⟩), .pointer (some ⟨B, 0, none⟩), keyV x.key, .tuple #[valV noEv, .bool false], valV noEv, .bool false, .bool false, .bool false, .bool false, undef, undef, undef, .bool false, undef, undef, undef, undef, .bool false, .bool false, .bool (decide ((5000 : Int) ≤ (t.count : Nat))), .pointer (some ⟨mp, 0, none⟩), .pointer (some ⟨mp, 0, none⟩), .pointer (some ⟨mp, 2, none⟩), .int .i64 (t.count : Nat), .bool (decide ((5000 : Int) ≤ (t.count : Nat))), valV x, valV x, .pointer (some ⟨mp, 0, none⟩), .pointer (some ⟨mp, 0, none⟩), .pointer (some ⟨mp, 2, none⟩), .pointer (some ⟨B, 0, none⟩), keyV x.key, valV x, .tuple #[]], defers := [{ target := .fn (.func 22) #[], args := #[.pointer (some ⟨mp, 0, none⟩)] }] } : Act) ∧ MetC W' mp 1 0 0 root2 ((ver + 1 : Nat) : Int) rep ∧ TrAt W' (.pointer root2) (put t x.key x) ∧ Turn (fun b => b = mp) w W')) ?_ ?_
  · refine wpIn_region_any (by kernel_rfl) ?_
    try (change wpAnyIn _ _ _ _ _ _ _ _ _ (World.drew _))
    have b0 := turn_cell ((like_drew w5).turn (fun _ => False)) b0
    have b1 := turn_cell ((like_drew w5).turn (fun _ => False)) b1
    have b2 := turn_cell ((like_drew w5).turn (fun _ => False)) b2
    have b3 := turn_cell ((like_drew w5).turn (fun _ => False)) b3
    have b4 := turn_cell ((like_drew w5).turn (fun _ => False)) b4
    (first | (refine wpAnyIn_take (i := 0) (v := ?_) rfl rfl (by kernel_rfl) (by kernel_rfl) (by kernel_rfl) (fun _ _ _ h => h) ⟨Or.inl ⟨by rfl, ?_⟩, fun _ => rfl⟩ ?_; rotate_left; (intro w'; first | (go_simp; done) | (go_simp; with_reducible rfl))) | (refine wpAnyIn_take (i := 0) (v := undef) rfl rfl (by kernel_rfl) (by kernel_rfl) (by kernel_rfl) (fun _ _ _ h => h) ⟨Or.inr ⟨by rfl, rfl⟩, fun _ => rfl⟩ ?_))
    (first | (refine wpAnyIn_take (i := 1) (v := ?_) rfl rfl (by kernel_rfl) (by kernel_rfl) (by kernel_rfl) (fun _ _ _ h => h) ⟨Or.inl ⟨by rfl, ?_⟩, fun _ => rfl⟩ ?_; rotate_left; (intro w'; first | (go_simp; done) | (go_simp; with_reducible rfl))) | (refine wpAnyIn_take (i := 1) (v := undef) rfl rfl (by kernel_rfl) (by kernel_rfl) (by kernel_rfl) (fun _ _ _ h => h) ⟨Or.inr ⟨by rfl, rfl⟩, fun _ => rfl⟩ ?_))
    (first | (refine wpAnyIn_take (i := 2) (v := ?_) rfl rfl (by kernel_rfl) (by kernel_rfl) (by kernel_rfl) (fun _ _ _ h => h) ⟨Or.inl ⟨by rfl, ?_⟩, fun _ => rfl⟩ ?_; rotate_left; (intro w'; first | (go_simp; done) | (go_simp; with_reducible rfl))) | (refine wpAnyIn_take (i := 2) (v := undef) rfl rfl (by kernel_rfl) (by kernel_rfl) (by kernel_rfl) (fun _ _ _ h => h) ⟨Or.inr ⟨by rfl, rfl⟩, fun _ => rfl⟩ ?_))
    (first | (refine wpAnyIn_take (i := 3) (v := ?_) rfl rfl (by kernel_rfl) (by kernel_rfl) (by kernel_rfl) (fun _ _ _ h => h) ⟨Or.inl ⟨by rfl, ?_⟩, fun _ => rfl⟩ ?_; rotate_left; (intro w'; first | (go_simp; done) | (go_simp; with_reducible rfl))) | (refine wpAnyIn_take (i := 3) (v := undef) rfl rfl (by kernel_rfl) (by kernel_rfl) (by kernel_rfl) (fun _ _ _ h => h) ⟨Or.inr ⟨by rfl, rfl⟩, fun _ => rfl⟩ ?_))
    refine wpAnyIn_ready (rs := [4, 5]) (by kernel_rfl) (by simp) ?_
    refine AllReadyIn.cons rfl (fun K hK => ?_) (AllReadyIn.cons rfl (fun K hK => ?_) AllReadyIn.nil)
    · (go_simp; (first | (refine ⟨trivial, ?_⟩) | (refine ⟨fun _ h => (by cases h), ?_⟩) | skip); refine hK _ _ ?_; clear hK K)
      refine wpAnyIn_ready (rs := [5]) (by kernel_rfl) (by simp) ?_
      refine AllReadyIn.cons rfl (fun K hK => ?_) AllReadyIn.nil
      (go_simp; (first | (refine ⟨trivial, ?_⟩) | (refine ⟨fun _ h => (by cases h), ?_⟩) | skip); refine hK _ _ ?_; clear hK K)
      refine wpAnyIn_ready (rs := [6]) (by kernel_rfl) (by simp) ?_
      refine AllReadyIn.cons rfl (fun K hK => ?_) AllReadyIn.nil
      (go_simp; gi_wp2_with ((first | (refine ⟨trivial, fun h => (by cases h), ?_⟩) | (refine ⟨trivial, ?_⟩) | (refine ⟨fun h => (by cases h), ?_⟩) | skip); gi_at_call 27; refine (callsIn_wide.2 HP.out).mono ?_; rintro e w6 ⟨rfl, ⟨root2, hm6, hr6⟩, t6⟩))
      refine wpAnyIn_done (by kernel_rfl) ?_ _
      exact ⟨root2, rfl, hm6, hr6, HT5.out.drew.trans t6 (fun _ _ q => q)⟩
    · (go_simp; (first | (refine ⟨trivial, ?_⟩) | (refine ⟨fun _ h => (by cases h), ?_⟩) | skip); refine hK _ _ ?_; clear hK K)
      refine wpAnyIn_ready (rs := [4]) (by kernel_rfl) (by simp) ?_
      refine AllReadyIn.cons rfl (fun K hK => ?_) AllReadyIn.nil
      (go_simp; (first | (refine ⟨trivial, ?_⟩) | (refine ⟨fun _ h => (by cases h), ?_⟩) | skip); refine hK _ _ ?_; clear hK K)
      refine wpAnyIn_ready (rs := [6]) (by kernel_rfl) (by simp) ?_
      refine AllReadyIn.cons rfl (fun K hK => ?_) AllReadyIn.nil
      (go_simp; gi_wp2_with ((first | (refine ⟨trivial, fun h => (by cases h), ?_⟩) | (refine ⟨trivial, ?_⟩) | (refine ⟨fun h => (by cases h), ?_⟩) | skip); gi_at_call 27; refine (callsIn_wide.2 HP.out).mono ?_; rintro e w6 ⟨rfl, ⟨root2, hm6, hr6⟩, t6⟩))
      refine wpAnyIn_done (by kernel_rfl) ?_ _
      exact ⟨root2, rfl, hm6, hr6, HT5.out.drew.trans t6 (fun _ _ q => q)⟩
  rintro e a' W6 hq
  cases e <;> first | (exact hq.elim) | skip
  obtain ⟨root2, rfl, hm6, hr6, ht6⟩ := hq
  dsimp only
  have HM6 := Lib.hid hm6
  have HR6 := Lib.hid hr6
  have HT6 := Lib.hid ht6
  clear hm6 hr6 ht6 HP b0 b1 b2 b3 b4
  go_wp2_with fail
  refine leaves_cons (f := 22) (args := #[.pointer (some ⟨mp, 0, none⟩)]) (by simp) (by simp [go_sem]) ?_
  refine (Go.MuLone.unlock_deferred Tryz.muLib ⟨mp, 0, none⟩ .returning _ (HM6.out.cell 0) (HM6.out.free 0)).mono ?_
  rintro e u' w'' ⟨rfl, rfl, rfl⟩
  refine ⟨_, results_bi (by kernel_rfl) rfl rfl, rfl, ⟨⟨sized_put HZ.out.1 _ _, rises_put HZ.out.2 _ _⟩, root2, ver + 1, ?_, HM6.out.set0 0, HR6.out.turned (turn1 W6 mp 0 (.int .i32 0)) HM6.out.noNode⟩, HT6.out.set mp 0 (Or.inl rfl) _⟩
  rw [count_new HZ.out.1 HZ.out.2 HQ.out]; have := HV.out; omega

set_option maxRecDepth 100000 in
set_option maxHeartbeats 4000000 in
theorem ing_many (h : MetR w mp t rep) (x : Ev) (hx : EvIn x) (hc : checkE x = 0) (hq : Tb.get t x.key = none) (hn : 5000 ≤ t.count) :
    Calls Tryz.prog 9 #[.pointer (some ⟨mp, 0, none⟩), valV x] w fun r w' => r = .returned (ansV false 9) ∧ MetR w' mp t rep ∧ Turn (fun b => b = mp) w w' := by
  obtain ⟨W1, hW1, tb, bx0, bx1, bx2, bx3, bx4⟩ := ev_box w x
  have hbx : W1.heap[w.heap.size]? = some (evBox x) := by rw [← hW1]; exact heap_alloc_new w _
  obtain ⟨hz, root, ver, hv, hm, hr⟩ := h
  have HC := Lib.hid (fun w => check_any x hx w)
  rw [hc] at HC
  have HM := Lib.hid hm
  have HR := Lib.hid hr
  have HZ := Lib.hid hz
  have HV := Lib.hid hv
  have HTB := Lib.hid tb
  have HB1 := Lib.hid hbx
  have HX := Lib.hid hx
  obtain ⟨B, hB⟩ : ∃ B, w.heap.size = B := ⟨_, rfl⟩
  rw [hB] at bx0 bx1 bx2 bx3 bx4 HB1
  have HBS := Lib.hid hB
  clear hx hc tb hz hv hm hr hbx
  go_enter_defers Tryz.func9, Tryz.ntmps9
  go_wp2_with fail
  clear bx0 bx1 bx2 bx3 bx4 hW1 hB
  go_at_call 14
  refine (HC.out _).mono ?_
  rintro e w2 ⟨rfl, t2⟩
  have HT2 := Lib.hid (HTB.out.trans t2 (fun _ _ q => q))
  have HB2 := Lib.hid (turn_heap t2 HB1.out)
  have HM2 := Lib.hid (HM.out.later HT2.out (fun q => q))
  have HR2 := Lib.hid (HR.out.later HT2.out)
  clear HB1 HM HR HTB t2
  go_wp2_with fail
  go_at_call 21
  refine (Go.MuLone.lock_free Tryz.muLib ⟨mp, 0, none⟩ _ (HM2.out.cell 0) (HM2.out.free 0)).mono ?_
  rintro e wL ⟨rfl, rfl⟩
  go_wp2_with fail
  have hL : MetC (w2.setCell ⟨mp, 0, none⟩ (.int .i32 1)) mp 1 0 0 root (ver : Int) (rep : Int) := HM2.out.set0 1
  have tL : Turn (fun b => b = mp) w2 (w2.setCell ⟨mp, 0, none⟩ (.int .i32 1)) := turn1 w2 mp 0 _
  have rL := HR2.out.turned tL HM2.out.noNode
  have bL : (w2.setCell ⟨mp, 0, none⟩ (.int .i32 1)).heap[B]? = some (evBox x) := (heap_setCell_other (fun e => by have hm := HM2.out; have hb := HB2.out; rw [show B = mp from e, show w2.heap[mp]? = _ from hm] at hb; cases hb) _).trans HB2.out
  obtain ⟨wl, hwl⟩ : ∃ wl, w2.setCell ⟨mp, 0, none⟩ (.int .i32 1) = wl := ⟨_, rfl⟩
  rw [hwl] at hL tL rL bL ⊢
  have HL := Lib.hid hL
  have HTL := Lib.hid ((HT2.out.mono (fun _ q => q.elim)).trans tL (fun _ _ q => q))
  have HRL := Lib.hid rL
  have HBL := Lib.hid bL
  obtain ⟨⟨b0, b1, b2, b3, b4⟩, f0, f1, f2, f3, f4⟩ := ev_open bL
  clear hL tL rL bL hwl HM2 HR2 HT2 HB2
  have HG := Lib.hid (fun (W : World) (hW : Turn (fun _ => False) wl W) => tget_any (HL.out.later hW (fun q => q)) (HRL.out.later hW) x.key)
  have HN := Lib.hid hn
  rw [hq] at HG
  unfold gotV at HG
  clear hq hn
  refine (wpIn_wide (n := 10)).1 ?_
  refine wpIn_mono (Q := NormQ (fun _ a' W' => ∃ g, wl.heap.size ≤ g ∧ a' = ({ tmps := #[.pointer (some ⟨mp, 0, none⟩), valV x, undef, .pointer (some ⟨B, 0, none⟩), .bool false, .int .i64 0, .int .i64 0, .pointer (some ⟨g, 0, none⟩), .bool false, valV x, .int .i64 0, .int .i64 0, .bool false, undef, .pointer (some ⟨mp, 0, none⟩), .bool false, .pointer (some ⟨mp, 0, none⟩), .pointer (some ⟨mp, 0, none⟩), .pointer (some ⟨mp, 0, none⟩), .tuple #[], .pointer (some ⟨mp, 0, none⟩), .pointer (some ⟨mp, 0, none⟩), .pointer (some ⟨mp, 0, none⟩), .tuple #[valV noEv, .bool false], .pointer (some ⟨mp, 0, none⟩), .pointer (some ⟨mp, 0, none⟩), .pointer (some ⟨mp, 2, none⟩), .pointer (some ⟨B, 0, none⟩), keyV x.key, .tuple #[valV noEv, .bool false], valV noEv, .bool false, undef, undef, undef, undef, undef, undef, undef, undef, undef, undef, undef, undef, undef, undef, undef, undef, undef, undef, undef, undef, undef, undef, undef, undef, undef, undef, undef, undef], defers := [{ target := .fn (.func 22) #[], args := #[.pointer (some ⟨mp, 0, none⟩)] }] } : Act) ∧ W'.heap[g]? = some (evBox noEv) ∧ Turn (fun _ => False) wl W')) ?_ ?_
  · refine wpIn_region_any (by kernel_rfl) ?_
    try (change wpAnyIn _ _ _ _ _ _ _ _ _ (World.drew _))
    have b0 := turn_cell ((like_drew wl).turn (fun _ => False)) b0
    have hw0 := (like_drew wl).turn (fun _ => False)
    obtain ⟨W, hW⟩ : ∃ W, wl.drew = W := ⟨_, rfl⟩
    rw [hW] at b0 hw0 ⊢
    clear hW
    have HTW := Lib.hid hw0
    (first | (refine wpAnyIn_take (i := 0) (v := ?_) rfl rfl (by kernel_rfl) (by kernel_rfl) (by kernel_rfl) (fun _ _ _ h => h) ⟨Or.inl ⟨by rfl, ?_⟩, fun _ => rfl⟩ ?_; rotate_left; (intro w'; first | (go_simp; done) | (go_simp; with_reducible rfl))) | (refine wpAnyIn_take (i := 0) (v := undef) rfl rfl (by kernel_rfl) (by kernel_rfl) (by kernel_rfl) (fun _ _ _ h => h) ⟨Or.inr ⟨by rfl, rfl⟩, fun _ => rfl⟩ ?_))
    (first | (refine wpAnyIn_take (i := 1) (v := ?_) rfl rfl (by kernel_rfl) (by kernel_rfl) (by kernel_rfl) (fun _ _ _ h => h) ⟨Or.inl ⟨by rfl, ?_⟩, fun _ => rfl⟩ ?_; rotate_left; (intro w'; first | (go_simp; done) | (go_simp; with_reducible rfl))) | (refine wpAnyIn_take (i := 1) (v := undef) rfl rfl (by kernel_rfl) (by kernel_rfl) (by kernel_rfl) (fun _ _ _ h => h) ⟨Or.inr ⟨by rfl, rfl⟩, fun _ => rfl⟩ ?_))
    (first | (refine wpAnyIn_take (i := 2) (v := ?_) rfl rfl (by kernel_rfl) (by kernel_rfl) (by kernel_rfl) (fun _ _ _ h => h) ⟨Or.inl ⟨by rfl, ?_⟩, fun _ => rfl⟩ ?_; rotate_left; (intro w'; first | (go_simp; done) | (go_simp; with_reducible rfl))) | (refine wpAnyIn_take (i := 2) (v := undef) rfl rfl (by kernel_rfl) (by kernel_rfl) (by kernel_rfl) (fun _ _ _ h => h) ⟨Or.inr ⟨by rfl, rfl⟩, fun _ => rfl⟩ ?_))
    (first | (refine wpAnyIn_take (i := 3) (v := ?_) rfl rfl (by kernel_rfl) (by kernel_rfl) (by kernel_rfl) (fun _ _ _ h => h) ⟨Or.inl ⟨by rfl, ?_⟩, fun _ => rfl⟩ ?_; rotate_left; (intro w'; first | (go_simp; done) | (go_simp; with_reducible rfl))) | (refine wpAnyIn_take (i := 3) (v := undef) rfl rfl (by kernel_rfl) (by kernel_rfl) (by kernel_rfl) (fun _ _ _ h => h) ⟨Or.inr ⟨by rfl, rfl⟩, fun _ => rfl⟩ ?_))
    refine wpAnyIn_ready (rs := [4, 9]) (by kernel_rfl) (by simp) ?_
    refine AllReadyIn.cons rfl (fun K hK => ?_) (AllReadyIn.cons rfl (fun K hK => ?_) AllReadyIn.nil)
    · (go_simp; (first | (refine ⟨trivial, ?_⟩) | (refine ⟨fun _ h => (by cases h), ?_⟩) | skip); refine hK _ _ ?_; clear hK K)
      refine wpAnyIn_ready (rs := [5, 9]) (by kernel_rfl) (by simp) ?_
      refine AllReadyIn.cons rfl (fun K hK => ?_) (AllReadyIn.cons rfl (fun K hK => ?_) AllReadyIn.nil)
      · (go_simp; gi_wp2_with ((first | (refine ⟨trivial, fun h => (by cases h), ?_⟩) | (refine ⟨trivial, ?_⟩) | (refine ⟨fun h => (by cases h), ?_⟩) | skip); gi_at_call 23; refine (callsIn_wide.2 (HG.out _ HTW.out)).mono ?_; rintro e W3 ⟨rfl, t3⟩))
        have hw1 := HTW.out.trans t3 (fun _ _ q => q)
        have b0 := turn_cell t3 b0
        clear HTW hw0 t3
        have HTW := Lib.hid hw1
        have hw0 := hw1
        clear hw1
        obtain ⟨W, rfl⟩ : ∃ W, W = W3 := ⟨_, rfl⟩
        (first | (refine wpAnyIn_take (i := 6) (v := ?_) rfl rfl (by kernel_rfl) (by kernel_rfl) (by kernel_rfl) (fun _ _ _ h => h) ⟨Or.inl ⟨by rfl, ?_⟩, fun _ => rfl⟩ ?_; rotate_left; (intro w'; first | (go_simp; done) | (go_simp; with_reducible rfl))) | (refine wpAnyIn_take (i := 6) (v := undef) rfl rfl (by kernel_rfl) (by kernel_rfl) (by kernel_rfl) (fun _ _ _ h => h) ⟨Or.inr ⟨by rfl, rfl⟩, fun _ => rfl⟩ ?_))
        (first | (refine wpAnyIn_take (i := 7) (v := ?_) rfl rfl (by kernel_rfl) (by kernel_rfl) (by kernel_rfl) (fun _ _ _ h => h) ⟨Or.inl ⟨by rfl, ?_⟩, fun _ => rfl⟩ ?_; rotate_left; (intro w'; first | (go_simp; done) | (go_simp; with_reducible rfl))) | (refine wpAnyIn_take (i := 7) (v := undef) rfl rfl (by kernel_rfl) (by kernel_rfl) (by kernel_rfl) (fun _ _ _ h => h) ⟨Or.inr ⟨by rfl, rfl⟩, fun _ => rfl⟩ ?_))
        (first | (refine wpAnyIn_take (i := 8) (v := ?_) rfl rfl (by kernel_rfl) (by kernel_rfl) (by kernel_rfl) (fun _ _ _ h => h) ⟨Or.inl ⟨by rfl, ?_⟩, fun _ => rfl⟩ ?_; rotate_left; (intro w'; first | (go_simp; done) | (go_simp; with_reducible rfl))) | (refine wpAnyIn_take (i := 8) (v := undef) rfl rfl (by kernel_rfl) (by kernel_rfl) (by kernel_rfl) (fun _ _ _ h => h) ⟨Or.inr ⟨by rfl, rfl⟩, fun _ => rfl⟩ ?_))
        refine wpAnyIn_ready (rs := [9]) (by kernel_rfl) (by simp) ?_
        refine AllReadyIn.cons rfl (fun K hK => ?_) AllReadyIn.nil
        obtain ⟨g, hg⟩ : ∃ g, W.heap.size = g := ⟨_, rfl⟩
        (go_simp; (first | (refine ⟨trivial, ?_⟩) | (refine ⟨fun _ h => (by cases h), ?_⟩) | skip); refine hK _ _ ?_; clear hK K)
        have ta := turnBox W (.cells #[.string ⟨#[]⟩, .string ⟨#[]⟩, .string ⟨#[]⟩, .int .i64 0, .int .i64 0] 32)
        have hb : (W.alloc (.cells #[.string ⟨#[]⟩, .string ⟨#[]⟩, .string ⟨#[]⟩, .int .i64 0, .int .i64 0] 32)).heap[W.heap.size]? = some (evBox noEv) := heap_alloc_new W _
        have hw1 := HTW.out.trans ta (fun _ _ q => q)
        have hgw := hw0.size
        rw [hg] at hb hgw
        have HGW := Lib.hid hgw
        have b0 := turn_cell ta b0
        obtain ⟨W2, hW2⟩ : ∃ W2, W.alloc (.cells #[.string ⟨#[]⟩, .string ⟨#[]⟩, .string ⟨#[]⟩, .int .i64 0, .int .i64 0] 32) = W2 := ⟨_, rfl⟩
        rw [hW2] at hb hw1 b0 ⊢
        clear HTW ta hgw hg hW2 hw0
        have hw0 := hw1
        have HTW := Lib.hid hw1
        clear hw1
        obtain ⟨W, rfl⟩ : ∃ W, W = W2 := ⟨_, rfl⟩
        refine wpAnyIn_ready (rs := [10]) (by kernel_rfl) (by simp) ?_
        refine AllReadyIn.cons rfl (fun K hK => ?_) AllReadyIn.nil
        obtain ⟨⟨z0, z1, z2, z3, z4⟩, f0, f1, f2, f3, f4⟩ := ev_open hb
        (go_simp; (first | (refine ⟨trivial, ?_⟩) | (refine ⟨fun _ h => (by cases h), ?_⟩) | skip); refine hK _ _ ?_; clear hK K)
        refine wpAnyIn_ready (rs := [11]) (by kernel_rfl) (by simp) ?_
        refine AllReadyIn.cons rfl (fun K hK => ?_) AllReadyIn.nil
        (go_simp; (first | (refine ⟨trivial, ?_⟩) | (refine ⟨fun _ h => (by cases h), ?_⟩) | skip); refine hK _ _ ?_; clear hK K)
        refine wpAnyIn_done (by kernel_rfl) ?_ _
        exact ⟨g, HGW.out, rfl, setEv_at hb _, setEv_turn HTW.out (Or.inr HGW.out) _⟩
      · obtain ⟨g, hg⟩ : ∃ g, W.heap.size = g := ⟨_, rfl⟩
        (go_simp; (first | (refine ⟨trivial, ?_⟩) | (refine ⟨fun _ h => (by cases h), ?_⟩) | skip); refine hK _ _ ?_; clear hK K)
        have ta := turnBox W (.cells #[.string ⟨#[]⟩, .string ⟨#[]⟩, .string ⟨#[]⟩, .int .i64 0, .int .i64 0] 32)
        have hb : (W.alloc (.cells #[.string ⟨#[]⟩, .string ⟨#[]⟩, .string ⟨#[]⟩, .int .i64 0, .int .i64 0] 32)).heap[W.heap.size]? = some (evBox noEv) := heap_alloc_new W _
        have hw1 := HTW.out.trans ta (fun _ _ q => q)
        have hgw := hw0.size
        rw [hg] at hb hgw
        have HGW := Lib.hid hgw
        have b0 := turn_cell ta b0
        obtain ⟨W2, hW2⟩ : ∃ W2, W.alloc (.cells #[.string ⟨#[]⟩, .string ⟨#[]⟩, .string ⟨#[]⟩, .int .i64 0, .int .i64 0] 32) = W2 := ⟨_, rfl⟩
        rw [hW2] at hb hw1 b0 ⊢
        clear HTW ta hgw hg hW2 hw0
        have hw0 := hw1
        have HTW := Lib.hid hw1
        clear hw1
        obtain ⟨W, rfl⟩ : ∃ W, W = W2 := ⟨_, rfl⟩
        refine wpAnyIn_ready (rs := [5]) (by kernel_rfl) (by simp) ?_
        refine AllReadyIn.cons rfl (fun K hK => ?_) AllReadyIn.nil
        (go_simp; gi_wp2_with ((first | (refine ⟨trivial, fun h => (by cases h), ?_⟩) | (refine ⟨trivial, ?_⟩) | (refine ⟨fun h => (by cases h), ?_⟩) | skip); gi_at_call 23; refine (callsIn_wide.2 (HG.out _ HTW.out)).mono ?_; rintro e W3 ⟨rfl, t3⟩))
        have hw1 := HTW.out.trans t3 (fun _ _ q => q)
        have hb := turn_heap t3 hb
        have b0 := turn_cell t3 b0
        clear HTW hw0 t3
        have HTW := Lib.hid hw1
        have hw0 := hw1
        clear hw1
        obtain ⟨W, rfl⟩ : ∃ W, W = W3 := ⟨_, rfl⟩
        (first | (refine wpAnyIn_take (i := 6) (v := ?_) rfl rfl (by kernel_rfl) (by kernel_rfl) (by kernel_rfl) (fun _ _ _ h => h) ⟨Or.inl ⟨by rfl, ?_⟩, fun _ => rfl⟩ ?_; rotate_left; (intro w'; first | (go_simp; done) | (go_simp; with_reducible rfl))) | (refine wpAnyIn_take (i := 6) (v := undef) rfl rfl (by kernel_rfl) (by kernel_rfl) (by kernel_rfl) (fun _ _ _ h => h) ⟨Or.inr ⟨by rfl, rfl⟩, fun _ => rfl⟩ ?_))
        (first | (refine wpAnyIn_take (i := 7) (v := ?_) rfl rfl (by kernel_rfl) (by kernel_rfl) (by kernel_rfl) (fun _ _ _ h => h) ⟨Or.inl ⟨by rfl, ?_⟩, fun _ => rfl⟩ ?_; rotate_left; (intro w'; first | (go_simp; done) | (go_simp; with_reducible rfl))) | (refine wpAnyIn_take (i := 7) (v := undef) rfl rfl (by kernel_rfl) (by kernel_rfl) (by kernel_rfl) (fun _ _ _ h => h) ⟨Or.inr ⟨by rfl, rfl⟩, fun _ => rfl⟩ ?_))
        (first | (refine wpAnyIn_take (i := 8) (v := ?_) rfl rfl (by kernel_rfl) (by kernel_rfl) (by kernel_rfl) (fun _ _ _ h => h) ⟨Or.inl ⟨by rfl, ?_⟩, fun _ => rfl⟩ ?_; rotate_left; (intro w'; first | (go_simp; done) | (go_simp; with_reducible rfl))) | (refine wpAnyIn_take (i := 8) (v := undef) rfl rfl (by kernel_rfl) (by kernel_rfl) (by kernel_rfl) (fun _ _ _ h => h) ⟨Or.inr ⟨by rfl, rfl⟩, fun _ => rfl⟩ ?_))
        refine wpAnyIn_ready (rs := [10]) (by kernel_rfl) (by simp) ?_
        refine AllReadyIn.cons rfl (fun K hK => ?_) AllReadyIn.nil
        obtain ⟨⟨z0, z1, z2, z3, z4⟩, f0, f1, f2, f3, f4⟩ := ev_open hb
        (go_simp; (first | (refine ⟨trivial, ?_⟩) | (refine ⟨fun _ h => (by cases h), ?_⟩) | skip); refine hK _ _ ?_; clear hK K)
        refine wpAnyIn_ready (rs := [11]) (by kernel_rfl) (by simp) ?_
        refine AllReadyIn.cons rfl (fun K hK => ?_) AllReadyIn.nil
        (go_simp; (first | (refine ⟨trivial, ?_⟩) | (refine ⟨fun _ h => (by cases h), ?_⟩) | skip); refine hK _ _ ?_; clear hK K)
        refine wpAnyIn_done (by kernel_rfl) ?_ _
        exact ⟨g, HGW.out, rfl, setEv_at hb _, setEv_turn HTW.out (Or.inr HGW.out) _⟩
    · obtain ⟨g, hg⟩ : ∃ g, W.heap.size = g := ⟨_, rfl⟩
      (go_simp; (first | (refine ⟨trivial, ?_⟩) | (refine ⟨fun _ h => (by cases h), ?_⟩) | skip); refine hK _ _ ?_; clear hK K)
      have ta := turnBox W (.cells #[.string ⟨#[]⟩, .string ⟨#[]⟩, .string ⟨#[]⟩, .int .i64 0, .int .i64 0] 32)
      have hb : (W.alloc (.cells #[.string ⟨#[]⟩, .string ⟨#[]⟩, .string ⟨#[]⟩, .int .i64 0, .int .i64 0] 32)).heap[W.heap.size]? = some (evBox noEv) := heap_alloc_new W _
      have hw1 := HTW.out.trans ta (fun _ _ q => q)
      have hgw := hw0.size
      rw [hg] at hb hgw
      have HGW := Lib.hid hgw
      have b0 := turn_cell ta b0
      obtain ⟨W2, hW2⟩ : ∃ W2, W.alloc (.cells #[.string ⟨#[]⟩, .string ⟨#[]⟩, .string ⟨#[]⟩, .int .i64 0, .int .i64 0] 32) = W2 := ⟨_, rfl⟩
      rw [hW2] at hb hw1 b0 ⊢
      clear HTW ta hgw hg hW2 hw0
      have hw0 := hw1
      have HTW := Lib.hid hw1
      clear hw1
      obtain ⟨W, rfl⟩ : ∃ W, W = W2 := ⟨_, rfl⟩
      refine wpAnyIn_ready (rs := [4]) (by kernel_rfl) (by simp) ?_
      refine AllReadyIn.cons rfl (fun K hK => ?_) AllReadyIn.nil
      (go_simp; (first | (refine ⟨trivial, ?_⟩) | (refine ⟨fun _ h => (by cases h), ?_⟩) | skip); refine hK _ _ ?_; clear hK K)
      refine wpAnyIn_ready (rs := [5]) (by kernel_rfl) (by simp) ?_
      refine AllReadyIn.cons rfl (fun K hK => ?_) AllReadyIn.nil
      (go_simp; gi_wp2_with ((first | (refine ⟨trivial, fun h => (by cases h), ?_⟩) | (refine ⟨trivial, ?_⟩) | (refine ⟨fun h => (by cases h), ?_⟩) | skip); gi_at_call 23; refine (callsIn_wide.2 (HG.out _ HTW.out)).mono ?_; rintro e W3 ⟨rfl, t3⟩))
      have hw1 := HTW.out.trans t3 (fun _ _ q => q)
      have hb := turn_heap t3 hb
      have b0 := turn_cell t3 b0
      clear HTW hw0 t3
      have HTW := Lib.hid hw1
      have hw0 := hw1
      clear hw1
      obtain ⟨W, rfl⟩ : ∃ W, W = W3 := ⟨_, rfl⟩
      (first | (refine wpAnyIn_take (i := 6) (v := ?_) rfl rfl (by kernel_rfl) (by kernel_rfl) (by kernel_rfl) (fun _ _ _ h => h) ⟨Or.inl ⟨by rfl, ?_⟩, fun _ => rfl⟩ ?_; rotate_left; (intro w'; first | (go_simp; done) | (go_simp; with_reducible rfl))) | (refine wpAnyIn_take (i := 6) (v := undef) rfl rfl (by kernel_rfl) (by kernel_rfl) (by kernel_rfl) (fun _ _ _ h => h) ⟨Or.inr ⟨by rfl, rfl⟩, fun _ => rfl⟩ ?_))
      (first | (refine wpAnyIn_take (i := 7) (v := ?_) rfl rfl (by kernel_rfl) (by kernel_rfl) (by kernel_rfl) (fun _ _ _ h => h) ⟨Or.inl ⟨by rfl, ?_⟩, fun _ => rfl⟩ ?_; rotate_left; (intro w'; first | (go_simp; done) | (go_simp; with_reducible rfl))) | (refine wpAnyIn_take (i := 7) (v := undef) rfl rfl (by kernel_rfl) (by kernel_rfl) (by kernel_rfl) (fun _ _ _ h => h) ⟨Or.inr ⟨by rfl, rfl⟩, fun _ => rfl⟩ ?_))
      (first | (refine wpAnyIn_take (i := 8) (v := ?_) rfl rfl (by kernel_rfl) (by kernel_rfl) (by kernel_rfl) (fun _ _ _ h => h) ⟨Or.inl ⟨by rfl, ?_⟩, fun _ => rfl⟩ ?_; rotate_left; (intro w'; first | (go_simp; done) | (go_simp; with_reducible rfl))) | (refine wpAnyIn_take (i := 8) (v := undef) rfl rfl (by kernel_rfl) (by kernel_rfl) (by kernel_rfl) (fun _ _ _ h => h) ⟨Or.inr ⟨by rfl, rfl⟩, fun _ => rfl⟩ ?_))
      refine wpAnyIn_ready (rs := [10]) (by kernel_rfl) (by simp) ?_
      refine AllReadyIn.cons rfl (fun K hK => ?_) AllReadyIn.nil
      obtain ⟨⟨z0, z1, z2, z3, z4⟩, f0, f1, f2, f3, f4⟩ := ev_open hb
      (go_simp; (first | (refine ⟨trivial, ?_⟩) | (refine ⟨fun _ h => (by cases h), ?_⟩) | skip); refine hK _ _ ?_; clear hK K)
      refine wpAnyIn_ready (rs := [11]) (by kernel_rfl) (by simp) ?_
      refine AllReadyIn.cons rfl (fun K hK => ?_) AllReadyIn.nil
      (go_simp; (first | (refine ⟨trivial, ?_⟩) | (refine ⟨fun _ h => (by cases h), ?_⟩) | skip); refine hK _ _ ?_; clear hK K)
      refine wpAnyIn_done (by kernel_rfl) ?_ _
      exact ⟨g, HGW.out, rfl, setEv_at hb _, setEv_turn HTW.out (Or.inr HGW.out) _⟩
  rintro e a' W' hq
  cases e <;> first | (exact hq.elim) | skip
  obtain ⟨g, hgl, rfl, hbg, ht⟩ := hq
  dsimp only
  have HTG := Lib.hid ht
  have HLG := Lib.hid (HL.out.later ht (fun q => q))
  have HRG := Lib.hid (HRL.out.later ht)
  have HBG := Lib.hid (turn_heap ht HBL.out)
  have HGG := Lib.hid hbg
  obtain ⟨⟨b0, b1, b2, b3, b4⟩, f0, f1, f2, f3, f4⟩ := ev_open HBG.out
  have HLEN := Lib.hid (len_q HLG.out HRG.out rfl)
  have i1 : (5000 : Int) ≤ (t.count : Nat) := by have := HN.out; omega
  clear hbg ht HL HRL HBL hgl HG
  go_wp2_with (go_at_call 25; refine HLEN.out.mono ?_; rintro e w3 ⟨rfl, rfl⟩)
  refine leaves_cons (f := 22) (args := #[.pointer (some ⟨mp, 0, none⟩)]) (by simp) (by simp [go_sem]) ?_
  refine (Go.MuLone.unlock_deferred Tryz.muLib ⟨mp, 0, none⟩ .returning _ (HLG.out.cell 0) (HLG.out.free 0)).mono ?_
  rintro e u' w'' ⟨rfl, rfl, rfl⟩
  refine ⟨_, results_bi (by kernel_rfl) rfl rfl, rfl, ⟨HZ.out, root, ver, HV.out, HLG.out.set0 0, HRG.out.turned (turn1 _ mp 0 (.int .i32 0)) HLG.out.noNode⟩, (HTL.out.trans HTG.out (fun _ _ q => q.elim)).set mp 0 (Or.inl rfl) _⟩

set_option maxRecDepth 100000 in
set_option maxHeartbeats 4000000 in
theorem ing_known (h : MetR w mp t rep) (x : Ev) (hx : EvIn x) (hc : checkE x = 0) (hq : Tb.get t x.key = some x) (hrep : rep < 1000000) :
    Calls Tryz.prog 9 #[.pointer (some ⟨mp, 0, none⟩), valV x] w fun r w' => r = .returned (ansV true 0) ∧ MetR w' mp t (rep + 1) ∧ Turn (fun b => b = mp) w w' := by
  obtain ⟨W1, hW1, tb, bx0, bx1, bx2, bx3, bx4⟩ := ev_box w x
  have hbx : W1.heap[w.heap.size]? = some (evBox x) := by rw [← hW1]; exact heap_alloc_new w _
  obtain ⟨hz, root, ver, hv, hm, hr⟩ := h
  have HC := Lib.hid (fun w => check_any x hx w)
  rw [hc] at HC
  have HM := Lib.hid hm
  have HR := Lib.hid hr
  have HZ := Lib.hid hz
  have HV := Lib.hid hv
  have HTB := Lib.hid tb
  have HB1 := Lib.hid hbx
  have HX := Lib.hid hx
  obtain ⟨B, hB⟩ : ∃ B, w.heap.size = B := ⟨_, rfl⟩
  rw [hB] at bx0 bx1 bx2 bx3 bx4 HB1
  have HBS := Lib.hid hB
  clear hx hc tb hz hv hm hr hbx
  go_enter_defers Tryz.func9, Tryz.ntmps9
  go_wp2_with fail
  clear bx0 bx1 bx2 bx3 bx4 hW1 hB
  go_at_call 14
  refine (HC.out _).mono ?_
  rintro e w2 ⟨rfl, t2⟩
  have HT2 := Lib.hid (HTB.out.trans t2 (fun _ _ q => q))
  have HB2 := Lib.hid (turn_heap t2 HB1.out)
  have HM2 := Lib.hid (HM.out.later HT2.out (fun q => q))
  have HR2 := Lib.hid (HR.out.later HT2.out)
  clear HB1 HM HR HTB t2
  go_wp2_with fail
  go_at_call 21
  refine (Go.MuLone.lock_free Tryz.muLib ⟨mp, 0, none⟩ _ (HM2.out.cell 0) (HM2.out.free 0)).mono ?_
  rintro e wL ⟨rfl, rfl⟩
  go_wp2_with fail
  have hL : MetC (w2.setCell ⟨mp, 0, none⟩ (.int .i32 1)) mp 1 0 0 root (ver : Int) (rep : Int) := HM2.out.set0 1
  have tL : Turn (fun b => b = mp) w2 (w2.setCell ⟨mp, 0, none⟩ (.int .i32 1)) := turn1 w2 mp 0 _
  have rL := HR2.out.turned tL HM2.out.noNode
  have bL : (w2.setCell ⟨mp, 0, none⟩ (.int .i32 1)).heap[B]? = some (evBox x) := (heap_setCell_other (fun e => by have hm := HM2.out; have hb := HB2.out; rw [show B = mp from e, show w2.heap[mp]? = _ from hm] at hb; cases hb) _).trans HB2.out
  obtain ⟨wl, hwl⟩ : ∃ wl, w2.setCell ⟨mp, 0, none⟩ (.int .i32 1) = wl := ⟨_, rfl⟩
  rw [hwl] at hL tL rL bL ⊢
  have HL := Lib.hid hL
  have HTL := Lib.hid ((HT2.out.mono (fun _ q => q.elim)).trans tL (fun _ _ q => q))
  have HRL := Lib.hid rL
  have HBL := Lib.hid bL
  obtain ⟨⟨b0, b1, b2, b3, b4⟩, f0, f1, f2, f3, f4⟩ := ev_open bL
  clear hL tL rL bL hwl HM2 HR2 HT2 HB2
  have HG := Lib.hid (fun (W : World) (hW : Turn (fun _ => False) wl W) => tget_any (HL.out.later hW (fun q => q)) (HRL.out.later hW) x.key)
  have HREP := Lib.hid hrep
  rw [hq] at HG
  unfold gotV at HG
  clear hq hrep
  refine (wpIn_wide (n := 10)).1 ?_
  refine wpIn_mono (Q := NormQ (fun _ a' W' => ∃ g, wl.heap.size ≤ g ∧ a' = ({ tmps := #[.pointer (some ⟨mp, 0, none⟩), valV x, undef, .pointer (some ⟨B, 0, none⟩), .bool false, .int .i64 0, .int .i64 0, .pointer (some ⟨g, 0, none⟩), .bool true, valV x, .int .i64 0, .int .i64 0, .bool false, undef, .pointer (some ⟨mp, 0, none⟩), .bool false, .pointer (some ⟨mp, 0, none⟩), .pointer (some ⟨mp, 0, none⟩), .pointer (some ⟨mp, 0, none⟩), .tuple #[], .pointer (some ⟨mp, 0, none⟩), .pointer (some ⟨mp, 0, none⟩), .pointer (some ⟨mp, 0, none⟩), .tuple #[valV x, .bool true], .pointer (some ⟨mp, 0, none⟩), .pointer (some ⟨mp, 0, none⟩), .pointer (some ⟨mp, 2, none⟩), .pointer (some ⟨B, 0, none⟩), keyV x.key, .tuple #[valV x, .bool true], valV x, .bool true, undef, undef, undef, undef, undef, undef, undef, undef, undef, undef, undef, undef, undef, undef, undef, undef, undef, undef, undef, undef, undef, undef, undef, undef, undef, undef, undef, undef], defers := [{ target := .fn (.func 22) #[], args := #[.pointer (some ⟨mp, 0, none⟩)] }] } : Act) ∧ W'.heap[g]? = some (evBox x) ∧ Turn (fun _ => False) wl W')) ?_ ?_
  · refine wpIn_region_any (by kernel_rfl) ?_
    try (change wpAnyIn _ _ _ _ _ _ _ _ _ (World.drew _))
    have b0 := turn_cell ((like_drew wl).turn (fun _ => False)) b0
    have hw0 := (like_drew wl).turn (fun _ => False)
    obtain ⟨W, hW⟩ : ∃ W, wl.drew = W := ⟨_, rfl⟩
    rw [hW] at b0 hw0 ⊢
    clear hW
    have HTW := Lib.hid hw0
    (first | (refine wpAnyIn_take (i := 0) (v := ?_) rfl rfl (by kernel_rfl) (by kernel_rfl) (by kernel_rfl) (fun _ _ _ h => h) ⟨Or.inl ⟨by rfl, ?_⟩, fun _ => rfl⟩ ?_; rotate_left; (intro w'; first | (go_simp; done) | (go_simp; with_reducible rfl))) | (refine wpAnyIn_take (i := 0) (v := undef) rfl rfl (by kernel_rfl) (by kernel_rfl) (by kernel_rfl) (fun _ _ _ h => h) ⟨Or.inr ⟨by rfl, rfl⟩, fun _ => rfl⟩ ?_))
    (first | (refine wpAnyIn_take (i := 1) (v := ?_) rfl rfl (by kernel_rfl) (by kernel_rfl) (by kernel_rfl) (fun _ _ _ h => h) ⟨Or.inl ⟨by rfl, ?_⟩, fun _ => rfl⟩ ?_; rotate_left; (intro w'; first | (go_simp; done) | (go_simp; with_reducible rfl))) | (refine wpAnyIn_take (i := 1) (v := undef) rfl rfl (by kernel_rfl) (by kernel_rfl) (by kernel_rfl) (fun _ _ _ h => h) ⟨Or.inr ⟨by rfl, rfl⟩, fun _ => rfl⟩ ?_))
    (first | (refine wpAnyIn_take (i := 2) (v := ?_) rfl rfl (by kernel_rfl) (by kernel_rfl) (by kernel_rfl) (fun _ _ _ h => h) ⟨Or.inl ⟨by rfl, ?_⟩, fun _ => rfl⟩ ?_; rotate_left; (intro w'; first | (go_simp; done) | (go_simp; with_reducible rfl))) | (refine wpAnyIn_take (i := 2) (v := undef) rfl rfl (by kernel_rfl) (by kernel_rfl) (by kernel_rfl) (fun _ _ _ h => h) ⟨Or.inr ⟨by rfl, rfl⟩, fun _ => rfl⟩ ?_))
    (first | (refine wpAnyIn_take (i := 3) (v := ?_) rfl rfl (by kernel_rfl) (by kernel_rfl) (by kernel_rfl) (fun _ _ _ h => h) ⟨Or.inl ⟨by rfl, ?_⟩, fun _ => rfl⟩ ?_; rotate_left; (intro w'; first | (go_simp; done) | (go_simp; with_reducible rfl))) | (refine wpAnyIn_take (i := 3) (v := undef) rfl rfl (by kernel_rfl) (by kernel_rfl) (by kernel_rfl) (fun _ _ _ h => h) ⟨Or.inr ⟨by rfl, rfl⟩, fun _ => rfl⟩ ?_))
    refine wpAnyIn_ready (rs := [4, 9]) (by kernel_rfl) (by simp) ?_
    refine AllReadyIn.cons rfl (fun K hK => ?_) (AllReadyIn.cons rfl (fun K hK => ?_) AllReadyIn.nil)
    · (go_simp; (first | (refine ⟨trivial, ?_⟩) | (refine ⟨fun _ h => (by cases h), ?_⟩) | skip); refine hK _ _ ?_; clear hK K)
      refine wpAnyIn_ready (rs := [5, 9]) (by kernel_rfl) (by simp) ?_
      refine AllReadyIn.cons rfl (fun K hK => ?_) (AllReadyIn.cons rfl (fun K hK => ?_) AllReadyIn.nil)
      · (go_simp; gi_wp2_with ((first | (refine ⟨trivial, fun h => (by cases h), ?_⟩) | (refine ⟨trivial, ?_⟩) | (refine ⟨fun h => (by cases h), ?_⟩) | skip); gi_at_call 23; refine (callsIn_wide.2 (HG.out _ HTW.out)).mono ?_; rintro e W3 ⟨rfl, t3⟩))
        have hw1 := HTW.out.trans t3 (fun _ _ q => q)
        have b0 := turn_cell t3 b0
        clear HTW hw0 t3
        have HTW := Lib.hid hw1
        have hw0 := hw1
        clear hw1
        obtain ⟨W, rfl⟩ : ∃ W, W = W3 := ⟨_, rfl⟩
        (first | (refine wpAnyIn_take (i := 6) (v := ?_) rfl rfl (by kernel_rfl) (by kernel_rfl) (by kernel_rfl) (fun _ _ _ h => h) ⟨Or.inl ⟨by rfl, ?_⟩, fun _ => rfl⟩ ?_; rotate_left; (intro w'; first | (go_simp; done) | (go_simp; with_reducible rfl))) | (refine wpAnyIn_take (i := 6) (v := undef) rfl rfl (by kernel_rfl) (by kernel_rfl) (by kernel_rfl) (fun _ _ _ h => h) ⟨Or.inr ⟨by rfl, rfl⟩, fun _ => rfl⟩ ?_))
        (first | (refine wpAnyIn_take (i := 7) (v := ?_) rfl rfl (by kernel_rfl) (by kernel_rfl) (by kernel_rfl) (fun _ _ _ h => h) ⟨Or.inl ⟨by rfl, ?_⟩, fun _ => rfl⟩ ?_; rotate_left; (intro w'; first | (go_simp; done) | (go_simp; with_reducible rfl))) | (refine wpAnyIn_take (i := 7) (v := undef) rfl rfl (by kernel_rfl) (by kernel_rfl) (by kernel_rfl) (fun _ _ _ h => h) ⟨Or.inr ⟨by rfl, rfl⟩, fun _ => rfl⟩ ?_))
        (first | (refine wpAnyIn_take (i := 8) (v := ?_) rfl rfl (by kernel_rfl) (by kernel_rfl) (by kernel_rfl) (fun _ _ _ h => h) ⟨Or.inl ⟨by rfl, ?_⟩, fun _ => rfl⟩ ?_; rotate_left; (intro w'; first | (go_simp; done) | (go_simp; with_reducible rfl))) | (refine wpAnyIn_take (i := 8) (v := undef) rfl rfl (by kernel_rfl) (by kernel_rfl) (by kernel_rfl) (fun _ _ _ h => h) ⟨Or.inr ⟨by rfl, rfl⟩, fun _ => rfl⟩ ?_))
        refine wpAnyIn_ready (rs := [9]) (by kernel_rfl) (by simp) ?_
        refine AllReadyIn.cons rfl (fun K hK => ?_) AllReadyIn.nil
        obtain ⟨g, hg⟩ : ∃ g, W.heap.size = g := ⟨_, rfl⟩
        (go_simp; (first | (refine ⟨trivial, ?_⟩) | (refine ⟨fun _ h => (by cases h), ?_⟩) | skip); refine hK _ _ ?_; clear hK K)
        have ta := turnBox W (.cells #[.string ⟨#[]⟩, .string ⟨#[]⟩, .string ⟨#[]⟩, .int .i64 0, .int .i64 0] 32)
        have hb : (W.alloc (.cells #[.string ⟨#[]⟩, .string ⟨#[]⟩, .string ⟨#[]⟩, .int .i64 0, .int .i64 0] 32)).heap[W.heap.size]? = some (evBox noEv) := heap_alloc_new W _
        have hw1 := HTW.out.trans ta (fun _ _ q => q)
        have hgw := hw0.size
        rw [hg] at hb hgw
        have HGW := Lib.hid hgw
        have b0 := turn_cell ta b0
        obtain ⟨W2, hW2⟩ : ∃ W2, W.alloc (.cells #[.string ⟨#[]⟩, .string ⟨#[]⟩, .string ⟨#[]⟩, .int .i64 0, .int .i64 0] 32) = W2 := ⟨_, rfl⟩
        rw [hW2] at hb hw1 b0 ⊢
        clear HTW ta hgw hg hW2 hw0
        have hw0 := hw1
        have HTW := Lib.hid hw1
        clear hw1
        obtain ⟨W, rfl⟩ : ∃ W, W = W2 := ⟨_, rfl⟩
        refine wpAnyIn_ready (rs := [10]) (by kernel_rfl) (by simp) ?_
        refine AllReadyIn.cons rfl (fun K hK => ?_) AllReadyIn.nil
        obtain ⟨⟨z0, z1, z2, z3, z4⟩, f0, f1, f2, f3, f4⟩ := ev_open hb
        (go_simp; (first | (refine ⟨trivial, ?_⟩) | (refine ⟨fun _ h => (by cases h), ?_⟩) | skip); refine hK _ _ ?_; clear hK K)
        refine wpAnyIn_ready (rs := [11]) (by kernel_rfl) (by simp) ?_
        refine AllReadyIn.cons rfl (fun K hK => ?_) AllReadyIn.nil
        (go_simp; (first | (refine ⟨trivial, ?_⟩) | (refine ⟨fun _ h => (by cases h), ?_⟩) | skip); refine hK _ _ ?_; clear hK K)
        refine wpAnyIn_done (by kernel_rfl) ?_ _
        exact ⟨g, HGW.out, rfl, setEv_at hb _, setEv_turn HTW.out (Or.inr HGW.out) _⟩
      · obtain ⟨g, hg⟩ : ∃ g, W.heap.size = g := ⟨_, rfl⟩
        (go_simp; (first | (refine ⟨trivial, ?_⟩) | (refine ⟨fun _ h => (by cases h), ?_⟩) | skip); refine hK _ _ ?_; clear hK K)
        have ta := turnBox W (.cells #[.string ⟨#[]⟩, .string ⟨#[]⟩, .string ⟨#[]⟩, .int .i64 0, .int .i64 0] 32)
        have hb : (W.alloc (.cells #[.string ⟨#[]⟩, .string ⟨#[]⟩, .string ⟨#[]⟩, .int .i64 0, .int .i64 0] 32)).heap[W.heap.size]? = some (evBox noEv) := heap_alloc_new W _
        have hw1 := HTW.out.trans ta (fun _ _ q => q)
        have hgw := hw0.size
        rw [hg] at hb hgw
        have HGW := Lib.hid hgw
        have b0 := turn_cell ta b0
        obtain ⟨W2, hW2⟩ : ∃ W2, W.alloc (.cells #[.string ⟨#[]⟩, .string ⟨#[]⟩, .string ⟨#[]⟩, .int .i64 0, .int .i64 0] 32) = W2 := ⟨_, rfl⟩
        rw [hW2] at hb hw1 b0 ⊢
        clear HTW ta hgw hg hW2 hw0
        have hw0 := hw1
        have HTW := Lib.hid hw1
        clear hw1
        obtain ⟨W, rfl⟩ : ∃ W, W = W2 := ⟨_, rfl⟩
        refine wpAnyIn_ready (rs := [5]) (by kernel_rfl) (by simp) ?_
        refine AllReadyIn.cons rfl (fun K hK => ?_) AllReadyIn.nil
        (go_simp; gi_wp2_with ((first | (refine ⟨trivial, fun h => (by cases h), ?_⟩) | (refine ⟨trivial, ?_⟩) | (refine ⟨fun h => (by cases h), ?_⟩) | skip); gi_at_call 23; refine (callsIn_wide.2 (HG.out _ HTW.out)).mono ?_; rintro e W3 ⟨rfl, t3⟩))
        have hw1 := HTW.out.trans t3 (fun _ _ q => q)
        have hb := turn_heap t3 hb
        have b0 := turn_cell t3 b0
        clear HTW hw0 t3
        have HTW := Lib.hid hw1
        have hw0 := hw1
        clear hw1
        obtain ⟨W, rfl⟩ : ∃ W, W = W3 := ⟨_, rfl⟩
        (first | (refine wpAnyIn_take (i := 6) (v := ?_) rfl rfl (by kernel_rfl) (by kernel_rfl) (by kernel_rfl) (fun _ _ _ h => h) ⟨Or.inl ⟨by rfl, ?_⟩, fun _ => rfl⟩ ?_; rotate_left; (intro w'; first | (go_simp; done) | (go_simp; with_reducible rfl))) | (refine wpAnyIn_take (i := 6) (v := undef) rfl rfl (by kernel_rfl) (by kernel_rfl) (by kernel_rfl) (fun _ _ _ h => h) ⟨Or.inr ⟨by rfl, rfl⟩, fun _ => rfl⟩ ?_))
        (first | (refine wpAnyIn_take (i := 7) (v := ?_) rfl rfl (by kernel_rfl) (by kernel_rfl) (by kernel_rfl) (fun _ _ _ h => h) ⟨Or.inl ⟨by rfl, ?_⟩, fun _ => rfl⟩ ?_; rotate_left; (intro w'; first | (go_simp; done) | (go_simp; with_reducible rfl))) | (refine wpAnyIn_take (i := 7) (v := undef) rfl rfl (by kernel_rfl) (by kernel_rfl) (by kernel_rfl) (fun _ _ _ h => h) ⟨Or.inr ⟨by rfl, rfl⟩, fun _ => rfl⟩ ?_))
        (first | (refine wpAnyIn_take (i := 8) (v := ?_) rfl rfl (by kernel_rfl) (by kernel_rfl) (by kernel_rfl) (fun _ _ _ h => h) ⟨Or.inl ⟨by rfl, ?_⟩, fun _ => rfl⟩ ?_; rotate_left; (intro w'; first | (go_simp; done) | (go_simp; with_reducible rfl))) | (refine wpAnyIn_take (i := 8) (v := undef) rfl rfl (by kernel_rfl) (by kernel_rfl) (by kernel_rfl) (fun _ _ _ h => h) ⟨Or.inr ⟨by rfl, rfl⟩, fun _ => rfl⟩ ?_))
        refine wpAnyIn_ready (rs := [10]) (by kernel_rfl) (by simp) ?_
        refine AllReadyIn.cons rfl (fun K hK => ?_) AllReadyIn.nil
        obtain ⟨⟨z0, z1, z2, z3, z4⟩, f0, f1, f2, f3, f4⟩ := ev_open hb
        (go_simp; (first | (refine ⟨trivial, ?_⟩) | (refine ⟨fun _ h => (by cases h), ?_⟩) | skip); refine hK _ _ ?_; clear hK K)
        refine wpAnyIn_ready (rs := [11]) (by kernel_rfl) (by simp) ?_
        refine AllReadyIn.cons rfl (fun K hK => ?_) AllReadyIn.nil
        (go_simp; (first | (refine ⟨trivial, ?_⟩) | (refine ⟨fun _ h => (by cases h), ?_⟩) | skip); refine hK _ _ ?_; clear hK K)
        refine wpAnyIn_done (by kernel_rfl) ?_ _
        exact ⟨g, HGW.out, rfl, setEv_at hb _, setEv_turn HTW.out (Or.inr HGW.out) _⟩
    · obtain ⟨g, hg⟩ : ∃ g, W.heap.size = g := ⟨_, rfl⟩
      (go_simp; (first | (refine ⟨trivial, ?_⟩) | (refine ⟨fun _ h => (by cases h), ?_⟩) | skip); refine hK _ _ ?_; clear hK K)
      have ta := turnBox W (.cells #[.string ⟨#[]⟩, .string ⟨#[]⟩, .string ⟨#[]⟩, .int .i64 0, .int .i64 0] 32)
      have hb : (W.alloc (.cells #[.string ⟨#[]⟩, .string ⟨#[]⟩, .string ⟨#[]⟩, .int .i64 0, .int .i64 0] 32)).heap[W.heap.size]? = some (evBox noEv) := heap_alloc_new W _
      have hw1 := HTW.out.trans ta (fun _ _ q => q)
      have hgw := hw0.size
      rw [hg] at hb hgw
      have HGW := Lib.hid hgw
      have b0 := turn_cell ta b0
      obtain ⟨W2, hW2⟩ : ∃ W2, W.alloc (.cells #[.string ⟨#[]⟩, .string ⟨#[]⟩, .string ⟨#[]⟩, .int .i64 0, .int .i64 0] 32) = W2 := ⟨_, rfl⟩
      rw [hW2] at hb hw1 b0 ⊢
      clear HTW ta hgw hg hW2 hw0
      have hw0 := hw1
      have HTW := Lib.hid hw1
      clear hw1
      obtain ⟨W, rfl⟩ : ∃ W, W = W2 := ⟨_, rfl⟩
      refine wpAnyIn_ready (rs := [4]) (by kernel_rfl) (by simp) ?_
      refine AllReadyIn.cons rfl (fun K hK => ?_) AllReadyIn.nil
      (go_simp; (first | (refine ⟨trivial, ?_⟩) | (refine ⟨fun _ h => (by cases h), ?_⟩) | skip); refine hK _ _ ?_; clear hK K)
      refine wpAnyIn_ready (rs := [5]) (by kernel_rfl) (by simp) ?_
      refine AllReadyIn.cons rfl (fun K hK => ?_) AllReadyIn.nil
      (go_simp; gi_wp2_with ((first | (refine ⟨trivial, fun h => (by cases h), ?_⟩) | (refine ⟨trivial, ?_⟩) | (refine ⟨fun h => (by cases h), ?_⟩) | skip); gi_at_call 23; refine (callsIn_wide.2 (HG.out _ HTW.out)).mono ?_; rintro e W3 ⟨rfl, t3⟩))
      have hw1 := HTW.out.trans t3 (fun _ _ q => q)
      have hb := turn_heap t3 hb
      have b0 := turn_cell t3 b0
      clear HTW hw0 t3
      have HTW := Lib.hid hw1
      have hw0 := hw1
      clear hw1
      obtain ⟨W, rfl⟩ : ∃ W, W = W3 := ⟨_, rfl⟩
      (first | (refine wpAnyIn_take (i := 6) (v := ?_) rfl rfl (by kernel_rfl) (by kernel_rfl) (by kernel_rfl) (fun _ _ _ h => h) ⟨Or.inl ⟨by rfl, ?_⟩, fun _ => rfl⟩ ?_; rotate_left; (intro w'; first | (go_simp; done) | (go_simp; with_reducible rfl))) | (refine wpAnyIn_take (i := 6) (v := undef) rfl rfl (by kernel_rfl) (by kernel_rfl) (by kernel_rfl) (fun _ _ _ h => h) ⟨Or.inr ⟨by rfl, rfl⟩, fun _ => rfl⟩ ?_))
      (first | (refine wpAnyIn_take (i := 7) (v := ?_) rfl rfl (by kernel_rfl) (by kernel_rfl) (by kernel_rfl) (fun _ _ _ h => h) ⟨Or.inl ⟨by rfl, ?_⟩, fun _ => rfl⟩ ?_; rotate_left; (intro w'; first | (go_simp; done) | (go_simp; with_reducible rfl))) | (refine wpAnyIn_take (i := 7) (v := undef) rfl rfl (by kernel_rfl) (by kernel_rfl) (by kernel_rfl) (fun _ _ _ h => h) ⟨Or.inr ⟨by rfl, rfl⟩, fun _ => rfl⟩ ?_))
      (first | (refine wpAnyIn_take (i := 8) (v := ?_) rfl rfl (by kernel_rfl) (by kernel_rfl) (by kernel_rfl) (fun _ _ _ h => h) ⟨Or.inl ⟨by rfl, ?_⟩, fun _ => rfl⟩ ?_; rotate_left; (intro w'; first | (go_simp; done) | (go_simp; with_reducible rfl))) | (refine wpAnyIn_take (i := 8) (v := undef) rfl rfl (by kernel_rfl) (by kernel_rfl) (by kernel_rfl) (fun _ _ _ h => h) ⟨Or.inr ⟨by rfl, rfl⟩, fun _ => rfl⟩ ?_))
      refine wpAnyIn_ready (rs := [10]) (by kernel_rfl) (by simp) ?_
      refine AllReadyIn.cons rfl (fun K hK => ?_) AllReadyIn.nil
      obtain ⟨⟨z0, z1, z2, z3, z4⟩, f0, f1, f2, f3, f4⟩ := ev_open hb
      (go_simp; (first | (refine ⟨trivial, ?_⟩) | (refine ⟨fun _ h => (by cases h), ?_⟩) | skip); refine hK _ _ ?_; clear hK K)
      refine wpAnyIn_ready (rs := [11]) (by kernel_rfl) (by simp) ?_
      refine AllReadyIn.cons rfl (fun K hK => ?_) AllReadyIn.nil
      (go_simp; (first | (refine ⟨trivial, ?_⟩) | (refine ⟨fun _ h => (by cases h), ?_⟩) | skip); refine hK _ _ ?_; clear hK K)
      refine wpAnyIn_done (by kernel_rfl) ?_ _
      exact ⟨g, HGW.out, rfl, setEv_at hb _, setEv_turn HTW.out (Or.inr HGW.out) _⟩
  rintro e a' W' hq
  cases e <;> first | (exact hq.elim) | skip
  obtain ⟨g, hgl, rfl, hbg, ht⟩ := hq
  dsimp only
  have HTG := Lib.hid ht
  have HLG := Lib.hid (HL.out.later ht (fun q => q))
  have HRG := Lib.hid (HRL.out.later ht)
  have HBG := Lib.hid (turn_heap ht HBL.out)
  have HGG := Lib.hid hbg
  obtain ⟨⟨b0, b1, b2, b3, b4⟩, f0, f1, f2, f3, f4⟩ := ev_open HBG.out
  have HADD := Lib.hid (addr_any HLG.out (by omega) (by have := HREP.out; omega))
  obtain ⟨⟨c0, c1, c2, c3, c4⟩, _⟩ := ev_open HGG.out
  clear hbg ht HL HRL HBL hgl HG
  go_wp2_with (go_at_call 24; refine HADD.out.mono ?_; rintro e w3 ⟨rfl, rfl⟩)
  have m10 := HLG.out.set10 ((rep : Int) + 1)
  have r10 := HRG.out.turned (turn1 _ mp 10 (.int .i64 ((rep : Int) + 1))) HLG.out.noNode
  refine leaves_cons (f := 22) (args := #[.pointer (some ⟨mp, 0, none⟩)]) (by simp) (by simp [go_sem]) ?_
  refine (Go.MuLone.unlock_deferred Tryz.muLib ⟨mp, 0, none⟩ .returning _ (m10.cell 0) (m10.free 0)).mono ?_
  rintro e u' w'' ⟨rfl, rfl, rfl⟩
  refine ⟨_, results_bi (by kernel_rfl) rfl rfl, rfl, ⟨HZ.out, root, ver, HV.out, m10.set0 0, r10.turned (turn1 _ mp 0 (.int .i32 0)) m10.noNode⟩, ((HTL.out.trans HTG.out (fun _ _ q => q.elim)).set mp 10 (Or.inl rfl) _).set mp 0 (Or.inl rfl) _⟩

set_option maxRecDepth 100000 in
set_option maxHeartbeats 4000000 in
theorem ing_conf (h : MetR w mp t rep) (x : Ev) (hx : EvIn x) (hc : checkE x = 0) (y : Ev) (hq : Tb.get t x.key = some y) (hne : y ≠ x) :
    Calls Tryz.prog 9 #[.pointer (some ⟨mp, 0, none⟩), valV x] w fun r w' => r = .returned (ansV false 24) ∧ MetR w' mp t rep ∧ Turn (fun b => b = mp) w w' := by
  obtain ⟨W1, hW1, tb, bx0, bx1, bx2, bx3, bx4⟩ := ev_box w x
  have hbx : W1.heap[w.heap.size]? = some (evBox x) := by rw [← hW1]; exact heap_alloc_new w _
  obtain ⟨hz, root, ver, hv, hm, hr⟩ := h
  have HC := Lib.hid (fun w => check_any x hx w)
  rw [hc] at HC
  have HM := Lib.hid hm
  have HR := Lib.hid hr
  have HZ := Lib.hid hz
  have HV := Lib.hid hv
  have HTB := Lib.hid tb
  have HB1 := Lib.hid hbx
  have HX := Lib.hid hx
  obtain ⟨B, hB⟩ : ∃ B, w.heap.size = B := ⟨_, rfl⟩
  rw [hB] at bx0 bx1 bx2 bx3 bx4 HB1
  have HBS := Lib.hid hB
  clear hx hc tb hz hv hm hr hbx
  go_enter_defers Tryz.func9, Tryz.ntmps9
  go_wp2_with fail
  clear bx0 bx1 bx2 bx3 bx4 hW1 hB
  go_at_call 14
  refine (HC.out _).mono ?_
  rintro e w2 ⟨rfl, t2⟩
  have HT2 := Lib.hid (HTB.out.trans t2 (fun _ _ q => q))
  have HB2 := Lib.hid (turn_heap t2 HB1.out)
  have HM2 := Lib.hid (HM.out.later HT2.out (fun q => q))
  have HR2 := Lib.hid (HR.out.later HT2.out)
  clear HB1 HM HR HTB t2
  go_wp2_with fail
  go_at_call 21
  refine (Go.MuLone.lock_free Tryz.muLib ⟨mp, 0, none⟩ _ (HM2.out.cell 0) (HM2.out.free 0)).mono ?_
  rintro e wL ⟨rfl, rfl⟩
  go_wp2_with fail
  have hL : MetC (w2.setCell ⟨mp, 0, none⟩ (.int .i32 1)) mp 1 0 0 root (ver : Int) (rep : Int) := HM2.out.set0 1
  have tL : Turn (fun b => b = mp) w2 (w2.setCell ⟨mp, 0, none⟩ (.int .i32 1)) := turn1 w2 mp 0 _
  have rL := HR2.out.turned tL HM2.out.noNode
  have bL : (w2.setCell ⟨mp, 0, none⟩ (.int .i32 1)).heap[B]? = some (evBox x) := (heap_setCell_other (fun e => by have hm := HM2.out; have hb := HB2.out; rw [show B = mp from e, show w2.heap[mp]? = _ from hm] at hb; cases hb) _).trans HB2.out
  obtain ⟨wl, hwl⟩ : ∃ wl, w2.setCell ⟨mp, 0, none⟩ (.int .i32 1) = wl := ⟨_, rfl⟩
  rw [hwl] at hL tL rL bL ⊢
  have HL := Lib.hid hL
  have HTL := Lib.hid ((HT2.out.mono (fun _ q => q.elim)).trans tL (fun _ _ q => q))
  have HRL := Lib.hid rL
  have HBL := Lib.hid bL
  obtain ⟨⟨b0, b1, b2, b3, b4⟩, f0, f1, f2, f3, f4⟩ := ev_open bL
  clear hL tL rL bL hwl HM2 HR2 HT2 HB2
  have HG := Lib.hid (fun (W : World) (hW : Turn (fun _ => False) wl W) => tget_any (HL.out.later hW (fun q => q)) (HRL.out.later hW) x.key)
  have HNE := Lib.hid hne
  rw [hq] at HG
  unfold gotV at HG
  clear hq hne
  refine (wpIn_wide (n := 10)).1 ?_
  refine wpIn_mono (Q := NormQ (fun _ a' W' => ∃ g, wl.heap.size ≤ g ∧ a' = ({ tmps := #[.pointer (some ⟨mp, 0, none⟩), valV x, undef, .pointer (some ⟨B, 0, none⟩), .bool false, .int .i64 0, .int .i64 0, .pointer (some ⟨g, 0, none⟩), .bool true, valV x, .int .i64 0, .int .i64 0, .bool false, undef, .pointer (some ⟨mp, 0, none⟩), .bool false, .pointer (some ⟨mp, 0, none⟩), .pointer (some ⟨mp, 0, none⟩), .pointer (some ⟨mp, 0, none⟩), .tuple #[], .pointer (some ⟨mp, 0, none⟩), .pointer (some ⟨mp, 0, none⟩), .pointer (some ⟨mp, 0, none⟩), .tuple #[valV y, .bool true], .pointer (some ⟨mp, 0, none⟩), .pointer (some ⟨mp, 0, none⟩), .pointer (some ⟨mp, 2, none⟩), .pointer (some ⟨B, 0, none⟩), keyV x.key, .tuple #[valV y, .bool true], valV y, .bool true, undef, undef, undef, undef, undef, undef, undef, undef, undef, undef, undef, undef, undef, undef, undef, undef, undef, undef, undef, undef, undef, undef, undef, undef, undef, undef, undef, undef], defers := [{ target := .fn (.func 22) #[], args := #[.pointer (some ⟨mp, 0, none⟩)] }] } : Act) ∧ W'.heap[g]? = some (evBox y) ∧ Turn (fun _ => False) wl W')) ?_ ?_
  · refine wpIn_region_any (by kernel_rfl) ?_
    try (change wpAnyIn _ _ _ _ _ _ _ _ _ (World.drew _))
    have b0 := turn_cell ((like_drew wl).turn (fun _ => False)) b0
    have hw0 := (like_drew wl).turn (fun _ => False)
    obtain ⟨W, hW⟩ : ∃ W, wl.drew = W := ⟨_, rfl⟩
    rw [hW] at b0 hw0 ⊢
    clear hW
    have HTW := Lib.hid hw0
    (first | (refine wpAnyIn_take (i := 0) (v := ?_) rfl rfl (by kernel_rfl) (by kernel_rfl) (by kernel_rfl) (fun _ _ _ h => h) ⟨Or.inl ⟨by rfl, ?_⟩, fun _ => rfl⟩ ?_; rotate_left; (intro w'; first | (go_simp; done) | (go_simp; with_reducible rfl))) | (refine wpAnyIn_take (i := 0) (v := undef) rfl rfl (by kernel_rfl) (by kernel_rfl) (by kernel_rfl) (fun _ _ _ h => h) ⟨Or.inr ⟨by rfl, rfl⟩, fun _ => rfl⟩ ?_))
    (first | (refine wpAnyIn_take (i := 1) (v := ?_) rfl rfl (by kernel_rfl) (by kernel_rfl) (by kernel_rfl) (fun _ _ _ h => h) ⟨Or.inl ⟨by rfl, ?_⟩, fun _ => rfl⟩ ?_; rotate_left; (intro w'; first | (go_simp; done) | (go_simp; with_reducible rfl))) | (refine wpAnyIn_take (i := 1) (v := undef) rfl rfl (by kernel_rfl) (by kernel_rfl) (by kernel_rfl) (fun _ _ _ h => h) ⟨Or.inr ⟨by rfl, rfl⟩, fun _ => rfl⟩ ?_))
    (first | (refine wpAnyIn_take (i := 2) (v := ?_) rfl rfl (by kernel_rfl) (by kernel_rfl) (by kernel_rfl) (fun _ _ _ h => h) ⟨Or.inl ⟨by rfl, ?_⟩, fun _ => rfl⟩ ?_; rotate_left; (intro w'; first | (go_simp; done) | (go_simp; with_reducible rfl))) | (refine wpAnyIn_take (i := 2) (v := undef) rfl rfl (by kernel_rfl) (by kernel_rfl) (by kernel_rfl) (fun _ _ _ h => h) ⟨Or.inr ⟨by rfl, rfl⟩, fun _ => rfl⟩ ?_))
    (first | (refine wpAnyIn_take (i := 3) (v := ?_) rfl rfl (by kernel_rfl) (by kernel_rfl) (by kernel_rfl) (fun _ _ _ h => h) ⟨Or.inl ⟨by rfl, ?_⟩, fun _ => rfl⟩ ?_; rotate_left; (intro w'; first | (go_simp; done) | (go_simp; with_reducible rfl))) | (refine wpAnyIn_take (i := 3) (v := undef) rfl rfl (by kernel_rfl) (by kernel_rfl) (by kernel_rfl) (fun _ _ _ h => h) ⟨Or.inr ⟨by rfl, rfl⟩, fun _ => rfl⟩ ?_))
    refine wpAnyIn_ready (rs := [4, 9]) (by kernel_rfl) (by simp) ?_
    refine AllReadyIn.cons rfl (fun K hK => ?_) (AllReadyIn.cons rfl (fun K hK => ?_) AllReadyIn.nil)
    · (go_simp; (first | (refine ⟨trivial, ?_⟩) | (refine ⟨fun _ h => (by cases h), ?_⟩) | skip); refine hK _ _ ?_; clear hK K)
      refine wpAnyIn_ready (rs := [5, 9]) (by kernel_rfl) (by simp) ?_
      refine AllReadyIn.cons rfl (fun K hK => ?_) (AllReadyIn.cons rfl (fun K hK => ?_) AllReadyIn.nil)
      · (go_simp; gi_wp2_with ((first | (refine ⟨trivial, fun h => (by cases h), ?_⟩) | (refine ⟨trivial, ?_⟩) | (refine ⟨fun h => (by cases h), ?_⟩) | skip); gi_at_call 23; refine (callsIn_wide.2 (HG.out _ HTW.out)).mono ?_; rintro e W3 ⟨rfl, t3⟩))
        have hw1 := HTW.out.trans t3 (fun _ _ q => q)
        have b0 := turn_cell t3 b0
        clear HTW hw0 t3
        have HTW := Lib.hid hw1
        have hw0 := hw1
        clear hw1
        obtain ⟨W, rfl⟩ : ∃ W, W = W3 := ⟨_, rfl⟩
        (first | (refine wpAnyIn_take (i := 6) (v := ?_) rfl rfl (by kernel_rfl) (by kernel_rfl) (by kernel_rfl) (fun _ _ _ h => h) ⟨Or.inl ⟨by rfl, ?_⟩, fun _ => rfl⟩ ?_; rotate_left; (intro w'; first | (go_simp; done) | (go_simp; with_reducible rfl))) | (refine wpAnyIn_take (i := 6) (v := undef) rfl rfl (by kernel_rfl) (by kernel_rfl) (by kernel_rfl) (fun _ _ _ h => h) ⟨Or.inr ⟨by rfl, rfl⟩, fun _ => rfl⟩ ?_))
        (first | (refine wpAnyIn_take (i := 7) (v := ?_) rfl rfl (by kernel_rfl) (by kernel_rfl) (by kernel_rfl) (fun _ _ _ h => h) ⟨Or.inl ⟨by rfl, ?_⟩, fun _ => rfl⟩ ?_; rotate_left; (intro w'; first | (go_simp; done) | (go_simp; with_reducible rfl))) | (refine wpAnyIn_take (i := 7) (v := undef) rfl rfl (by kernel_rfl) (by kernel_rfl) (by kernel_rfl) (fun _ _ _ h => h) ⟨Or.inr ⟨by rfl, rfl⟩, fun _ => rfl⟩ ?_))
        (first | (refine wpAnyIn_take (i := 8) (v := ?_) rfl rfl (by kernel_rfl) (by kernel_rfl) (by kernel_rfl) (fun _ _ _ h => h) ⟨Or.inl ⟨by rfl, ?_⟩, fun _ => rfl⟩ ?_; rotate_left; (intro w'; first | (go_simp; done) | (go_simp; with_reducible rfl))) | (refine wpAnyIn_take (i := 8) (v := undef) rfl rfl (by kernel_rfl) (by kernel_rfl) (by kernel_rfl) (fun _ _ _ h => h) ⟨Or.inr ⟨by rfl, rfl⟩, fun _ => rfl⟩ ?_))
        refine wpAnyIn_ready (rs := [9]) (by kernel_rfl) (by simp) ?_
        refine AllReadyIn.cons rfl (fun K hK => ?_) AllReadyIn.nil
        obtain ⟨g, hg⟩ : ∃ g, W.heap.size = g := ⟨_, rfl⟩
        (go_simp; (first | (refine ⟨trivial, ?_⟩) | (refine ⟨fun _ h => (by cases h), ?_⟩) | skip); refine hK _ _ ?_; clear hK K)
        have ta := turnBox W (.cells #[.string ⟨#[]⟩, .string ⟨#[]⟩, .string ⟨#[]⟩, .int .i64 0, .int .i64 0] 32)
        have hb : (W.alloc (.cells #[.string ⟨#[]⟩, .string ⟨#[]⟩, .string ⟨#[]⟩, .int .i64 0, .int .i64 0] 32)).heap[W.heap.size]? = some (evBox noEv) := heap_alloc_new W _
        have hw1 := HTW.out.trans ta (fun _ _ q => q)
        have hgw := hw0.size
        rw [hg] at hb hgw
        have HGW := Lib.hid hgw
        have b0 := turn_cell ta b0
        obtain ⟨W2, hW2⟩ : ∃ W2, W.alloc (.cells #[.string ⟨#[]⟩, .string ⟨#[]⟩, .string ⟨#[]⟩, .int .i64 0, .int .i64 0] 32) = W2 := ⟨_, rfl⟩
        rw [hW2] at hb hw1 b0 ⊢
        clear HTW ta hgw hg hW2 hw0
        have hw0 := hw1
        have HTW := Lib.hid hw1
        clear hw1
        obtain ⟨W, rfl⟩ : ∃ W, W = W2 := ⟨_, rfl⟩
        refine wpAnyIn_ready (rs := [10]) (by kernel_rfl) (by simp) ?_
        refine AllReadyIn.cons rfl (fun K hK => ?_) AllReadyIn.nil
        obtain ⟨⟨z0, z1, z2, z3, z4⟩, f0, f1, f2, f3, f4⟩ := ev_open hb
        (go_simp; (first | (refine ⟨trivial, ?_⟩) | (refine ⟨fun _ h => (by cases h), ?_⟩) | skip); refine hK _ _ ?_; clear hK K)
        refine wpAnyIn_ready (rs := [11]) (by kernel_rfl) (by simp) ?_
        refine AllReadyIn.cons rfl (fun K hK => ?_) AllReadyIn.nil
        (go_simp; (first | (refine ⟨trivial, ?_⟩) | (refine ⟨fun _ h => (by cases h), ?_⟩) | skip); refine hK _ _ ?_; clear hK K)
        refine wpAnyIn_done (by kernel_rfl) ?_ _
        exact ⟨g, HGW.out, rfl, setEv_at hb _, setEv_turn HTW.out (Or.inr HGW.out) _⟩
      · obtain ⟨g, hg⟩ : ∃ g, W.heap.size = g := ⟨_, rfl⟩
        (go_simp; (first | (refine ⟨trivial, ?_⟩) | (refine ⟨fun _ h => (by cases h), ?_⟩) | skip); refine hK _ _ ?_; clear hK K)
        have ta := turnBox W (.cells #[.string ⟨#[]⟩, .string ⟨#[]⟩, .string ⟨#[]⟩, .int .i64 0, .int .i64 0] 32)
        have hb : (W.alloc (.cells #[.string ⟨#[]⟩, .string ⟨#[]⟩, .string ⟨#[]⟩, .int .i64 0, .int .i64 0] 32)).heap[W.heap.size]? = some (evBox noEv) := heap_alloc_new W _
        have hw1 := HTW.out.trans ta (fun _ _ q => q)
        have hgw := hw0.size
        rw [hg] at hb hgw
        have HGW := Lib.hid hgw
        have b0 := turn_cell ta b0
        obtain ⟨W2, hW2⟩ : ∃ W2, W.alloc (.cells #[.string ⟨#[]⟩, .string ⟨#[]⟩, .string ⟨#[]⟩, .int .i64 0, .int .i64 0] 32) = W2 := ⟨_, rfl⟩
        rw [hW2] at hb hw1 b0 ⊢
        clear HTW ta hgw hg hW2 hw0
        have hw0 := hw1
        have HTW := Lib.hid hw1
        clear hw1
        obtain ⟨W, rfl⟩ : ∃ W, W = W2 := ⟨_, rfl⟩
        refine wpAnyIn_ready (rs := [5]) (by kernel_rfl) (by simp) ?_
        refine AllReadyIn.cons rfl (fun K hK => ?_) AllReadyIn.nil
        (go_simp; gi_wp2_with ((first | (refine ⟨trivial, fun h => (by cases h), ?_⟩) | (refine ⟨trivial, ?_⟩) | (refine ⟨fun h => (by cases h), ?_⟩) | skip); gi_at_call 23; refine (callsIn_wide.2 (HG.out _ HTW.out)).mono ?_; rintro e W3 ⟨rfl, t3⟩))
        have hw1 := HTW.out.trans t3 (fun _ _ q => q)
        have hb := turn_heap t3 hb
        have b0 := turn_cell t3 b0
        clear HTW hw0 t3
        have HTW := Lib.hid hw1
        have hw0 := hw1
        clear hw1
        obtain ⟨W, rfl⟩ : ∃ W, W = W3 := ⟨_, rfl⟩
        (first | (refine wpAnyIn_take (i := 6) (v := ?_) rfl rfl (by kernel_rfl) (by kernel_rfl) (by kernel_rfl) (fun _ _ _ h => h) ⟨Or.inl ⟨by rfl, ?_⟩, fun _ => rfl⟩ ?_; rotate_left; (intro w'; first | (go_simp; done) | (go_simp; with_reducible rfl))) | (refine wpAnyIn_take (i := 6) (v := undef) rfl rfl (by kernel_rfl) (by kernel_rfl) (by kernel_rfl) (fun _ _ _ h => h) ⟨Or.inr ⟨by rfl, rfl⟩, fun _ => rfl⟩ ?_))
        (first | (refine wpAnyIn_take (i := 7) (v := ?_) rfl rfl (by kernel_rfl) (by kernel_rfl) (by kernel_rfl) (fun _ _ _ h => h) ⟨Or.inl ⟨by rfl, ?_⟩, fun _ => rfl⟩ ?_; rotate_left; (intro w'; first | (go_simp; done) | (go_simp; with_reducible rfl))) | (refine wpAnyIn_take (i := 7) (v := undef) rfl rfl (by kernel_rfl) (by kernel_rfl) (by kernel_rfl) (fun _ _ _ h => h) ⟨Or.inr ⟨by rfl, rfl⟩, fun _ => rfl⟩ ?_))
        (first | (refine wpAnyIn_take (i := 8) (v := ?_) rfl rfl (by kernel_rfl) (by kernel_rfl) (by kernel_rfl) (fun _ _ _ h => h) ⟨Or.inl ⟨by rfl, ?_⟩, fun _ => rfl⟩ ?_; rotate_left; (intro w'; first | (go_simp; done) | (go_simp; with_reducible rfl))) | (refine wpAnyIn_take (i := 8) (v := undef) rfl rfl (by kernel_rfl) (by kernel_rfl) (by kernel_rfl) (fun _ _ _ h => h) ⟨Or.inr ⟨by rfl, rfl⟩, fun _ => rfl⟩ ?_))
        refine wpAnyIn_ready (rs := [10]) (by kernel_rfl) (by simp) ?_
        refine AllReadyIn.cons rfl (fun K hK => ?_) AllReadyIn.nil
        obtain ⟨⟨z0, z1, z2, z3, z4⟩, f0, f1, f2, f3, f4⟩ := ev_open hb
        (go_simp; (first | (refine ⟨trivial, ?_⟩) | (refine ⟨fun _ h => (by cases h), ?_⟩) | skip); refine hK _ _ ?_; clear hK K)
        refine wpAnyIn_ready (rs := [11]) (by kernel_rfl) (by simp) ?_
        refine AllReadyIn.cons rfl (fun K hK => ?_) AllReadyIn.nil
        (go_simp; (first | (refine ⟨trivial, ?_⟩) | (refine ⟨fun _ h => (by cases h), ?_⟩) | skip); refine hK _ _ ?_; clear hK K)
        refine wpAnyIn_done (by kernel_rfl) ?_ _
        exact ⟨g, HGW.out, rfl, setEv_at hb _, setEv_turn HTW.out (Or.inr HGW.out) _⟩
    · obtain ⟨g, hg⟩ : ∃ g, W.heap.size = g := ⟨_, rfl⟩
      (go_simp; (first | (refine ⟨trivial, ?_⟩) | (refine ⟨fun _ h => (by cases h), ?_⟩) | skip); refine hK _ _ ?_; clear hK K)
      have ta := turnBox W (.cells #[.string ⟨#[]⟩, .string ⟨#[]⟩, .string ⟨#[]⟩, .int .i64 0, .int .i64 0] 32)
      have hb : (W.alloc (.cells #[.string ⟨#[]⟩, .string ⟨#[]⟩, .string ⟨#[]⟩, .int .i64 0, .int .i64 0] 32)).heap[W.heap.size]? = some (evBox noEv) := heap_alloc_new W _
      have hw1 := HTW.out.trans ta (fun _ _ q => q)
      have hgw := hw0.size
      rw [hg] at hb hgw
      have HGW := Lib.hid hgw
      have b0 := turn_cell ta b0
      obtain ⟨W2, hW2⟩ : ∃ W2, W.alloc (.cells #[.string ⟨#[]⟩, .string ⟨#[]⟩, .string ⟨#[]⟩, .int .i64 0, .int .i64 0] 32) = W2 := ⟨_, rfl⟩
      rw [hW2] at hb hw1 b0 ⊢
      clear HTW ta hgw hg hW2 hw0
      have hw0 := hw1
      have HTW := Lib.hid hw1
      clear hw1
      obtain ⟨W, rfl⟩ : ∃ W, W = W2 := ⟨_, rfl⟩
      refine wpAnyIn_ready (rs := [4]) (by kernel_rfl) (by simp) ?_
      refine AllReadyIn.cons rfl (fun K hK => ?_) AllReadyIn.nil
      (go_simp; (first | (refine ⟨trivial, ?_⟩) | (refine ⟨fun _ h => (by cases h), ?_⟩) | skip); refine hK _ _ ?_; clear hK K)
      refine wpAnyIn_ready (rs := [5]) (by kernel_rfl) (by simp) ?_
      refine AllReadyIn.cons rfl (fun K hK => ?_) AllReadyIn.nil
      (go_simp; gi_wp2_with ((first | (refine ⟨trivial, fun h => (by cases h), ?_⟩) | (refine ⟨trivial, ?_⟩) | (refine ⟨fun h => (by cases h), ?_⟩) | skip); gi_at_call 23; refine (callsIn_wide.2 (HG.out _ HTW.out)).mono ?_; rintro e W3 ⟨rfl, t3⟩))
      have hw1 := HTW.out.trans t3 (fun _ _ q => q)
      have hb := turn_heap t3 hb
      have b0 := turn_cell t3 b0
      clear HTW hw0 t3
      have HTW := Lib.hid hw1
      have hw0 := hw1
      clear hw1
      obtain ⟨W, rfl⟩ : ∃ W, W = W3 := ⟨_, rfl⟩
      (first | (refine wpAnyIn_take (i := 6) (v := ?_) rfl rfl (by kernel_rfl) (by kernel_rfl) (by kernel_rfl) (fun _ _ _ h => h) ⟨Or.inl ⟨by rfl, ?_⟩, fun _ => rfl⟩ ?_; rotate_left; (intro w'; first | (go_simp; done) | (go_simp; with_reducible rfl))) | (refine wpAnyIn_take (i := 6) (v := undef) rfl rfl (by kernel_rfl) (by kernel_rfl) (by kernel_rfl) (fun _ _ _ h => h) ⟨Or.inr ⟨by rfl, rfl⟩, fun _ => rfl⟩ ?_))
      (first | (refine wpAnyIn_take (i := 7) (v := ?_) rfl rfl (by kernel_rfl) (by kernel_rfl) (by kernel_rfl) (fun _ _ _ h => h) ⟨Or.inl ⟨by rfl, ?_⟩, fun _ => rfl⟩ ?_; rotate_left; (intro w'; first | (go_simp; done) | (go_simp; with_reducible rfl))) | (refine wpAnyIn_take (i := 7) (v := undef) rfl rfl (by kernel_rfl) (by kernel_rfl) (by kernel_rfl) (fun _ _ _ h => h) ⟨Or.inr ⟨by rfl, rfl⟩, fun _ => rfl⟩ ?_))
      (first | (refine wpAnyIn_take (i := 8) (v := ?_) rfl rfl (by kernel_rfl) (by kernel_rfl) (by kernel_rfl) (fun _ _ _ h => h) ⟨Or.inl ⟨by rfl, ?_⟩, fun _ => rfl⟩ ?_; rotate_left; (intro w'; first | (go_simp; done) | (go_simp; with_reducible rfl))) | (refine wpAnyIn_take (i := 8) (v := undef) rfl rfl (by kernel_rfl) (by kernel_rfl) (by kernel_rfl) (fun _ _ _ h => h) ⟨Or.inr ⟨by rfl, rfl⟩, fun _ => rfl⟩ ?_))
      refine wpAnyIn_ready (rs := [10]) (by kernel_rfl) (by simp) ?_
      refine AllReadyIn.cons rfl (fun K hK => ?_) AllReadyIn.nil
      obtain ⟨⟨z0, z1, z2, z3, z4⟩, f0, f1, f2, f3, f4⟩ := ev_open hb
      (go_simp; (first | (refine ⟨trivial, ?_⟩) | (refine ⟨fun _ h => (by cases h), ?_⟩) | skip); refine hK _ _ ?_; clear hK K)
      refine wpAnyIn_ready (rs := [11]) (by kernel_rfl) (by simp) ?_
      refine AllReadyIn.cons rfl (fun K hK => ?_) AllReadyIn.nil
      (go_simp; (first | (refine ⟨trivial, ?_⟩) | (refine ⟨fun _ h => (by cases h), ?_⟩) | skip); refine hK _ _ ?_; clear hK K)
      refine wpAnyIn_done (by kernel_rfl) ?_ _
      exact ⟨g, HGW.out, rfl, setEv_at hb _, setEv_turn HTW.out (Or.inr HGW.out) _⟩
  rintro e a' W' hq
  cases e <;> first | (exact hq.elim) | skip
  obtain ⟨g, hgl, rfl, hbg, ht⟩ := hq
  dsimp only
  have HTG := Lib.hid ht
  have HLG := Lib.hid (HL.out.later ht (fun q => q))
  have HRG := Lib.hid (HRL.out.later ht)
  have HBG := Lib.hid (turn_heap ht HBL.out)
  have HGG := Lib.hid hbg
  obtain ⟨⟨b0, b1, b2, b3, b4⟩, f0, f1, f2, f3, f4⟩ := ev_open HBG.out
  obtain ⟨⟨c0, c1, c2, c3, c4⟩, _⟩ := ev_open HGG.out
  clear hbg ht HL HRL HBL hgl HG
  go_wp2_with fail
  all_goals first | (refine leaves_cons (f := 22) (args := #[.pointer (some ⟨mp, 0, none⟩)]) (by simp) (by simp [go_sem]) ?_; refine (Go.MuLone.unlock_deferred Tryz.muLib ⟨mp, 0, none⟩ .returning _ (HLG.out.cell 0) (HLG.out.free 0)).mono ?_; rintro e u' w'' ⟨rfl, rfl, rfl⟩; exact ⟨_, results_bi (by kernel_rfl) rfl rfl, rfl, ⟨HZ.out, root, ver, HV.out, HLG.out.set0 0, HRG.out.turned (turn1 _ mp 0 (.int .i32 0)) HLG.out.noNode⟩, (HTL.out.trans HTG.out (fun _ _ q => q.elim)).set mp 0 (Or.inl rfl) _⟩) | skip
  exfalso
  exact HNE.out (by obtain ⟨x1, x2, x3, x4, x5⟩ := x; obtain ⟨y1, y2, y3, y4, y5⟩ := y; simp_all)

end
end Go.Proofs.YtnlanemldapfiaaGreat.se
