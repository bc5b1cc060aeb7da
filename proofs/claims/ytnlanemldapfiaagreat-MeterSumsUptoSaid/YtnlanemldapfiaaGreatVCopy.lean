/-
  meter's copied.
-/
import Derived.Test.YtnlanemldapfiaaGreatVPut
import Derived.Test.YtnlanemldapfiaaGreatVCheck
namespace Go.Proofs.YtnlanemldapfiaaGreat.se
open Go.RowKit Go.Maps Go.WideMaps Go.Proofs.YtnlanemldapfiaaGreat.Tb
set_option linter.unusedVariables false

theorem results_cp {W : World} {tmps : Array Value} {g : Nat} {x : Ev} (hp : tmps.getD 2 undef = .pointer (some ⟨g, 0, none⟩)) (h : W.heap[g]? = some (evBox x)) : (results Tryz.f26 tmps).run Tryz.prog W = .ok (valV x) W := by
  have hp' : tmps[2]?.getD undef = .pointer (some ⟨g, 0, none⟩) := by simpa using hp
  have hr : Tryz.f26.results = #[.cell 2 32] := by kernel_rfl
  obtain ⟨⟨c0, c1, c2, c3, c4⟩, _⟩ := ev_open h
  simp only [results, hr]
  simp [hp', asAddr]
  go_simp

theorem same3 {w0 W : World} {g : Nat} {x : Ev} (h : W.heap[g]? = some (evBox x)) (hg : w0.heap.size ≤ g) (ht : Turn (fun _ => False) w0 W) :
    ∃ W5, ((W.setCell ⟨g, 0, none⟩ (.string ⟨x.key.toArray⟩)).setCell ⟨g, 1, none⟩ (.string ⟨x.acc.toArray⟩)).setCell ⟨g, 2, none⟩ (.string ⟨x.met.toArray⟩) = W5 ∧ W5.heap[g]? = some (evBox x) ∧ (∀ k, k ≠ g → W5.heap[k]? = W.heap[k]?) ∧ Turn (fun _ => False) w0 W5 := by
  refine ⟨_, rfl, ?_, fun k hk => ?_, ((ht.set g 0 (Or.inr hg) _).set g 1 (Or.inr hg) _).set g 2 (Or.inr hg) _⟩
  · have h1 := heap_setCell_same (j := 0) h (strE x.key)
    have h2 := heap_setCell_same (j := 1) h1 (strE x.acc)
    exact heap_setCell_same (j := 2) h2 (strE x.met)
  · rw [heap_setCell_other hk, heap_setCell_other hk, heap_setCell_other hk]

set_option maxRecDepth 100000 in
set_option maxHeartbeats 2000000 in
theorem copied_any (x : Ev) (hx : EvIn x) (w : World) : Calls Tryz.prog 26 #[valV x] w fun r w' => r = .returned (valV x) ∧ Turn (fun _ => False) w w' := by
  obtain ⟨W1, hW1, tb, bx0, bx1, bx2, bx3, bx4⟩ := ev_box w x
  have HK := Lib.hid (clone_any ⟨x.key.toArray⟩ (by simpa [ByteArray.size] using hx.k))
  have HA := Lib.hid (clone_any ⟨x.acc.toArray⟩ (by simpa [ByteArray.size] using hx.a))
  have HM := Lib.hid (clone_any ⟨x.met.toArray⟩ (by simpa [ByteArray.size] using hx.m))
  have hbx : W1.heap[w.heap.size]? = some (evBox x) := by rw [← hW1]; exact heap_alloc_new w _
  have t2 := turnBox W1 (.cells #[.string ⟨#[]⟩, .string ⟨#[]⟩, .string ⟨#[]⟩, .int .i64 0, .int .i64 0] 32)
  have hb2 : (W1.alloc (.cells #[.string ⟨#[]⟩, .string ⟨#[]⟩, .string ⟨#[]⟩, .int .i64 0, .int .i64 0] 32)).heap[W1.heap.size]? = some (evBox ⟨[], [], [], 0, 0⟩) := heap_alloc_new W1 _
  have hb1 := turn_heap t2 hbx
  have bx0 := turn_cell t2 bx0
  have bx1 := turn_cell t2 bx1
  have bx2 := turn_cell t2 bx2
  have tt := tb.trans t2 (fun _ _ q => q)
  have hne : w.heap.size < W1.heap.size := (Array.getElem?_eq_some_iff.1 hbx).1
  have hf : ∀ j, (W1.alloc (.cells #[.string ⟨#[]⟩, .string ⟨#[]⟩, .string ⟨#[]⟩, .int .i64 0, .int .i64 0] 32)).frozen? ⟨w.heap.size, j, none⟩ = false := fun j => by unfold World.frozen?; rw [hb1]; simp
  obtain ⟨W2, hW2⟩ : ∃ W2, W1.alloc (.cells #[.string ⟨#[]⟩, .string ⟨#[]⟩, .string ⟨#[]⟩, .int .i64 0, .int .i64 0] 32) = W2 := ⟨_, rfl⟩
  rw [hW2] at hb1 hb2 bx0 bx1 bx2 tt hf
  have f0 := hf 0
  have f1 := hf 1
  have f2 := hf 2
  clear hf bx3 bx4 t2 hbx
  go_enter Tryz.func26, Tryz.ntmps26
  go_wp2_with fail
  obtain ⟨g, hg⟩ : ∃ g, w.heap.size = g := ⟨_, rfl⟩
  obtain ⟨g2, hg2⟩ : ∃ g2, W1.heap.size = g2 := ⟨_, rfl⟩
  have hge : w.heap.size ≤ g := Nat.le_of_eq hg
  rw [hg] at hb1 bx0 bx1 bx2 f0 f1 f2 hne ⊢
  rw [hg2] at hb2 hne ⊢
  refine (wpIn_wide (n := 10)).1 ?_
  refine normQ ?_
  refine wpIn_region_any (by kernel_rfl) ?_
  have bx0 := turn_cell ((like_drew W2).turn (fun _ => False)) bx0
  have bx1 := turn_cell ((like_drew W2).turn (fun _ => False)) bx1
  have bx2 := turn_cell ((like_drew W2).turn (fun _ => False)) bx2
  have hb1 := turn_heap ((like_drew W2).turn (fun _ => False)) hb1
  have hb2 := turn_heap ((like_drew W2).turn (fun _ => False)) hb2
  have tt := tt.drew
  clear f0 f1 f2
  try (change wpAnyIn _ _ _ _ _ _ _ _ _ (World.drew _))
  (first | (refine wpAnyIn_take (i := 0) (v := ?_) rfl rfl (by kernel_rfl) (by kernel_rfl) (by kernel_rfl) (fun _ _ _ h => h) ⟨Or.inl ⟨by rfl, ?_⟩, fun _ => rfl⟩ ?_; rotate_left; (intro w'; first | (go_simp; done) | (go_simp; with_reducible rfl))) | (refine wpAnyIn_take (i := 0) (v := undef) rfl rfl (by kernel_rfl) (by kernel_rfl) (by kernel_rfl) (fun _ _ _ h => h) ⟨Or.inr ⟨by rfl, rfl⟩, fun _ => rfl⟩ ?_))
  (first | (refine wpAnyIn_take (i := 3) (v := ?_) rfl rfl (by kernel_rfl) (by kernel_rfl) (by kernel_rfl) (fun _ _ _ h => h) ⟨Or.inl ⟨by rfl, ?_⟩, fun _ => rfl⟩ ?_; rotate_left; (intro w'; first | (go_simp; done) | (go_simp; with_reducible rfl))) | (refine wpAnyIn_take (i := 3) (v := undef) rfl rfl (by kernel_rfl) (by kernel_rfl) (by kernel_rfl) (fun _ _ _ h => h) ⟨Or.inr ⟨by rfl, rfl⟩, fun _ => rfl⟩ ?_))
  (first | (refine wpAnyIn_take (i := 6) (v := ?_) rfl rfl (by kernel_rfl) (by kernel_rfl) (by kernel_rfl) (fun _ _ _ h => h) ⟨Or.inl ⟨by rfl, ?_⟩, fun _ => rfl⟩ ?_; rotate_left; (intro w'; first | (go_simp; done) | (go_simp; with_reducible rfl))) | (refine wpAnyIn_take (i := 6) (v := undef) rfl rfl (by kernel_rfl) (by kernel_rfl) (by kernel_rfl) (fun _ _ _ h => h) ⟨Or.inr ⟨by rfl, rfl⟩, fun _ => rfl⟩ ?_))
  refine wpAnyIn_ready (rs := [1, 4, 7]) (by kernel_rfl) (by simp) ?_
  refine AllReadyIn.cons rfl (fun K hK => ?_) (AllReadyIn.cons rfl (fun K hK => ?_) (AllReadyIn.cons rfl (fun K hK => ?_) AllReadyIn.nil))
  · (go_simp; (first | (refine ⟨trivial, ?_⟩) | (refine ⟨fun _ h => (by cases h), ?_⟩) | skip); refine hK _ _ ?_; clear hK K)
    refine wpAnyIn_ready (rs := [2, 4, 7]) (by kernel_rfl) (by simp) ?_
    refine AllReadyIn.cons rfl (fun K hK => ?_) (AllReadyIn.cons rfl (fun K hK => ?_) (AllReadyIn.cons rfl (fun K hK => ?_) AllReadyIn.nil))
    · (go_simp; gi_wp2_with ((first | (refine ⟨trivial, fun h => (by cases h), ?_⟩) | (refine ⟨trivial, ?_⟩) | (refine ⟨fun h => (by cases h), ?_⟩) | skip); gi_at_call 54; refine (callsIn_wide.2 (HK.out _)).mono ?_; rintro e wa ⟨rfl, ta⟩; have bx0 := turn_cell ta bx0; have bx1 := turn_cell ta bx1; have bx2 := turn_cell ta bx2; have hb1 := turn_heap ta hb1; have hb2 := turn_heap ta hb2; have tt := tt.trans ta (fun _ _ q => q); clear ta))
      refine wpAnyIn_ready (rs := [4, 7]) (by kernel_rfl) (by simp) ?_
      refine AllReadyIn.cons rfl (fun K hK => ?_) (AllReadyIn.cons rfl (fun K hK => ?_) AllReadyIn.nil)
      · (go_simp; (first | (refine ⟨trivial, ?_⟩) | (refine ⟨fun _ h => (by cases h), ?_⟩) | skip); refine hK _ _ ?_; clear hK K)
        refine wpAnyIn_ready (rs := [5, 7]) (by kernel_rfl) (by simp) ?_
        refine AllReadyIn.cons rfl (fun K hK => ?_) (AllReadyIn.cons rfl (fun K hK => ?_) AllReadyIn.nil)
        · (go_simp; gi_wp2_with ((first | (refine ⟨trivial, fun h => (by cases h), ?_⟩) | (refine ⟨trivial, ?_⟩) | (refine ⟨fun h => (by cases h), ?_⟩) | skip); gi_at_call 54; refine (callsIn_wide.2 (HA.out _)).mono ?_; rintro e wa ⟨rfl, ta⟩; have bx0 := turn_cell ta bx0; have bx1 := turn_cell ta bx1; have bx2 := turn_cell ta bx2; have hb1 := turn_heap ta hb1; have hb2 := turn_heap ta hb2; have tt := tt.trans ta (fun _ _ q => q); clear ta))
          refine wpAnyIn_ready (rs := [7]) (by kernel_rfl) (by simp) ?_
          refine AllReadyIn.cons rfl (fun K hK => ?_) AllReadyIn.nil
          (go_simp; (first | (refine ⟨trivial, ?_⟩) | (refine ⟨fun _ h => (by cases h), ?_⟩) | skip); refine hK _ _ ?_; clear hK K)
          (first | (refine wpAnyIn_take (i := 9) (v := ?_) rfl rfl (by kernel_rfl) (by kernel_rfl) (by kernel_rfl) (fun _ _ _ h => h) ⟨Or.inl ⟨by rfl, ?_⟩, fun _ => rfl⟩ ?_; rotate_left; (intro w'; first | (go_simp; done) | (go_simp; with_reducible rfl))) | (refine wpAnyIn_take (i := 9) (v := undef) rfl rfl (by kernel_rfl) (by kernel_rfl) (by kernel_rfl) (fun _ _ _ h => h) ⟨Or.inr ⟨by rfl, rfl⟩, fun _ => rfl⟩ ?_))
          refine wpAnyIn_ready (rs := [8]) (by kernel_rfl) (by simp) ?_
          refine AllReadyIn.cons rfl (fun K hK => ?_) AllReadyIn.nil
          (go_simp; gi_wp2_with ((first | (refine ⟨trivial, fun h => (by cases h), ?_⟩) | (refine ⟨trivial, ?_⟩) | (refine ⟨fun h => (by cases h), ?_⟩) | skip); gi_at_call 54; refine (callsIn_wide.2 (HM.out _)).mono ?_; rintro e wa ⟨rfl, ta⟩; have bx0 := turn_cell ta bx0; have bx1 := turn_cell ta bx1; have bx2 := turn_cell ta bx2; have hb1 := turn_heap ta hb1; have hb2 := turn_heap ta hb2; have tt := tt.trans ta (fun _ _ q => q); clear ta))
          obtain ⟨hz, ⟨f0, f1, f2, _, _⟩⟩ := ev_open hb1
          clear hz
          refine wpAnyIn_ready (rs := [10]) (by kernel_rfl) (by simp) ?_
          refine AllReadyIn.cons rfl (fun K hK => ?_) AllReadyIn.nil
          (go_simp; (first | (refine ⟨trivial, ?_⟩) | (refine ⟨fun _ h => (by cases h), ?_⟩) | skip); refine hK _ _ ?_; clear hK K)
          (first | (refine wpAnyIn_take (i := 11) (v := ?_) rfl rfl (by kernel_rfl) (by kernel_rfl) (by kernel_rfl) (fun _ _ _ h => h) ⟨Or.inl ⟨by rfl, ?_⟩, fun _ => rfl⟩ ?_; rotate_left; (intro w'; first | (go_simp; done) | (go_simp; with_reducible rfl))) | (refine wpAnyIn_take (i := 11) (v := undef) rfl rfl (by kernel_rfl) (by kernel_rfl) (by kernel_rfl) (fun _ _ _ h => h) ⟨Or.inr ⟨by rfl, rfl⟩, fun _ => rfl⟩ ?_))
          refine wpAnyIn_ready (rs := [12]) (by kernel_rfl) (by simp) ?_
          refine AllReadyIn.cons rfl (fun K hK => ?_) AllReadyIn.nil
          (go_simp; (first | (refine ⟨trivial, ?_⟩) | (refine ⟨fun _ h => (by cases h), ?_⟩) | skip); refine hK _ _ ?_; clear hK K)
          (first | (refine wpAnyIn_take (i := 13) (v := ?_) rfl rfl (by kernel_rfl) (by kernel_rfl) (by kernel_rfl) (fun _ _ _ h => h) ⟨Or.inl ⟨by rfl, ?_⟩, fun _ => rfl⟩ ?_; rotate_left; (intro w'; first | (go_simp; done) | (go_simp; with_reducible rfl))) | (refine wpAnyIn_take (i := 13) (v := undef) rfl rfl (by kernel_rfl) (by kernel_rfl) (by kernel_rfl) (fun _ _ _ h => h) ⟨Or.inr ⟨by rfl, rfl⟩, fun _ => rfl⟩ ?_))
          refine wpAnyIn_ready (rs := [14]) (by kernel_rfl) (by simp) ?_
          refine AllReadyIn.cons rfl (fun K hK => ?_) AllReadyIn.nil
          (go_simp; (first | (refine ⟨trivial, ?_⟩) | (refine ⟨fun _ h => (by cases h), ?_⟩) | skip); refine hK _ _ ?_; clear hK K)
          refine wpAnyIn_done (by kernel_rfl) ?_ _
          simp only [NormQ]
          obtain ⟨W5, hW5, q1, q2, q5⟩ := same3 hb1 hge tt
          rw [hW5]
          have q4 := (q2 g2 (by omega)).trans hb2
          clear hb1 hb2 tt bx0 bx1 bx2 f0 f1 f2 hW5 q2
          obtain ⟨⟨c0, c1, c2, c3, c4⟩, _⟩ := ev_open q1
          obtain ⟨⟨d0, d1, d2, d3, d4⟩, f0, f1, f2, f3, f4⟩ := ev_open q4
          have Q4 := Lib.hid q4
          have Q5 := Lib.hid q5
          clear q1 q4 q5
          go_wp2_with fail
          refine bodyPost_ret (results_cp (g := g2) (x := x) rfl (setEv_at Q4.out x)) rfl ?_
          exact ⟨rfl, setEv_turn Q5.out (Or.inr (by omega)) x⟩
        · (go_simp; (first | (refine ⟨trivial, ?_⟩) | (refine ⟨fun _ h => (by cases h), ?_⟩) | skip); refine hK _ _ ?_; clear hK K)
          (first | (refine wpAnyIn_take (i := 9) (v := ?_) rfl rfl (by kernel_rfl) (by kernel_rfl) (by kernel_rfl) (fun _ _ _ h => h) ⟨Or.inl ⟨by rfl, ?_⟩, fun _ => rfl⟩ ?_; rotate_left; (intro w'; first | (go_simp; done) | (go_simp; with_reducible rfl))) | (refine wpAnyIn_take (i := 9) (v := undef) rfl rfl (by kernel_rfl) (by kernel_rfl) (by kernel_rfl) (fun _ _ _ h => h) ⟨Or.inr ⟨by rfl, rfl⟩, fun _ => rfl⟩ ?_))
          refine wpAnyIn_ready (rs := [5]) (by kernel_rfl) (by simp) ?_
          refine AllReadyIn.cons rfl (fun K hK => ?_) AllReadyIn.nil
          (go_simp; gi_wp2_with ((first | (refine ⟨trivial, fun h => (by cases h), ?_⟩) | (refine ⟨trivial, ?_⟩) | (refine ⟨fun h => (by cases h), ?_⟩) | skip); gi_at_call 54; refine (callsIn_wide.2 (HA.out _)).mono ?_; rintro e wa ⟨rfl, ta⟩; have bx0 := turn_cell ta bx0; have bx1 := turn_cell ta bx1; have bx2 := turn_cell ta bx2; have hb1 := turn_heap ta hb1; have hb2 := turn_heap ta hb2; have tt := tt.trans ta (fun _ _ q => q); clear ta))
          refine wpAnyIn_ready (rs := [8]) (by kernel_rfl) (by simp) ?_
          refine AllReadyIn.cons rfl (fun K hK => ?_) AllReadyIn.nil
          (go_simp; gi_wp2_with ((first | (refine ⟨trivial, fun h => (by cases h), ?_⟩) | (refine ⟨trivial, ?_⟩) | (refine ⟨fun h => (by cases h), ?_⟩) | skip); gi_at_call 54; refine (callsIn_wide.2 (HM.out _)).mono ?_; rintro e wa ⟨rfl, ta⟩; have bx0 := turn_cell ta bx0; have bx1 := turn_cell ta bx1; have bx2 := turn_cell ta bx2; have hb1 := turn_heap ta hb1; have hb2 := turn_heap ta hb2; have tt := tt.trans ta (fun _ _ q => q); clear ta))
          obtain ⟨hz, ⟨f0, f1, f2, _, _⟩⟩ := ev_open hb1
          clear hz
          refine wpAnyIn_ready (rs := [10]) (by kernel_rfl) (by simp) ?_
          refine AllReadyIn.cons rfl (fun K hK => ?_) AllReadyIn.nil
          (go_simp; (first | (refine ⟨trivial, ?_⟩) | (refine ⟨fun _ h => (by cases h), ?_⟩) | skip); refine hK _ _ ?_; clear hK K)
          (first | (refine wpAnyIn_take (i := 11) (v := ?_) rfl rfl (by kernel_rfl) (by kernel_rfl) (by kernel_rfl) (fun _ _ _ h => h) ⟨Or.inl ⟨by rfl, ?_⟩, fun _ => rfl⟩ ?_; rotate_left; (intro w'; first | (go_simp; done) | (go_simp; with_reducible rfl))) | (refine wpAnyIn_take (i := 11) (v := undef) rfl rfl (by kernel_rfl) (by kernel_rfl) (by kernel_rfl) (fun _ _ _ h => h) ⟨Or.inr ⟨by rfl, rfl⟩, fun _ => rfl⟩ ?_))
          refine wpAnyIn_ready (rs := [12]) (by kernel_rfl) (by simp) ?_
          refine AllReadyIn.cons rfl (fun K hK => ?_) AllReadyIn.nil
          (go_simp; (first | (refine ⟨trivial, ?_⟩) | (refine ⟨fun _ h => (by cases h), ?_⟩) | skip); refine hK _ _ ?_; clear hK K)
          (first | (refine wpAnyIn_take (i := 13) (v := ?_) rfl rfl (by kernel_rfl) (by kernel_rfl) (by kernel_rfl) (fun _ _ _ h => h) ⟨Or.inl ⟨by rfl, ?_⟩, fun _ => rfl⟩ ?_; rotate_left; (intro w'; first | (go_simp; done) | (go_simp; with_reducible rfl))) | (refine wpAnyIn_take (i := 13) (v := undef) rfl rfl (by kernel_rfl) (by kernel_rfl) (by kernel_rfl) (fun _ _ _ h => h) ⟨Or.inr ⟨by rfl, rfl⟩, fun _ => rfl⟩ ?_))
          refine wpAnyIn_ready (rs := [14]) (by kernel_rfl) (by simp) ?_
          refine AllReadyIn.cons rfl (fun K hK => ?_) AllReadyIn.nil
          (go_simp; (first | (refine ⟨trivial, ?_⟩) | (refine ⟨fun _ h => (by cases h), ?_⟩) | skip); refine hK _ _ ?_; clear hK K)
          refine wpAnyIn_done (by kernel_rfl) ?_ _
          simp only [NormQ]
          obtain ⟨W5, hW5, q1, q2, q5⟩ := same3 hb1 hge tt
          rw [hW5]
          have q4 := (q2 g2 (by omega)).trans hb2
          clear hb1 hb2 tt bx0 bx1 bx2 f0 f1 f2 hW5 q2
          obtain ⟨⟨c0, c1, c2, c3, c4⟩, _⟩ := ev_open q1
          obtain ⟨⟨d0, d1, d2, d3, d4⟩, f0, f1, f2, f3, f4⟩ := ev_open q4
          have Q4 := Lib.hid q4
          have Q5 := Lib.hid q5
          clear q1 q4 q5
          go_wp2_with fail
          refine bodyPost_ret (results_cp (g := g2) (x := x) rfl (setEv_at Q4.out x)) rfl ?_
          exact ⟨rfl, setEv_turn Q5.out (Or.inr (by omega)) x⟩
      · (go_simp; (first | (refine ⟨trivial, ?_⟩) | (refine ⟨fun _ h => (by cases h), ?_⟩) | skip); refine hK _ _ ?_; clear hK K)
        refine wpAnyIn_ready (rs := [4]) (by kernel_rfl) (by simp) ?_
        refine AllReadyIn.cons rfl (fun K hK => ?_) AllReadyIn.nil
        (go_simp; (first | (refine ⟨trivial, ?_⟩) | (refine ⟨fun _ h => (by cases h), ?_⟩) | skip); refine hK _ _ ?_; clear hK K)
        (first | (refine wpAnyIn_take (i := 9) (v := ?_) rfl rfl (by kernel_rfl) (by kernel_rfl) (by kernel_rfl) (fun _ _ _ h => h) ⟨Or.inl ⟨by rfl, ?_⟩, fun _ => rfl⟩ ?_; rotate_left; (intro w'; first | (go_simp; done) | (go_simp; with_reducible rfl))) | (refine wpAnyIn_take (i := 9) (v := undef) rfl rfl (by kernel_rfl) (by kernel_rfl) (by kernel_rfl) (fun _ _ _ h => h) ⟨Or.inr ⟨by rfl, rfl⟩, fun _ => rfl⟩ ?_))
        refine wpAnyIn_ready (rs := [5]) (by kernel_rfl) (by simp) ?_
        refine AllReadyIn.cons rfl (fun K hK => ?_) AllReadyIn.nil
        (go_simp; gi_wp2_with ((first | (refine ⟨trivial, fun h => (by cases h), ?_⟩) | (refine ⟨trivial, ?_⟩) | (refine ⟨fun h => (by cases h), ?_⟩) | skip); gi_at_call 54; refine (callsIn_wide.2 (HA.out _)).mono ?_; rintro e wa ⟨rfl, ta⟩; have bx0 := turn_cell ta bx0; have bx1 := turn_cell ta bx1; have bx2 := turn_cell ta bx2; have hb1 := turn_heap ta hb1; have hb2 := turn_heap ta hb2; have tt := tt.trans ta (fun _ _ q => q); clear ta))
        refine wpAnyIn_ready (rs := [8]) (by kernel_rfl) (by simp) ?_
        refine AllReadyIn.cons rfl (fun K hK => ?_) AllReadyIn.nil
        (go_simp; gi_wp2_with ((first | (refine ⟨trivial, fun h => (by cases h), ?_⟩) | (refine ⟨trivial, ?_⟩) | (refine ⟨fun h => (by cases h), ?_⟩) | skip); gi_at_call 54; refine (callsIn_wide.2 (HM.out _)).mono ?_; rintro e wa ⟨rfl, ta⟩; have bx0 := turn_cell ta bx0; have bx1 := turn_cell ta bx1; have bx2 := turn_cell ta bx2; have hb1 := turn_heap ta hb1; have hb2 := turn_heap ta hb2; have tt := tt.trans ta (fun _ _ q => q); clear ta))
        obtain ⟨hz, ⟨f0, f1, f2, _, _⟩⟩ := ev_open hb1
        clear hz
        refine wpAnyIn_ready (rs := [10]) (by kernel_rfl) (by simp) ?_
        refine AllReadyIn.cons rfl (fun K hK => ?_) AllReadyIn.nil
        (go_simp; (first | (refine ⟨trivial, ?_⟩) | (refine ⟨fun _ h => (by cases h), ?_⟩) | skip); refine hK _ _ ?_; clear hK K)
        (first | (refine wpAnyIn_take (i := 11) (v := ?_) rfl rfl (by kernel_rfl) (by kernel_rfl) (by kernel_rfl) (fun _ _ _ h => h) ⟨Or.inl ⟨by rfl, ?_⟩, fun _ => rfl⟩ ?_; rotate_left; (intro w'; first | (go_simp; done) | (go_simp; with_reducible rfl))) | (refine wpAnyIn_take (i := 11) (v := undef) rfl rfl (by kernel_rfl) (by kernel_rfl) (by kernel_rfl) (fun _ _ _ h => h) ⟨Or.inr ⟨by rfl, rfl⟩, fun _ => rfl⟩ ?_))
        refine wpAnyIn_ready (rs := [12]) (by kernel_rfl) (by simp) ?_
        refine AllReadyIn.cons rfl (fun K hK => ?_) AllReadyIn.nil
        (go_simp; (first | (refine ⟨trivial, ?_⟩) | (refine ⟨fun _ h => (by cases h), ?_⟩) | skip); refine hK _ _ ?_; clear hK K)
        (first | (refine wpAnyIn_take (i := 13) (v := ?_) rfl rfl (by kernel_rfl) (by kernel_rfl) (by kernel_rfl) (fun _ _ _ h => h) ⟨Or.inl ⟨by rfl, ?_⟩, fun _ => rfl⟩ ?_; rotate_left; (intro w'; first | (go_simp; done) | (go_simp; with_reducible rfl))) | (refine wpAnyIn_take (i := 13) (v := undef) rfl rfl (by kernel_rfl) (by kernel_rfl) (by kernel_rfl) (fun _ _ _ h => h) ⟨Or.inr ⟨by rfl, rfl⟩, fun _ => rfl⟩ ?_))
        refine wpAnyIn_ready (rs := [14]) (by kernel_rfl) (by simp) ?_
        refine AllReadyIn.cons rfl (fun K hK => ?_) AllReadyIn.nil
        (go_simp; (first | (refine ⟨trivial, ?_⟩) | (refine ⟨fun _ h => (by cases h), ?_⟩) | skip); refine hK _ _ ?_; clear hK K)
        refine wpAnyIn_done (by kernel_rfl) ?_ _
        simp only [NormQ]
        obtain ⟨W5, hW5, q1, q2, q5⟩ := same3 hb1 hge tt
        rw [hW5]
        have q4 := (q2 g2 (by omega)).trans hb2
        clear hb1 hb2 tt bx0 bx1 bx2 f0 f1 f2 hW5 q2
        obtain ⟨⟨c0, c1, c2, c3, c4⟩, _⟩ := ev_open q1
        obtain ⟨⟨d0, d1, d2, d3, d4⟩, f0, f1, f2, f3, f4⟩ := ev_open q4
        have Q4 := Lib.hid q4
        have Q5 := Lib.hid q5
        clear q1 q4 q5
        go_wp2_with fail
        refine bodyPost_ret (results_cp (g := g2) (x := x) rfl (setEv_at Q4.out x)) rfl ?_
        exact ⟨rfl, setEv_turn Q5.out (Or.inr (by omega)) x⟩
    · (go_simp; (first | (refine ⟨trivial, ?_⟩) | (refine ⟨fun _ h => (by cases h), ?_⟩) | skip); refine hK _ _ ?_; clear hK K)
      refine wpAnyIn_ready (rs := [2, 7]) (by kernel_rfl) (by simp) ?_
      refine AllReadyIn.cons rfl (fun K hK => ?_) (AllReadyIn.cons rfl (fun K hK => ?_) AllReadyIn.nil)
      · (go_simp; gi_wp2_with ((first | (refine ⟨trivial, fun h => (by cases h), ?_⟩) | (refine ⟨trivial, ?_⟩) | (refine ⟨fun h => (by cases h), ?_⟩) | skip); gi_at_call 54; refine (callsIn_wide.2 (HK.out _)).mono ?_; rintro e wa ⟨rfl, ta⟩; have bx0 := turn_cell ta bx0; have bx1 := turn_cell ta bx1; have bx2 := turn_cell ta bx2; have hb1 := turn_heap ta hb1; have hb2 := turn_heap ta hb2; have tt := tt.trans ta (fun _ _ q => q); clear ta))
        refine wpAnyIn_ready (rs := [5, 7]) (by kernel_rfl) (by simp) ?_
        refine AllReadyIn.cons rfl (fun K hK => ?_) (AllReadyIn.cons rfl (fun K hK => ?_) AllReadyIn.nil)
        · (go_simp; gi_wp2_with ((first | (refine ⟨trivial, fun h => (by cases h), ?_⟩) | (refine ⟨trivial, ?_⟩) | (refine ⟨fun h => (by cases h), ?_⟩) | skip); gi_at_call 54; refine (callsIn_wide.2 (HA.out _)).mono ?_; rintro e wa ⟨rfl, ta⟩; have bx0 := turn_cell ta bx0; have bx1 := turn_cell ta bx1; have bx2 := turn_cell ta bx2; have hb1 := turn_heap ta hb1; have hb2 := turn_heap ta hb2; have tt := tt.trans ta (fun _ _ q => q); clear ta))
          refine wpAnyIn_ready (rs := [7]) (by kernel_rfl) (by simp) ?_
          refine AllReadyIn.cons rfl (fun K hK => ?_) AllReadyIn.nil
          (go_simp; (first | (refine ⟨trivial, ?_⟩) | (refine ⟨fun _ h => (by cases h), ?_⟩) | skip); refine hK _ _ ?_; clear hK K)
          (first | (refine wpAnyIn_take (i := 9) (v := ?_) rfl rfl (by kernel_rfl) (by kernel_rfl) (by kernel_rfl) (fun _ _ _ h => h) ⟨Or.inl ⟨by rfl, ?_⟩, fun _ => rfl⟩ ?_; rotate_left; (intro w'; first | (go_simp; done) | (go_simp; with_reducible rfl))) | (refine wpAnyIn_take (i := 9) (v := undef) rfl rfl (by kernel_rfl) (by kernel_rfl) (by kernel_rfl) (fun _ _ _ h => h) ⟨Or.inr ⟨by rfl, rfl⟩, fun _ => rfl⟩ ?_))
          refine wpAnyIn_ready (rs := [8]) (by kernel_rfl) (by simp) ?_
          refine AllReadyIn.cons rfl (fun K hK => ?_) AllReadyIn.nil
          (go_simp; gi_wp2_with ((first | (refine ⟨trivial, fun h => (by cases h), ?_⟩) | (refine ⟨trivial, ?_⟩) | (refine ⟨fun h => (by cases h), ?_⟩) | skip); gi_at_call 54; refine (callsIn_wide.2 (HM.out _)).mono ?_; rintro e wa ⟨rfl, ta⟩; have bx0 := turn_cell ta bx0; have bx1 := turn_cell ta bx1; have bx2 := turn_cell ta bx2; have hb1 := turn_heap ta hb1; have hb2 := turn_heap ta hb2; have tt := tt.trans ta (fun _ _ q => q); clear ta))
          obtain ⟨hz, ⟨f0, f1, f2, _, _⟩⟩ := ev_open hb1
          clear hz
          refine wpAnyIn_ready (rs := [10]) (by kernel_rfl) (by simp) ?_
          refine AllReadyIn.cons rfl (fun K hK => ?_) AllReadyIn.nil
          (go_simp; (first | (refine ⟨trivial, ?_⟩) | (refine ⟨fun _ h => (by cases h), ?_⟩) | skip); refine hK _ _ ?_; clear hK K)
          (first | (refine wpAnyIn_take (i := 11) (v := ?_) rfl rfl (by kernel_rfl) (by kernel_rfl) (by kernel_rfl) (fun _ _ _ h => h) ⟨Or.inl ⟨by rfl, ?_⟩, fun _ => rfl⟩ ?_; rotate_left; (intro w'; first | (go_simp; done) | (go_simp; with_reducible rfl))) | (refine wpAnyIn_take (i := 11) (v := undef) rfl rfl (by kernel_rfl) (by kernel_rfl) (by kernel_rfl) (fun _ _ _ h => h) ⟨Or.inr ⟨by rfl, rfl⟩, fun _ => rfl⟩ ?_))
          refine wpAnyIn_ready (rs := [12]) (by kernel_rfl) (by simp) ?_
          refine AllReadyIn.cons rfl (fun K hK => ?_) AllReadyIn.nil
          (go_simp; (first | (refine ⟨trivial, ?_⟩) | (refine ⟨fun _ h => (by cases h), ?_⟩) | skip); refine hK _ _ ?_; clear hK K)
          (first | (refine wpAnyIn_take (i := 13) (v := ?_) rfl rfl (by kernel_rfl) (by kernel_rfl) (by kernel_rfl) (fun _ _ _ h => h) ⟨Or.inl ⟨by rfl, ?_⟩, fun _ => rfl⟩ ?_; rotate_left; (intro w'; first | (go_simp; done) | (go_simp; with_reducible rfl))) | (refine wpAnyIn_take (i := 13) (v := undef) rfl rfl (by kernel_rfl) (by kernel_rfl) (by kernel_rfl) (fun _ _ _ h => h) ⟨Or.inr ⟨by rfl, rfl⟩, fun _ => rfl⟩ ?_))
          refine wpAnyIn_ready (rs := [14]) (by kernel_rfl) (by simp) ?_
          refine AllReadyIn.cons rfl (fun K hK => ?_) AllReadyIn.nil
          (go_simp; (first | (refine ⟨trivial, ?_⟩) | (refine ⟨fun _ h => (by cases h), ?_⟩) | skip); refine hK _ _ ?_; clear hK K)
          refine wpAnyIn_done (by kernel_rfl) ?_ _
          simp only [NormQ]
          obtain ⟨W5, hW5, q1, q2, q5⟩ := same3 hb1 hge tt
          rw [hW5]
          have q4 := (q2 g2 (by omega)).trans hb2
          clear hb1 hb2 tt bx0 bx1 bx2 f0 f1 f2 hW5 q2
          obtain ⟨⟨c0, c1, c2, c3, c4⟩, _⟩ := ev_open q1
          obtain ⟨⟨d0, d1, d2, d3, d4⟩, f0, f1, f2, f3, f4⟩ := ev_open q4
          have Q4 := Lib.hid q4
          have Q5 := Lib.hid q5
          clear q1 q4 q5
          go_wp2_with fail
          refine bodyPost_ret (results_cp (g := g2) (x := x) rfl (setEv_at Q4.out x)) rfl ?_
          exact ⟨rfl, setEv_turn Q5.out (Or.inr (by omega)) x⟩
        · (go_simp; (first | (refine ⟨trivial, ?_⟩) | (refine ⟨fun _ h => (by cases h), ?_⟩) | skip); refine hK _ _ ?_; clear hK K)
          (first | (refine wpAnyIn_take (i := 9) (v := ?_) rfl rfl (by kernel_rfl) (by kernel_rfl) (by kernel_rfl) (fun _ _ _ h => h) ⟨Or.inl ⟨by rfl, ?_⟩, fun _ => rfl⟩ ?_; rotate_left; (intro w'; first | (go_simp; done) | (go_simp; with_reducible rfl))) | (refine wpAnyIn_take (i := 9) (v := undef) rfl rfl (by kernel_rfl) (by kernel_rfl) (by kernel_rfl) (fun _ _ _ h => h) ⟨Or.inr ⟨by rfl, rfl⟩, fun _ => rfl⟩ ?_))
          refine wpAnyIn_ready (rs := [5]) (by kernel_rfl) (by simp) ?_
          refine AllReadyIn.cons rfl (fun K hK => ?_) AllReadyIn.nil
          (go_simp; gi_wp2_with ((first | (refine ⟨trivial, fun h => (by cases h), ?_⟩) | (refine ⟨trivial, ?_⟩) | (refine ⟨fun h => (by cases h), ?_⟩) | skip); gi_at_call 54; refine (callsIn_wide.2 (HA.out _)).mono ?_; rintro e wa ⟨rfl, ta⟩; have bx0 := turn_cell ta bx0; have bx1 := turn_cell ta bx1; have bx2 := turn_cell ta bx2; have hb1 := turn_heap ta hb1; have hb2 := turn_heap ta hb2; have tt := tt.trans ta (fun _ _ q => q); clear ta))
          refine wpAnyIn_ready (rs := [8]) (by kernel_rfl) (by simp) ?_
          refine AllReadyIn.cons rfl (fun K hK => ?_) AllReadyIn.nil
          (go_simp; gi_wp2_with ((first | (refine ⟨trivial, fun h => (by cases h), ?_⟩) | (refine ⟨trivial, ?_⟩) | (refine ⟨fun h => (by cases h), ?_⟩) | skip); gi_at_call 54; refine (callsIn_wide.2 (HM.out _)).mono ?_; rintro e wa ⟨rfl, ta⟩; have bx0 := turn_cell ta bx0; have bx1 := turn_cell ta bx1; have bx2 := turn_cell ta bx2; have hb1 := turn_heap ta hb1; have hb2 := turn_heap ta hb2; have tt := tt.trans ta (fun _ _ q => q); clear ta))
          obtain ⟨hz, ⟨f0, f1, f2, _, _⟩⟩ := ev_open hb1
          clear hz
          refine wpAnyIn_ready (rs := [10]) (by kernel_rfl) (by simp) ?_
          refine AllReadyIn.cons rfl (fun K hK => ?_) AllReadyIn.nil
          (go_simp; (first | (refine ⟨trivial, ?_⟩) | (refine ⟨fun _ h => (by cases h), ?_⟩) | skip); refine hK _ _ ?_; clear hK K)
          (first | (refine wpAnyIn_take (i := 11) (v := ?_) rfl rfl (by kernel_rfl) (by kernel_rfl) (by kernel_rfl) (fun _ _ _ h => h) ⟨Or.inl ⟨by rfl, ?_⟩, fun _ => rfl⟩ ?_; rotate_left; (intro w'; first | (go_simp; done) | (go_simp; with_reducible rfl))) | (refine wpAnyIn_take (i := 11) (v := undef) rfl rfl (by kernel_rfl) (by kernel_rfl) (by kernel_rfl) (fun _ _ _ h => h) ⟨Or.inr ⟨by rfl, rfl⟩, fun _ => rfl⟩ ?_))
          refine wpAnyIn_ready (rs := [12]) (by kernel_rfl) (by simp) ?_
          refine AllReadyIn.cons rfl (fun K hK => ?_) AllReadyIn.nil
          (go_simp; (first | (refine ⟨trivial, ?_⟩) | (refine ⟨fun _ h => (by cases h), ?_⟩) | skip); refine hK _ _ ?_; clear hK K)
          (first | (refine wpAnyIn_take (i := 13) (v := ?_) rfl rfl (by kernel_rfl) (by kernel_rfl) (by kernel_rfl) (fun _ _ _ h => h) ⟨Or.inl ⟨by rfl, ?_⟩, fun _ => rfl⟩ ?_; rotate_left; (intro w'; first | (go_simp; done) | (go_simp; with_reducible rfl))) | (refine wpAnyIn_take (i := 13) (v := undef) rfl rfl (by kernel_rfl) (by kernel_rfl) (by kernel_rfl) (fun _ _ _ h => h) ⟨Or.inr ⟨by rfl, rfl⟩, fun _ => rfl⟩ ?_))
          refine wpAnyIn_ready (rs := [14]) (by kernel_rfl) (by simp) ?_
          refine AllReadyIn.cons rfl (fun K hK => ?_) AllReadyIn.nil
          (go_simp; (first | (refine ⟨trivial, ?_⟩) | (refine ⟨fun _ h => (by cases h), ?_⟩) | skip); refine hK _ _ ?_; clear hK K)
          refine wpAnyIn_done (by kernel_rfl) ?_ _
          simp only [NormQ]
          obtain ⟨W5, hW5, q1, q2, q5⟩ := same3 hb1 hge tt
          rw [hW5]
          have q4 := (q2 g2 (by omega)).trans hb2
          clear hb1 hb2 tt bx0 bx1 bx2 f0 f1 f2 hW5 q2
          obtain ⟨⟨c0, c1, c2, c3, c4⟩, _⟩ := ev_open q1
          obtain ⟨⟨d0, d1, d2, d3, d4⟩, f0, f1, f2, f3, f4⟩ := ev_open q4
          have Q4 := Lib.hid q4
          have Q5 := Lib.hid q5
          clear q1 q4 q5
          go_wp2_with fail
          refine bodyPost_ret (results_cp (g := g2) (x := x) rfl (setEv_at Q4.out x)) rfl ?_
          exact ⟨rfl, setEv_turn Q5.out (Or.inr (by omega)) x⟩
      · (go_simp; (first | (refine ⟨trivial, ?_⟩) | (refine ⟨fun _ h => (by cases h), ?_⟩) | skip); refine hK _ _ ?_; clear hK K)
        refine wpAnyIn_ready (rs := [2]) (by kernel_rfl) (by simp) ?_
        refine AllReadyIn.cons rfl (fun K hK => ?_) AllReadyIn.nil
        (go_simp; gi_wp2_with ((first | (refine ⟨trivial, fun h => (by cases h), ?_⟩) | (refine ⟨trivial, ?_⟩) | (refine ⟨fun h => (by cases h), ?_⟩) | skip); gi_at_call 54; refine (callsIn_wide.2 (HK.out _)).mono ?_; rintro e wa ⟨rfl, ta⟩; have bx0 := turn_cell ta bx0; have bx1 := turn_cell ta bx1; have bx2 := turn_cell ta bx2; have hb1 := turn_heap ta hb1; have hb2 := turn_heap ta hb2; have tt := tt.trans ta (fun _ _ q => q); clear ta))
        (first | (refine wpAnyIn_take (i := 9) (v := ?_) rfl rfl (by kernel_rfl) (by kernel_rfl) (by kernel_rfl) (fun _ _ _ h => h) ⟨Or.inl ⟨by rfl, ?_⟩, fun _ => rfl⟩ ?_; rotate_left; (intro w'; first | (go_simp; done) | (go_simp; with_reducible rfl))) | (refine wpAnyIn_take (i := 9) (v := undef) rfl rfl (by kernel_rfl) (by kernel_rfl) (by kernel_rfl) (fun _ _ _ h => h) ⟨Or.inr ⟨by rfl, rfl⟩, fun _ => rfl⟩ ?_))
        refine wpAnyIn_ready (rs := [5]) (by kernel_rfl) (by simp) ?_
        refine AllReadyIn.cons rfl (fun K hK => ?_) AllReadyIn.nil
        (go_simp; gi_wp2_with ((first | (refine ⟨trivial, fun h => (by cases h), ?_⟩) | (refine ⟨trivial, ?_⟩) | (refine ⟨fun h => (by cases h), ?_⟩) | skip); gi_at_call 54; refine (callsIn_wide.2 (HA.out _)).mono ?_; rintro e wa ⟨rfl, ta⟩; have bx0 := turn_cell ta bx0; have bx1 := turn_cell ta bx1; have bx2 := turn_cell ta bx2; have hb1 := turn_heap ta hb1; have hb2 := turn_heap ta hb2; have tt := tt.trans ta (fun _ _ q => q); clear ta))
        refine wpAnyIn_ready (rs := [8]) (by kernel_rfl) (by simp) ?_
        refine AllReadyIn.cons rfl (fun K hK => ?_) AllReadyIn.nil
        (go_simp; gi_wp2_with ((first | (refine ⟨trivial, fun h => (by cases h), ?_⟩) | (refine ⟨trivial, ?_⟩) | (refine ⟨fun h => (by cases h), ?_⟩) | skip); gi_at_call 54; refine (callsIn_wide.2 (HM.out _)).mono ?_; rintro e wa ⟨rfl, ta⟩; have bx0 := turn_cell ta bx0; have bx1 := turn_cell ta bx1; have bx2 := turn_cell ta bx2; have hb1 := turn_heap ta hb1; have hb2 := turn_heap ta hb2; have tt := tt.trans ta (fun _ _ q => q); clear ta))
        obtain ⟨hz, ⟨f0, f1, f2, _, _⟩⟩ := ev_open hb1
        clear hz
        refine wpAnyIn_ready (rs := [10]) (by kernel_rfl) (by simp) ?_
        refine AllReadyIn.cons rfl (fun K hK => ?_) AllReadyIn.nil
        (go_simp; (first | (refine ⟨trivial, ?_⟩) | (refine ⟨fun _ h => (by cases h), ?_⟩) | skip); refine hK _ _ ?_; clear hK K)
        (first | (refine wpAnyIn_take (i := 11) (v := ?_) rfl rfl (by kernel_rfl) (by kernel_rfl) (by kernel_rfl) (fun _ _ _ h => h) ⟨Or.inl ⟨by rfl, ?_⟩, fun _ => rfl⟩ ?_; rotate_left; (intro w'; first | (go_simp; done) | (go_simp; with_reducible rfl))) | (refine wpAnyIn_take (i := 11) (v := undef) rfl rfl (by kernel_rfl) (by kernel_rfl) (by kernel_rfl) (fun _ _ _ h => h) ⟨Or.inr ⟨by rfl, rfl⟩, fun _ => rfl⟩ ?_))
        refine wpAnyIn_ready (rs := [12]) (by kernel_rfl) (by simp) ?_
        refine AllReadyIn.cons rfl (fun K hK => ?_) AllReadyIn.nil
        (go_simp; (first | (refine ⟨trivial, ?_⟩) | (refine ⟨fun _ h => (by cases h), ?_⟩) | skip); refine hK _ _ ?_; clear hK K)
        (first | (refine wpAnyIn_take (i := 13) (v := ?_) rfl rfl (by kernel_rfl) (by kernel_rfl) (by kernel_rfl) (fun _ _ _ h => h) ⟨Or.inl ⟨by rfl, ?_⟩, fun _ => rfl⟩ ?_; rotate_left; (intro w'; first | (go_simp; done) | (go_simp; with_reducible rfl))) | (refine wpAnyIn_take (i := 13) (v := undef) rfl rfl (by kernel_rfl) (by kernel_rfl) (by kernel_rfl) (fun _ _ _ h => h) ⟨Or.inr ⟨by rfl, rfl⟩, fun _ => rfl⟩ ?_))
        refine wpAnyIn_ready (rs := [14]) (by kernel_rfl) (by simp) ?_
        refine AllReadyIn.cons rfl (fun K hK => ?_) AllReadyIn.nil
        (go_simp; (first | (refine ⟨trivial, ?_⟩) | (refine ⟨fun _ h => (by cases h), ?_⟩) | skip); refine hK _ _ ?_; clear hK K)
        refine wpAnyIn_done (by kernel_rfl) ?_ _
        simp only [NormQ]
        obtain ⟨W5, hW5, q1, q2, q5⟩ := same3 hb1 hge tt
        rw [hW5]
        have q4 := (q2 g2 (by omega)).trans hb2
        clear hb1 hb2 tt bx0 bx1 bx2 f0 f1 f2 hW5 q2
        obtain ⟨⟨c0, c1, c2, c3, c4⟩, _⟩ := ev_open q1
        obtain ⟨⟨d0, d1, d2, d3, d4⟩, f0, f1, f2, f3, f4⟩ := ev_open q4
        have Q4 := Lib.hid q4
        have Q5 := Lib.hid q5
        clear q1 q4 q5
        go_wp2_with fail
        refine bodyPost_ret (results_cp (g := g2) (x := x) rfl (setEv_at Q4.out x)) rfl ?_
        exact ⟨rfl, setEv_turn Q5.out (Or.inr (by omega)) x⟩
    · (go_simp; (first | (refine ⟨trivial, ?_⟩) | (refine ⟨fun _ h => (by cases h), ?_⟩) | skip); refine hK _ _ ?_; clear hK K)
      refine wpAnyIn_ready (rs := [2, 4]) (by kernel_rfl) (by simp) ?_
      refine AllReadyIn.cons rfl (fun K hK => ?_) (AllReadyIn.cons rfl (fun K hK => ?_) AllReadyIn.nil)
      · (go_simp; gi_wp2_with ((first | (refine ⟨trivial, fun h => (by cases h), ?_⟩) | (refine ⟨trivial, ?_⟩) | (refine ⟨fun h => (by cases h), ?_⟩) | skip); gi_at_call 54; refine (callsIn_wide.2 (HK.out _)).mono ?_; rintro e wa ⟨rfl, ta⟩; have bx0 := turn_cell ta bx0; have bx1 := turn_cell ta bx1; have bx2 := turn_cell ta bx2; have hb1 := turn_heap ta hb1; have hb2 := turn_heap ta hb2; have tt := tt.trans ta (fun _ _ q => q); clear ta))
        refine wpAnyIn_ready (rs := [4]) (by kernel_rfl) (by simp) ?_
        refine AllReadyIn.cons rfl (fun K hK => ?_) AllReadyIn.nil
        (go_simp; (first | (refine ⟨trivial, ?_⟩) | (refine ⟨fun _ h => (by cases h), ?_⟩) | skip); refine hK _ _ ?_; clear hK K)
        (first | (refine wpAnyIn_take (i := 9) (v := ?_) rfl rfl (by kernel_rfl) (by kernel_rfl) (by kernel_rfl) (fun _ _ _ h => h) ⟨Or.inl ⟨by rfl, ?_⟩, fun _ => rfl⟩ ?_; rotate_left; (intro w'; first | (go_simp; done) | (go_simp; with_reducible rfl))) | (refine wpAnyIn_take (i := 9) (v := undef) rfl rfl (by kernel_rfl) (by kernel_rfl) (by kernel_rfl) (fun _ _ _ h => h) ⟨Or.inr ⟨by rfl, rfl⟩, fun _ => rfl⟩ ?_))
        refine wpAnyIn_ready (rs := [5]) (by kernel_rfl) (by simp) ?_
        refine AllReadyIn.cons rfl (fun K hK => ?_) AllReadyIn.nil
        (go_simp; gi_wp2_with ((first | (refine ⟨trivial, fun h => (by cases h), ?_⟩) | (refine ⟨trivial, ?_⟩) | (refine ⟨fun h => (by cases h), ?_⟩) | skip); gi_at_call 54; refine (callsIn_wide.2 (HA.out _)).mono ?_; rintro e wa ⟨rfl, ta⟩; have bx0 := turn_cell ta bx0; have bx1 := turn_cell ta bx1; have bx2 := turn_cell ta bx2; have hb1 := turn_heap ta hb1; have hb2 := turn_heap ta hb2; have tt := tt.trans ta (fun _ _ q => q); clear ta))
        refine wpAnyIn_ready (rs := [8]) (by kernel_rfl) (by simp) ?_
        refine AllReadyIn.cons rfl (fun K hK => ?_) AllReadyIn.nil
        (go_simp; gi_wp2_with ((first | (refine ⟨trivial, fun h => (by cases h), ?_⟩) | (refine ⟨trivial, ?_⟩) | (refine ⟨fun h => (by cases h), ?_⟩) | skip); gi_at_call 54; refine (callsIn_wide.2 (HM.out _)).mono ?_; rintro e wa ⟨rfl, ta⟩; have bx0 := turn_cell ta bx0; have bx1 := turn_cell ta bx1; have bx2 := turn_cell ta bx2; have hb1 := turn_heap ta hb1; have hb2 := turn_heap ta hb2; have tt := tt.trans ta (fun _ _ q => q); clear ta))
        obtain ⟨hz, ⟨f0, f1, f2, _, _⟩⟩ := ev_open hb1
        clear hz
        refine wpAnyIn_ready (rs := [10]) (by kernel_rfl) (by simp) ?_
        refine AllReadyIn.cons rfl (fun K hK => ?_) AllReadyIn.nil
        (go_simp; (first | (refine ⟨trivial, ?_⟩) | (refine ⟨fun _ h => (by cases h), ?_⟩) | skip); refine hK _ _ ?_; clear hK K)
        (first | (refine wpAnyIn_take (i := 11) (v := ?_) rfl rfl (by kernel_rfl) (by kernel_rfl) (by kernel_rfl) (fun _ _ _ h => h) ⟨Or.inl ⟨by rfl, ?_⟩, fun _ => rfl⟩ ?_; rotate_left; (intro w'; first | (go_simp; done) | (go_simp; with_reducible rfl))) | (refine wpAnyIn_take (i := 11) (v := undef) rfl rfl (by kernel_rfl) (by kernel_rfl) (by kernel_rfl) (fun _ _ _ h => h) ⟨Or.inr ⟨by rfl, rfl⟩, fun _ => rfl⟩ ?_))
        refine wpAnyIn_ready (rs := [12]) (by kernel_rfl) (by simp) ?_
        refine AllReadyIn.cons rfl (fun K hK => ?_) AllReadyIn.nil
        (go_simp; (first | (refine ⟨trivial, ?_⟩) | (refine ⟨fun _ h => (by cases h), ?_⟩) | skip); refine hK _ _ ?_; clear hK K)
        (first | (refine wpAnyIn_take (i := 13) (v := ?_) rfl rfl (by kernel_rfl) (by kernel_rfl) (by kernel_rfl) (fun _ _ _ h => h) ⟨Or.inl ⟨by rfl, ?_⟩, fun _ => rfl⟩ ?_; rotate_left; (intro w'; first | (go_simp; done) | (go_simp; with_reducible rfl))) | (refine wpAnyIn_take (i := 13) (v := undef) rfl rfl (by kernel_rfl) (by kernel_rfl) (by kernel_rfl) (fun _ _ _ h => h) ⟨Or.inr ⟨by rfl, rfl⟩, fun _ => rfl⟩ ?_))
        refine wpAnyIn_ready (rs := [14]) (by kernel_rfl) (by simp) ?_
        refine AllReadyIn.cons rfl (fun K hK => ?_) AllReadyIn.nil
        (go_simp; (first | (refine ⟨trivial, ?_⟩) | (refine ⟨fun _ h => (by cases h), ?_⟩) | skip); refine hK _ _ ?_; clear hK K)
        refine wpAnyIn_done (by kernel_rfl) ?_ _
        simp only [NormQ]
        obtain ⟨W5, hW5, q1, q2, q5⟩ := same3 hb1 hge tt
        rw [hW5]
        have q4 := (q2 g2 (by omega)).trans hb2
        clear hb1 hb2 tt bx0 bx1 bx2 f0 f1 f2 hW5 q2
        obtain ⟨⟨c0, c1, c2, c3, c4⟩, _⟩ := ev_open q1
        obtain ⟨⟨d0, d1, d2, d3, d4⟩, f0, f1, f2, f3, f4⟩ := ev_open q4
        have Q4 := Lib.hid q4
        have Q5 := Lib.hid q5
        clear q1 q4 q5
        go_wp2_with fail
        refine bodyPost_ret (results_cp (g := g2) (x := x) rfl (setEv_at Q4.out x)) rfl ?_
        exact ⟨rfl, setEv_turn Q5.out (Or.inr (by omega)) x⟩
      · (go_simp; (first | (refine ⟨trivial, ?_⟩) | (refine ⟨fun _ h => (by cases h), ?_⟩) | skip); refine hK _ _ ?_; clear hK K)
        refine wpAnyIn_ready (rs := [2]) (by kernel_rfl) (by simp) ?_
        refine AllReadyIn.cons rfl (fun K hK => ?_) AllReadyIn.nil
        (go_simp; gi_wp2_with ((first | (refine ⟨trivial, fun h => (by cases h), ?_⟩) | (refine ⟨trivial, ?_⟩) | (refine ⟨fun h => (by cases h), ?_⟩) | skip); gi_at_call 54; refine (callsIn_wide.2 (HK.out _)).mono ?_; rintro e wa ⟨rfl, ta⟩; have bx0 := turn_cell ta bx0; have bx1 := turn_cell ta bx1; have bx2 := turn_cell ta bx2; have hb1 := turn_heap ta hb1; have hb2 := turn_heap ta hb2; have tt := tt.trans ta (fun _ _ q => q); clear ta))
        (first | (refine wpAnyIn_take (i := 9) (v := ?_) rfl rfl (by kernel_rfl) (by kernel_rfl) (by kernel_rfl) (fun _ _ _ h => h) ⟨Or.inl ⟨by rfl, ?_⟩, fun _ => rfl⟩ ?_; rotate_left; (intro w'; first | (go_simp; done) | (go_simp; with_reducible rfl))) | (refine wpAnyIn_take (i := 9) (v := undef) rfl rfl (by kernel_rfl) (by kernel_rfl) (by kernel_rfl) (fun _ _ _ h => h) ⟨Or.inr ⟨by rfl, rfl⟩, fun _ => rfl⟩ ?_))
        refine wpAnyIn_ready (rs := [5]) (by kernel_rfl) (by simp) ?_
        refine AllReadyIn.cons rfl (fun K hK => ?_) AllReadyIn.nil
        (go_simp; gi_wp2_with ((first | (refine ⟨trivial, fun h => (by cases h), ?_⟩) | (refine ⟨trivial, ?_⟩) | (refine ⟨fun h => (by cases h), ?_⟩) | skip); gi_at_call 54; refine (callsIn_wide.2 (HA.out _)).mono ?_; rintro e wa ⟨rfl, ta⟩; have bx0 := turn_cell ta bx0; have bx1 := turn_cell ta bx1; have bx2 := turn_cell ta bx2; have hb1 := turn_heap ta hb1; have hb2 := turn_heap ta hb2; have tt := tt.trans ta (fun _ _ q => q); clear ta))
        refine wpAnyIn_ready (rs := [8]) (by kernel_rfl) (by simp) ?_
        refine AllReadyIn.cons rfl (fun K hK => ?_) AllReadyIn.nil
        (go_simp; gi_wp2_with ((first | (refine ⟨trivial, fun h => (by cases h), ?_⟩) | (refine ⟨trivial, ?_⟩) | (refine ⟨fun h => (by cases h), ?_⟩) | skip); gi_at_call 54; refine (callsIn_wide.2 (HM.out _)).mono ?_; rintro e wa ⟨rfl, ta⟩; have bx0 := turn_cell ta bx0; have bx1 := turn_cell ta bx1; have bx2 := turn_cell ta bx2; have hb1 := turn_heap ta hb1; have hb2 := turn_heap ta hb2; have tt := tt.trans ta (fun _ _ q => q); clear ta))
        obtain ⟨hz, ⟨f0, f1, f2, _, _⟩⟩ := ev_open hb1
        clear hz
        refine wpAnyIn_ready (rs := [10]) (by kernel_rfl) (by simp) ?_
        refine AllReadyIn.cons rfl (fun K hK => ?_) AllReadyIn.nil
        (go_simp; (first | (refine ⟨trivial, ?_⟩) | (refine ⟨fun _ h => (by cases h), ?_⟩) | skip); refine hK _ _ ?_; clear hK K)
        (first | (refine wpAnyIn_take (i := 11) (v := ?_) rfl rfl (by kernel_rfl) (by kernel_rfl) (by kernel_rfl) (fun _ _ _ h => h) ⟨Or.inl ⟨by rfl, ?_⟩, fun _ => rfl⟩ ?_; rotate_left; (intro w'; first | (go_simp; done) | (go_simp; with_reducible rfl))) | (refine wpAnyIn_take (i := 11) (v := undef) rfl rfl (by kernel_rfl) (by kernel_rfl) (by kernel_rfl) (fun _ _ _ h => h) ⟨Or.inr ⟨by rfl, rfl⟩, fun _ => rfl⟩ ?_))
        refine wpAnyIn_ready (rs := [12]) (by kernel_rfl) (by simp) ?_
        refine AllReadyIn.cons rfl (fun K hK => ?_) AllReadyIn.nil
        (go_simp; (first | (refine ⟨trivial, ?_⟩) | (refine ⟨fun _ h => (by cases h), ?_⟩) | skip); refine hK _ _ ?_; clear hK K)
        (first | (refine wpAnyIn_take (i := 13) (v := ?_) rfl rfl (by kernel_rfl) (by kernel_rfl) (by kernel_rfl) (fun _ _ _ h => h) ⟨Or.inl ⟨by rfl, ?_⟩, fun _ => rfl⟩ ?_; rotate_left; (intro w'; first | (go_simp; done) | (go_simp; with_reducible rfl))) | (refine wpAnyIn_take (i := 13) (v := undef) rfl rfl (by kernel_rfl) (by kernel_rfl) (by kernel_rfl) (fun _ _ _ h => h) ⟨Or.inr ⟨by rfl, rfl⟩, fun _ => rfl⟩ ?_))
        refine wpAnyIn_ready (rs := [14]) (by kernel_rfl) (by simp) ?_
        refine AllReadyIn.cons rfl (fun K hK => ?_) AllReadyIn.nil
        (go_simp; (first | (refine ⟨trivial, ?_⟩) | (refine ⟨fun _ h => (by cases h), ?_⟩) | skip); refine hK _ _ ?_; clear hK K)
        refine wpAnyIn_done (by kernel_rfl) ?_ _
        simp only [NormQ]
        obtain ⟨W5, hW5, q1, q2, q5⟩ := same3 hb1 hge tt
        rw [hW5]
        have q4 := (q2 g2 (by omega)).trans hb2
        clear hb1 hb2 tt bx0 bx1 bx2 f0 f1 f2 hW5 q2
        obtain ⟨⟨c0, c1, c2, c3, c4⟩, _⟩ := ev_open q1
        obtain ⟨⟨d0, d1, d2, d3, d4⟩, f0, f1, f2, f3, f4⟩ := ev_open q4
        have Q4 := Lib.hid q4
        have Q5 := Lib.hid q5
        clear q1 q4 q5
        go_wp2_with fail
        refine bodyPost_ret (results_cp (g := g2) (x := x) rfl (setEv_at Q4.out x)) rfl ?_
        exact ⟨rfl, setEv_turn Q5.out (Or.inr (by omega)) x⟩
  · (go_simp; (first | (refine ⟨trivial, ?_⟩) | (refine ⟨fun _ h => (by cases h), ?_⟩) | skip); refine hK _ _ ?_; clear hK K)
    refine wpAnyIn_ready (rs := [1, 7]) (by kernel_rfl) (by simp) ?_
    refine AllReadyIn.cons rfl (fun K hK => ?_) (AllReadyIn.cons rfl (fun K hK => ?_) AllReadyIn.nil)
    · (go_simp; (first | (refine ⟨trivial, ?_⟩) | (refine ⟨fun _ h => (by cases h), ?_⟩) | skip); refine hK _ _ ?_; clear hK K)
      refine wpAnyIn_ready (rs := [2, 7]) (by kernel_rfl) (by simp) ?_
      refine AllReadyIn.cons rfl (fun K hK => ?_) (AllReadyIn.cons rfl (fun K hK => ?_) AllReadyIn.nil)
      · (go_simp; gi_wp2_with ((first | (refine ⟨trivial, fun h => (by cases h), ?_⟩) | (refine ⟨trivial, ?_⟩) | (refine ⟨fun h => (by cases h), ?_⟩) | skip); gi_at_call 54; refine (callsIn_wide.2 (HK.out _)).mono ?_; rintro e wa ⟨rfl, ta⟩; have bx0 := turn_cell ta bx0; have bx1 := turn_cell ta bx1; have bx2 := turn_cell ta bx2; have hb1 := turn_heap ta hb1; have hb2 := turn_heap ta hb2; have tt := tt.trans ta (fun _ _ q => q); clear ta))
        refine wpAnyIn_ready (rs := [5, 7]) (by kernel_rfl) (by simp) ?_
        refine AllReadyIn.cons rfl (fun K hK => ?_) (AllReadyIn.cons rfl (fun K hK => ?_) AllReadyIn.nil)
        · (go_simp; gi_wp2_with ((first | (refine ⟨trivial, fun h => (by cases h), ?_⟩) | (refine ⟨trivial, ?_⟩) | (refine ⟨fun h => (by cases h), ?_⟩) | skip); gi_at_call 54; refine (callsIn_wide.2 (HA.out _)).mono ?_; rintro e wa ⟨rfl, ta⟩; have bx0 := turn_cell ta bx0; have bx1 := turn_cell ta bx1; have bx2 := turn_cell ta bx2; have hb1 := turn_heap ta hb1; have hb2 := turn_heap ta hb2; have tt := tt.trans ta (fun _ _ q => q); clear ta))
          refine wpAnyIn_ready (rs := [7]) (by kernel_rfl) (by simp) ?_
          refine AllReadyIn.cons rfl (fun K hK => ?_) AllReadyIn.nil
          (go_simp; (first | (refine ⟨trivial, ?_⟩) | (refine ⟨fun _ h => (by cases h), ?_⟩) | skip); refine hK _ _ ?_; clear hK K)
          (first | (refine wpAnyIn_take (i := 9) (v := ?_) rfl rfl (by kernel_rfl) (by kernel_rfl) (by kernel_rfl) (fun _ _ _ h => h) ⟨Or.inl ⟨by rfl, ?_⟩, fun _ => rfl⟩ ?_; rotate_left; (intro w'; first | (go_simp; done) | (go_simp; with_reducible rfl))) | (refine wpAnyIn_take (i := 9) (v := undef) rfl rfl (by kernel_rfl) (by kernel_rfl) (by kernel_rfl) (fun _ _ _ h => h) ⟨Or.inr ⟨by rfl, rfl⟩, fun _ => rfl⟩ ?_))
          refine wpAnyIn_ready (rs := [8]) (by kernel_rfl) (by simp) ?_
          refine AllReadyIn.cons rfl (fun K hK => ?_) AllReadyIn.nil
          (go_simp; gi_wp2_with ((first | (refine ⟨trivial, fun h => (by cases h), ?_⟩) | (refine ⟨trivial, ?_⟩) | (refine ⟨fun h => (by cases h), ?_⟩) | skip); gi_at_call 54; refine (callsIn_wide.2 (HM.out _)).mono ?_; rintro e wa ⟨rfl, ta⟩; have bx0 := turn_cell ta bx0; have bx1 := turn_cell ta bx1; have bx2 := turn_cell ta bx2; have hb1 := turn_heap ta hb1; have hb2 := turn_heap ta hb2; have tt := tt.trans ta (fun _ _ q => q); clear ta))
          obtain ⟨hz, ⟨f0, f1, f2, _, _⟩⟩ := ev_open hb1
          clear hz
          refine wpAnyIn_ready (rs := [10]) (by kernel_rfl) (by simp) ?_
          refine AllReadyIn.cons rfl (fun K hK => ?_) AllReadyIn.nil
          (go_simp; (first | (refine ⟨trivial, ?_⟩) | (refine ⟨fun _ h => (by cases h), ?_⟩) | skip); refine hK _ _ ?_; clear hK K)
          (first | (refine wpAnyIn_take (i := 11) (v := ?_) rfl rfl (by kernel_rfl) (by kernel_rfl) (by kernel_rfl) (fun _ _ _ h => h) ⟨Or.inl ⟨by rfl, ?_⟩, fun _ => rfl⟩ ?_; rotate_left; (intro w'; first | (go_simp; done) | (go_simp; with_reducible rfl))) | (refine wpAnyIn_take (i := 11) (v := undef) rfl rfl (by kernel_rfl) (by kernel_rfl) (by kernel_rfl) (fun _ _ _ h => h) ⟨Or.inr ⟨by rfl, rfl⟩, fun _ => rfl⟩ ?_))
          refine wpAnyIn_ready (rs := [12]) (by kernel_rfl) (by simp) ?_
          refine AllReadyIn.cons rfl (fun K hK => ?_) AllReadyIn.nil
          (go_simp; (first | (refine ⟨trivial, ?_⟩) | (refine ⟨fun _ h => (by cases h), ?_⟩) | skip); refine hK _ _ ?_; clear hK K)
          (first | (refine wpAnyIn_take (i := 13) (v := ?_) rfl rfl (by kernel_rfl) (by kernel_rfl) (by kernel_rfl) (fun _ _ _ h => h) ⟨Or.inl ⟨by rfl, ?_⟩, fun _ => rfl⟩ ?_; rotate_left; (intro w'; first | (go_simp; done) | (go_simp; with_reducible rfl))) | (refine wpAnyIn_take (i := 13) (v := undef) rfl rfl (by kernel_rfl) (by kernel_rfl) (by kernel_rfl) (fun _ _ _ h => h) ⟨Or.inr ⟨by rfl, rfl⟩, fun _ => rfl⟩ ?_))
          refine wpAnyIn_ready (rs := [14]) (by kernel_rfl) (by simp) ?_
          refine AllReadyIn.cons rfl (fun K hK => ?_) AllReadyIn.nil
          (go_simp; (first | (refine ⟨trivial, ?_⟩) | (refine ⟨fun _ h => (by cases h), ?_⟩) | skip); refine hK _ _ ?_; clear hK K)
          refine wpAnyIn_done (by kernel_rfl) ?_ _
          simp only [NormQ]
          obtain ⟨W5, hW5, q1, q2, q5⟩ := same3 hb1 hge tt
          rw [hW5]
          have q4 := (q2 g2 (by omega)).trans hb2
          clear hb1 hb2 tt bx0 bx1 bx2 f0 f1 f2 hW5 q2
          obtain ⟨⟨c0, c1, c2, c3, c4⟩, _⟩ := ev_open q1
          obtain ⟨⟨d0, d1, d2, d3, d4⟩, f0, f1, f2, f3, f4⟩ := ev_open q4
          have Q4 := Lib.hid q4
          have Q5 := Lib.hid q5
          clear q1 q4 q5
          go_wp2_with fail
          refine bodyPost_ret (results_cp (g := g2) (x := x) rfl (setEv_at Q4.out x)) rfl ?_
          exact ⟨rfl, setEv_turn Q5.out (Or.inr (by omega)) x⟩
        · (go_simp; (first | (refine ⟨trivial, ?_⟩) | (refine ⟨fun _ h => (by cases h), ?_⟩) | skip); refine hK _ _ ?_; clear hK K)
          (first | (refine wpAnyIn_take (i := 9) (v := ?_) rfl rfl (by kernel_rfl) (by kernel_rfl) (by kernel_rfl) (fun _ _ _ h => h) ⟨Or.inl ⟨by rfl, ?_⟩, fun _ => rfl⟩ ?_; rotate_left; (intro w'; first | (go_simp; done) | (go_simp; with_reducible rfl))) | (refine wpAnyIn_take (i := 9) (v := undef) rfl rfl (by kernel_rfl) (by kernel_rfl) (by kernel_rfl) (fun _ _ _ h => h) ⟨Or.inr ⟨by rfl, rfl⟩, fun _ => rfl⟩ ?_))
          refine wpAnyIn_ready (rs := [5]) (by kernel_rfl) (by simp) ?_
          refine AllReadyIn.cons rfl (fun K hK => ?_) AllReadyIn.nil
          (go_simp; gi_wp2_with ((first | (refine ⟨trivial, fun h => (by cases h), ?_⟩) | (refine ⟨trivial, ?_⟩) | (refine ⟨fun h => (by cases h), ?_⟩) | skip); gi_at_call 54; refine (callsIn_wide.2 (HA.out _)).mono ?_; rintro e wa ⟨rfl, ta⟩; have bx0 := turn_cell ta bx0; have bx1 := turn_cell ta bx1; have bx2 := turn_cell ta bx2; have hb1 := turn_heap ta hb1; have hb2 := turn_heap ta hb2; have tt := tt.trans ta (fun _ _ q => q); clear ta))
          refine wpAnyIn_ready (rs := [8]) (by kernel_rfl) (by simp) ?_
          refine AllReadyIn.cons rfl (fun K hK => ?_) AllReadyIn.nil
          (go_simp; gi_wp2_with ((first | (refine ⟨trivial, fun h => (by cases h), ?_⟩) | (refine ⟨trivial, ?_⟩) | (refine ⟨fun h => (by cases h), ?_⟩) | skip); gi_at_call 54; refine (callsIn_wide.2 (HM.out _)).mono ?_; rintro e wa ⟨rfl, ta⟩; have bx0 := turn_cell ta bx0; have bx1 := turn_cell ta bx1; have bx2 := turn_cell ta bx2; have hb1 := turn_heap ta hb1; have hb2 := turn_heap ta hb2; have tt := tt.trans ta (fun _ _ q => q); clear ta))
          obtain ⟨hz, ⟨f0, f1, f2, _, _⟩⟩ := ev_open hb1
          clear hz
          refine wpAnyIn_ready (rs := [10]) (by kernel_rfl) (by simp) ?_
          refine AllReadyIn.cons rfl (fun K hK => ?_) AllReadyIn.nil
          (go_simp; (first | (refine ⟨trivial, ?_⟩) | (refine ⟨fun _ h => (by cases h), ?_⟩) | skip); refine hK _ _ ?_; clear hK K)
          (first | (refine wpAnyIn_take (i := 11) (v := ?_) rfl rfl (by kernel_rfl) (by kernel_rfl) (by kernel_rfl) (fun _ _ _ h => h) ⟨Or.inl ⟨by rfl, ?_⟩, fun _ => rfl⟩ ?_; rotate_left; (intro w'; first | (go_simp; done) | (go_simp; with_reducible rfl))) | (refine wpAnyIn_take (i := 11) (v := undef) rfl rfl (by kernel_rfl) (by kernel_rfl) (by kernel_rfl) (fun _ _ _ h => h) ⟨Or.inr ⟨by rfl, rfl⟩, fun _ => rfl⟩ ?_))
          refine wpAnyIn_ready (rs := [12]) (by kernel_rfl) (by simp) ?_
          refine AllReadyIn.cons rfl (fun K hK => ?_) AllReadyIn.nil
          (go_simp; (first | (refine ⟨trivial, ?_⟩) | (refine ⟨fun _ h => (by cases h), ?_⟩) | skip); refine hK _ _ ?_; clear hK K)
          (first | (refine wpAnyIn_take (i := 13) (v := ?_) rfl rfl (by kernel_rfl) (by kernel_rfl) (by kernel_rfl) (fun _ _ _ h => h) ⟨Or.inl ⟨by rfl, ?_⟩, fun _ => rfl⟩ ?_; rotate_left; (intro w'; first | (go_simp; done) | (go_simp; with_reducible rfl))) | (refine wpAnyIn_take (i := 13) (v := undef) rfl rfl (by kernel_rfl) (by kernel_rfl) (by kernel_rfl) (fun _ _ _ h => h) ⟨Or.inr ⟨by rfl, rfl⟩, fun _ => rfl⟩ ?_))
          refine wpAnyIn_ready (rs := [14]) (by kernel_rfl) (by simp) ?_
          refine AllReadyIn.cons rfl (fun K hK => ?_) AllReadyIn.nil
          (go_simp; (first | (refine ⟨trivial, ?_⟩) | (refine ⟨fun _ h => (by cases h), ?_⟩) | skip); refine hK _ _ ?_; clear hK K)
          refine wpAnyIn_done (by kernel_rfl) ?_ _
          simp only [NormQ]
          obtain ⟨W5, hW5, q1, q2, q5⟩ := same3 hb1 hge tt
          rw [hW5]
          have q4 := (q2 g2 (by omega)).trans hb2
          clear hb1 hb2 tt bx0 bx1 bx2 f0 f1 f2 hW5 q2
          obtain ⟨⟨c0, c1, c2, c3, c4⟩, _⟩ := ev_open q1
          obtain ⟨⟨d0, d1, d2, d3, d4⟩, f0, f1, f2, f3, f4⟩ := ev_open q4
          have Q4 := Lib.hid q4
          have Q5 := Lib.hid q5
          clear q1 q4 q5
          go_wp2_with fail
          refine bodyPost_ret (results_cp (g := g2) (x := x) rfl (setEv_at Q4.out x)) rfl ?_
          exact ⟨rfl, setEv_turn Q5.out (Or.inr (by omega)) x⟩
      · (go_simp; (first | (refine ⟨trivial, ?_⟩) | (refine ⟨fun _ h => (by cases h), ?_⟩) | skip); refine hK _ _ ?_; clear hK K)
        refine wpAnyIn_ready (rs := [2]) (by kernel_rfl) (by simp) ?_
        refine AllReadyIn.cons rfl (fun K hK => ?_) AllReadyIn.nil
        (go_simp; gi_wp2_with ((first | (refine ⟨trivial, fun h => (by cases h), ?_⟩) | (refine ⟨trivial, ?_⟩) | (refine ⟨fun h => (by cases h), ?_⟩) | skip); gi_at_call 54; refine (callsIn_wide.2 (HK.out _)).mono ?_; rintro e wa ⟨rfl, ta⟩; have bx0 := turn_cell ta bx0; have bx1 := turn_cell ta bx1; have bx2 := turn_cell ta bx2; have hb1 := turn_heap ta hb1; have hb2 := turn_heap ta hb2; have tt := tt.trans ta (fun _ _ q => q); clear ta))
        (first | (refine wpAnyIn_take (i := 9) (v := ?_) rfl rfl (by kernel_rfl) (by kernel_rfl) (by kernel_rfl) (fun _ _ _ h => h) ⟨Or.inl ⟨by rfl, ?_⟩, fun _ => rfl⟩ ?_; rotate_left; (intro w'; first | (go_simp; done) | (go_simp; with_reducible rfl))) | (refine wpAnyIn_take (i := 9) (v := undef) rfl rfl (by kernel_rfl) (by kernel_rfl) (by kernel_rfl) (fun _ _ _ h => h) ⟨Or.inr ⟨by rfl, rfl⟩, fun _ => rfl⟩ ?_))
        refine wpAnyIn_ready (rs := [5]) (by kernel_rfl) (by simp) ?_
        refine AllReadyIn.cons rfl (fun K hK => ?_) AllReadyIn.nil
        (go_simp; gi_wp2_with ((first | (refine ⟨trivial, fun h => (by cases h), ?_⟩) | (refine ⟨trivial, ?_⟩) | (refine ⟨fun h => (by cases h), ?_⟩) | skip); gi_at_call 54; refine (callsIn_wide.2 (HA.out _)).mono ?_; rintro e wa ⟨rfl, ta⟩; have bx0 := turn_cell ta bx0; have bx1 := turn_cell ta bx1; have bx2 := turn_cell ta bx2; have hb1 := turn_heap ta hb1; have hb2 := turn_heap ta hb2; have tt := tt.trans ta (fun _ _ q => q); clear ta))
        refine wpAnyIn_ready (rs := [8]) (by kernel_rfl) (by simp) ?_
        refine AllReadyIn.cons rfl (fun K hK => ?_) AllReadyIn.nil
        (go_simp; gi_wp2_with ((first | (refine ⟨trivial, fun h => (by cases h), ?_⟩) | (refine ⟨trivial, ?_⟩) | (refine ⟨fun h => (by cases h), ?_⟩) | skip); gi_at_call 54; refine (callsIn_wide.2 (HM.out _)).mono ?_; rintro e wa ⟨rfl, ta⟩; have bx0 := turn_cell ta bx0; have bx1 := turn_cell ta bx1; have bx2 := turn_cell ta bx2; have hb1 := turn_heap ta hb1; have hb2 := turn_heap ta hb2; have tt := tt.trans ta (fun _ _ q => q); clear ta))
        obtain ⟨hz, ⟨f0, f1, f2, _, _⟩⟩ := ev_open hb1
        clear hz
        refine wpAnyIn_ready (rs := [10]) (by kernel_rfl) (by simp) ?_
        refine AllReadyIn.cons rfl (fun K hK => ?_) AllReadyIn.nil
        (go_simp; (first | (refine ⟨trivial, ?_⟩) | (refine ⟨fun _ h => (by cases h), ?_⟩) | skip); refine hK _ _ ?_; clear hK K)
        (first | (refine wpAnyIn_take (i := 11) (v := ?_) rfl rfl (by kernel_rfl) (by kernel_rfl) (by kernel_rfl) (fun _ _ _ h => h) ⟨Or.inl ⟨by rfl, ?_⟩, fun _ => rfl⟩ ?_; rotate_left; (intro w'; first | (go_simp; done) | (go_simp; with_reducible rfl))) | (refine wpAnyIn_take (i := 11) (v := undef) rfl rfl (by kernel_rfl) (by kernel_rfl) (by kernel_rfl) (fun _ _ _ h => h) ⟨Or.inr ⟨by rfl, rfl⟩, fun _ => rfl⟩ ?_))
        refine wpAnyIn_ready (rs := [12]) (by kernel_rfl) (by simp) ?_
        refine AllReadyIn.cons rfl (fun K hK => ?_) AllReadyIn.nil
        (go_simp; (first | (refine ⟨trivial, ?_⟩) | (refine ⟨fun _ h => (by cases h), ?_⟩) | skip); refine hK _ _ ?_; clear hK K)
        (first | (refine wpAnyIn_take (i := 13) (v := ?_) rfl rfl (by kernel_rfl) (by kernel_rfl) (by kernel_rfl) (fun _ _ _ h => h) ⟨Or.inl ⟨by rfl, ?_⟩, fun _ => rfl⟩ ?_; rotate_left; (intro w'; first | (go_simp; done) | (go_simp; with_reducible rfl))) | (refine wpAnyIn_take (i := 13) (v := undef) rfl rfl (by kernel_rfl) (by kernel_rfl) (by kernel_rfl) (fun _ _ _ h => h) ⟨Or.inr ⟨by rfl, rfl⟩, fun _ => rfl⟩ ?_))
        refine wpAnyIn_ready (rs := [14]) (by kernel_rfl) (by simp) ?_
        refine AllReadyIn.cons rfl (fun K hK => ?_) AllReadyIn.nil
        (go_simp; (first | (refine ⟨trivial, ?_⟩) | (refine ⟨fun _ h => (by cases h), ?_⟩) | skip); refine hK _ _ ?_; clear hK K)
        refine wpAnyIn_done (by kernel_rfl) ?_ _
        simp only [NormQ]
        obtain ⟨W5, hW5, q1, q2, q5⟩ := same3 hb1 hge tt
        rw [hW5]
        have q4 := (q2 g2 (by omega)).trans hb2
        clear hb1 hb2 tt bx0 bx1 bx2 f0 f1 f2 hW5 q2
        obtain ⟨⟨c0, c1, c2, c3, c4⟩, _⟩ := ev_open q1
        obtain ⟨⟨d0, d1, d2, d3, d4⟩, f0, f1, f2, f3, f4⟩ := ev_open q4
        have Q4 := Lib.hid q4
        have Q5 := Lib.hid q5
        clear q1 q4 q5
        go_wp2_with fail
        refine bodyPost_ret (results_cp (g := g2) (x := x) rfl (setEv_at Q4.out x)) rfl ?_
        exact ⟨rfl, setEv_turn Q5.out (Or.inr (by omega)) x⟩
    · (go_simp; (first | (refine ⟨trivial, ?_⟩) | (refine ⟨fun _ h => (by cases h), ?_⟩) | skip); refine hK _ _ ?_; clear hK K)
      refine wpAnyIn_ready (rs := [1]) (by kernel_rfl) (by simp) ?_
      refine AllReadyIn.cons rfl (fun K hK => ?_) AllReadyIn.nil
      (go_simp; (first | (refine ⟨trivial, ?_⟩) | (refine ⟨fun _ h => (by cases h), ?_⟩) | skip); refine hK _ _ ?_; clear hK K)
      refine wpAnyIn_ready (rs := [2]) (by kernel_rfl) (by simp) ?_
      refine AllReadyIn.cons rfl (fun K hK => ?_) AllReadyIn.nil
      (go_simp; gi_wp2_with ((first | (refine ⟨trivial, fun h => (by cases h), ?_⟩) | (refine ⟨trivial, ?_⟩) | (refine ⟨fun h => (by cases h), ?_⟩) | skip); gi_at_call 54; refine (callsIn_wide.2 (HK.out _)).mono ?_; rintro e wa ⟨rfl, ta⟩; have bx0 := turn_cell ta bx0; have bx1 := turn_cell ta bx1; have bx2 := turn_cell ta bx2; have hb1 := turn_heap ta hb1; have hb2 := turn_heap ta hb2; have tt := tt.trans ta (fun _ _ q => q); clear ta))
      (first | (refine wpAnyIn_take (i := 9) (v := ?_) rfl rfl (by kernel_rfl) (by kernel_rfl) (by kernel_rfl) (fun _ _ _ h => h) ⟨Or.inl ⟨by rfl, ?_⟩, fun _ => rfl⟩ ?_; rotate_left; (intro w'; first | (go_simp; done) | (go_simp; with_reducible rfl))) | (refine wpAnyIn_take (i := 9) (v := undef) rfl rfl (by kernel_rfl) (by kernel_rfl) (by kernel_rfl) (fun _ _ _ h => h) ⟨Or.inr ⟨by rfl, rfl⟩, fun _ => rfl⟩ ?_))
      refine wpAnyIn_ready (rs := [5]) (by kernel_rfl) (by simp) ?_
      refine AllReadyIn.cons rfl (fun K hK => ?_) AllReadyIn.nil
      (go_simp; gi_wp2_with ((first | (refine ⟨trivial, fun h => (by cases h), ?_⟩) | (refine ⟨trivial, ?_⟩) | (refine ⟨fun h => (by cases h), ?_⟩) | skip); gi_at_call 54; refine (callsIn_wide.2 (HA.out _)).mono ?_; rintro e wa ⟨rfl, ta⟩; have bx0 := turn_cell ta bx0; have bx1 := turn_cell ta bx1; have bx2 := turn_cell ta bx2; have hb1 := turn_heap ta hb1; have hb2 := turn_heap ta hb2; have tt := tt.trans ta (fun _ _ q => q); clear ta))
      refine wpAnyIn_ready (rs := [8]) (by kernel_rfl) (by simp) ?_
      refine AllReadyIn.cons rfl (fun K hK => ?_) AllReadyIn.nil
      (go_simp; gi_wp2_with ((first | (refine ⟨trivial, fun h => (by cases h), ?_⟩) | (refine ⟨trivial, ?_⟩) | (refine ⟨fun h => (by cases h), ?_⟩) | skip); gi_at_call 54; refine (callsIn_wide.2 (HM.out _)).mono ?_; rintro e wa ⟨rfl, ta⟩; have bx0 := turn_cell ta bx0; have bx1 := turn_cell ta bx1; have bx2 := turn_cell ta bx2; have hb1 := turn_heap ta hb1; have hb2 := turn_heap ta hb2; have tt := tt.trans ta (fun _ _ q => q); clear ta))
      obtain ⟨hz, ⟨f0, f1, f2, _, _⟩⟩ := ev_open hb1
      clear hz
      refine wpAnyIn_ready (rs := [10]) (by kernel_rfl) (by simp) ?_
      refine AllReadyIn.cons rfl (fun K hK => ?_) AllReadyIn.nil
      (go_simp; (first | (refine ⟨trivial, ?_⟩) | (refine ⟨fun _ h => (by cases h), ?_⟩) | skip); refine hK _ _ ?_; clear hK K)
      (first | (refine wpAnyIn_take (i := 11) (v := ?_) rfl rfl (by kernel_rfl) (by kernel_rfl) (by kernel_rfl) (fun _ _ _ h => h) ⟨Or.inl ⟨by rfl, ?_⟩, fun _ => rfl⟩ ?_; rotate_left; (intro w'; first | (go_simp; done) | (go_simp; with_reducible rfl))) | (refine wpAnyIn_take (i := 11) (v := undef) rfl rfl (by kernel_rfl) (by kernel_rfl) (by kernel_rfl) (fun _ _ _ h => h) ⟨Or.inr ⟨by rfl, rfl⟩, fun _ => rfl⟩ ?_))
      refine wpAnyIn_ready (rs := [12]) (by kernel_rfl) (by simp) ?_
      refine AllReadyIn.cons rfl (fun K hK => ?_) AllReadyIn.nil
      (go_simp; (first | (refine ⟨trivial, ?_⟩) | (refine ⟨fun _ h => (by cases h), ?_⟩) | skip); refine hK _ _ ?_; clear hK K)
      (first | (refine wpAnyIn_take (i := 13) (v := ?_) rfl rfl (by kernel_rfl) (by kernel_rfl) (by kernel_rfl) (fun _ _ _ h => h) ⟨Or.inl ⟨by rfl, ?_⟩, fun _ => rfl⟩ ?_; rotate_left; (intro w'; first | (go_simp; done) | (go_simp; with_reducible rfl))) | (refine wpAnyIn_take (i := 13) (v := undef) rfl rfl (by kernel_rfl) (by kernel_rfl) (by kernel_rfl) (fun _ _ _ h => h) ⟨Or.inr ⟨by rfl, rfl⟩, fun _ => rfl⟩ ?_))
      refine wpAnyIn_ready (rs := [14]) (by kernel_rfl) (by simp) ?_
      refine AllReadyIn.cons rfl (fun K hK => ?_) AllReadyIn.nil
      (go_simp; (first | (refine ⟨trivial, ?_⟩) | (refine ⟨fun _ h => (by cases h), ?_⟩) | skip); refine hK _ _ ?_; clear hK K)
      refine wpAnyIn_done (by kernel_rfl) ?_ _
      simp only [NormQ]
      obtain ⟨W5, hW5, q1, q2, q5⟩ := same3 hb1 hge tt
      rw [hW5]
      have q4 := (q2 g2 (by omega)).trans hb2
      clear hb1 hb2 tt bx0 bx1 bx2 f0 f1 f2 hW5 q2
      obtain ⟨⟨c0, c1, c2, c3, c4⟩, _⟩ := ev_open q1
      obtain ⟨⟨d0, d1, d2, d3, d4⟩, f0, f1, f2, f3, f4⟩ := ev_open q4
      have Q4 := Lib.hid q4
      have Q5 := Lib.hid q5
      clear q1 q4 q5
      go_wp2_with fail
      refine bodyPost_ret (results_cp (g := g2) (x := x) rfl (setEv_at Q4.out x)) rfl ?_
      exact ⟨rfl, setEv_turn Q5.out (Or.inr (by omega)) x⟩
  · (go_simp; (first | (refine ⟨trivial, ?_⟩) | (refine ⟨fun _ h => (by cases h), ?_⟩) | skip); refine hK _ _ ?_; clear hK K)
    refine wpAnyIn_ready (rs := [1, 4]) (by kernel_rfl) (by simp) ?_
    refine AllReadyIn.cons rfl (fun K hK => ?_) (AllReadyIn.cons rfl (fun K hK => ?_) AllReadyIn.nil)
    · (go_simp; (first | (refine ⟨trivial, ?_⟩) | (refine ⟨fun _ h => (by cases h), ?_⟩) | skip); refine hK _ _ ?_; clear hK K)
      refine wpAnyIn_ready (rs := [2, 4]) (by kernel_rfl) (by simp) ?_
      refine AllReadyIn.cons rfl (fun K hK => ?_) (AllReadyIn.cons rfl (fun K hK => ?_) AllReadyIn.nil)
      · (go_simp; gi_wp2_with ((first | (refine ⟨trivial, fun h => (by cases h), ?_⟩) | (refine ⟨trivial, ?_⟩) | (refine ⟨fun h => (by cases h), ?_⟩) | skip); gi_at_call 54; refine (callsIn_wide.2 (HK.out _)).mono ?_; rintro e wa ⟨rfl, ta⟩; have bx0 := turn_cell ta bx0; have bx1 := turn_cell ta bx1; have bx2 := turn_cell ta bx2; have hb1 := turn_heap ta hb1; have hb2 := turn_heap ta hb2; have tt := tt.trans ta (fun _ _ q => q); clear ta))
        refine wpAnyIn_ready (rs := [4]) (by kernel_rfl) (by simp) ?_
        refine AllReadyIn.cons rfl (fun K hK => ?_) AllReadyIn.nil
        (go_simp; (first | (refine ⟨trivial, ?_⟩) | (refine ⟨fun _ h => (by cases h), ?_⟩) | skip); refine hK _ _ ?_; clear hK K)
        (first | (refine wpAnyIn_take (i := 9) (v := ?_) rfl rfl (by kernel_rfl) (by kernel_rfl) (by kernel_rfl) (fun _ _ _ h => h) ⟨Or.inl ⟨by rfl, ?_⟩, fun _ => rfl⟩ ?_; rotate_left; (intro w'; first | (go_simp; done) | (go_simp; with_reducible rfl))) | (refine wpAnyIn_take (i := 9) (v := undef) rfl rfl (by kernel_rfl) (by kernel_rfl) (by kernel_rfl) (fun _ _ _ h => h) ⟨Or.inr ⟨by rfl, rfl⟩, fun _ => rfl⟩ ?_))
        refine wpAnyIn_ready (rs := [5]) (by kernel_rfl) (by simp) ?_
        refine AllReadyIn.cons rfl (fun K hK => ?_) AllReadyIn.nil
        (go_simp; gi_wp2_with ((first | (refine ⟨trivial, fun h => (by cases h), ?_⟩) | (refine ⟨trivial, ?_⟩) | (refine ⟨fun h => (by cases h), ?_⟩) | skip); gi_at_call 54; refine (callsIn_wide.2 (HA.out _)).mono ?_; rintro e wa ⟨rfl, ta⟩; have bx0 := turn_cell ta bx0; have bx1 := turn_cell ta bx1; have bx2 := turn_cell ta bx2; have hb1 := turn_heap ta hb1; have hb2 := turn_heap ta hb2; have tt := tt.trans ta (fun _ _ q => q); clear ta))
        refine wpAnyIn_ready (rs := [8]) (by kernel_rfl) (by simp) ?_
        refine AllReadyIn.cons rfl (fun K hK => ?_) AllReadyIn.nil
        (go_simp; gi_wp2_with ((first | (refine ⟨trivial, fun h => (by cases h), ?_⟩) | (refine ⟨trivial, ?_⟩) | (refine ⟨fun h => (by cases h), ?_⟩) | skip); gi_at_call 54; refine (callsIn_wide.2 (HM.out _)).mono ?_; rintro e wa ⟨rfl, ta⟩; have bx0 := turn_cell ta bx0; have bx1 := turn_cell ta bx1; have bx2 := turn_cell ta bx2; have hb1 := turn_heap ta hb1; have hb2 := turn_heap ta hb2; have tt := tt.trans ta (fun _ _ q => q); clear ta))
        obtain ⟨hz, ⟨f0, f1, f2, _, _⟩⟩ := ev_open hb1
        clear hz
        refine wpAnyIn_ready (rs := [10]) (by kernel_rfl) (by simp) ?_
        refine AllReadyIn.cons rfl (fun K hK => ?_) AllReadyIn.nil
        (go_simp; (first | (refine ⟨trivial, ?_⟩) | (refine ⟨fun _ h => (by cases h), ?_⟩) | skip); refine hK _ _ ?_; clear hK K)
        (first | (refine wpAnyIn_take (i := 11) (v := ?_) rfl rfl (by kernel_rfl) (by kernel_rfl) (by kernel_rfl) (fun _ _ _ h => h) ⟨Or.inl ⟨by rfl, ?_⟩, fun _ => rfl⟩ ?_; rotate_left; (intro w'; first | (go_simp; done) | (go_simp; with_reducible rfl))) | (refine wpAnyIn_take (i := 11) (v := undef) rfl rfl (by kernel_rfl) (by kernel_rfl) (by kernel_rfl) (fun _ _ _ h => h) ⟨Or.inr ⟨by rfl, rfl⟩, fun _ => rfl⟩ ?_))
        refine wpAnyIn_ready (rs := [12]) (by kernel_rfl) (by simp) ?_
        refine AllReadyIn.cons rfl (fun K hK => ?_) AllReadyIn.nil
        (go_simp; (first | (refine ⟨trivial, ?_⟩) | (refine ⟨fun _ h => (by cases h), ?_⟩) | skip); refine hK _ _ ?_; clear hK K)
        (first | (refine wpAnyIn_take (i := 13) (v := ?_) rfl rfl (by kernel_rfl) (by kernel_rfl) (by kernel_rfl) (fun _ _ _ h => h) ⟨Or.inl ⟨by rfl, ?_⟩, fun _ => rfl⟩ ?_; rotate_left; (intro w'; first | (go_simp; done) | (go_simp; with_reducible rfl))) | (refine wpAnyIn_take (i := 13) (v := undef) rfl rfl (by kernel_rfl) (by kernel_rfl) (by kernel_rfl) (fun _ _ _ h => h) ⟨Or.inr ⟨by rfl, rfl⟩, fun _ => rfl⟩ ?_))
        refine wpAnyIn_ready (rs := [14]) (by kernel_rfl) (by simp) ?_
        refine AllReadyIn.cons rfl (fun K hK => ?_) AllReadyIn.nil
        (go_simp; (first | (refine ⟨trivial, ?_⟩) | (refine ⟨fun _ h => (by cases h), ?_⟩) | skip); refine hK _ _ ?_; clear hK K)
        refine wpAnyIn_done (by kernel_rfl) ?_ _
        simp only [NormQ]
        obtain ⟨W5, hW5, q1, q2, q5⟩ := same3 hb1 hge tt
        rw [hW5]
        have q4 := (q2 g2 (by omega)).trans hb2
        clear hb1 hb2 tt bx0 bx1 bx2 f0 f1 f2 hW5 q2
        obtain ⟨⟨c0, c1, c2, c3, c4⟩, _⟩ := ev_open q1
        obtain ⟨⟨d0, d1, d2, d3, d4⟩, f0, f1, f2, f3, f4⟩ := ev_open q4
        have Q4 := Lib.hid q4
        have Q5 := Lib.hid q5
        clear q1 q4 q5
        go_wp2_with fail
        refine bodyPost_ret (results_cp (g := g2) (x := x) rfl (setEv_at Q4.out x)) rfl ?_
        exact ⟨rfl, setEv_turn Q5.out (Or.inr (by omega)) x⟩
      · (go_simp; (first | (refine ⟨trivial, ?_⟩) | (refine ⟨fun _ h => (by cases h), ?_⟩) | skip); refine hK _ _ ?_; clear hK K)
        refine wpAnyIn_ready (rs := [2]) (by kernel_rfl) (by simp) ?_
        refine AllReadyIn.cons rfl (fun K hK => ?_) AllReadyIn.nil
        (go_simp; gi_wp2_with ((first | (refine ⟨trivial, fun h => (by cases h), ?_⟩) | (refine ⟨trivial, ?_⟩) | (refine ⟨fun h => (by cases h), ?_⟩) | skip); gi_at_call 54; refine (callsIn_wide.2 (HK.out _)).mono ?_; rintro e wa ⟨rfl, ta⟩; have bx0 := turn_cell ta bx0; have bx1 := turn_cell ta bx1; have bx2 := turn_cell ta bx2; have hb1 := turn_heap ta hb1; have hb2 := turn_heap ta hb2; have tt := tt.trans ta (fun _ _ q => q); clear ta))
        (first | (refine wpAnyIn_take (i := 9) (v := ?_) rfl rfl (by kernel_rfl) (by kernel_rfl) (by kernel_rfl) (fun _ _ _ h => h) ⟨Or.inl ⟨by rfl, ?_⟩, fun _ => rfl⟩ ?_; rotate_left; (intro w'; first | (go_simp; done) | (go_simp; with_reducible rfl))) | (refine wpAnyIn_take (i := 9) (v := undef) rfl rfl (by kernel_rfl) (by kernel_rfl) (by kernel_rfl) (fun _ _ _ h => h) ⟨Or.inr ⟨by rfl, rfl⟩, fun _ => rfl⟩ ?_))
        refine wpAnyIn_ready (rs := [5]) (by kernel_rfl) (by simp) ?_
        refine AllReadyIn.cons rfl (fun K hK => ?_) AllReadyIn.nil
        (go_simp; gi_wp2_with ((first | (refine ⟨trivial, fun h => (by cases h), ?_⟩) | (refine ⟨trivial, ?_⟩) | (refine ⟨fun h => (by cases h), ?_⟩) | skip); gi_at_call 54; refine (callsIn_wide.2 (HA.out _)).mono ?_; rintro e wa ⟨rfl, ta⟩; have bx0 := turn_cell ta bx0; have bx1 := turn_cell ta bx1; have bx2 := turn_cell ta bx2; have hb1 := turn_heap ta hb1; have hb2 := turn_heap ta hb2; have tt := tt.trans ta (fun _ _ q => q); clear ta))
        refine wpAnyIn_ready (rs := [8]) (by kernel_rfl) (by simp) ?_
        refine AllReadyIn.cons rfl (fun K hK => ?_) AllReadyIn.nil
        (go_simp; gi_wp2_with ((first | (refine ⟨trivial, fun h => (by cases h), ?_⟩) | (refine ⟨trivial, ?_⟩) | (refine ⟨fun h => (by cases h), ?_⟩) | skip); gi_at_call 54; refine (callsIn_wide.2 (HM.out _)).mono ?_; rintro e wa ⟨rfl, ta⟩; have bx0 := turn_cell ta bx0; have bx1 := turn_cell ta bx1; have bx2 := turn_cell ta bx2; have hb1 := turn_heap ta hb1; have hb2 := turn_heap ta hb2; have tt := tt.trans ta (fun _ _ q => q); clear ta))
        obtain ⟨hz, ⟨f0, f1, f2, _, _⟩⟩ := ev_open hb1
        clear hz
        refine wpAnyIn_ready (rs := [10]) (by kernel_rfl) (by simp) ?_
        refine AllReadyIn.cons rfl (fun K hK => ?_) AllReadyIn.nil
        (go_simp; (first | (refine ⟨trivial, ?_⟩) | (refine ⟨fun _ h => (by cases h), ?_⟩) | skip); refine hK _ _ ?_; clear hK K)
        (first | (refine wpAnyIn_take (i := 11) (v := ?_) rfl rfl (by kernel_rfl) (by kernel_rfl) (by kernel_rfl) (fun _ _ _ h => h) ⟨Or.inl ⟨by rfl, ?_⟩, fun _ => rfl⟩ ?_; rotate_left; (intro w'; first | (go_simp; done) | (go_simp; with_reducible rfl))) | (refine wpAnyIn_take (i := 11) (v := undef) rfl rfl (by kernel_rfl) (by kernel_rfl) (by kernel_rfl) (fun _ _ _ h => h) ⟨Or.inr ⟨by rfl, rfl⟩, fun _ => rfl⟩ ?_))
        refine wpAnyIn_ready (rs := [12]) (by kernel_rfl) (by simp) ?_
        refine AllReadyIn.cons rfl (fun K hK => ?_) AllReadyIn.nil
        (go_simp; (first | (refine ⟨trivial, ?_⟩) | (refine ⟨fun _ h => (by cases h), ?_⟩) | skip); refine hK _ _ ?_; clear hK K)
        (first | (refine wpAnyIn_take (i := 13) (v := ?_) rfl rfl (by kernel_rfl) (by kernel_rfl) (by kernel_rfl) (fun _ _ _ h => h) ⟨Or.inl ⟨by rfl, ?_⟩, fun _ => rfl⟩ ?_; rotate_left; (intro w'; first | (go_simp; done) | (go_simp; with_reducible rfl))) | (refine wpAnyIn_take (i := 13) (v := undef) rfl rfl (by kernel_rfl) (by kernel_rfl) (by kernel_rfl) (fun _ _ _ h => h) ⟨Or.inr ⟨by rfl, rfl⟩, fun _ => rfl⟩ ?_))
        refine wpAnyIn_ready (rs := [14]) (by kernel_rfl) (by simp) ?_
        refine AllReadyIn.cons rfl (fun K hK => ?_) AllReadyIn.nil
        (go_simp; (first | (refine ⟨trivial, ?_⟩) | (refine ⟨fun _ h => (by cases h), ?_⟩) | skip); refine hK _ _ ?_; clear hK K)
        refine wpAnyIn_done (by kernel_rfl) ?_ _
        simp only [NormQ]
        obtain ⟨W5, hW5, q1, q2, q5⟩ := same3 hb1 hge tt
        rw [hW5]
        have q4 := (q2 g2 (by omega)).trans hb2
        clear hb1 hb2 tt bx0 bx1 bx2 f0 f1 f2 hW5 q2
        obtain ⟨⟨c0, c1, c2, c3, c4⟩, _⟩ := ev_open q1
        obtain ⟨⟨d0, d1, d2, d3, d4⟩, f0, f1, f2, f3, f4⟩ := ev_open q4
        have Q4 := Lib.hid q4
        have Q5 := Lib.hid q5
        clear q1 q4 q5
        go_wp2_with fail
        refine bodyPost_ret (results_cp (g := g2) (x := x) rfl (setEv_at Q4.out x)) rfl ?_
        exact ⟨rfl, setEv_turn Q5.out (Or.inr (by omega)) x⟩
    · (go_simp; (first | (refine ⟨trivial, ?_⟩) | (refine ⟨fun _ h => (by cases h), ?_⟩) | skip); refine hK _ _ ?_; clear hK K)
      refine wpAnyIn_ready (rs := [1]) (by kernel_rfl) (by simp) ?_
      refine AllReadyIn.cons rfl (fun K hK => ?_) AllReadyIn.nil
      (go_simp; (first | (refine ⟨trivial, ?_⟩) | (refine ⟨fun _ h => (by cases h), ?_⟩) | skip); refine hK _ _ ?_; clear hK K)
      refine wpAnyIn_ready (rs := [2]) (by kernel_rfl) (by simp) ?_
      refine AllReadyIn.cons rfl (fun K hK => ?_) AllReadyIn.nil
      (go_simp; gi_wp2_with ((first | (refine ⟨trivial, fun h => (by cases h), ?_⟩) | (refine ⟨trivial, ?_⟩) | (refine ⟨fun h => (by cases h), ?_⟩) | skip); gi_at_call 54; refine (callsIn_wide.2 (HK.out _)).mono ?_; rintro e wa ⟨rfl, ta⟩; have bx0 := turn_cell ta bx0; have bx1 := turn_cell ta bx1; have bx2 := turn_cell ta bx2; have hb1 := turn_heap ta hb1; have hb2 := turn_heap ta hb2; have tt := tt.trans ta (fun _ _ q => q); clear ta))
      (first | (refine wpAnyIn_take (i := 9) (v := ?_) rfl rfl (by kernel_rfl) (by kernel_rfl) (by kernel_rfl) (fun _ _ _ h => h) ⟨Or.inl ⟨by rfl, ?_⟩, fun _ => rfl⟩ ?_; rotate_left; (intro w'; first | (go_simp; done) | (go_simp; with_reducible rfl))) | (refine wpAnyIn_take (i := 9) (v := undef) rfl rfl (by kernel_rfl) (by kernel_rfl) (by kernel_rfl) (fun _ _ _ h => h) ⟨Or.inr ⟨by rfl, rfl⟩, fun _ => rfl⟩ ?_))
      refine wpAnyIn_ready (rs := [5]) (by kernel_rfl) (by simp) ?_
      refine AllReadyIn.cons rfl (fun K hK => ?_) AllReadyIn.nil
      (go_simp; gi_wp2_with ((first | (refine ⟨trivial, fun h => (by cases h), ?_⟩) | (refine ⟨trivial, ?_⟩) | (refine ⟨fun h => (by cases h), ?_⟩) | skip); gi_at_call 54; refine (callsIn_wide.2 (HA.out _)).mono ?_; rintro e wa ⟨rfl, ta⟩; have bx0 := turn_cell ta bx0; have bx1 := turn_cell ta bx1; have bx2 := turn_cell ta bx2; have hb1 := turn_heap ta hb1; have hb2 := turn_heap ta hb2; have tt := tt.trans ta (fun _ _ q => q); clear ta))
      refine wpAnyIn_ready (rs := [8]) (by kernel_rfl) (by simp) ?_
      refine AllReadyIn.cons rfl (fun K hK => ?_) AllReadyIn.nil
      (go_simp; gi_wp2_with ((first | (refine ⟨trivial, fun h => (by cases h), ?_⟩) | (refine ⟨trivial, ?_⟩) | (refine ⟨fun h => (by cases h), ?_⟩) | skip); gi_at_call 54; refine (callsIn_wide.2 (HM.out _)).mono ?_; rintro e wa ⟨rfl, ta⟩; have bx0 := turn_cell ta bx0; have bx1 := turn_cell ta bx1; have bx2 := turn_cell ta bx2; have hb1 := turn_heap ta hb1; have hb2 := turn_heap ta hb2; have tt := tt.trans ta (fun _ _ q => q); clear ta))
      obtain ⟨hz, ⟨f0, f1, f2, _, _⟩⟩ := ev_open hb1
      clear hz
      refine wpAnyIn_ready (rs := [10]) (by kernel_rfl) (by simp) ?_
      refine AllReadyIn.cons rfl (fun K hK => ?_) AllReadyIn.nil
      (go_simp; (first | (refine ⟨trivial, ?_⟩) | (refine ⟨fun _ h => (by cases h), ?_⟩) | skip); refine hK _ _ ?_; clear hK K)
      (first | (refine wpAnyIn_take (i := 11) (v := ?_) rfl rfl (by kernel_rfl) (by kernel_rfl) (by kernel_rfl) (fun _ _ _ h => h) ⟨Or.inl ⟨by rfl, ?_⟩, fun _ => rfl⟩ ?_; rotate_left; (intro w'; first | (go_simp; done) | (go_simp; with_reducible rfl))) | (refine wpAnyIn_take (i := 11) (v := undef) rfl rfl (by kernel_rfl) (by kernel_rfl) (by kernel_rfl) (fun _ _ _ h => h) ⟨Or.inr ⟨by rfl, rfl⟩, fun _ => rfl⟩ ?_))
      refine wpAnyIn_ready (rs := [12]) (by kernel_rfl) (by simp) ?_
      refine AllReadyIn.cons rfl (fun K hK => ?_) AllReadyIn.nil
      (go_simp; (first | (refine ⟨trivial, ?_⟩) | (refine ⟨fun _ h => (by cases h), ?_⟩) | skip); refine hK _ _ ?_; clear hK K)
      (first | (refine wpAnyIn_take (i := 13) (v := ?_) rfl rfl (by kernel_rfl) (by kernel_rfl) (by kernel_rfl) (fun _ _ _ h => h) ⟨Or.inl ⟨by rfl, ?_⟩, fun _ => rfl⟩ ?_; rotate_left; (intro w'; first | (go_simp; done) | (go_simp; with_reducible rfl))) | (refine wpAnyIn_take (i := 13) (v := undef) rfl rfl (by kernel_rfl) (by kernel_rfl) (by kernel_rfl) (fun _ _ _ h => h) ⟨Or.inr ⟨by rfl, rfl⟩, fun _ => rfl⟩ ?_))
      refine wpAnyIn_ready (rs := [14]) (by kernel_rfl) (by simp) ?_
      refine AllReadyIn.cons rfl (fun K hK => ?_) AllReadyIn.nil
      (go_simp; (first | (refine ⟨trivial, ?_⟩) | (refine ⟨fun _ h => (by cases h), ?_⟩) | skip); refine hK _ _ ?_; clear hK K)
      refine wpAnyIn_done (by kernel_rfl) ?_ _
      simp only [NormQ]
      obtain ⟨W5, hW5, q1, q2, q5⟩ := same3 hb1 hge tt
      rw [hW5]
      have q4 := (q2 g2 (by omega)).trans hb2
      clear hb1 hb2 tt bx0 bx1 bx2 f0 f1 f2 hW5 q2
      obtain ⟨⟨c0, c1, c2, c3, c4⟩, _⟩ := ev_open q1
      obtain ⟨⟨d0, d1, d2, d3, d4⟩, f0, f1, f2, f3, f4⟩ := ev_open q4
      have Q4 := Lib.hid q4
      have Q5 := Lib.hid q5
      clear q1 q4 q5
      go_wp2_with fail
      refine bodyPost_ret (results_cp (g := g2) (x := x) rfl (setEv_at Q4.out x)) rfl ?_
      exact ⟨rfl, setEv_turn Q5.out (Or.inr (by omega)) x⟩
end Go.Proofs.YtnlanemldapfiaaGreat.se
