/-
  A meter's table: Get, Put.
-/
import Derived.Test.YtnlanemldapfiaaGreatVTab
namespace Go.Proofs.YtnlanemldapfiaaGreat.se
open Go.RowKit Go.Maps Go.WideMaps Go.RwLone Go.Proofs.YtnlanemldapfiaaGreat.Tb

section
variable {w w' : World} {mp : Nat} {s m rc rep : Int} {root : Option Addr}

set_option maxRecDepth 100000 in
set_option maxHeartbeats 1600000 in
theorem tget_any {ver : Int} (h : MetC w mp s 0 0 root ver rep) {t : Tr Key Val} (ht : TrAt w (.pointer root) t) (k : Key) :
    Calls Tryz.prog 23 #[.pointer (some ⟨mp, 2, none⟩), keyV k] w fun r w' => r = .returned (gotV (Tb.get t k)) ∧ Turn (fun _ => False) w w' := by
  obtain ⟨W1, hW1⟩ : ∃ W1, w.alloc (.cells #[.string ⟨#[]⟩, .string ⟨#[]⟩, .string ⟨#[]⟩, .int .i64 0, .int .i64 0] 32) = W1 := ⟨_, rfl⟩
  have HT : Turn (fun _ => False) w W1 := by rw [← hW1]; exact turnBox w _
  have HB : W1.heap[w.heap.size]? = some (evBox noEv) := by rw [← hW1]; exact heap_alloc_new w _
  have HN := Lib.hid (now_q (h.later HT (fun q => q)))
  have HG := Lib.hid (get_any (ht.later HT) k)
  have HT1 := Lib.hid HT
  have HB1 := Lib.hid HB
  obtain ⟨g, hg⟩ : ∃ g, w.heap.size = g := ⟨_, rfl⟩
  have HGN := Lib.hid (show (fun _ => False) g ∨ w.heap.size ≤ g from Or.inr (Nat.le_of_eq hg))
  rw [hg] at HB1
  have HGE := Lib.hid hg
  clear h ht HT HB
  cases hq : Tb.get t k with
  | none =>
    rw [hq] at HG
    unfold gotV at HG
    have HQ := Lib.hid hq
    clear hq
    go_enter Tryz.func23, Tryz.ntmps23
    go_wp2_with fail
    go_at_call 50
    refine HN.out.mono ?_
    rintro e w1 ⟨rfl, rfl⟩
    go_wp2_with fail
    go_at_call 51
    refine HG.out.mono ?_
    rintro e w2 ⟨rfl, ht2⟩
    have hb2 := turn_heap ht2 HB1.out
    obtain ⟨⟨b0, b1, b2, b3, b4⟩, f0, f1, f2, f3, f4⟩ := ev_open hb2
    have HB2 := Lib.hid hb2
    have HT2 := Lib.hid (HT1.out.trans ht2 (fun _ _ q => q))
    clear hb2 ht2
    go_wp2_with fail
    refine bodyPost_ret (results_ev (by kernel_rfl) (g := g) (x := noEv) (b := false) rfl rfl (setEv_at HB2.out noEv)) rfl ?_
    exact ⟨rfl, setEv_turn HT2.out HGN.out noEv⟩
  | some x =>
    rw [hq] at HG
    unfold gotV at HG
    have HQ := Lib.hid hq
    clear hq
    go_enter Tryz.func23, Tryz.ntmps23
    go_wp2_with fail
    go_at_call 50
    refine HN.out.mono ?_
    rintro e w1 ⟨rfl, rfl⟩
    go_wp2_with fail
    go_at_call 51
    refine HG.out.mono ?_
    rintro e w2 ⟨rfl, ht2⟩
    have hb2 := turn_heap ht2 HB1.out
    obtain ⟨⟨b0, b1, b2, b3, b4⟩, f0, f1, f2, f3, f4⟩ := ev_open hb2
    have HB2 := Lib.hid hb2
    have HT2 := Lib.hid (HT1.out.trans ht2 (fun _ _ q => q))
    clear hb2 ht2
    go_wp2_with fail
    refine bodyPost_ret (results_ev (by kernel_rfl) (g := g) (x := x) (b := true) rfl rfl (setEv_at HB2.out x)) rfl ?_
    exact ⟨rfl, setEv_turn HT2.out HGN.out x⟩

set_option maxRecDepth 100000 in
set_option maxHeartbeats 1600000 in
theorem tput_any {ver : Nat} (h : MetC w mp s 0 0 root ver rep) {t : Tr Key Val} (ht : TrAt w (.pointer root) t) (hz : t.Sized) (hs : t.count + 2 < 1000000000000) (hv : ver < 1000000000000) (k : Key) (x : Val) :
    Calls Tryz.prog 27 #[.pointer (some ⟨mp, 2, none⟩), keyV k, valV x] w fun r w' => r = .returned (.tuple #[]) ∧ (∃ root', MetC w' mp s 0 0 root' ((ver + 1 : Nat) : Int) rep ∧ TrAt w' (.pointer root') (put t k x)) ∧ Turn (fun b => b = mp) w w' := by
  obtain ⟨W1, hW1, tb, bx0, bx1, bx2, bx3, bx4⟩ := ev_box w x
  have hlt : mp < w.heap.size := (Array.getElem?_eq_some_iff.1 h).1
  have hm := h.later tb (fun q => q)
  have htr := ht.later tb
  obtain ⟨g, hg⟩ : ∃ g, w.heap.size = g := ⟨_, rfl⟩
  rw [hg] at bx0 bx1 bx2 bx3 bx4 hlt
  have hne : ¬ g = mp := by omega
  have t1 : Turn (fun b => b = mp) W1 ((W1.setCell ⟨mp, 2, none⟩ (.int .i32 1)).setCell ⟨mp, 6, none⟩ (.int .i32 (-1073741824))) := (turn1 W1 mp 2 _).set mp 6 (Or.inl rfl) _
  have h1 : MetC ((W1.setCell ⟨mp, 2, none⟩ (.int .i32 1)).setCell ⟨mp, 6, none⟩ (.int .i32 (-1073741824))) mp s 1 (-1073741824) root ver rep := (hm.set2 1).set6 _
  have bx0 := turned_cell bx0 t1 hne
  have bx1 := turned_cell bx1 t1 hne
  have bx2 := turned_cell bx2 t1 hne
  have bx3 := turned_cell bx3 t1 hne
  have bx4 := turned_cell bx4 t1 hne
  have c8 := h1.cell 8
  have TB0 := tb.mono (Q' := fun b => b = mp) (fun _ q => q.elim)
  obtain ⟨WL, hWL⟩ : ∃ WL, (W1.setCell ⟨mp, 2, none⟩ (.int .i32 1)).setCell ⟨mp, 6, none⟩ (.int .i32 (-1073741824)) = WL := ⟨_, rfl⟩
  have HP0 := htr.turned t1 hm.noNode
  rw [hWL] at t1 h1 bx0 bx1 bx2 bx3 bx4 c8 HP0
  have HP := Lib.hid (put_any t k x HP0.drew hz hs)
  have HM := Lib.hid hm
  have HT1 := Lib.hid (TB0.trans t1 (fun _ _ q => q))
  have H1 := Lib.hid h1
  have i0 : (0 : Int) ≤ (ver : Int) := by omega
  have i1 : (ver : Int) < 1000000000000000 := by omega
  clear h ht hz hs t1 h1 hv hm htr HP0 TB0 tb hne hlt
  go_enter_defers Tryz.func27, Tryz.ntmps27
  go_wp2_with (go_at_call 55; refine (wlock_free Tryz.rwWLib mp 2 (.int .u32 0) (.int .u32 0) _ (HM.out.cell 2) (HM.out.cell 4) (HM.out.cell 5) (HM.out.cell 6) (HM.out.free 2) (HM.out.free 6)).mono ?_; rintro e w' ⟨rfl, rfl⟩)
  have HWL := Lib.hid hWL
  refine (wpIn_wide (n := 10)).1 ?_
  refine normQ ?_
  refine wpIn_region_any (by kernel_rfl) ?_
  try (change wpAnyIn _ _ _ _ _ _ _ _ _ (World.drew _))
  (first | (refine wpAnyIn_take (i := 0) (v := ?_) rfl rfl (by kernel_rfl) (by kernel_rfl) (by kernel_rfl) (fun _ _ _ h => h) ⟨Or.inl ⟨by rfl, ?_⟩, fun _ => rfl⟩ ?_; rotate_left; (intro w'; first | (go_simp; done) | (go_simp; with_reducible rfl))) | (refine wpAnyIn_take (i := 0) (v := undef) rfl rfl (by kernel_rfl) (by kernel_rfl) (by kernel_rfl) (fun _ _ _ h => h) ⟨Or.inr ⟨by rfl, rfl⟩, fun _ => rfl⟩ ?_))
  (first | (refine wpAnyIn_take (i := 1) (v := ?_) rfl rfl (by kernel_rfl) (by kernel_rfl) (by kernel_rfl) (fun _ _ _ h => h) ⟨Or.inl ⟨by rfl, ?_⟩, fun _ => rfl⟩ ?_; rotate_left; (intro w'; first | (go_simp; done) | (go_simp; with_reducible rfl))) | (refine wpAnyIn_take (i := 1) (v := undef) rfl rfl (by kernel_rfl) (by kernel_rfl) (by kernel_rfl) (fun _ _ _ h => h) ⟨Or.inr ⟨by rfl, rfl⟩, fun _ => rfl⟩ ?_))
  (first | (refine wpAnyIn_take (i := 2) (v := ?_) rfl rfl (by kernel_rfl) (by kernel_rfl) (by kernel_rfl) (fun _ _ _ h => h) ⟨Or.inl ⟨by rfl, ?_⟩, fun _ => rfl⟩ ?_; rotate_left; (intro w'; first | (go_simp; done) | (go_simp; with_reducible rfl))) | (refine wpAnyIn_take (i := 2) (v := undef) rfl rfl (by kernel_rfl) (by kernel_rfl) (by kernel_rfl) (fun _ _ _ h => h) ⟨Or.inr ⟨by rfl, rfl⟩, fun _ => rfl⟩ ?_))
  (first | (refine wpAnyIn_take (i := 3) (v := ?_) rfl rfl (by kernel_rfl) (by kernel_rfl) (by kernel_rfl) (fun _ _ _ h => h) ⟨Or.inl ⟨by rfl, ?_⟩, fun _ => rfl⟩ ?_; rotate_left; (intro w'; first | (go_simp; done) | (go_simp; with_reducible rfl))) | (refine wpAnyIn_take (i := 3) (v := undef) rfl rfl (by kernel_rfl) (by kernel_rfl) (by kernel_rfl) (fun _ _ _ h => h) ⟨Or.inr ⟨by rfl, rfl⟩, fun _ => rfl⟩ ?_))
  (first | (refine wpAnyIn_take (i := 5) (v := ?_) rfl rfl (by kernel_rfl) (by kernel_rfl) (by kernel_rfl) (fun _ _ _ h => h) ⟨Or.inl ⟨by rfl, ?_⟩, fun _ => rfl⟩ ?_; rotate_left; (intro w'; first | (go_simp; done) | (go_simp; with_reducible rfl))) | (refine wpAnyIn_take (i := 5) (v := undef) rfl rfl (by kernel_rfl) (by kernel_rfl) (by kernel_rfl) (fun _ _ _ h => h) ⟨Or.inr ⟨by rfl, rfl⟩, fun _ => rfl⟩ ?_))
  refine wpAnyIn_ready (rs := [4, 6]) (by kernel_rfl) (by simp) ?_
  refine AllReadyIn.cons rfl (fun K hK => ?_) (AllReadyIn.cons rfl (fun K hK => ?_) AllReadyIn.nil)
  · (go_simp; (first | (refine ⟨trivial, ?_⟩) | (refine ⟨fun _ h => (by cases h), ?_⟩) | skip); refine hK _ _ ?_; clear hK K)
    refine wpAnyIn_ready (rs := [6]) (by kernel_rfl) (by simp) ?_
    refine AllReadyIn.cons rfl (fun K hK => ?_) AllReadyIn.nil
    (go_simp; (first | (refine ⟨trivial, ?_⟩) | (refine ⟨fun _ h => (by cases h), ?_⟩) | skip); refine hK _ _ ?_; clear hK K)
    refine wpAnyIn_ready (rs := [7]) (by kernel_rfl) (by simp) ?_
    refine AllReadyIn.cons rfl (fun K hK => ?_) AllReadyIn.nil
    (go_simp; gi_wp2_with ((first | (refine ⟨trivial, fun h => (by cases h), ?_⟩) | (refine ⟨trivial, ?_⟩) | (refine ⟨fun h => (by cases h), ?_⟩) | skip); gi_at_call 57; refine (callsIn_wide.2 HP.out).mono ?_; rintro e w2 ⟨p2, rfl, hp2, t2'⟩))
    have t2 : Turn (fun _ => False) WL w2 := ((like_drew WL).turn _).trans t2' (fun _ _ q => q)
    have h2 := H1.out.later t2 (fun q => q)
    have c8' : w2.cell? ⟨mp, 8, none⟩ = some (.pointer root) := h2.cell 8
    have f8' : w2.frozen? ⟨mp, 8, none⟩ = false := h2.free 8
    have t3 : Turn (fun b => b = mp) w (w2.setCell ⟨mp, 8, none⟩ (.pointer p2)) := (HT1.out.trans t2 (fun _ _ q => q.elim)).set mp 8 (Or.inl rfl) _
    have h3 := h2.set8 p2
    have hp3 := hp2.turned (turn1 w2 mp 8 (.pointer p2)) h2.noNode
    have H3 := Lib.hid h3
    have HP3 := Lib.hid hp3
    have HT3 := Lib.hid t3
    clear h2 h3 hp2 hp3 t2 t2' t3
    (first | (refine wpAnyIn_take (i := 8) (v := ?_) rfl rfl (by kernel_rfl) (by kernel_rfl) (by kernel_rfl) (fun _ _ _ h => h) ⟨Or.inl ⟨by rfl, ?_⟩, fun _ => rfl⟩ ?_; rotate_left; (intro w'; first | (go_simp; done) | (go_simp; with_reducible rfl))) | (refine wpAnyIn_take (i := 8) (v := undef) rfl rfl (by kernel_rfl) (by kernel_rfl) (by kernel_rfl) (fun _ _ _ h => h) ⟨Or.inr ⟨by rfl, rfl⟩, fun _ => rfl⟩ ?_))
    (first | (refine wpAnyIn_take (i := 9) (v := ?_) rfl rfl (by kernel_rfl) (by kernel_rfl) (by kernel_rfl) (fun _ _ _ h => h) ⟨Or.inl ⟨by rfl, ?_⟩, fun _ => rfl⟩ ?_; rotate_left; (intro w'; first | (go_simp; done) | (go_simp; with_reducible rfl))) | (refine wpAnyIn_take (i := 9) (v := undef) rfl rfl (by kernel_rfl) (by kernel_rfl) (by kernel_rfl) (fun _ _ _ h => h) ⟨Or.inr ⟨by rfl, rfl⟩, fun _ => rfl⟩ ?_))
    refine wpAnyIn_ready (rs := [10]) (by kernel_rfl) (by simp) ?_
    refine AllReadyIn.cons rfl (fun K hK => ?_) AllReadyIn.nil
    (go_simp; (first | (refine ⟨trivial, ?_⟩) | (refine ⟨fun _ h => (by cases h), ?_⟩) | skip); refine hK _ _ ?_; clear hK K)
    refine wpAnyIn_done (by kernel_rfl) ?_ _
    simp only [NormQ]
    go_wp2_with (go_at_call 24; refine (addv_any H3.out i0 i1).mono ?_; rintro e w' ⟨rfl, rfl⟩)
    have h4 := H3.out.set9 ((ver : Int) + 1)
    have hp4 := HP3.out.turned (turn1 _ mp 9 (.int .i64 ((ver : Int) + 1))) H3.out.noNode
    have t4 := HT3.out.set mp 9 (Or.inl rfl) (.int .i64 ((ver : Int) + 1))
    refine leaves_cons (f := 56) (args := #[.pointer (some ⟨mp, 2, none⟩)]) (by simp) (by simp [go_sem]) ?_
    refine (wunlock_deferred Tryz.rwWLib mp 2 (.int .u32 0) (.int .u32 0) .returning _ (h4.cell 2) (h4.cell 4) (h4.cell 5) (h4.cell 6) (h4.free 2) (h4.free 6)).mono ?_
    rintro e u' w'' ⟨rfl, rfl, rfl⟩
    have h5 := (h4.set6 0).set2 0
    have n5 := (hp4.turned (turn1 _ mp 6 (.int .i32 0)) h4.noNode).turned (turn1 _ mp 2 (.int .i32 0)) (h4.set6 0).noNode
    have e : ((ver + 1 : Nat) : Int) = (ver : Int) + 1 := by omega
    rw [e]
    exact ⟨_, results_none rfl _ _ _, rfl, ⟨p2, h5, n5⟩, (t4.set mp 6 (Or.inl rfl) _).set mp 2 (Or.inl rfl) _⟩
  · (go_simp; (first | (refine ⟨trivial, ?_⟩) | (refine ⟨fun _ h => (by cases h), ?_⟩) | skip); refine hK _ _ ?_; clear hK K)
    refine wpAnyIn_ready (rs := [4]) (by kernel_rfl) (by simp) ?_
    refine AllReadyIn.cons rfl (fun K hK => ?_) AllReadyIn.nil
    (go_simp; (first | (refine ⟨trivial, ?_⟩) | (refine ⟨fun _ h => (by cases h), ?_⟩) | skip); refine hK _ _ ?_; clear hK K)
    refine wpAnyIn_ready (rs := [7]) (by kernel_rfl) (by simp) ?_
    refine AllReadyIn.cons rfl (fun K hK => ?_) AllReadyIn.nil
    (go_simp; gi_wp2_with ((first | (refine ⟨trivial, fun h => (by cases h), ?_⟩) | (refine ⟨trivial, ?_⟩) | (refine ⟨fun h => (by cases h), ?_⟩) | skip); gi_at_call 57; refine (callsIn_wide.2 HP.out).mono ?_; rintro e w2 ⟨p2, rfl, hp2, t2'⟩))
    have t2 : Turn (fun _ => False) WL w2 := ((like_drew WL).turn _).trans t2' (fun _ _ q => q)
    have h2 := H1.out.later t2 (fun q => q)
    have c8' : w2.cell? ⟨mp, 8, none⟩ = some (.pointer root) := h2.cell 8
    have f8' : w2.frozen? ⟨mp, 8, none⟩ = false := h2.free 8
    have t3 : Turn (fun b => b = mp) w (w2.setCell ⟨mp, 8, none⟩ (.pointer p2)) := (HT1.out.trans t2 (fun _ _ q => q.elim)).set mp 8 (Or.inl rfl) _
    have h3 := h2.set8 p2
    have hp3 := hp2.turned (turn1 w2 mp 8 (.pointer p2)) h2.noNode
    have H3 := Lib.hid h3
    have HP3 := Lib.hid hp3
    have HT3 := Lib.hid t3
    clear h2 h3 hp2 hp3 t2 t2' t3
    (first | (refine wpAnyIn_take (i := 8) (v := ?_) rfl rfl (by kernel_rfl) (by kernel_rfl) (by kernel_rfl) (fun _ _ _ h => h) ⟨Or.inl ⟨by rfl, ?_⟩, fun _ => rfl⟩ ?_; rotate_left; (intro w'; first | (go_simp; done) | (go_simp; with_reducible rfl))) | (refine wpAnyIn_take (i := 8) (v := undef) rfl rfl (by kernel_rfl) (by kernel_rfl) (by kernel_rfl) (fun _ _ _ h => h) ⟨Or.inr ⟨by rfl, rfl⟩, fun _ => rfl⟩ ?_))
    (first | (refine wpAnyIn_take (i := 9) (v := ?_) rfl rfl (by kernel_rfl) (by kernel_rfl) (by kernel_rfl) (fun _ _ _ h => h) ⟨Or.inl ⟨by rfl, ?_⟩, fun _ => rfl⟩ ?_; rotate_left; (intro w'; first | (go_simp; done) | (go_simp; with_reducible rfl))) | (refine wpAnyIn_take (i := 9) (v := undef) rfl rfl (by kernel_rfl) (by kernel_rfl) (by kernel_rfl) (fun _ _ _ h => h) ⟨Or.inr ⟨by rfl, rfl⟩, fun _ => rfl⟩ ?_))
    refine wpAnyIn_ready (rs := [10]) (by kernel_rfl) (by simp) ?_
    refine AllReadyIn.cons rfl (fun K hK => ?_) AllReadyIn.nil
    (go_simp; (first | (refine ⟨trivial, ?_⟩) | (refine ⟨fun _ h => (by cases h), ?_⟩) | skip); refine hK _ _ ?_; clear hK K)
    refine wpAnyIn_done (by kernel_rfl) ?_ _
    simp only [NormQ]
    go_wp2_with (go_at_call 24; refine (addv_any H3.out i0 i1).mono ?_; rintro e w' ⟨rfl, rfl⟩)
    have h4 := H3.out.set9 ((ver : Int) + 1)
    have hp4 := HP3.out.turned (turn1 _ mp 9 (.int .i64 ((ver : Int) + 1))) H3.out.noNode
    have t4 := HT3.out.set mp 9 (Or.inl rfl) (.int .i64 ((ver : Int) + 1))
    refine leaves_cons (f := 56) (args := #[.pointer (some ⟨mp, 2, none⟩)]) (by simp) (by simp [go_sem]) ?_
    refine (wunlock_deferred Tryz.rwWLib mp 2 (.int .u32 0) (.int .u32 0) .returning _ (h4.cell 2) (h4.cell 4) (h4.cell 5) (h4.cell 6) (h4.free 2) (h4.free 6)).mono ?_
    rintro e u' w'' ⟨rfl, rfl, rfl⟩
    have h5 := (h4.set6 0).set2 0
    have n5 := (hp4.turned (turn1 _ mp 6 (.int .i32 0)) h4.noNode).turned (turn1 _ mp 2 (.int .i32 0)) (h4.set6 0).noNode
    have e : ((ver + 1 : Nat) : Int) = (ver : Int) + 1 := by omega
    rw [e]
    exact ⟨_, results_none rfl _ _ _, rfl, ⟨p2, h5, n5⟩, (t4.set mp 6 (Or.inl rfl) _).set mp 2 (Or.inl rfl) _⟩
end
end Go.Proofs.YtnlanemldapfiaaGreat.se
