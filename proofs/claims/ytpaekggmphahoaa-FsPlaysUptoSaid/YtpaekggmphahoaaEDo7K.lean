/-
  THE LAW FsPlays: what a crash asks of the keeper.
-/
import Derived.Test.YtpaekggmphahoaaEDo7
namespace Go.Proofs.Ytpaekggmphahoaa
open Go.RowKit Go.Maps Go.WideMaps
set_option linter.unusedVariables false
set_option linter.unusedSimpArgs false
section
variable {w w1 w2 w3 w' : World} {p q base : Nat} {S S' : Fsp.Fs} {Q R Qc : Nat → Prop} {v : Value} {lr : List RF} {n : Int} {bw bn bg bl : Nat} {l : List (List UInt8 × Nat)}

theorem setCell_idle {b : Nat} {x : Value} {t : TypeId} {fr : Nat × Nat} (h : w.heap[b]? = some (.cells #[x] t fr)) : (w.setCell ⟨b, 0, none⟩ x).heap = w.heap := by
  refine Array.ext_getElem? fun k => ?_
  by_cases hk : k = b
  · subst hk; rw [heap_setCell_same h, h]; rfl
  · exact heap_setCell_other hk _
theorem setCell_heap {w1 w2 : World} (e : w1.heap = w2.heap) (a : Addr) (x : Value) : (w1.setCell a x).heap = (w2.setCell a x).heap := by simp [World.setCell, e]

set_option maxRecDepth 100000 in
set_option maxHeartbeats 1000000 in
theorem crashKeep_any (h : Asking q S R v lr n bw bn bg bl w l) (hB : Boxes R bw bn bg bl) (hn : -9223372036854775808 ≤ n ∧ n ≤ 9223372036854775807) (hl : lr.length ≤ 1000000) (hgd : Fsp.Good S) (s : ByteArray) (m : Nat) (hs : s.size ≤ 100) (hm : m ≤ 67108864) :
    Calls Try.prog 60 #[.string s, .int .i64 m, .pointer (some ⟨bw, 0, none⟩), .pointer (some ⟨bl, 0, none⟩), .pointer (some ⟨bg, 0, none⟩), .pointer (some ⟨bn, 0, none⟩)] w fun r w' =>
      r = .returned (.int .i64 (keepI s n)) ∧ Asking q S R v lr n bw bn bg bl w' (l ++ [(s.data.toList, m)]) ∧ Turn (QcOf R bw bn bg bl) w w' := by
  have H := Lib.hid h
  have KP : Hid (∀ W, Calls Try.prog 61 #[.string s, .int .i64 n] W fun r w' => r = .returned (.int .i64 (keepI s n)) ∧ w' = W) := Lib.hid (fun W => (rKeep_any _ (by unfold maxLen; omega) n hn W).mono (by rintro r w' ⟨rfl, rfl⟩; exact ⟨rfl, rfl⟩))
  have AT := Lib.hid (rAt_any h.ref s hl)
  have NX : Hid (∀ W, Only w W → ∀ w', w'.heap = ((W.setCell ⟨bg, 0, none⟩ (.bool ((noted S.L [] true l).2 && askOk S.L (noted S.L [] true l).1 (s.data.toList, m)))).setCell ⟨bl, 0, none⟩ (.string s)).heap → (w'.os = W.os ∧ w'.tape = W.tape ∧ w'.output = W.output) → Asking q S R v lr n bw bn bg bl w' (l ++ [(s.data.toList, m)]) ∧ Turn (QcOf R bw bn bg bl) w w') := Lib.hid (fun W t w' e1 e2 => by
    obtain ⟨k1, k2⟩ := (h.turned t.turn (fun _ _ e => e)).next (w' := w') hB s m e1 e2
    exact ⟨k1, (t.turn.mono fun _ e => e.elim).trans k2 (fun _ _ e => e)⟩)
  have kw := h.kw
  have kn := h.kn
  have kg := h.kg
  have kl := h.kl
  have lw : w.cell? ⟨bw, 0, none⟩ = some (.pointer (some ⟨q, 0, none⟩)) := by simp [World.cell?, kw]
  have ln : w.cell? ⟨bn, 0, none⟩ = some (.int .i64 n) := by simp [World.cell?, kn]
  obtain ⟨gb, hgb⟩ : ∃ gb, gb = (noted S.L [] true l).2 := ⟨_, rfl⟩
  obtain ⟨ls, hls⟩ : ∃ ls : ByteArray, ls = ⟨(noted S.L [] true l).1.toArray⟩ := ⟨_, rfl⟩
  have hlsd : ls.data.toList = (noted S.L [] true l).1 := by rw [hls]
  rw [← hgb] at kg NX
  rw [← hlsd] at NX
  rw [← hls] at kl
  have lg : w.cell? ⟨bg, 0, none⟩ = some (.bool gb) := by simp [World.cell?, kg]
  have ll : w.cell? ⟨bl, 0, none⟩ = some (.string ls) := by simp [World.cell?, kl]
  have fg : w.frozen? ⟨bg, 0, none⟩ = false := by simp [World.frozen?, kg]
  have fl : w.frozen? ⟨bl, 0, none⟩ = false := by simp [World.frozen?, kl]
  obtain ⟨b1, b2, b3, b4, b5, -⟩ := hB
  have hu : ∀ nm f, Fsp.find S.L nm = some f → f.data.length ≤ 67108864 ∧ f.synced ≤ f.data.length := fun nm f hf => by
    have h1 := Fsp.used_find hf; have h2 := hgd.2.1; have h3 := hgd.2.2.1
    have h4 := hgd.2.2.2.2.2 nm f hf
    exact ⟨by omega, h4.2⟩
  have HU := Lib.hid hu
  have q2 : (Op.bytesLess s.toList ls.toList || s.toList == ls.toList) = !(decide (ls.data.toList < s.data.toList)) := by
    rw [toList_beqE, Lib.toList_data, Lib.toList_data, less_eqE]
    by_cases k1 : ls.data.toList < s.data.toList
    · have k2 := Fsp.lt_asymm' k1
      have k3 : ¬ s.data.toList = ls.data.toList := fun e => Fsp.lt_irrefl' _ (by rw [e] at k1; exact k1)
      simp [k1, k2, k3]
    · by_cases k2 : s.data.toList = ls.data.toList
      · simp [k1, k2]
      · have k3 := Fsp.lt_total' (Ne.symm k2) k1
        simp [k1, k3]
  have m0 : (0 : Int) ≤ (m : Int) := by omega
  have KG := Lib.hid (fun (W : World) (t : Only w W) => (t.turn.block bg (Array.getElem?_eq_some_iff.1 kg).1 (fun e => e)).trans kg)
  have KL := Lib.hid (fun (W : World) (t : Only w W) => (t.turn.block bl (Array.getElem?_eq_some_iff.1 kl).1 (fun e => e)).trans kl)
  clear h hgd hu kw kn kg kl hls hgb hn
  cases hat : atN S.L s.data.toList with
  | none =>
    have hno := atN_none hat
    have e : askOk S.L ls.data.toList (s.data.toList, m) = false := by unfold askOk; simp only; rw [hno]
    rw [hat] at AT
    rw [e, Bool.and_false] at NX
    clear e hno hat
    have e1 : ∀ n : Cone w, n.out.cell? ⟨bw, 0, none⟩ = some (.pointer (some ⟨q, 0, none⟩)) := fun n => n.only.cellM lw
    have e2 : ∀ n : Cone w, n.out.cell? ⟨bl, 0, none⟩ = some (.string ls) := fun n => n.only.cellM ll
    go_enter Try.func60, Try.ntmps60
    go_wp2_with (first | (go_at_call 42; refine AT.out.mono ?_; rintro r w' ⟨rfl, rfl⟩; rw [show atI none = -1 from rfl]))
    refine wp_region_cone (by kernel_rfl) (by kernel_rfl) ?_
    repeat (any_goals (first | go_big_quiet_step (((fail))) | quiet_step (((fail)))))
    refine wpQuiet_nil ?_
    rintro w8 ⟨⟨_, t8⟩, rfl⟩
    have d1 := t8.cellM lg
    have d2 := t8.cellM ll
    have d3 := t8.cellM ln
    have d4 : w8.frozen? ⟨bg, 0, none⟩ = false := by simp [World.frozen?, KG.out w8 t8]
    have d5 : w8.frozen? ⟨bl, 0, none⟩ = false := by simp [World.frozen?, KL.out w8 t8]
    go_wp2_with (first | (go_at_call 61; refine (KP.out _).mono ?_; rintro r w' ⟨rfl, rfl⟩))
    go_ret
    exact ⟨rfl, NX.out w8 t8 _ rfl ⟨rfl, rfl, rfl⟩⟩
  | some i =>
    obtain ⟨f, hif, hfi⟩ := atN_some hat
    rw [hat] at AT
    obtain ⟨hd1, hd2⟩ := HU.out _ _ hfi
    have e : askOk S.L ls.data.toList (s.data.toList, m) = decide ((f.data.length : Int) - (f.synced : Int) = (m : Int) ∧ 1 ≤ m ∧ ls.data.toList < s.data.toList) := by unfold askOk; simp only; rw [hfi]
    rw [e] at NX
    have hx1 := H.out.ref
    have c1 := hx1.cells.c1
    rw [hx1.L, List.getElem?_map] at hif
    obtain ⟨x, hx⟩ : ∃ x, lr[i]? = some x := by
      cases hx : lr[i]? with
      | none => rw [hx] at hif; cases hif
      | some x => exact ⟨x, rfl⟩
    have hxf : x.f = f := by
      rw [hx] at hif
      simp only [Option.map_some, RF.pair, Option.some.injEq, Prod.mk.injEq] at hif
      exact hif.2
    have hil : (i : Int) < (lr.length : Int) := by have := (List.getElem?_eq_some_iff.1 hx).1; omega
    obtain ⟨gr, capr, ev, -, c3, c5, -⟩ := hx1.at hx
    subst ev
    obtain ⟨sd, cd, hdv, -⟩ := (hx1.data i x hx).toR
    rw [hxf] at hdv c5
    rw [hdv] at c3
    have hi0 : ¬ ((i : Int) < 0) := by omega
    have hdi : (f.data.length : Int) ≤ 67108864 := by omega
    have hsi : (f.synced : Int) ≤ (f.data.length : Int) := by omega
    have hsi0 : (0 : Int) ≤ (f.synced : Int) := by omega
    clear e hfi hat hif hx hxf hdv hx1 hd1 hd2
    have e1 : ∀ n : Cone w, n.out.cell? ⟨bw, 0, none⟩ = some (.pointer (some ⟨q, 0, none⟩)) := fun n => n.only.cellM lw
    have e2 : ∀ n : Cone w, n.out.cell? ⟨bl, 0, none⟩ = some (.string ls) := fun n => n.only.cellM ll
    have e3 : ∀ n : Cone w, n.out.cell? ⟨q, 1, none⟩ = some (.slice (some ⟨gr, 0, none⟩) lr.length capr) := fun n => n.only.cellM c1
    have e4 : ∀ n : Cone w, n.out.cell? ⟨gr, i * 3 + 1, none⟩ = some (.slice sd f.data.length cd) := fun n => n.only.cellM c3
    have e5 : ∀ n : Cone w, n.out.cell? ⟨gr, i * 3 + 2, none⟩ = some (.int .i64 (f.synced : Int)) := fun n => n.only.cellM c5
    by_cases k1 : (f.data.length : Int) - (f.synced : Int) = (m : Int)
    case neg =>
      have k1n : (((f.data.length : Int) - (f.synced : Int)) != (m : Int)) = true := by simpa using k1
      rw [decide_eq_false (fun e => k1 e.1), Bool.and_false] at NX
      clear k1 q2
      go_enter Try.func60, Try.ntmps60
      go_wp2_with (first | (go_at_call 42; refine AT.out.mono ?_; rintro r w' ⟨rfl, rfl⟩; rw [show atI (some i) = (i : Int) from rfl]))
      refine wp_region_cone (by kernel_rfl) (by kernel_rfl) ?_
      repeat (any_goals (first | go_big_quiet_step (((fail))) | quiet_step (((fail)))))
      refine wpQuiet_nil ?_
      rintro w8 ⟨⟨_, t8⟩, rfl⟩
      have d1 := t8.cellM lg
      have d2 := t8.cellM ll
      have d3 := t8.cellM ln
      have d4 : w8.frozen? ⟨bg, 0, none⟩ = false := by simp [World.frozen?, KG.out w8 t8]
      have d5 : w8.frozen? ⟨bl, 0, none⟩ = false := by simp [World.frozen?, KL.out w8 t8]
      go_wp2_with (first | (go_at_call 61; refine (KP.out _).mono ?_; rintro r w' ⟨rfl, rfl⟩))
      go_ret
      exact ⟨rfl, NX.out w8 t8 _ rfl ⟨rfl, rfl, rfl⟩⟩
    by_cases k2 : 1 ≤ m
    case neg =>
      have k2n : (m : Int) < 1 := by omega
      rw [decide_eq_false (fun e => k2 e.2.1), Bool.and_false] at NX
      clear k2 q2
      go_enter Try.func60, Try.ntmps60
      go_wp2_with (first | (go_at_call 42; refine AT.out.mono ?_; rintro r w' ⟨rfl, rfl⟩; rw [show atI (some i) = (i : Int) from rfl]))
      refine wp_region_cone (by kernel_rfl) (by kernel_rfl) ?_
      repeat (any_goals (first | go_big_quiet_step (((fail))) | quiet_step (((fail)))))
      refine wpQuiet_nil ?_
      rintro w8 ⟨⟨_, t8⟩, rfl⟩
      have d1 := t8.cellM lg
      have d2 := t8.cellM ll
      have d3 := t8.cellM ln
      have d4 : w8.frozen? ⟨bg, 0, none⟩ = false := by simp [World.frozen?, KG.out w8 t8]
      have d5 : w8.frozen? ⟨bl, 0, none⟩ = false := by simp [World.frozen?, KL.out w8 t8]
      go_wp2_with (first | (go_at_call 61; refine (KP.out _).mono ?_; rintro r w' ⟨rfl, rfl⟩))
      go_ret
      exact ⟨rfl, NX.out w8 t8 _ rfl ⟨rfl, rfl, rfl⟩⟩
    have k2i : ¬ ((m : Int) < 1) := by omega
    by_cases k3 : ls.data.toList < s.data.toList
    case neg =>
      rw [decide_eq_false (fun e => k3 e.2.2), Bool.and_false] at NX
      rw [decide_eq_false k3] at q2
      clear k2 k3
      go_enter Try.func60, Try.ntmps60
      go_wp2_with (first | (go_at_call 42; refine AT.out.mono ?_; rintro r w' ⟨rfl, rfl⟩; rw [show atI (some i) = (i : Int) from rfl]))
      refine wp_region_cone (by kernel_rfl) (by kernel_rfl) ?_
      repeat (any_goals (first | go_big_quiet_step (((fail))) | quiet_step (((fail)))))
      refine wpQuiet_nil ?_
      rintro w8 ⟨⟨_, t8⟩, rfl⟩
      have d1 := t8.cellM lg
      have d2 := t8.cellM ll
      have d3 := t8.cellM ln
      have d4 : w8.frozen? ⟨bg, 0, none⟩ = false := by simp [World.frozen?, KG.out w8 t8]
      have d5 : w8.frozen? ⟨bl, 0, none⟩ = false := by simp [World.frozen?, KL.out w8 t8]
      go_wp2_with (first | (go_at_call 61; refine (KP.out _).mono ?_; rintro r w' ⟨rfl, rfl⟩))
      go_ret
      exact ⟨rfl, NX.out w8 t8 _ rfl ⟨rfl, rfl, rfl⟩⟩
    rw [decide_eq_true ⟨k1, k2, k3⟩, Bool.and_true] at NX
    rw [decide_eq_true k3] at q2
    clear k2 k3
    go_enter Try.func60, Try.ntmps60
    go_wp2_with (first | (go_at_call 42; refine AT.out.mono ?_; rintro r w' ⟨rfl, rfl⟩; rw [show atI (some i) = (i : Int) from rfl]))
    refine wp_region_cone (by kernel_rfl) (by kernel_rfl) ?_
    repeat (any_goals (first | go_big_quiet_step (((fail))) | quiet_step (((fail)))))
    refine wpQuiet_nil ?_
    rintro w8 ⟨⟨_, t8⟩, rfl⟩
    have d1 := t8.cellM lg
    have d2 := t8.cellM ll
    have d3 := t8.cellM ln
    have d4 : w8.frozen? ⟨bg, 0, none⟩ = false := by simp [World.frozen?, KG.out w8 t8]
    have d5 : w8.frozen? ⟨bl, 0, none⟩ = false := by simp [World.frozen?, KL.out w8 t8]
    go_wp2_with (first | (go_at_call 61; refine (KP.out _).mono ?_; rintro r w' ⟨rfl, rfl⟩))
    go_ret
    exact ⟨rfl, NX.out w8 t8 _ (setCell_heap (setCell_idle (KG.out w8 t8)).symm _ _) ⟨rfl, rfl, rfl⟩⟩
end
end Go.Proofs.Ytpaekggmphahoaa
