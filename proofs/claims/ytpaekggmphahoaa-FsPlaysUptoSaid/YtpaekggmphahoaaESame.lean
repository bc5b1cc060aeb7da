/-
  THE LAW FsPlays: Same of both.
-/
import Derived.Test.YtpaekggmphahoaaEDo7
namespace Go.Proofs.Ytpaekggmphahoaa
open Go.RowKit Go.Maps Go.WideMaps
set_option linter.unusedVariables false
set_option linter.unusedSimpArgs false
section
variable {w w1 w2 w' : World} {p q base : Nat} {S S' : Fsp.Fs} {Q R : Nat → Prop} {v : Value} {lr : List RF}
set_option maxRecDepth 100000 in
set_option maxHeartbeats 2000000 in
theorem same_both (h : Both w p q S base) (hb : base ≤ w.heap.size) :
    Calls Try.prog 12 #[.pointer (some ⟨p, 0, none⟩), .pointer (some ⟨q, 0, none⟩)] w fun r w' => r = .returned (.bool true) ∧ Turn (fun _ => False) w w' := by
  obtain ⟨Q, R, mo, pl, v, lr, g1, g2, h3, h4, h5⟩ := h
  have hgd := g1.good
  have hl := Good.len hgd g2
  have hll := g2.n
  obtain ⟨sp, cap, rfl⟩ := g2.form
  have NM := Lib.hid (names_any g1 ⟨#[]⟩)
  rw [show Fsp.names S (⟨#[]⟩ : ByteArray).data.toList = S.L.map (·.1) from Fsp.names_all _] at NM
  have G1 := Lib.hid g1
  have G2 := Lib.hid g2
  have HG := Lib.hid hgd
  have HLL := Lib.hid hll
  obtain ⟨n, hn⟩ : ∃ n, n = lr.length := ⟨_, rfl⟩
  have HN := Lib.hid hn
  have n0 : (n : Int) ≤ 400 := by omega
  clear g1 g2 h3 h4 h5 hgd hll
  go_enter Try.func12, Try.ntmps12
  go_wp2_with fail
  go_at_call 15
  refine NM.out.mono ?_
  rintro r w1 ⟨vn, rfl, hrow, t1⟩
  simp only [List.length_map] at hrow
  obtain ⟨sn, cn, rfl, hcell⟩ := row_cells hrow
  rw [HLL.out, ← HN.out]
  have HC := Lib.hid hcell
  have T1 := Lib.hid t1
  have x1 := G1.out.turned t1 (fun _ _ e => e)
  have x2 := G2.out.same t1
  have d0 := x2.cells.c0
  have d1 := x2.cells.c1
  have d2 := x2.cells.c2
  have d4 := x2.cells.c4
  have US := fun (n : Cone w1) => (used_is (x1.turned n.only.turn (fun _ _ e => e))).mono (fun r w' (h : _ ∧ n.out = w') => And.intro h.1 h.2.symm)
  have UR := fun (n : Cone w1) => (rUsed_any (x2.same n.only.turn) (by omega) (by have h1 := HG.out.2.1; have h2 := HG.out.2.2.1; omega)).mono (fun r w' (h : _ ∧ n.out = w') => And.intro h.1 h.2.symm)
  have RM := fun (n : Cone w1) => (room_is (x1.turned n.only.turn (fun _ _ e => e))).mono (fun r w' (h : _ ∧ n.out = w') => And.intro h.1 h.2.symm)
  have ST := fun (n : Cone w1) => (steps_is (x1.turned n.only.turn (fun _ _ e => e))).mono (fun r w' (h : _ ∧ n.out = w') => And.intro h.1 h.2.symm)
  have DW := fun (n : Cone w1) => (down_is (b := S.down) (x1.turned n.only.turn (fun _ _ e => e)) rfl).mono (fun r w' (h : _ ∧ n.out = w') => And.intro h.1 h.2.symm)
  have e0 : ∀ n : Cone w1, n.out.cell? ⟨q, 0, none⟩ = some (.int .i64 (S.room : Int)) := fun n => n.only.cellM d0
  have e1 : ∀ m : Cone w1, m.out.cell? ⟨q, 1, none⟩ = some (.slice sp n cap) := fun m => m.only.cellM (by rw [HN.out]; exact d1)
  have e2 : ∀ n : Cone w1, n.out.cell? ⟨q, 2, none⟩ = some (.int .i64 (S.steps : Int)) := fun n => n.only.cellM d2
  have e4 : ∀ n : Cone w1, n.out.cell? ⟨q, 4, none⟩ = some (.bool S.down) := fun n => n.only.cellM d4
  clear d0 d1 d2 d4 hn
  go_upto_region 2 with (fail)
  refine wp_region_cone (by kernel_rfl) (by kernel_rfl) ?_
  repeat (any_goals (first | go_big_quiet_step (((first | (go_at_call 45; with_reducible exact Cone.same (US _)) | (go_at_call 46; with_reducible exact Cone.same (UR _)) | (go_at_call 47; with_reducible exact Cone.same (RM _)) | (go_at_call 48; with_reducible exact Cone.same (ST _)) | (go_at_call 22; with_reducible exact Cone.same (DW _))))) | quiet_step (((first | (go_at_call 45; with_reducible exact Cone.same (US _)) | (go_at_call 46; with_reducible exact Cone.same (UR _)) | (go_at_call 47; with_reducible exact Cone.same (RM _)) | (go_at_call 48; with_reducible exact Cone.same (ST _)) | (go_at_call 22; with_reducible exact Cone.same (DW _)))))))
  refine wpQuiet_nil ?_
  rintro w8 ⟨⟨_, t8⟩, rfl⟩
  have T8 := Lib.hid (t1.trans t8.turn (fun _ _ e => e))
  have y1 := x1.turned t8.turn (fun _ _ e => e)
  have y2 := x2.same t8.turn
  have Y1 := Lib.hid y1
  have Y2 := Lib.hid y2
  have HC8 := Lib.hid (fun (j : Nat) (x : RF) (hx : lr[j]? = some x) => by
    have hp := G2.out.pair hx
    obtain ⟨g, a1, a2, -⟩ := HC.out j x.name (by rw [List.getElem?_map, hp]; rfl)
    exact (⟨g, a1, t8.cellM a2⟩ : ∃ g, sn = some ⟨g, 0, none⟩ ∧ w8.cell? ⟨g, j, none⟩ = some (encStr x.name)))
  clear x1 x2 y1 y2 US UR RM ST DW e0 e1 e2 e4 hrow hcell t1
  go_wp2_with fail
  go_loopw [6] (fun i wr => ∃ k : Nat, k ≤ n ∧ i = .int .i64 (k : Int) ∧ Turn (fun _ => False) w8 wr) (fun i _ => n - (intOf i).toNat)
  case atStart => exact ⟨0, Nat.zero_le _, rfl, Turn.refl _ _⟩
  case round =>
    obtain ⟨k, hk, rfl, htr⟩ := hrel
    have HTR := Lib.hid htr
    clear htr t8
    by_cases hlt : k < n
    · have j1 : (k : Int) < (n : Int) := by omega
      obtain ⟨x, hx⟩ : ∃ x, lr[k]? = some x := ⟨_, List.getElem?_eq_getElem (by rw [← HN.out]; exact hlt)⟩
      obtain ⟨g, a1, a2⟩ := HC8.out k x hx
      subst a1
      have b2 := turned_cell a2 HTR.out (fun e => e)
      have hSk : S.L[k]? = some (x.name, x.f) := Y2.out.pair hx
      have hfi : Fsp.find S.L x.name = some x.f := Fsp.mem_find HG.out.1 (List.mem_of_getElem? hSk)
      obtain ⟨hval, -⟩ := HG.out.2.2.2.2.2 _ _ hfi
      have hdl := Fsp.used_find hfi
      have hdl2 : x.f.data.length ≤ 67108864 := by have h2 := HG.out.2.1; have h3 := HG.out.2.2.1; omega
      obtain ⟨nb, hnb⟩ : ∃ nb : ByteArray, nb = ⟨x.name.toArray⟩ := ⟨_, rfl⟩
      have hnd : nb.data.toList = x.name := by rw [hnb]
      have hns : nb.size ≤ maxLen := by
        have e : nb.size = x.name.length := by rw [hnb]; simp [ByteArray.size]
        rw [e]; unfold Fsp.valid at hval; simp at hval; unfold maxLen; omega
      rw [show encStr x.name = .string nb by rw [hnb]] at b2
      have RD := Lib.hid (read_some (Y1.out.turned HTR.out (fun _ _ e => e)) nb hns (by rw [hnd]; exact hfi))
      have HX := Lib.hid hx
      have HNB := Lib.hid hnb
      clear a2 hSk hfi hval hdl hnd hns hnb hx
      go_wp2_with fail
      go_at_call 19
      refine RD.out.mono ?_
      rintro r w3 ⟨gd, rfl, hown, t3⟩
      have z2 := Y2.out.same (HTR.out.trans t3 (fun _ _ e => e))
      have c1 := z2.cells.c1
      rw [← HN.out] at c1
      obtain ⟨gr, capr, ev, f2, f3, -, -⟩ := z2.at HX.out
      simp only [Value.slice.injEq] at ev
      obtain ⟨rfl, -, -⟩ := ev
      rw [show encStr x.name = .string nb by rw [HNB.out]] at f2
      have hdat := (z2.data k x HX.out).toR
      have hbr : BytR w3 wr.heap.size (.slice (some ⟨gd, 0, none⟩) x.f.data.length x.f.data.length) x.f.data := hown
      have SB := Lib.hid (same_any hbr.toN.toR hdat (by unfold maxLen; omega) (by unfold maxLen; omega))
      obtain ⟨sd, cd, hdv, -⟩ := hdat
      rw [hdv] at f3 SB
      have b3 := turned_cell b2 t3 (fun e => e)
      have T3 := Lib.hid (HTR.out.trans t3 (fun _ _ e => e))
      clear z2 hown hbr hdv t3 b2
      go_wp2_with fail
      go_at_call 43
      refine SB.out.mono ?_
      rintro r w4 ⟨rfl, hlk⟩
      rw [show decide True = true from rfl]
      have T4 := Lib.hid (T3.out.like hlk)
      have m1 := hlk.cell c1
      have m2 := hlk.cell f2
      have m3 := hlk.cell b3
      have NU := fun (n : Cone w4) (z : Int) => (num_any z n.out).mono (fun r w' (h : _ ∧ n.out = w') => And.intro h.1 h.2.symm)
      have e1 := fun (n : Cone w4) => n.only.cellM m1
      have e2 := fun (n : Cone w4) => n.only.cellM m2
      have e3 := fun (n : Cone w4) => n.only.cellM m3
      clear hlk c1 f2 b3 f3 m1 m2 m3
      go_upto_region 10 with (fail)
      refine wp_region_cone (by kernel_rfl) (by kernel_rfl) ?_
      repeat (any_goals (first | go_big_quiet_step (((go_at_call 20; with_reducible exact Cone.same (NU _ _)))) | quiet_step (((go_at_call 20; with_reducible exact Cone.same (NU _ _))))))
      refine wpQuiet_nil ?_
      rintro w9 ⟨⟨_, t9⟩, rfl⟩
      have T9 := Lib.hid (T4.out.trans t9.turn (fun _ _ e => e))
      clear t9 e1 e2 e3
      go_wp2_with fail
      go_roundw
      case rel => exact ⟨k + 1, by omega, by go_num, T9.out⟩
      case measure => simp [intOf]; omega
    · go_wp2_with fail
      go_ret
      exact ⟨rfl, T8.out.trans HTR.out (fun _ _ e => e)⟩
end
end Go.Proofs.Ytpaekggmphahoaa
