/-
  THE LAW FsPlays: Does that only asks, of a name that is there.
-/
import Derived.Test.YtpaekggmphahoaaEDo8
namespace Go.Proofs.Ytpaekggmphahoaa
open Go.RowKit Go.Maps Go.WideMaps
set_option linter.unusedVariables false
set_option linter.unusedSimpArgs false
section
variable {w w1 w2 w' : World} {p q base : Nat} {S S' : Fsp.Fs} {Q R : Nat → Prop} {v : Value} {l : List RF}

set_option maxRecDepth 100000 in
set_option maxHeartbeats 1000000 in
theorem does_8s (h : Both w p q S base) (hb : base ≤ w.heap.size) (o : OpD) (ho : OpOk w o) {f : Fsp.File} (hf : Fsp.find S.L o.name.data.toList = some f) {i : Nat} (hat : atN S.L o.name.data.toList = some i)
    (hk : ¬ (o.kind = 0 ∨ o.kind = 1 ∨ o.kind = 2 ∨ o.kind = 3 ∨ o.kind = 4 ∨ o.kind = 5 ∨ o.kind = 6 ∨ o.kind = 7)) :
    Calls Try.prog 11 #[.pointer (some ⟨p, 0, none⟩), .pointer (some ⟨q, 0, none⟩), opVal o] w fun r w' => r = .returned (.bool true) ∧ BPost w p q (toldS S o).1 base w' := by
  rw [told_none S o hk]
  have ht := turnBox w (boxOf o)
  have hB := h.same ht
  have HF : Hid (BPost w p q S base (w.alloc (boxOf o))) := Lib.hid ⟨hB, ht.mono fun _ e => e.elim⟩
  obtain ⟨Q, R, mo, pl, v, l, g1, g2, h3, h4, h5⟩ := hB
  have hn := ho.name
  have hl := Good.len g1.good g2
  have RD := Lib.hid (read_some g1 o.name hn hf)
  have SZ := Lib.hid (fun (w1 : World) (t : Turn (fun _ => False) (w.alloc (boxOf o)) w1) => size_some (g1.turned t (fun _ _ e => e)) o.name hn hf)
  have AT := Lib.hid (fun (w1 : World) (t : Turn (fun _ => False) (w.alloc (boxOf o)) w1) => rAt_any (g2.same t) o.name (by omega))
  rw [hat] at AT
  have G2 := Lib.hid g2
  have V1 : Hid (∀ W, Calls Try.prog 23 #[.string o.name] W fun r w' => r = .returned (.bool (Fsp.valid o.name.data.toList)) ∧ w' = W) := Lib.hid (fun W => (valid_any o.name hn W).mono (by rintro r w' ⟨rfl, rfl⟩; exact ⟨rfl, rfl⟩))
  have V2 : Hid (∀ W, Calls Try.prog 44 #[.string o.name] W fun r w' => r = .returned (.bool (Fsp.valid o.name.data.toList)) ∧ w' = W) := Lib.hid (fun W => (rValid_any o.name hn W).mono (by rintro r w' ⟨rfl, rfl⟩; exact ⟨rfl, rfl⟩))
  have b2 : (w.alloc (boxOf o)).cell? ⟨w.heap.size, 2, none⟩ = some (.string o.name) := cell_new w _ _ 2
  have b0 : (w.alloc (boxOf o)).cell? ⟨w.heap.size, 0, none⟩ = some (.int .i64 o.kind) := cell_new w _ _ 0
  obtain ⟨ff, hat1, hat2⟩ := atN_some hat
  rw [hf] at hat2
  obtain rfl := Option.some.inj hat2
  have HAT := Lib.hid hat1
  have hdl : f.data.length ≤ 67108864 := by have h1 := Fsp.used_find hf; have h2 := g1.good.2.1; have h3 := g1.good.2.2.1; omega
  obtain ⟨wb, hwb⟩ : ∃ wb, wb = w.alloc (boxOf o) := ⟨_, rfl⟩
  rw [← hwb] at HF RD SZ AT G2 b2 b0
  have HWB := Lib.hid hwb
  simp only [not_or] at hk
  obtain ⟨k0, k1, k2, k3, k4, k5, k6, k7⟩ := hk
  have k0 : (o.kind == 0) = false := by simpa using k0
  have k1 : (o.kind == 1) = false := by simpa using k1
  have k2 : (o.kind == 2) = false := by simpa using k2
  have k3 : (o.kind == 3) = false := by simpa using k3
  have k4 : (o.kind == 4) = false := by simpa using k4
  have k5 : (o.kind == 5) = false := by simpa using k5
  have k6 : (o.kind == 6) = false := by simpa using k6
  have k7 : (o.kind == 7) = false := by simpa using k7
  have hi0 : ¬ ((i : Int) < 0) := by omega
  unfold opVal
  unfold boxOf at hwb
  clear h hb ho hf hat hat1 ht g1 g2 h3 h4 h5 hn
  go_enter Try.func11, Try.ntmps11
  rw [hwb] at b0 b2
  go_wp2_with fail
  go_at_call 19
  rw [← hwb]
  refine RD.out.mono ?_
  rintro r w1 ⟨g, rfl, hown, t1⟩
  rw [← hwb] at b2
  have q2 := turned_cell (Q := fun _ => False) b2 t1 (fun e => e)
  have SZ1 := Lib.hid (SZ.out w1 t1)
  have AT1 := Lib.hid (AT.out w1 t1)
  have T1 := Lib.hid t1
  have hx1 := G2.out.same t1
  have c1 := hx1.cells.c1
  have hat1 := HAT.out
  rw [hx1.L, List.getElem?_map] at hat1
  obtain ⟨x, hx⟩ : ∃ x, l[i]? = some x := by
    cases hx : l[i]? with
    | none => rw [hx] at hat1; cases hat1
    | some x => exact ⟨x, rfl⟩
  have hxf : x.f = f := by
    rw [hx] at hat1
    simp only [Option.map_some, RF.pair, Option.some.injEq, Prod.mk.injEq] at hat1
    exact hat1.2
  have hil : (i : Int) < (l.length : Int) := by have := (List.getElem?_eq_some_iff.1 hx).1; omega
  obtain ⟨gr, capr, ev, -, c3, -, fr⟩ := hx1.at hx
  subst ev
  have hdat := (hx1.data i x hx).toR
  rw [hxf] at hdat
  have hbr : BytR w1 wb.heap.size (.slice (some ⟨g, 0, none⟩) f.data.length f.data.length) f.data := hown
  have SB := Lib.hid (same_any hbr.toN.toR hdat (by unfold maxLen; omega) (by unfold maxLen; omega))
  obtain ⟨sd, cd, hdv, -⟩ := hdat
  rw [hdv] at c3 SB
  have hcur : Cur w1 g f.data.length := by
    rcases hbr.2 with ⟨k, _⟩ | ⟨g2, cap2, cur, e2, k1, k2, k3, k4, k5, k6⟩
    · cases k
    · simp only [Value.slice.injEq, Option.some.injEq, Addr.mk.injEq] at e2
      obtain ⟨⟨rfl, -, -⟩, -, e3⟩ := e2
      exact ⟨cur, k2, by omega⟩
  have HC := Lib.hid hcur
  have HGN := Lib.hid (hbr.new g (by simp [Value.ownBlock]))
  have hdli : (f.data.length : Int) ≤ 67108864 := by omega
  clear b2 b0 t1 hown hx1 hat1 hx hxf fr hdv hbr hcur hdl
  go_wp2_with (first | (go_at_call 41; refine SZ1.out.mono ?_; rintro r w' ⟨rfl, rfl⟩) | (go_at_call 42; refine AT1.out.mono ?_; rintro r w' ⟨rfl, rfl⟩; rw [show atI (some i) = (i : Int) from rfl]) | (go_at_call 20; refine (num_any _ _).mono ?_; rintro r w' ⟨rfl, rfl⟩))
  go_at_call 43
  refine SB.out.mono ?_
  rintro r w2 ⟨rfl, hlk⟩
  rw [show decide True = true from rfl]
  have d1 := hlk.cell c1
  have d3 := hlk.cell c3
  have e2 := hlk.cell q2
  have HLK := Lib.hid hlk
  have HC2 : Hid (Cur w2 g f.data.length) := Lib.hid (by
    obtain ⟨cur, k1, k2⟩ := HC.out
    exact ⟨cur, by rw [hlk.heap]; exact k1, k2⟩)
  have TB2 : Hid (Turn (fun _ => False) wb w2) := Lib.hid (T1.out.trans ⟨hlk.os, hlk.tape, hlk.output, by rw [hlk.heap]; exact Nat.le_refl _, fun k _ _ => by rw [hlk.heap]⟩ (fun _ _ e => e))
  have HNG : ¬ w.heap.size = g := by have := HGN.out.1; have e := congrArg (fun x => x.heap.size) HWB.out; simp at e; omega
  clear c1 c3 q2 hlk
  go_wp2_with (go_at_call 20; refine (num_any _ _).mono ?_; rintro r w' ⟨rfl, rfl⟩)
  clear d1 d3
  go_loopw [18] (fun i wr => ∃ k : Nat, k ≤ f.data.length ∧ i = .int .i64 (k : Int) ∧ Cur wr g f.data.length ∧ Turn (fun b => b = g) w2 wr) (fun i _ => f.data.length - (intOf i).toNat)
  case atStart => exact ⟨0, Nat.zero_le _, rfl, HC2.out, Turn.refl _ _⟩
  case round =>
    obtain ⟨k, hk, rfl, hc, htr⟩ := hrel
    have HCR := Lib.hid hc
    have HTR := Lib.hid htr
    clear hc htr
    by_cases hlt : k < f.data.length
    · have j1 : (k : Int) < (f.data.length : Int) := by omega
      obtain ⟨⟨x, cx⟩, fx⟩ := HCR.out.cell hlt
      go_wp2_with fail
      exact ⟨⟨k + 1, by omega, by go_num, HCR.out.set _ _, HTR.out.set _ _ (Or.inl rfl) _⟩, by simp [intOf]; omega⟩
    · have hk2 : k = f.data.length := by omega
      have n2 := turned_cell e2 HTR.out HNG
      have TR : Hid (Turn (fun _ => False) wb wr) := Lib.hid (TB2.out.trans HTR.out (fun b hb e => by have := HGN.out.1; omega))
      have d2 : ∀ n : Cone wr, n.out.cell? ⟨w.heap.size, 2, none⟩ = some (.string o.name) := fun n => n.only.cellM n2
      subst hk2
      go_upto_region 38 with (fail)
      refine wp_region_cone (by kernel_rfl) (by kernel_rfl) ?_
      repeat (any_goals (first | go_big_quiet_step (((first | (go_at_call 23; with_reducible exact Cone.same (V1.out _)) | (go_at_call 44; with_reducible exact Cone.same (V2.out _))))) | quiet_step (((first | (go_at_call 23; with_reducible exact Cone.same (V1.out _)) | (go_at_call 44; with_reducible exact Cone.same (V2.out _)))))))
      refine wpQuiet_nil ?_
      rintro w8 ⟨⟨_, t8⟩, rfl⟩
      have T8 : Turn (fun _ => False) wb w8 := TR.out.trans t8.turn (fun _ _ e => e)
      have HFI : Hid (BPost w p q S base w8) := Lib.hid ⟨HF.out.1.same T8, HF.out.2.trans (T8.mono fun _ e => e.elim) (fun _ _ e => e)⟩
      clear T8 t8
      go_wp2_with fail
      go_ret
      exact ⟨ret_bool (by simp), HFI.out⟩
end
end Go.Proofs.Ytpaekggmphahoaa
