/-
  OF THE LAWS: TableWrites, walked.
-/
import Derived.Test.YtaggpldkgbjklaaTWrites
import Derived.StillTailTactics
import Derived.Test.YtaggpldkgbjklaaTRound
namespace Go.Proofs.Ytaggpldkgbjklaa
open Go.RowKit Go.Maps Go.WideMaps Go.Shelf Go.Proofs.Ytaggpldkgbjklaa.Tb
attribute [local go_sem] Oper.semAt_some

section
variable {w w' : World}

/-- what goes over a table of texts -/
theorem all_si (tp : Option Addr) (w : World) : Calls Try.prog 33 #[.pointer tp] w fun r w' => ∃ B1 B2, r = .returned (.func (.func 142) #[] #[.pointer (some ⟨B2, 0, none⟩)]) ∧ w.heap.size ≤ B1 ∧ w.heap.size ≤ B2 ∧
    w'.cell? ⟨B2, 0, none⟩ = some (.func (.func 92) #[] #[.pointer (some ⟨B1, 0, none⟩)]) ∧ w'.cell? ⟨B1, 0, none⟩ = some (.pointer tp) ∧ Turn (fun _ => False) w w' := by
  refine (si.tall_any tp w).mono ?_
  rintro r w' ⟨rfl, rfl⟩
  refine ⟨w.heap.size, w.heap.size + 1, rfl, Nat.le_refl _, Nat.le_succ _, ?_, ?_, (turnBox w _).trans (turnBox _ _) (fun _ _ q => q)⟩
  · have h := cell_new (w.alloc (.cells #[.pointer tp] 50)) #[.func (.func 92) #[] #[.pointer (some ⟨w.heap.size, 0, none⟩)]] 70 0
    rw [World.size_alloc] at h
    exact h
  · exact turn_cell (turnBox _ _) (cell_new w #[.pointer tp] 50 0)

/-- what All laid -/
def Seqs (B1 B2 tp : Nat) (W : World) : Prop := W.cell? ⟨B2, 0, none⟩ = some (.func (.func 92) #[] #[.pointer (some ⟨B1, 0, none⟩)]) ∧ W.cell? ⟨B1, 0, none⟩ = some (.pointer (some ⟨tp, 0, none⟩))

theorem Seqs.kept {B1 B2 tp n : Nat} {W W' : World} {row : Option Nat} (h : Seqs B1 B2 tp W) (hg : W.grownBy W' row) (h1 : B1 < n) (h2 : B2 < n) (hr : ∀ r, row = some r → n ≤ r) : Seqs B1 B2 tp W' := by
  have ht : Turn (fun b => row = some b) W W' := (Turn.refl _ W).grown hg (fun k e => Or.inl e)
  exact ⟨turned_cell h.1 ht (fun e => by have := hr _ e; omega), turned_cell h.2 ht (fun e => by have := hr _ e; omega)⟩

/-- the result lies in a box -/
theorem results_writes {tmps : Array Value} {g : Nat} {b : Bool} (hp : tmps.getD 6 undef = .pointer (some ⟨g, 0, none⟩)) (hc : w.cell? ⟨g, 0, none⟩ = some (.bool b)) : (results Try.f5 tmps).run Try.prog w = .ok (.bool b) w := by
  have hp' : tmps[6]?.getD undef = .pointer (some ⟨g, 0, none⟩) := by simpa using hp
  have hr : Try.f5.results = #[.cell 6 4] := by kernel_rfl
  simp only [results, hr]
  simp [hp', asAddr]
  go_simp

theorem set_end {w0 W : World} {R : Nat} {rb : Bool} {o : Obj} (h : Turn (fun _ => False) w0 W) (hR : Boxed W R 4 (.bool rb)) (hn : w0.heap.size ≤ R) :
    ((W.alloc o).setCell ⟨R, 0, none⟩ (.bool true)).cell? ⟨R, 0, none⟩ = some (.bool true) ∧ Turn (fun _ => False) w0 ((W.alloc o).setCell ⟨R, 0, none⟩ (.bool true)) :=
  ⟨((hR.alloc o).set (.bool true)).cell, (h.alloc o).setCell (p := ⟨R, 0, none⟩) (Or.inr hn) _⟩

/-- the end, behind two goings over -/
theorem two_marks {w0 W : World} {R D D2 : Nat} {rb : Bool} (h : Turn (fun _ => False) w0 W) (hn : w0.heap.size ≤ R) (hR : Boxed W R 4 (.bool rb)) (hD : W.heap[D]? = some (.deferred (some []))) (hD2 : W.heap[D2]? = some (.deferred (some []))) (hn1 : w0.heap.size ≤ D) (hlt : D < D2) :
    (W.setCell ⟨R, 0, none⟩ (.bool true)).heap[D2]? = some (.deferred (some [])) ∧ ((W.setCell ⟨R, 0, none⟩ (.bool true)).putObj D2 (.deferred none)).heap[D]? = some (.deferred (some [])) ∧
      (((W.setCell ⟨R, 0, none⟩ (.bool true)).putObj D2 (.deferred none)).putObj D (.deferred none)).cell? ⟨R, 0, none⟩ = some (.bool true) ∧ Turn (fun _ => False) w0 (((W.setCell ⟨R, 0, none⟩ (.bool true)).putObj D2 (.deferred none)).putObj D (.deferred none)) := by
  have hk : KeepsOthers W (W.setCell ⟨R, 0, none⟩ (.bool true)) := KeepsOthers.setCell _ _ _
  have a1 := hk.same _ _ hD2 rfl
  have a2 := hk.same _ _ hD rfl
  have hRh : W.heap[R]? = some (.cells #[.bool rb] 4 (0, 0)) := hR
  have n1 : R ≠ D := fun e => by rw [e, hD] at hRh; cases hRh
  have n2 : R ≠ D2 := fun e => by rw [e, hD2] at hRh; cases hRh
  have t1 : Turn (fun _ => False) w0 (W.setCell ⟨R, 0, none⟩ (.bool true)) := h.setCell (p := ⟨R, 0, none⟩) (Or.inr hn) _
  have c1 := (hR.set (.bool true)).cell
  have g1 := grownBy_putObj' (W.setCell ⟨R, 0, none⟩ (.bool true)) D2 (.deferred none)
  have g2 := grownBy_putObj' ((W.setCell ⟨R, 0, none⟩ (.bool true)).putObj D2 (.deferred none)) D (.deferred none)
  refine ⟨a1, (World.putObj_heap_other (by omega)).trans a2, ?_, (t1.grown g1 (fun k e => by cases e; exact Or.inr (by omega))).grown g2 (fun k e => by cases e; exact Or.inr hn1)⟩
  have c2 := turned_cell c1 ((Turn.refl (fun b => some D2 = some b) _).grown g1 (fun k e => Or.inl e)) (fun e => by cases e; exact n2 rfl)
  exact turned_cell c2 ((Turn.refl (fun b => some D = some b) _).grown g2 (fun k e => Or.inl e)) (fun e => by cases e; exact n1 rfl)

/-- ahead of the table -/
structure Pre (w0 W : World) (M : Nat) (vm : Value) (stop : Int) : Prop where
  bm : Boxed W M 48 vm
  bs : Boxed W (M + 1) 3 (intV stop)
  br : ∃ b : Bool, Boxed W (M + 2) 4 (.bool b)
  turn : Turn (fun _ => False) w0 W
  o1 : w0.heap.size ≤ M

theorem Pre.same {w0 W W' : World} {M : Nat} {vm : Value} {stop : Int} (h : Pre w0 W M vm stop) (ht : Turn (fun _ => False) W W') : Pre w0 W' M vm stop := by
  obtain ⟨b, hb⟩ := h.br
  exact ⟨boxed_same h.bm ht, boxed_same h.bs ht, ⟨b, boxed_same hb ht⟩, h.turn.trans ht (fun _ _ q => q), h.o1⟩

set_option maxRecDepth 100000 in
set_option maxHeartbeats 4000000 in
theorem writes_walk {va vb : Value} {l m : List Op3} (ha : OpsR w va l) (hb : OpsR w vb m) (hl : l.length ≤ 9223372036854775807) (hm : m.length ≤ 9223372036854775807) (stop : Int) :
    Calls Try.prog 5 #[va, vb, .int .i64 stop] w fun r w' => r = .returned (.bool true) ∧ Turn (fun _ => False) w w' := by
  have HA := Lib.hid ha
  have HB := Lib.hid hb
  obtain ⟨sa, capa, rfl, hca⟩ := ha
  obtain ⟨sb, capb, rfl, hcb⟩ := hb
  have HCA := Lib.hid hca
  have HCB := Lib.hid hcb
  clear hca hcb
  refine (callsIn_wide (n := 10)).1 ?_
  refine callsIn_of_wp_marks Try.func5 rfl trivial ?_ rfl
  simp only [Try.ntmps5, List.size_toArray, List.length_cons, List.length_nil, Nat.reduceAdd, Nat.reduceSub, Array.replicate_succ, Array.replicate_zero, List.push_toArray, List.append_toArray, List.nil_append, List.cons_append]
  refine wpIn_wide.2 ?_
  go_wp2_with fail
  go_at_call 19
  refine (first_any _).mono ?_
  rintro r w1 ⟨rfl, ht1⟩
  obtain ⟨M, hM⟩ : ∃ M, w.heap.size = M := ⟨_, rfl⟩
  have hbm := boxed_same (((Boxed.new w 48 (.slice sb m.length capb)).alloc (.cells #[.int .i64 stop] 3)).alloc (.cells #[.bool false] 4)) ht1
  have hbs := Boxed.new (w.alloc (.cells #[.slice sb m.length capb] 48)) 3 (.int .i64 stop)
  have hbr := Boxed.new ((w.alloc (.cells #[.slice sb m.length capb] 48)).alloc (.cells #[.int .i64 stop] 3)) 4 (.bool false)
  rw [World.size_alloc] at hbs hbr
  rw [World.size_alloc] at hbr
  have hbs := boxed_same (hbs.alloc (.cells #[.bool false] 4)) ht1
  have hbr := boxed_same hbr ht1
  have hT1 : Turn (fun _ => False) w w1 := (((turnBox w _).trans (turnBox _ _) (fun _ _ q => q)).trans (turnBox _ _) (fun _ _ q => q)).trans ht1 (fun _ _ q => q)
  rw [hM] at hbm hbs hbr ⊢
  have H0 := Lib.hid (show Pre w w1 M (.slice sb m.length capb) stop from ⟨hbm, hbs, ⟨_, hbr⟩, hT1, Nat.le_of_eq hM⟩)
  have HMM := Lib.hid hM
  clear hbm hT1 ht1 hM
  clear hbs
  clear hbr
  clear hbs
  clear hbr
  go_wp2_with fail
  go_at_call 20
  refine (few_any (HA.out.later H0.out.turn) hl).mono ?_
  rintro r w2 ⟨b1, rfl, hb1, hk2⟩
  have H1 := Lib.hid (H0.out.same (hk2.turn _))
  clear hk2 H0
  cases b1 with
  | false =>
    clear hb1
    have c0 := H1.out.bm.cell
    go_wp2_with fail
    go_at_call 21
    refine (tab_new _).mono ?_
    rintro r w3 ⟨tp, rfl, htab⟩
    obtain ⟨rb, hrb⟩ := (H1.out.same htab.turn).br
    have hra := hrb.alloc (.cells #[.pointer (some ⟨tp, 0, none⟩)] 50)
    have c2 : (w3.alloc (.cells #[.pointer (some ⟨tp, 0, none⟩)] 50)).cell? ⟨M + 1 + 1, 0, none⟩ = some (.bool rb) := hra.cell
    have f2 : (w3.alloc (.cells #[.pointer (some ⟨tp, 0, none⟩)] 50)).frozen? ⟨M + 1 + 1, 0, none⟩ = false := hra.frozen
    have HTF := Lib.hid (H1.out.turn.trans htab.turn (fun _ _ q => q))
    have HO1 := Lib.hid H1.out.o1
    have HSE := Lib.hid (set_end (o := .cells #[.pointer (some ⟨tp, 0, none⟩)] 50) HTF.out hrb (Nat.le_trans HO1.out (by omega)))
    clear htab hrb hra
    go_wp2_with fail
    exact ⟨_, results_writes (g := M + 1 + 1) rfl HSE.out.1, rfl, HSE.out.2⟩
  | true =>
    have hlen := hb1 rfl
    clear hb1
    have c0 := H1.out.bm.cell
    go_wp2_with fail
    go_at_call 20
    refine (few_any (HB.out.later H1.out.turn) hm).mono ?_
    rintro r w3 ⟨b2, rfl, hb2, hk3⟩
    have H2 := Lib.hid (H1.out.same (hk3.turn _))
    clear hk3 H1 c0
    cases b2 with
    | false =>
      clear hb2
      go_wp2_with fail
      go_at_call 21
      refine (tab_new _).mono ?_
      rintro r w4 ⟨tp, rfl, htab⟩
      obtain ⟨rb, hrb⟩ := (H2.out.same htab.turn).br
      have hra := hrb.alloc (.cells #[.pointer (some ⟨tp, 0, none⟩)] 50)
      have c2 : (w4.alloc (.cells #[.pointer (some ⟨tp, 0, none⟩)] 50)).cell? ⟨M + 1 + 1, 0, none⟩ = some (.bool rb) := hra.cell
      have f2 : (w4.alloc (.cells #[.pointer (some ⟨tp, 0, none⟩)] 50)).frozen? ⟨M + 1 + 1, 0, none⟩ = false := hra.frozen
      have HTF := Lib.hid (H2.out.turn.trans htab.turn (fun _ _ q => q))
      have HO1 := Lib.hid H2.out.o1
      have HSE := Lib.hid (set_end (o := .cells #[.pointer (some ⟨tp, 0, none⟩)] 50) HTF.out hrb (Nat.le_trans HO1.out (by omega)))
      clear htab hrb hra
      go_wp2_with fail
      exact ⟨_, results_writes (g := M + 1 + 1) rfl HSE.out.1, rfl, HSE.out.2⟩
    | true =>
      have hlen2 := hb2 rfl
      clear hb2
      go_wp2_with fail
      go_at_call 21
      refine (tab_new _).mono ?_
      rintro r w4 ⟨tp, rfl, htab⟩
      have hbr4 := (H2.out.same htab.turn)
      have hst : St w ((w4.alloc (.cells #[.pointer (some ⟨tp, 0, none⟩)] 50)).alloc (.cells #[.slice none 0 0] 52)) M tp w4.heap.size (w4.heap.size + 1) (.slice sb m.length capb) stop .nil 0 [] := by
        obtain ⟨root, a1, a2⟩ := htab.at_
        have hlt : tp < w4.heap.size := (Array.getElem?_eq_some_iff.1 a1).1
        have hnw := htab.new
        obtain ⟨rb, hrb⟩ := H2.out.br
        obtain ⟨rb', hrb'⟩ := hbr4.br
        have hlt2 := hrb.lt
        have hbt := Boxed.new w4 50 (.pointer (some ⟨tp, 0, none⟩))
        have hbn := Boxed.new (w4.alloc (.cells #[.pointer (some ⟨tp, 0, none⟩)] 50)) 52 (.slice none 0 0)
        rw [World.size_alloc] at hbn
        have h2 : Turn (fun _ => False) w4 ((w4.alloc (.cells #[.pointer (some ⟨tp, 0, none⟩)] 50)).alloc (.cells #[.slice none 0 0] 52)) := (turnBox w4 _).trans (turnBox _ _) (fun _ _ q => q)
        refine ⟨boxed_same hbr4.bm h2, boxed_same hbr4.bs h2, ⟨rb', boxed_same hrb' h2⟩, hbt.alloc _, ⟨0, _, hbn, World.ownsRow_nil _ _ _ _⟩, ⟨⟨root, a1.later h2 (fun q => q), a2.later h2⟩, ?_, hbr4.turn.trans h2 (fun _ _ q => q)⟩, H2.out.o1, by omega, hlt, by omega⟩
        have := H2.out.turn.size
        omega
      have HST := Lib.hid hst
      clear hst hbr4 htab H2 HMM
      go_wp2_with fail
      generalize w4.heap.size = T at HST ⊢
      go_loopw [11] (fun i wr => ∃ k : Nat, k ≤ l.length ∧ i = .int .i64 k ∧ St w wr M tp T (T + 1) (.slice sb m.length capb) stop (trOf (l.take k)) k (trOf (l.take k)).list) (fun i _ => l.length - (intOf i).toNat)
      case atStart => exact ⟨0, Nat.zero_le _, rfl, HST.out⟩
      case round =>
        obtain ⟨k, hk, rfl, hst⟩ := hrel
        clear HST
        by_cases hlt : k < l.length
        · obtain ⟨b, o, e1, x1⟩ := HCA.out (by omega)
          subst e1
          have hat := (x1 k l[k] (List.getElem?_eq_getElem hlt)).later hst.tab.turn
          obtain ⟨c0, c1, c2, c3⟩ := Op3.cells hat
          have ct := hst.bt.cell
          obtain ⟨base, vn, hbn, hown⟩ := hst.bn
          have cn := hbn.cell
          have fn := hbn.frozen
          have i2 : (0 : Int) ≤ (k : Int) := by omega
          have i3 : (k : Int) < (l.length : Int) := by omega
          obtain ⟨z1, z2, z3⟩ := trOf_facts (l.take k) .nil trivial List.Pairwise.nil
          have hnext := trOf_more hlt
          have HNEXT := Lib.hid hnext
          have hn0 : (Tr.nil : Tr (List UInt8) Int).count = 0 := rfl
          have hlk : (l.take k).length = k := by rw [List.length_take]; omega
          change (trOf (l.take k)).Sized at z1
          change Rises (trOf (l.take k)).list at z2
          change (trOf (l.take k)).count ≤ _ at z3
          obtain ⟨t, ht⟩ : ∃ t, trOf (l.take k) = t := ⟨_, rfl⟩
          obtain ⟨x, hx⟩ : ∃ x, l[k] = x := ⟨_, rfl⟩
          rw [ht] at z1 z2 z3 hst
          rw [ht, hx] at hnext
          rw [hx] at c1 c2
          have hatw := (x1 k x (by rw [← hx]; exact List.getElem?_eq_getElem hlt))
          have HAT := Lib.hid hatw
          have HNEXT := Lib.hid hnext
          have HP := Lib.hid (fun (W : World) (hW : Like wr W) => (hst.same (hW.turn _)).put z1 (by omega) (by omega) x.key x.v)
          have HZ2 := Lib.hid z2
          have HZ3 := Lib.hid (show t.list.length ≤ 1000 by rw [← z1.count]; omega)
          clear x1 hat hatw hnext c0 c3 z2 z1 z3 hlk hn0 hst hbn hown cn fn
          go_wp2_with fail
          go_region_held3 (fun w' => w'.cell? ⟨T, 0, none⟩ = some (.pointer (some ⟨tp, 0, none⟩)) ∧ w'.cell? ⟨b, o + k * 4 + 1, none⟩ = some (.int .i64 x.v) ∧ w'.cell? ⟨b, o + k * 4 + 2, none⟩ = some (.string ⟨x.key.toArray⟩)) (first | (exact ⟨ct', c1', c2'⟩) | (exact ⟨ct, c1, c2⟩) | go_keep) (first | (go_at_call 22; refine (HP.out _ (like_drew _)).mono ?_; rintro r wa ⟨rfl, hsa, _⟩; have ct' := hsa.bt.cell; obtain ⟨_, c1', c2', _⟩ := Op3.cells (HAT.out.later hsa.tab.turn); have HSA := Lib.hid hsa; clear hsa HP))
          obtain ⟨base, vn, hbn, hown⟩ := HSA.out.bn
          have cn := hbn.cell
          have HBN := Lib.hid hbn
          have HP2 := Lib.hid (fun (W : World) (hW : Like wa W) => lput_any (PairsR.of_own (ownsRow_turned hown (hW.turn _) (fun _ _ q => q))) HZ2.out HZ3.out x.key x.v)
          clear hbn hown
          go_wp2_with fail
          go_still_tail 11, (by kernel_rfl)
          change wpList _ _ _ _ _ wa.drew
          go_wp2_with (go_at_call 23; refine (HP2.out _ (like_drew _)).mono ?_; rintro r wb ⟨v', rfl, hown', hsb⟩; obtain ⟨p', cap', rfl⟩ := own_shape hown'; have hsb2 : Turn (fun _ => False) wa wb := ((like_drew wa).turn _).trans hsb (fun _ _ q => q); have cn' := turn_cell hsb2 cn; have hfn := (boxed_same HBN.out hsb2).frozen; have HSB := Lib.hid ((HSA.out.same hsb2).setNow hown'); clear hown' hsb HP2)
          refine ⟨⟨k + 1, by omega, by go_num, ?_⟩, ?_⟩
          · have h := HSB.out
            rw [HNEXT.out, put_list HZ2.out]
            exact h
          · simp [intOf]; omega
        · have hk0 : k = l.length := by omega
          subst hk0
          rw [List.take_length] at hst
          obtain ⟨z1, z2, z3⟩ := trOf_facts l .nil trivial List.Pairwise.nil
          have hn0 : (Tr.nil : Tr (List UInt8) Int).count = 0 := rfl
          change (trOf l).Sized at z1
          change Rises (trOf l).list at z2
          change (trOf l).count ≤ _ at z3
          have HZ1 := Lib.hid z1
          have HZ2 := Lib.hid z2
          have HZ3 := Lib.hid (show (trOf l).count ≤ 200 by omega)
          have HZ4 := Lib.hid (show (trOf l).list.length ≤ 200 by rw [← z1.count]; omega)
          generalize trOf l = t at hst HZ1 HZ2 HZ3 HZ4
          have hv : l.length ≤ 200 := hlen
          have ct := hst.bt.cell
          have HS0 := Lib.hid hst
          clear hst hlt hk z1 z2 z3 hn0
          go_wp2_with fail
          go_at_call 33
          refine (all_si _ _).mono ?_
          rintro r w5 ⟨B1, B2, rfl, hB0, hB2, c2, c1, ht5⟩
          have HS5 := Lib.hid (HS0.out.same ht5)
          have HC1 := Lib.hid c1
          have HC2 := Lib.hid c2
          clear HS0 ct ht5 c1 c2
          go_wp2_with fail
          have hb6 := Boxed.new w5 3 (.int .i64 0)
          have hs6 := HS5.out.same (turnBox w5 (.cells #[.int .i64 0] 3))
          have hN5 : T + 1 < w5.heap.size := by obtain ⟨_, _, h, _⟩ := HS5.out.bn; exact h.lt
          have hc1 := turn_cell (turnBox w5 (.cells #[.int .i64 0] 3)) HC1.out
          have hc2 := turn_cell (turnBox w5 (.cells #[.int .i64 0] 3)) HC2.out
          obtain ⟨w6, hw6⟩ : ∃ w6, w5.alloc (.cells #[.int .i64 0] 3) = w6 := ⟨_, rfl⟩
          rw [hw6] at hb6 hs6 hc1 hc2 ⊢
          have hB1 : B1 < w5.heap.size ∧ B2 < w5.heap.size := ⟨World.block_lt_of_cell? _ _ HC1.out, World.block_lt_of_cell? _ _ HC2.out⟩
          generalize w5.heap.size = nb at hb6 hN5 hB1 ⊢
          have HBN := Lib.hid hB1
          obtain ⟨root, a1, a2⟩ := hs6.tab.at_
          have HC1 := Lib.hid hc1
          have HC2 := Lib.hid hc2
          have HNB := Lib.hid hb6
          have HS6 := Lib.hid hs6
          have HN5 := Lib.hid hN5
          have HA1 := Lib.hid a1
          have HA2 := Lib.hid a2
          have HBL := Lib.hid (show B1 < w6.heap.size ∧ B2 < w6.heap.size from ⟨World.block_lt_of_cell? _ _ hc1, World.block_lt_of_cell? _ _ hc2⟩)
          have HSEQ1 := Lib.hid hb6
          clear hb6 hs6 hN5 hc1 hc2 a1 a2 HS5 hw6 hB0 hB1 hB2
          refine (wpIn_wide (n := 10)).1 ?_
          refine rangeFunc_brk rfl (by decide) (gf := 142) (lb := #[.pointer (some ⟨B2, 0, none⟩)]) rfl trivial (enters_of Try.func142 (by kernel_rfl) rfl) (si.tall_stops (n := 10 - 1) HC2.out HC1.out HA1.out HA2.out) si.KeepsN.trans si.keepsN_b (Below.refl _ _) (fun _ => rfl)
            2 (fun _ _ h => h) (fun pre W => (St w W M tp T (T + 1) (.slice sb m.length capb) stop t l.length t.list ∧ Seqs B1 B2 tp W) ∧ Boxed W nb 3 (.int .i64 (pre.length : Nat))) (fun W => St w W M tp T (T + 1) (.slice sb m.length capb) stop t l.length t.list ∧ Seqs B1 B2 tp W) ?hI ?hI2 ?h0 ?a1 ?assign ?body (fun _ _ h => h.1) ?done
          case hI =>
            rintro pre W W' row ⟨⟨hs, hq⟩, hb⟩ hg hr
            have h6 := HS6.out.tab.turn.size
            have hlt := HNB.out.lt
            exact ⟨⟨hs.grown hg (fun r e => ⟨Nat.le_trans h6 (hr r e).1, (hr r e).2⟩), hq.kept hg HBL.out.1 HBL.out.2 (fun r e => (hr r e).1)⟩, hb.kept hg (fun e => by have := (hr nb e.symm).1; omega)⟩
          case hI2 =>
            rintro pre W W' row ⟨hs, hq⟩ hg hr
            have h6 := HS6.out.tab.turn.size
            exact ⟨hs.grown hg (fun r e => ⟨Nat.le_trans h6 (hr r e).1, (hr r e).2⟩), hq.kept hg HBL.out.1 HBL.out.2 (fun r e => (hr r e).1)⟩
          case h0 => exact ⟨⟨HS6.out, HC2.out, HC1.out⟩, HNB.out⟩
          case assign =>
            intro l x W K hK
            gi_wp2
            exact hK
          case body =>
            rintro lp pre x W ⟨⟨hs, hq⟩, hb⟩ hlt
            have h4 := HZ4.out
            have h5 := HN5.out
            have o2 := hs.o2
            have o3 := hs.o3
            obtain ⟨n, hn⟩ : ∃ n, pre.length = n := ⟨_, rfl⟩
            have hn2 : (pre ++ [x]).length = n + 1 := by rw [List.length_append, hn]; rfl
            rw [hn] at hb hlt
            have tset : Turn (fun b => b = nb) W (W.setCell ⟨nb, 0, none⟩ (.int .i64 ((n : Int) + 1))) := Turn.setCell (Turn.refl (fun b => b = nb) W) (p := ⟨nb, 0, none⟩) (Or.inl rfl) _
            have HS' := Lib.hid (hs.box tset hb h5)
            have HQ' := Lib.hid (show Seqs B1 B2 tp _ from ⟨turned_cell hq.1 tset (by have := HBN.out.2; omega), turned_cell hq.2 tset (by have := HBN.out.1; omega)⟩)
            have hb' := hb.set (.int .i64 ((n : Int) + 1))
            have HKN := Lib.hid (si.KeepsN.turn tset (fun b cs fr q e => by subst q; have h : W.heap[b]? = some (.cells #[.int .i64 (n : Int)] 3 (0, 0)) := hb; rw [h] at e; cases e))
            have ca := hb.cell
            have fa := hb.frozen
            have ca' := hb'.cell
            have cs0 : W.cell? ⟨M + 1, 0, none⟩ = some (.int .i64 stop) := hs.bs.cell
            have cs' : (W.setCell ⟨nb, 0, none⟩ (.int .i64 ((n : Int) + 1))).cell? ⟨M + 1, 0, none⟩ = some (.int .i64 stop) := HS'.out.bs.cell
            have hne : ¬ (M + 1 = nb) := by omega
            have HB' := Lib.hid hb'
            have i1 : (0 : Int) ≤ (n : Int) := by omega
            have i2 : (n : Int) + 1 ≤ 1000 := by omega
            clear hb' hb hs hq tset hn HSEQ1
            by_cases he : (n : Int) + 1 = stop
            · have e1 : ((n : Int) + 1 == stop) = true := by simp [he]
              clear he
              gi_wp2
              exact ⟨KeepsOthers.setCell _ _ _, rfl, HS'.out, HQ'.out⟩
            · have e1 : ((n : Int) + 1 == stop) = false := by simp [he]
              clear he
              gi_wp2
              refine ⟨KeepsOthers.setCell _ _ _, HKN.out, ⟨HS'.out, HQ'.out⟩, ?_⟩
              rw [hn2]
              exact HB'.out
          case done =>
            rintro D W7 hD ⟨hs7, hq7⟩ hK7
            have HK7 := Lib.hid hK7
            have HDN := Lib.hid (show w.heap.size ≤ D from Nat.le_trans HS6.out.tab.turn.size hD)
            have HS7 := Lib.hid hs7
            have HQ7 := Lib.hid hq7
            clear hK7 hs7 hq7 hD HC1 HC2 HNB HS6 HA1 HA2 HBN HSEQ1 HBL HN5 root
            go_wp2_with fail
            have hb8 := Boxed.new W7 3 (.int .i64 0)
            have hs8 := HS7.out.same (turnBox W7 (.cells #[.int .i64 0] 3))
            have hN8 : T + 1 < W7.heap.size := by obtain ⟨_, _, h, _⟩ := HS7.out.bn; exact h.lt
            have hc1 := turn_cell (turnBox W7 (.cells #[.int .i64 0] 3)) HQ7.out.2
            have hc2 := turn_cell (turnBox W7 (.cells #[.int .i64 0] 3)) HQ7.out.1
            have hk8 := turn_heap (turnBox W7 (.cells #[.int .i64 0] 3)) HK7.out
            obtain ⟨w8, hw8⟩ : ∃ w8, W7.alloc (.cells #[.int .i64 0] 3) = w8 := ⟨_, rfl⟩
            rw [hw8] at hb8 hs8 hc1 hc2 hk8 ⊢
            generalize W7.heap.size = ib at hb8 hN8 ⊢
            obtain ⟨root, a1, a2⟩ := hs8.tab.at_
            have HC1 := Lib.hid hc1
            have HC2 := Lib.hid hc2
            have HNB := Lib.hid hb8
            have HS8 := Lib.hid hs8
            have HN8 := Lib.hid hN8
            have HA1 := Lib.hid a1
            have HA2 := Lib.hid a2
            have HK8 := Lib.hid hk8
            clear hb8 hs8 hN8 hc1 hc2 a1 a2 hk8 HS7 HQ7 hw8
            refine (wpIn_wide (n := 10)).1 ?_
            refine wpIn_rangeFunc_ownF rfl (by decide) (gf := 142) (lb := #[.pointer (some ⟨B2, 0, none⟩)]) rfl trivial (enters_of Try.func142 (by kernel_rfl) rfl) (si.tall_stops (n := 10 - 1) HC2.out HC1.out HA1.out HA2.out) si.KeepsN.trans si.keepsN_b (Below.refl _ _) (fun _ => rfl)
              (fun pre W => Mid2 w W M tp T (T + 1) (.slice sb m.length capb) stop t.list ib D pre) (fun c pre W => ¬ pre <+: t.list) ?kI ?kIx ?k0 ?k1 ?kassign ?kbody ?kdone ?kstop
            case kIx => exact fun _ _ _ _ _ h _ _ => h
            case kI =>
              intro pre W W' row h hg hr
              have h6 := HS8.out.tab.turn.size
              have hlt := HNB.out.lt
              have hlt2 := (Array.getElem?_eq_some_iff.1 HK8.out).1
              exact Mid2.grown h hg (fun r e => ⟨Nat.le_trans h6 (hr r e).1, (hr r e).2⟩) (fun e => by have := (hr ib e.symm).1; omega) (fun e => by have := (hr D e).1; omega)
            case k0 => exact ⟨rfl, ⟨t, l.length, HS8.out, HZ1.out, by have := HZ3.out; simp; omega, by simp; omega⟩, HNB.out, HK8.out⟩
            case kassign =>
              intro l x W K hK
              gi_wp2
              exact hK
            case kstop =>
              intro D2 c pre W hD2 hpre h _
              exact absurd hpre h
            case kbody =>
              intro lp pre x W hmid hlt
              obtain ⟨hfront, hhalf⟩ := hmid
              obtain ⟨tj, vj, hs, hz, hcn, hvj⟩ := hhalf.st
              have ci := hhalf.box.cell
              have fi := hhalf.box.frozen
              obtain ⟨base, vn, hbn, hown⟩ := hs.bn
              obtain ⟨spn, capn, rfl, hcells0⟩ := PairsR.of_own hown
              obtain ⟨b2, o2, e2, hcells⟩ := hcells0 (by omega)
              subst e2
              obtain ⟨y, hy⟩ : ∃ y, t.list[pre.length]? = some y := ⟨_, List.getElem?_eq_getElem hlt⟩
              obtain ⟨cy0, cy1⟩ := hcells _ _ hy
              have cn := hbn.cell
              obtain ⟨rb, hrb⟩ := hs.br
              have cr : W.cell? ⟨M + 1 + 1, 0, none⟩ = some (.bool rb) := hrb.cell
              have fr : W.frozen? ⟨M + 1 + 1, 0, none⟩ = false := hrb.frozen
              have cm := hs.bm.cell
              have ctb := hs.bt.cell
              have i0 : (0 : Int) ≤ (pre.length : Int) := by omega
              have i1 : (pre.length : Int) < (t.list.length : Int) := by omega
              have h4 := HZ4.out
              have i9 : (pre.length : Int) + 1 ≤ 1000 := by omega
              have HHALF := Lib.hid hhalf
              have HFRONT := Lib.hid hfront
              have HY := Lib.hid hy
              have HST := Lib.hid hs
              have HZ := Lib.hid hz
              clear hhalf hfront hbn hown hcells hcells0 hrb hs h4 hy hz
              by_cases heq : y = x
              · subst heq
                have e1 : (y.1 != y.1) = false := by simp
                have e3 : (y.2 != y.2) = false := by simp
                clear cr fr
                by_cases hm2 : pre.length < m.length
                · obtain ⟨bo, oo, e4, x1⟩ := HCB.out (by omega)
                  subst e4
                  obtain ⟨q, hq⟩ : ∃ q, m[pre.length]? = some q := ⟨_, List.getElem?_eq_getElem hm2⟩
                  have hat := (x1 _ _ hq).later HST.out.tab.turn
                  obtain ⟨d0, d1, d2, d3⟩ := Op3.cells hat
                  have i2 : (pre.length : Int) < (m.length : Int) := by omega
                  clear x1 hat d3
                  by_cases hk1 : q.kind = 1
                  · have e5 : (q.kind == 1) = true := by simp [hk1]
                    clear hk1
                    gi_wp2_with fail
                    have HP := Lib.hid (HST.out.same ((like_drew W).turn _) |>.delete HZ.out (by omega) (by omega) q.key)
                    refine round_still_tail 6 (fun ⟨_, _, h⟩ => h) (by kernel_rfl) (by kernel_rfl) (by kernel_rfl) ?_
                    simp only [List.take_succ_cons, List.take_zero, List.drop_succ_cons, List.drop_zero]
                    repeat still_step
                    try refine wpStill_nil ?_
                    change wpList _ _ _ _ _ W.drew
                    go_wp2_with (go_at_call 25; refine HP.out.mono ?_; rintro r wc ⟨⟨rb2, rfl⟩, hsc, htc⟩)
                    have ht : Turn (fun b => b = tp) W wc := ((like_drew W).turn _).trans htc (fun _ _ q => q)
                    obtain ⟨k1, k2, k3⟩ := Half.wrote (c' := 200 + pre.length + 1) HHALF.out HN8.out hsc (sized_dropT HZ.out q.key).1 (by have := (sized_dropT HZ.out q.key).2; omega) (by omega) ht
                    have HTK := Lib.hid (Half.tick k3 HN8.out HFRONT.out HY.out)
                    have ci' := k3.box.cell
                    have fi' := k3.box.frozen
                    have K1 := Lib.hid k1
                    have K2 := Lib.hid k2
                    clear k1 k2 k3 ht htc hsc HP
                    gi_wp2
                    exact ⟨K1.out.trans HTK.out.1, K2.out.trans HTK.out.2.1, HTK.out.2.2⟩
                  · have e5 : (q.kind == 1) = false := by simp [hk1]
                    clear hk1
                    gi_wp2_with fail
                    have HP := Lib.hid (HST.out.same ((like_drew W).turn _) |>.put HZ.out (by omega) (by omega) q.key q.v)
                    refine round_still_tail 11 (fun ⟨_, _, h⟩ => h) (by kernel_rfl) (by kernel_rfl) (by kernel_rfl) ?_
                    simp only [List.take_succ_cons, List.take_zero, List.drop_succ_cons, List.drop_zero]
                    repeat still_step
                    try refine wpStill_nil ?_
                    change wpList _ _ _ _ _ W.drew
                    go_wp2_with (go_at_call 22; refine HP.out.mono ?_; rintro r wc ⟨rfl, hsc, htc⟩)
                    have ht : Turn (fun b => b = tp) W wc := ((like_drew W).turn _).trans htc (fun _ _ q => q)
                    obtain ⟨k1, k2, k3⟩ := Half.wrote (c' := 200 + pre.length + 1) HHALF.out HN8.out hsc (sized_put HZ.out q.key q.v) (by have := count_put HZ.out q.key q.v; omega) (by omega) ht
                    have HTK := Lib.hid (Half.tick k3 HN8.out HFRONT.out HY.out)
                    have ci' := k3.box.cell
                    have fi' := k3.box.frozen
                    have K1 := Lib.hid k1
                    have K2 := Lib.hid k2
                    clear k1 k2 k3 ht htc hsc HP
                    gi_wp2
                    exact ⟨K1.out.trans HTK.out.1, K2.out.trans HTK.out.2.1, HTK.out.2.2⟩
                · have i2 : ¬ (pre.length : Int) < (m.length : Int) := by omega
                  clear hm2
                  have HTK := Lib.hid (Half.tick (HHALF.out.more (by omega)) HN8.out HFRONT.out HY.out)
                  gi_wp2
                  exact HTK.out
              · have HNP := Lib.hid (show ¬ (pre ++ [x] <+: t.list) from by
                  rintro ⟨r, hr⟩
                  apply heq
                  have h := HY.out
                  rw [← hr] at h
                  simp at h
                  exact h.symm)
                by_cases hk0 : y.1 = x.1
                · have hk2 : ¬ y.2 = x.2 := fun q => heq (Prod.ext hk0 q)
                  have e1 : (y.1 != x.1) = false := by simp [hk0]
                  have e3 : (y.2 != x.2) = true := by simp only [bne_iff_ne, ne_eq]; exact hk2
                  clear heq
                  gi_wp2
                  exact ⟨KeepsOthers.setCell _ _ _, HNP.out⟩
                · have e1 : (y.1 != x.1) = true := by simp only [bne_iff_ne, ne_eq]; exact hk0
                  clear heq
                  gi_wp2
                  exact ⟨KeepsOthers.setCell _ _ _, HNP.out⟩
            case kdone =>
              intro D2 xs W9 hD2 hS hmid hK9
              rw [hS] at hmid
              have hhalf := hmid.half
              clear hmid hS
              obtain ⟨tj, vj, hs, _⟩ := hhalf.st
              have ci := hhalf.box.cell
              obtain ⟨base, vn, hbn, hown⟩ := hs.bn
              obtain ⟨pn, capn, rfl⟩ := own_shape hown
              have cn := hbn.cell
              obtain ⟨rb, hrb⟩ := hs.br
              have cr : W9.cell? ⟨M + 1 + 1, 0, none⟩ = some (.bool rb) := hrb.cell
              have fr : W9.frozen? ⟨M + 1 + 1, 0, none⟩ = false := hrb.frozen
              have e1 : ((t.list.length : Int) == (t.list.length : Int)) = true := by simp
              have HEND := Lib.hid (two_marks hs.tab.turn (Nat.le_trans hs.o1 (by omega)) hrb hhalf.mark hK9 HDN.out (Nat.lt_of_lt_of_le (Array.getElem?_eq_some_iff.1 HK8.out).1 hD2))
              clear hs hbn hown hrb hhalf hK9
              go_wp2_with fail
              obtain ⟨x1, x2, x3, x4⟩ := HEND.out
              refine ⟨by simp, .inl ⟨_, _, rfl, run_takeDeferred x1, ?_⟩⟩
              refine ⟨by simp, .inl ⟨_, _, rfl, run_takeDeferred x2, ?_⟩⟩
              exact ⟨_, results_writes (g := M + 1 + 1) rfl x3, rfl, x4⟩
end
end Go.Proofs.Ytaggpldkgbjklaa
