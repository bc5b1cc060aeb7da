/-
  Create.
-/
import Derived.Test.YtjjajnfkngfpjaaGreatDoorOps2
import Derived.Deep.RegionWith
namespace Go.Proofs.YtjjajnfkngfpjaaGreatDoor
open Go.RowKit Go.Maps Go.WideMaps

section
variable {w w' : World} {p : Nat} {S S' : Fsp.Fs} {c c' : Bool} {Q : Nat → Prop} {mo : Option Nat} {pl : List UInt8 → Pl}

theorem len_is (h : RepX w p S c Q mo pl) (ty : TypeId) : (Builtin.len_ #[65] ty #[.map mo]).run Tryz.prog w = .ok (.int .i64 (S.L.length : Nat)) w := by
  cases mo with
  | none =>
    have e : S.L = [] := h.map
    rw [e]
    exact len_nil Tryz.underlying65 ty
  | some mb =>
    obtain ⟨D, hown, hag⟩ := h.map
    rw [← hag.size]
    exact hown.len Tryz.underlying65 ty

theorem wpList_len_run {P : Program} {ops : Array Oper} {rest : List Oper} {o : Oper} {a : Act} {Q : Exit → Act → World → Prop} (hg : o.guard = none) (m : Operand) (t : TypeId) (hop : o.op = Op.call { callee := Callee.builtin Builtin.len, args := #[m], argTypes := #[t] })
    (mo : Option Nat) (n : Int) (hm : a.eval m = .map mo) (hrun : ∀ ty, (Builtin.len_ #[t] ty #[.map mo]).run P w = .ok (.int .i64 n) w) (hK : wpList P ops Q rest (a.put o.dst (.int .i64 n)) w) : wpList P ops Q (o :: rest) a w := by
  refine wpList_plain hg fun K' hK' => ?_
  unfold Oper.wp
  simp [execOp, hop, resolve, invoke, builtin, hm, hrun, Result.andThen]
  exact hK' _ _ hK

theorem turn_cell {a : Addr} {v : Value} (ht : Turn (fun _ => False) w w') (h : w.cell? a = some v) : w'.cell? a = some v :=
  (World.cell?_of_block (ht.block a.block (World.block_lt_of_cell? w a h) (fun e => e))).trans h

theorem cell_alloc {a : Addr} {v : Value} (h : w.cell? a = some v) (o : Obj) : (w.alloc o).cell? a = some v :=
  turn_cell ((Turn.refl _ _).alloc o) h

theorem turn_heap {b : Nat} {o : Obj} (ht : Turn (fun _ => False) w w') (h : w.heap[b]? = some o) : w'.heap[b]? = some o :=
  (ht.block b (Array.getElem?_eq_some_iff.1 h).1 (fun e => e)).trans h

theorem upon_mapUpdate {P : Program} {H : Type} {o : Oper} {a : Act} {next : Act → World → Prop} {Q : Exit → Act → World → Prop} {W : World} {t k e : TypeId} {R : Value → Option (DataW H × List MemPlace)} {b n : Nat} {D : DataW H}
    {key val : Value} {kl : Lit} {d : DataW H} {ps : List MemPlace} (hown : W.ownsMap P k R b n D) (K : Keyed P k) (ht : P.underlying t = some (.map k e)) (hn : n < maxLen) (hkey : keyOf P k key = some kl) (hv : R val = some (d, ps))
    (hK : ∀ W', W'.ownsMap P k R b (n + 1) (D.put kl d) → W.grownBy W' (some b) → next (a.put o.dst undef) W') :
    o.upon P a next Q ((Sem.run P (Instr.mapUpdate t (.map (some b)) key val) W).andThen fun _ w' => Result.ok Next.skip w') := by
  obtain ⟨w', hrun, r1, r2⟩ := hown.update K ht hn hkey hv
  rw [hrun]
  exact hK w' r1 r2

theorem valid_size {l : List UInt8} (h : Fsp.valid l = true) : l.length ≤ 100 := by
  simp only [Fsp.valid, Bool.and_eq_true, decide_eq_true_eq] at h
  omega

set_option maxRecDepth 100000 in
theorem create_early (h : RepX w p S false Q mo pl) (s : ByteArray) (hz : s.size ≤ maxLen) (he : S.down = true ∨ Fsp.valid s.data.toList = false ∨ (Fsp.find S.L s.data.toList).isSome = true ∨ 400 ≤ S.L.length ∨ S.armed = 1) :
    Calls Tryz.prog 38 #[.pointer (some ⟨p, 0, none⟩), .string s] w fun r w' => r = .returned (.int .i64 ((Fsp.create S s.data.toList).2 : Nat)) ∧ Post w p (Fsp.create S s.data.toList).1 Q w' := by
  have hp := Post.same h
  cases hd : S.down with
  | true =>
    have e : Fsp.create S s.data.toList = (S, 5) := by simp [Fsp.create, hd]
    rw [e]; clear e he
    go_enter Tryz.func38, Tryz.ntmps38
    go_wp2_with (go_at_call 44; refine (down_is h hd).mono ?_; rintro r w' ⟨rfl, rfl⟩)
    go_ret
    exact ⟨rfl, hp⟩
  | false =>
    have HD := Lib.hid hd
    cases hv : Fsp.valid s.data.toList with
    | false =>
      have e : Fsp.create S s.data.toList = (S, 1) := by simp [Fsp.create, hd, hv]
      rw [e]; clear e hd he
      have HV := Lib.hid hv
      clear hv
      go_enter Tryz.func38, Tryz.ntmps38
      go_wp2_with (first | (go_at_call 44; refine (down_is h HD.out).mono ?_; rintro r w' ⟨rfl, rfl⟩) | (go_at_call 47; refine (valid_any s hz _).mono ?_; rintro r w' ⟨rfl, rfl⟩; rw [HV.out]))
      go_ret
      exact ⟨rfl, hp⟩
    | true =>
      have HV := Lib.hid hv
      cases hf : Fsp.find S.L s.data.toList with
      | some f =>
        have e : Fsp.create S s.data.toList = (S, 3) := by simp [Fsp.create, hd, hv, hf]
        rw [e]; clear e hd he hv
        have HF := Lib.hid hf
        clear hf
        go_enter Tryz.func38, Tryz.ntmps38
        go_wp2_with (first | (go_at_call 44; refine (down_is h HD.out).mono ?_; rintro r w' ⟨rfl, rfl⟩) | (go_at_call 47; refine (valid_any s hz _).mono ?_; rintro r w' ⟨rfl, rfl⟩; rw [HV.out]) | (go_at_call 66; refine (find_some h s hz HF.out).mono ?_; rintro r w' ⟨rfl, rfl⟩))
        go_ret
        exact ⟨rfl, hp⟩
      | none =>
        have HF := Lib.hid hf
        have c0 := h.cells.c0
        by_cases hm : 400 ≤ S.L.length
        · have e : Fsp.create S s.data.toList = (S, 4) := by simp [Fsp.create, hd, hv, hf, hm]
          rw [e]; clear e hd he hv hf
          go_enter Tryz.func38, Tryz.ntmps38
          go_wp2_with (first | (go_at_call 44; refine (down_is h HD.out).mono ?_; rintro r w' ⟨rfl, rfl⟩) | (go_at_call 47; refine (valid_any s hz _).mono ?_; rintro r w' ⟨rfl, rfl⟩; rw [HV.out]) | (go_at_call 66; refine (find_none h s hz HF.out).mono ?_; rintro r w' ⟨rfl, rfl⟩) | (at_len; refine wpList_len_run rfl _ 65 rfl _ _ rfl (len_is h) ?_))
          go_ret
          exact ⟨rfl, hp⟩
        · have ha : S.armed = 1 := by simp [hd, hv, hf, hm] at he; exact he
          have e : Fsp.create S s.data.toList = (Fsp.stepped S, 5) := by simp [Fsp.create, hd, hv, hf, hm, ha]
          rw [e]; clear e hd he hv hf
          have HA := Lib.hid ha
          clear ha
          go_enter Tryz.func38, Tryz.ntmps38
          go_wp2_with (first | (go_at_call 44; refine (down_is h HD.out).mono ?_; rintro r w' ⟨rfl, rfl⟩) | (go_at_call 47; refine (valid_any s hz _).mono ?_; rintro r w' ⟨rfl, rfl⟩; rw [HV.out]) | (go_at_call 66; refine (find_none h s hz HF.out).mono ?_; rintro r w' ⟨rfl, rfl⟩) | (at_len; refine wpList_len_run rfl _ 65 rfl _ _ rfl (len_is h) ?_) | (go_at_call 68; refine (step_no h HA.out).mono ?_; rintro r w' ⟨rfl, h1, ht⟩))
          go_ret
          exact ⟨rfl, Post.head h1 h.inP ht⟩

/-- a file has been laid, and its name: what that makes -/
theorem created {w1 w3 : World} {mb fb k : Nat} {s : List UInt8} {D0 : DataW Unit} (h1 : RepX w1 p S false Q mo pl) (ht : Turn (fun b => b = p) w w1) (hv : Fsp.valid s = true) (hf : Fsp.find S.L s = none) (hm : S.L.length < 400)
    (hmo : mo = some mb ∨ w1.heap.size ≤ mb) (hag : Agree D0 S.L pl) (hti : Tidy D0) (hhead : w3.heap[p]? = some (headOf S false (some mb))) (hfb : w1.heap.size ≤ fb) (hcell : w3.heap[fb]? = some (.cells #[.slice none 0 0, .int .i64 0] 90 (0, 0)))
    (hT : Turn (fun b => b = p ∨ mo = some b) w1 w3) (hown : w3.ownsMap Tryz.prog 9 ptrElem mb k (D0.put (.string s) (fbLit fb))) : Post w p { S with L := Fsp.put S.L s ⟨[], 0⟩ } Q w3 := by
  have hu := Fsp.used_put_none hf ⟨[], 0⟩
  simp only [List.length_nil, Nat.add_zero] at hu
  have h3 : RepX w3 p { S with L := Fsp.put S.L s ⟨[], 0⟩ } false (Grow Q w1 w3) (some mb) (setPl pl s ⟨fb, .slice none 0 0⟩) := by
    refine h1.addFile hf hT ?_ rfl ?_ hmo hown (hag.put h1.good.1 hti s ⟨[], 0⟩ ⟨fb, .slice none 0 0⟩) ⟨hcell, World.ownsRow_nil _ _ _ _⟩ hfb (fun r hr => by simp [Value.ownBlock] at hr)
    · rw [hhead]; simp only [headOf, hu]
    · exact good_put h1.good rfl rfl h1.good.2.2.2.2.1 hv (Nat.le_refl _) (Or.inr hm) (by rw [hu]; exact h1.good.2.1)
  refine Post.of h1 ht h3 (hT.mono fun i hi => ?_)
  rcases hi with e | e
  · rw [e]; exact h1.inP
  · exact h1.inM _ e

theorem createdA {w1 w2 w3 : World} {mb k : Nat} {s : List UInt8} {D : DataW Unit} {n : Nat} (h1 : RepX w1 p (Fsp.stepped S) false Q (some mb) pl) (ht : Turn (fun b => b = p) w w1) (hv : Fsp.valid s = true) (hf : Fsp.find S.L s = none) (hm : S.L.length < 400)
    (hown : w1.ownsMap Tryz.prog 9 ptrElem mb n D) (hag : Agree D (Fsp.stepped S).L pl) (T2 : Turn (fun _ => False) w1 w2) (hg : (w2.alloc (.cells #[.slice none 0 0, .int .i64 0] 90)).grownBy w3 (some mb))
    (hown3 : w3.ownsMap Tryz.prog 9 ptrElem mb k (D.put (.string s) (fbLit w2.heap.size))) : Post w p { Fsp.stepped S with L := Fsp.put S.L s ⟨[], 0⟩ } Q w3 := by
  have hL := stepped_L S
  have hmb := hown.lt
  have hs2 := T2.size
  have hpl := h1.lt p h1.inP
  have T3 : Turn (fun b => mb = b) w1 w3 := (T2.mono (fun _ q => q.elim)).trans ((Turn.alloc (Turn.refl _ w2) _).grown hg (fun k e => by cases e; exact Or.inl rfl)) (fun _ _ q => q)
  have := created (s := s) (fb := w2.heap.size) h1 ht hv (by rw [hL]; exact hf) (by rw [hL]; exact hm) (Or.inl rfl) hag (hown.tidy lawS) ((T3.block p hpl (fun e => h1.p_ne_mb rfl e.symm)).trans h1.head) (by omega)
    ((hg.block _ (by simp) (fun e => by simp at e; omega)).trans (heap_alloc_new _ _)) (T3.mono fun i e => Or.inr (by rw [e])) hown3
  rw [hL] at this
  exact this

theorem createdB {w1 w2 w3 : World} {mb k : Nat} {s : List UInt8} {D : DataW Unit} {n : Nat} (h1 : RepX w1 p (Fsp.stepped S) false Q (some mb) pl) (ht : Turn (fun b => b = p) w w1) (hv : Fsp.valid s = true) (hf : Fsp.find S.L s = none) (hm : S.L.length < 400)
    (hown : w1.ownsMap Tryz.prog 9 ptrElem mb n D) (hag : Agree D (Fsp.stepped S).L pl) (T2 : Turn (fun _ => False) w1 w2) (hc : w2.heap[w1.heap.size]? = some (.cells #[.slice none 0 0, .int .i64 0] 90 (0, 0))) (hg : w2.grownBy w3 (some mb))
    (hown3 : w3.ownsMap Tryz.prog 9 ptrElem mb k (D.put (.string s) (fbLit w1.heap.size))) : Post w p { Fsp.stepped S with L := Fsp.put S.L s ⟨[], 0⟩ } Q w3 := by
  have hL := stepped_L S
  have hmb := hown.lt
  have hs2 := T2.size
  have hpl := h1.lt p h1.inP
  have T3 : Turn (fun b => mb = b) w1 w3 := (T2.mono (fun _ q => q.elim)).trans ((Turn.refl _ w2).grown hg (fun k e => by cases e; exact Or.inl rfl)) (fun _ _ q => q)
  have := created (s := s) (fb := w1.heap.size) h1 ht hv (by rw [hL]; exact hf) (by rw [hL]; exact hm) (Or.inl rfl) hag (hown.tidy lawS) ((T3.block p hpl (fun e => h1.p_ne_mb rfl e.symm)).trans h1.head) (Nat.le_refl _)
    ((hg.block _ (Array.getElem?_eq_some_iff.1 hc).1 (fun e => by simp at e; omega)).trans hc) (T3.mono fun i e => Or.inr (by rw [e])) hown3
  rw [hL] at this
  exact this

set_option maxRecDepth 100000 in
set_option maxHeartbeats 400000 in
theorem create_some {mb : Nat} (h : RepX w p S false Q (some mb) pl) (hs : StepsOk S) (s : ByteArray) (hz : s.size ≤ maxLen) (HD : Hid (S.down = false)) (HV : Hid (Fsp.valid s.data.toList = true)) (HF : Hid (Fsp.find S.L s.data.toList = none)) (hm : S.L.length < 400) (HA : Hid (S.armed ≠ 1)) :
    Calls Tryz.prog 38 #[.pointer (some ⟨p, 0, none⟩), .string s] w fun r w' => r = .returned (.int .i64 0) ∧ Post w p { Fsp.stepped S with L := Fsp.put S.L s.data.toList ⟨[], 0⟩ } Q w' := by
  have c0 := h.cells.c0
  have HS := Lib.hid hs
  have hz2 : s.size ≤ 281474976710656 := by have := valid_size HV.out; simp at this; omega
  have HZ := Lib.hid hz2
  clear hs hz2
  go_enter Tryz.func38, Tryz.ntmps38
  go_wp2_with (first | (go_at_call 44; refine (down_is h HD.out).mono ?_; rintro r w' ⟨rfl, rfl⟩) | (go_at_call 47; refine (valid_any s hz _).mono ?_; rintro r w' ⟨rfl, rfl⟩; rw [HV.out]) | (go_at_call 66; refine (find_none h s hz HF.out).mono ?_; rintro r w' ⟨rfl, rfl⟩) | (at_len; refine wpList_len_run rfl _ 65 rfl _ _ rfl (len_is h) ?_))
  go_at_call 68
  refine (step_yes h HA.out HS.out).mono ?_
  rintro r w1 ⟨rfl, h1, ht⟩
  have k0 := h1.cells.c0
  have ka := cell_alloc k0
  obtain ⟨D, hown, hag⟩ := h1.map
  have hnil := fun (w : World) (r : Option Nat) => run_eql_map_nil (P := Tryz.prog) w 65 _ _ r Tryz.underlying65
  have hn : (Fsp.stepped S).L.length < maxLen := by rw [stepped_L]; unfold maxLen; omega
  have HN := Lib.hid hn
  clear hn
  go_wp2_with fail
  go_region_with (first | (go_at_call 48; refine (clone_any s HZ.out _).mono ?_; rintro r w2 ⟨rfl, ht2⟩; have T2 : Turn (fun _ => False) w1 w2 := Turn.trans (by repeat (first | exact Turn.refl _ _ | apply Turn.alloc | apply Turn.drew)) ht2 (fun _ _ q => q); have k1 := turn_cell T2 k0; have k2 := cell_alloc k1) | (with_reducible refine upon_mapUpdate (ownsMap_turned hown (by repeat (first | exact T2 | exact Turn.refl _ _ | apply Turn.alloc | apply Turn.drew)) (fun q => q)) lawS Tryz.underlying65 HN.out (keyOf_string_mk Tryz.underlying9 hz) (ptrElem_mk _) ?_; intro w3 hown3 hgr3))
  all_goals go_wp2_with fail
  all_goals go_ret
  all_goals refine ⟨rfl, ?_⟩
  all_goals (first
    | exact createdA h1 ht HV.out HF.out hm hown hag T2 hgr3 hown3
    | exact createdB h1 ht HV.out HF.out hm hown hag T2 (turn_heap ht2 (heap_alloc_new _ _)) hgr3 hown3)

/-- a map is made -/
theorem RepX.mapMade (h : RepX w p S c Q none pl) : RepX ((w.alloc (.map #[] 0)).setCell ⟨p, 0, none⟩ (.map (some w.heap.size))) p S c (Grow Q w ((w.alloc (.map #[] 0)).setCell ⟨p, 0, none⟩ (.map (some w.heap.size)))) (some w.heap.size) pl ∧
    Turn (fun b => b = p) w ((w.alloc (.map #[] 0)).setCell ⟨p, 0, none⟩ (.map (some w.heap.size))) := by
  have hL : S.L = [] := h.map
  have hpl := h.lt p h.inP
  have ht : Turn (fun b => b = p) w ((w.alloc (.map #[] 0)).setCell ⟨p, 0, none⟩ (.map (some w.heap.size))) := ((Turn.refl (fun b => b = p) w).alloc _).setCell (p := ⟨p, 0, none⟩) (Or.inl rfl) _
  have hsz : ((w.alloc (.map #[] 0)).setCell ⟨p, 0, none⟩ (.map (some w.heap.size))).heap.size = w.heap.size + 1 := by simp [World.setCell]
  have nofile : ∀ n, ¬ (Fsp.find S.L n).isSome := fun n hn => by rw [hL] at hn; simp [Fsp.find] at hn
  refine ⟨{ good := h.good, head := ?_, map := ?_, file := fun n f hf => absurd (by rw [hf]; rfl) (nofile n), apartF := fun n _ hn => absurd hn (nofile n), apartR := fun n _ hn => absurd hn (nofile n), inP := Grow.old h.inP, inM := ?_, inF := fun n hn => absurd hn (nofile n), inR := fun n hn => absurd hn (nofile n), lt := ?_ }, ht⟩
  · rw [heap_setCell_same ((Below.heap_alloc _ _ _ hpl).trans h.head)]; rfl
  · refine ⟨.map [], ?_, ⟨fun n => ?_, fun n f hf => absurd (by rw [hf]; rfl) (nofile n), by rw [hL]; rfl⟩⟩
    · rw [hL]
      exact (World.ownsMap_made w _ _ _).setCell (by simp; omega) _
    · rw [hL]; rfl
  · intro mb e
    cases e
    exact Grow.new (Nat.le_refl _) (by rw [hsz]; omega)
  · intro b hb
    rcases hb with hb | hb
    · have := h.lt b hb; rw [hsz]; omega
    · exact hb.2

theorem Post.widen {w1 w2 w3 : World} (h1 : w.heap.size ≤ w1.heap.size) (h2 : w2.heap.size ≤ w3.heap.size) (h : Post w p S (Grow Q w1 w2) w3) : Post w p S Q w3 := by
  obtain ⟨⟨mo, pl, hr⟩, ht⟩ := h
  refine ⟨⟨mo, pl, hr.mono (fun i hi => ?_) (fun i hi => ?_)⟩, ⟨ht.os, ht.tape, ht.output, ht.size, fun i hi hn => ht.block i hi (fun q => ?_)⟩⟩
  · rcases hi with (hi | hi) | hi
    · exact Or.inl hi
    · exact Or.inr ⟨by omega, by omega⟩
    · exact Or.inr hi
  · rcases hi with hi | hi
    · exact hr.lt i (Grow.old (Grow.old hi))
    · exact hi.2
  · rcases q with q | q
    · exact hn q
    · omega

set_option maxRecDepth 100000 in
set_option maxHeartbeats 400000 in
theorem create_nil (h : RepX w p S false Q none pl) (hs : StepsOk S) (s : ByteArray) (hz : s.size ≤ maxLen) (HD : Hid (S.down = false)) (HV : Hid (Fsp.valid s.data.toList = true)) (HF : Hid (Fsp.find S.L s.data.toList = none)) (hm : S.L.length < 400) (HA : Hid (S.armed ≠ 1)) :
    Calls Tryz.prog 38 #[.pointer (some ⟨p, 0, none⟩), .string s] w fun r w' => r = .returned (.int .i64 0) ∧ Post w p { Fsp.stepped S with L := Fsp.put S.L s.data.toList ⟨[], 0⟩ } Q w' := by
  have c0 := h.cells.c0
  have HS := Lib.hid hs
  have hz2 : s.size ≤ 281474976710656 := by have := valid_size HV.out; simp at this; omega
  have HZ := Lib.hid hz2
  clear hs hz2
  go_enter Tryz.func38, Tryz.ntmps38
  go_wp2_with (first | (go_at_call 44; refine (down_is h HD.out).mono ?_; rintro r w' ⟨rfl, rfl⟩) | (go_at_call 47; refine (valid_any s hz _).mono ?_; rintro r w' ⟨rfl, rfl⟩; rw [HV.out]) | (go_at_call 66; refine (find_none h s hz HF.out).mono ?_; rintro r w' ⟨rfl, rfl⟩) | (at_len; refine wpList_len_run rfl _ 65 rfl _ _ rfl (len_is h) ?_))
  go_at_call 68
  refine (step_yes h HA.out HS.out).mono ?_
  rintro r w1 ⟨rfl, h1, ht⟩
  have k0 := h1.cells.c0
  have g0 := h1.cells.fr 0
  have hL0 : (Fsp.stepped S).L = [] := h1.map
  have HL := Lib.hid hL0
  clear hL0
  have hnil := fun (w : World) (r : Option Nat) => run_eql_map_nil (P := Tryz.prog) w 65 _ _ r Tryz.underlying65
  have hmm := @run_makeMap Tryz.prog
  have ka := cell_alloc k0
  have ga : ∀ o : Obj, (w1.alloc o).frozen? ⟨p, 0, none⟩ = false := fun o => (World.frozen?_of_block (Below.heap_alloc _ _ _ (h1.lt p h1.inP))).trans g0
  have hB := h1.mapMade
  go_wp2_with fail
  clear hmm ka ga k0 g0
  generalize (w1.alloc (.map #[] 0)).setCell ⟨p, 0, none⟩ (.map (some w1.heap.size)) = W0 at hB ⊢
  obtain ⟨hB1, hB2⟩ := hB
  have k0 := hB1.cells.c0
  have ka := cell_alloc k0
  obtain ⟨D, hown, hag⟩ := hB1.map
  have hn : (Fsp.stepped S).L.length < maxLen := by rw [stepped_L]; unfold maxLen; omega
  have HN := Lib.hid hn
  clear hn
  go_region_with (first | (go_at_call 48; refine (clone_any s HZ.out _).mono ?_; rintro r w2 ⟨rfl, ht2⟩; have T2 : Turn (fun _ => False) W0 w2 := Turn.trans (by repeat (first | exact Turn.refl _ _ | apply Turn.alloc | apply Turn.drew)) ht2 (fun _ _ q => q); have k1 := turn_cell T2 k0; have k2 := cell_alloc k1) | (with_reducible refine upon_mapUpdate (ownsMap_turned hown (by repeat (first | exact T2 | exact Turn.refl _ _ | apply Turn.alloc | apply Turn.drew)) (fun q => q)) lawS Tryz.underlying65 HN.out (keyOf_string_mk Tryz.underlying9 hz) (ptrElem_mk _) ?_; intro w3 hown3 hgr3))
  all_goals go_wp2_with fail
  all_goals go_ret
  all_goals refine ⟨rfl, Post.widen (w1 := w1) (w2 := W0) ht.size (Nat.le_trans T2.size (Nat.le_trans (by simp) hgr3.size)) ?_⟩
  all_goals have hT : Turn (fun b => b = p) w W0 := ht.trans hB2 (fun _ _ q => q)
  all_goals (first
    | exact createdA hB1 hT HV.out HF.out hm hown hag T2 hgr3 hown3
    | exact createdB hB1 hT HV.out HF.out hm hown hag T2 (turn_heap ht2 (heap_alloc_new _ _)) hgr3 hown3)

theorem create_any (h : RepX w p S false Q mo pl) (hs : StepsOk S) (s : ByteArray) (hz : s.size ≤ maxLen) :
    Calls Tryz.prog 38 #[.pointer (some ⟨p, 0, none⟩), .string s] w fun r w' => r = .returned (.int .i64 ((Fsp.create S s.data.toList).2 : Nat)) ∧ Post w p (Fsp.create S s.data.toList).1 Q w' := by
  by_cases he : S.down = true ∨ Fsp.valid s.data.toList = false ∨ (Fsp.find S.L s.data.toList).isSome = true ∨ 400 ≤ S.L.length ∨ S.armed = 1
  · exact create_early h s hz he
  · simp only [not_or] at he
    obtain ⟨h1, h2, h3, h4, h5⟩ := he
    have hd : S.down = false := by simpa using h1
    have hv : Fsp.valid s.data.toList = true := by simpa using h2
    have hf : Fsp.find S.L s.data.toList = none := by simpa using h3
    have e : Fsp.create S s.data.toList = ({ Fsp.stepped S with L := Fsp.put S.L s.data.toList ⟨[], 0⟩ }, 0) := by
      simp only [Fsp.create, hd, hv, hf, if_neg h4, if_neg h5]; rfl
    rw [e]
    cases mo with
    | none => exact create_nil h hs s hz hd hv hf (by omega) h5
    | some mb => exact create_some h hs s hz hd hv hf (by omega) h5

end
end Go.Proofs.YtjjajnfkngfpjaaGreatDoor
