/-
  exref1: put and drop.
-/
import Derived.Test.YtpaekggmphahoaaEPut
namespace Go.Proofs.Ytpaekggmphahoaa
open Go.RowKit Go.Maps Go.WideMaps
set_option linter.unusedVariables false
set_option linter.unusedSimpArgs false

section
variable {w wr : World} {q base : Nat} {S : Fsp.Fs} {Q : Nat → Prop} {v v' : Value} {l O : List RF}
theorem Below.turnF {b : Nat} (h : Below b w wr) (hb : w.heap.size ≤ b) : Turn (fun _ => False) w wr := ⟨h.os, h.tape, h.output, h.size, fun k hk _ => h.block k (by omega)⟩

/-- the row is another one -/
theorem RefX.rerow (h : RefX w q S Q v l) (ht : Turn (fun _ => False) w wr) (hO : RfsO wr base v' O) (hb : w.heap.size ≤ base)
    (hz : ∀ z ∈ O, SliceN w z.dv z.f.data ∧ (0 < z.f.data.length → ∀ r, z.dv.ownBlock = some r → Q r ∧ r ≠ q)) :
    RefX (wr.setCell ⟨q, 1, none⟩ v') q { S with L := O.map RF.pair } (Grow Q w (wr.setCell ⟨q, 1, none⟩ v')) v' O ∧ Turn (fun b => b = q) w (wr.setCell ⟨q, 1, none⟩ v') := by
  have hq := h.lt q h.inQ
  have hhead : wr.heap[q]? = _ := (ht.block q hq (fun e => e)).trans h.head
  have T2 : Turn (fun b => b = q) wr (wr.setCell ⟨q, 1, none⟩ v') := (Turn.refl (fun b => b = q) wr).set q 1 (Or.inl rfl) v'
  have T3 : Turn (fun b => b = q) w (wr.setCell ⟨q, 1, none⟩ v') := (ht.mono (fun _ k => k.elim)).trans T2 (fun _ _ k => k)
  have hown := hO.own
  refine ⟨{ head := ?_, row := ?_, L := rfl, data := ?_, sep := ?_, ownq := ?_, inQ := Or.inl h.inQ, inR := ?_, inD := ?_, lt := ?_ }, T3⟩
  · exact hset hhead v'
  · refine ownsRow_turned (w := wr) ?_ T2 (fun r hr e => by have := (hown r hr).1; omega)
    refine ⟨hO.1, ?_⟩
    rcases hO.2 with k | ⟨g, cap, cur, e1, _, r⟩
    · exact Or.inl k
    · exact Or.inr ⟨g, cap, cur, e1, Nat.zero_le _, r⟩
  · intro i x hx
    obtain ⟨h1, h2⟩ := hz x (List.mem_of_getElem? hx)
    exact h1.turned T3 (fun h0 r hr e => (h2 h0 r hr).2 e)
  · intro i x hx h0 r hr
    obtain ⟨h1, h2⟩ := hz x (List.mem_of_getElem? hx)
    refine ⟨(h2 h0 r hr).2, fun e => ?_⟩
    have := (hown r e).1
    have := h.lt r (h2 h0 r hr).1
    omega
  · intro e
    have := (hown q e).1
    omega
  · intro r hr
    obtain ⟨k1, k2⟩ := hown r hr
    exact Or.inr ⟨by omega, Nat.lt_of_lt_of_le k2 T2.size⟩
  · intro i x hx h0 r hr
    obtain ⟨h1, h2⟩ := hz x (List.mem_of_getElem? hx)
    exact Or.inl (h2 h0 r hr).1
  · intro b hb2
    rcases hb2 with k | k
    · exact Nat.lt_of_lt_of_le (h.lt b k) T3.size
    · exact k.2

theorem drop_cons {l : List RF} {k : Nat} {y : RF} (h : l[k]? = some y) : l.drop k = y :: l.drop (k + 1) := by
  have hk : k < l.length := (List.getElem?_eq_some_iff.1 h).1
  rw [List.drop_eq_getElem_cons hk]
  rw [List.getElem?_eq_getElem hk] at h
  cases h; rfl
theorem drop_take {n : List UInt8} {l : List RF} {k : Nat} {y : RF} (h : l[k]? = some y) : goDrop n (l.take (k + 1)) = if y.name ≠ n then goDrop n (l.take k) ++ [y] else goDrop n (l.take k) := by
  unfold goDrop
  rw [List.take_add_one, h, List.filter_append]
  by_cases e : y.name = n
  · simp [e]
  · simp [e]

set_option maxRecDepth 100000 in
set_option maxHeartbeats 1000000 in
theorem rDrop_any (h : RefX w q S Q v l) (s : ByteArray) (hn : l.length ≤ 1000) :
    Calls Try.prog 59 #[.pointer (some ⟨q, 0, none⟩), .string s] w fun r w' => r = .returned (.tuple #[]) ∧ (∃ v', RefX w' q { S with L := (goDrop s.data.toList l).map RF.pair } (Grow Q w w') v' (goDrop s.data.toList l)) ∧ Turn (fun b => b = q) w w' := by
  have H := Lib.hid h
  obtain ⟨sp, cap, rfl⟩ := h.form
  obtain ⟨n, hle⟩ : ∃ n, n = l.length := ⟨_, rfl⟩
  have HL := Lib.hid hle
  have i0 : (n : Int) ≤ 1000 := by omega
  have c1 := h.cells.c1
  rw [← hle] at c1
  have HQZ := Lib.hid (h.lt q h.inQ)
  clear h hle hn
  go_enter Try.func59, Try.ntmps59
  go_wp2_with fail
  go_loopw [4, 5] (fun o i wr => ∃ (k : Nat) (sp : Option Addr) (cap : Nat) (O : List RF), k ≤ n ∧ i = .int .i64 (k : Int) ∧ O = goDrop s.data.toList (l.take k) ∧ o = .slice sp O.length cap ∧ RfsO wr w.heap.size (.slice sp O.length cap) O ∧ Below w.heap.size w wr) (fun _ i _ => n - (intOf i).toNat)
  case atStart => exact ⟨0, none, 0, [], Nat.zero_le _, rfl, rfl, rfl, RfsO.nil _ _, Below.refl _ _⟩
  case round =>
    clear c1
    obtain ⟨k, so, co, O, hk, rfl, hO, rfl, hrow, hB⟩ := hrel
    have ht := Below.turnF hB (Nat.le_refl _)
    have hR := H.out.same ht
    have c1 := hR.cells.c1
    rw [← HL.out] at c1
    have HO := Lib.hid hO
    have HR := Lib.hid hrow
    have HB := Lib.hid hB
    have HX := Lib.hid hR
    have HT := Lib.hid ht
    clear hO hrow hB hR ht
    by_cases hlt : k < n
    · have j1 : (k : Int) < (n : Int) := by omega
      obtain ⟨x, hx⟩ : ∃ x, l[k]? = some x := ⟨_, List.getElem?_eq_getElem (by rw [← HL.out]; exact hlt)⟩
      obtain ⟨g, cap', ev, c2, c3, c4, -⟩ := HX.out.at hx
      obtain ⟨sd, cd, hdv, -⟩ := (HX.out.data k x hx).toR
      simp only [Value.slice.injEq] at ev
      obtain ⟨rfl, -, -⟩ := ev
      obtain ⟨nb, hnb⟩ : ∃ nb : ByteArray, nb = ⟨x.name.toArray⟩ := ⟨_, rfl⟩
      have hnd : nb.data.toList = x.name := by rw [hnb]
      have c5 : wr.cell? ⟨g, k * 3, none⟩ = some (.string nb) := by rw [hnb]; exact c2
      have q0 := toList_beqE nb s
      rw [hnd] at q0
      rw [hdv] at c3
      have hstep := drop_take (n := s.data.toList) hx
      rw [← HO.out] at hstep
      have HNB := Lib.hid hnb
      have HDV := Lib.hid hdv
      clear c2 hnb hnd hdv
      by_cases he : x.name = s.data.toList
      · rw [decide_eq_true he] at q0
        have q1 : (nb.toList != s.toList) = false := by simp [bne, q0]
        rw [if_neg (by simp [he])] at hstep
        have HS := Lib.hid hstep
        clear he hstep hx
        go_wp2_with fail
        go_roundw
        case rel => exact ⟨k + 1, so, co, O, by omega, by go_num, HS.out.symm, rfl, HR.out, HB.out⟩
        case measure => simp [intOf]; omega
      · rw [decide_eq_false he] at q0
        have q1 : (nb.toList != s.toList) = true := by simp [bne, q0]
        rw [if_pos he] at hstep
        have HS := Lib.hid hstep
        have hOl : O.length ≤ 1000000 := by
          rw [HO.out]; unfold goDrop
          exact Nat.le_trans (List.length_filter_le _ _) (by rw [List.length_take]; omega)
        have HOL := Lib.hid hOl
        have HZ := Lib.hid HB.out.size
        have HR2 : Hid (RfsO (wr.alloc (.cells #[.string nb, .slice sd x.f.data.length cd, .int .i64 (x.f.synced : Int)] 44)) w.heap.size (.slice so O.length co) O) := Lib.hid (ownsRow_turned HR.out ((Turn.refl (fun _ => False) wr).alloc _) (fun _ _ e => e))
        clear he hstep hx hOl
        go_wp2_with (at_builtin; refine append_rf rfl (.tmp 25) (.tmp 33) rfl (base := w.heap.size) (y := x) (g := wr.heap.size) rfl rfl HR2.out HNB.out HDV.out (by simp) (by simp) (by simp) HOL.out (by have := HZ.out; simp; omega) ?_; intro sp3 cap3 w3 hO3 hB3 hS3)
        have hB4 : Below w.heap.size w w3 := (HB.out.alloc HZ.out _).trans hB3
        have HO3 := Lib.hid hO3
        have HB4 := Lib.hid hB4
        clear hO3 hB3 hS3 hB4
        go_roundw
        case rel => exact ⟨k + 1, sp3, cap3, O ++ [x], by omega, by go_num, HS.out.symm, by simp, by simpa using HO3.out, HB4.out⟩
        case measure => simp [intOf]; omega
    · obtain rfl : k = n := by omega
      have hO := HO.out
      rw [List.take_of_length_le (by rw [HL.out]; exact Nat.le_refl _)] at hO
      have hz : ∀ z ∈ O, SliceN w z.dv z.f.data ∧ (0 < z.f.data.length → ∀ r, z.dv.ownBlock = some r → Q r ∧ r ≠ q) := fun z hz => by
        rw [hO] at hz
        obtain ⟨i, hi⟩ := List.getElem?_of_mem (List.mem_filter.1 (show z ∈ l.filter _ from hz)).1
        exact ⟨H.out.data i z hi, fun h0 r hr => ⟨H.out.inD i z hi h0 r hr, (H.out.sep i z hi h0 r hr).1⟩⟩
      have hfin := H.out.rerow HT.out HR.out (Nat.le_refl _) hz
      rw [hO] at hfin
      have HF := Lib.hid hfin
      have hOlen : O.length = (goDrop s.data.toList l).length := by rw [hO]
      rw [hOlen]
      have cq := HX.out.cells.fr 1
      have zq := Nat.lt_of_lt_of_le HQZ.out HB.out.size
      clear hfin hz hO hOlen
      go_wp2_with fail
      go_end0
      exact ⟨rfl, ⟨_, HF.out.1⟩, HF.out.2⟩

theorem heap_drewN (w : World) (n : Nat) : (w.drewN n).heap = w.heap := by
  induction n with
  | zero => rfl
  | succ n ih => exact ih
theorem below_drewN (b : Nat) (w : World) (n : Nat) : Below b w (w.drewN n) := by
  induction n with
  | zero => exact Below.refl _ _
  | succ n ih => exact ⟨ih.os, ih.tape, ih.output, ih.size, ih.block⟩
theorem then_nameE {K : Act → World → Prop} {Qx : Exit → Act → World → Prop} {e : Exit} {a : Act} {W : World} (P : World → Prop) (hP : P W) (h : ∀ wx, P wx → Exit.then K Qx e a wx) : Exit.then K Qx e a W := h W hP
/-- where put stands -/
structure PS (w w1 : World) (bx : Array Value) (so : Option Addr) (co : Nat) (O : List RF) (W : World) : Prop where
  row : RfsO W w1.heap.size (.slice so O.length co) O
  bel : Below w1.heap.size w1 W
  t : Turn (fun _ => False) w W
  box : W.heap[w.heap.size]? = some (.cells bx 44 (0, 0))
section
variable {w1 W W' : World} {bx : Array Value} {so so' : Option Addr} {co co' : Nat} {O' : List RF}
theorem PS.later (h : PS w w1 bx so co O W) (hb : Below w1.heap.size W W') (h1 : w.heap.size < w1.heap.size) (hr : RfsO W' w1.heap.size (.slice so' O'.length co') O') : PS w w1 bx so' co' O' W' :=
  ⟨hr, h.bel.trans hb, ⟨hb.os.trans h.t.os, hb.tape.trans h.t.tape, hb.output.trans h.t.output, Nat.le_trans h.t.size hb.size, fun k hk _ => (hb.block k (by omega)).trans (h.t.block k hk (fun e => e))⟩, (hb.block _ h1).trans h.box⟩
theorem PS.drewN (h : PS w w1 bx so co O W) (h1 : w.heap.size < w1.heap.size) (n : Nat) : PS w w1 bx so co O (W.drewN n) :=
  h.later (below_drewN _ _ _) h1 (ownsRow_turned h.row ⟨(below_drewN 0 W n).os, (below_drewN 0 W n).tape, (below_drewN 0 W n).output, (below_drewN 0 W n).size, fun k hk _ => by rw [heap_drewN]⟩ (Q := fun _ => False) (fun _ _ e => e))
theorem PS.alloc (h : PS w w1 bx so co O W) (o : Obj) : RfsO (W.alloc o) w1.heap.size (.slice so O.length co) O := ownsRow_turned h.row ((Turn.refl (fun _ => False) W).alloc o) (fun _ _ e => e)
theorem PS.next (h : PS w w1 bx so co O W) (h1 : w.heap.size < w1.heap.size) {o : Obj} {y : RF} (hO : RfsO W' w1.heap.size (.slice so' (O.length + 1) co') (O ++ [y])) (hb : Below w1.heap.size (W.alloc o) W') : PS w w1 bx so' co' (O ++ [y]) W' :=
  h.later (((Below.refl w1.heap.size W).alloc h.bel.size o).trans hb) h1 (by simpa using hO)
theorem PS.cell (h : PS w w1 bx so co O W) {p j : Nat} {u : Value} (k : w.cell? ⟨p, j, none⟩ = some u) : W.cell? ⟨p, j, none⟩ = some u :=
  (World.cell?_of_block (h.t.block p (World.block_lt_of_cell? w _ k) (fun e => e))).trans k
theorem PS.bx3 {a b c : Value} (h : PS w w1 #[a, b, c] so co O W) : W.cell? ⟨w.heap.size, 0, none⟩ = some a ∧ W.cell? ⟨w.heap.size, 1, none⟩ = some b ∧ W.cell? ⟨w.heap.size, 2, none⟩ = some c := by
  have hb := h.box
  refine ⟨?_, ?_, ?_⟩ <;> simp [World.cell?, hb]
end
theorem less_eqE : ∀ (x y : List UInt8), Op.bytesLess x y = decide (x < y)
  | [], [] => by simp [Op.bytesLess]
  | _ :: _, [] => by simp [Op.bytesLess]
  | [], _ :: _ => by simp [Op.bytesLess]
  | a :: x, b :: y => by
    rw [Op.bytesLess, less_eqE x y]
    rw [Bool.eq_iff_iff]
    simp [List.cons_lt_cons_iff]
theorem goPut_nil {x : RF} (d : Bool) : goPut x [] d = if d then [] else [x] := rfl
theorem goPut_eq {x y : RF} {r : List RF} {d : Bool} (h : y.name = x.name) : goPut x (y :: r) d = goPut x r d := by rw [goPut, if_pos h]
theorem goPut_now {x y : RF} {r : List RF} (h : ¬ y.name = x.name) (h2 : x.name < y.name) : goPut x (y :: r) false = x :: y :: goPut x r true := by rw [goPut, if_neg h, if_pos ⟨rfl, h2⟩]
theorem goPut_past {x y : RF} {r : List RF} {d : Bool} (h : ¬ y.name = x.name) (h2 : d = true ∨ ¬ x.name < y.name) : goPut x (y :: r) d = y :: goPut x r d := by
  rw [goPut, if_neg h, if_neg (fun e => by rcases h2 with k | k; rw [k] at e; cases e.1; exact k e.2)]
theorem ltail (A B : List RF) (y : RF) : A ++ y :: B = A ++ [y] ++ B := by simp

set_option maxRecDepth 100000 in
set_option maxHeartbeats 3000000 in
theorem rPut_any (h : RefX w q S Q v l) (x : RF) (hx : SliceN w x.dv x.f.data) (hxQ : 0 < x.f.data.length → ∀ r, x.dv.ownBlock = some r → Q r ∧ r ≠ q) (hn : l.length ≤ 1000) :
    Calls Try.prog 56 #[.pointer (some ⟨q, 0, none⟩), .agg #[encStr x.name, x.dv, .int .i64 (x.f.synced : Int)]] w fun r w' => r = .returned (.tuple #[]) ∧ (∃ v', RefX w' q { S with L := (goPut x l false).map RF.pair } (Grow Q w w') v' (goPut x l false)) ∧ Turn (fun b => b = q) w w' := by
  have H := Lib.hid h
  obtain ⟨sp, cap, rfl⟩ := h.form
  obtain ⟨sdx, cdx, hdvx, -⟩ := hx.toR
  obtain ⟨nx, hnx⟩ : ∃ nx : ByteArray, nx = ⟨x.name.toArray⟩ := ⟨_, rfl⟩
  have hnxd : nx.data.toList = x.name := by rw [hnx]
  have HNX := Lib.hid hnx
  have HDX := Lib.hid hdvx
  have HND := Lib.hid hnxd
  have HXS := Lib.hid hx
  have HXQ := Lib.hid hxQ
  rw [hdvx, show encStr x.name = .string nx by rw [hnx]]
  obtain ⟨n, hle⟩ : ∃ n, n = l.length := ⟨_, rfl⟩
  have HL := Lib.hid hle
  have i0 : (n : Int) ≤ 1000 := by omega
  have HZ := Lib.hid (h.lt q h.inQ)
  have c1w := h.cells.c1
  rw [← hle] at c1w
  have C1 := Lib.hid c1w
  obtain ⟨w1, hw1⟩ : ∃ w1, w1 = w.alloc (.cells #[.string nx, .slice sdx x.f.data.length cdx, .int .i64 (x.f.synced : Int)] 44) := ⟨_, rfl⟩
  have hsz1 : w1.heap.size = w.heap.size + 1 := by rw [hw1]; simp
  have hP1 : PS w w1 #[.string nx, .slice sdx x.f.data.length cdx, .int .i64 (x.f.synced : Int)] none 0 [] w1 := ⟨RfsO.nil _ _, Below.refl _ _, by rw [hw1]; exact (Turn.refl _ w).alloc _, by rw [hw1]; exact heap_alloc_new _ _⟩
  have c1 := hP1.cell c1w
  have HS1 := Lib.hid (show w.heap.size < w1.heap.size by omega)
  have HP1 := Lib.hid hP1
  clear h hle hn hdvx hnx hnxd hx hxQ hsz1 hP1 c1w
  go_enter Try.func56, Try.ntmps56
  go_wp2_with fail
  rw [← hw1]
  clear hw1
  go_loopw [4, 5, 6] (fun o dn i wr => ∃ (k : Nat) (sp : Option Addr) (cap : Nat) (O : List RF) (d : Bool), k ≤ n ∧ i = .int .i64 (k : Int) ∧ dn = .bool d ∧ O ++ goPut x (l.drop k) d = goPut x l false ∧ O.length ≤ k + d.toNat ∧ o = .slice sp O.length cap ∧ PS w w1 #[.string nx, .slice sdx x.f.data.length cdx, .int .i64 (x.f.synced : Int)] sp cap O wr) (fun _ _ i _ => n - (intOf i).toNat)
  case atStart => exact ⟨0, none, 0, [], false, Nat.zero_le _, rfl, rfl, rfl, Nat.zero_le _, rfl, HP1.out⟩
  case round =>
    clear c1
    obtain ⟨k, so, co, O, d, hk, rfl, rfl, hO, hOl, rfl, hP⟩ := hrel
    have c1 := hP.cell C1.out
    obtain ⟨b0, b1, b2⟩ := hP.bx3
    have HO := Lib.hid hO
    have HOL := Lib.hid hOl
    have HP := Lib.hid hP
    have HOM := Lib.hid (show O.length ≤ k + 1 by cases d <;> simp at hOl <;> omega)
    clear hO hOl hP
    by_cases hlt : k < n
    · have j1 : (k : Int) < (n : Int) := by omega
      obtain ⟨y, hy⟩ : ∃ y, l[k]? = some y := ⟨_, List.getElem?_eq_getElem (by rw [← HL.out]; exact hlt)⟩
      obtain ⟨g, cap', ev, c2w, c3w, c4w, -⟩ := H.out.at hy
      obtain ⟨sd, cd, hdv, -⟩ := (H.out.data k y hy).toR
      simp only [Value.slice.injEq] at ev
      obtain ⟨rfl, -, -⟩ := ev
      obtain ⟨nb, hnb⟩ : ∃ nb : ByteArray, nb = ⟨y.name.toArray⟩ := ⟨_, rfl⟩
      have hnd : nb.data.toList = y.name := by rw [hnb]
      rw [show encStr y.name = .string nb by rw [hnb]] at c2w
      rw [hdv] at c3w
      have C2 := Lib.hid c2w
      have C3 := Lib.hid c3w
      have C4 := Lib.hid c4w
      have c2 := HP.out.cell c2w
      have c3 := HP.out.cell c3w
      have c4 := HP.out.cell c4w
      have q0 := toList_beqE nb nx
      rw [hnd, HND.out] at q0
      have q2 : Op.bytesLess nb.toList nx.toList = decide (y.name < x.name) := by rw [Lib.toList_data, Lib.toList_data, less_eqE, hnd, HND.out]
      have hO := HO.out
      rw [drop_cons hy] at hO
      have HNB := Lib.hid hnb
      have HDV := Lib.hid hdv
      have HOm := Lib.hid (show O.length ≤ 1000000 by have := HOM.out; omega)
      clear c2w c3w c4w hnb hnd hdv hy
      by_cases he : y.name = x.name
      · rw [decide_eq_true he] at q0
        rw [goPut_eq he] at hO
        have HN := Lib.hid hO
        clear he hO q2
        go_wp2_with fail
        go_quiet (fail)
        go_wp2_with fail
        go_roundw
        case rel => exact ⟨k + 1, so, co, O, d, by omega, by go_num, rfl, HN.out, by have := HOL.out; omega, rfl, HP.out.drewN HS1.out _⟩
        case measure => simp [intOf]; omega
      · rw [decide_eq_false he] at q0
        by_cases hd : d = false ∧ x.name < y.name
        · obtain ⟨rfl, hlt2⟩ := hd
          rw [decide_eq_false (Fsp.lt_asymm' hlt2)] at q2
          rw [goPut_now he hlt2, ltail, ltail] at hO
          have HN := Lib.hid hO
          clear he hO hlt2
          go_wp2_with fail
          go_quiet (fail)
          go_wp2_with fail
          go_quiet (fail)
          refine then_nameE (fun W => PS w w1 #[.string nx, .slice sdx x.f.data.length cdx, .int .i64 (x.f.synced : Int)] so co O W) ((HP.out.drewN HS1.out _).drewN HS1.out _) fun wx hpx => ?_
          have d1 := hpx.cell C1.out
          have d2 := hpx.cell C2.out
          have d3 := hpx.cell C3.out
          have d4 := hpx.cell C4.out
          obtain ⟨d5, d6, d7⟩ := hpx.bx3
          have HPX := Lib.hid hpx
          clear hpx c1 c2 c3 c4 b0 b1 b2
          have HA := Lib.hid (HPX.out.alloc (.cells #[.string nx, .slice sdx x.f.data.length cdx, .int .i64 (x.f.synced : Int)] 44))
          have HB1 := Lib.hid (show w1.heap.size ≤ (wx.alloc (.cells #[.string nx, .slice sdx x.f.data.length cdx, .int .i64 (x.f.synced : Int)] 44)).heap.size by have := HPX.out.bel.size; simp; omega)
          go_wp2_with (first | (at_builtin; refine append_rf rfl (.tmp 42) (.tmp 44) rfl (base := w1.heap.size) (y := x) (g := wx.heap.size) rfl rfl HA.out HNX.out HDX.out (by simp) (by simp) (by simp) HOm.out HB1.out ?_; intro sp3 cap3 w3 hO3 hB3 hS3; have hp3 := HPX.out.next HS1.out hO3 hB3; have e1 := hp3.cell C1.out; have e2 := hp3.cell C2.out; have e3 := hp3.cell C3.out; have e4 := hp3.cell C4.out; have HP3 := Lib.hid hp3; have HA3 : Hid (RfsO (w3.alloc (.cells #[.string nb, .slice sd y.f.data.length cd, .int .i64 (y.f.synced : Int)] 44)) w1.heap.size (.slice sp3 (O.length + 1) cap3) (O ++ [x])) := Lib.hid (by simpa using HP3.out.alloc (.cells #[.string nb, .slice sd y.f.data.length cd, .int .i64 (y.f.synced : Int)] 44)); have HB3 := Lib.hid (show w1.heap.size ≤ (w3.alloc (.cells #[.string nb, .slice sd y.f.data.length cd, .int .i64 (y.f.synced : Int)] 44)).heap.size by have := HP3.out.bel.size; simp; omega); have hl3 := Lib.hid (show (O ++ [x]).length ≤ 1000000 by have := HOM.out; simp; omega); clear hp3 hO3 hB3 hS3 d1 d2 d3 d4 d5 d6 d7) | (at_builtin; refine append_rf rfl (.tmp 46) (.tmp 54) rfl (base := w1.heap.size) (l := O ++ [x]) (y := y) (g := w3.heap.size) rfl rfl HA3.out HNB.out HDV.out (by simp) (by simp) (by simp) hl3.out HB3.out ?_; intro sp4 cap4 w4 hO4 hB4 hS4; have hp4 := HP3.out.next HS1.out hO4 hB4; have HP4 := Lib.hid hp4; clear hp4 hO4 hB4 hS4 e1 e2 e3 e4))
          go_roundw
          case rel => exact ⟨k + 1, sp4, cap4, O ++ [x] ++ [y], true, by omega, by go_num, rfl, HN.out, by have := HOL.out; simp at this ⊢; omega, by simp, HP4.out⟩
          case measure => simp [intOf]; omega
        · have hpast : d = true ∨ ¬ x.name < y.name := by
            cases d with
            | true => exact Or.inl rfl
            | false => exact Or.inr fun e => hd ⟨rfl, e⟩
          rw [goPut_past he hpast, ltail] at hO
          cases d with
          | true =>
            clear q2 hpast
            have HN := Lib.hid hO
            clear he hO hd
            go_wp2_with fail
            go_quiet (fail)
            go_wp2_with fail
            go_quiet (fail)
            refine then_nameE (fun W => PS w w1 #[.string nx, .slice sdx x.f.data.length cdx, .int .i64 (x.f.synced : Int)] so co O W) ((HP.out.drewN HS1.out _).drewN HS1.out _) fun wx hpx => ?_
            have d1 := hpx.cell C1.out
            have d2 := hpx.cell C2.out
            have d3 := hpx.cell C3.out
            have d4 := hpx.cell C4.out
            obtain ⟨d5, d6, d7⟩ := hpx.bx3
            have HPX := Lib.hid hpx
            clear hpx c1 c2 c3 c4 b0 b1 b2
            have HA := Lib.hid (HPX.out.alloc (.cells #[.string nb, .slice sd y.f.data.length cd, .int .i64 (y.f.synced : Int)] 44))
            have HB1 := Lib.hid (show w1.heap.size ≤ (wx.alloc (.cells #[.string nb, .slice sd y.f.data.length cd, .int .i64 (y.f.synced : Int)] 44)).heap.size by have := HPX.out.bel.size; simp; omega)
            go_wp2_with (at_builtin; refine append_rf rfl (.tmp 46) (.tmp 54) rfl (base := w1.heap.size) (y := y) (g := wx.heap.size) rfl rfl HA.out HNB.out HDV.out (by simp) (by simp) (by simp) HOm.out HB1.out ?_; intro sp4 cap4 w4 hO4 hB4 hS4; have hp4 := HPX.out.next HS1.out hO4 hB4; have HP4 := Lib.hid hp4; clear hp4 hO4 hB4 hS4 d1 d2 d3 d4 d5 d6 d7)
            go_roundw
            case rel => exact ⟨k + 1, sp4, cap4, O ++ [y], true, by omega, by go_num, rfl, HN.out, by have := HOL.out; simp at this ⊢; omega, by simp, HP4.out⟩
            case measure => simp [intOf]; omega
          | false =>
            have hlt2 : y.name < x.name := Fsp.lt_total' (fun e => he e.symm) (by rcases hpast with k | k; cases k; exact k)
            rw [decide_eq_true hlt2] at q2
            clear hpast hlt2
            have HN := Lib.hid hO
            clear he hO hd
            go_wp2_with fail
            go_quiet (fail)
            go_wp2_with fail
            go_quiet (fail)
            refine then_nameE (fun W => PS w w1 #[.string nx, .slice sdx x.f.data.length cdx, .int .i64 (x.f.synced : Int)] so co O W) ((HP.out.drewN HS1.out _).drewN HS1.out _) fun wx hpx => ?_
            have d1 := hpx.cell C1.out
            have d2 := hpx.cell C2.out
            have d3 := hpx.cell C3.out
            have d4 := hpx.cell C4.out
            obtain ⟨d5, d6, d7⟩ := hpx.bx3
            have HPX := Lib.hid hpx
            clear hpx c1 c2 c3 c4 b0 b1 b2
            have HA := Lib.hid (HPX.out.alloc (.cells #[.string nb, .slice sd y.f.data.length cd, .int .i64 (y.f.synced : Int)] 44))
            have HB1 := Lib.hid (show w1.heap.size ≤ (wx.alloc (.cells #[.string nb, .slice sd y.f.data.length cd, .int .i64 (y.f.synced : Int)] 44)).heap.size by have := HPX.out.bel.size; simp; omega)
            go_wp2_with (at_builtin; refine append_rf rfl (.tmp 46) (.tmp 54) rfl (base := w1.heap.size) (y := y) (g := wx.heap.size) rfl rfl HA.out HNB.out HDV.out (by simp) (by simp) (by simp) HOm.out HB1.out ?_; intro sp4 cap4 w4 hO4 hB4 hS4; have hp4 := HPX.out.next HS1.out hO4 hB4; have HP4 := Lib.hid hp4; clear hp4 hO4 hB4 hS4 d1 d2 d3 d4 d5 d6 d7)
            go_roundw
            case rel => exact ⟨k + 1, sp4, cap4, O ++ [y], false, by omega, by go_num, rfl, HN.out, by have := HOL.out; simp at this ⊢; omega, by simp, HP4.out⟩
            case measure => simp [intOf]; omega
    · obtain rfl : k = n := by omega
      have hO := HO.out
      rw [List.drop_eq_nil_of_le (by rw [HL.out]; exact Nat.le_refl _), goPut_nil] at hO
      have hz : ∀ z ∈ goPut x l false, SliceN w z.dv z.f.data ∧ (0 < z.f.data.length → ∀ r, z.dv.ownBlock = some r → Q r ∧ r ≠ q) := fun z hz => by
        rcases goPut_mem hz with e | e
        · subst e; exact ⟨HXS.out, HXQ.out⟩
        · obtain ⟨i, hi⟩ := List.getElem?_of_mem e
          exact ⟨H.out.data i z hi, fun h0 r hr => ⟨H.out.inD i z hi h0 r hr, (H.out.sep i z hi h0 r hr).1⟩⟩
      have HZ2 := Lib.hid hz
      have HWS := Lib.hid (show w.heap.size ≤ w1.heap.size from Nat.le_of_lt HS1.out)
      have HNM := Lib.hid (show O.length ≤ 1000000 by have := HOM.out; omega)
      clear hz
      cases d with
      | true =>
        rw [if_pos rfl, List.append_nil] at hO
        have hr := HP.out.row
        have hfin := H.out.rerow HP.out.t hr HWS.out (by rw [hO]; exact HZ2.out)
        rw [hO] at hfin
        have HF := Lib.hid hfin
        have cq := (H.out.same HP.out.t).cells.fr 1
        have zq := Nat.lt_of_lt_of_le HZ.out HP.out.t.size
        rw [hO]
        clear hfin hr hO b0 b1 b2
        go_wp2_with fail
        go_end0
        exact ⟨rfl, ⟨_, HF.out.1⟩, HF.out.2⟩
      | false =>
        rw [if_neg (by decide)] at hO
        have HN := Lib.hid hO
        have HA := Lib.hid (HP.out.alloc (.cells #[.string nx, .slice sdx x.f.data.length cdx, .int .i64 (x.f.synced : Int)] 44))
        have HB1 := Lib.hid (show w1.heap.size ≤ (wr.alloc (.cells #[.string nx, .slice sdx x.f.data.length cdx, .int .i64 (x.f.synced : Int)] 44)).heap.size by have := HP.out.bel.size; simp; omega)
        clear hO
        go_wp2_with (at_builtin; refine append_rf rfl (.tmp 58) (.tmp 60) rfl (base := w1.heap.size) (y := x) (g := wr.heap.size) rfl rfl HA.out HNX.out HDX.out (by simp) (by simp) (by simp) HNM.out HB1.out ?_; intro sp4 cap4 w4 hO4 hB4 hS4; have hp4 := HP.out.next HS1.out hO4 hB4; have HP4 := Lib.hid hp4; rw [HN.out] at hO4; have hfin := H.out.rerow HP4.out.t hO4 HWS.out HZ2.out; have HF := Lib.hid hfin; have e1 := HP4.out.cell C1.out; have cq := (H.out.same HP4.out.t).cells.fr 1; have zq := Nat.lt_of_lt_of_le HZ.out HP4.out.t.size; clear hfin hp4 hO4 hB4 hS4 c1 b0 b1 b2)
        go_end0
        exact ⟨rfl, ⟨_, HF.out.1⟩, HF.out.2⟩
end
end Go.Proofs.Ytpaekggmphahoaa
