/-
  during: an account's events of a time.
-/
import Derived.Test.YtnlanemldapfiaaGreatVLoop
import Derived.RangeFuncBox
namespace Go.Proofs.YtnlanemldapfiaaGreat.se
open Go.RowKit Go.Maps Go.WideMaps Go.Shelf Go.Proofs.YtnlanemldapfiaaGreat.Tb
attribute [local go_sem] Oper.semAt_some

/-- is it the account's, and of the time? -/
def isIn (acc : List UInt8) (fr to : Int) (x : Ev) : Bool := x.acc == acc && (decide (fr ≤ x.at_) && decide (x.at_ < to))

/-- where a going over an account's events stands -/
structure DurAt (W : World) (B mp : Nat) (acc : List UInt8) (fr to : Int) (t : Tr Key Val) : Prop where
  c0 : W.cell? ⟨B, 0, none⟩ = some (.pointer (some ⟨mp, 0, none⟩))
  c1 : W.cell? ⟨B + 1, 0, none⟩ = some (strE acc)
  c2 : W.cell? ⟨B + 2, 0, none⟩ = some (.int .i64 fr)
  c3 : W.cell? ⟨B + 3, 0, none⟩ = some (.int .i64 to)
  met : ∃ s root ver rep, MetC W mp s 0 0 root ver rep ∧ TrAt W (.pointer root) t

theorem DurAt.later {W W' : World} {B mp : Nat} {acc : List UInt8} {fr to : Int} {t : Tr Key Val} (h : DurAt W B mp acc fr to t) (ht : Turn (fun _ => False) W W') : DurAt W' B mp acc fr to t := by
  obtain ⟨s, root, ver, rep, hm, hr⟩ := h.met
  exact ⟨turn_cell ht h.c0, turn_cell ht h.c1, turn_cell ht h.c2, turn_cell ht h.c3, s, root, ver, rep, hm.later ht (fun q => q), hr.later ht⟩

abbrev durLb (B : Nat) : Array Value := #[.pointer (some ⟨B, 0, none⟩), .pointer (some ⟨B + 1, 0, none⟩), .pointer (some ⟨B + 2, 0, none⟩), .pointer (some ⟨B + 3, 0, none⟩)]

theorem during_any (mp : Nat) (acc : List UInt8) (fr to : Int) (w : World) {s ver rep : Int} {root : Option Addr} {t : Tr Key Val} (h : MetC w mp s 0 0 root ver rep) (ht : TrAt w (.pointer root) t) :
    Calls Tryz.prog 29 #[.pointer (some ⟨mp, 0, none⟩), strE acc, .int .i64 fr, .int .i64 to] w fun r w' => r = .returned (.func (.func 58) #[] (durLb w.heap.size)) ∧ DurAt w' w.heap.size mp acc fr to t ∧ Turn (fun _ => False) w w' := by
  have hmf : ∀ (fn : Fn) (first cap : Array Value) (w : World), (Instr.makeFunc fn first cap).run Tryz.prog w = .ok (.func fn first cap) w := fun _ _ _ _ => rfl
  have e0 := cell_new w #[.pointer (some ⟨mp, 0, none⟩)] 26 0
  have H := Lib.hid h
  have HT := Lib.hid ht
  clear h ht
  go_enter Tryz.func29, Tryz.ntmps29
  go_wp2
  go_ret
  have s1 : ∀ (a : World) (o : Obj), (a.alloc o).heap.size = a.heap.size + 1 := World.size_alloc
  have e1 := cell_new (w.alloc (.cells #[.pointer (some ⟨mp, 0, none⟩)] 26)) #[strE acc] 9 0
  have e2 := cell_new ((w.alloc (.cells #[.pointer (some ⟨mp, 0, none⟩)] 26)).alloc (.cells #[strE acc] 9)) #[.int .i64 fr] 3 0
  have e3 := cell_new (((w.alloc (.cells #[.pointer (some ⟨mp, 0, none⟩)] 26)).alloc (.cells #[strE acc] 9)).alloc (.cells #[.int .i64 fr] 3)) #[.int .i64 to] 3 0
  rw [s1] at e1
  rw [s1, s1] at e2
  rw [s1, s1, s1] at e3
  have tt : Turn (fun _ => False) w ((((w.alloc (.cells #[.pointer (some ⟨mp, 0, none⟩)] 26)).alloc (.cells #[strE acc] 9)).alloc (.cells #[.int .i64 fr] 3)).alloc (.cells #[.int .i64 to] 3)) := ((((Turn.refl _ w).alloc _).alloc _).alloc _).alloc _
  refine ⟨by simp, ⟨?_, ?_, ?_, ?_, s, root, ver, rep, H.out.later tt (fun q => q), HT.out.later tt⟩, tt⟩
  · exact turn_cell (turnBox _ _) (turn_cell (turnBox _ _) (turn_cell (turnBox _ _) e0))
  · exact turn_cell (turnBox _ _) (turn_cell (turnBox _ _) e1)
  · exact turn_cell (turnBox _ _) e2
  · exact e3

theorem OwnFrom.up {β : Type} {B B' : Nat} {I : β → World → Prop} (h : OwnFrom B I) (hb : B ≤ B') : OwnFrom B' I :=
  fun s W W' row hs hg hr => h s W W' row hs hg (fun r e => ⟨Nat.le_trans hb (hr r e).1, (hr r e).2⟩)

/-- what tall hands back, as a box holds it -/
theorem tall_at (tp : Option Addr) (w : World) : Calls Tryz.prog 43 #[.pointer tp] w fun r w' => ∃ B1 B2, r = .returned (.func (.func 95) #[] #[.pointer (some ⟨B2, 0, none⟩)]) ∧
    w'.cell? ⟨B2, 0, none⟩ = some (.func (.func 68) #[] #[.pointer (some ⟨B1, 0, none⟩)]) ∧ w'.cell? ⟨B1, 0, none⟩ = some (.pointer tp) ∧ Turn (fun _ => False) w w' := by
  refine (tall_any tp w).mono ?_
  rintro r w' ⟨rfl, rfl⟩
  refine ⟨w.heap.size, w.heap.size + 1, rfl, ?_, ?_, (turnBox w _).trans (turnBox _ _) (fun _ _ q => q)⟩
  · have h := cell_new (w.alloc (.cells #[.pointer tp] 101)) #[.func (.func 68) #[] #[.pointer (some ⟨w.heap.size, 0, none⟩)]] 99 0
    rw [World.size_alloc] at h
    exact h
  · exact turn_cell (turnBox _ _) (cell_new w #[.pointer tp] 101 0)

/-- an event of a tree -/
abbrev EvT (t : Tr Key Val) : Type := { x : Ev // x ∈ t.list.map Prod.snd }
abbrev enc1 {t : Tr Key Val} (x : EvT t) : Array Value := #[valV x.1]
def toEv {t : Tr Key Val} (p : PrT t) : EvT t := ⟨p.1.2, List.mem_map.2 ⟨p.1, p.2, rfl⟩⟩
theorem toEv_val {t : Tr Key Val} (p : PrT t) : (toEv p).1 = p.1.2 := rfl
abbrev isInT {t : Tr Key Val} (acc : List UInt8) (fr to : Int) (x : EvT t) : Bool := isIn acc fr to x.1

theorem filter_val {t : Tr Key Val} (acc : List UInt8) (fr to : Int) (ys : List (PrT t)) (h : ys.map Subtype.val = t.list) : ((ys.map toEv).filter (isInT acc fr to)).map Subtype.val = (t.list.map Prod.snd).filter (isIn acc fr to) := by
  have e : t.list.map Prod.snd = (ys.map Subtype.val).map Prod.snd := by rw [h]
  refine Eq.trans ?_ (congrArg (List.filter (isIn acc fr to)) e.symm)
  rw [List.map_map, List.filter_map, List.filter_map, List.map_map]
  rfl

theorem filter_one {t : Tr Key Val} (acc : List UInt8) (fr to : Int) (x : PrT t) : [toEv x].filter (isInT acc fr to) = if isIn acc fr to x.1.2 then [toEv x] else [] := by
  by_cases h : isIn acc fr to x.1.2 = true
  · rw [if_pos h, List.filter_cons_of_pos (show isInT acc fr to (toEv x) = true from h)]; rfl
  · rw [if_neg h, List.filter_cons_of_neg (show ¬ isInT acc fr to (toEv x) = true from h)]; rfl

set_option maxRecDepth 100000 in
set_option maxHeartbeats 4000000 in
theorem dur1_hands {n B mp : Nat} {acc : List UInt8} {fr to : Int} {t : Tr Key Val} {I : List (EvT t) → World → Prop} {w : World} (hI : ∀ pre W, I pre W → DurAt W B mp acc fr to t) :
    Hands Fence.wide n Tryz.prog 58 (durLb B) (enc1 (t := t)) (fun xs => xs.map Subtype.val = (t.list.map Prod.snd).filter (isIn acc fr to)) t.list.length I w := by
  intro l J W0 hW hl hJ hJI hY hj0
  have HJI := Lib.hid (fun pre W h => hI pre W (hJI pre W h))
  have HJ := Lib.hid hJ
  have HY := Lib.hid hY
  have HBX := Lib.hid (heap_alloc_new W0 (.cells #[.func (.yield l) #[] #[]] 115))
  have hT0 := turnBox W0 (.cells #[.func (.yield l) #[] #[]] 115)
  have HJ0 := Lib.hid (hJ [] _ _ none hj0 (World.grownBy_alloc W0 (.cells #[.func (.yield l) #[] #[]] 115) none) (fun r e => by cases e))
  have HD0 := (hI [] _ (hJI [] _ hj0)).later hT0
  obtain ⟨s, root, ver, rep, hm, htr⟩ := HD0.met
  have HM := Lib.hid hm
  have HTR := Lib.hid htr
  have c0 := HD0.c0
  obtain ⟨Y, hYs⟩ : ∃ Y, W0.heap.size = Y := ⟨_, rfl⟩
  obtain ⟨W1, hW1⟩ : ∃ W1, W0.alloc (.cells #[.func (.yield l) #[] #[]] 115) = W1 := ⟨_, rfl⟩
  rw [hYs] at HBX
  rw [hW1] at HBX HJ0 c0 HM HTR
  have hsz : W1.heap.size = Y + 1 := by rw [← hW1, World.size_alloc, hYs]
  have HSZ := Lib.hid hsz
  have HYS := Lib.hid hYs
  clear hI hJ hJI hY hj0 hT0 HD0 hm htr hW hl
  refine (callsIn_wide (n := n)).2 ((callsIn_wide (n := 10)).1 ?_)
  change CallsIn Fence.wide 10 Tryz.prog 58 #[.func (.yield l) #[] #[], .pointer (some ⟨B, 0, none⟩), .pointer (some ⟨B + 1, 0, none⟩), .pointer (some ⟨B + 2, 0, none⟩), .pointer (some ⟨B + 3, 0, none⟩)] W0 _
  refine callsIn_of_wp_marks Tryz.func58 rfl trivial ?_ rfl
  simp only [Tryz.ntmps58, List.size_toArray, List.length_cons, List.length_nil, Nat.reduceAdd, Nat.reduceSub, Array.replicate_succ, Array.replicate_zero, List.push_toArray, List.append_toArray, List.nil_append, List.cons_append]
  refine wpIn_wide.2 ?_
  go_wp2_with (go_at_call 42; refine (kept_any _ _).mono ?_; rintro e w1 ⟨rfl, rfl⟩)
  go_at_call 43
  refine (tall_at _ _).mono ?_
  rintro r w6 ⟨B1, B2, rfl, b2, b1, ht6⟩
  have HB1 := Lib.hid b1
  have HB2 := Lib.hid b2
  have HM6 := Lib.hid (HM.out.later ht6 (fun q => q))
  have HTR6 := Lib.hid (HTR.out.later ht6)
  have HBX6 := Lib.hid (turn_heap ht6 HBX.out)
  have HJ6 := Lib.hid (HJ.out [] _ _ none HJ0.out ⟨ht6.os, ht6.tape, ht6.output, ht6.size, fun k hk _ => ht6.block k hk (fun q => q)⟩ (fun r e => by cases e))
  have HSZ6 := Lib.hid (show Y < w6.heap.size from by have := ht6.size; have := HSZ.out; omega)
  have HJ2 := Lib.hid (OwnFrom.up HJ.out (show W0.heap.size ≤ w6.heap.size from by have := HYS.out; have := HSZ6.out; omega))
  clear b1 b2 ht6 HM HTR HBX HJ0 HSZ hW1 c0
  go_wp2_with fail
  refine (wpIn_wide (n := 10)).1 ?_
  refine wpIn_rangeFunc_ownH rfl (by decide) (gf := 95) (lb := #[.pointer (some ⟨B2, 0, none⟩)]) rfl trivial (enters_of Tryz.func95 (by kernel_rfl) rfl) (tall_stops (n := 10 - 1) HB2.out HB1.out HM6.out HTR6.out) KeepsN.trans keepsN_b (Below.refl _ _) (fun _ => rfl)
    (fun pre W => (J ((pre.map toEv).filter (isInT acc fr to)) W ∧ pre.length ≤ pre.length) ∧ W.heap[Y]? = some (.cells #[.func (.yield l) #[] #[]] 115)) (fun _ _ _ => False) ?aI ?aIx ?a0 (fun x a' W => ∃ g, a' = { tmps := #[.func (.yield l) #[] #[], .pointer (some ⟨B, 0, none⟩), .pointer (some ⟨B + 1, 0, none⟩), .pointer (some ⟨B + 2, 0, none⟩), .pointer (some ⟨B + 3, 0, none⟩), .pointer (some ⟨Y, 0, none⟩), undef, .pointer (some ⟨g, 0, none⟩), .pointer (some ⟨mp, 0, none⟩), .pointer (some ⟨mp, 2, none⟩), .func (.func 95) #[] #[.pointer (some ⟨B2, 0, none⟩)], keyV x.1.1, valV x.1.2, undef, undef, undef, undef, undef, undef, undef, undef, undef, undef, undef, undef, undef, undef, undef, undef, undef, undef, undef, undef, undef, undef], defers := [] } ∧ W.heap[g]? = some (evBox x.1.2)) ?aAx ?aassign ?abody ?adone ?astop
  case aassign =>
    intro l2 pre x W K hI hK
    gi_wp2
    have tt : Turn (fun _ => False) W (W.alloc (evBox x.1.2)) := turnBox W _
    exact hK _ (W.alloc (evBox x.1.2)) ⟨tt.size, fun k o _ hk _ => turn_heap tt hk⟩ (KeepsN.turn tt (fun _ _ _ q => q.elim)) ⟨⟨HJ2.out _ W _ none hI.1.1 ⟨tt.os, tt.tape, tt.output, tt.size, fun k hk _ => tt.block k hk (fun q => q)⟩ (fun r e => by cases e), hI.1.2⟩, turn_heap tt hI.2⟩ ⟨W.heap.size, rfl, heap_alloc_new W _⟩
  case aI =>
    rintro pre A B' row ⟨⟨i1, i2⟩, i3⟩ hg hr
    exact ⟨⟨HJ2.out _ A B' row i1 hg hr, i2⟩, (grownBy_keeps_cells hg (fun r e => (hr r e).2) i3 rfl).trans i3⟩
  case aIx => exact fun _ _ _ _ _ h _ _ => False.elim h
  case a0 => exact ⟨⟨HJ6.out, Nat.le_refl _⟩, HBX6.out⟩
  case aAx =>
    rintro x a' _ A B' row ⟨g, e, hb⟩ hg hr
    refine ⟨g, e, (grownBy_keeps_cells hg (fun r e => (hr r e).2) hb rfl).trans hb⟩
  case astop => exact fun _ _ _ _ _ _ h _ => False.elim h
  case adone =>
    intro D ys W hD he hJ2 hmk
    obtain ⟨⟨i1, i2⟩, i3⟩ := hJ2
    refine ⟨by simp, .inl ⟨_, _, rfl, run_takeDeferred hmk, ?_⟩⟩
    exact ⟨_, results_none rfl _ _ _, ⟨_, rfl⟩, _, filter_val acc fr to ys he, HJ2.out.putObj _ i1 hD hmk rfl⟩
  case abody =>
    intro l2 pre x a' W hl2 hrec hI hax hlen
    obtain ⟨g, rfl, hb⟩ := hax
    obtain ⟨⟨⟨i1, _⟩, cy⟩⟩ : (_ ∧ _) ∧ True := ⟨hI, trivial⟩
    have hd := HJI.out _ _ i1
    have d1 := hd.c1
    have d2 := hd.c2
    have d3 := hd.c3
    obtain ⟨⟨b0, b1, b2, b3, b4⟩, _⟩ := ev_open hb
    have hfl : (pre.map toEv ++ [toEv x]).filter (isInT acc fr to) = (pre.map toEv).filter (isInT acc fr to) ++ (if isIn acc fr to x.1.2 then [toEv x] else []) := by
      rw [List.filter_append, filter_one]
    have hmap : (pre ++ [x]).map toEv = pre.map toEv ++ [toEv x] := by simp
    have HI1 := Lib.hid i1
    have HCY := Lib.hid cy
    have cyc : W.cell? ⟨Y, 0, none⟩ = some (.func (.yield l) #[] #[]) := by simp [World.cell?, cy]
    clear cy
    have HLEN := Lib.hid hlen
    clear hI hd hb i1 hrec hl2
    have skip : ∀ a, isIn acc fr to x.1.2 = false → ownPostG w6.heap.size KeepsN (fun pre W => (J ((pre.map toEv).filter (isInT acc fr to)) W ∧ pre.length ≤ pre.length) ∧ W.heap[Y]? = some (.cells #[.func (.yield l) #[] #[]] 115)) (fun _ _ _ => False) (pre ++ [x]) W .normal a W := by
      intro a h
      refine ⟨KeepsFrom.refl _ _, KeepsN.refl _, ⟨?_, Nat.le_refl _⟩, HCY.out⟩
      rw [hmap, hfl, h]
      simpa using HI1.out
    have HSKIP := Lib.hid skip
    clear skip
    by_cases q1 : x.1.2.acc = acc
    · have e1 : (x.1.2.acc == acc) = true := by simp [q1]
      by_cases q2 : fr ≤ x.1.2.at_
      · by_cases q3 : x.1.2.at_ < to
        · have hin : isIn acc fr to x.1.2 = true := by simp [isIn, q1, q2, q3]
          rw [hin, if_pos rfl] at hfl
          have HFL := Lib.hid hfl
          have HMAP := Lib.hid hmap
          obtain ⟨fn, tmps, assign, body, hy, hR⟩ := HY.out (10 - 1 - 1 - 1) _ (toEv x) W HI1.out (Nat.lt_of_le_of_lt (by have := List.length_filter_le (isInT acc fr to) (pre.map toEv); simpa using this) HLEN.out)
          change Sem.run Tryz.prog (Instr.yield l #[valV x.1.2]) W = _ at hy
          clear hfl hmap hin q1
          gi_wp2
          refine hR.mono ?_
          rintro e W2 ⟨rfl, hj2, hst⟩
          gi_wp2
          have hs := HSZ6.out
          have hy2 := HYS.out
          refine ⟨⟨hst.size, fun k o hk ho hc => hst.same k o (by omega) ho (NotRow.of hc)⟩, hst.keeps, ⟨?_, Nat.le_refl _⟩, ?_⟩
          · show J (((pre ++ [x]).map toEv).filter (isInT acc fr to)) W2
            rw [HMAP.out, HFL.out]
            exact hj2
          · exact hst.same Y _ (by omega) HCY.out (fun cs fr e => by cases e)
        · have hin : isIn acc fr to x.1.2 = false := by simp [isIn, q1, q2, q3]
          have HS := Lib.hid (fun a => HSKIP.out a hin)
          clear hfl hin q1 hmap
          gi_wp2; refine ⟨fun _ h => (by cases h), ?_⟩; gi_wp2
          exact HS.out _
      · have hin : isIn acc fr to x.1.2 = false := by simp [isIn, q1, q2]
        have HS := Lib.hid (fun a => HSKIP.out a hin)
        clear hfl hin q1 hmap
        gi_wp2; refine ⟨fun _ h => (by cases h), ?_⟩; gi_wp2
        exact HS.out _
    · have e1 : (x.1.2.acc == acc) = false := by simp [q1]
      have hin : isIn acc fr to x.1.2 = false := by simp [isIn, q1]
      have HS := Lib.hid (fun a => HSKIP.out a hin)
      clear hfl hin q1 hmap
      gi_wp2; refine ⟨fun _ h => (by cases h), ?_⟩; gi_wp2
      exact HS.out _
end Go.Proofs.YtnlanemldapfiaaGreat.se
