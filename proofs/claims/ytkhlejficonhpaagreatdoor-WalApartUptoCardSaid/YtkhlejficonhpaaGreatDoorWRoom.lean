/-
  WalFull: the walk.
-/
import Derived.Test.YtkhlejficonhpaaGreatDoorWStuck
import Derived.Test.YtkhlejficonhpaaGreatDoorWK
namespace Go.Proofs.YtkhlejficonhpaaGreatDoor
open Go.RowKit Go.Maps Go.WideMaps

/-- cells that hold records that came in -/
def Held (w0 : World) (xs : List Value) (l : List (List UInt8)) : Prop := xs.length = l.length ∧ ∀ (j : Nat) (q : List UInt8), l[j]? = some q → ∃ u, xs[j]? = some u ∧ BytesIn w0 u q

/-- a log that has room and is not armed; what it has is what want holds -/
def Filled (w0 w : World) (p lp sz room : Nat) (k : Nat) (v : Value) : Prop :=
  ∃ S l ls Q xs, LogX w0 w p S Q lp l ∧ Walp.Live S l ls ∧ l.last ≤ k + 1 ∧ S.L.length ≤ k + 1 ∧ S.steps ≤ 3 * k + 1 ∧ l.size = sz ∧ l.dir = [119] ∧ l.first = 1 ∧ S.armed = 0 ∧ S.room = room ∧
    w.ownsRow w0.heap.size 37 1 v ls.flatten.length xs ∧ Held w0 xs ls.flatten ∧ (∀ r, v.ownBlock = some r → ¬ Q r ∧ r ≠ lp) ∧ ls.flatten.length ≤ k

section
variable {w0 w w' : World} {p lp : Nat} {S S' : Fsp.Fs} {Q : Nat → Prop} {l l' : Walp.Lg} {ls : List (List (List UInt8))}

theorem LogX.besides (h : LogX w0 w p S Q lp l) {P : Nat → Prop} {w1 : World} (ht : Turn P w w1) (hP : ∀ b, P b → ¬ Q b ∧ b ≠ lp ∧ w0.heap.size ≤ b) : LogX w0 w1 p S Q lp l :=
  ⟨h.rep.turned ht (fun b hq hp => (hP b hp).1 hq), h.log.turned ht (fun q => (hP _ q).2.1 rfl), h.out, h.new, h.newQ, h.turn.trans ht (fun i hi q => by have := (hP i q).2.2; omega)⟩

theorem Held.snoc {xs : List Value} {m : List (List UInt8)} (h : Held w0 xs m) {u : Value} {q : List UInt8} (hq : BytesIn w0 u q) : Held w0 (xs ++ [u]) (m ++ [q]) := by
  refine ⟨by simp [h.1], fun j x hj => ?_⟩
  by_cases hlt : j < m.length
  · rw [List.getElem?_append_left hlt] at hj
    obtain ⟨u', e, hb⟩ := h.2 j x hj
    exact ⟨u', by rw [List.getElem?_append_left (by rw [h.1]; exact hlt)]; exact e, hb⟩
  · have : j < (m ++ [q]).length := (List.getElem?_eq_some_iff.1 hj).1
    have hj0 : j = m.length := by simp at this; omega
    subst hj0
    rw [List.getElem?_append_right (Nat.le_refl _)] at hj
    simp at hj
    subst hj
    exact ⟨u, by rw [List.getElem?_append_right (by rw [h.1]; exact Nat.le_refl _), h.1]; simp, hq⟩

theorem held_R {B n : Nat} {v : Value} {xs : List Value} {m : List (List UInt8)} (h : w.ownsRow B 37 1 v n xs) (hh : Held w0 xs m) (hn : n = m.length) (ht : Turn (fun _ => False) w0 w) : ListsR w v m := by
  subst hn
  obtain ⟨sp, cap, rfl, hc⟩ := own_cell h hh.1
  refine ⟨sp, cap, rfl, fun h0 => ?_⟩
  obtain ⟨ad, e, hx⟩ := hc h0
  refine ⟨ad, e, fun j q hj => ?_⟩
  obtain ⟨u, hu, hb⟩ := hh.2 j q hj
  exact ⟨u, hx j u hu, (hb.c.turned ht).toR⟩

theorem live_short (h : Walp.Live S l ls) : ∀ q, q ∈ ls.flatten → q.length ≤ maxLen := fun q hq => by
  obtain ⟨rs, h1, h2⟩ := List.mem_flatten.1 hq
  have := h.short rs h1 q h2
  unfold Walp.maxRec at this
  unfold maxLen; omega

theorem flatten_addTo (h : 0 < ls.length) (sz : Nat) (b : List UInt8) : (Walp.addTo (Walp.rot sz ls) b).flatten = ls.flatten ++ [b] := by
  have h1 := Walp.rot_length sz ls
  rw [Walp.addTo_flatten (by omega), Walp.rot_flatten]

/-- an append where nothing is armed -/
theorem append_filled (hT : SumTab w0) {sz room k : Nat} {v : Value} (h : Filled w0 w p lp sz room k v) (hk : k < 90) {u : Value} {b : List UInt8} (hb : BytesIn w0 u b) (hbl : b.length ≤ 1048576) :
    ∃ D : Nat, (∀ W, W = w → Calls Tryz.prog 42 #[.pointer (some ⟨p, 0, none⟩)] W fun r w' => r = .returned (.int .i64 (room : Nat)) ∧ W = w') ∧ (∃ U : Nat, U ≤ room ∧ room ≤ 67108864 ∧ (room : Int) - (U : Int) = (D : Int) ∧ ∀ W, W = w → Calls Tryz.prog 43 #[.pointer (some ⟨p, 0, none⟩)] W fun r w' => r = .returned (.int .i64 (U : Nat)) ∧ W = w') ∧
    Calls Tryz.prog 16 #[.pointer (some ⟨lp, 0, none⟩), u] w fun r w' => ∃ e : Nat, r = .returned (.int .i64 (e : Int)) ∧ Turn (fun _ => False) w0 w' ∧
      ((e = 0 ∧ 8 + b.length ≤ D ∧ ∃ S l ls Q xs, LogX w0 w' p S Q lp l ∧ Walp.Live S l ls ∧ l.last ≤ k + 2 ∧ S.L.length ≤ k + 2 ∧ S.steps ≤ 3 * (k + 1) + 1 ∧ l.size = sz ∧ l.dir = [119] ∧ l.first = 1 ∧ S.armed = 0 ∧ S.room = room ∧
          ∃ m, ls.flatten = m ++ [b] ∧ w'.ownsRow w0.heap.size 37 1 v m.length xs ∧ Held w0 xs m ∧ (∀ r, v.ownBlock = some r → ¬ Q r ∧ r ≠ lp) ∧ m.length ≤ k) ∨
        (e = 4 ∧ D < 8 + b.length ∧ Filled w0 w' p lp sz room (k + 1) v)) := by
  obtain ⟨S, l, ls, Q, xs, hx, hl, h1, h2, h3, h4, h5, h6, h7, h8, h9, h10, h11, h12⟩ := h
  have hg := hx.sorted
  subst h8
  refine ⟨S.room - Fsp.usedOf S.L, fun W e => ?_, ⟨Fsp.usedOf S.L, hg.2.1, hg.2.2.1, by have := hg.2.1; omega, fun W e => ?_⟩, ?_⟩
  · subst e; obtain ⟨mo, pl, hr⟩ := hx.rep; exact room_is hr
  · subst e; obtain ⟨mo, pl, hr⟩ := hx.rep; exact used_is hr
  refine (append_live hT hx hl (by omega) (by omega) (by omega) hb hbl).mono ?_
  rintro r w' ⟨S', l', e, rfl, hE, hp⟩
  obtain ⟨hx', ht'⟩ := hp
  have hm := hE.more
  have hst := hE.steps
  have hsz := hE.hsize
  have hff := hE.hfirst
  have hdd := hE.hdir
  have hrm := hE.room
  obtain ⟨ha', he5⟩ := hE.unarmed h7
  have hown' : w'.ownsRow w0.heap.size 37 1 v ls.flatten.length xs := ownsRow_turned h9 ht' (fun r hr q => by
    have := h11 r hr
    rcases q with q | q
    · exact this.1 q
    · exact this.2 q)
  have hout' : ∀ r, v.ownBlock = some r → ¬ Grow Q w w' r ∧ r ≠ lp := fun r hr => by
    have h := h11 r hr
    have hb := (own_block h9 hr).2.1
    exact ⟨fun q => by rcases q with q | q; exact h.1 q; omega, h.2⟩
  refine ⟨e, rfl, hx'.turn, ?_⟩
  rcases hE.ways with ⟨rfl, hl', hu⟩ | ⟨rfl, hl', hu, hroom⟩ | ⟨rfl, _⟩
  · have hlast := addTo_rot_last hl hl' hff (addTo_rot_length hl.any _ _)
    have hg' := hx'.sorted
    have hur := hg'.2.1
    refine Or.inl ⟨rfl, by omega, S', l', _, _, xs, hx', hl', by omega, by omega, by omega, by omega, by rw [hdd]; exact h5, by omega, ha', hrm, ls.flatten, flatten_addTo hl.any _ _, hown', h10, hout', h12⟩
  · have hlast := addTo_rot_last hl hl' hff (Walp.rot_length _ _).2
    refine Or.inr ⟨rfl, by omega, S', l', _, _, xs, hx', hl', by omega, by omega, by omega, by omega, by rw [hdd]; exact h5, by omega, ha', hrm, ?_, ?_, hout', ?_⟩
    · rw [Walp.rot_flatten]; exact hown'
    · rw [Walp.rot_flatten]; exact h10
    · rw [Walp.rot_flatten]; omega
  · exact absurd rfl he5

/-- what is whole no crash turns -/
theorem has_crash {d : List UInt8} {first : Nat} (h : Walp.Has S d first (ls.map Walp.whole)) (kf : List UInt8 → Nat → Int) : Walp.Has (Fsp.crash S kf) d first (ls.map Walp.whole) := by
  refine ⟨h.pos, h.last, fun n h1 h2 => ?_⟩
  rw [Fsp.crash_find, h.find n h1 h2]
  split
  · rfl
  · cases hf : (ls.map Walp.whole)[n - first]? with
    | none => rfl
    | some f =>
      rw [List.getElem?_map] at hf
      obtain ⟨rs, _, rfl⟩ := Option.map_eq_some_iff.1 hf
      show some (Fsp.torn _ _) = _
      rw [Fsp.torn_same _ _ rfl]

/-- the crash, and the opening behind it -/
theorem reopen_live (hT : SumTab w0) (hx : LogX w0 w p S Q lp l) (hl : Walp.Live S l ls) (har : S.armed = 0) (hlast : l.last < 98) (hs : S.steps + 30 < 4611686018427387000) (sz : Nat) (hz1 : 16 ≤ sz) (hz2 : sz ≤ 1048576) {d : List UInt8} (hd : l.dir = d) :
    Calls Tryz.prog 13 #[.pointer (some ⟨p, 0, none⟩), .string (txt d), .int .i64 (sz : Nat)] w fun r w' => ∃ lp sp cap Q' l', r = .returned (.tuple #[.pointer (some ⟨lp, 0, none⟩), .slice sp ls.flatten.length cap, .int .i64 0]) ∧
      ListsO w' w.heap.size (.slice sp ls.flatten.length cap) ls.flatten ∧ LogX w0 w' p S Q' lp l' ∧ Walp.Live S l' ls ∧ l'.dir = d ∧ l'.size = sz ∧ l'.first = l.first ∧ l'.last = l.last ∧ (∀ b, Q' b → Q b ∨ w.heap.size ≤ b) ∧ w.heap.size ≤ lp ∧ Turn Q w w' := by
  subst hd
  obtain ⟨init, rs, rfl⟩ := Walp.snoc_of hl.any
  have hh := hl.has
  rw [List.map_append, List.map_cons, List.map_nil] at hh
  have hsr : Walp.Short rs := hl.short rs (by simp)
  have hlen := hl.last
  simp only [List.length_append, List.length_cons, List.length_nil] at hlen
  have hsc : Walp.scan (Walp.whole rs).data = rs := Walp.scan_frames_self hsr
  refine (open_segs hT hx.rep hx.newQ hx.turn l.dir hl.valid sz hz1 hz2 hl.up har hh (fun q hq => hl.short q (by simp [hq])) rfl (by omega) (by omega)).mono ?_
  rintro r w' ⟨lp', sp, cap, Q', S2, c, rfl, hls, hx', hl', hre, h1, h2, h3⟩
  have hS : S2 = S := hre.same (whole_is rs hsr)
  subst hS
  rw [hsc] at hls hl' ⊢
  exact ⟨lp', sp, cap, Q', _, rfl, hls, hx', hl', rfl, rfl, rfl, by show l.first + init.length = l.last; omega, h1, h2, h3⟩

set_option maxRecDepth 100000 in
set_option maxHeartbeats 16000000 in
theorem full_walk (hT : SumTab w) (size capacity : Int) {v : Value} {l : List (List UInt8)} (hL : ListsIn w v l) (hbl : ∀ q ∈ l, q.length ≤ 1048576) (hcb : capacity ≤ 9223372036854775807) :
    Calls Tryz.prog 7 #[.int .i64 size, .int .i64 capacity, v] w fun r w' => r = .returned (.bool true) ∧ Turn (fun _ => False) w w' := by
  obtain ⟨i0, hi, hz0, hz1, hz2⟩ := info_parts infoBytes
  obtain ⟨sp, cap, rfl, hml, hcc⟩ := hL
  have HL : Hid (ListsIn w (.slice sp l.length cap) l) := Lib.hid ⟨sp, cap, rfl, hml, hcc⟩
  have HT := Lib.hid hT
  have HBL := Lib.hid hbl
  clear hcc hT hbl
  unfold maxLen at hml
  by_cases hgood : 16 ≤ size ∧ size ≤ 1048576 ∧ 0 ≤ capacity
  · obtain ⟨hs1, hs2, hc1⟩ := hgood
    obtain ⟨sz, rfl⟩ : ∃ sz : Nat, size = (sz : Int) := ⟨size.toNat, by omega⟩
    have hsz1 : 16 ≤ sz := by omega
    have hsz2 : sz ≤ 1048576 := by omega
    have d1 : decide ((sz : Int) < 16) = false := by simp; omega
    have d2 : decide ((1048576 : Int) < (sz : Int)) = false := by simp; omega
    have d3 : decide (capacity < 0) = false := by simp; omega
    go_enter Tryz.func7, Tryz.ntmps7
    go_wp2_with fail
    go_at_call 10
    refine (first_any HT.out).mono ?_
    rintro r w1 ⟨rfl, t1⟩
    have T1 := Lib.hid t1
    clear t1
    go_wp2_with fail
    go_at_call 11
    refine (wFew_any (HL.out.turned T1.out)).mono ?_
    rintro r w2 ⟨small, rfl, hsm, hlk⟩
    have T2 := Lib.hid (Turn.like T1.out hlk)
    clear hlk T1
    cases small with
    | false =>
      go_wp2
      go_ret
      exact ⟨rfl, T2.out⟩
    | true =>
      have h60 := hsm rfl
      have H60 := Lib.hid h60
      clear hsm h60
      go_wp2_with fail
      go_at_call 12
      refine (new_any capacity _).mono ?_
      rintro r w3 ⟨rfl, hr3, ht3⟩
      have T3 := Lib.hid (T2.out.trans ht3 (fun _ _ q => q))
      have HR3 := Lib.hid hr3
      have hsz3 := T2.out.size
      have HS2 := Lib.hid hsz3
      clear ht3 hr3 hsz3
      have hop := open_new (w0 := w) HT.out HR3.out (fun i q => Nat.le_trans HS2.out q.1) T3.out [119] (by rfl) sz hsz1 hsz2 rfl rfl (by show 0 < 400; decide) (fun n _ _ => rfl) (by show 0 + 20 < _; decide)
      have HOP := Lib.hid hop
      clear hop
      go_wp2_with fail
      go_at_call 13
      refine HOP.out.mono ?_
      rintro r w4 ⟨lp, sp4, cap4, Q4, rfl, hx4, hl4, _⟩
      obtain ⟨room, hroom⟩ : ∃ room : Nat, room = (Fsp.new capacity).room := ⟨_, rfl⟩
      have hf4 : Filled w w4 w2.heap.size lp sz room 0 (.slice none 0 0) :=
        ⟨_, _, _, _, [], hx4, hl4, by show 1 ≤ 0 + 1; decide, by show 1 ≤ 0 + 1; decide, by show 1 ≤ 3 * 0 + 1; decide, rfl, rfl, rfl, rfl, hroom.symm, World.ownsRow_nil _ _ _ _, ⟨rfl, fun j q h => by simp at h⟩, fun r h => by simp [Value.ownBlock] at h, by simp⟩
      have HF4 := Lib.hid hf4
      clear hx4 hl4 HOP HR3 hf4 hroom
      go_wp2_with (go_at_call 14; refine (num_any _ _).mono ?_; rintro r w' ⟨rfl, rfl⟩)
      go_loopw [13, 14] (fun want i wr => ∃ k : Nat, k ≤ l.length ∧ i = .int .i64 k ∧ Filled w wr w2.heap.size lp sz room k want) (fun _ i _ => l.length - (intOf i).toNat)
      case atStart => exact ⟨0, Nat.zero_le _, rfl, HF4.out⟩
      case round =>
        obtain ⟨k, hk, rfl, hfl⟩ := hrel
        have HFL := Lib.hid hfl
        clear hfl
        by_cases hlt : k < l.length
        · obtain ⟨sp', cap', hv, _, hcc⟩ := HL.out
          simp only [Value.slice.injEq] at hv
          obtain ⟨rfl, _, rfl⟩ := hv
          obtain ⟨a, u, hsp, hat, hok⟩ := hcc k _ (List.getElem?_eq_getElem hlt)
          subst hsp
          have htw : Turn (fun _ => False) w wr := by
            obtain ⟨S, lg, ls, Q, xs, hx, _⟩ := HFL.out
            exact hx.turn
          have c2 := turn_cell htw hat
          have hb := HBL.out _ (List.getElem_mem hlt)
          obtain ⟨b, hbe⟩ : ∃ b, b = l[k] := ⟨_, rfl⟩
          rw [← hbe] at hok hb
          obtain ⟨F, hF⟩ : ∃ F, (Walp.frame b).length = F := ⟨_, rfl⟩
          have hF8 : F = 8 + b.length := by rw [← hF, Walp.frame_length]
          have h59 := H60.out
          obtain ⟨D, hRoom, ⟨U, hU1, hU2, hU3, hUsed⟩, happ⟩ := append_filled HT.out HFL.out (by omega) hok hb
          have HRO := Lib.hid hRoom
          have HUS := Lib.hid hUsed
          have HAP := Lib.hid happ
          have HF := Lib.hid hF
          have HF8 := Lib.hid hF8
          have HAT := Lib.hid hat
          have HOK := Lib.hid hok
          have i0' : (0 : Int) ≤ (k : Int) := by omega
          have i1 : (k : Int) < (l.length : Int) := by omega
          have u1 : (U : Int) ≤ (room : Int) := by omega
          have u2 : (room : Int) ≤ 67108864 := by omega
          have hbL : b.length ≤ 1073741824 := by omega
          clear hat htw hb hcc hlt hRoom hUsed happ hF hF8 hU1 hU2 h59 hbe
          go_wp2_with (first | (go_at_call 42; refine (HRO.out _ rfl).mono ?_; rintro r w' ⟨rfl, rfl⟩) | (go_at_call 43; refine (HUS.out _ rfl).mono ?_; rintro r w' ⟨rfl, rfl⟩))
          go_at_call 16
          refine HAP.out.mono ?_
          rintro r w6 ⟨e, rfl, t6, hway⟩
          have T6 := Lib.hid t6
          have c6 := turn_cell t6 HAT.out
          have hfr := refFrame_any (w := w6) ((HOK.out.turned t6).c.toR) (HOK.out.turned t6).b hbL
          rw [HF.out] at hfr
          have HFR := Lib.hid hfr
          clear t6 hfr c2
          rcases hway with ⟨he, hfit, S, lg, ls, Q, xs, hx, hl, q1, q2, q3, q4, q5, q6, q7, q8, m, hm, hown, hheld, hout, hmk⟩ | ⟨he, hnot, hfl'⟩
          · subst he
            have iF : (F : Int) ≤ (D : Int) := by have := HF8.out; omega
            obtain ⟨spu, capu, hu, _⟩ := HOK.out.c
            have HX := Lib.hid hx
            have HLV := Lib.hid hl
            have HM := Lib.hid hm
            have HO := Lib.hid hown
            have HH := Lib.hid hheld
            have HOUT := Lib.hid hout
            have HQS := Lib.hid (show lg.last ≤ k + 2 ∧ S.L.length ≤ k + 2 ∧ S.steps ≤ 3 * (k + 1) + 1 ∧ lg.size = sz ∧ lg.dir = [119] ∧ lg.first = 1 ∧ S.armed = 0 ∧ S.room = room ∧ m.length ≤ k from ⟨q1, q2, q3, q4, q5, q6, q7, q8, hmk⟩)
            subst hu
            clear hx hl hm hown hheld hout q1 q2 q3 q4 q5 q6 q7 q8 hfit hmk
            go_wp2_with (go_at_call 14; refine (num_any _ _).mono ?_; rintro r w' ⟨rfl, rfl⟩)
            go_at_call 26
            refine HFR.out.mono ?_
            rintro r w7 ⟨sp7, cap7, rfl, _, t7⟩
            have c7 := turn_cell t7 c6
            have HO7 := Lib.hid (ownsRow_turned HO.out t7 (fun _ _ q => q))
            have HX7 := Lib.hid (HX.out.later t7)
            have hsz7 := HX7.out.turn.size
            have HS7 := Lib.hid hsz7
            have hmk' := HQS.out.2.2.2.2.2.2.2.2
            clear t7 c6 hsz7
            go_wp2_with (at_builtin; refine wpList_append_own_at _ rfl _ _ 22 rfl w.heap.size 37 i0 (.slice none 0 0) 1 24 Tryz.underlying22 hi hz0 hz1 hz2 rfl (by decide) u13 _ _ rfl (HO7.out.alloc _) ⟨w7.heap.size, 0, none⟩ 1 1 [.slice spu b.length capu] rfl rfl (cell_one_new _ _ _) (by simp [Value.oneCell']) (by have := H60.out; unfold maxLen; omega) (by have := H60.out; omega) (by have := HS7.out; simp; omega) ?_; intro v' w8 hown' hg8 hnil8 hblk; go_frame)
            have ht8 : Turn (fun i => u13.ownBlock = some i) w7 w8 := ((Turn.refl _ w7).alloc _).grown hg8 (fun j e => Or.inl e)
            have hx8 : LogX w w8 w2.heap.size S Q lp lg := HX7.out.besides ht8 (fun i e => ⟨(HOUT.out i e).1, (HOUT.out i e).2, (own_block HO7.out e).1⟩)
            have hfin : Filled w w8 w2.heap.size lp sz room (k + 1) v' := by
              obtain ⟨q1, q2, q3, q4, q5, q6, q7, q8, q9⟩ := HQS.out
              refine ⟨S, lg, ls, Q, xs ++ [.slice spu b.length capu], hx8, HLV.out, by omega, by omega, by omega, q4, q5, q6, q7, q8, ?_, ?_, ?_, ?_⟩
              · rw [HM.out, List.length_append]; exact hown'
              · rw [HM.out]; exact HH.out.snoc HOK.out
              · intro r hr
                rcases hblk with e | e
                · exact HOUT.out r (by rw [← e]; exact hr)
                · rw [hr] at e
                  have e' : r = w7.heap.size + 1 := by simpa using e
                  refine ⟨fun q => ?_, fun q => ?_⟩
                  · have := HX7.out.rep.lt r q; omega
                  · have := HX7.out.log.lt; omega
              · rw [HM.out, List.length_append]; simp; omega
            have HFIN := Lib.hid hfin
            clear hfin hx8 ht8 hg8 hown' hmk'
            go_roundw
            case rel => exact ⟨k + 1, by omega, by go_num, HFIN.out⟩
            case measure => simp [intOf]; omega
          · subst he
            have iF : (D : Int) < (F : Int) := by have := HF8.out; omega
            have HFL' := Lib.hid hfl'
            clear hfl' hnot
            go_wp2_with (first | (go_at_call 14; refine (num_any _ _).mono ?_; rintro r w' ⟨rfl, rfl⟩) | (go_at_call 26; refine HFR.out.mono ?_; rintro r w7 ⟨sp7, cap7, rfl, _, t7⟩; have T7 := Lib.hid t7; clear t7))
            have hfin : Filled w w7 w2.heap.size lp sz room (k + 1) u13 := by
              obtain ⟨S, lg, ls, Q, xs, hx, hl, q1, q2, q3, q4, q5, q6, q7, q8, q9, q10, q11, q12⟩ := HFL'.out
              exact ⟨S, lg, ls, Q, xs, hx.later T7.out, hl, q1, q2, q3, q4, q5, q6, q7, q8, ownsRow_turned q9 T7.out (fun _ _ q => q), q10, q11, q12⟩
            have HFIN := Lib.hid hfin
            clear hfin
            go_roundw
            case rel => exact ⟨k + 1, by omega, by go_num, HFIN.out⟩
            case measure => simp [intOf]; omega
        · have hk0 : k = l.length := by omega
          subst hk0
          obtain ⟨S, lg, ls, Q, xs, hx, hl, q1, q2, q3, q4, q5, q6, q7, q8, q9, q10, q11, q12⟩ := HFL.out
          have h59 := H60.out
          have HX := Lib.hid hx
          have HLV := Lib.hid hl
          have hsh0 := live_short hl
          have hre := fun (w' : World) (Q' : Nat → Prop) (hx' : LogX w w' w2.heap.size (Fsp.crash S (fun _ _ => 0)) Q' lp lg) (hl' : Walp.Live (Fsp.crash S (fun _ _ => 0)) lg ls) => reopen_live HT.out hx' hl' rfl (by omega) (by show S.steps + 30 < _; omega) sz hsz1 hsz2 q5
          generalize ls.flatten = L0 at q9 q10 q12 hsh0 hre
          have HRE := Lib.hid hre
          have HSH := Lib.hid hsh0
          have HMX := Lib.hid (show L0.length ≤ maxLen by unfold maxLen; omega)
          have HO := Lib.hid q9
          have HH := Lib.hid q10
          have HOUT := Lib.hid q11
          clear hx hl q1 q2 q3 q4 q5 q6 q7 q8 q9 q10 q11 q12 hlt h59 hk hsh0 hre
          go_wp2_with fail
          go_at_call 17
          refine (HX.out.crashNil).mono ?_
          rintro r w5 ⟨rfl, hx5, t5⟩
          have X5 := Lib.hid hx5
          have L5 : Hid (Walp.Live (Fsp.crash S (fun _ _ => 0)) lg ls) := Lib.hid ⟨has_crash HLV.out.has _, HLV.out.last, HLV.out.any, HLV.out.short, rfl, HLV.out.free, HLV.out.valid⟩
          have O5 := Lib.hid (ownsRow_turned HO.out t5 (fun r hr q => (HOUT.out r hr).1 q))
          have hout5 : ∀ r, u13.ownBlock = some r → ¬ Grow Q wr w5 r := fun r hr q => by
            have hb := (own_block HO.out hr).2.1
            rcases q with q | q
            · exact (HOUT.out r hr).1 q
            · omega
          have OUT5 := Lib.hid hout5
          have hop := HRE.out _ _ X5.out L5.out
          have HOP := Lib.hid hop
          clear hx5 t5 hout5 hop
          go_wp2_with fail
          go_at_call 13
          refine HOP.out.mono ?_
          rintro r w6 ⟨lp6, sp6, cap6, Q6, l6, rfl, hls6, hx6, _, _, _, _, _, _, _, t6⟩
          have O6 := ownsRow_turned O5.out t6 (fun r hr q => OUT5.out r hr q)
          have R6 := Lib.hid (held_R O6 HH.out rfl hx6.turn)
          have A6 := Lib.hid hls6.toR
          have T6 := Lib.hid hx6.turn
          clear hls6 hx6 t6 O6 HOP
          go_wp2_with (go_at_call 14; refine (num_any _ _).mono ?_; rintro r w' ⟨rfl, rfl⟩)
          go_at_call 20
          refine (sameLists_any A6.out R6.out HMX.out HMX.out HSH.out HSH.out).mono ?_
          rintro r w7 ⟨rfl, hlk⟩
          rw [decide_eq_true rfl]
          go_wp2_with fail
          go_ret
          exact ⟨rfl, Turn.like T6.out hlk⟩
  · have hTT := HT
    go_enter Tryz.func7, Tryz.ntmps7
    go_wp2_with fail
    go_at_call 10
    refine (first_any HT.out).mono ?_
    rintro r w1 ⟨rfl, t1⟩
    have T1 := Lib.hid t1
    clear t1
    go_wp2_with fail
    go_at_call 11
    refine (wFew_any (HL.out.turned T1.out)).mono ?_
    rintro r w2 ⟨small, rfl, hsm, hlk⟩
    have T2 := Lib.hid (Turn.like T1.out hlk)
    clear hlk T1 hsm
    cases small with
    | false =>
      clear hgood
      go_wp2
      go_ret
      exact ⟨rfl, T2.out⟩
    | true =>
      by_cases g1 : size < 16
      · clear hgood
        go_wp2
        go_ret
        exact ⟨rfl, T2.out⟩
      · by_cases g2 : 1048576 < size
        · clear hgood
          go_wp2
          go_ret
          exact ⟨rfl, T2.out⟩
        · have g3 : capacity < 0 := by omega
          clear hgood
          go_wp2
          go_ret
          exact ⟨rfl, T2.out⟩
end
end Go.Proofs.YtkhlejficonhpaaGreatDoor
