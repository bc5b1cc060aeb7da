/-
  WalStuck: the walk.
-/
import Derived.Test.YtkhlejficonhpaaGreatDoorWJ
import Derived.Test.YtkhlejficonhpaaGreatDoorWH
import Derived.Test.YtkhlejficonhpaaGreatDoorFsE
namespace Go.Proofs.YtkhlejficonhpaaGreatDoor
open Go.RowKit Go.Maps Go.WideMaps

/-- a log that lives, behind so many appends -/
def Living (w0 w : World) (p lp : Nat) (sz : Nat) (k : Nat) : Prop :=
  ∃ S l ls Q, LogX w0 w p S Q lp l ∧ Walp.Live S l ls ∧ l.last ≤ k + 1 ∧ S.L.length ≤ k + 1 ∧ S.steps ≤ 3 * k + 1 ∧ l.size = sz

section
variable {w0 w w' : World} {p lp : Nat} {S S' : Fsp.Fs} {Q : Nat → Prop} {l l' : Walp.Lg} {ls ls' : List (List (List UInt8))}

theorem addTo_rot_last (h : Walp.Live S l ls) (h' : Walp.Live S' l' ls') (hf : l'.first = l.first) (hls : ls'.length ≤ ls.length + 1) : l'.last ≤ l.last + 1 := by
  have h1 := h.last
  have h2 := h'.last
  omega

theorem addTo_rot_length (h : 0 < ls.length) (sz : Nat) (b : List UInt8) : (Walp.addTo (Walp.rot sz ls) b).length ≤ ls.length + 1 := by
  have h1 := Walp.rot_length sz ls
  rw [Walp.addTo_length (by omega)]
  exact h1.2

/-- an append, told as what lives or is stuck -/
theorem append_told (hT : SumTab w0) {sz k : Nat} (h : Living w0 w p lp sz k) (hk : k < 90) {u : Value} {b : List UInt8} (hb : BytesIn w0 u b) (hbl : b.length ≤ 1048576) :
    Calls Tryz.prog 16 #[.pointer (some ⟨lp, 0, none⟩), u] w fun r w' => ∃ e : Nat, r = .returned (.int .i64 (e : Int)) ∧ ((e ≠ 5 ∧ Living w0 w' p lp sz (k + 1)) ∨ (e = 5 ∧ ∃ S' l' Q', LogX w0 w' p S' Q' lp l' ∧ S'.down = true ∧ l'.stuck = true)) := by
  obtain ⟨S, l, ls, Q, hx, hl, h1, h2, h3, h4⟩ := h
  refine (append_live hT hx hl (by omega) (by omega) (by omega) hb hbl).mono ?_
  rintro r w' ⟨S', l', e, rfl, hE, hp⟩
  obtain ⟨hx', _⟩ := hp
  refine ⟨e, rfl, ?_⟩
  have hm := hE.more
  have hst := hE.steps
  have hsz := hE.hsize
  have hff := hE.hfirst
  rcases hE.ways with ⟨rfl, hl', _⟩ | ⟨rfl, hl', _⟩ | ⟨rfl, hd, hs, _⟩
  · have := addTo_rot_last hl hl' hff (addTo_rot_length hl.any _ _)
    exact Or.inl ⟨by decide, S', l', _, _, hx', hl', by omega, by omega, by omega, by omega⟩
  · have := addTo_rot_last hl hl' hff (Walp.rot_length _ _).2
    exact Or.inl ⟨by decide, S', l', _, _, hx', hl', by omega, by omega, by omega, by omega⟩
  · exact Or.inr ⟨rfl, S', l', _, hx', hd, hs⟩

theorem rem9 (n : Int) : ∃ N : Nat, 1 ≤ N ∧ N ≤ 9 ∧ Int.tmod n 9 % 9 + 1 = (N : Int) ∧ -9 < Int.tmod n 9 ∧ Int.tmod n 9 < 9 ∧ 0 ≤ Int.tmod (Int.tmod n 9 + 9) 9 ∧ Int.tmod (Int.tmod n 9 + 9) 9 < 9 := by
  have h1 := Int.lt_tmod_of_pos n (show (0 : Int) < 9 by decide)
  have h2 := Int.tmod_lt_of_pos n (show (0 : Int) < 9 by decide)
  have h3 := Int.tmod_nonneg (a := Int.tmod n 9 + 9) 9 (by omega)
  have h4 := Int.tmod_lt_of_pos (Int.tmod n 9 + 9) (show (0 : Int) < 9 by decide)
  exact ⟨(Int.tmod n 9 % 9 + 1).toNat, by omega, by omega, by omega, h1, h2, h3, h4⟩

/-- a crash that keeps nothing that was not synced -/
theorem LogX.crashNil (hx : LogX w0 w p S Q lp l) :
    Calls Tryz.prog 17 #[.pointer (some ⟨p, 0, none⟩), .nilFunc] w fun r w' => r = .returned (.tuple #[]) ∧ LogX w0 w' p (Fsp.crash S (fun _ _ => 0)) (Grow Q w w') lp l ∧ Turn Q w w' := by
  obtain ⟨mo, pl, hr⟩ := hx.rep
  refine (crash_any keeper_nil (l := []) trivial (fun b q => q.elim) hr).mono ?_
  rintro r w2 ⟨rfl, h1, _, h3⟩
  have h3' : Turn Q w w2 := h3.mono (fun i q => q.elim id (fun x => x.elim))
  exact ⟨rfl, hx.post ⟨h1, h3'⟩, h3'⟩

theorem LogX.arm (hx : LogX w0 w p S Q lp l) (k : Nat) (hk : k ≤ 1000) :
    Calls Tryz.prog 15 #[.pointer (some ⟨p, 0, none⟩), .int .i64 (k : Int)] w fun r w' => r = .returned (.tuple #[]) ∧ LogX w0 w' p { S with armed := k } (Grow Q w w') lp l := by
  obtain ⟨mo, pl, hr⟩ := hx.rep
  refine (arm_any hr (k : Int) (by omega)).mono ?_
  rintro r w2 ⟨rfl, h1⟩
  have := hx.post h1
  exact ⟨rfl, this⟩

theorem steps_log (hx : LogX w0 w p S Q lp l) : Calls Tryz.prog 41 #[.pointer (some ⟨p, 0, none⟩)] w fun r w' => r = .returned (.int .i64 (S.steps : Nat)) ∧ w = w' := by
  obtain ⟨mo, pl, hr⟩ := hx.rep
  exact steps_is hr

set_option maxRecDepth 100000 in
set_option maxHeartbeats 2000000 in
theorem stuck_walk (hT : SumTab w) {v : Value} {l : List (List UInt8)} (hL : ListsIn w v l) (hbl : ∀ q ∈ l, q.length ≤ 1048576) (arm : Int) :
    Calls Tryz.prog 8 #[v, .int .i64 arm] w fun r w' => r = .returned (.bool true) ∧ Turn (fun _ => False) w w' := by
  have kc := fun (w : World) (C : Array Value) (n c : Nat) => Lib.run_convert_bytes_const (P := Tryz.prog) w 37 5 C n c Tryz.underlying37 Tryz.underlying5
  obtain ⟨sp, cap, rfl, hml, hcc⟩ := hL
  have HL : Hid (ListsIn w (.slice sp l.length cap) l) := Lib.hid ⟨sp, cap, rfl, hml, hcc⟩
  have HT := Lib.hid hT
  have HBL := Lib.hid hbl
  clear hcc hT hbl
  unfold maxLen at hml
  obtain ⟨N, hN1, hN2, hN3, hN4, hN5, hN6, hN7⟩ := rem9 arm
  go_enter Tryz.func8, Tryz.ntmps8
  go_wp2_with fail
  go_at_call 10
  refine (first_any HT.out).mono ?_
  rintro r w1 ⟨rfl, t1⟩
  have T1 := Lib.hid t1
  clear t1
  go_wp2_with fail
  go_at_call 11
  refine (wFew_any (HL.out.turned T1.out)).mono ?_
  rintro r w2 ⟨small, rfl, hsm, hlk⟩
  have T2 := Lib.hid (Turn.like T1.out hlk)
  clear hlk T1
  cases small with
  | false =>
    go_wp2
    go_ret
    exact ⟨rfl, T2.out⟩
  | true =>
    have h60 := hsm rfl
    have H60 := Lib.hid h60
    clear hsm h60
    go_wp2_with fail
    go_at_call 12
    refine (new_any 67108864 _).mono ?_
    rintro r w3 ⟨rfl, hr3, ht3⟩
    have T3 := Lib.hid (T2.out.trans ht3 (fun _ _ q => q))
    have HR3 := Lib.hid hr3
    have hsz2 := T2.out.size
    have HS2 := Lib.hid hsz2
    clear ht3 hr3 hsz2
    have hop := open_new (w0 := w) HT.out HR3.out (fun i q => Nat.le_trans HS2.out q.1) T3.out [119] (by rfl) 64 (by decide) (by decide) rfl rfl (by decide) (fun n _ _ => rfl) (by decide)
    have HOP := Lib.hid hop
    clear hop
    go_wp2_with fail
    go_at_call 13
    refine HOP.out.mono ?_
    rintro r w4 ⟨lp, sp4, cap4, Q4, rfl, hx4, hl4, _⟩
    have X4 := Lib.hid hx4
    have L4 := Lib.hid hl4
    clear hx4 hl4 HOP HR3
    go_wp2_with (go_at_call 14; refine (num_any _ _).mono ?_; rintro r w' ⟨rfl, rfl⟩)
    go_at_call 15
    refine (X4.out.arm N (by omega)).mono ?_
    rintro r w5 ⟨rfl, hx5⟩
    have hl5 : Living w w5 w2.heap.size lp 64 0 := ⟨_, _, _, _, hx5, ⟨L4.out.has.same rfl, L4.out.last, L4.out.any, L4.out.short, L4.out.up, L4.out.free, L4.out.valid⟩, by show 1 ≤ 0 + 1; decide, by show 1 ≤ 0 + 1; decide, by show 1 ≤ 3 * 0 + 1; decide, rfl⟩
    have HL5 := Lib.hid hl5
    clear hx5 hl5 X4 L4 hN3 hN4 hN5 hN6 hN7
    go_wp2_with fail
    go_loopw [11] (fun i wr => ∃ k : Nat, k ≤ l.length ∧ i = .int .i64 k ∧ Living w wr w2.heap.size lp 64 k) (fun i _ => l.length - (intOf i).toNat)
    case atStart => exact ⟨0, Nat.zero_le _, rfl, HL5.out⟩
    case round =>
      obtain ⟨k, hk, rfl, hlv⟩ := hrel
      have HLV := Lib.hid hlv
      clear hlv
      by_cases hlt : k < l.length
      · obtain ⟨sp', cap', hv, _, hcc⟩ := HL.out
        simp only [Value.slice.injEq] at hv
        obtain ⟨rfl, _, rfl⟩ := hv
        obtain ⟨a, u, hsp, hat, hok⟩ := hcc k _ (List.getElem?_eq_getElem hlt)
        subst hsp
        have htw : Turn (fun _ => False) w wr := by
          obtain ⟨S, lg, ls, Q, hx, _⟩ := HLV.out
          exact hx.turn
        have c2 := turn_cell htw hat
        have hb := HBL.out _ (List.getElem_mem hlt)
        have htold := append_told HT.out HLV.out (by have := H60.out; omega) hok hb
        have HTO := Lib.hid htold
        have i0 : (0 : Int) ≤ (k : Int) := by omega
        have i1 : (k : Int) < (l.length : Int) := by omega
        clear hat hok htw hb htold hcc hlt
        go_wp2_with fail
        go_at_call 16
        refine HTO.out.mono ?_
        rintro r w6 ⟨e, rfl, he⟩
        rcases he with ⟨h5, hlv'⟩ | ⟨h5, S', lg', Q', hx6, hd6, hs6⟩
        · have b5 : ((e : Int) == 5) = false := by rw [beq_eq_false_iff_ne]; omega
          have HLV' := Lib.hid hlv'
          clear hlv' h5
          go_wp2_with (go_at_call 14; refine (num_any _ _).mono ?_; rintro r w' ⟨rfl, rfl⟩)
          go_roundw
          case rel => exact ⟨k + 1, by omega, by go_num, HLV'.out⟩
          case measure => simp [intOf]; omega
        · subst h5
          have X6 := Lib.hid hx6
          have D6 := Lib.hid hd6
          have S6 := Lib.hid hs6
          clear hx6 hd6 hs6
          go_wp2_with (go_at_call 14; refine (num_any _ _).mono ?_; rintro r w' ⟨rfl, rfl⟩)
          go_at_call 44
          refine (down_rep X6.out.rep D6.out).mono ?_
          rintro r w' ⟨rfl, rfl⟩
          go_wp2_with fail
          go_at_call 17
          refine (X6.out.crashNil).mono ?_
          rintro r w7 ⟨rfl, hx7, _⟩
          have X7 := Lib.hid hx7
          clear hx7
          go_wp2_with fail
          go_at_call 41
          refine (steps_log X7.out).mono ?_
          rintro r w' ⟨rfl, rfl⟩
          go_wp2_with fail
          go_at_call 16
          refine (app_stuck (X7.out.later (turnBox _ _)) S6.out _).mono ?_
          rintro r w8 ⟨rfl, rfl⟩
          go_wp2_with fail
          go_at_call 32
          refine (rotate_stuck (X7.out.later (turnBox _ _)) S6.out).mono ?_
          rintro r w' ⟨rfl, rfl⟩
          go_wp2_with fail
          go_at_call 33
          refine (drop_stuck (X7.out.later (turnBox _ _)) S6.out 1).mono ?_
          rintro r w' ⟨rfl, rfl⟩
          go_wp2_with (first | (go_at_call 14; refine (num_any _ _).mono ?_; rintro r w' ⟨rfl, rfl⟩) | (go_at_call 41; refine (steps_log (X7.out.later (turnBox _ _))).mono ?_; rintro r w' ⟨rfl, rfl⟩))
          go_ret
          exact ⟨rfl, (X7.out.later (turnBox _ _)).turn⟩
      · have hk0 : k = l.length := by omega
        subst hk0
        obtain ⟨S, lg, ls, Q, hx, hlive, _⟩ := HLV.out
        have X := Lib.hid hx
        have hup := hlive.up
        have UP := Lib.hid hup
        clear hx hlive hup hlt
        go_wp2_with fail
        go_at_call 44
        refine (down_rep X.out.rep UP.out).mono ?_
        rintro r w' ⟨rfl, rfl⟩
        go_wp2_with fail
        go_ret
        exact ⟨rfl, X.out.turn⟩
end
end Go.Proofs.YtkhlejficonhpaaGreatDoor
