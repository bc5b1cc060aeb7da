/-
  WalKept: the walk (written by gen_kept.py).
-/
import Derived.Test.YtkhlejficonhpaaGreatDoorWKeep
namespace Go.Proofs.YtkhlejficonhpaaGreatDoor
open Go.RowKit Go.Maps Go.WideMaps

/-- a crash that came in: where a step fails, what is kept; its cells, from an address on -/
structure CrashAt (w : World) (a : Addr) (x : Int × Int) : Prop where
  c0 : w.cell? a = some (.int .i64 x.1)
  c1 : w.cell? ⟨a.block, a.off + 1, none⟩ = some (.int .i64 x.2)

def CrashesIn (w : World) (v : Value) (cs : List (Int × Int)) : Prop :=
  ∃ sp cap, v = .slice sp cs.length cap ∧ cs.length ≤ maxLen ∧ ∀ (i : Nat) (x : Int × Int), cs[i]? = some x → (∃ a, sp = some a ∧ CrashAt w (a.add (i * 2)) x) ∧ x.1 ≤ 9223372036854775807

section
variable {w0 w w' : World} {p lp : Nat} {S S' : Fsp.Fs} {Q : Nat → Prop} {l l' : Walp.Lg} {ls : List (List (List UInt8))}

theorem CrashesIn.turned {v : Value} {cs : List (Int × Int)} (h : CrashesIn w v cs) (ht : Turn (fun _ => False) w w') : CrashesIn w' v cs := by
  obtain ⟨sp, cap, hv, hm, hc⟩ := h
  refine ⟨sp, cap, hv, hm, fun i x hx => ?_⟩
  obtain ⟨⟨a, e, ha⟩, hb⟩ := hc i x hx
  exact ⟨⟨a, e, turn_cell ht ha.c0, turn_cell ht ha.c1⟩, hb⟩

/-- the crash, by what its box holds, and the opening -/
theorem stopped_crash {k j : Nat} {v : Value} {want : List (List UInt8)} {maybe : Option (List UInt8)} (h : Stopped w0 w p lp k j v want maybe) {w1 : World} {bx : Nat} (hbx : bx = w.heap.size) (t1 : Turn (fun b => b = bx) w w1) {n : Int} (hX : w1.heap[bx]? = some (.cells #[.int .i64 n] 3 (0, 0))) :
    Calls Tryz.prog 17 #[.pointer (some ⟨p, 0, none⟩), .func (.func 18) #[] #[.pointer (some ⟨bx, 0, none⟩)]] w1 fun r w' => r = .returned (.tuple #[]) ∧
      ∃ S l Q xs init f, LogX w0 w' p S Q lp l ∧ Walp.Has S [119] 1 (init.map Walp.whole ++ [f]) ∧ (∀ rs ∈ init, Walp.Short rs) ∧ f.synced = f.data.length ∧ init.length ≤ k ∧
        ((init ++ [Walp.scan f.data]).flatten = want ∨ ∃ q, maybe = some q ∧ (init ++ [Walp.scan f.data]).flatten = want ++ [q]) ∧ S.down = false ∧ S.armed = 0 ∧ S.L.length ≤ k + 1 ∧ S.steps ≤ 3 * k + 2 * j + 1 ∧
        w'.ownsRow w0.heap.size 37 1 v want.length xs ∧ Held w0 xs want ∧ (∀ r, v.ownBlock = some r → ¬ Q r ∧ r < w'.heap.size) := by
  obtain ⟨S, l, Q, xs, hx, hv, hrd, h1, h2, h3, h4, h5, h6, h7, h8⟩ := h
  subst hbx
  have hql := hx.rep.lt
  have hll := hx.log.lt
  have hsz := hx.turn.size
  have hx1 : LogX w0 w1 p S Q lp l := hx.besides t1 (fun b e => by
    have e' : b = w.heap.size := e
    subst e'
    exact ⟨fun q => by have := hql _ q; omega, by omega, hsz⟩)
  have hr1 : w1.ownsRow w0.heap.size 37 1 v want.length xs := ownsRow_turned h3 t1 (fun r hr e => by
    have := (own_block h3 hr).2.1
    have e' : r = w.heap.size := e
    omega)
  refine (hx1.crashBox hX hsz (fun q => by have := hql _ q; omega) (by omega)).mono ?_
  rintro r w2 ⟨rfl, hx2, t2⟩
  obtain ⟨init, f, g1, g2, g3, g4, g5⟩ := hrd (fun s _ => keepOf n s)
  have s1 := t1.size
  refine ⟨rfl, _, l, _, xs, init, f, hx2, g1, g2, g3, g4, g5, rfl, rfl, ?_, h2, ownsRow_turned hr1 t2 (fun r hr q => ?_), h4, fun r hr => ⟨fun q => ?_, ?_⟩⟩
  · show (Fsp.crash S _).L.length ≤ _
    rw [Fsp.crash_L, List.length_map]; exact h1
  · have := (own_block h3 hr).2.1
    rcases q with q | q
    · exact (h5 r hr).1 q
    · have e' : r = w.heap.size := q
      omega
  · have hb := (own_block h3 hr).2.1
    rcases q with q | q
    · exact (h5 r hr).1 q
    · omega
  · have hb := (own_block h3 hr).2.1
    have := t2.size
    omega

theorem stopped_shape {k j : Nat} {v : Value} {want : List (List UInt8)} {maybe : Option (List UInt8)} (h : Stopped w0 w p lp k j v want maybe) : ∃ sp cap, v = .slice sp want.length cap := by
  obtain ⟨S, l, Q, xs, _, _, _, _, _, h3, h4, _⟩ := h
  obtain ⟨sp, cap, hv, _⟩ := own_cell h3 (h4.1)
  exact ⟨sp, cap, hv⟩

set_option maxRecDepth 100000 in
set_option maxHeartbeats 16000000 in
theorem kept_walk (hT : SumTab w) (size capacity : Int) {v v2 : Value} {l : List (List UInt8)} (hL : ListsIn w v l) (hbl : ∀ q ∈ l, q.length ≤ 1048576) {cs : List (Int × Int)} (hC : CrashesIn w v2 cs) :
    Calls Tryz.prog 3 #[.int .i64 size, .int .i64 capacity, v, v2] w fun r w' => r = .returned (.bool true) ∧ Turn (fun _ => False) w w' := by
  have hmf : ∀ (fn : Fn) (first cap : Array Value) (w : World), (Instr.makeFunc fn first cap).run Tryz.prog w = .ok (.func fn first cap) w := fun _ _ _ _ => rfl
  obtain ⟨i0, hi, hz0, hz1, hz2⟩ := info_parts infoBytes
  obtain ⟨sp, cap, rfl, hml, hcc⟩ := hL
  obtain ⟨spc, capc, rfl, hmc, hccc⟩ := hC
  have HL : Hid (ListsIn w (.slice sp l.length cap) l) := Lib.hid ⟨sp, cap, rfl, hml, hcc⟩
  have HC : Hid (CrashesIn w (.slice spc cs.length capc) cs) := Lib.hid ⟨spc, capc, rfl, hmc, hccc⟩
  have HT := Lib.hid hT
  have HBL := Lib.hid hbl
  clear hcc hT hbl hccc
  unfold maxLen at hml hmc
  go_enter Tryz.func3, Tryz.ntmps3
  go_wp2_with fail
  go_at_call 10
  refine (first_any HT.out).mono ?_
  rintro r w1 ⟨rfl, t1⟩
  have T1 := Lib.hid t1
  clear t1
  go_wp2_with fail
  go_at_call 11
  refine (wFew_any (HL.out.turned T1.out)).mono ?_
  rintro r w2 ⟨small, rfl, hsm, hlk⟩
  have T2 := Lib.hid (Turn.like T1.out hlk)
  clear hlk T1
  cases small with
  | false =>
    clear hsm
    go_wp2
    go_ret
    exact ⟨rfl, T2.out⟩
  | true =>
    have H60 := Lib.hid (hsm rfl)
    clear hsm
    by_cases hgood : cs.length ≤ 20 ∧ 16 ≤ size ∧ size ≤ 1048576 ∧ 0 ≤ capacity
    · obtain ⟨hc20, hs1, hs2, hc1⟩ := hgood
      obtain ⟨sz, rfl⟩ : ∃ sz : Nat, size = (sz : Int) := ⟨size.toNat, by omega⟩
      have hsz1 : 16 ≤ sz := by omega
      have hsz2 : sz ≤ 1048576 := by omega
      have d0 : decide (20 < cs.length) = false := by simp; omega
      have d0' : decide ((20 : Int) < (cs.length : Int)) = false := by simp; omega
      have d1 : decide ((sz : Int) < 16) = false := by simp; omega
      have d2 : decide ((1048576 : Int) < (sz : Int)) = false := by simp; omega
      have d3 : decide (capacity < 0) = false := by simp; omega
      go_wp2_with fail
      go_at_call 12
      refine (new_any capacity _).mono ?_
      rintro r w3 ⟨rfl, hr3, ht3⟩
      have T3 := Lib.hid (T2.out.trans ht3 (fun _ _ q => q))
      have HR3 := Lib.hid hr3
      have hsz3 := T2.out.size
      have HS2 := Lib.hid hsz3
      clear ht3 hr3 hsz3
      have hop := open_new (w0 := w) HT.out HR3.out (fun i q => Nat.le_trans HS2.out q.1) T3.out [119] (by rfl) sz hsz1 hsz2 rfl rfl (by show 0 < 400; decide) (fun n _ _ => rfl) (by show 0 + 20 < _; decide)
      have HOP := Lib.hid hop
      clear hop
      go_wp2_with fail
      go_at_call 13
      refine HOP.out.mono ?_
      rintro r w4 ⟨lp0, sp4, cap4, Q4, rfl, hx4, hl4, _⟩
      have hf4 : KeptAt w w4 w2.heap.size lp0 sz 0 0 (.slice none 0 0) :=
        ⟨_, _, _, _, [], hx4, hl4, by show 1 ≤ 0 + 1; decide, by show 1 ≤ 0 + 1; decide, by show 1 ≤ 3 * 0 + 2 * 0 + 1; decide, rfl, rfl, rfl, World.ownsRow_nil _ _ _ _, ⟨rfl, fun j q h => by simp at h⟩, fun r h => by simp [Value.ownBlock] at h, by simp⟩
      have HF4 := Lib.hid hf4
      clear hx4 hl4 HOP HR3 hf4
      go_wp2_with (go_at_call 14; refine (num_any _ _).mono ?_; rintro r w' ⟨rfl, rfl⟩)
      go_loopw [12, 15, 16, 17] (fun lgv want nx i wr => ∃ k j lp : Nat, k ≤ l.length ∧ j ≤ cs.length + 1 ∧ lgv = .pointer (some ⟨lp, 0, none⟩) ∧ nx = .int .i64 k ∧ i = .int .i64 j ∧ KeptAt w wr w2.heap.size lp sz k j want) (fun _ _ _ i _ => cs.length + 1 - (intOf i).toNat)
      case atStart => exact ⟨0, 0, lp0, Nat.zero_le _, Nat.zero_le _, rfl, rfl, rfl, HF4.out⟩
      case round =>
        obtain ⟨k, j, lp, hk, hj, rfl, rfl, rfl, hst⟩ := hrel
        have HST := Lib.hid hst
        clear hst
        have k60 : (k : Int) ≤ 60 := by have := H60.out; omega
        by_cases hj1 : j ≤ cs.length
        · have i1 : (j : Int) ≤ (cs.length : Int) := by omega
          by_cases hj2 : j < cs.length
          · have i2 : (j : Int) < (cs.length : Int) := by omega
            have i3 : (0 : Int) ≤ (j : Int) := by omega
            obtain ⟨spx, capx, hv, _, hccc⟩ := HC.out
            simp only [Value.slice.injEq] at hv
            obtain ⟨rfl, _, rfl⟩ := hv
            obtain ⟨⟨ac, hsp, hat⟩, hab⟩ := hccc j _ (List.getElem?_eq_getElem hj2)
            subst hsp
            obtain ⟨⟨arm, keep⟩, hcx⟩ : ∃ x, x = cs[j] := ⟨_, rfl⟩
            rw [← hcx] at hat hab
            have HAT := Lib.hid hat
            have HAB := Lib.hid hab
            have ca := turn_cell HST.out.turn hat.c0
            clear hat hab hcx hccc hj2
            go_wp2_with fail
            go_at_call 15
            refine (HST.out.arm arm HAB.out).mono ?_
            rintro r w5 ⟨rfl, hst5⟩
            have HST5 := Lib.hid hst5
            clear hst5 ca
            obtain ⟨stopn, hstop⟩ : ∃ stopn : Nat, min ((k : Int) + 10) (l.length : Int) = (stopn : Int) := ⟨min (k + 10) l.length, by omega⟩
            have hsl : stopn ≤ l.length := by omega
            have hks : k ≤ stopn := by omega
            have HKS := Lib.hid hks
            have HSL := Lib.hid hsl
            clear hks hsl
            go_wp2_with fail
            go_loopw [15, 16, 18] (fun want nx mb wr => ∃ k' : Nat, k ≤ k' ∧ k' ≤ stopn ∧ nx = .int .i64 k' ∧ mb = .int .i64 (-1) ∧ KeptAt w wr w2.heap.size lp sz k' j want) (fun _ nx _ _ => stopn - (intOf nx).toNat)
            case atStart => exact ⟨k, Nat.le_refl _, HKS.out, rfl, rfl, HST5.out⟩
            case round =>
              obtain ⟨k', hk1, hk2, rfl, rfl, hst'⟩ := hrel
              have HST' := Lib.hid hst'
              clear hst'
              by_cases hlt : k' < stopn
              · obtain ⟨sp', cap', hv, _, hcc⟩ := HL.out
                simp only [Value.slice.injEq] at hv
                obtain ⟨rfl, _, rfl⟩ := hv
                have hlt2 : k' < l.length := by have := HSL.out; omega
                obtain ⟨a, u, hsp, hatu, hok⟩ := hcc k' _ (List.getElem?_eq_getElem hlt2)
                subst hsp
                have c2 := turn_cell HST'.out.turn hatu
                have hb := HBL.out _ (List.getElem_mem hlt2)
                obtain ⟨b, hbe⟩ : ∃ b, b = l[k'] := ⟨_, rfl⟩
                rw [← hbe] at hok hb
                have happ := append_kept HT.out HST'.out (by have := H60.out; omega) (by omega) hok hb
                have HAP := Lib.hid happ
                have HATU := Lib.hid hatu
                have HOK := Lib.hid hok
                have HKL := Lib.hid hlt2
                obtain ⟨spu, capu, hu, _⟩ := hok.c
                subst hu
                have i4 : (0 : Int) ≤ (k' : Int) := by omega
                have i5 : (k' : Int) < (l.length : Int) := by omega
                have i6 : (k' : Int) < (stopn : Int) := by omega
                clear hatu hb hcc hlt2 happ hok hbe hlt
                go_wp2_with fail
                go_at_call 16
                refine HAP.out.mono ?_
                rintro r w6 ⟨e, rfl, t6, hway⟩
                have c6 := turn_cell t6 HATU.out
                have T6 := Lib.hid t6
                clear t6 c2
                rcases hway with ⟨he, S, lg, ls, Q, xs, m, hx, hlv, q1, q2, q3, q4, q5, q6, hm, hown, hheld, hout, hmk⟩ | ⟨he, hst6⟩ | ⟨he, want, hst6⟩
                · subst he
                  have HX := Lib.hid hx
                  have HLV := Lib.hid hlv
                  have HM := Lib.hid hm
                  have HO := Lib.hid hown
                  have HH := Lib.hid hheld
                  have HOUT := Lib.hid hout
                  have HQS := Lib.hid (show lg.last ≤ k' + 1 + 1 ∧ S.L.length ≤ k' + 1 + 1 ∧ S.steps ≤ 3 * (k' + 1) + 2 * j + 1 ∧ lg.size = sz ∧ lg.dir = [119] ∧ lg.first = 1 ∧ m.length + 1 ≤ k' + 1 from ⟨q1, q2, q3, q4, q5, q6, hmk⟩)
                  have HSZ := Lib.hid HX.out.turn.size
                  clear hx hlv hm hown hheld hout q1 q2 q3 q4 q5 q6 hmk
                  go_wp2_with (first | (go_at_call 14; refine (num_any _ _).mono ?_; rintro r w' ⟨rfl, rfl⟩) | (at_builtin; refine wpList_append_own_at _ rfl _ _ 22 rfl w.heap.size 37 i0 (.slice none 0 0) 1 24 Tryz.underlying22 hi hz0 hz1 hz2 rfl (by decide) u15 _ _ rfl (HO.out.alloc _) ⟨w6.heap.size, 0, none⟩ 1 1 [.slice spu b.length capu] rfl rfl (cell_one_new _ _ _) (by simp [Value.oneCell']) (by have := H60.out; have := HQS.out.2.2.2.2.2.2; have := HKL.out; unfold maxLen; omega) (by have := H60.out; have := HQS.out.2.2.2.2.2.2; have := HKL.out; omega) (by have := HSZ.out; simp; omega) ?_; intro v' w8 hown' hg8 hnil8 hblk; have hfin := kept_snoc HX.out HLV.out HQS.out.1 HQS.out.2.1 HQS.out.2.2.1 HQS.out.2.2.2.1 HQS.out.2.2.2.2.1 HQS.out.2.2.2.2.2.1 HM.out HO.out HH.out HOUT.out HQS.out.2.2.2.2.2.2 HOK.out hown' hg8 hblk; have HFIN := Lib.hid hfin; clear hfin hown' hg8 hnil8 hblk; go_frame))
                  go_roundw
                  case rel => exact ⟨k' + 1, by omega, by omega, by go_num, rfl, HFIN.out⟩
                  case measure => simp [intOf]; omega
                · subst he
                  have HST6 := Lib.hid hst6
                  clear hst6
                  go_wp2_with (go_at_call 14; refine (num_any _ _).mono ?_; rintro r w' ⟨rfl, rfl⟩)
                  go_roundw
                  case rel => exact ⟨k' + 1, by omega, by omega, by go_num, rfl, HST6.out⟩
                  case measure => simp [intOf]; omega
                · subst he
                  obtain ⟨spw, capw, hu15⟩ := stopped_shape hst6
                  subst hu15
                  have HSTOP := Lib.hid hst6
                  have hk9 : k' + 1 ≤ l.length := by have := HKL.out; omega
                  have hk9' : k' + 1 ≤ 60 := by have := HKL.out; have := H60.out; omega
                  have HK9 := Lib.hid hk9
                  have HK60 := Lib.hid hk9'
                  clear hst6 hk9 hk9'
                  have ck := cell_alloc (turn_cell T6.out HAT.out.c1) (.cells #[.int .i64 0] 3)
                  go_wp2_with (go_at_call 14; refine (num_any _ _).mono ?_; rintro r w' ⟨rfl, rfl⟩)
                  go_at_call 17
                  have htb : Turn (fun b => b = w6.heap.size) w6 (w6.alloc (.cells #[.int .i64 keep] 3)) := ((Turn.refl _ w6).alloc _)
                  have hXb : (w6.alloc (.cells #[.int .i64 keep] 3)).heap[w6.heap.size]? = some (.cells #[.int .i64 keep] 3 (0, 0)) := by exact heap_alloc_new _ _
                  refine (stopped_crash HSTOP.out rfl htb hXb).mono ?_
                  rintro r w10 ⟨rfl, S, lg, Q, xs, init, f, hx, hhas, hsh, hsy, hin, hfl, hdn, har, hL9, hst9, hown, hheld, hout⟩
                  have HX := Lib.hid hx
                  have HFL := Lib.hid hfl
                  have HO := Lib.hid hown
                  have HH := Lib.hid hheld
                  have HOUT := Lib.hid hout
                  have HQS := Lib.hid (show init.length ≤ (k' + 1) ∧ S.L.length ≤ (k' + 1) + 1 ∧ S.steps ≤ 3 * (k' + 1) + 2 * j + 1 from ⟨hin, hL9, hst9⟩)
                  obtain ⟨L, hLe⟩ : ∃ L, L = (init ++ [Walp.scan f.data]).flatten := ⟨_, rfl⟩
                  have hop := open_segs HT.out HX.out.rep HX.out.newQ HX.out.turn [119] (by rfl) sz hsz1 hsz2 hdn har hhas hsh hsy (by have := HK60.out; omega) (by have := HK60.out; omega)
                  rw [← hLe] at hop
                  have HOP := Lib.hid hop
                  have HLE := Lib.hid hLe
                  clear hx hhas hsh hsy hin hfl hdn har hL9 hst9 hown hheld hout hop hLe htb hXb
                  go_wp2_with fail
                  go_at_call 13
                  refine HOP.out.mono ?_
                  rintro r w11 ⟨lp2, sp6, cap6, Q6, S2, cc, rfl, hls6, hx6, hl6, hre, hq6, hlp6, t6'⟩
                  have O6 := Lib.hid (ownsRow_turned HO.out t6' (fun r hr q => (HOUT.out r hr).1 q))
                  have OUT6 := Lib.hid (show ∀ r, (Value.slice spw want.length capw).ownBlock = some r → ¬ Q6 r ∧ r ≠ lp2 from fun r hr => ⟨fun q => by
                    have h1 := HOUT.out r hr
                    rcases hq6 r q with h | h
                    · exact h1.1 h
                    · omega, by have h1 := HOUT.out r hr; omega⟩)
                  have A6 := Lib.hid hls6.toR
                  have LO6 := Lib.hid hls6
                  have X6 := Lib.hid hx6
                  have LV6 := Lib.hid hl6
                  have TT6 := Lib.hid hx6.turn
                  have HQ6 := Lib.hid (show 1 + init.length ≤ (k' + 1) + 1 ∧ S2.L.length ≤ (k' + 1) + 1 ∧ S2.steps ≤ 3 * (k' + 1) + 2 * (j + 1) + 1 from ⟨by have := HQS.out; omega, by have := HQS.out; have := hre.len; omega, by have := HQS.out; have := hre.steps; omega⟩)
                  have HSHL := Lib.hid (live_short hl6)
                  clear hls6 hx6 hl6 hre hq6 hlp6 t6' HOP

                  rcases HFL.out with hLw0 | ⟨q, hq, hLw0⟩
                  · have hLw : L = want := by rw [HLE.out]; exact hLw0
                    have HEQ := Lib.hid hLw
                    subst hLw
                    clear hLw0
                    have b9 : ((L.length : Int) == (L.length : Int) + 1) = false := by rw [beq_eq_false_iff_ne]; omega
                    have lb : (L.length : Int) ≤ 60 := by
                      have h := HSTOP.out
                      obtain ⟨_, _, _, _, _, _, _, _, _, _, _, _, hw, _⟩ := h
                      have := HK60.out
                      omega
                    have R6 := Lib.hid (held_R O6.out HH.out rfl TT6.out)
                    have hmx : L.length ≤ maxLen := by have h := HSTOP.out; obtain ⟨_, _, _, _, _, _, _, _, _, _, _, _, hw, _⟩ := h; have := HK60.out; unfold maxLen; omega
                    have HMX := Lib.hid hmx
                    have HWM := Lib.hid (show L.length ≤ (k' + 1) by have h := HSTOP.out; obtain ⟨_, _, _, _, _, _, _, _, _, _, _, _, hw, _⟩ := h; exact hw)
                    clear hmx
                    rw [← HLE.out] at HSHL
                    go_wp2_with (go_at_call 14; refine (num_any _ _).mono ?_; rintro r w' ⟨rfl, rfl⟩)
                    go_at_call 20
                    refine (sameLists_any A6.out R6.out HMX.out HMX.out HSHL.out HSHL.out).mono ?_
                    rintro r w12 ⟨rfl, hlk⟩
                    rw [decide_eq_true rfl]
                    have hfin : KeptAt w w12 w2.heap.size lp2 sz (k' + 1) (j + 1) (Value.slice spw L.length capw) := by
                      refine ⟨S2, _, init ++ [Walp.scan f.data], Q6, xs, X6.out.later hlk.turn, LV6.out, HQ6.out.1, HQ6.out.2.1, HQ6.out.2.2, rfl, rfl, rfl, ?_, ?_, OUT6.out, ?_⟩
                      · rw [← HLE.out]; exact ownsRow_turned O6.out hlk.turn (fun _ _ q => q)
                      · rw [← HLE.out]; exact HH.out
                      · rw [← HLE.out]; exact HWM.out
                    have HFIN := Lib.hid hfin
                    clear hfin hlk
                    go_wp2_with fail
                    go_roundw
                    case rel => exact ⟨k' + 1, j + 1, lp2, HK9.out, by omega, rfl, by go_num, by go_num, HFIN.out⟩
                    case measure => simp [intOf]; omega
                  · have hqb : b = q := by cases hq; rfl
                    subst hqb
                    have hLw : L = want ++ [b] := by rw [HLE.out]; exact hLw0
                    have HEQ := Lib.hid hLw
                    have hlen9 : (L.length : Int) = (want.length : Int) + 1 := by rw [hLw]; simp
                    have b9 : ((L.length : Int) == (want.length : Int) + 1) = true := by rw [beq_iff_eq]; exact hlen9
                    have HWM := Lib.hid (show want.length + 1 ≤ (k' + 1) by have h := HSTOP.out; obtain ⟨_, _, _, _, _, _, _, _, _, _, _, _, _, hw, _⟩ := h; exact hw b rfl)
                    have c11 := turn_cell TT6.out HATU.out
                    have HSZ := Lib.hid TT6.out.size
                    have lb : (want.length : Int) ≤ 60 := by have := HWM.out; have := HK60.out; omega
                    clear hLw0 hLw hlen9 hq
                    go_wp2_with (first | (go_at_call 14; refine (num_any _ _).mono ?_; rintro r w' ⟨rfl, rfl⟩) | (at_builtin; refine wpList_append_own_at _ rfl _ _ 22 rfl w.heap.size 37 i0 (.slice none 0 0) 1 24 Tryz.underlying22 hi hz0 hz1 hz2 rfl (by decide) (Value.slice spw want.length capw) _ _ rfl (O6.out.alloc _) ⟨w11.heap.size, 0, none⟩ 1 1 [.slice spu b.length capu] rfl rfl (cell_one_new _ _ _) (by simp [Value.oneCell']) (by have := HK60.out; have := HWM.out; unfold maxLen; omega) (by have := HK60.out; have := HWM.out; omega) (by have := HSZ.out; simp; omega) ?_; intro v' w12 hown' hg8 hnil8 hblk; have hfin := kept_snoc (sz := sz) X6.out LV6.out HQ6.out.1 HQ6.out.2.1 HQ6.out.2.2 rfl rfl rfl (by rw [← HLE.out]; exact HEQ.out) O6.out HH.out OUT6.out HWM.out HOK.out hown' hg8 hblk; have hr12 := held_R hown' (HH.out.snoc HOK.out) (by simp) hfin.turn; have ha12 := ((LO6.out.new (turnBox w11 _)).turned (Q := fun i => (Value.slice spw want.length capw).ownBlock = some i) ((Turn.refl _ _).grown hg8 (fun j e => Or.inl e)) (fun b cs t fr e hb => by have := (HOUT.out b e).2; omega)).toR; have HFIN := Lib.hid hfin; have R12 := Lib.hid hr12; have A12 := Lib.hid ha12; clear hfin hown' hg8 hnil8 hblk hr12 ha12; go_frame))
                    have hmx : L.length ≤ maxLen ∧ (want ++ [b]).length ≤ maxLen := by have h1 := HEQ.out; have h2 := HK60.out; have h3 := HWM.out; have h4 : L.length = want.length + 1 := by rw [h1]; simp
                                                                                       unfold maxLen; simp; omega
                    have hea : ∀ q, q ∈ L → q.length ≤ maxLen := by rw [HLE.out]; exact HSHL.out
                    have HMX := Lib.hid hmx
                    have HEA := Lib.hid hea
                    have HEB := Lib.hid (show ∀ q, q ∈ want ++ [b] → q.length ≤ maxLen by rw [← HEQ.out]; exact hea)
                    clear hmx hea
                    go_at_call 20
                    refine (sameLists_any A12.out R12.out HMX.out.1 HMX.out.2 HEA.out HEB.out).mono ?_
                    rintro r w13 ⟨rfl, hlk⟩
                    rw [decide_eq_true HEQ.out]
                    have HFIN2 := Lib.hid (HFIN.out.later hlk.turn)
                    clear hlk
                    go_wp2_with fail
                    go_roundw
                    case rel => exact ⟨k' + 1, j + 1, lp2, HK9.out, by omega, rfl, by go_num, by go_num, HFIN2.out⟩
                    case measure => simp [intOf]; omega
              · have hk9 : k' = stopn := by omega
                subst hk9
                obtain ⟨want, hstw⟩ := HST'.out.stopped
                obtain ⟨spw, capw, hu15⟩ := stopped_shape hstw
                subst hu15
                have HSTOP := Lib.hid hstw
                have hk9 : k' ≤ l.length := HSL.out
                have hk9' : k' ≤ 60 := by have := H60.out; omega
                have HK9 := Lib.hid hk9
                have HK60 := Lib.hid hk9'
                clear hstw hk9 hk9' hlt
                have ck := cell_alloc (turn_cell HST'.out.turn HAT.out.c1) (.cells #[.int .i64 0] 3)
                go_wp2_with fail
                go_at_call 17
                have htb : Turn (fun b => b = wr.heap.size) wr (wr.alloc (.cells #[.int .i64 keep] 3)) := ((Turn.refl _ wr).alloc _)
                have hXb : (wr.alloc (.cells #[.int .i64 keep] 3)).heap[wr.heap.size]? = some (.cells #[.int .i64 keep] 3 (0, 0)) := by exact heap_alloc_new _ _
                refine (stopped_crash HSTOP.out rfl htb hXb).mono ?_
                rintro r w10 ⟨rfl, S, lg, Q, xs, init, f, hx, hhas, hsh, hsy, hin, hfl, hdn, har, hL9, hst9, hown, hheld, hout⟩
                have HX := Lib.hid hx
                have HFL := Lib.hid hfl
                have HO := Lib.hid hown
                have HH := Lib.hid hheld
                have HOUT := Lib.hid hout
                have HQS := Lib.hid (show init.length ≤ k' ∧ S.L.length ≤ k' + 1 ∧ S.steps ≤ 3 * k' + 2 * j + 1 from ⟨hin, hL9, hst9⟩)
                obtain ⟨L, hLe⟩ : ∃ L, L = (init ++ [Walp.scan f.data]).flatten := ⟨_, rfl⟩
                have hop := open_segs HT.out HX.out.rep HX.out.newQ HX.out.turn [119] (by rfl) sz hsz1 hsz2 hdn har hhas hsh hsy (by have := HK60.out; omega) (by have := HK60.out; omega)
                rw [← hLe] at hop
                have HOP := Lib.hid hop
                have HLE := Lib.hid hLe
                clear hx hhas hsh hsy hin hfl hdn har hL9 hst9 hown hheld hout hop hLe htb hXb
                go_wp2_with fail
                go_at_call 13
                refine HOP.out.mono ?_
                rintro r w11 ⟨lp2, sp6, cap6, Q6, S2, cc, rfl, hls6, hx6, hl6, hre, hq6, hlp6, t6'⟩
                have O6 := Lib.hid (ownsRow_turned HO.out t6' (fun r hr q => (HOUT.out r hr).1 q))
                have OUT6 := Lib.hid (show ∀ r, (Value.slice spw want.length capw).ownBlock = some r → ¬ Q6 r ∧ r ≠ lp2 from fun r hr => ⟨fun q => by
                  have h1 := HOUT.out r hr
                  rcases hq6 r q with h | h
                  · exact h1.1 h
                  · omega, by have h1 := HOUT.out r hr; omega⟩)
                have A6 := Lib.hid hls6.toR
                have LO6 := Lib.hid hls6
                have X6 := Lib.hid hx6
                have LV6 := Lib.hid hl6
                have TT6 := Lib.hid hx6.turn
                have HQ6 := Lib.hid (show 1 + init.length ≤ k' + 1 ∧ S2.L.length ≤ k' + 1 ∧ S2.steps ≤ 3 * k' + 2 * (j + 1) + 1 from ⟨by have := HQS.out; omega, by have := HQS.out; have := hre.len; omega, by have := HQS.out; have := hre.steps; omega⟩)
                have HSHL := Lib.hid (live_short hl6)
                clear hls6 hx6 hl6 hre hq6 hlp6 t6' HOP

                have hLw : L = want := by
                  rcases HFL.out with h | ⟨q, h, _⟩
                  · rw [HLE.out]; exact h
                  · cases h
                have HEQ := Lib.hid hLw
                subst hLw

                have R6 := Lib.hid (held_R O6.out HH.out rfl TT6.out)
                have hmx : L.length ≤ maxLen := by have h := HSTOP.out; obtain ⟨_, _, _, _, _, _, _, _, _, _, _, _, hw, _⟩ := h; have := HK60.out; unfold maxLen; omega
                have HMX := Lib.hid hmx
                have HWM := Lib.hid (show L.length ≤ k' by have h := HSTOP.out; obtain ⟨_, _, _, _, _, _, _, _, _, _, _, _, hw, _⟩ := h; exact hw)
                clear hmx
                rw [← HLE.out] at HSHL
                go_wp2_with (go_at_call 14; refine (num_any _ _).mono ?_; rintro r w' ⟨rfl, rfl⟩)
                go_at_call 20
                refine (sameLists_any A6.out R6.out HMX.out HMX.out HSHL.out HSHL.out).mono ?_
                rintro r w12 ⟨rfl, hlk⟩
                rw [decide_eq_true rfl]
                have hfin : KeptAt w w12 w2.heap.size lp2 sz k' (j + 1) (Value.slice spw L.length capw) := by
                  refine ⟨S2, _, init ++ [Walp.scan f.data], Q6, xs, X6.out.later hlk.turn, LV6.out, HQ6.out.1, HQ6.out.2.1, HQ6.out.2.2, rfl, rfl, rfl, ?_, ?_, OUT6.out, ?_⟩
                  · rw [← HLE.out]; exact ownsRow_turned O6.out hlk.turn (fun _ _ q => q)
                  · rw [← HLE.out]; exact HH.out
                  · rw [← HLE.out]; exact HWM.out
                have HFIN := Lib.hid hfin
                clear hfin hlk
                go_wp2_with fail
                go_roundw
                case rel => exact ⟨k', j + 1, lp2, HK9.out, by omega, rfl, rfl, by go_num, HFIN.out⟩
                case measure => simp [intOf]; omega
          · have i2 : ¬ (j : Int) < (cs.length : Int) := by omega
            have HST5 := HST
            have hsl : l.length ≤ l.length := Nat.le_refl _
            have hks : k ≤ l.length := hk
            clear hj2
            have HKS := Lib.hid hks
            have HSL := Lib.hid hsl
            clear hks hsl
            go_wp2_with fail
            go_loopw [15, 16, 18] (fun want nx mb wr => ∃ k' : Nat, k ≤ k' ∧ k' ≤ l.length ∧ nx = .int .i64 k' ∧ mb = .int .i64 (-1) ∧ KeptAt w wr w2.heap.size lp sz k' j want) (fun _ nx _ _ => l.length - (intOf nx).toNat)
            case atStart => exact ⟨k, Nat.le_refl _, HKS.out, rfl, rfl, HST5.out⟩
            case round =>
              obtain ⟨k', hk1, hk2, rfl, rfl, hst'⟩ := hrel
              have HST' := Lib.hid hst'
              clear hst'
              by_cases hlt : k' < l.length
              · obtain ⟨sp', cap', hv, _, hcc⟩ := HL.out
                simp only [Value.slice.injEq] at hv
                obtain ⟨rfl, _, rfl⟩ := hv
                have hlt2 : k' < l.length := by have := HSL.out; omega
                obtain ⟨a, u, hsp, hatu, hok⟩ := hcc k' _ (List.getElem?_eq_getElem hlt2)
                subst hsp
                have c2 := turn_cell HST'.out.turn hatu
                have hb := HBL.out _ (List.getElem_mem hlt2)
                obtain ⟨b, hbe⟩ : ∃ b, b = l[k'] := ⟨_, rfl⟩
                rw [← hbe] at hok hb
                have happ := append_kept HT.out HST'.out (by have := H60.out; omega) (by omega) hok hb
                have HAP := Lib.hid happ
                have HATU := Lib.hid hatu
                have HOK := Lib.hid hok
                have HKL := Lib.hid hlt2
                obtain ⟨spu, capu, hu, _⟩ := hok.c
                subst hu
                have i4 : (0 : Int) ≤ (k' : Int) := by omega
                have i5 : (k' : Int) < (l.length : Int) := by omega
                have i6 : (k' : Int) < (l.length : Int) := by omega
                clear hatu hb hcc hlt2 happ hok hbe hlt
                go_wp2_with fail
                go_at_call 16
                refine HAP.out.mono ?_
                rintro r w6 ⟨e, rfl, t6, hway⟩
                have c6 := turn_cell t6 HATU.out
                have T6 := Lib.hid t6
                clear t6 c2
                rcases hway with ⟨he, S, lg, ls, Q, xs, m, hx, hlv, q1, q2, q3, q4, q5, q6, hm, hown, hheld, hout, hmk⟩ | ⟨he, hst6⟩ | ⟨he, want, hst6⟩
                · subst he
                  have HX := Lib.hid hx
                  have HLV := Lib.hid hlv
                  have HM := Lib.hid hm
                  have HO := Lib.hid hown
                  have HH := Lib.hid hheld
                  have HOUT := Lib.hid hout
                  have HQS := Lib.hid (show lg.last ≤ k' + 1 + 1 ∧ S.L.length ≤ k' + 1 + 1 ∧ S.steps ≤ 3 * (k' + 1) + 2 * j + 1 ∧ lg.size = sz ∧ lg.dir = [119] ∧ lg.first = 1 ∧ m.length + 1 ≤ k' + 1 from ⟨q1, q2, q3, q4, q5, q6, hmk⟩)
                  have HSZ := Lib.hid HX.out.turn.size
                  clear hx hlv hm hown hheld hout q1 q2 q3 q4 q5 q6 hmk
                  go_wp2_with (first | (go_at_call 14; refine (num_any _ _).mono ?_; rintro r w' ⟨rfl, rfl⟩) | (at_builtin; refine wpList_append_own_at _ rfl _ _ 22 rfl w.heap.size 37 i0 (.slice none 0 0) 1 24 Tryz.underlying22 hi hz0 hz1 hz2 rfl (by decide) u15 _ _ rfl (HO.out.alloc _) ⟨w6.heap.size, 0, none⟩ 1 1 [.slice spu b.length capu] rfl rfl (cell_one_new _ _ _) (by simp [Value.oneCell']) (by have := H60.out; have := HQS.out.2.2.2.2.2.2; have := HKL.out; unfold maxLen; omega) (by have := H60.out; have := HQS.out.2.2.2.2.2.2; have := HKL.out; omega) (by have := HSZ.out; simp; omega) ?_; intro v' w8 hown' hg8 hnil8 hblk; have hfin := kept_snoc HX.out HLV.out HQS.out.1 HQS.out.2.1 HQS.out.2.2.1 HQS.out.2.2.2.1 HQS.out.2.2.2.2.1 HQS.out.2.2.2.2.2.1 HM.out HO.out HH.out HOUT.out HQS.out.2.2.2.2.2.2 HOK.out hown' hg8 hblk; have HFIN := Lib.hid hfin; clear hfin hown' hg8 hnil8 hblk; go_frame))
                  go_roundw
                  case rel => exact ⟨k' + 1, by omega, by omega, by go_num, rfl, HFIN.out⟩
                  case measure => simp [intOf]; omega
                · subst he
                  have HST6 := Lib.hid hst6
                  clear hst6
                  go_wp2_with (go_at_call 14; refine (num_any _ _).mono ?_; rintro r w' ⟨rfl, rfl⟩)
                  go_roundw
                  case rel => exact ⟨k' + 1, by omega, by omega, by go_num, rfl, HST6.out⟩
                  case measure => simp [intOf]; omega
                · subst he
                  obtain ⟨spw, capw, hu15⟩ := stopped_shape hst6
                  subst hu15
                  have HSTOP := Lib.hid hst6
                  have hk9 : k' + 1 ≤ l.length := by have := HKL.out; omega
                  have hk9' : k' + 1 ≤ 60 := by have := HKL.out; have := H60.out; omega
                  have HK9 := Lib.hid hk9
                  have HK60 := Lib.hid hk9'
                  clear hst6 hk9 hk9'

                  go_wp2_with (go_at_call 14; refine (num_any _ _).mono ?_; rintro r w' ⟨rfl, rfl⟩)
                  go_at_call 17
                  have htb : Turn (fun b => b = w6.heap.size) w6 (w6.alloc (.cells #[.int .i64 0] 3)) := ((Turn.refl _ w6).alloc _)
                  have hXb : (w6.alloc (.cells #[.int .i64 0] 3)).heap[w6.heap.size]? = some (.cells #[.int .i64 0] 3 (0, 0)) := by exact heap_alloc_new _ _
                  refine (stopped_crash HSTOP.out rfl htb hXb).mono ?_
                  rintro r w10 ⟨rfl, S, lg, Q, xs, init, f, hx, hhas, hsh, hsy, hin, hfl, hdn, har, hL9, hst9, hown, hheld, hout⟩
                  have HX := Lib.hid hx
                  have HFL := Lib.hid hfl
                  have HO := Lib.hid hown
                  have HH := Lib.hid hheld
                  have HOUT := Lib.hid hout
                  have HQS := Lib.hid (show init.length ≤ (k' + 1) ∧ S.L.length ≤ (k' + 1) + 1 ∧ S.steps ≤ 3 * (k' + 1) + 2 * j + 1 from ⟨hin, hL9, hst9⟩)
                  obtain ⟨L, hLe⟩ : ∃ L, L = (init ++ [Walp.scan f.data]).flatten := ⟨_, rfl⟩
                  have hop := open_segs HT.out HX.out.rep HX.out.newQ HX.out.turn [119] (by rfl) sz hsz1 hsz2 hdn har hhas hsh hsy (by have := HK60.out; omega) (by have := HK60.out; omega)
                  rw [← hLe] at hop
                  have HOP := Lib.hid hop
                  have HLE := Lib.hid hLe
                  clear hx hhas hsh hsy hin hfl hdn har hL9 hst9 hown hheld hout hop hLe htb hXb
                  go_wp2_with fail
                  go_at_call 13
                  refine HOP.out.mono ?_
                  rintro r w11 ⟨lp2, sp6, cap6, Q6, S2, cc, rfl, hls6, hx6, hl6, hre, hq6, hlp6, t6'⟩
                  have O6 := Lib.hid (ownsRow_turned HO.out t6' (fun r hr q => (HOUT.out r hr).1 q))
                  have OUT6 := Lib.hid (show ∀ r, (Value.slice spw want.length capw).ownBlock = some r → ¬ Q6 r ∧ r ≠ lp2 from fun r hr => ⟨fun q => by
                    have h1 := HOUT.out r hr
                    rcases hq6 r q with h | h
                    · exact h1.1 h
                    · omega, by have h1 := HOUT.out r hr; omega⟩)
                  have A6 := Lib.hid hls6.toR
                  have LO6 := Lib.hid hls6
                  have X6 := Lib.hid hx6
                  have LV6 := Lib.hid hl6
                  have TT6 := Lib.hid hx6.turn
                  have HQ6 := Lib.hid (show 1 + init.length ≤ (k' + 1) + 1 ∧ S2.L.length ≤ (k' + 1) + 1 ∧ S2.steps ≤ 3 * (k' + 1) + 2 * (j + 1) + 1 from ⟨by have := HQS.out; omega, by have := HQS.out; have := hre.len; omega, by have := HQS.out; have := hre.steps; omega⟩)
                  have HSHL := Lib.hid (live_short hl6)
                  clear hls6 hx6 hl6 hre hq6 hlp6 t6' HOP

                  rcases HFL.out with hLw0 | ⟨q, hq, hLw0⟩
                  · have hLw : L = want := by rw [HLE.out]; exact hLw0
                    have HEQ := Lib.hid hLw
                    subst hLw
                    clear hLw0
                    have b9 : ((L.length : Int) == (L.length : Int) + 1) = false := by rw [beq_eq_false_iff_ne]; omega
                    have lb : (L.length : Int) ≤ 60 := by
                      have h := HSTOP.out
                      obtain ⟨_, _, _, _, _, _, _, _, _, _, _, _, hw, _⟩ := h
                      have := HK60.out
                      omega
                    have R6 := Lib.hid (held_R O6.out HH.out rfl TT6.out)
                    have hmx : L.length ≤ maxLen := by have h := HSTOP.out; obtain ⟨_, _, _, _, _, _, _, _, _, _, _, _, hw, _⟩ := h; have := HK60.out; unfold maxLen; omega
                    have HMX := Lib.hid hmx
                    have HWM := Lib.hid (show L.length ≤ (k' + 1) by have h := HSTOP.out; obtain ⟨_, _, _, _, _, _, _, _, _, _, _, _, hw, _⟩ := h; exact hw)
                    clear hmx
                    rw [← HLE.out] at HSHL
                    go_wp2_with (go_at_call 14; refine (num_any _ _).mono ?_; rintro r w' ⟨rfl, rfl⟩)
                    go_at_call 20
                    refine (sameLists_any A6.out R6.out HMX.out HMX.out HSHL.out HSHL.out).mono ?_
                    rintro r w12 ⟨rfl, hlk⟩
                    rw [decide_eq_true rfl]
                    have hfin : KeptAt w w12 w2.heap.size lp2 sz (k' + 1) (j + 1) (Value.slice spw L.length capw) := by
                      refine ⟨S2, _, init ++ [Walp.scan f.data], Q6, xs, X6.out.later hlk.turn, LV6.out, HQ6.out.1, HQ6.out.2.1, HQ6.out.2.2, rfl, rfl, rfl, ?_, ?_, OUT6.out, ?_⟩
                      · rw [← HLE.out]; exact ownsRow_turned O6.out hlk.turn (fun _ _ q => q)
                      · rw [← HLE.out]; exact HH.out
                      · rw [← HLE.out]; exact HWM.out
                    have HFIN := Lib.hid hfin
                    clear hfin hlk
                    go_wp2_with fail
                    go_roundw
                    case rel => exact ⟨k' + 1, j + 1, lp2, HK9.out, by omega, rfl, by go_num, by go_num, HFIN.out⟩
                    case measure => simp [intOf]; omega
                  · have hqb : b = q := by cases hq; rfl
                    subst hqb
                    have hLw : L = want ++ [b] := by rw [HLE.out]; exact hLw0
                    have HEQ := Lib.hid hLw
                    have hlen9 : (L.length : Int) = (want.length : Int) + 1 := by rw [hLw]; simp
                    have b9 : ((L.length : Int) == (want.length : Int) + 1) = true := by rw [beq_iff_eq]; exact hlen9
                    have HWM := Lib.hid (show want.length + 1 ≤ (k' + 1) by have h := HSTOP.out; obtain ⟨_, _, _, _, _, _, _, _, _, _, _, _, _, hw, _⟩ := h; exact hw b rfl)
                    have c11 := turn_cell TT6.out HATU.out
                    have HSZ := Lib.hid TT6.out.size
                    have lb : (want.length : Int) ≤ 60 := by have := HWM.out; have := HK60.out; omega
                    clear hLw0 hLw hlen9 hq
                    go_wp2_with (first | (go_at_call 14; refine (num_any _ _).mono ?_; rintro r w' ⟨rfl, rfl⟩) | (at_builtin; refine wpList_append_own_at _ rfl _ _ 22 rfl w.heap.size 37 i0 (.slice none 0 0) 1 24 Tryz.underlying22 hi hz0 hz1 hz2 rfl (by decide) (Value.slice spw want.length capw) _ _ rfl (O6.out.alloc _) ⟨w11.heap.size, 0, none⟩ 1 1 [.slice spu b.length capu] rfl rfl (cell_one_new _ _ _) (by simp [Value.oneCell']) (by have := HK60.out; have := HWM.out; unfold maxLen; omega) (by have := HK60.out; have := HWM.out; omega) (by have := HSZ.out; simp; omega) ?_; intro v' w12 hown' hg8 hnil8 hblk; have hfin := kept_snoc (sz := sz) X6.out LV6.out HQ6.out.1 HQ6.out.2.1 HQ6.out.2.2 rfl rfl rfl (by rw [← HLE.out]; exact HEQ.out) O6.out HH.out OUT6.out HWM.out HOK.out hown' hg8 hblk; have hr12 := held_R hown' (HH.out.snoc HOK.out) (by simp) hfin.turn; have ha12 := ((LO6.out.new (turnBox w11 _)).turned (Q := fun i => (Value.slice spw want.length capw).ownBlock = some i) ((Turn.refl _ _).grown hg8 (fun j e => Or.inl e)) (fun b cs t fr e hb => by have := (HOUT.out b e).2; omega)).toR; have HFIN := Lib.hid hfin; have R12 := Lib.hid hr12; have A12 := Lib.hid ha12; clear hfin hown' hg8 hnil8 hblk hr12 ha12; go_frame))
                    have hmx : L.length ≤ maxLen ∧ (want ++ [b]).length ≤ maxLen := by have h1 := HEQ.out; have h2 := HK60.out; have h3 := HWM.out; have h4 : L.length = want.length + 1 := by rw [h1]; simp
                                                                                       unfold maxLen; simp; omega
                    have hea : ∀ q, q ∈ L → q.length ≤ maxLen := by rw [HLE.out]; exact HSHL.out
                    have HMX := Lib.hid hmx
                    have HEA := Lib.hid hea
                    have HEB := Lib.hid (show ∀ q, q ∈ want ++ [b] → q.length ≤ maxLen by rw [← HEQ.out]; exact hea)
                    clear hmx hea
                    go_at_call 20
                    refine (sameLists_any A12.out R12.out HMX.out.1 HMX.out.2 HEA.out HEB.out).mono ?_
                    rintro r w13 ⟨rfl, hlk⟩
                    rw [decide_eq_true HEQ.out]
                    have HFIN2 := Lib.hid (HFIN.out.later hlk.turn)
                    clear hlk
                    go_wp2_with fail
                    go_roundw
                    case rel => exact ⟨k' + 1, j + 1, lp2, HK9.out, by omega, rfl, by go_num, by go_num, HFIN2.out⟩
                    case measure => simp [intOf]; omega
              · have hk9 : k' = l.length := by omega
                subst hk9
                obtain ⟨want, hstw⟩ := HST'.out.stopped
                obtain ⟨spw, capw, hu15⟩ := stopped_shape hstw
                subst hu15
                have HSTOP := Lib.hid hstw
                have hk9 : l.length ≤ l.length := HSL.out
                have hk9' : l.length ≤ 60 := by have := H60.out; omega
                have HK9 := Lib.hid hk9
                have HK60 := Lib.hid hk9'
                clear hstw hk9 hk9' hlt

                go_wp2_with fail
                go_at_call 17
                have htb : Turn (fun b => b = wr.heap.size) wr (wr.alloc (.cells #[.int .i64 0] 3)) := ((Turn.refl _ wr).alloc _)
                have hXb : (wr.alloc (.cells #[.int .i64 0] 3)).heap[wr.heap.size]? = some (.cells #[.int .i64 0] 3 (0, 0)) := by exact heap_alloc_new _ _
                refine (stopped_crash HSTOP.out rfl htb hXb).mono ?_
                rintro r w10 ⟨rfl, S, lg, Q, xs, init, f, hx, hhas, hsh, hsy, hin, hfl, hdn, har, hL9, hst9, hown, hheld, hout⟩
                have HX := Lib.hid hx
                have HFL := Lib.hid hfl
                have HO := Lib.hid hown
                have HH := Lib.hid hheld
                have HOUT := Lib.hid hout
                have HQS := Lib.hid (show init.length ≤ l.length ∧ S.L.length ≤ l.length + 1 ∧ S.steps ≤ 3 * l.length + 2 * j + 1 from ⟨hin, hL9, hst9⟩)
                obtain ⟨L, hLe⟩ : ∃ L, L = (init ++ [Walp.scan f.data]).flatten := ⟨_, rfl⟩
                have hop := open_segs HT.out HX.out.rep HX.out.newQ HX.out.turn [119] (by rfl) sz hsz1 hsz2 hdn har hhas hsh hsy (by have := HK60.out; omega) (by have := HK60.out; omega)
                rw [← hLe] at hop
                have HOP := Lib.hid hop
                have HLE := Lib.hid hLe
                clear hx hhas hsh hsy hin hfl hdn har hL9 hst9 hown hheld hout hop hLe htb hXb
                go_wp2_with fail
                go_at_call 13
                refine HOP.out.mono ?_
                rintro r w11 ⟨lp2, sp6, cap6, Q6, S2, cc, rfl, hls6, hx6, hl6, hre, hq6, hlp6, t6'⟩
                have O6 := Lib.hid (ownsRow_turned HO.out t6' (fun r hr q => (HOUT.out r hr).1 q))
                have OUT6 := Lib.hid (show ∀ r, (Value.slice spw want.length capw).ownBlock = some r → ¬ Q6 r ∧ r ≠ lp2 from fun r hr => ⟨fun q => by
                  have h1 := HOUT.out r hr
                  rcases hq6 r q with h | h
                  · exact h1.1 h
                  · omega, by have h1 := HOUT.out r hr; omega⟩)
                have A6 := Lib.hid hls6.toR
                have LO6 := Lib.hid hls6
                have X6 := Lib.hid hx6
                have LV6 := Lib.hid hl6
                have TT6 := Lib.hid hx6.turn
                have HQ6 := Lib.hid (show 1 + init.length ≤ l.length + 1 ∧ S2.L.length ≤ l.length + 1 ∧ S2.steps ≤ 3 * l.length + 2 * (j + 1) + 1 from ⟨by have := HQS.out; omega, by have := HQS.out; have := hre.len; omega, by have := HQS.out; have := hre.steps; omega⟩)
                have HSHL := Lib.hid (live_short hl6)
                clear hls6 hx6 hl6 hre hq6 hlp6 t6' HOP

                have hLw : L = want := by
                  rcases HFL.out with h | ⟨q, h, _⟩
                  · rw [HLE.out]; exact h
                  · cases h
                have HEQ := Lib.hid hLw
                subst hLw

                have R6 := Lib.hid (held_R O6.out HH.out rfl TT6.out)
                have hmx : L.length ≤ maxLen := by have h := HSTOP.out; obtain ⟨_, _, _, _, _, _, _, _, _, _, _, _, hw, _⟩ := h; have := HK60.out; unfold maxLen; omega
                have HMX := Lib.hid hmx
                have HWM := Lib.hid (show L.length ≤ l.length by have h := HSTOP.out; obtain ⟨_, _, _, _, _, _, _, _, _, _, _, _, hw, _⟩ := h; exact hw)
                clear hmx
                rw [← HLE.out] at HSHL
                go_wp2_with (go_at_call 14; refine (num_any _ _).mono ?_; rintro r w' ⟨rfl, rfl⟩)
                go_at_call 20
                refine (sameLists_any A6.out R6.out HMX.out HMX.out HSHL.out HSHL.out).mono ?_
                rintro r w12 ⟨rfl, hlk⟩
                rw [decide_eq_true rfl]
                have hfin : KeptAt w w12 w2.heap.size lp2 sz l.length (j + 1) (Value.slice spw L.length capw) := by
                  refine ⟨S2, _, init ++ [Walp.scan f.data], Q6, xs, X6.out.later hlk.turn, LV6.out, HQ6.out.1, HQ6.out.2.1, HQ6.out.2.2, rfl, rfl, rfl, ?_, ?_, OUT6.out, ?_⟩
                  · rw [← HLE.out]; exact ownsRow_turned O6.out hlk.turn (fun _ _ q => q)
                  · rw [← HLE.out]; exact HH.out
                  · rw [← HLE.out]; exact HWM.out
                have HFIN := Lib.hid hfin
                clear hfin hlk
                go_wp2_with fail
                go_roundw
                case rel => exact ⟨l.length, j + 1, lp2, HK9.out, by omega, rfl, rfl, by go_num, HFIN.out⟩
                case measure => simp [intOf]; omega
        · have hj0 : j = cs.length + 1 := by omega
          have i1 : ¬ (j : Int) ≤ (cs.length : Int) := by omega
          have HT9 := Lib.hid HST.out.turn
          clear hj1 hj0
          go_wp2_with fail
          go_ret
          exact ⟨rfl, HT9.out⟩
    · by_cases g0 : 20 < cs.length
      · have g0' : (20 : Int) < (cs.length : Int) := by omega
        clear hgood
        go_wp2
        go_ret
        exact ⟨rfl, T2.out⟩
      · have d0 : decide (20 < cs.length) = false := by simpa using g0
        have d0' : decide ((20 : Int) < (cs.length : Int)) = false := by simp; omega
        by_cases g1 : size < 16
        · clear hgood g0
          go_wp2
          go_ret
          exact ⟨rfl, T2.out⟩
        · by_cases g2 : 1048576 < size
          · clear hgood g0
            go_wp2
            go_ret
            exact ⟨rfl, T2.out⟩
          · have g3 : capacity < 0 := by omega
            clear hgood g0
            go_wp2
            go_ret
            exact ⟨rfl, T2.out⟩
end
end Go.Proofs.YtkhlejficonhpaaGreatDoor
