/-
  FsTruncates: the walk.
-/
import Derived.Test.YtnlcaonempngbaaLaw4
import Derived.Test.YtnlcaonempngbaaFsA
namespace Go.Proofs.Ytnlcaonempngbaa
open Go.RowKit Go.Maps Go.WideMaps

section
variable {w w' : World} {p : Nat} {S S' : Fsp.Fs} {c c' : Bool} {Q : Nat → Prop} {mo : Option Nat} {pl : List UInt8 → Pl}

theorem Since.look {w2 : World} (h : Since w p S w') (ht : Turn (fun _ => False) w' w2) : Since w p S w2 := by
  obtain ⟨⟨mo, pl, hr⟩, ht0⟩ := h
  exact ⟨⟨mo, pl, (hr.turned ht (fun _ _ q => q)).mono (fun i hi => ⟨hi.1, Nat.lt_of_lt_of_le hi.2 ht.size⟩) (fun i hi => hi.2)⟩, ht0.trans ht (fun _ _ q => q)⟩

theorem SliceR.turnQ {v : Value} {d : List UInt8} (h : SliceR w v d) (ht : Turn Q w w') (hq : OutOf Q v) : SliceR w' v d := by
  obtain ⟨sp, cap, hv, hc⟩ := h
  refine ⟨sp, cap, hv, fun h0 => ?_⟩
  obtain ⟨ad, e, hx⟩ := hc h0
  refine ⟨ad, e, fun j x hj => ?_⟩
  have hb := hx j x hj
  exact (World.cell?_of_block (ht.block _ (World.block_lt_of_cell? w _ hb) (by rw [add_block]; exact hq ad _ _ (by rw [hv, e]) h0))).trans hb

theorem SliceR.take {g n cap k : Nat} {d : List UInt8} (h : SliceR w (.slice (some ⟨g, 0, none⟩) n cap) d) (hk : k ≤ d.length) : SliceR w (.slice (some ⟨g, 0, none⟩) k cap) (d.take k) := by
  obtain ⟨sp, cap', hv, hc⟩ := h
  simp only [Value.slice.injEq] at hv
  obtain ⟨rfl, rfl, rfl⟩ := hv
  refine ⟨_, _, by rw [List.length_take, Nat.min_eq_left hk], fun h0 => ?_⟩
  rw [List.length_take] at h0
  obtain ⟨ad, e, hx⟩ := hc (by omega)
  refine ⟨ad, e, fun j x hj => hx j x ?_⟩
  rw [List.getElem?_take] at hj
  split at hj
  · exact hj
  · cases hj

theorem Like.turn (h : Like w w') : Turn (fun _ => False) w w' := Turn.like (Turn.refl _ w) h

/-- a crash by a number in a box that lies further down -/
theorem Since.crashBox {kv : Value} {bx : Nat} {X : Obj} {kf : List UInt8 → Nat → Int} (h : Since w p S w') (hK : Keeper kv (fun w _ => w.heap[bx]? = some X) kf (fun b => b = bx)) (hX : w'.heap[bx]? = some X) (hb : bx < w.heap.size) :
    Calls Try.prog 14 #[.pointer (some ⟨p, 0, none⟩), kv] w' fun r w2 => r = .returned (.tuple #[]) ∧ Since w p (Fsp.crash S kf) w2 ∧ w2.heap[bx]? = some X := by
  have h0 := h
  obtain ⟨⟨mo, pl, hr⟩, ht0⟩ := h
  refine (crash_any hK (l := []) hX (fun b e q => by omega) hr).mono ?_
  rintro r w2 ⟨rfl, h1, h2, h3⟩
  refine ⟨rfl, Since.post h0 ⟨h1, ⟨h3.os, h3.tape, h3.output, h3.size, fun i hi hn => ?_⟩⟩, h2⟩
  by_cases e : i = bx
  · rw [e, h2, hX]
  · exact h3.block i hi (fun q => q.elim hn e)

theorem enter_trunc (args : Array Value) (w : World) : (callFunc 43 args).run Try.prog w = .ok (.enter 43 args) w := by kernel_rfl

theorem truncKeep_any {s : ByteArray} {n k : Int} {bx : Nat} {w : World} (hc : w.heap[bx]? = some (.cells #[.int .i64 k] 3 (0, 0))) :
    Calls Try.prog 43 #[.string s, .int .i64 n, .pointer (some ⟨bx, 0, none⟩)] w fun r w' => r = .returned (.int .i64 k) ∧ w = w' := by
  have c0 : w.cell? ⟨bx, 0, none⟩ = some (.int .i64 k) := by simp [World.cell?, hc]
  have HC := Lib.hid hc
  clear hc
  go_enter Try.func43, Try.ntmps43
  go_wp2
  go_ret
  exact ⟨rfl, rfl⟩

theorem keeper_box {g : Nat} (bx : Nat) (k : Int) (hent : ∀ args w, (callFunc g args).run Try.prog w = .ok (.enter g args) w)
    (hcall : ∀ (s : ByteArray) (n : Int) (w : World), w.heap[bx]? = some (.cells #[.int .i64 k] 3 (0, 0)) → Calls Try.prog g #[.string s, .int .i64 n, .pointer (some ⟨bx, 0, none⟩)] w fun r w' => r = .returned (.int .i64 k) ∧ w = w') :
    Keeper (.func (.func g) #[] #[.pointer (some ⟨bx, 0, none⟩)]) (fun w _ => w.heap[bx]? = some (.cells #[.int .i64 k] 3 (0, 0))) (fun _ _ => k) (fun b => b = bx) :=
  keeper_some hent (fun Q w w' _ hI ht hd => (ht.block bx (Array.getElem?_eq_some_iff.1 hI).1 (hd bx rfl)).trans hI) (fun w _ hI b e => by rw [e]; exact (Array.getElem?_eq_some_iff.1 hI).1)
    (fun s n w l hI _ _ => (hcall s n w hI).mono fun r w' ⟨h1, h2⟩ => by subst h2; exact ⟨h1, hI, Turn.refl _ _⟩)

theorem keeper_trunc (bx : Nat) (k : Int) : Keeper (.func (.func 43) #[] #[.pointer (some ⟨bx, 0, none⟩)]) (fun w _ => w.heap[bx]? = some (.cells #[.int .i64 k] 3 (0, 0))) (fun _ _ => k) (fun b => b = bx) := keeper_box bx k enter_trunc (fun s n _ h => truncKeep_any (s := s) (n := n) h)

set_option maxRecDepth 100000 in
set_option maxHeartbeats 1000000 in
theorem trunc_walk (size : Int) {v : Value} {ops : List OpD} (h : OpsAt w v ops) (s : ByteArray) (hz : s.size ≤ maxLen) (n : Int) (k : Int) :
    Calls Try.prog 9 #[.int .i64 size, v, .string s, .int .i64 n, .int .i64 k] w fun r w' => r = .returned (.bool true) ∧ Turn (fun _ => False) w w' := by
  have hO := h.turned (turnBox w (.cells #[.int .i64 k] 3))
  have HO := Lib.hid hO
  clear h hO
  have hmf : ∀ (fn : Fn) (first cap : Array Value) (w : World), (Instr.makeFunc fn first cap).run Try.prog w = .ok (.func fn first cap) w := fun _ _ _ _ => rfl
  go_enter Try.func9, Try.ntmps9
  go_wp2_with fail
  go_at_call 11
  refine (first_any _).mono ?_
  rintro r w2 ⟨rfl, t2⟩
  go_wp2_with fail
  go_at_call 12
  refine (few_any (HO.out.turned t2)).mono ?_
  rintro r w3 ⟨b, rfl, hfew, l3⟩
  have t3 := t2.trans l3.turn (fun _ _ q => q)
  have T3 := Lib.hid t3
  clear t2 t3 l3
  cases b with
  | false =>
    clear hfew
    go_wp2
    go_ret
    exact ⟨rfl, (turnBox w _).trans T3.out (fun _ _ q => q)⟩
  | true =>
    by_cases hs : s.size ≤ 200
    · have hlen := hfew rfl
      clear hfew
      have hs' : (s.size : Int) ≤ 200 := by omega
      go_wp2_with fail
      go_at_call 13
      refine (made_any size (HO.out.turned T3.out) hlen).mono ?_
      rintro r w4 ⟨rfl, q4⟩
      have hbx : w.heap.size < w3.heap.size := by have := T3.out.size; simp at this; omega
      have x3 : w3.heap[w.heap.size]? = some (.cells #[.int .i64 k] 3 (0, 0)) := turn_heap T3.out (heap_alloc_new _ _)
      have hst := steps_made (Fsp.new size) ops
      have hst2 : (madeS (Fsp.new size) ops).steps ≤ 300 := by have : (Fsp.new size).steps = 0 := rfl; omega
      generalize madeS (Fsp.new size) ops = S at q4 hst2
      clear hst
      go_wp2_with fail
      go_at_call 14
      refine (q4.crash keeper_nil (l := []) trivial (fun _ q => q)).mono ?_
      rintro r w5 ⟨rfl, q5⟩
      have hgS : Fsp.Good S := by obtain ⟨⟨mo, pl, hr⟩, _⟩ := q4; exact hr.good
      have hsy := Fsp.crash_synced hgS (fun _ _ => 0)
      have har : (Fsp.crash S (fun _ _ => 0)).armed = 0 := rfl
      have hdn : (Fsp.crash S (fun _ _ => 0)).down = false := rfl
      have hst3 : (Fsp.crash S (fun _ _ => 0)).steps ≤ 300 := hst2
      generalize Fsp.crash S (fun _ _ => 0) = S1 at q5 hsy har hdn hst3
      have HX3 := Lib.hid x3
      have HSY := Lib.hid hsy
      have HAR := Lib.hid har
      have HDN := Lib.hid hdn
      have H5 := Lib.hid q5
      clear q4 hgS hsy har hdn q5 x3 hst2
      cases hf : Fsp.find S1.L s.data.toList with
      | none =>
        have he : Fsp.truncate S1 s.data.toList n = (S1, 2) := by simp [Fsp.truncate, HDN.out, hf]
        have HF := Lib.hid hf
        have HE := Lib.hid he
        clear hf he
        obtain ⟨⟨mo, pl, hr⟩, ht5⟩ := H5.out
        go_wp2_with fail
        go_at_call 20
        refine (read_none hr s hz HF.out).mono ?_
        rintro r w6 ⟨rfl, rfl⟩
        go_wp2_with fail
        go_at_call 36
        refine (used_is hr).mono ?_
        rintro r w6 ⟨rfl, rfl⟩
        go_wp2_with fail
        go_at_call 42
        refine (H5.out.truncate (by unfold StepsOk; omega) s hz n HE.out).mono ?_
        rintro r w7 ⟨rfl, q7⟩
        go_wp2_with (go_at_call 19; refine (num_any _ _).mono ?_; rintro r w' ⟨rfl, rfl⟩)
        go_ret
        exact ⟨rfl, ((turnBox w _).trans T3.out (fun _ _ q => q)).trans q7.2 (fun _ _ q => q)⟩
      | some f =>
        have hfs := Fsp.find_synced HSY.out hf
        have HF := Lib.hid hf
        have HFS := Lib.hid hfs
        clear hf hfs
        obtain ⟨⟨mo, pl, hr⟩, ht5⟩ := H5.out
        have hlf := len_room hr HF.out
        have hul := Fsp.used_find HF.out
        have hur := hr.good.2.1
        have hrr := hr.good.2.2.1
        go_wp2_with fail
        go_at_call 20
        refine (read_some hr s hz HF.out).mono ?_
        rintro r w6 ⟨g, rfl, hown, ht6⟩
        have hr6 := hr.turned ht6 (fun _ _ q => q)
        have hbr := SliceR.of_own hown
        have hgl := hown.lt g rfl
        have hst6 : StepsOk S1 := by unfold StepsOk; omega
        have HB := Lib.hid hbr
        clear hown hbr
        have T5 := Lib.hid (((turnBox w (.cells #[.int .i64 k] 3)).trans T3.out (fun _ _ q => q)).trans ht5 (fun _ _ q => q))
        have ht36 := ht5.trans ht6 (fun _ _ q => q)
        go_wp2_with fail
        go_at_call 36
        refine (used_is hr6).mono ?_
        rintro r w6' ⟨rfl, rfl⟩
        go_wp2_with fail
        go_at_call 42
        by_cases hn : n < 0 ∨ (f.data.length : Int) < n
        · have he : Fsp.truncate S1 s.data.toList n = (S1, 6) := by simp only [Fsp.truncate, HDN.out, HF.out, if_pos hn]; rfl
          refine (truncate_any hr6 hst6 s hz n).mono ?_
          rintro r w7 ⟨rfl, hp7⟩
          rw [he] at hp7 ⊢
          clear he
          obtain ⟨⟨mo7, pl7, hr7⟩, ht7⟩ := hp7
          have t7 : Turn (fun _ => False) w w7 := (T5.out.trans ht6 (fun _ _ q => q)).trans ht7 (fun i hi q => by have := hbx; omega)
          by_cases hn0 : n < 0
          · clear hn
            go_wp2_with (first | (go_at_call 19; refine (num_any _ _).mono ?_; rintro r w' ⟨rfl, rfl⟩) | (go_at_call 36; refine (used_is hr7).mono ?_; rintro r w' ⟨rfl, rfl⟩))
            go_ret
            exact ⟨rfl, t7⟩
          · have hn1 : (f.data.length : Int) < n := by omega
            clear hn
            go_wp2_with (first | (go_at_call 19; refine (num_any _ _).mono ?_; rintro r w' ⟨rfl, rfl⟩) | (go_at_call 36; refine (used_is hr7).mono ?_; rintro r w' ⟨rfl, rfl⟩))
            go_ret
            exact ⟨rfl, t7⟩
        · obtain ⟨m, rfl, hm⟩ := take_toNat hn
          have he : Fsp.truncate S1 s.data.toList (m : Int) = ({ Fsp.stepped S1 with L := Fsp.put S1.L s.data.toList ⟨f.data.take m, m⟩ }, 0) := by
            have e1 : min f.synced m = m := by rw [HFS.out]; omega
            have e2 : ¬ S1.armed = 1 := by rw [HAR.out]; decide
            simp only [Fsp.truncate, HDN.out, HF.out, Bool.false_eq_true, if_false, if_neg hn, if_neg e2, Int.toNat_natCast, e1]
          refine (truncate_any hr6 hst6 s hz m).mono ?_
          rintro r w7 ⟨rfl, hp7⟩
          rw [he] at hp7 ⊢
          clear he hn
          obtain ⟨⟨mo7, pl7, hr7⟩, ht7⟩ := hp7
          have hus := Fsp.used_put_some hr.good.1 HF.out ⟨f.data.take m, m⟩
          have hlm : (f.data.take m).length = m := by simp; omega
          have hsy7 : Fsp.AllSynced (Fsp.put S1.L s.data.toList ⟨f.data.take m, m⟩) := Fsp.put_synced HSY.out hlm.symm
          have hf7 : Fsp.find (Fsp.put S1.L s.data.toList ⟨f.data.take m, m⟩) s.data.toList = some ⟨f.data.take m, m⟩ := Fsp.find_put_same _ _ _
          simp only [hlm] at hus
          generalize hS2 : ({ Fsp.stepped S1 with L := Fsp.put S1.L s.data.toList ⟨f.data.take m, m⟩ } : Fsp.Fs) = S2 at hr7
          have hL2 : S2.L = Fsp.put S1.L s.data.toList ⟨f.data.take m, m⟩ := by rw [← hS2]
          rw [← hL2] at hus hsy7 hf7
          have hL8 : (Fsp.crash S2 (fun _ _ => k)).L = S2.L := Fsp.crash_same hsy7 _
          have x7 : w7.heap[w.heap.size]? = some (.cells #[.int .i64 k] 3 (0, 0)) := (ht7.block _ (by have := ht36.size; omega) (fun q => by omega)).trans (turn_heap ht36 HX3.out)
          have hbr7 := HB.out.turnQ ht7 (fun ad _ cap e _ q => by
            cases e
            have q' : w3.heap.size ≤ g ∧ g < w5.heap.size := q
            omega)
          have HB7 := Lib.hid hbr7
          have HX7 := Lib.hid x7
          have HU := Lib.hid hus
          have H8 := Lib.hid hL8
          have H7 := Lib.hid hf7
          have T7 := Lib.hid ht7
          have hs7 := ht7.size
          clear hbr7 x7 hus hL8 hf7 hsy7 hL2 hS2 ht7 HB
          go_wp2_with (go_at_call 19; refine (num_any _ _).mono ?_; rintro r w' ⟨rfl, rfl⟩)
          go_at_call 14
          refine (crash_any (keeper_trunc w.heap.size k) (l := []) HX7.out (fun b e q => by
            have e' : b = w.heap.size := e
            rcases q with q | q
            · have q' : w3.heap.size ≤ b ∧ b < w5.heap.size := q
              omega
            · have q' : w6.heap.size ≤ b ∧ b < w7.heap.size := q
              have := ht36.size
              omega) hr7).mono ?_
          rintro r w8 ⟨rfl, ⟨mo8, pl8, hr8⟩, hX8, ht8⟩
          have hs8 := ht8.size
          have hbr8 := HB7.out.turnQ ht8 (fun ad _ cap e _ q => by
            cases e
            rcases q with (q | q) | q
            · have q' : w3.heap.size ≤ g ∧ g < w5.heap.size := q
              omega
            · have q' : w6.heap.size ≤ g ∧ g < w7.heap.size := q
              omega
            · have q' : g = w.heap.size := q
              have := ht5.size
              omega)
          have HB8 := Lib.hid hbr8
          have hf8 : Fsp.find (Fsp.crash S2 (fun _ _ => k)).L s.data.toList = some ⟨f.data.take m, m⟩ := by rw [H8.out]; exact H7.out
          have HF8 := Lib.hid hf8
          have t8 : Turn (fun _ => False) w w8 := ((T5.out.trans ht6 (fun _ _ q => q)).trans T7.out (fun i hi q => by omega)).trans ht8 (fun i hi q => by
            rcases q with (q | q) | q
            · have q' : w3.heap.size ≤ i ∧ i < w5.heap.size := q
              omega
            · have q' : w6.heap.size ≤ i ∧ i < w7.heap.size := q
              have := T5.out.size; have := ht6.size; omega
            · have q' : i = w.heap.size := q
              omega)
          have T8 := Lib.hid t8
          clear hbr8 hf8 t8 ht8 hX8
          go_wp2_with fail
          go_at_call 20
          refine (read_some hr8 s hz HF8.out).mono ?_
          rintro r w9 ⟨g2, rfl, hown2, ht9⟩
          have hcr := SliceR.of_own hown2
          have hbr9 := (HB8.out.turned ht9).take hm
          have hr9 := hr8.turned ht9 (fun _ _ q => q)
          have HB9 := Lib.hid hbr9
          have HC9 := Lib.hid hcr
          have T9 := Lib.hid ht9
          clear hbr9 hcr hown2 ht9
          have hml : (f.data.take m).length ≤ maxLen := by rw [hlm]; unfold maxLen; omega
          have hue : ((Fsp.usedOf (Fsp.crash S2 (fun _ _ => k)).L : Nat) : Int) = ((Fsp.usedOf S1.L : Nat) : Int) - (f.data.length : Int) + (m : Int) := by
            rw [H8.out]; have := HU.out; omega
          have HM := Lib.hid hml
          have HUE := Lib.hid hue
          rw [hlm] at HC9
          clear hml hue
          go_wp2_with (go_at_call 19; refine (num_any _ _).mono ?_; rintro r w' ⟨rfl, rfl⟩)
          go_at_call 22
          refine (same_any HC9.out HB9.out HM.out HM.out).mono ?_
          rintro r w10 ⟨rfl, hl10⟩
          rw [decide_eq_true rfl]
          have hr10 := hr9.like hl10
          have HL10 := Lib.hid hl10
          clear hl10
          go_wp2_with fail
          go_at_call 36
          refine (used_is hr10).mono ?_
          rintro r w' ⟨rfl, rfl⟩
          rw [HUE.out]
          go_wp2_with fail
          go_ret
          exact ⟨rfl, (T8.out.trans T9.out (fun _ _ q => q)).trans HL10.out.turn (fun _ _ q => q)⟩
    · have hs' : (200 : Int) < s.size := by omega
      clear hfew
      go_wp2
      go_ret
      exact ⟨rfl, (turnBox w _).trans T3.out (fun _ _ q => q)⟩

end
end Go.Proofs.Ytnlcaonempngbaa
