/-
  FsSafe: the walk.
-/
import Derived.Test.YtnlcaonempngbaaSafe
namespace Go.Proofs.Ytnlcaonempngbaa
open Go.RowKit Go.Maps Go.WideMaps Go.Sort

section
variable {w w' : World} {p : Nat} {S S' : Fsp.Fs}

theorem SliceB.shape {v : Value} {b : List UInt8} (h : SliceB w v b) : ∃ sp cap, v = .slice sp b.length cap := by
  obtain ⟨sp, cap, hv, _⟩ := h.toR
  exact ⟨sp, cap, hv⟩

theorem calm_ok {S : Fsp.Fs} {n : Nat} (h : Fsp.Calm S n) (hn : n ≤ 1000) : StepsOk S := by have := h.steps; unfold StepsOk; omega

set_option maxRecDepth 100000 in
set_option maxHeartbeats 4000000 in
theorem safe_walk (size : Int) {v vb vm : Value} {ops : List OpD} {b more : List UInt8} (h : OpsAt w v ops) (s : ByteArray) (hz : s.size ≤ maxLen) (hb : SliceB w vb b) (hm : SliceB w vm more) (hbl : b.length ≤ maxLen) (hml : more.length ≤ maxLen) (k k2 : Int) :
    Calls Try.prog 3 #[.int .i64 size, v, .string s, vb, vm, .int .i64 k, .int .i64 k2] w fun r w' => r = .returned (.bool true) ∧ Turn (fun _ => False) w w' := by
  obtain ⟨sb, cb, rfl⟩ := hb.shape
  obtain ⟨sm, cm, rfl⟩ := hm.shape
  have t1 := (turnBox w (.cells #[.int .i64 k] 3)).alloc (.cells #[.int .i64 k2] 3)
  have HO := Lib.hid (h.turned t1)
  have HB := Lib.hid (hb.turned t1 (fun _ _ _ _ _ q => q))
  have HM := Lib.hid (hm.turned t1 (fun _ _ _ _ _ q => q))
  have HX0 := Lib.hid (show ((w.alloc (.cells #[.int .i64 k] 3)).alloc (.cells #[.int .i64 k2] 3)).heap[w.heap.size]? = some (.cells #[.int .i64 k] 3 (0, 0)) from (Below.heap_alloc _ _ _ (by simp)).trans (heap_alloc_new _ _))
  have HY0 := Lib.hid (show ((w.alloc (.cells #[.int .i64 k] 3)).alloc (.cells #[.int .i64 k2] 3)).heap[w.heap.size + 1]? = some (.cells #[.int .i64 k2] 3 (0, 0)) by
    have := heap_alloc_new (w.alloc (.cells #[.int .i64 k] 3)) (.cells #[.int .i64 k2] 3)
    simpa using this)
  have T1 := Lib.hid t1
  clear h hb hm t1
  have hmf : ∀ (fn : Fn) (first cap : Array Value) (w : World), (Instr.makeFunc fn first cap).run Try.prog w = .ok (.func fn first cap) w := fun _ _ _ _ => rfl
  go_enter Try.func3, Try.ntmps3
  go_wp2_with fail
  go_wp2_with fail
  go_at_call 11
  refine (first_any _).mono ?_
  rintro r w2 ⟨rfl, t2⟩
  go_wp2_with fail
  go_at_call 12
  refine (few_any (HO.out.turned t2)).mono ?_
  rintro r w3 ⟨bb, rfl, hfew, l3⟩
  have t3 := t2.trans l3.turn (fun _ _ q => q)
  have T3 := Lib.hid t3
  clear t2 t3 l3
  cases bb with
  | false =>
    clear hfew
    go_wp2
    go_ret
    exact ⟨rfl, T1.out.trans T3.out (fun _ _ q => q)⟩
  | true =>
    have hlen := hfew rfl
    clear hfew
    by_cases hok : b.length ≤ 20000 ∧ more.length ≤ 20000 ∧ s.size ≤ 200
    · obtain ⟨h1, h2, h3⟩ := hok
      have h1' : (b.length : Int) ≤ 20000 := by omega
      have h2' : (more.length : Int) ≤ 20000 := by omega
      have h3' : (s.size : Int) ≤ 200 := by omega
      go_wp2_with fail
      go_at_call 13
      refine (made_any size (HO.out.turned T3.out) hlen).mono ?_
      rintro r w4 ⟨rfl, q4⟩
      have z3 : w.heap.size + 2 ≤ w3.heap.size := by have := T3.out.size; simpa using this
      have HX3 := Lib.hid (turn_heap T3.out HX0.out)
      have HY3 := Lib.hid (turn_heap T3.out HY0.out)
      have HB3 := Lib.hid (HB.out.turned T3.out (fun _ _ _ _ _ q => q))
      have HM3 := Lib.hid (HM.out.turned T3.out (fun _ _ _ _ _ q => q))
      have hst := steps_made (Fsp.new size) ops
      have hst2 : (madeS (Fsp.new size) ops).steps ≤ 300 := by have : (Fsp.new size).steps = 0 := rfl; omega
      generalize madeS (Fsp.new size) ops = S0 at q4 hst2
      have TW := Lib.hid (T1.out.trans T3.out (fun _ _ q => q))
      clear hst HX0 HY0 HB HM HO T1 T3 hlen
      go_wp2_with fail
      go_at_call 14
      refine (q4.crash keeper_nil (l := []) trivial (fun _ q => q)).mono ?_
      rintro r w5 ⟨rfl, q5⟩
      have hc1 : Fsp.Calm (Fsp.crash S0 (fun _ _ => 0)) 300 := ⟨rfl, rfl, hst2⟩
      generalize Fsp.crash S0 (fun _ _ => 0) = S1 at q5 hc1
      have hcr := Fsp.calm_remove hc1 q5.good.1 s.data.toList
      obtain ⟨S2, n2, e2⟩ : ∃ S2 n2, Fsp.remove S1 s.data.toList = (S2, n2) := ⟨_, _, rfl⟩
      rw [e2] at hcr
      have hcc := Fsp.calm_create hcr.1 hcr.2
      obtain ⟨S3, n3, e3⟩ : ∃ S3 n3, Fsp.create S2 s.data.toList = (S3, n3) := ⟨_, _, rfl⟩
      simp only at hcr hcc
      rw [e3] at hcc
      simp only at hcc
      have E2 := Lib.hid e2
      have E3 := Lib.hid e3
      have OK1 := Lib.hid (calm_ok hc1 (by omega))
      have OK2 := Lib.hid (calm_ok hcr.1 (by omega))
      have OK3 := Lib.hid (calm_ok hcc.1 (by omega))
      have HC3 := Lib.hid hcc.1
      have HF3 := Lib.hid hcc.2
      have H5 := Lib.hid q5
      clear q4 q5 hc1 hcr hcc e2 e3 hst2
      go_wp2_with fail
      go_at_call 15
      refine (H5.out.remove OK1.out s hz E2.out).mono ?_
      rintro r w6 ⟨rfl, q6⟩
      have H6 := Lib.hid q6
      clear q6 H5
      go_wp2_with fail
      go_at_call 16
      refine (H6.out.create OK2.out s hz E3.out).mono ?_
      rintro r w7 ⟨rfl, q7⟩
      have H7 := Lib.hid q7
      clear q7 H6
      go_wp2_with fail
      go_at_call 17
      by_cases hx : (Fsp.append S3 s.data.toList b).2 = 0
      · have hf3 : Fsp.find S3.L s.data.toList = some ⟨[], 0⟩ := by
          rcases HF3.out with hf | hf
          · exfalso
            have : (Fsp.append S3 s.data.toList b).2 = 2 := by simp [Fsp.append, HC3.out.down, hf]
            omega
          · exact hf
        obtain ⟨S4, e4, hc4, hf4⟩ : ∃ S4, Fsp.append S3 s.data.toList b = (S4, 0) ∧ Fsp.Calm S4 303 ∧ Fsp.find S4.L s.data.toList = some ⟨b, 0⟩ := by
          rcases Fsp.calm_append HC3.out hf3 b with e | ⟨S', e, h1, h2⟩
          · rw [e] at hx; exact absurd hx (by simp)
          · exact ⟨S', e, h1, by simpa using h2⟩
        obtain ⟨S5, e5, hc5, hf5⟩ := Fsp.calm_sync hc4 hf4
        simp only at hf5
        obtain ⟨S6, n6, d, e6, hc6, hf6, hd⟩ : ∃ S6 n6 d, Fsp.append S5 s.data.toList more = (S6, n6) ∧ Fsp.Calm S6 305 ∧ Fsp.find S6.L s.data.toList = some ⟨d, b.length⟩ ∧ (n6 = 4 ∧ d = b ∨ n6 = 0 ∧ d = b ++ more) := by
          rcases Fsp.calm_append hc5 hf5 more with e | ⟨S', e, h1, h2⟩
          · exact ⟨S5, 4, b, e, Fsp.calm_up hc5 (by omega), hf5, Or.inl ⟨rfl, rfl⟩⟩
          · exact ⟨S', 0, _, e, h1, h2, Or.inr ⟨rfl, rfl⟩⟩
        have hbd : b.length ≤ d.length := by
          rcases hd with ⟨_, e⟩ | ⟨_, e⟩
          · rw [e]; exact Nat.le_refl _
          · rw [e, List.length_append]; omega
        have hdl : d.length ≤ 40000 := by
          rcases hd with ⟨_, e⟩ | ⟨_, e⟩
          · rw [e]; omega
          · rw [e, List.length_append]; omega
        obtain ⟨M, hM⟩ : ∃ M, M = b.length + min k.toNat (d.length - b.length) := ⟨_, rfl⟩
        have hMd : M ≤ d.length := by omega
        have hdat := Fsp.torn_take (d := d) (k := k) hbd
        rw [← hM] at hdat
        have hf7 : Fsp.find (Fsp.crash S6 (fun _ _ => k)).L s.data.toList = some (Fsp.torn ⟨d, b.length⟩ k) := by rw [Fsp.crash_find, hf6]; rfl
        have hval : (n6 = 4 ∧ (b.length : Int) = (M : Int)) ∨ (n6 = 0 ∧ (b.length : Int) + min (max k 0) (more.length : Int) = (M : Int)) := by
          rcases hd with ⟨q1, e⟩ | ⟨q1, e⟩
          · rw [e] at hM; exact Or.inl ⟨q1, by omega⟩
          · rw [e, List.length_append] at hM; exact Or.inr ⟨q1, by omega⟩
        generalize Fsp.torn ⟨d, b.length⟩ k = f7 at hdat hf7
        have hl7 : f7.data.length = M := by rw [hdat, List.length_take]; omega
        have OK4 := Lib.hid (calm_ok hc4 (by omega))
        have OK5 := Lib.hid (calm_ok hc5 (by omega))
        have E4 := Lib.hid e4
        have E5 := Lib.hid e5
        have E6 := Lib.hid e6
        have HF6 := Lib.hid hf6
        have HF7 := Lib.hid hf7
        have HL7 := Lib.hid hl7
        have HDT := Lib.hid hdat
        have HVL := Lib.hid hval
        have HDN := Lib.hid hc6.down
        clear hx hf3 hf4 hf5 hc4 hc5 hc6 e4 e5 e6 hf6 hf7 hl7 hdat hd hM hval
        refine (H7.out.appendIn OK3.out s hz _ b HB3.out hbl E4.out).mono ?_
        rintro r w8 ⟨rfl, q8⟩
        have H8 := Lib.hid q8
        clear q8 H7
        go_wp2_with fail
        go_at_call 18
        refine (H8.out.sync OK4.out s hz E5.out).mono ?_
        rintro r w9 ⟨rfl, q9⟩
        have H9 := Lib.hid q9
        clear q9 H8
        go_wp2_with fail
        go_at_call 17
        refine (H9.out.appendIn OK5.out s hz _ more HM3.out hml E6.out).mono ?_
        rintro r w10 ⟨rfl, q10⟩
        obtain ⟨⟨mo, pl, hr⟩, t10⟩ := q10
        have z10 := t10.size
        have HX10 := Lib.hid (turn_heap t10 HX3.out)
        have HY10 := Lib.hid (turn_heap t10 HY3.out)
        have T10 := Lib.hid (TW.out.trans t10 (fun _ _ q => q))
        clear H9 t10
        go_wp2_with (go_at_call 19; refine (num_any _ _).mono ?_; rintro r w' ⟨rfl, rfl⟩)
        go_at_call 20
        refine (read_some hr s hz HF6.out).mono ?_
        rintro r w11 ⟨g, rfl, hown, t11⟩
        have hgl := (hown.lt g rfl).1
        have z11 := t11.size
        have hr11 := hr.turned t11 (fun _ _ q => q)
        have HS11 := Lib.hid (SliceR.of_own hown)
        have HX11 := Lib.hid (turn_heap t11 HX10.out)
        have HY11 := Lib.hid (turn_heap t11 HY10.out)
        have T11 := Lib.hid (T10.out.trans t11 (fun _ _ q => q))
        simp only at *
        clear hown t11 hr T10 HX10 HY10
        go_wp2_with fail
        go_at_call 14
        refine (crash_any (keeper_safe1 w.heap.size k) (l := []) HX11.out (fun b e q => by omega) hr11).mono ?_
        rintro r w12 ⟨rfl, ⟨mo12, pl12, hr12⟩, hX12, t12⟩
        have z12 := t12.size
        have HSY := Lib.hid (Fsp.crash_synced hr11.good (fun _ _ => k))
        have HD12 := Lib.hid (show (Fsp.crash S6 (fun _ _ => k)).down = false from rfl)
        have hY12 : w12.heap[w.heap.size + 1]? = some (.cells #[.int .i64 k2] 3 (0, 0)) := (t12.block _ (by omega) (fun q => by rcases q with q | q <;> omega)).trans HY11.out
        have HY12 := Lib.hid hY12
        have HX12 := Lib.hid (show w12.heap[w.heap.size]? = some (.cells #[.int .i64 k] 3 (0, 0)) from hX12)
        have HS12 := Lib.hid (HS11.out.turnQ t12 (fun ad _ cap e _ q => by
          cases e
          rcases q with q | q
          · have q' : w3.heap.size ≤ g ∧ g < w10.heap.size := q
            omega
          · have q' : g = w.heap.size := q
            omega))
        have T12 := Lib.hid (T11.out.trans t12 (fun i hi q => by rcases q with q | q <;> omega))
        have hql : ∀ b, Grow (fun b => w3.heap.size ≤ b ∧ b < w10.heap.size) w11 w12 b → w3.heap.size ≤ b ∧ b < w12.heap.size := fun b q => by rcases q with q | q <;> omega
        have hr12' := hr12.mono hql (fun b q => q.2)
        have HR12 := Lib.hid hr12'
        generalize Fsp.crash S6 (fun _ _ => k) = S7 at *
        clear hr12 hr12' t12 hX12 hY12 hr11 hql HX11 HY11 HS11 T11 HB3 HM3
        go_wp2_with fail
        go_at_call 20
        refine (read_some HR12.out s hz HF7.out).mono ?_
        rintro r w13 ⟨g2, rfl, hown, t13⟩
        have hsl := SliceR.of_own hown
        rw [HL7.out] at hsl ⊢
        rw [HDT.out] at hsl
        have HS13 := Lib.hid hsl
        have HW13 := Lib.hid ((HS12.out.turned t13).take hMd)
        have HY13 := Lib.hid (turn_heap t13 HY12.out)
        have HR13 := Lib.hid (HR12.out.turned t13 (fun _ _ q => q))
        have T13 := Lib.hid (T12.out.trans t13 (fun _ _ q => q))
        have hMl : (M : Int) ≤ (d.length : Int) := by omega
        have hlt : (d.take M).length = M := by rw [List.length_take]; omega
        have hML : (d.take M).length ≤ maxLen := by rw [hlt]; unfold maxLen; omega
        have HML := Lib.hid hML
        have z13 := t13.size
        have c13 : w13.cell? ⟨w.heap.size, 0, none⟩ = some (.int .i64 k) := by simp [World.cell?, turn_heap t13 HX12.out]
        clear hown t13 hsl HR12 HS12 HY12 T12 hlt hML
        have hn1 : (b.length : Int) = (M : Int) → ((M : Int) != (b.length : Int)) = false := fun e => by rw [e]; simp
        have hn2 : (b.length : Int) + min (max k 0) (more.length : Int) = (M : Int) → ((M : Int) != (b.length : Int) + min (max k 0) (more.length : Int)) = false := fun e => by rw [e]; simp
        rcases HVL.out with ⟨rfl, hm⟩ | ⟨rfl, hm⟩
        · have bn := hn1 hm
          clear hn1 hn2 hm
          go_wp2_with (go_at_call 19; refine (num_any _ _).mono ?_; rintro r w' ⟨rfl, rfl⟩)
          go_at_call 22
          refine (same_any HS13.out HW13.out HML.out HML.out).mono ?_
          rintro r w14 ⟨rfl, l14⟩
          rw [decide_eq_true rfl]
          have hr14 := HR13.out.turned l14.turn (fun _ _ q => q)
          have hdn := down_is hr14 HD12.out
          have HR14 := Lib.hid hr14
          have HY14 := Lib.hid (turn_heap l14.turn HY13.out)
          have T14 := Lib.hid (T13.out.trans l14.turn (fun _ _ q => q))
          have z14 := l14.turn.size
          clear l14 hr14 HR13 HY13 T13 HS13 HW13
          go_wp2_with (first | (go_at_call 19; refine (num_any _ _).mono ?_; rintro r w' ⟨rfl, rfl⟩) | (go_at_call 23; refine hdn.mono ?_; rintro r w' ⟨rfl, rfl⟩))
          go_at_call 24
          refine (copy_any HR14.out).mono ?_
          rintro r w15 ⟨rfl, ⟨mo15, pl15, hg15⟩, t15⟩
          have z15 := t15.size
          have HR15 := Lib.hid (HR14.out.turned t15 (fun _ _ q => q))
          have HY15 := Lib.hid (turn_heap t15 HY14.out)
          have T15 := Lib.hid (T14.out.trans t15 (fun _ _ q => q))
          have HG15 := Lib.hid hg15
          clear t15 hg15 HR14 HY14 T14 hdn
          go_wp2_with fail
          go_at_call 14
          refine (crash_any (keeper_safe2 (w.heap.size + 1) k2) (l := []) HY15.out (fun b e q => by omega) HR15.out).mono ?_
          rintro r w16 ⟨rfl, ⟨mo16, pl16, hr16⟩, hX16, t16⟩
          have hg16 := HG15.out.turned t16 (fun b hb q => by rcases q with q | q <;> omega)
          have hal := alike_self hr16 hg16 (Fsp.crash_same HSY.out _)
          have T16 := Lib.hid (T15.out.trans t16 (fun i hi q => by rcases q with q | q <;> omega))
          clear hr16 hX16 t16 hg16 HR15 HY15 T15 HG15
          go_wp2_with fail
          go_at_call 26
          refine hal.mono ?_
          rintro r w17 ⟨rfl, t17⟩
          have T17 := Lib.hid (T16.out.trans t17 (fun _ _ q => q))
          clear hal t17
          go_wp2_with fail
          go_ret
          exact ⟨rfl, T17.out⟩
        · have bn := hn2 hm
          clear hn1 hn2
          go_wp2_with (go_at_call 19; refine (num_any _ _).mono ?_; rintro r w' ⟨rfl, rfl⟩)
          go_at_call 22
          refine (same_any HS13.out HW13.out HML.out HML.out).mono ?_
          rintro r w14 ⟨rfl, l14⟩
          rw [decide_eq_true rfl]
          have hr14 := HR13.out.turned l14.turn (fun _ _ q => q)
          have hdn := down_is hr14 HD12.out
          have HR14 := Lib.hid hr14
          have HY14 := Lib.hid (turn_heap l14.turn HY13.out)
          have T14 := Lib.hid (T13.out.trans l14.turn (fun _ _ q => q))
          have z14 := l14.turn.size
          clear l14 hr14 HR13 HY13 T13 HS13 HW13
          go_wp2_with (first | (go_at_call 19; refine (num_any _ _).mono ?_; rintro r w' ⟨rfl, rfl⟩) | (go_at_call 23; refine hdn.mono ?_; rintro r w' ⟨rfl, rfl⟩))
          go_at_call 24
          refine (copy_any HR14.out).mono ?_
          rintro r w15 ⟨rfl, ⟨mo15, pl15, hg15⟩, t15⟩
          have z15 := t15.size
          have HR15 := Lib.hid (HR14.out.turned t15 (fun _ _ q => q))
          have HY15 := Lib.hid (turn_heap t15 HY14.out)
          have T15 := Lib.hid (T14.out.trans t15 (fun _ _ q => q))
          have HG15 := Lib.hid hg15
          clear t15 hg15 HR14 HY14 T14 hdn
          go_wp2_with fail
          go_at_call 14
          refine (crash_any (keeper_safe2 (w.heap.size + 1) k2) (l := []) HY15.out (fun b e q => by omega) HR15.out).mono ?_
          rintro r w16 ⟨rfl, ⟨mo16, pl16, hr16⟩, hX16, t16⟩
          have hg16 := HG15.out.turned t16 (fun b hb q => by rcases q with q | q <;> omega)
          have hal := alike_self hr16 hg16 (Fsp.crash_same HSY.out _)
          have T16 := Lib.hid (T15.out.trans t16 (fun i hi q => by rcases q with q | q <;> omega))
          clear hr16 hX16 t16 hg16 HR15 HY15 T15 HG15
          go_wp2_with fail
          go_at_call 26
          refine hal.mono ?_
          rintro r w17 ⟨rfl, t17⟩
          have T17 := Lib.hid (T16.out.trans t17 (fun _ _ q => q))
          clear hal t17
          go_wp2_with fail
          go_ret
          exact ⟨rfl, T17.out⟩
      · -- the first append is refused: 2 or 4
        have hx24 : (Fsp.append S3 s.data.toList b).2 = 2 ∨ (Fsp.append S3 s.data.toList b).2 = 4 := by
          rcases HF3.out with hf | hf
          · left; simp [Fsp.append, HC3.out.down, hf]
          · rcases Fsp.calm_append HC3.out hf b with e | ⟨S', e, _⟩
            · right; rw [e]
            · rw [e] at hx; exact absurd rfl hx
        obtain ⟨S4, n4, e4⟩ : ∃ S4 n4, Fsp.append S3 s.data.toList b = (S4, n4) := ⟨_, _, rfl⟩
        rw [e4] at hx hx24
        simp only at hx hx24
        have ok4 : StepsOk S4 := by
          have h1 : S4.steps ≤ S3.steps + 1 := by
            have := steps_told S3 ⟨1, 0, s, s, .slice none 0 0, b⟩
            have e : toldS S3 ⟨1, 0, s, s, .slice none 0 0, b⟩ = Fsp.append S3 s.data.toList b := rfl
            rw [e, e4] at this; exact this
          have := HC3.out.steps
          unfold StepsOk; omega
        obtain ⟨S5, n5, e5⟩ : ∃ S5 n5, Fsp.sync S4 s.data.toList = (S5, n5) := ⟨_, _, rfl⟩
        have ok5 : StepsOk S5 := by
          have h1 : S4.steps ≤ S3.steps + 1 := by
            have := steps_told S3 ⟨1, 0, s, s, .slice none 0 0, b⟩
            have e : toldS S3 ⟨1, 0, s, s, .slice none 0 0, b⟩ = Fsp.append S3 s.data.toList b := rfl
            rw [e, e4] at this; exact this
          have h2 : S5.steps ≤ S4.steps + 1 := by
            have := steps_told S4 ⟨2, 0, s, s, .slice none 0 0, b⟩
            have e : toldS S4 ⟨2, 0, s, s, .slice none 0 0, b⟩ = Fsp.sync S4 s.data.toList := rfl
            rw [e, e5] at this; exact this
          have := HC3.out.steps
          unfold StepsOk; omega
        obtain ⟨S6, n6, e6⟩ : ∃ S6 n6, Fsp.append S5 s.data.toList more = (S6, n6) := ⟨_, _, rfl⟩
        have E5 := Lib.hid e5
        have E6 := Lib.hid e6
        refine (H7.out.appendIn OK3.out s hz _ b HB3.out hbl e4).mono ?_
        rintro r w8 ⟨rfl, q8⟩
        have H8 := Lib.hid q8
        have OK4 := Lib.hid ok4
        have OK5 := Lib.hid ok5
        clear q8 H7 e4 e5 e6 ok4 ok5
        go_wp2_with fail
        go_at_call 18
        refine (H8.out.sync OK4.out s hz E5.out).mono ?_
        rintro r w9 ⟨rfl, q9⟩
        have H9 := Lib.hid q9
        clear q9 H8
        go_wp2_with fail
        go_at_call 17
        refine (H9.out.appendIn OK5.out s hz _ more HM3.out hml E6.out).mono ?_
        rintro r w10 ⟨rfl, q10⟩
        have T10 := Lib.hid (TW.out.trans q10.2 (fun _ _ q => q))
        clear q10 H9
        rcases hx24 with rfl | rfl
        · go_wp2_with (go_at_call 19; refine (num_any _ _).mono ?_; rintro r w' ⟨rfl, rfl⟩)
          go_ret
          exact ⟨rfl, T10.out⟩
        · go_wp2_with (go_at_call 19; refine (num_any _ _).mono ?_; rintro r w' ⟨rfl, rfl⟩)
          go_ret
          exact ⟨rfl, T10.out⟩
    · by_cases h1 : b.length ≤ 20000
      · have h1' : (b.length : Int) ≤ 20000 := by omega
        by_cases h2 : more.length ≤ 20000
        · have h2' : (more.length : Int) ≤ 20000 := by omega
          have h3' : (200 : Int) < (s.size : Int) := by omega
          clear hok
          go_wp2
          go_ret
          exact ⟨rfl, T1.out.trans T3.out (fun _ _ q => q)⟩
        · have h2' : (20000 : Int) < (more.length : Int) := by omega
          clear hok
          go_wp2
          go_ret
          exact ⟨rfl, T1.out.trans T3.out (fun _ _ q => q)⟩
      · have h1' : (20000 : Int) < (b.length : Int) := by omega
        clear hok
        go_wp2
        go_ret
        exact ⟨rfl, T1.out.trans T3.out (fun _ _ q => q)⟩

end
end Go.Proofs.Ytnlcaonempngbaa
