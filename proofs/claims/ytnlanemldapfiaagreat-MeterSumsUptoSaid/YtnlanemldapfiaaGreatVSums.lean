/-
  MeterSums: the walk.
-/
import Derived.Test.YtnlanemldapfiaaGreatVSumP
import Derived.Test.YtnlanemldapfiaaGreatVEvents
import Derived.BigQuiet
import Derived.Deep.CutBlock
import Derived.Deep.DeepCutAuto
namespace Go.Proofs.YtnlanemldapfiaaGreat.se
open Go.RowKit Go.Maps Go.WideMaps Go.Shelf Go.Sort Go.Proofs.YtnlanemldapfiaaGreat.Tb
set_option linter.unusedVariables false

theorem wrap_add (a b : Int) : wrap64 (wrap64 a + b) = wrap64 (a + b) := by unfold wrap64; omega
theorem wrap_zero : wrap64 0 = 0 := by unfold wrap64; omega

theorem wsum_putL (f : Ev → Int) {l : List (Key × Val)} {k : Key} (h : ∀ y ∈ l, y.1 ≠ k) (x : Ev) : wsum f ((putL l k x).map Prod.snd) = wsum f (l.map Prod.snd) + f x := by
  induction l with
  | nil => simp [putL, wsum]
  | cons y l ih =>
    rw [putL]
    by_cases h1 : k < y.1
    · rw [if_pos h1]
      simp only [List.map_cons, wsum_cons]; omega
    · rw [if_neg h1]
      by_cases h2 : y.1 < k
      · rw [if_pos h2, List.map_cons, wsum_cons, ih (fun z hz => h z (List.mem_cons_of_mem _ hz)), List.map_cons, wsum_cons]; omega
      · exact absurd (eq_of_not h2 h1) (h y (List.mem_cons_self ..))

/-- what Ingest does: one more; a known one; none -/
theorem ing_cases {t : Tr Key Val} {l : List Ev} (h : Kept t l) (hl : l.length < 5000) (x : Ev) :
    (ingA t x = ansV false 0 ∧ (ingT t x).count = t.count + 1 ∧ wsum Ev.qty ((ingT t x).list.map Prod.snd) = wsum Ev.qty (t.list.map Prod.snd) + x.qty) ∨
    (ingA t x = ansV true 0 ∧ ingT t x = t) ∨ (∃ c, c ≠ 0 ∧ ingA t x = ansV false c ∧ ingT t x = t) := by
  unfold ingA ingT
  by_cases hc : checkE x = 0
  · rw [if_pos hc, if_pos hc]
    cases hq : Tb.get t x.key with
    | none =>
      have hcn := h.count
      have hne := findL_none_iff (by rw [← Tb.get_list h.rises]; exact hq)
      simp only [if_neg (show ¬ 5000 ≤ t.count by omega)]
      refine .inl ⟨trivial, count_new h.sized h.rises hq x, ?_⟩
      rw [put_list h.rises]
      exact wsum_putL _ hne x
    | some y =>
      by_cases hy : y = x
      · simp only [if_pos hy]
        exact .inr (.inl ⟨trivial, trivial⟩)
      · simp only [if_neg hy]
        exact .inr (.inr ⟨24, by decide, rfl, trivial⟩)
  · rw [if_neg hc, if_neg hc]
    exact .inr (.inr ⟨_, hc, rfl, rfl⟩)

/-- the sum of the first k accounts' weights -/
def accSum (t : Tr Key Val) (f : Ev → Int) (k : Nat) : Int := (((accsOf (t.list.map Prod.snd)).take k).map fun a => wsum f (evsOf t a 0 1099511627777)).sum
theorem accSum_succ {t : Tr Key Val} (f : Ev → Int) {k : Nat} {a : List UInt8} (h : (accsOf (t.list.map Prod.snd))[k]? = some a) : accSum t f (k + 1) = accSum t f k + wsum f (evsOf t a 0 1099511627777) := by
  unfold accSum
  rw [List.take_add_one, h]
  simp
theorem accSum_all {t : Tr Key Val} {l : List Ev} (h : Kept t l) (f : Ev → Int) : accSum t f (accsOf (t.list.map Prod.snd)).length = wsum f (t.list.map Prod.snd) := by
  unfold accSum
  rw [List.take_length]
  exact accounts_sum h f
/-- the sums of the first j totals -/
def cntSum (T : List Tot) (j : Nat) : Int := ((T.take j).map fun x => x.2.2).sum
def qtySum (T : List Tot) (j : Nat) : Int := ((T.take j).map fun x => x.2.1).sum
theorem cntSum_succ {T : List Tot} {j : Nat} {x : Tot} (h : T[j]? = some x) : cntSum T (j + 1) = cntSum T j + x.2.2 := by
  unfold cntSum
  rw [List.take_add_one, h]
  simp
theorem qtySum_succ {T : List Tot} {j : Nat} {x : Tot} (h : T[j]? = some x) : qtySum T (j + 1) = qtySum T j + x.2.1 := by
  unfold qtySum
  rw [List.take_add_one, h]
  simp

/-- a meter of one's own -/
structure One (w wr : World) (A : Nat) (t : Tr Key Val) (r : Nat) : Prop where
  a : MetR wr A t r
  la : w.heap.size ≤ A
  turn : Turn (fun _ => False) w wr
theorem One.later {w wr w' : World} {A r : Nat} {t : Tr Key Val} (h : One w wr A t r) (ht : Turn (fun _ => False) wr w') : One w w' A t r := ⟨h.a.later ht, h.la, h.turn.trans ht (fun _ _ q => q)⟩
theorem One.ing {w wr w' : World} {A r r' : Nat} {t t' : Tr Key Val} (h : One w wr A t r) (ha : MetR w' A t' r') (ht : Turn (fun b => b = A) wr w') : One w w' A t' r' := ⟨ha, h.la, turn_own h.turn h.la ht⟩

def Fine2 (w : World) (r : Ending) (w' : World) : Prop := r = .returned (.bool true) ∧ Turn (fun _ => False) w w'
theorem evsR_later {w w' : World} {v : Value} {l : List Ev} (h : EvsR w v l) (t : Turn (fun _ => False) w w') : EvsR w' v l := by
  obtain ⟨sp, cap, h1, h2⟩ := h
  refine ⟨sp, cap, h1, fun h0 => ?_⟩
  obtain ⟨b, o, e, h3⟩ := h2 h0
  exact ⟨b, o, e, fun i x hx => (h3 i x hx).later t⟩
theorem short_in {x : Ev} (h : Short x) : EvIn x := ⟨by have := h.k; omega, by have := h.a; omega, by have := h.m; omega⟩

set_option maxRecDepth 100000 in
set_option maxHeartbeats 8000000 in
theorem sums_any {w : World} {v : Value} {l : List Ev} (hl : EvsR w v l) (hll : l.length ≤ 9223372036854775807) (hlb : ∀ x ∈ l, EvB x) :
    Calls Tryz.prog 5 #[v] w (Fine2 w) := by
  have HFIRST := Lib.hid (first_any w)
  have HFEW := Lib.hid (fun w' (t : Turn (fun _ => False) w w') => few_any (evsR_later hl t) hll hlb)
  obtain ⟨sp, cap, rfl, hc⟩ := hl
  have HC := Lib.hid hc
  have HLB := Lib.hid hlb
  clear hc hlb
  go_enter Tryz.func5, Tryz.ntmps5
  go_wp2_with (go_at_call 6; refine HFIRST.out.mono ?_; rintro r w1 ⟨rfl, t1⟩)
  go_at_call 7
  refine (HFEW.out _ t1).mono ?_
  rintro r w2 ⟨b, rfl, hb, rfl⟩
  clear HFIRST HFEW
  cases b with
  | false =>
    have T := t1
    clear hb t1
    go_wp2_with (go_at_call 8; refine (newM_any _).mono ?_; rintro r w9 ⟨rfl, m9, t9⟩; have T := T.trans t9 (fun _ _ q => q); clear m9 t9)
    go_ret
    exact ⟨rfl, T⟩
  | true =>
    obtain ⟨hl200, hsh⟩ := hb rfl
    have HSH := Lib.hid hsh
    have HL1 := Lib.hid hl200
    have T := t1
    have i1 : (l.length : Int) ≤ 200 := by omega
    clear hb hsh t1 hl200
    go_wp2_with fail
    go_at_call 8
    refine (newM_any _).mono ?_
    rintro r w3 ⟨rfl, m3, t3⟩
    obtain ⟨A, hA⟩ : ∃ A, w2.heap.size = A := ⟨_, rfl⟩
    rw [hA] at m3 ⊢
    have HTW := Lib.hid (show One w w3 A .nil 0 from ⟨m3, by rw [← hA]; exact T.size, T.trans t3 (fun _ _ q => q)⟩)
    clear hA m3 t3 T
    go_upto_block 0 with fail
    go_cut [6, 7, 8, 9, 10] (fun sn sq _ _ _ wc => ∃ (t : Tr Key Val) (rep : Nat), sn = .int .i64 (wrap64 t.count) ∧ sq = .int .i64 (wrap64 (wsum Ev.qty (t.list.map Prod.snd))) ∧ Kept t l ∧ One w wc A t rep)
    case first =>
      as_aux_lemma =>
        go_wp2_with fail
        go_loopw [6, 7, 8] (fun sn sq i wr => ∃ (k : Nat) (t : Tr Key Val) (rep : Nat), k ≤ l.length ∧ i = .int .i64 k ∧ rep ≤ k ∧ sn = .int .i64 (wrap64 t.count) ∧ sq = .int .i64 (wrap64 (wsum Ev.qty (t.list.map Prod.snd))) ∧ Kept t (l.take k) ∧ One w wr A t rep) (fun _ _ i _ => l.length - (intOf i).toNat)
        case atStart => exact ⟨0, .nil, 0, Nat.zero_le _, rfl, Nat.le_refl _, by rw [show ((Tr.nil : Tr Key Val).count : Int) = 0 from rfl, wrap_zero], by rw [show wsum Ev.qty ((Tr.nil : Tr Key Val).list.map Prod.snd) = 0 from rfl, wrap_zero], kept_nil, HTW.out⟩
        case round =>
          obtain ⟨k, t, rep, hk, rfl, hrep, rfl, rfl, hkp, htw⟩ := hrel
          have i4 : (0 : Int) ≤ (k : Int) := by omega
          by_cases hlt : k < l.length
          · obtain ⟨b, o, e1, x1⟩ := HC.out (by omega)
            subst e1
            have hx := x1 k l[k] (List.getElem?_eq_getElem hlt)
            obtain ⟨c0, c1, c2, c3, c4⟩ := hx.later htw.turn
            have HSX := Lib.hid (short_in (HSH.out l[k] (List.getElem_mem hlt)))
            have HTK := Lib.hid (show l.take (k + 1) = l.take k ++ [l[k]] by rw [List.take_add_one, List.getElem?_eq_getElem hlt]; rfl)
            have i5 : (k : Int) < (l.length : Int) := by omega
            have HH := Lib.hid (show k < l.length ∧ k ≤ 200 ∧ rep ≤ k by have := HL1.out; omega)
            have HKP := Lib.hid hkp
            have HW := Lib.hid htw
            have HX := Lib.hid (hx)
            clear hk hrep hkp htw x1 HTW hx
            generalize l[k] = x at *
            clear hlt
            have hcs := ing_cases HKP.out (by have := HH.out; simp; omega) x
            obtain ⟨nv, hnv⟩ : ∃ nv, wrap64 (t.count : Int) = nv := ⟨_, rfl⟩
            obtain ⟨qv, hqv⟩ : ∃ qv, wrap64 (wsum Ev.qty (t.list.map Prod.snd)) = qv := ⟨_, rfl⟩
            rw [hnv, hqv]
            have HNV := Lib.hid hnv
            have HQV := Lib.hid hqv
            have HCS := Lib.hid hcs
            clear hnv hqv hcs
            go_wp2_with fail
            go_at_call 9
            refine (ingest_any HW.out.a (by have := HH.out; omega) x HSX.out).mono ?_
            rintro r w5 ⟨rfl, m5, t5⟩
            have HW5 := Lib.hid (HW.out.ing m5 t5)
            have HKP5 := Lib.hid (HKP.out.ing (by have := HH.out; simp; omega) x)
            have HR5 := Lib.hid (ingR_le t rep x)
            have HX5 := Lib.hid (HX.out.later HW5.out.turn)
            clear m5 t5 c0 c1 c2 c3 c4
            rcases HCS.out with ⟨ea, ec, es⟩ | ⟨ea, et⟩ | ⟨c, hc0, ea, et⟩
            · rw [ea]
              have HEC := Lib.hid ec
              have HES := Lib.hid es
              have c3 := HX5.out.c3
              clear ea ec es
              go_wp2_with (go_at_call 11; refine (num_any _ _).mono ?_; rintro r w9 ⟨rfl, rfl⟩)
              go_roundw
              case rel =>
                refine ⟨k + 1, ingT t x, ingR t rep x, HH.out.1, by go_num, by have := HR5.out; have := HH.out; omega, ?_, ?_, by rw [HTK.out]; exact HKP5.out, HW5.out⟩
                · rw [HEC.out, ← HNV.out, wrap_add]; push_cast; rfl
                · rw [HES.out, ← HQV.out, wrap_add]
              case measure => have := HH.out; simp [intOf]; omega
            · rw [ea]
              have HET := Lib.hid et
              clear ea et
              go_wp2_with (go_at_call 11; refine (num_any _ _).mono ?_; rintro r w9 ⟨rfl, rfl⟩)
              go_roundw
              case rel => exact ⟨k + 1, ingT t x, ingR t rep x, HH.out.1, by go_num, by have := HR5.out; have := HH.out; omega, by rw [HET.out, HNV.out], by rw [HET.out, HQV.out], by rw [HTK.out]; exact HKP5.out, HW5.out⟩
              case measure => have := HH.out; simp [intOf]; omega
            · rw [ea]
              have HET := Lib.hid et
              have e1 : (c == 0) = false := by simp [hc0]
              clear ea et hc0
              go_wp2_with (go_at_call 11; refine (num_any _ _).mono ?_; rintro r w9 ⟨rfl, rfl⟩)
              go_roundw
              case rel => exact ⟨k + 1, ingT t x, ingR t rep x, HH.out.1, by go_num, by have := HR5.out; have := HH.out; omega, by rw [HET.out, HNV.out], by rw [HET.out, HQV.out], by rw [HTK.out]; exact HKP5.out, HW5.out⟩
              case measure => have := HH.out; simp [intOf]; omega
          · have hk0 : k = l.length := by omega
            subst hk0
            rw [List.take_length] at hkp
            have HKP := Lib.hid hkp
            have HW := Lib.hid htw
            clear hlt hk hrep hkp htw HTW i4
            obtain ⟨nv, hnv⟩ : ∃ nv, wrap64 (t.count : Int) = nv := ⟨_, rfl⟩
            obtain ⟨qv, hqv⟩ : ∃ qv, wrap64 (wsum Ev.qty (t.list.map Prod.snd)) = qv := ⟨_, rfl⟩
            rw [hnv, hqv]
            have HNV := Lib.hid hnv
            have HQV := Lib.hid hqv
            clear hnv hqv
            go_wp2_with fail
            go_meet
            exact ⟨t, rep, by rw [HNV.out], by rw [HQV.out], HKP.out, HW.out⟩
    case rest =>
      obtain ⟨t, rep, rfl, rfl, hkp, htw⟩ := hcut
      have hin := kept_in (ys := []) (by rw [List.append_nil]; exact hkp) (fun y hy => by simp at hy) (fun x hx => short_in (HSH.out x hx))
      have hcn : t.count ≤ 200 := by have h1 := hkp.count; have h3 := HL1.out; omega
      have HIN := Lib.hid hin
      have HCN := Lib.hid hcn
      have HKP := Lib.hid hkp
      have HW := Lib.hid htw
      obtain ⟨nv, hnv⟩ : ∃ nv, wrap64 (t.count : Int) = nv := ⟨_, rfl⟩
      obtain ⟨qv, hqv⟩ : ∃ qv, wrap64 (wsum Ev.qty (t.list.map Prod.snd)) = qv := ⟨_, rfl⟩
      rw [hnv, hqv]
      have HNV := Lib.hid hnv
      have HQV := Lib.hid hqv
      clear hin hcn hkp htw hnv hqv HTW HC HLB HSH hll i1
      go_wp2_with fail
      go_at_call 18
      refine (accounts_any HW.out.a HIN.out (by have := HCN.out; omega)).mono ?_
      rintro r w5 ⟨v5, rfl, hn5, t5⟩
      obtain ⟨s5, cap5, rfl, hc5⟩ := hn5
      have HC5 := Lib.hid hc5
      have HW5 := Lib.hid (HW.out.later t5)
      have HAL := Lib.hid (show (accsOf (t.list.map Prod.snd)).length ≤ 200 by
        have h1 := nodup_length (accsOf_nodup (t.list.map Prod.snd)) (b := (t.list.map Prod.snd).map Ev.acc) (fun m hm => (mem_accsOf _ m).1 hm)
        rw [List.length_map, List.length_map, ← HKP.out.sized.count] at h1
        have := HCN.out
        omega)
      clear hc5 t5 HW
      obtain ⟨G, hG⟩ : ∃ G, accsOf (t.list.map Prod.snd) = G := ⟨_, rfl⟩
      rw [hG] at HC5 HAL ⊢
      have HG := Lib.hid hG
      clear hG
      go_wp2_with fail
      go_loopw [12, 13, 14, 15] (fun sc sq se i wr => ∃ k : Nat, k ≤ G.length ∧ i = .int .i64 k ∧ sc = .int .i64 (wrap64 (accSum t (fun _ => 1) k)) ∧ sq = .int .i64 (wrap64 (accSum t Ev.qty k)) ∧ se = .int .i64 (wrap64 (accSum t (fun _ => 1) k)) ∧ Turn (fun _ => False) w5 wr) (fun _ _ _ i _ => G.length - (intOf i).toNat)
      case atStart => exact ⟨0, Nat.zero_le _, rfl, by rw [show accSum t (fun _ => 1) 0 = 0 from rfl, wrap_zero], by rw [show accSum t Ev.qty 0 = 0 from rfl, wrap_zero], by rw [show accSum t (fun _ => 1) 0 = 0 from rfl, wrap_zero], Turn.refl _ _⟩
      case round =>
        obtain ⟨k, hk, rfl, rfl, rfl, rfl, tk⟩ := hrel
        have i4 : (0 : Int) ≤ (k : Int) := by omega
        have i6 : (k : Int) ≤ 200 := by have := HAL.out; omega
        by_cases hlt : k < G.length
        · obtain ⟨g5, e5, x5⟩ := HC5.out (by omega)
          subst e5
          have ca := turn_cell tk (x5 k G[k] (List.getElem?_eq_getElem hlt))
          have hga : (accsOf (t.list.map Prod.snd))[k]? = some G[k] := by rw [HG.out]; exact List.getElem?_eq_getElem hlt
          have hmem : G[k] ∈ accsOf (t.list.map Prod.snd) := by rw [HG.out]; exact List.getElem_mem hlt
          obtain ⟨hf0, hpos⟩ := account_ok HKP.out hmem
          have HA1 := Lib.hid (accSum_succ (fun _ => 1) hga)
          have HA2 := Lib.hid (accSum_succ Ev.qty hga)
          have hal : G[k].length ≤ 281474976710656 := by
            obtain ⟨x, hx, e⟩ := List.mem_map.1 ((mem_accsOf _ _).1 hmem)
            rw [← e]
            exact (HIN.out x hx).a
          have HM := Lib.hid (mild_of HKP.out (by have := HL1.out; omega) G[k] 0 1099511627777)
          have HF0 := Lib.hid hf0
          have HPOS := Lib.hid hpos
          have HAA := Lib.hid hal
          have i5 : (k : Int) < (G.length : Int) := by omega
          have HLT := Lib.hid hlt
          have HTK := Lib.hid tk
          clear hk x5 tk hga hmem hf0 hpos hal
          generalize G[k] = a at *
          clear hlt
          obtain ⟨n1, hn1⟩ : ∃ n1, accSum t (fun _ => 1) k = n1 := ⟨_, rfl⟩
          obtain ⟨n2, hn2⟩ : ∃ n2, accSum t Ev.qty k = n2 := ⟨_, rfl⟩
          rw [hn1, hn2]
          rw [hn1] at HA1
          rw [hn2] at HA2
          clear hn1 hn2
          obtain ⟨u1, hu1⟩ : ∃ u1, wrap64 n1 = u1 := ⟨_, rfl⟩
          obtain ⟨u2, hu2⟩ : ∃ u2, wrap64 n2 = u2 := ⟨_, rfl⟩
          rw [hu1, hu2]
          have HU1 := Lib.hid hu1
          have HU2 := Lib.hid hu2
          clear hu1 hu2
          go_wp2_with fail
          go_at_call 10
          refine (totals_ok (HW5.out.a.later HTK.out) HIN.out (by have := HCN.out; omega) a HAA.out 0 1099511627777 HF0.out).mono ?_
          rintro r w6 ⟨v6, rfl, hv6, t6⟩
          obtain ⟨s6, cap6, rfl, hc6⟩ := hv6.toC
          have HC6 := Lib.hid hc6
          have HT6 := Lib.hid (HTK.out.trans t6 (fun _ _ q => q))
          have HSUM := Lib.hid (totals_sum HM.out)
          have hTl : (totalsOf (evsOf t a 0 1099511627777)).length ≤ 1000 := by
            have h := nodup_small HKP.out (by have := HL1.out; omega) a 0 1099511627777
            unfold totsOf at h
            rw [if_pos HF0.out] at h
            exact h
          obtain ⟨T, hT⟩ : ∃ T, totalsOf (evsOf t a 0 1099511627777) = T := ⟨_, rfl⟩
          rw [hT] at HC6 HSUM HPOS hTl ⊢
          have e2 : ((T.length : Int) == 0) = false := by rw [beq_eq_false_iff_ne]; have := HPOS.out; omega
          have HTL := Lib.hid hTl
          have HCA := Lib.hid (turn_cell t6 ca)
          clear hc6 t6 hv6 hT hTl ca
          go_wp2_with (go_at_call 11; refine (num_any _ _).mono ?_; rintro r w9 ⟨rfl, rfl⟩)
          go_loopw [12, 13, 18] (fun sc sq sj wr2 => ∃ j : Nat, j ≤ T.length ∧ sj = .int .i64 j ∧ sc = .int .i64 (wrap64 (n1 + cntSum T j)) ∧ sq = .int .i64 (wrap64 (n2 + qtySum T j)) ∧ Turn (fun _ => False) w9 wr2) (fun _ _ sj _ => T.length - (intOf sj).toNat)
          case atStart => exact ⟨0, Nat.zero_le _, rfl, by rw [show cntSum T 0 = 0 from rfl, Int.add_zero, HU1.out], by rw [show qtySum T 0 = 0 from rfl, Int.add_zero, HU2.out], Turn.refl _ _⟩
          case round =>
            obtain ⟨j, hj, rfl, rfl, rfl, tj⟩ := hrel
            have j4 : (0 : Int) ≤ (j : Int) := by omega
            have j6 : (j : Int) ≤ 1000 := by have := HTL.out; omega
            obtain ⟨y1, hy1⟩ : ∃ y1, wrap64 (n1 + cntSum T j) = y1 := ⟨_, rfl⟩
            obtain ⟨y2, hy2⟩ : ∃ y2, wrap64 (n2 + qtySum T j) = y2 := ⟨_, rfl⟩
            rw [hy1, hy2]
            have HY1 := Lib.hid hy1
            have HY2 := Lib.hid hy2
            clear hy1 hy2
            by_cases hjt : j < T.length
            · obtain ⟨g8, e8, x8⟩ := HC6.out (by omega)
              subst e8
              obtain ⟨c0, c1, c2⟩ := (x8 j T[j] (List.getElem?_eq_getElem hjt)).later tj
              have HCJ := Lib.hid (cntSum_succ (List.getElem?_eq_getElem hjt))
              have HQJ := Lib.hid (qtySum_succ (List.getElem?_eq_getElem hjt))
              have j5 : (j : Int) < (T.length : Int) := by omega
              have HJT := Lib.hid hjt
              have HTJ := Lib.hid tj
              generalize T[j] = y at *
              clear hjt hj x8 tj
              go_wp2_with fail
              go_roundw
              case rel => exact ⟨j + 1, HJT.out, by go_num, by rw [HCJ.out, ← Int.add_assoc, ← wrap_add (n1 + cntSum T j), HY1.out], by rw [HQJ.out, ← Int.add_assoc, ← wrap_add (n2 + qtySum T j), HY2.out], HTJ.out⟩
              case measure => have := HJT.out; simp [intOf]; omega
            · have hj0 : j = T.length := by omega
              subst hj0
              have j5 : ¬ ((T.length : Int) < (T.length : Int)) := by omega
              have HTJ := Lib.hid tj
              have HS1 := Lib.hid (show cntSum T T.length = (evsOf t a 0 1099511627777).length from by unfold cntSum; rw [List.take_length]; exact HSUM.out.1)
              have HS2 := Lib.hid (show qtySum T T.length = wsum Ev.qty (evsOf t a 0 1099511627777) from by unfold qtySum; rw [List.take_length]; exact HSUM.out.2)
              have HTW := Lib.hid (HT6.out.trans tj (fun _ _ q => q))
              have ca := turn_cell tj HCA.out
              clear hjt hj tj
              go_wp2_with fail
              go_at_call 19
              refine (events_ok (HW5.out.a.later HTW.out) HIN.out (by have := HCN.out; omega) a HAA.out 0 1099511627777 HF0.out).mono ?_
              rintro r w10 ⟨v10, rfl, hv10, t10⟩
              obtain ⟨s10, cap10, rfl, _⟩ := hv10
              rw [byTime_length]
              have HT10 := Lib.hid (HTW.out.trans t10 (fun _ _ q => q))
              have HA1' := HA1.out
              have HA2' := HA2.out
              have HS1' := HS1.out
              have HS2' := HS2.out
              rw [wsum_one] at HA1'
              obtain ⟨m0, hm0⟩ : ∃ m0, (evsOf t a 0 1099511627777).length = m0 := ⟨_, rfl⟩
              rw [hm0] at HA1' HS1' ⊢
              have F1 := Lib.hid HA1'
              have F2 := Lib.hid HA2'
              have F3 := Lib.hid HS1'
              have F4 := Lib.hid HS2'
              clear t10 HA1' HA2' HS1' HS2' hm0
              go_wp2_with fail
              go_roundw
              case rel => exact ⟨k + 1, HLT.out, by go_num, by rw [F1.out, ← F3.out, HY1.out], by rw [F2.out, ← F4.out, HY2.out], by rw [F1.out, ← wrap_add n1, HU1.out], HT10.out⟩
              case measure => have := HLT.out; simp [intOf]; omega
        · have hk0 : k = G.length := by omega
          subst hk0
          have i5 : ¬ ((G.length : Int) < (G.length : Int)) := by omega
          have h1 : wrap64 (accSum t (fun _ => 1) G.length) = (t.count : Int) := by
            rw [← HG.out, accSum_all HKP.out, wsum_one, List.length_map, ← HKP.out.sized.count, IntWalk.wrap64_in _ (by have := HCN.out; omega)]
          have h2 : wrap64 (accSum t Ev.qty G.length) = qv := by rw [← HG.out, accSum_all HKP.out, HQV.out]
          have h3 : nv = (t.count : Int) := by rw [← HNV.out, IntWalk.wrap64_in _ (by have := HCN.out; omega)]
          rw [h1, h2]
          subst h3
          obtain ⟨_, root, ver, _, hm, hr⟩ := HW5.out.a.later tk
          have HLEN := Lib.hid (mlen_any hm hr (n := t.count) rfl)
          have HTE := Lib.hid (HW5.out.turn.trans tk (fun _ _ q => q))
          have e1 : ((t.count : Int) == (t.count : Int)) = true := by simp
          have e2 : (qv == qv) = true := by simp
          clear hlt hk tk hm hr h1 h2
          go_wp2_with (go_at_call 20; refine HLEN.out.mono ?_; rintro r w9 ⟨rfl, rfl⟩)
          go_ret
          exact ⟨rfl, HTE.out⟩
theorem sums_bytes {w : World} {v : Value} {l : List Ev} (hl : EvsR w v l) (hll : l.length ≤ maxLen) (hlb : ∀ x ∈ l, EvB x) :
    Calls Tryz.prog 5 #[v] w fun r w' => r = .returned (.bool true) ∧ Turn (fun _ => False) w w' :=
  sums_any hl (by unfold maxLen at hll; omega) hlb
end Go.Proofs.YtnlanemldapfiaaGreat.se
