/-
  Pairs by rising keys, as the laws keep them: put.
-/
import Derived.Test.YtblaicejpijfbaaTFew
import Derived.Test.YtblaicejpijfbaaTBox
import Derived.Maps.AppendAt
namespace Go.Proofs.Ytblaicejpijfbaa
open Go.RowKit Go.Maps Go.WideMaps Go.Proofs.Ytblaicejpijfbaa.Tb

abbrev Pr3 := List UInt8 × Int

/-- one round of put -/
def putStep (k : List UInt8) (v : Int) (st : List Pr3 × Bool) (x : Pr3) : List Pr3 × Bool :=
  if x.1 = k then st else if st.2 = false ∧ k < x.1 then (st.1 ++ [(k, v)] ++ [x], true) else (st.1 ++ [x], st.2)
def putEnd (k : List UInt8) (v : Int) (st : List Pr3 × Bool) : List Pr3 := if st.2 then st.1 else st.1 ++ [(k, v)]

theorem put_done {k : List UInt8} {v : Int} : ∀ (l : List Pr3) (acc : List Pr3), (∀ y ∈ l, y.1 ≠ k) → l.foldl (putStep k v) (acc, true) = (acc ++ l, true)
  | [], acc, _ => by simp
  | x :: r, acc, h => by
    rw [List.foldl_cons]
    have : putStep k v (acc, true) x = (acc ++ [x], true) := by
      unfold putStep; rw [if_neg (h x (by simp))]; simp
    rw [this, put_done r _ (fun y hy => h y (by simp [hy]))]
    simp

theorem put_fold {k : List UInt8} {v : Int} : ∀ (l : List Pr3) (acc : List Pr3), Rises l → putEnd k v (l.foldl (putStep k v) (acc, false)) = acc ++ putL l k v
  | [], acc, _ => by simp [putEnd, putL]
  | x :: r, acc, h => by
    rw [List.foldl_cons]
    have h1 := List.pairwise_cons.1 h
    by_cases hk : k < x.1
    · have hs : putStep k v (acc, false) x = (acc ++ [(k, v)] ++ [x], true) := by
        unfold putStep; rw [if_neg (fun e => Lin.irr _ (by rw [← e] at hk; exact hk)), if_pos ⟨rfl, hk⟩]
      rw [hs, put_done r _ (fun y hy e => Lin.irr k (Lin.trans hk (by have := h1.1 y hy; rw [e] at this; exact this)))]
      unfold putEnd
      rw [if_pos rfl, putL, if_pos hk]
      simp
    · by_cases hn : x.1 < k
      · have hs : putStep k v (acc, false) x = (acc ++ [x], false) := by
          unfold putStep; rw [if_neg (fun e => Lin.irr _ (by rw [e] at hn; exact hn)), if_neg (fun q => hk q.2)]
        rw [hs, put_fold r _ h1.2, putL, if_neg hk, if_pos hn]
        simp
      · have he : x.1 = k := eq_of_not hn hk
        have hs : putStep k v (acc, false) x = (acc, false) := by unfold putStep; rw [if_pos he]
        rw [hs, put_fold r _ h1.2, putL, if_neg hk, if_neg hn]
        have hr : putL r k v = (k, v) :: r := by
          cases r with
          | nil => rfl
          | cons y r' =>
            have := h1.1 y (by simp)
            rw [he] at this
            rw [putL, if_pos this]
        rw [hr]

/-- v reads as these pairs -/
def PairsR (w : World) (v : Value) (l : List Pr3) : Prop :=
  ∃ sp cap, v = .slice sp l.length cap ∧ (0 < l.length → ∃ b o, sp = some ⟨b, o, none⟩ ∧ ∀ j x, l[j]? = some x → w.cell? ⟨b, o + j * 2, none⟩ = some (.string ⟨x.1.toArray⟩) ∧ w.cell? ⟨b, o + j * 2 + 1, none⟩ = some (.int .i64 x.2))

def flat3 (l : List Pr3) : List Value := l.flatMap fun x => [.string ⟨x.1.toArray⟩, .int .i64 x.2]
theorem flat3_append (l m : List Pr3) : flat3 (l ++ m) = flat3 l ++ flat3 m := List.flatMap_append ..
theorem flat3_length (l : List Pr3) : (flat3 l).length = l.length * 2 := by
  induction l with
  | nil => rfl
  | cons x r ih => unfold flat3 at *; rw [List.flatMap_cons, List.length_append, ih, List.length_cons]; simp; omega
theorem flat3_get {l : List Pr3} {j : Nat} {x : Pr3} (h : l[j]? = some x) : (flat3 l)[j * 2]? = some (.string ⟨x.1.toArray⟩) ∧ (flat3 l)[j * 2 + 1]? = some (.int .i64 x.2) := by
  induction l generalizing j with
  | nil => simp at h
  | cons y r ih =>
    have e : flat3 (y :: r) = .string ⟨y.1.toArray⟩ :: .int .i64 y.2 :: flat3 r := rfl
    rw [e]
    cases j with
    | zero => simp at h; subst h; exact ⟨rfl, rfl⟩
    | succ j =>
      rw [List.getElem?_cons_succ] at h
      have := ih h
      have e1 : (j + 1) * 2 = j * 2 + 1 + 1 := by omega
      rw [e1, List.getElem?_cons_succ, List.getElem?_cons_succ, List.getElem?_cons_succ, List.getElem?_cons_succ]
      exact this

section
variable {w w' : World}

theorem PairsR.later {v : Value} {l : List Pr3} (h : PairsR w v l) (ht : Turn (fun _ => False) w w') : PairsR w' v l := by
  obtain ⟨sp, cap, hv, hc⟩ := h
  refine ⟨sp, cap, hv, fun h0 => ?_⟩
  obtain ⟨b, o, e, hx⟩ := hc h0
  exact ⟨b, o, e, fun j x hj => ⟨turn_cell ht (hx j x hj).1, turn_cell ht (hx j x hj).2⟩⟩

theorem PairsR.of_own {base : Nat} {v : Value} {l : List Pr3} (h : w.ownsRow base 49 2 v l.length (flat3 l)) : PairsR w v l := by
  rcases h.2 with ⟨hv, hn⟩ | ⟨g, cap, cur, hv, hg, hh, h1, h2, h3, h4⟩
  · exact ⟨none, 0, by rw [hv, hn], fun h0 => by omega⟩
  · refine ⟨some ⟨g, 0, none⟩, cap, hv, fun _ => ⟨_, _, rfl, fun j x hj => ?_⟩⟩
    have hown : w.ownsRow base 49 2 (.slice (some ⟨g, 0, none⟩) l.length cap) l.length (flat3 l) := by rw [← hv]; exact h
    have hlt : j < l.length := (List.getElem?_eq_some_iff.1 hj).1
    have a0 := hown.cellAt (j * 2) (by omega)
    have a1 := hown.cellAt (j * 2 + 1) (by omega)
    have g := flat3_get hj
    rw [Nat.zero_add]
    exact ⟨a0.trans g.1, a1.trans g.2⟩

theorem infoPair : (Try.prog.info? 49).map (fun i => (i.zero, i.size, i.bytes)) = some (some (.agg #[.string ⟨#[]⟩, .int .i64 0]), 2, 24) := by kernel_rfl
theorem undPairs : Try.prog.underlying 27 = some (.slice 49) := by kernel_rfl

theorem eq_str3 (a b : List UInt8) : (a == b) = decide (a = b) := Bool.eq_iff_iff.2 (by simp)

theorem pair_new (w : World) (x y : Value) (t : TypeId) : ∀ (j : Nat) (u : Value), [x, y][j]? = some u → (w.alloc (.cells #[x, y] t)).cell? ((⟨w.heap.size, 0, none⟩ : Addr).add j) = some u := by
  intro j u h
  rw [add_at, Nat.zero_add, cell_new]
  match j, h with
  | 0, h => exact h
  | 1, h => exact h
  | _ + 2, h => simp at h

theorem putStep_len (k : List UInt8) (v : Int) : ∀ (l : List Pr3) (st : List Pr3 × Bool), (l.foldl (putStep k v) st).1.length ≤ st.1.length + 2 * l.length
  | [], st => by simp
  | x :: r, st => by
    have h1 := putStep_len k v r (putStep k v st x)
    have h2 : (putStep k v st x).1.length ≤ st.1.length + 2 := by unfold putStep; split; omega; split <;> simp
    rw [List.foldl_cons, List.length_cons]
    omega

theorem fold_one_more {α β : Type} (f : β → α → β) (b : β) {l : List α} {k : Nat} (h : k < l.length) : (l.take (k + 1)).foldl f b = f ((l.take k).foldl f b) l[k] := by
  rw [List.take_succ_eq_append_getElem h, List.foldl_append]; rfl

set_option maxRecDepth 100000 in
set_option maxHeartbeats 4000000 in
/-- put, as the law has it -/
theorem lput_any {va : Value} {l : List Pr3} (h : PairsR w va l) (hr : Rises l) (hl : l.length ≤ 1000) (k : List UInt8) (x : Int) :
    Calls Try.prog 9 #[va, .string ⟨k.toArray⟩, .int .i64 x] w fun r w' => ∃ v', r = .returned v' ∧ w'.ownsRow w.heap.size 49 2 v' (putL l k x).length (flat3 (putL l k x)) ∧ Turn (fun _ => False) w w' := by
  have hput := put_fold (k := k) (v := x) l [] hr
  rw [List.nil_append] at hput
  rw [← hput]
  clear hput hr
  obtain ⟨sp, cap, rfl, hc⟩ := h
  have HC := Lib.hid hc
  obtain ⟨i0, hi, hz0, hz1, hz2⟩ := info_parts infoPair
  clear hc
  go_enter Try.func9, Try.ntmps9
  go_wp2_with fail
  go_loopw [7, 8, 9] (fun vo dn i wr => ∃ (j : Nat) (acc : List Pr3) (d : Bool), j ≤ l.length ∧ i = .int .i64 j ∧ dn = .bool d ∧ (l.take j).foldl (putStep k x) ([], false) = (acc, d) ∧ wr.ownsRow w.heap.size 49 2 vo acc.length (flat3 acc) ∧ Turn (fun _ => False) w wr) (fun _ _ i _ => l.length - (intOf i).toNat)
  case atStart => exact ⟨0, [], false, Nat.zero_le _, rfl, rfl, rfl, World.ownsRow_nil _ _ _ _, Turn.refl _ _⟩
  case round =>
    obtain ⟨j, acc, d, hj, rfl, rfl, hst, hown, ht⟩ := hrel
    have HT := Lib.hid ht
    have HOWN := Lib.hid hown
    by_cases hlt : j < l.length
    · obtain ⟨b, o, e1, x1⟩ := HC.out (by omega)
      subst e1
      obtain ⟨cw0, cw1⟩ := x1 j l[j] (List.getElem?_eq_getElem hlt)
      have hlen := putStep_len k x (l.take j) ([], false)
      have hnext := fold_one_more (putStep k x) ([], false) hlt
      rw [hst] at hlen hnext
      simp only [List.length_nil, List.length_take] at hlen
      have HST := Lib.hid hnext
      have hl2 : acc.length ≤ 2000 := by omega
      have i2 : (0 : Int) ≤ (j : Int) := by omega
      have i3 : (j : Int) < (l.length : Int) := by omega
      obtain ⟨⟨pk, pv⟩, hp⟩ : ∃ p, l[j] = p := ⟨_, rfl⟩
      rw [hp] at cw0 cw1
      have HP := Lib.hid hp
      have HCW := Lib.hid (show _ ∧ _ from ⟨cw0, cw1⟩)
      have c0 := turn_cell ht cw0
      have c1 := turn_cell ht cw1
      clear x1 hst hown ht hlen hnext hp cw0 cw1
      have e1 := eq_str3 pk k
      have e2 := less_eq pk k
      by_cases hk : pk = k
      · rw [decide_eq_true hk] at e1
        clear e2
        go_wp2
        go_roundw
        case rel =>
          refine ⟨j + 1, acc, d, by omega, by go_num, rfl, ?_, HOWN.out, HT.out⟩
          have h := HST.out
          rw [HP.out] at h
          rw [h]; unfold putStep; rw [if_pos hk]
        case measure => simp [intOf]; omega
      · rw [decide_eq_false hk] at e1
        by_cases hd : d = false ∧ k < pk
        · obtain ⟨rfl, hd2⟩ := hd
          rw [decide_eq_false (fun q => Lin.irr _ (Lin.trans q hd2))] at e2
          go_wp2_with (first | (at_builtin; refine wpList_append_own _ rfl _ _ 27 rfl w.heap.size 49 i0 (.agg #[.string ⟨#[]⟩, .int .i64 0]) 2 24 undPairs hi hz0 hz1 hz2 rfl (by decide) _ _ _ rfl (HOWN1.out.alloc _) ⟨w1.heap.size, 0, none⟩ 1 1 [.string ⟨pk.toArray⟩, .int .i64 pv] rfl rfl (pair_new _ _ _ _) (by simp [Value.oneCell']) (by unfold maxLen; omega) (by omega) (by have := HT1.out.size; simp; omega) ?_; intro v' w2 hown' hg' hnil'; have t2 : Turn (fun _ => False) w w2 := (HT1.out.alloc _).grown hg' (fun j hj => Or.inr (own_block HOWN1.out hj).1); have HT2 := Lib.hid t2; have HOWN2 := Lib.hid hown'; clear hown' hg' hnil' t2; go_frame) | (at_builtin; refine wpList_append_own _ rfl _ _ 27 rfl w.heap.size 49 i0 (.agg #[.string ⟨#[]⟩, .int .i64 0]) 2 24 undPairs hi hz0 hz1 hz2 rfl (by decide) _ _ _ rfl (HOWN.out.alloc _) ⟨wr.heap.size, 0, none⟩ 1 1 [.string ⟨k.toArray⟩, .int .i64 x] rfl rfl (pair_new _ _ _ _) (by simp [Value.oneCell']) (by unfold maxLen; omega) (by omega) (by have := HT.out.size; simp; omega) ?_; intro v' w1 hown' hg' hnil'; obtain ⟨cw0, cw1⟩ := HCW.out; have t1 : Turn (fun _ => False) w w1 := (HT.out.alloc _).grown hg' (fun j hj => Or.inr (own_block HOWN.out hj).1); have HT1 := Lib.hid t1; have HOWN1 := Lib.hid hown'; have c0 := turn_cell t1 cw0; have c1 := turn_cell t1 cw1; clear hown' hg' hnil' t1 cw0 cw1; go_frame))
          go_roundw
          case rel =>
            refine ⟨j + 1, acc ++ [(k, x)] ++ [(pk, pv)], true, by omega, by go_num, rfl, ?_, ?_, HT2.out⟩
            · have h := HST.out
              rw [HP.out] at h
              rw [h]; unfold putStep; rw [if_neg hk, if_pos ⟨rfl, hd2⟩]
            · have h := HOWN2.out
              rw [flat3_append, flat3_append]
              simp only [List.length_append, List.length_cons, List.length_nil]
              exact h
          case measure => simp [intOf]; omega
        · have hp2 : d = true ∨ (d = false ∧ pk < k) := by
            cases d with
            | true => exact Or.inl rfl
            | false =>
              refine Or.inr ⟨rfl, ?_⟩
              by_cases h : pk < k
              · exact h
              · exact absurd (eq_of_not h (fun q => hd ⟨rfl, q⟩)) hk
          rcases hp2 with rfl | ⟨rfl, hp2⟩
          · clear e2
            go_wp2_with (at_builtin; refine wpList_append_own _ rfl _ _ 27 rfl w.heap.size 49 i0 (.agg #[.string ⟨#[]⟩, .int .i64 0]) 2 24 undPairs hi hz0 hz1 hz2 rfl (by decide) _ _ _ rfl (HOWN.out.alloc _) ⟨wr.heap.size, 0, none⟩ 1 1 [.string ⟨pk.toArray⟩, .int .i64 pv] rfl rfl (pair_new _ _ _ _) (by simp [Value.oneCell']) (by unfold maxLen; omega) (by omega) (by have := HT.out.size; simp; omega) ?_; intro v' w2 hown' hg' hnil'; have t2 : Turn (fun _ => False) w w2 := (HT.out.alloc _).grown hg' (fun j hj => Or.inr (own_block HOWN.out hj).1); have HT2 := Lib.hid t2; have HOWN2 := Lib.hid hown'; clear hown' hg' hnil' t2; go_frame)
            go_roundw
            case rel =>
              refine ⟨j + 1, acc ++ [(pk, pv)], true, by omega, by go_num, rfl, ?_, ?_, HT2.out⟩
              · have h := HST.out
                rw [HP.out] at h
                rw [h]; unfold putStep; rw [if_neg hk, if_neg (fun q => by cases q.1)]
              · have h := HOWN2.out
                rw [flat3_append]
                simp only [List.length_append, List.length_cons, List.length_nil]
                exact h
            case measure => simp [intOf]; omega
          · rw [decide_eq_true hp2] at e2
            go_wp2_with (at_builtin; refine wpList_append_own _ rfl _ _ 27 rfl w.heap.size 49 i0 (.agg #[.string ⟨#[]⟩, .int .i64 0]) 2 24 undPairs hi hz0 hz1 hz2 rfl (by decide) _ _ _ rfl (HOWN.out.alloc _) ⟨wr.heap.size, 0, none⟩ 1 1 [.string ⟨pk.toArray⟩, .int .i64 pv] rfl rfl (pair_new _ _ _ _) (by simp [Value.oneCell']) (by unfold maxLen; omega) (by omega) (by have := HT.out.size; simp; omega) ?_; intro v' w2 hown' hg' hnil'; have t2 : Turn (fun _ => False) w w2 := (HT.out.alloc _).grown hg' (fun j hj => Or.inr (own_block HOWN.out hj).1); have HT2 := Lib.hid t2; have HOWN2 := Lib.hid hown'; clear hown' hg' hnil' t2; go_frame)
            go_roundw
            case rel =>
              refine ⟨j + 1, acc ++ [(pk, pv)], false, by omega, by go_num, rfl, ?_, ?_, HT2.out⟩
              · have h := HST.out
                rw [HP.out] at h
                rw [h]; unfold putStep; rw [if_neg hk, if_neg hd]
              · have h := HOWN2.out
                rw [flat3_append]
                simp only [List.length_append, List.length_cons, List.length_nil]
                exact h
            case measure => simp [intOf]; omega
    · have hj0 : j = l.length := by omega
      subst hj0
      rw [List.take_length] at hst
      have HST0 := Lib.hid hst
      have hlen := putStep_len k x l ([], false)
      rw [hst] at hlen
      simp only [List.length_nil] at hlen
      have hl2 : acc.length ≤ 2000 := by omega
      clear hlt hj hst hlen hown ht
      cases d with
      | true =>
        go_wp2
        go_ret
        rw [HST0.out]
        exact ⟨_, rfl, HOWN.out, HT.out⟩
      | false =>
        go_wp2_with (at_builtin; refine wpList_append_own _ rfl _ _ 27 rfl w.heap.size 49 i0 (.agg #[.string ⟨#[]⟩, .int .i64 0]) 2 24 undPairs hi hz0 hz1 hz2 rfl (by decide) _ _ _ rfl (HOWN.out.alloc _) ⟨wr.heap.size, 0, none⟩ 1 1 [.string ⟨k.toArray⟩, .int .i64 x] rfl rfl (pair_new _ _ _ _) (by simp [Value.oneCell']) (by unfold maxLen; omega) (by omega) (by have := HT.out.size; simp; omega) ?_; intro v' w1 hown' hg' hnil'; have t1 : Turn (fun _ => False) w w1 := (HT.out.alloc _).grown hg' (fun j hj => Or.inr (own_block HOWN.out hj).1); have HT1 := Lib.hid t1; have HOWN1 := Lib.hid hown'; clear hown' hg' hnil' t1; go_frame)
        go_ret
        rw [HST0.out]
        refine ⟨_, rfl, ?_, HT1.out⟩
        have h := HOWN1.out
        unfold putEnd
        rw [if_neg (by simp), flat3_append]
        simp only [List.length_append, List.length_cons, List.length_nil]
        exact h
end
end Go.Proofs.Ytblaicejpijfbaa
