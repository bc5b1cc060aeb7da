/-
  A region that draws its order, in the wide fence, inside a round or not: reads ahead, then a forced tail that is walked in the fence.
-/
import Derived.Test.YtnlanemldapfiaaGreatTRound
import Derived.TacticsIn
namespace Go.Proofs.YtnlanemldapfiaaGreat
open Go

/-- the wide fence, in the round ro -/
abbrev wideAt (ro : Option Nat) : Fence := { Fence.wide with round := ro }

section
variable {P : Program} {n : Nat} {ro : Option Nat}

theorem calls_at {f : FuncId} {args : Array Value} {w : World} {R : Ending → World → Prop} (h : Calls P f args w R) : CallsIn (wideAt ro) n P f args w R := by
  have h1 : CallsIn Fence.wide n P f args w R := callsIn_wide.2 h
  exact h1

theorem rows_at {row : String} {args : Array Value} {w : World} {R : Value → World → Prop} (h : Rows P row args w R) : RowsIn (wideAt ro) n P row args w R :=
  fun c cs _ => let ⟨v, w', r, s⟩ := h c cs; ⟨v, w', r, stepsIn_wide.2 s⟩

theorem upon_at {o : Oper} {a : Act} {next next' : Act → World → Prop} {Q Q' : Exit → Act → World → Prop} (hn : ∀ a w, next a w → next' a w) (hQ : ∀ e a w, Q e a w → Q' e a w) : ∀ {r : Result Next}, o.upon P a next Q r → o.uponIn (wideAt ro) n P a next' Q' r := by
  intro r h
  cases r with
  | ok x w' =>
    cases x with
    | value v => exact hn _ _ h
    | skip => exact hn _ _ h
    | defer d => exact hn _ _ h
    | enter f args =>
      refine ⟨fun e => (by cases e), calls_at (Calls.mono h ?_)⟩
      intro e w'' he
      cases e with
      | returned v => exact hn _ _ he
      | panicked c => exact hQ _ _ _ he
      | outgrown => obtain ⟨a1, w1, h1⟩ := (he : LetsOut Q); exact ⟨a1, w1, hQ _ _ _ h1⟩
    | row row args => exact ⟨fun e => (by cases e), rows_at (Rows.mono h fun v w'' he => hn _ _ he)⟩
    | round l' f tmps assign body => exact (h : False).elim
    | _ => exact (h : False).elim
  | halt x w' =>
    cases x with
    | panic v => exact hQ _ _ _ h
    | _ => exact (h : False).elim

theorem opIn_of_still {ops : Array Oper} {w : World} {i : Nat} {a : Act} {K : Act → Prop} {K' : Act → World → Prop} {Q : Exit → Act → World → Prop} (hd : ∀ (i : Nat) (o : Oper), ops[i]? = some o → ∀ c, o.op ≠ .defer c) (hK : ∀ a, K a → K' a w) (h : stOp P ops w i K a) :
    wpOpIn (wideAt ro) n P ops Q i K' a w := by
  have h1 := wpOp_of_stOp (Q' := fun _ _ _ => False) (K' := K') hK h
  unfold wpOp at h1
  unfold wpOpIn
  cases ho : ops[i]? with
  | none => rw [ho] at h1; exact h1
  | some o =>
    rw [ho] at h1
    simp only at h1 ⊢
    by_cases hw : Region.wanted o (yielded ops a.tmps) = true
    · rw [if_pos hw] at h1 ⊢
      rcases h1 with h1 | h1
      · refine ⟨fun _ _ => trivial, ?_⟩
        rw [Oper.semAt_plain _ _ _ (hd i o ho)]
        exact upon_at (fun _ _ h => h) (fun _ _ _ h => h.elim) h1
      · obtain ⟨_, _, h2⟩ := h1.2; exact h2.elim
    · rw [if_neg hw] at h1 ⊢
      exact ⟨fun _ _ => trivial, h1⟩

theorem anyIn_of_head {md : Region.Mode} {ops : Array Oper} {w : World} {k g : Nat} {L : Array Bool → Act → Prop} {Q : Exit → Act → World → Prop} (hd : ∀ (i : Nat) (o : Oper), ops[i]? = some o → ∀ c, o.op ≠ .defer c) (hL : ∀ listed a, L listed a → wpAnyIn (wideAt ro) n P md ops Q g listed a w) :
    ∀ (f : Nat) (listed : Array Bool) (a : Act), wpAnyL P md ops w k L f listed a → wpAnyIn (wideAt ro) n P md ops Q (f + g) listed a w
  | 0, _, _, h => by rw [Nat.zero_add]; exact hL _ _ h
  | f + 1, listed, a, h => by
    rw [show f + 1 + g = (f + g) + 1 by omega]
    exact ⟨fun h0 => absurd h0 h.1, fun i hi => opIn_of_still hd (fun a' h' => anyIn_of_head hd hL f _ a' h') (h.2 i hi).2⟩

theorem anyIn_of_seq {F : Fence} {md : Region.Mode} {ops : Array Oper} {Q : Exit → Act → World → Prop} : ∀ (l : List Oper) (k : Nat) (listed : Array Bool) (a : Act) (w : World), (∀ j, l[j]? = ops[k + j]?) →
    Region.seqB md ops l.length k listed = true → wpListIn F n P ops Q l a w → wpAnyIn F n P md ops Q l.length listed a w
  | [], _, _, _, _, _, hB, h => ⟨by simpa [Region.seqB] using hB, h⟩
  | o :: l, k, listed, a, w, hl, hB, h => by
    have h0 : ops[k]? = some o := by simpa using (hl 0).symm
    simp only [List.length_cons, Region.seqB, Bool.and_eq_true, decide_eq_true_eq] at hB
    refine ⟨fun h1 => (by rw [hB.1] at h1; cases h1), fun i hi => ?_⟩
    rw [hB.1] at hi
    obtain rfl : i = k := by simpa using hi
    have hw : wpOpIn F n P ops Q i (wpListIn F n P ops Q l) a w := by unfold wpOpIn; simp only [h0]; exact h
    exact wpOpIn_mono (fun a' w' h' => anyIn_of_seq l (i + 1) _ a' w' (fun j => by have := hl (j + 1); simpa [Nat.add_assoc, Nat.add_comm 1 j] using this) hB.2 h') hw

/-- reads in whatever order, then a tail in its one order, walked in the fence -/
theorem still_tail_in {id : Nat} {Q : Exit → Act → World → Prop} {a : Act} {w : World} {ops : List Oper} (k : Nat) (hd : noDefer ops = true) (hm : P.follows .mixedOrders = true) (hB : Region.lexTailB .any ops.toArray k = true)
    (h : wpStill P ops.toArray w.drew (fun a' => wpListIn (wideAt ro) n P ops.toArray Q (ops.drop k) a' w.drew) (ops.take k) a) : (Code.region id ops.toArray true).wpIn (wideAt ro) n P Q a w := by
  refine wpIn_region_any hm ?_
  simp only [Region.lexTailB, Bool.and_eq_true, decide_eq_true_eq] at hB
  obtain ⟨⟨⟨⟨hsel, hk⟩, hs⟩, hc⟩, hlex⟩ := hB
  have hk' : k < ops.length := by simpa using hk
  have e1 : (ops.take k).length = k := by rw [List.length_take]; omega
  have e2 : (ops.drop k).length = ops.toArray.size - k := by simp
  have inv : HeadInv .any ops.toArray k (Array.replicate ops.toArray.size false) :=
    ⟨by simp, fun j oj _ hl => (by rw [getD_replicate_false] at hl; cases hl), fun t _ ht => getD_in (by simpa using ht) (getD_replicate_false _ _)⟩
  have H := wpAnyL_lex (md := .any) (g := ops.toArray.size - k) hsel hs hc hk (ops.take k) 0 _ a (fun j hj => by rw [e1] at hj; simp [hj]) (by simpa using e1) inv (by rw [e1]; exact hlex) h
  have H2 := anyIn_of_head (Q := Q) (g := ops.toArray.size - k) (fun i o hi => noDefer_spec hd i o hi) (fun listed a' hL => by
    have h3 := anyIn_of_seq (F := wideAt ro) (n := n) (md := .any) (Q := Q) (ops.drop k) k listed a' w.drew (fun j => by simp [List.getElem?_drop]) (by rw [e2]; exact hL.1) hL.2
    rw [e2] at h3; exact h3) _ _ _ H
  rw [e1, show k + (ops.toArray.size - k) = ops.toArray.size by omega] at H2
  exact H2

theorem still_tail_wide {id : Nat} {Q : Exit → Act → World → Prop} {a : Act} {w : World} {ops : List Oper} (k : Nat) (hd : noDefer ops = true) (hm : P.follows .mixedOrders = true) (hB : Region.lexTailB .any ops.toArray k = true)
    (h : wpStill P ops.toArray w.drew (fun a' => wpListIn Fence.wide n P ops.toArray Q (ops.drop k) a' w.drew) (ops.take k) a) : (Code.region id ops.toArray true).wpIn Fence.wide n P Q a w :=
  still_tail_in (ro := none) k hd hm hB h
end
end Go.Proofs.YtnlanemldapfiaaGreat
