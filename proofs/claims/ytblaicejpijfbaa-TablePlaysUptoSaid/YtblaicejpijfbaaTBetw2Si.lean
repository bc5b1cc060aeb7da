/-
  between, of every tree: a node. (si)
-/
import Derived.Test.YtblaicejpijfbaaTBetwSi
import Derived.Test.YtblaicejpijfbaaTRound3
namespace Go.Proofs.Ytblaicejpijfbaa.si
open Go.RowKit Go.Maps Go.WideMaps Go.Shelf Go.Proofs.Ytblaicejpijfbaa.Tb
attribute [local go_sem] Oper.semAt_some

section
variable {J Jx : List Pr → World → Prop} {l N : Nat}

theorem less_q (a b : Key) {d : Bool} (h : decide (a < b) = d) (w : World) : Calls Try.prog 66 #[keyV a, keyV b] w fun r w' => r = .returned (.bool d) ∧ w' = w := by
  refine (less_any a b w).mono ?_
  rintro r w' ⟨h1, h2⟩
  rw [h] at h1
  exact ⟨h1, h2.symm⟩

/-- what between of a side says -/
abbrev BetwSays (J Jx : List Pr → World → Prop) (l n : Nat) (N : Nat) (p : Option Addr) (a c : Key) (t : Tr Key Val) : Prop :=
  ∀ (pre : List Pr) (W : World), TrAt W (.pointer p) t → J pre W → pre.length + (betw a c t).length ≤ N → CallsIn Fence.wide n Try.prog 41 #[.pointer p, keyV a, keyV c, .func (.yield l) #[] #[]] W (AllSays J Jx W pre (betw a c t))

theorem keepsN_drewN (W : World) (k : Nat) : KeepsN W (W.drewN k) := KeepsN.turn ((like_drewN W k).turn (fun _ => False)) (fun _ _ _ q => q.elim)

section
variable {b s : Nat} {k a c : Key} {x : Val} {lv rv : Option Addr} {tl tr : Tr Key Val} {n : Nat} {pre : List Pr} {W : World}

set_option maxRecDepth 100000 in
set_option maxHeartbeats 4000000 in
/-- nothing -/
theorem betw_none (hJL : ∀ pre A B, J pre A → Like A B → J pre B) (hn : NAt W b k x s lv rv) (h1 : k < a) (h2 : ¬ k < c) (hj : J pre W) :
    CallsIn Fence.wide n Try.prog 41 #[.pointer (some ⟨b, 0, none⟩), keyV a, keyV c, .func (.yield l) #[] #[]] W (AllSays J Jx W pre ([])) := by
  have c0 := hn.cells.c0
  have c3 := hn.cells.c3
  have c4 := hn.cells.c4
  have q1 := Lib.hid (less_q k a (decide_eq_true h1))
  have q2 := Lib.hid (less_q k c (decide_eq_false h2))
  have HJ := Lib.hid (fun W' (h : Like W W') => hJL pre W W' hj h)
  clear hn h1 h2 hj hJL c3 c4
  refine callsIn_of_wp Try.func41 rfl trivial ?_ rfl
  simp only [Try.ntmps41, List.size_toArray, List.length_cons, List.length_nil, Nat.reduceAdd, Nat.reduceSub, Array.replicate_succ, Array.replicate_zero, List.push_toArray, List.append_toArray, List.nil_append, List.cons_append]
  gi_wp2
  refine wpIn_wide.2 ?_
  go_quiet ((go_at_call 66; first | (with_reducible exact Calls.quiet_of_same (q1.out _)) | (with_reducible exact Calls.quiet_of_same (q2.out _))))
  gi_wp2
  refine ⟨trivial, ?_⟩
  gi_wp2
  refine Qt.quiet_tail_wide 14 (by kernel_rfl) (by kernel_rfl) (by kernel_rfl) (by kernel_rfl) (by kernel_rfl) (by kernel_rfl) (by kernel_rfl) (by kernel_rfl) ?_
  simp only [List.take_succ_cons, List.take_zero, List.drop_succ_cons, List.drop_zero]
  repeat (any_goals (first | go_big_quiet_step ((fail)) | quiet_step ((fail))))
  refine wpQuiet_nil ?_
  rintro w2 ⟨nq2, rfl⟩
  gi_wp2
  refine ⟨fun _ h => (by cases h), ?_⟩
  gi_wp2
  refine ⟨trivial, ?_⟩
  gi_wp2
  go_ret
  exact .inl ⟨rfl, by rw [List.append_nil]; exact HJ.out _ (like_drewN W _), keepsN_drewN _ _⟩

set_option maxRecDepth 100000 in
set_option maxHeartbeats 4000000 in
/-- the left side alone -/
theorem betw_left (hJL : ∀ pre A B, J pre A → Like A B → J pre B) (hn : NAt W b k x s lv rv) (h1 : ¬ k < a) (h2 : ¬ k < c) (hl : TrAt W (.pointer lv) tl) (ih : BetwSays J Jx l (n - 1) N lv a c tl) (hN : pre.length + (betw a c tl).length ≤ N) (hj : J pre W) :
    CallsIn Fence.wide n Try.prog 41 #[.pointer (some ⟨b, 0, none⟩), keyV a, keyV c, .func (.yield l) #[] #[]] W (AllSays J Jx W pre (betw a c tl)) := by
  have c0 := hn.cells.c0
  have c3 := hn.cells.c3
  have c4 := hn.cells.c4
  have q1 := Lib.hid (less_q k a (decide_eq_false h1))
  have q2 := Lib.hid (less_q k c (decide_eq_false h2))
  have HL := Lib.hid (fun W' (h : Like W W') => ih pre W' (hl.like h) (hJL pre W W' hj h) hN)
  have HJL := Lib.hid hJL
  have HN := Lib.hid hn
  clear hn h1 h2 hj hJL c4 hl ih hN
  refine callsIn_of_wp Try.func41 rfl trivial ?_ rfl
  simp only [Try.ntmps41, List.size_toArray, List.length_cons, List.length_nil, Nat.reduceAdd, Nat.reduceSub, Array.replicate_succ, Array.replicate_zero, List.push_toArray, List.append_toArray, List.nil_append, List.cons_append]
  gi_wp2
  refine wpIn_wide.2 ?_
  go_quiet ((go_at_call 66; first | (with_reducible exact Calls.quiet_of_same (q1.out _)) | (with_reducible exact Calls.quiet_of_same (q2.out _))))
  gi_wp2_with ((first | (refine ⟨trivial, fun h => (by cases h), ?_⟩) | (refine ⟨trivial, ?_⟩) | (refine ⟨fun h => (by cases h), ?_⟩) | skip); gi_at_call 41; refine (HL.out _ (like_drewN W _)).mono ?_; rintro e W1 (⟨rfl, hj1, hk1⟩ | ⟨rfl, q, hq, hx⟩))
  · have c0 := ((HN.out.kept (keepsN_drewN W nq)).kept hk1).cells.c0
    gi_wp2
    refine Qt.quiet_tail_wide 14 (by kernel_rfl) (by kernel_rfl) (by kernel_rfl) (by kernel_rfl) (by kernel_rfl) (by kernel_rfl) (by kernel_rfl) (by kernel_rfl) ?_
    simp only [List.take_succ_cons, List.take_zero, List.drop_succ_cons, List.drop_zero]
    repeat (any_goals (first | go_big_quiet_step ((fail)) | quiet_step ((fail))))
    refine wpQuiet_nil ?_
    rintro w2 ⟨nq2, rfl⟩
    gi_wp2
    refine ⟨fun _ h => (by cases h), ?_⟩
    gi_wp2
    refine ⟨trivial, ?_⟩
    gi_wp2
    go_ret
    exact .inl ⟨rfl, HJL.out _ _ _ hj1 (like_drewN _ _), ((keepsN_drewN W _).trans hk1).trans (keepsN_drewN _ _)⟩
  · gi_wp2
    go_ret
    exact .inr ⟨rfl, q, hq, hx⟩

set_option maxRecDepth 100000 in
set_option maxHeartbeats 4000000 in
/-- the right side alone -/
theorem betw_right (hJL : ∀ pre A B, J pre A → Like A B → J pre B) (hn : NAt W b k x s lv rv) (h1 : k < a) (h2 : k < c) (hr : TrAt W (.pointer rv) tr) (ih : BetwSays J Jx l (n - 1) N rv a c tr) (hN : pre.length + (betw a c tr).length ≤ N) (hj : J pre W) :
    CallsIn Fence.wide n Try.prog 41 #[.pointer (some ⟨b, 0, none⟩), keyV a, keyV c, .func (.yield l) #[] #[]] W (AllSays J Jx W pre (betw a c tr)) := by
  have c0 := hn.cells.c0
  have c3 := hn.cells.c3
  have c4 := hn.cells.c4
  have q1 := Lib.hid (less_q k a (decide_eq_true h1))
  have q2 := Lib.hid (less_q k c (decide_eq_true h2))
  have HR := Lib.hid (fun W' (h : Like W W') => ih pre W' (hr.like h) (hJL pre W W' hj h) hN)
  clear hn h1 h2 hj hJL c3 hr ih hN
  refine callsIn_of_wp Try.func41 rfl trivial ?_ rfl
  simp only [Try.ntmps41, List.size_toArray, List.length_cons, List.length_nil, Nat.reduceAdd, Nat.reduceSub, Array.replicate_succ, Array.replicate_zero, List.push_toArray, List.append_toArray, List.nil_append, List.cons_append]
  gi_wp2
  refine wpIn_wide.2 ?_
  go_quiet ((go_at_call 66; first | (with_reducible exact Calls.quiet_of_same (q1.out _)) | (with_reducible exact Calls.quiet_of_same (q2.out _))))
  gi_wp2
  refine ⟨trivial, ?_⟩
  gi_wp2
  refine Qt.quiet_tail_wide 14 (by kernel_rfl) (by kernel_rfl) (by kernel_rfl) (by kernel_rfl) (by kernel_rfl) (by kernel_rfl) (by kernel_rfl) (by kernel_rfl) ?_
  simp only [List.take_succ_cons, List.take_zero, List.drop_succ_cons, List.drop_zero]
  repeat (any_goals (first | go_big_quiet_step ((fail)) | quiet_step ((fail))))
  refine wpQuiet_nil ?_
  rintro w2 ⟨nq2, rfl⟩
  gi_wp2
  refine ⟨fun _ h => (by cases h), ?_⟩
  gi_wp2_with ((first | (refine ⟨trivial, fun h => (by cases h), ?_⟩) | (refine ⟨trivial, ?_⟩) | (refine ⟨fun h => (by cases h), ?_⟩) | skip); gi_at_call 41; refine (HR.out _ (like_drewN W _)).mono ?_; rintro e W1 (⟨rfl, hj1, hk1⟩ | ⟨rfl, q, hq, hx⟩))
  · gi_wp2
    go_ret
    exact .inl ⟨rfl, hj1, (keepsN_drewN W _).trans hk1⟩
  · gi_wp2
    go_ret
    exact .inr ⟨rfl, q, hq, hx⟩

set_option maxRecDepth 100000 in
set_option maxHeartbeats 4000000 in
/-- both sides, and the pair between -/
theorem betw_both (hJL : ∀ pre A B, J pre A → Like A B → J pre B) (hn : NAt W b k x s lv rv) (hY : Round J Jx l N) (h1 : ¬ k < a) (h2 : k < c) (hl : TrAt W (.pointer lv) tl) (hr : TrAt W (.pointer rv) tr) (ihl : BetwSays J Jx l (n - 1) N lv a c tl) (ihr : BetwSays J Jx l (n - 1) N rv a c tr) (hN : pre.length + ((betw a c tl).length + ((betw a c tr).length + 1)) ≤ N) (hj : J pre W) :
    CallsIn Fence.wide n Try.prog 41 #[.pointer (some ⟨b, 0, none⟩), keyV a, keyV c, .func (.yield l) #[] #[]] W (AllSays J Jx W pre (betw a c tl ++ (k, x) :: betw a c tr)) := by
  have c0 := hn.cells.c0
  have c3 := hn.cells.c3
  have c4 := hn.cells.c4
  have q1 := Lib.hid (less_q k a (decide_eq_false h1))
  have q2 := Lib.hid (less_q k c (decide_eq_true h2))
  have HL := Lib.hid (fun W' (h : Like W W') => ihl pre W' (hl.like h) (hJL pre W W' hj h) (by omega))
  have HIR := Lib.hid ihr
  have HTR := Lib.hid hr
  have HJL := Lib.hid hJL
  have HN := Lib.hid hn
  have HLEN := Lib.hid hN
  have HYY := Lib.hid (fun W1 (hj : J (pre ++ betw a c tl) W1) => hY (n - 1) (pre ++ betw a c tl) (k, x) W1 hj (by simp; omega))
  clear hn h1 h2 hj hJL c4 hl hr ihl ihr hN hY
  refine callsIn_of_wp Try.func41 rfl trivial ?_ rfl
  simp only [Try.ntmps41, List.size_toArray, List.length_cons, List.length_nil, Nat.reduceAdd, Nat.reduceSub, Array.replicate_succ, Array.replicate_zero, List.push_toArray, List.append_toArray, List.nil_append, List.cons_append]
  gi_wp2
  refine wpIn_wide.2 ?_
  go_quiet ((go_at_call 66; first | (with_reducible exact Calls.quiet_of_same (q1.out _)) | (with_reducible exact Calls.quiet_of_same (q2.out _))))
  gi_wp2_with ((first | (refine ⟨trivial, fun h => (by cases h), ?_⟩) | (refine ⟨trivial, ?_⟩) | (refine ⟨fun h => (by cases h), ?_⟩) | skip); gi_at_call 41; refine (HL.out _ (like_drewN W _)).mono ?_; rintro e W1 (⟨rfl, hj1, hk1⟩ | ⟨rfl, q, hq, hx⟩))
  · have HK1 := Lib.hid ((keepsN_drewN W nq).trans hk1)
    have c0 := (HN.out.kept HK1.out).cells.c0
    have c1 := (HN.out.kept HK1.out).cells.c1
    have HJ1 := Lib.hid (fun k => HJL.out _ _ _ hj1 (like_drewN W1 k))
    clear hj1 hk1 c3
    gi_wp2
    refine Qt.quiet_tail_wide 14 (by kernel_rfl) (by kernel_rfl) (by kernel_rfl) (by kernel_rfl) (by kernel_rfl) (by kernel_rfl) (by kernel_rfl) (by kernel_rfl) ?_
    simp only [List.take_succ_cons, List.take_zero, List.drop_succ_cons, List.drop_zero]
    repeat (any_goals (first | go_big_quiet_step ((fail)) | quiet_step ((fail))))
    refine wpQuiet_nil ?_
    rintro w2 ⟨nq2, rfl⟩
    obtain ⟨fn, tmps, assign, body, hy, hR⟩ := HYY.out _ (HJ1.out nq2)
    gi_wp2_with ((first | (refine ⟨fun _ h => (by cases h), fun h => (by cases h), ?_⟩) | (refine ⟨fun h => (by cases h), ?_⟩) | (refine ⟨fun _ h => (by cases h), ?_⟩) | (refine ⟨trivial, ?_⟩) | skip); refine hR.mono ?_; clear hR; rintro e W2 (⟨rfl, hj2, hk2⟩ | ⟨rfl, hx2⟩); have HK2 := Lib.hid ((HK1.out.trans (keepsN_drewN W1 nq2)).trans hk2); have c4 := (HN.out.kept HK2.out).cells.c4)
    · have HR := Lib.hid (HIR.out _ _ (HTR.out.kept HK2.out) hj2 (by simp; have := HLEN.out; omega))
      clear hj2 hk2
      gi_wp2_with ((first | (refine ⟨trivial, fun h => (by cases h), ?_⟩) | (refine ⟨trivial, ?_⟩) | (refine ⟨fun h => (by cases h), ?_⟩) | skip); gi_at_call 41; refine HR.out.mono ?_; rintro e W3 (⟨rfl, hj3, hk3⟩ | ⟨rfl, q, hq, hx⟩))
      · gi_wp2
        go_ret
        exact .inl ⟨rfl, by rw [List.append_assoc, List.append_assoc] at hj3; exact hj3, HK2.out.trans hk3⟩
      · gi_wp2
        go_ret
        exact .inr ⟨rfl, betw a c tl ++ (k, x) :: q, List.prefix_append_right_inj _ |>.2 (List.prefix_cons_inj _ |>.2 hq), by rw [List.append_assoc, List.append_assoc] at hx; exact hx⟩
    · gi_wp2
      go_ret
      exact .inr ⟨rfl, betw a c tl ++ [(k, x)], List.prefix_append_right_inj _ |>.2 (List.prefix_cons_inj _ |>.2 List.nil_prefix), by rw [List.append_assoc] at hx2; exact hx2⟩
  · gi_wp2
    go_ret
    exact .inr ⟨rfl, q, hq.trans (List.prefix_append _ _), hx⟩

end

/-- between, of every tree -/
theorem betw_any (hJL : ∀ pre A B, J pre A → Like A B → J pre B) (hY : Round J Jx l N) (a c : Key) (t : Tr Key Val) : ∀ (n : Nat) (p : Option Addr), BetwSays J Jx l n N p a c t := by
  induction t with
  | nil =>
    intro n p pre W h hJ _
    cases h
    exact betw_nil n pre W a c hJ
  | node k x s tl tr ihl ihr =>
    intro n p pre W h hJ hN
    obtain ⟨b, lv, rv, hp, hb, hl, hr⟩ := h
    cases hp
    unfold betw at hN ⊢
    by_cases h1 : k < a
    · by_cases h2 : k < c
      · rw [if_pos h1, if_neg (fun q => q.1 h1), if_pos h2] at hN ⊢
        exact betw_right hJL ⟨hb⟩ h1 h2 hr (ihr (n - 1) rv) hN hJ
      · rw [if_pos h1, if_neg (fun q => q.1 h1), if_neg h2] at hN ⊢
        exact betw_none hJL ⟨hb⟩ h1 h2 hJ
    · by_cases h2 : k < c
      · rw [if_neg h1, if_pos ⟨h1, h2⟩, if_pos h2] at hN ⊢
        exact betw_both hJL ⟨hb⟩ hY h1 h2 hl hr (ihl (n - 1) lv) (ihr (n - 1) rv) (by simpa [Nat.add_comm, Nat.add_left_comm] using hN) hJ
      · rw [if_neg h1, if_neg (fun q => h2 q.2), if_neg h2] at hN ⊢
        simp only [List.append_nil] at hN ⊢
        exact betw_left hJL ⟨hb⟩ h1 h2 hl (ihl (n - 1) lv) hN hJ
end
end Go.Proofs.Ytblaicejpijfbaa.si
