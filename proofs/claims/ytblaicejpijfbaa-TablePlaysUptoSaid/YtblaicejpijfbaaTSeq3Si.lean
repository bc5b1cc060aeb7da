/-
  Range of a table and of a snapshot: what goes over it. (si)
-/
import Derived.Test.YtblaicejpijfbaaTSeq2Si
import Derived.Test.YtblaicejpijfbaaTBetw2Si
namespace Go.Proofs.Ytblaicejpijfbaa.si
open Go.RowKit Go.Maps Go.WideMaps Go.Shelf Go.RwLone Go.Proofs.Ytblaicejpijfbaa.Tb
attribute [local go_sem] Oper.semAt_some

section
variable {w w' : World} {tp sp : Nat} {m rc ver : Int} {root : Option Addr}

theorem then_q (h : SnapC w sp root ver) : Calls Try.prog 38 #[.pointer (some ⟨sp, 0, none⟩)] w fun r w' => r = .returned (.pointer root) ∧ w' = w :=
  (then_any h).mono fun _ _ ⟨a, b⟩ => ⟨a, b.symm⟩

theorem set_back (h : TabC w tp m rc root ver) (x : Int) : (w.setCell ⟨tp, 4, none⟩ (.int .i32 x)).setCell ⟨tp, 4, none⟩ (.int .i32 rc) = w := by
  have h1 := (like_back h x).heap
  obtain ⟨hp, tape, drawn, os, out⟩ := w
  simp only [World.setCell] at h1 ⊢
  rw [h1]

set_option maxRecDepth 100000 in
set_option maxHeartbeats 1600000 in
theorem now_q (h : TabC w tp 0 0 root ver) : Calls Try.prog 33 #[.pointer (some ⟨tp, 0, none⟩)] w fun r w' => r = .returned (.pointer root) ∧ w' = w := by
  have hc6 : (w.setCell ⟨tp, 4, none⟩ (.int .i32 1)).cell? ⟨tp, 6, none⟩ = some (.pointer root) := (h.set4 1).cell 6
  have HT := Lib.hid h
  clear h
  go_enter_defers Try.func33, Try.ntmps33
  go_wp2_with (go_at_call 30; refine (rlock_open Try.rwRLib tp 0 0 (.int .i32 0) (.int .u32 0) _ (HT.out.cell 0) (HT.out.cell 3) (HT.out.cell 4) (HT.out.free 4) (by rw [one32]; decide)).mono ?_; rw [one32]; rintro e w' ⟨rfl, rfl⟩)
  refine leaves_cons (f := 31) (args := #[.pointer (some ⟨tp, 0, none⟩)]) (by simp) (by simp [go_sem]) ?_
  refine (runlock_deferred Try.rwRLib tp 0 1 (.int .i32 0) (.int .u32 0) .returning _ ((HT.out.set4 1).cell 0) ((HT.out.set4 1).cell 2) ((HT.out.set4 1).cell 4) ((HT.out.set4 1).free 4) (by rw [zero32]; decide)).mono ?_
  rw [zero32]
  rintro e u' w'' ⟨rfl, rfl, rfl⟩
  exact ⟨_, results_tmp rfl _ _ _, rfl, set_back HT.out 1⟩

set_option maxRecDepth 100000 in
set_option maxHeartbeats 1000000 in
theorem srng1_in {J Jx : List Pr → World → Prop} {l N n B1 B2 B3 : Nat} {W : World} {t : Tr Key Val} {a c : Key} (hJL : ∀ pre A B, J pre A → Like A B → J pre B) (hY : Round J Jx l N) (hN : (betw a c t).length ≤ N)
    (hB : W.cell? ⟨B1, 0, none⟩ = some (.pointer (some ⟨sp, 0, none⟩))) (hB2 : W.cell? ⟨B2, 0, none⟩ = some (keyV a)) (hB3 : W.cell? ⟨B3, 0, none⟩ = some (keyV c)) (h : SnapC W sp root ver) (ht : TrAt W (.pointer root) t) (hj : J [] W) :
    CallsIn Fence.wide n Try.prog 40 #[.func (.yield l) #[] #[], .pointer (some ⟨B1, 0, none⟩), .pointer (some ⟨B2, 0, none⟩), .pointer (some ⟨B3, 0, none⟩)] W (Over J Jx (betw a c t)) := by
  have HNOW := Lib.hid (fun k => then_q (h.later ((like_drewN W k).turn (fun _ => False)) (fun q => q)))
  have HBET := Lib.hid (fun k => betw_any hJL hY a c t (n - 1) root [] (W.drewN k) (ht.like (like_drewN W k)) (hJL _ _ _ hj (like_drewN W k)) (by simpa using hN))
  clear h ht hj hN hY hJL
  refine callsIn_of_wp Try.func40 rfl trivial ?_ rfl
  simp only [Try.ntmps40, List.size_toArray, List.length_cons, List.length_nil, Nat.reduceAdd, Nat.reduceSub, Array.replicate_succ, Array.replicate_zero, List.push_toArray, List.append_toArray, List.nil_append, List.cons_append]
  gi_wp2
  refine Qt.quiet_tail_wide 5 (by kernel_rfl) (by kernel_rfl) (by kernel_rfl) (by kernel_rfl) (by kernel_rfl) (by kernel_rfl) (by kernel_rfl) (by kernel_rfl) ?_
  simp only [List.take_succ_cons, List.take_zero, List.drop_succ_cons, List.drop_zero]
  repeat (any_goals (first | go_big_quiet_step ((go_at_call 38; with_reducible exact Calls.quiet_of_same (HNOW.out _))) | quiet_step ((go_at_call 38; with_reducible exact Calls.quiet_of_same (HNOW.out _)))))
  refine wpQuiet_nil ?_
  rintro w2 ⟨nq2, rfl⟩
  gi_wp2_with ((first | (refine ⟨trivial, fun h => (by cases h), ?_⟩) | (refine ⟨trivial, ?_⟩)); gi_at_call 41; refine (HBET.out _).mono ?_; rintro e W2 (⟨rfl, hj2, hk2⟩ | ⟨rfl, q, hq, hx2⟩))
  · go_end0
    exact ⟨rfl, .inl ⟨_, rfl, hj2⟩⟩
  · go_end0
    exact ⟨rfl, .inr ⟨_, hq, hx2⟩⟩

set_option maxRecDepth 100000 in
set_option maxHeartbeats 1000000 in
theorem trng1_in {J Jx : List Pr → World → Prop} {l N n B1 B2 B3 : Nat} {W : World} {t : Tr Key Val} {a c : Key} (hJL : ∀ pre A B, J pre A → Like A B → J pre B) (hY : Round J Jx l N) (hN : (betw a c t).length ≤ N)
    (hB : W.cell? ⟨B1, 0, none⟩ = some (.pointer (some ⟨tp, 0, none⟩))) (hB2 : W.cell? ⟨B2, 0, none⟩ = some (keyV a)) (hB3 : W.cell? ⟨B3, 0, none⟩ = some (keyV c)) (h : TabC W tp 0 0 root ver) (ht : TrAt W (.pointer root) t) (hj : J [] W) :
    CallsIn Fence.wide n Try.prog 64 #[.func (.yield l) #[] #[], .pointer (some ⟨B1, 0, none⟩), .pointer (some ⟨B2, 0, none⟩), .pointer (some ⟨B3, 0, none⟩)] W (Over J Jx (betw a c t)) := by
  have HNOW := Lib.hid (fun k => now_q (h.later ((like_drewN W k).turn (fun _ => False)) (fun q => q)))
  have HBET := Lib.hid (fun k => betw_any hJL hY a c t (n - 1) root [] (W.drewN k) (ht.like (like_drewN W k)) (hJL _ _ _ hj (like_drewN W k)) (by simpa using hN))
  clear h ht hj hN hY hJL
  refine callsIn_of_wp Try.func64 rfl trivial ?_ rfl
  simp only [Try.ntmps64, List.size_toArray, List.length_cons, List.length_nil, Nat.reduceAdd, Nat.reduceSub, Array.replicate_succ, Array.replicate_zero, List.push_toArray, List.append_toArray, List.nil_append, List.cons_append]
  gi_wp2
  refine Qt.quiet_tail_wide 5 (by kernel_rfl) (by kernel_rfl) (by kernel_rfl) (by kernel_rfl) (by kernel_rfl) (by kernel_rfl) (by kernel_rfl) (by kernel_rfl) ?_
  simp only [List.take_succ_cons, List.take_zero, List.drop_succ_cons, List.drop_zero]
  repeat (any_goals (first | go_big_quiet_step ((go_at_call 33; with_reducible exact Calls.quiet_of_same (HNOW.out _))) | quiet_step ((go_at_call 33; with_reducible exact Calls.quiet_of_same (HNOW.out _)))))
  refine wpQuiet_nil ?_
  rintro w2 ⟨nq2, rfl⟩
  gi_wp2_with ((first | (refine ⟨trivial, fun h => (by cases h), ?_⟩) | (refine ⟨trivial, ?_⟩)); gi_at_call 41; refine (HBET.out _).mono ?_; rintro e W2 (⟨rfl, hj2, hk2⟩ | ⟨rfl, q, hq, hx2⟩))
  · go_end0
    exact ⟨rfl, .inl ⟨_, rfl, hj2⟩⟩
  · go_end0
    exact ⟨rfl, .inr ⟨_, hq, hx2⟩⟩

set_option maxRecDepth 100000 in
set_option maxHeartbeats 1000000 in
theorem sseqr_in {J Jx : List Pr → World → Prop} {l N n B1 B2 B3 B4 : Nat} {W : World} {t : Tr Key Val} {a c : Key} (hJL : ∀ pre A B, J pre A → Like A B → J pre B) (hY : Round J Jx l N) (hN : (betw a c t).length ≤ N)
    (hB4 : W.cell? ⟨B4, 0, none⟩ = some (.func (.func 40) #[] #[.pointer (some ⟨B1, 0, none⟩), .pointer (some ⟨B2, 0, none⟩), .pointer (some ⟨B3, 0, none⟩)]))
    (hB : W.cell? ⟨B1, 0, none⟩ = some (.pointer (some ⟨sp, 0, none⟩))) (hB2 : W.cell? ⟨B2, 0, none⟩ = some (keyV a)) (hB3 : W.cell? ⟨B3, 0, none⟩ = some (keyV c)) (h : SnapC W sp root ver) (ht : TrAt W (.pointer root) t) (hj : J [] W) :
    CallsIn Fence.wide n Try.prog 65 #[.func (.yield l) #[] #[], .pointer (some ⟨B4, 0, none⟩)] W (Over J Jx (betw a c t)) := by
  have hne : ∀ w : World, (binOp .neq 78 (.func (.yield l) #[] #[]) .nilFunc).run Try.prog w = .ok (.bool true) w := fun w => by kernel_rfl
  have HA := Lib.hid (srng1_in (n := n - 1) hJL hY hN hB hB2 hB3 h ht hj)
  clear h ht hj hN hY hJL hB hB2 hB3
  refine callsIn_of_wp Try.func65 rfl trivial ?_ rfl
  simp only [Try.ntmps65, List.size_toArray, List.length_cons, List.length_nil, Nat.reduceAdd, Nat.reduceSub, Array.replicate_succ, Array.replicate_zero, List.push_toArray, List.append_toArray, List.nil_append, List.cons_append]
  gi_wp2_with ((first | (refine ⟨trivial, fun h => (by cases h), ?_⟩) | (refine ⟨fun _ _ => trivial, fun h => (by cases h), ?_⟩) | (refine ⟨trivial, ?_⟩)); gi_at_call 40; refine HA.out.mono ?_; rintro e W2 ⟨rfl, ho⟩)
  go_end0
  exact ⟨rfl, ho⟩

/-- **what Range hands back**: the pairs between, by rising keys; or a front of them -/
theorem srng_stops {n B1 B2 B3 B4 : Nat} {t : Tr Key Val} {a c : Key} (hB4 : w.cell? ⟨B4, 0, none⟩ = some (.func (.func 40) #[] #[.pointer (some ⟨B1, 0, none⟩), .pointer (some ⟨B2, 0, none⟩), .pointer (some ⟨B3, 0, none⟩)]))
    (hB : w.cell? ⟨B1, 0, none⟩ = some (.pointer (some ⟨sp, 0, none⟩))) (hB2 : w.cell? ⟨B2, 0, none⟩ = some (keyV a)) (hB3 : w.cell? ⟨B3, 0, none⟩ = some (keyV c)) (h : SnapC w sp root ver) (ht : TrAt w (.pointer root) t) :
    SeqStopsK Fence.wide n Try.prog 65 #[.pointer (some ⟨B4, 0, none⟩)] encs KeepsN (fun ys => ys = betw a c t) (fun pre => pre <+: betw a c t) (betw a c t).length w := by
  intro l J Jx W hW hJ _ hY h0
  have hT : Turn (fun _ => False) w W := Below.turn hW _
  refine (sseqr_in (J := J) (Jx := Jx) (fun pre A B hj hk => abides_like hJ hj hk) (round_of (J := J) (Jx := Jx) hY) (Nat.le_refl _) (turn_cell hT hB4) (turn_cell hT hB) (turn_cell hT hB2) (turn_cell hT hB3) (h.later hT (fun q => q)) (ht.later hT) h0).mono ?_
  rintro e W' ⟨rfl, ho⟩
  exact ⟨⟨_, rfl⟩, ho⟩

/-- what Range hands back lies so -/
structure SRngAt (w : World) (B1 B2 B3 B4 : Nat) (p : Nat) (a c : Key) : Prop where
  b4 : w.cell? ⟨B4, 0, none⟩ = some (.func (.func 40) #[] #[.pointer (some ⟨B1, 0, none⟩), .pointer (some ⟨B2, 0, none⟩), .pointer (some ⟨B3, 0, none⟩)])
  b1 : w.cell? ⟨B1, 0, none⟩ = some (.pointer (some ⟨p, 0, none⟩))
  b2 : w.cell? ⟨B2, 0, none⟩ = some (keyV a)
  b3 : w.cell? ⟨B3, 0, none⟩ = some (keyV c)

set_option maxHeartbeats 400000 in
theorem srng_any (p : Nat) (a c : Key) (w : World) : Calls Try.prog 20 #[.pointer (some ⟨p, 0, none⟩), keyV a, keyV c] w fun r w' => ∃ B1 B2 B3 B4, r = .returned (.func (.func 65) #[] #[.pointer (some ⟨B4, 0, none⟩)]) ∧ SRngAt w' B1 B2 B3 B4 p a c ∧ Turn (fun _ => False) w w' := by
  have hseq : ∀ (fn : Fn) (x y : Array Value) (W : World), Calls Try.prog 36 #[.func fn x y] W fun r w' => r = .returned (.func (.func 65) #[] #[.pointer (some ⟨W.heap.size, 0, none⟩)]) ∧ W.alloc (.cells #[.func fn x y] 45) = w' := by
    intro fn x y W
    go_enter Try.func36, Try.ntmps36
    go_wp2
    go_ret
    exact ⟨rfl, rfl⟩
  have HS := Lib.hid hseq
  clear hseq
  go_enter Try.func20, Try.ntmps20
  go_wp2_with (go_at_call 36; refine (HS.out _ _ _ _).mono ?_; rintro e w' ⟨rfl, rfl⟩)
  go_ret
  have t1 := turnBox w (.cells #[.pointer (some ⟨p, 0, none⟩)] 39)
  have t2 := turnBox (w.alloc (.cells #[.pointer (some ⟨p, 0, none⟩)] 39)) (.cells #[keyV a] 9)
  have t3 := turnBox ((w.alloc (.cells #[.pointer (some ⟨p, 0, none⟩)] 39)).alloc (.cells #[keyV a] 9)) (.cells #[keyV c] 9)
  have t4 := turnBox (((w.alloc (.cells #[.pointer (some ⟨p, 0, none⟩)] 39)).alloc (.cells #[keyV a] 9)).alloc (.cells #[keyV c] 9)) (.cells #[.func (.func 40) #[] #[.pointer (some ⟨w.heap.size, 0, none⟩), .pointer (some ⟨w.heap.size + 1, 0, none⟩), .pointer (some ⟨w.heap.size + 1 + 1, 0, none⟩)]] 45)
  refine ⟨w.heap.size, w.heap.size + 1, w.heap.size + 1 + 1, w.heap.size + 1 + 1 + 1, by simp, ⟨?_, ?_, ?_, ?_⟩, ((t1.trans t2 (fun _ _ q => q)).trans t3 (fun _ _ q => q)).trans t4 (fun _ _ q => q)⟩
  · have h := cell_new (((w.alloc (.cells #[.pointer (some ⟨p, 0, none⟩)] 39)).alloc (.cells #[keyV a] 9)).alloc (.cells #[keyV c] 9)) #[.func (.func 40) #[] #[.pointer (some ⟨w.heap.size, 0, none⟩), .pointer (some ⟨w.heap.size + 1, 0, none⟩), .pointer (some ⟨w.heap.size + 1 + 1, 0, none⟩)]] 45 0
    simp only [World.size_alloc] at h
    exact h
  · exact turn_cell t4 (turn_cell t3 (turn_cell t2 (cell_new w #[.pointer (some ⟨p, 0, none⟩)] 39 0)))
  · have h := cell_new (w.alloc (.cells #[.pointer (some ⟨p, 0, none⟩)] 39)) #[keyV a] 9 0
    rw [World.size_alloc] at h
    exact turn_cell t4 (turn_cell t3 h)
  · have h := cell_new ((w.alloc (.cells #[.pointer (some ⟨p, 0, none⟩)] 39)).alloc (.cells #[keyV a] 9)) #[keyV c] 9 0
    simp only [World.size_alloc] at h
    exact turn_cell t4 h

set_option maxRecDepth 100000 in
set_option maxHeartbeats 1000000 in
theorem tseqr_in {J Jx : List Pr → World → Prop} {l N n B1 B2 B3 B4 : Nat} {W : World} {t : Tr Key Val} {a c : Key} (hJL : ∀ pre A B, J pre A → Like A B → J pre B) (hY : Round J Jx l N) (hN : (betw a c t).length ≤ N)
    (hB4 : W.cell? ⟨B4, 0, none⟩ = some (.func (.func 64) #[] #[.pointer (some ⟨B1, 0, none⟩), .pointer (some ⟨B2, 0, none⟩), .pointer (some ⟨B3, 0, none⟩)]))
    (hB : W.cell? ⟨B1, 0, none⟩ = some (.pointer (some ⟨tp, 0, none⟩))) (hB2 : W.cell? ⟨B2, 0, none⟩ = some (keyV a)) (hB3 : W.cell? ⟨B3, 0, none⟩ = some (keyV c)) (h : TabC W tp 0 0 root ver) (ht : TrAt W (.pointer root) t) (hj : J [] W) :
    CallsIn Fence.wide n Try.prog 65 #[.func (.yield l) #[] #[], .pointer (some ⟨B4, 0, none⟩)] W (Over J Jx (betw a c t)) := by
  have hne : ∀ w : World, (binOp .neq 78 (.func (.yield l) #[] #[]) .nilFunc).run Try.prog w = .ok (.bool true) w := fun w => by kernel_rfl
  have HA := Lib.hid (trng1_in (n := n - 1) hJL hY hN hB hB2 hB3 h ht hj)
  clear h ht hj hN hY hJL hB hB2 hB3
  refine callsIn_of_wp Try.func65 rfl trivial ?_ rfl
  simp only [Try.ntmps65, List.size_toArray, List.length_cons, List.length_nil, Nat.reduceAdd, Nat.reduceSub, Array.replicate_succ, Array.replicate_zero, List.push_toArray, List.append_toArray, List.nil_append, List.cons_append]
  gi_wp2_with ((first | (refine ⟨trivial, fun h => (by cases h), ?_⟩) | (refine ⟨fun _ _ => trivial, fun h => (by cases h), ?_⟩) | (refine ⟨trivial, ?_⟩)); gi_at_call 64; refine HA.out.mono ?_; rintro e W2 ⟨rfl, ho⟩)
  go_end0
  exact ⟨rfl, ho⟩

/-- **what Range hands back**: the pairs between, by rising keys; or a front of them -/
theorem trng_stops {n B1 B2 B3 B4 : Nat} {t : Tr Key Val} {a c : Key} (hB4 : w.cell? ⟨B4, 0, none⟩ = some (.func (.func 64) #[] #[.pointer (some ⟨B1, 0, none⟩), .pointer (some ⟨B2, 0, none⟩), .pointer (some ⟨B3, 0, none⟩)]))
    (hB : w.cell? ⟨B1, 0, none⟩ = some (.pointer (some ⟨tp, 0, none⟩))) (hB2 : w.cell? ⟨B2, 0, none⟩ = some (keyV a)) (hB3 : w.cell? ⟨B3, 0, none⟩ = some (keyV c)) (h : TabC w tp 0 0 root ver) (ht : TrAt w (.pointer root) t) :
    SeqStopsK Fence.wide n Try.prog 65 #[.pointer (some ⟨B4, 0, none⟩)] encs KeepsN (fun ys => ys = betw a c t) (fun pre => pre <+: betw a c t) (betw a c t).length w := by
  intro l J Jx W hW hJ _ hY h0
  have hT : Turn (fun _ => False) w W := Below.turn hW _
  refine (tseqr_in (J := J) (Jx := Jx) (fun pre A B hj hk => abides_like hJ hj hk) (round_of (J := J) (Jx := Jx) hY) (Nat.le_refl _) (turn_cell hT hB4) (turn_cell hT hB) (turn_cell hT hB2) (turn_cell hT hB3) (h.later hT (fun q => q)) (ht.later hT) h0).mono ?_
  rintro e W' ⟨rfl, ho⟩
  exact ⟨⟨_, rfl⟩, ho⟩

/-- what Range hands back lies so -/
structure TRngAt (w : World) (B1 B2 B3 B4 : Nat) (p : Nat) (a c : Key) : Prop where
  b4 : w.cell? ⟨B4, 0, none⟩ = some (.func (.func 64) #[] #[.pointer (some ⟨B1, 0, none⟩), .pointer (some ⟨B2, 0, none⟩), .pointer (some ⟨B3, 0, none⟩)])
  b1 : w.cell? ⟨B1, 0, none⟩ = some (.pointer (some ⟨p, 0, none⟩))
  b2 : w.cell? ⟨B2, 0, none⟩ = some (keyV a)
  b3 : w.cell? ⟨B3, 0, none⟩ = some (keyV c)

set_option maxHeartbeats 400000 in
theorem trng_any (p : Nat) (a c : Key) (w : World) : Calls Try.prog 35 #[.pointer (some ⟨p, 0, none⟩), keyV a, keyV c] w fun r w' => ∃ B1 B2 B3 B4, r = .returned (.func (.func 65) #[] #[.pointer (some ⟨B4, 0, none⟩)]) ∧ TRngAt w' B1 B2 B3 B4 p a c ∧ Turn (fun _ => False) w w' := by
  have hseq : ∀ (fn : Fn) (x y : Array Value) (W : World), Calls Try.prog 36 #[.func fn x y] W fun r w' => r = .returned (.func (.func 65) #[] #[.pointer (some ⟨W.heap.size, 0, none⟩)]) ∧ W.alloc (.cells #[.func fn x y] 45) = w' := by
    intro fn x y W
    go_enter Try.func36, Try.ntmps36
    go_wp2
    go_ret
    exact ⟨rfl, rfl⟩
  have HS := Lib.hid hseq
  clear hseq
  go_enter Try.func35, Try.ntmps35
  go_wp2_with (go_at_call 36; refine (HS.out _ _ _ _).mono ?_; rintro e w' ⟨rfl, rfl⟩)
  go_ret
  have t1 := turnBox w (.cells #[.pointer (some ⟨p, 0, none⟩)] 25)
  have t2 := turnBox (w.alloc (.cells #[.pointer (some ⟨p, 0, none⟩)] 25)) (.cells #[keyV a] 9)
  have t3 := turnBox ((w.alloc (.cells #[.pointer (some ⟨p, 0, none⟩)] 25)).alloc (.cells #[keyV a] 9)) (.cells #[keyV c] 9)
  have t4 := turnBox (((w.alloc (.cells #[.pointer (some ⟨p, 0, none⟩)] 25)).alloc (.cells #[keyV a] 9)).alloc (.cells #[keyV c] 9)) (.cells #[.func (.func 64) #[] #[.pointer (some ⟨w.heap.size, 0, none⟩), .pointer (some ⟨w.heap.size + 1, 0, none⟩), .pointer (some ⟨w.heap.size + 1 + 1, 0, none⟩)]] 45)
  refine ⟨w.heap.size, w.heap.size + 1, w.heap.size + 1 + 1, w.heap.size + 1 + 1 + 1, by simp, ⟨?_, ?_, ?_, ?_⟩, ((t1.trans t2 (fun _ _ q => q)).trans t3 (fun _ _ q => q)).trans t4 (fun _ _ q => q)⟩
  · have h := cell_new (((w.alloc (.cells #[.pointer (some ⟨p, 0, none⟩)] 25)).alloc (.cells #[keyV a] 9)).alloc (.cells #[keyV c] 9)) #[.func (.func 64) #[] #[.pointer (some ⟨w.heap.size, 0, none⟩), .pointer (some ⟨w.heap.size + 1, 0, none⟩), .pointer (some ⟨w.heap.size + 1 + 1, 0, none⟩)]] 45 0
    simp only [World.size_alloc] at h
    exact h
  · exact turn_cell t4 (turn_cell t3 (turn_cell t2 (cell_new w #[.pointer (some ⟨p, 0, none⟩)] 25 0)))
  · have h := cell_new (w.alloc (.cells #[.pointer (some ⟨p, 0, none⟩)] 25)) #[keyV a] 9 0
    rw [World.size_alloc] at h
    exact turn_cell t4 (turn_cell t3 h)
  · have h := cell_new ((w.alloc (.cells #[.pointer (some ⟨p, 0, none⟩)] 25)).alloc (.cells #[keyV a] 9)) #[keyV c] 9 0
    simp only [World.size_alloc] at h
    exact turn_cell t4 h

end
end Go.Proofs.Ytblaicejpijfbaa.si
