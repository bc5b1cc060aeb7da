/-
  A table in memory: New, now, Get, Len, Version, Put. (si)
-/
import Derived.Test.YtblaicejpijfbaaTPutSi
import Derived.Test.YtblaicejpijfbaaTLocks
import Derived.Conc.RwLoneW
namespace Go.Proofs.Ytblaicejpijfbaa.si
open Go.RowKit Go.Maps Go.WideMaps Go.RwLone Go.Proofs.Ytblaicejpijfbaa.Tb

/-- a table's cells: the lock's six, the root, the version -/
abbrev tabCells (m rc : Int) (root : Option Addr) (ver : Int) : Array Value := #[.int .i32 m, .int .u32 0, .int .u32 0, .int .u32 0, .int .i32 rc, .int .i32 0, .pointer root, .int .i64 ver]

def TabC (w : World) (tp : Nat) (m rc : Int) (root : Option Addr) (ver : Int) : Prop := w.heap[tp]? = some (.cells (tabCells m rc root ver) 69 (0, 0))

section
variable {w w' : World} {tp : Nat} {m rc ver : Int} {root : Option Addr}

theorem TabC.cell (h : TabC w tp m rc root ver) (j : Nat) : w.cell? ⟨tp, j, none⟩ = (tabCells m rc root ver)[j]? := by
  unfold TabC at h
  simp only [World.cell?, h]
  rfl
theorem TabC.free (h : TabC w tp m rc root ver) (j : Nat) : w.frozen? ⟨tp, j, none⟩ = false := by
  unfold TabC at h
  simp [World.frozen?, h]
theorem TabC.set0 (h : TabC w tp m rc root ver) (x : Int) : TabC (w.setCell ⟨tp, 0, none⟩ (.int .i32 x)) tp x rc root ver := heap_setCell_same h _
theorem TabC.set4 (h : TabC w tp m rc root ver) (x : Int) : TabC (w.setCell ⟨tp, 4, none⟩ (.int .i32 x)) tp m x root ver := heap_setCell_same h _
theorem TabC.set6 (h : TabC w tp m rc root ver) (x : Option Addr) : TabC (w.setCell ⟨tp, 6, none⟩ (.pointer x)) tp m rc x ver := heap_setCell_same h _
theorem TabC.set7 (h : TabC w tp m rc root ver) (x : Int) : TabC (w.setCell ⟨tp, 7, none⟩ (.int .i64 x)) tp m rc root x := heap_setCell_same h _
theorem TabC.later (h : TabC w tp m rc root ver) {Q : Nat → Prop} (ht : Turn Q w w') (hq : ¬ Q tp) : TabC w' tp m rc root ver := (ht.block tp (Array.getElem?_eq_some_iff.1 h).1 hq).trans h
theorem TabC.noNode (h : TabC w tp m rc root ver) : NoNode w (fun b => b = tp) := by
  intro b cs fr e
  subst e
  unfold TabC at h
  rw [h]
  intro q
  cases q
theorem turn1 (w : World) (tp j : Nat) (v : Value) : Turn (fun b => b = tp) w (w.setCell ⟨tp, j, none⟩ v) := Turn.setCell (Turn.refl (fun b => b = tp) w) (p := ⟨tp, j, none⟩) (Or.inl rfl) v

/-- a cell that goes up and down again -/
theorem like_back (h : TabC w tp m rc root ver) (x : Int) : Like w ((w.setCell ⟨tp, 4, none⟩ (.int .i32 x)).setCell ⟨tp, 4, none⟩ (.int .i32 rc)) := by
  refine ⟨?_, rfl, rfl, rfl⟩
  apply Array.ext_getElem?
  intro i
  by_cases e : i = tp
  · subst e
    have h1 : TabC ((w.setCell ⟨i, 4, none⟩ (.int .i32 x)).setCell ⟨i, 4, none⟩ (.int .i32 rc)) i m rc root ver := (h.set4 x).set4 rc
    unfold TabC at h1 h
    rw [h1, h]
  · rw [heap_setCell_other e, heap_setCell_other e]

theorem new_any (w : World) : Calls Try.prog 7 #[] w fun r w' => r = .returned (.pointer (some ⟨w.heap.size, 0, none⟩)) ∧ w.alloc (.cells (tabCells 0 0 none 0) 69) = w' := by
  go_enter Try.func7, Try.ntmps7
  go_wp2
  go_ret
  exact ⟨rfl, rfl⟩

theorem one32 : wrap32 (0 + 1) = 1 := by kernel_rfl
theorem zero32 : wrap32 (1 + -1) = 0 := by kernel_rfl

set_option maxRecDepth 100000 in
set_option maxHeartbeats 1600000 in
theorem now_any (h : TabC w tp 0 0 root ver) : Calls Try.prog 33 #[.pointer (some ⟨tp, 0, none⟩)] w fun r w' => r = .returned (.pointer root) ∧ Like w w' := by
  have hc6 : (w.setCell ⟨tp, 4, none⟩ (.int .i32 1)).cell? ⟨tp, 6, none⟩ = some (.pointer root) := (h.set4 1).cell 6
  have HT := Lib.hid h
  clear h
  go_enter_defers Try.func33, Try.ntmps33
  go_wp2_with (go_at_call 30; refine (rlock_open Try.rwRLib tp 0 0 (.int .i32 0) (.int .u32 0) _ (HT.out.cell 0) (HT.out.cell 3) (HT.out.cell 4) (HT.out.free 4) (by rw [one32]; decide)).mono ?_; rw [one32]; rintro e w' ⟨rfl, rfl⟩)
  refine leaves_cons (f := 31) (args := #[.pointer (some ⟨tp, 0, none⟩)]) (by simp) (by simp [go_sem]) ?_
  refine (runlock_deferred Try.rwRLib tp 0 1 (.int .i32 0) (.int .u32 0) .returning _ ((HT.out.set4 1).cell 0) ((HT.out.set4 1).cell 2) ((HT.out.set4 1).cell 4) ((HT.out.set4 1).free 4) (by rw [zero32]; decide)).mono ?_
  rw [zero32]
  rintro e u' w'' ⟨rfl, rfl, rfl⟩
  exact ⟨_, results_tmp rfl _ _ _, rfl, like_back HT.out 1⟩

theorem load_any (h : TabC w tp m rc root ver) : Calls Try.prog 32 #[.pointer (some ⟨tp, 7, none⟩)] w fun r w' => r = .returned (.int .i64 ver) ∧ w = w' := by
  have hl := run_call_load (P := Try.prog) Try.func62 (by kernel_rfl) (by kernel_rfl) (by kernel_rfl) .i64 (by kernel_rfl) (h.cell 7)
  go_enter Try.func32, Try.ntmps32
  go_wp2
  go_ret
  exact ⟨rfl, rfl⟩

theorem add_any (h : TabC w tp m rc root ver) (h0 : 0 ≤ ver) (h1 : ver < 1000000000000000) : Calls Try.prog 27 #[.pointer (some ⟨tp, 7, none⟩), .int .i64 1] w fun r w' => r = .returned (.int .i64 (ver + 1)) ∧ w.setCell ⟨tp, 7, none⟩ (.int .i64 (ver + 1)) = w' := by
  have hs : (Op.intArith .add .i64 ver 1).run Try.prog w = .ok (.int .i64 (ver + 1)) w := by
    simp [go_sem]
    rw [IntWalk.i64_in _ (by omega)]
  have hl := run_call_add (P := Try.prog) Try.func58 (by kernel_rfl) (by kernel_rfl) (by kernel_rfl) .i64 (by kernel_rfl) (h.cell 7) (h.free 7) hs
  go_enter Try.func27, Try.ntmps27
  go_wp2
  go_ret
  exact ⟨rfl, rfl⟩

theorem len_any (h : TabC w tp 0 0 root ver) {t : Tr Key Val} (ht : TrAt w (.pointer root) t) : Calls Try.prog 22 #[.pointer (some ⟨tp, 0, none⟩)] w fun r w' => r = .returned (.int .i64 (t.count : Nat)) ∧ Like w w' := by
  have HN := Lib.hid (now_any h)
  have HT := Lib.hid ht
  clear h ht
  go_enter Try.func22, Try.ntmps22
  go_wp2_with (first | (go_at_call 33; refine HN.out.mono ?_; rintro e w1 ⟨rfl, hk⟩; have HK := Lib.hid hk; clear hk) | (go_at_call 42; refine (count_any (HT.out.like HK.out)).mono ?_; rintro e w' ⟨rfl, rfl⟩))
  go_ret
  exact ⟨rfl, HK.out⟩

theorem tget_any (h : TabC w tp 0 0 root ver) {t : Tr Key Val} (ht : TrAt w (.pointer root) t) (k : Key) : Calls Try.prog 14 #[.pointer (some ⟨tp, 0, none⟩), keyV k] w fun r w' => r = .returned (gotV (Tb.get t k)) ∧ Like w w' := by
  have HN := Lib.hid (now_any h)
  have HT := Lib.hid ht
  clear h ht
  cases hg : Tb.get t k with
  | none =>
    have HG := Lib.hid hg
    clear hg
    go_enter Try.func14, Try.ntmps14
    go_wp2_with (first | (go_at_call 33; refine HN.out.mono ?_; rintro e w1 ⟨rfl, hk⟩; have HK := Lib.hid hk; clear hk) | (go_at_call 28; refine (get_any (HT.out.like HK.out) k).mono ?_; rw [HG.out]; unfold gotV; rintro e w' ⟨rfl, rfl⟩))
    go_ret2
    exact ⟨rfl, HK.out⟩
  | some x =>
    have HG := Lib.hid hg
    clear hg
    go_enter Try.func14, Try.ntmps14
    go_wp2_with (first | (go_at_call 33; refine HN.out.mono ?_; rintro e w1 ⟨rfl, hk⟩; have HK := Lib.hid hk; clear hk) | (go_at_call 28; refine (get_any (HT.out.like HK.out) k).mono ?_; rw [HG.out]; unfold gotV; rintro e w' ⟨rfl, rfl⟩))
    go_ret2
    exact ⟨rfl, HK.out⟩

set_option maxRecDepth 100000 in
set_option maxHeartbeats 1600000 in
theorem tput_any {ver : Nat} (h : TabC w tp 0 0 root ver) {t : Tr Key Val} (ht : TrAt w (.pointer root) t) (hz : t.Sized) (hs : t.count + 2 < 1000000000000) (hv : ver < 1000000000000) (k : Key) (x : Val) :
    Calls Try.prog 8 #[.pointer (some ⟨tp, 0, none⟩), keyV k, valV x] w fun r w' => r = .returned (.tuple #[]) ∧ (∃ root', TabC w' tp 0 0 root' ((ver + 1 : Nat) : Int) ∧ TrAt w' (.pointer root') (put t k x)) ∧ Turn (fun b => b = tp) w w' := by
  have t1 : Turn (fun b => b = tp) w ((w.setCell ⟨tp, 0, none⟩ (.int .i32 1)).setCell ⟨tp, 4, none⟩ (.int .i32 (-1073741824))) := (turn1 w tp 0 _).set tp 4 (Or.inl rfl) _
  have h1 : TabC ((w.setCell ⟨tp, 0, none⟩ (.int .i32 1)).setCell ⟨tp, 4, none⟩ (.int .i32 (-1073741824))) tp 1 (-1073741824) root ver := (h.set0 1).set4 _
  have c6 := h1.cell 6
  have HP := Lib.hid (put_any t k x (ht.turned t1 h.noNode) hz hs)
  have HT := Lib.hid h
  have HT1 := Lib.hid t1
  have H1 := Lib.hid h1
  have i0 : (0 : Int) ≤ (ver : Int) := by omega
  have i1 : (ver : Int) < 1000000000000000 := by omega
  clear h ht hz hs t1 h1 hv
  go_enter_defers Try.func8, Try.ntmps8
  go_wp2_with (go_at_call 24; refine (wlock_free Try.rwWLib tp 0 (.int .u32 0) (.int .u32 0) _ (HT.out.cell 0) (HT.out.cell 2) (HT.out.cell 3) (HT.out.cell 4) (HT.out.free 0) (HT.out.free 4)).mono ?_; rintro e w' ⟨rfl, rfl⟩)
  go_at_call 26
  refine HP.out.mono ?_
  rintro e w2 ⟨p2, rfl, hp2, t2⟩
  have h2 := H1.out.later t2 (fun q => q)
  have c6' : w2.cell? ⟨tp, 6, none⟩ = some (.pointer root) := h2.cell 6
  have f6' : w2.frozen? ⟨tp, 6, none⟩ = false := h2.free 6
  have t3 : Turn (fun b => b = tp) w (w2.setCell ⟨tp, 6, none⟩ (.pointer p2)) := (HT1.out.trans t2 (fun _ _ q => q.elim)).set tp 6 (Or.inl rfl) _
  have h3 := h2.set6 p2
  have hp3 := hp2.turned (turn1 w2 tp 6 (.pointer p2)) h2.noNode
  have H3 := Lib.hid h3
  have HP3 := Lib.hid hp3
  have HT3 := Lib.hid t3
  clear h2 h3 hp2 hp3 t2 t3
  go_wp2_with (go_at_call 27; refine (add_any H3.out i0 i1).mono ?_; rintro e w' ⟨rfl, rfl⟩)
  have h4 := H3.out.set7 ((ver : Int) + 1)
  have hp4 := HP3.out.turned (turn1 _ tp 7 (.int .i64 ((ver : Int) + 1))) H3.out.noNode
  have t4 := HT3.out.set tp 7 (Or.inl rfl) (.int .i64 ((ver : Int) + 1))
  refine leaves_cons (f := 25) (args := #[.pointer (some ⟨tp, 0, none⟩)]) (by simp) (by simp [go_sem]) ?_
  refine (wunlock_deferred Try.rwWLib tp 0 (.int .u32 0) (.int .u32 0) .returning _ (h4.cell 0) (h4.cell 2) (h4.cell 3) (h4.cell 4) (h4.free 0) (h4.free 4)).mono ?_
  rintro e u' w'' ⟨rfl, rfl, rfl⟩
  have h5 := (h4.set4 0).set0 0
  have n5 := (hp4.turned (turn1 _ tp 4 (.int .i32 0)) h4.noNode).turned (turn1 _ tp 0 (.int .i32 0)) (h4.set4 0).noNode
  have e : ((ver + 1 : Nat) : Int) = (ver : Int) + 1 := by omega
  rw [e]
  exact ⟨_, results_none rfl _ _ _, rfl, ⟨p2, h5, n5⟩, (t4.set tp 4 (Or.inl rfl) _).set tp 0 (Or.inl rfl) _⟩

end
end Go.Proofs.Ytblaicejpijfbaa.si
