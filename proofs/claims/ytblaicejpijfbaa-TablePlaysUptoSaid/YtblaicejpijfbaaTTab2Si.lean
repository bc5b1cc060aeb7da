/-
  A table in memory: Delete, Snapshot; a snapshot's calls. (si)
-/
import Derived.Test.YtblaicejpijfbaaTTabSi
import Derived.Test.YtblaicejpijfbaaTDelSi
namespace Go.Proofs.Ytblaicejpijfbaa.si
open Go.RowKit Go.Maps Go.WideMaps Go.RwLone Go.Proofs.Ytblaicejpijfbaa.Tb

section
variable {w w' : World} {tp sp : Nat} {m rc ver : Int} {root : Option Addr}

theorem version_any (h : TabC w tp m rc root ver) : Calls Try.prog 15 #[.pointer (some ⟨tp, 0, none⟩)] w fun r w' => r = .returned (.int .i64 ver) ∧ w = w' := by
  have HL := Lib.hid (load_any h)
  clear h
  go_enter Try.func15, Try.ntmps15
  go_wp2_with (go_at_call 32; refine HL.out.mono ?_; rintro e w' ⟨rfl, rfl⟩)
  go_ret
  exact ⟨rfl, rfl⟩

def dropT (t : Tr Key Val) (k : Key) : Tr Key Val := if (Tb.get t k).isSome = true then without t k else t

set_option maxRecDepth 100000 in
set_option maxHeartbeats 1600000 in
theorem tdelete_any {ver : Nat} (h : TabC w tp 0 0 root ver) {t : Tr Key Val} (ht : TrAt w (.pointer root) t) (hz : t.Sized) (hs : t.count + 2 < 1000000000000) (hv : ver < 1000000000000) (k : Key) :
    Calls Try.prog 11 #[.pointer (some ⟨tp, 0, none⟩), keyV k] w fun r w' => r = .returned (.bool (Tb.get t k).isSome) ∧ (∃ root', TabC w' tp 0 0 root' ((ver + 1 : Nat) : Int) ∧ TrAt w' (.pointer root') (dropT t k)) ∧ Turn (fun b => b = tp) w w' := by
  have t1 : Turn (fun b => b = tp) w ((w.setCell ⟨tp, 0, none⟩ (.int .i32 1)).setCell ⟨tp, 4, none⟩ (.int .i32 (-1073741824))) := (turn1 w tp 0 _).set tp 4 (Or.inl rfl) _
  have h1 : TabC ((w.setCell ⟨tp, 0, none⟩ (.int .i32 1)).setCell ⟨tp, 4, none⟩ (.int .i32 (-1073741824))) tp 1 (-1073741824) root ver := (h.set0 1).set4 _
  have c6 := h1.cell 6
  have hr1 := ht.turned t1 h.noNode
  have HG := Lib.hid (get_any hr1 k)
  have HP := Lib.hid (without_any t k hr1 hz hs)
  have HR1 := Lib.hid hr1
  have HT := Lib.hid h
  have HT1 := Lib.hid t1
  have H1 := Lib.hid h1
  have i0 : (0 : Int) ≤ (ver : Int) := by omega
  have i1 : (ver : Int) < 1000000000000000 := by omega
  have ev : ((ver + 1 : Nat) : Int) = (ver : Int) + 1 := by omega
  have EV := Lib.hid ev
  unfold dropT
  clear h ht hz hs t1 h1 hv hr1 ev
  cases hg : Tb.get t k with
  | none =>
    rw [hg] at HG
    unfold gotV at HG
    simp only [Option.isSome_none]
    rw [if_neg (by simp)]
    clear hg
    go_enter_defers Try.func11, Try.ntmps11
    go_wp2_with (first | (go_at_call 24; refine (wlock_free Try.rwWLib tp 0 (.int .u32 0) (.int .u32 0) _ (HT.out.cell 0) (HT.out.cell 2) (HT.out.cell 3) (HT.out.cell 4) (HT.out.free 0) (HT.out.free 4)).mono ?_; rintro e w' ⟨rfl, rfl⟩) | (go_at_call 28; refine HG.out.mono ?_; rintro e w' ⟨rfl, rfl⟩) | (go_at_call 27; refine (add_any H1.out i0 i1).mono ?_; rintro e w' ⟨rfl, rfl⟩))
    have h4 := H1.out.set7 ((ver : Int) + 1)
    have hp4 := HR1.out.turned (turn1 _ tp 7 (.int .i64 ((ver : Int) + 1))) H1.out.noNode
    have t4 := HT1.out.set tp 7 (Or.inl rfl) (.int .i64 ((ver : Int) + 1))
    refine leaves_cons (f := 25) (args := #[.pointer (some ⟨tp, 0, none⟩)]) (by simp) (by simp [go_sem]) ?_
    refine (wunlock_deferred Try.rwWLib tp 0 (.int .u32 0) (.int .u32 0) .returning _ (h4.cell 0) (h4.cell 2) (h4.cell 3) (h4.cell 4) (h4.free 0) (h4.free 4)).mono ?_
    rintro e u' w'' ⟨rfl, rfl, rfl⟩
    have h5 := (h4.set4 0).set0 0
    have n5 := (hp4.turned (turn1 _ tp 4 (.int .i32 0)) h4.noNode).turned (turn1 _ tp 0 (.int .i32 0)) (h4.set4 0).noNode
    exact ⟨_, results_tmp rfl _ _ _, rfl, ⟨root, by rw [EV.out]; exact h5, n5⟩, (t4.set tp 4 (Or.inl rfl) _).set tp 0 (Or.inl rfl) _⟩
  | some x =>
    rw [hg] at HG
    unfold gotV at HG
    simp only [Option.isSome_some]
    rw [if_pos trivial]
    clear hg
    go_enter_defers Try.func11, Try.ntmps11
    go_wp2_with (first | (go_at_call 24; refine (wlock_free Try.rwWLib tp 0 (.int .u32 0) (.int .u32 0) _ (HT.out.cell 0) (HT.out.cell 2) (HT.out.cell 3) (HT.out.cell 4) (HT.out.free 0) (HT.out.free 4)).mono ?_; rintro e w' ⟨rfl, rfl⟩) | (go_at_call 28; refine HG.out.mono ?_; rintro e w' ⟨rfl, rfl⟩))
    go_at_call 29
    refine HP.out.mono ?_
    rintro e w2 ⟨p2, rfl, hp2, t2⟩
    have h2 := H1.out.later t2 (fun q => q)
    have c6' : w2.cell? ⟨tp, 6, none⟩ = some (.pointer root) := h2.cell 6
    have f6' : w2.frozen? ⟨tp, 6, none⟩ = false := h2.free 6
    have t3 : Turn (fun b => b = tp) w (w2.setCell ⟨tp, 6, none⟩ (.pointer p2)) := (HT1.out.trans t2 (fun _ _ q => q.elim)).set tp 6 (Or.inl rfl) _
    have h3 := h2.set6 p2
    have hp3 := hp2.turned (turn1 w2 tp 6 (.pointer p2)) h2.noNode
    have H3 := Lib.hid h3
    have HP3 := Lib.hid hp3
    have HT3 := Lib.hid t3
    clear h2 h3 hp2 hp3 t2 t3
    go_wp2_with (go_at_call 27; refine (add_any H3.out i0 i1).mono ?_; rintro e w' ⟨rfl, rfl⟩)
    have h4 := H3.out.set7 ((ver : Int) + 1)
    have hp4 := HP3.out.turned (turn1 _ tp 7 (.int .i64 ((ver : Int) + 1))) H3.out.noNode
    have t4 := HT3.out.set tp 7 (Or.inl rfl) (.int .i64 ((ver : Int) + 1))
    refine leaves_cons (f := 25) (args := #[.pointer (some ⟨tp, 0, none⟩)]) (by simp) (by simp [go_sem]) ?_
    refine (wunlock_deferred Try.rwWLib tp 0 (.int .u32 0) (.int .u32 0) .returning _ (h4.cell 0) (h4.cell 2) (h4.cell 3) (h4.cell 4) (h4.free 0) (h4.free 4)).mono ?_
    rintro e u' w'' ⟨rfl, rfl, rfl⟩
    have h5 := (h4.set4 0).set0 0
    have n5 := (hp4.turned (turn1 _ tp 4 (.int .i32 0)) h4.noNode).turned (turn1 _ tp 0 (.int .i32 0)) (h4.set4 0).noNode
    exact ⟨_, results_tmp rfl _ _ _, rfl, ⟨p2, by rw [EV.out]; exact h5, n5⟩, (t4.set tp 4 (Or.inl rfl) _).set tp 0 (Or.inl rfl) _⟩

/-- a snapshot's cells -/
def SnapC (w : World) (sp : Nat) (root : Option Addr) (ver : Int) : Prop := w.heap[sp]? = some (.cells #[.pointer root, .int .i64 ver] 74 (0, 0))

theorem SnapC.later (h : SnapC w sp root ver) {Q : Nat → Prop} (ht : Turn Q w w') (hq : ¬ Q sp) : SnapC w' sp root ver := (ht.block sp (Array.getElem?_eq_some_iff.1 h).1 hq).trans h
theorem SnapC.c0 (h : SnapC w sp root ver) : w.cell? ⟨sp, 0, none⟩ = some (.pointer root) := by unfold SnapC at h; simp [World.cell?, h]
theorem SnapC.c1 (h : SnapC w sp root ver) : w.cell? ⟨sp, 1, none⟩ = some (.int .i64 ver) := by unfold SnapC at h; simp [World.cell?, h]

theorem then_any (h : SnapC w sp root ver) : Calls Try.prog 38 #[.pointer (some ⟨sp, 0, none⟩)] w fun r w' => r = .returned (.pointer root) ∧ w = w' := by
  have c0 := h.c0
  go_enter Try.func38, Try.ntmps38
  go_wp2
  go_ret
  exact ⟨rfl, rfl⟩

theorem sversion_any (h : SnapC w sp root ver) : Calls Try.prog 17 #[.pointer (some ⟨sp, 0, none⟩)] w fun r w' => r = .returned (.int .i64 ver) ∧ w = w' := by
  have c1 := h.c1
  go_enter Try.func17, Try.ntmps17
  go_wp2
  go_ret
  exact ⟨rfl, rfl⟩

theorem slen_any (h : SnapC w sp root ver) {t : Tr Key Val} (ht : TrAt w (.pointer root) t) : Calls Try.prog 23 #[.pointer (some ⟨sp, 0, none⟩)] w fun r w' => r = .returned (.int .i64 (t.count : Nat)) ∧ w = w' := by
  have HN := Lib.hid (then_any h)
  have HT := Lib.hid ht
  clear h ht
  go_enter Try.func23, Try.ntmps23
  go_wp2_with (first | (go_at_call 38; refine HN.out.mono ?_; rintro e w' ⟨rfl, rfl⟩) | (go_at_call 42; refine (count_any HT.out).mono ?_; rintro e w' ⟨rfl, rfl⟩))
  go_ret
  exact ⟨rfl, rfl⟩

theorem sget_any (h : SnapC w sp root ver) {t : Tr Key Val} (ht : TrAt w (.pointer root) t) (k : Key) : Calls Try.prog 21 #[.pointer (some ⟨sp, 0, none⟩), keyV k] w fun r w' => r = .returned (gotV (Tb.get t k)) ∧ w = w' := by
  have HN := Lib.hid (then_any h)
  have HT := Lib.hid ht
  clear h ht
  cases hg : Tb.get t k
  all_goals
    have HG := Lib.hid hg
    clear hg
    go_enter Try.func21, Try.ntmps21
    go_wp2_with (first | (go_at_call 38; refine HN.out.mono ?_; rintro e w' ⟨rfl, rfl⟩) | (go_at_call 28; refine (get_any HT.out k).mono ?_; rw [HG.out]; unfold gotV; rintro e w' ⟨rfl, rfl⟩))
    go_ret2
    exact ⟨rfl, rfl⟩

set_option maxRecDepth 100000 in
set_option maxHeartbeats 1600000 in
theorem snapshot_any (h : TabC w tp 0 0 root ver) : Calls Try.prog 13 #[.pointer (some ⟨tp, 0, none⟩)] w fun r w' => (∃ sp, r = .returned (.pointer (some ⟨sp, 0, none⟩)) ∧ w.heap.size ≤ sp ∧ SnapC w' sp root ver) ∧ TabC w' tp 0 0 root ver ∧ Turn (fun _ => False) w w' := by
  have h1 := h.set4 1
  have H1 := Lib.hid h1
  have c6 := h1.cell 6
  have HT := Lib.hid h
  have HB := Lib.hid (like_back h 1)
  clear h h1
  go_enter_defers Try.func13, Try.ntmps13
  go_wp2_with (go_at_call 30; refine (rlock_open Try.rwRLib tp 0 0 (.int .i32 0) (.int .u32 0) _ (HT.out.cell 0) (HT.out.cell 3) (HT.out.cell 4) (HT.out.free 4) (by rw [one32]; decide)).mono ?_; rw [one32]; rintro e w' ⟨rfl, rfl⟩)
  go_region_held3 (fun w' => w'.cell? ⟨tp, 6, none⟩ = some (.pointer root)) (first | (exact c6) | go_keep) (first | (go_at_call 32; refine (load_any (w := (w.setCell ⟨tp, 4, none⟩ (.int .i32 1)).drew) (show TabC _ tp 0 1 root ver from H1.out)).mono ?_; rintro e w' ⟨rfl, rfl⟩))
  go_wp2
  obtain ⟨W1, hW1⟩ : ∃ W1, ((w.setCell ⟨tp, 4, none⟩ (.int .i32 1)).alloc (.cells #[.pointer root, .int .i64 ver] 74)).drew = W1 := ⟨_, rfl⟩
  have ha : Turn (fun _ => False) (w.setCell ⟨tp, 4, none⟩ (.int .i32 1)) W1 := by rw [← hW1]; exact ((Turn.refl _ _).alloc _).drew
  have h2 : TabC W1 tp 0 1 root ver := H1.out.later ha (fun q => q)
  have hsz : (w.setCell ⟨tp, 4, none⟩ (.int .i32 1)).heap.size = w.heap.size := by simp [World.setCell]
  have hsn : SnapC W1 w.heap.size root ver := by
    rw [← hW1, ← hsz]
    exact heap_alloc_new (w.setCell ⟨tp, 4, none⟩ (.int .i32 1)) _
  have hlt : tp < w.heap.size := (Array.getElem?_eq_some_iff.1 HT.out).1
  rw [hW1]
  refine leaves_cons (f := 31) (args := #[.pointer (some ⟨tp, 0, none⟩)]) (by simp) (by simp [go_sem]) ?_
  refine (runlock_deferred Try.rwRLib tp 0 1 (.int .i32 0) (.int .u32 0) .returning _ (h2.cell 0) (h2.cell 2) (h2.cell 4) (h2.free 4) (by rw [zero32]; decide)).mono ?_
  rw [zero32]
  rintro e u' w'' ⟨rfl, rfl, rfl⟩
  have h3 : TabC (W1.setCell ⟨tp, 0 + 4, none⟩ (.int .i32 0)) tp 0 0 root ver := h2.set4 0
  refine ⟨_, results_tmp rfl _ _ _, ⟨w.heap.size, rfl, Nat.le_refl _, hsn.later (turn1 W1 tp 4 _) (fun q => by omega)⟩, h3, ?_⟩
  have t2 : Turn (fun b => b = tp) w (W1.setCell ⟨tp, 0 + 4, none⟩ (.int .i32 0)) := ((turn1 w tp 4 _).trans ha (fun _ _ q => q.elim)).set tp 4 (Or.inl rfl) _
  refine ⟨t2.os, t2.tape, t2.output, t2.size, fun i hi _ => ?_⟩
  by_cases e : i = tp
  · subst e
    exact (show _ = _ from h3).trans (show _ = _ from HT.out).symm
  · exact t2.block i hi e

end
end Go.Proofs.Ytblaicejpijfbaa.si
