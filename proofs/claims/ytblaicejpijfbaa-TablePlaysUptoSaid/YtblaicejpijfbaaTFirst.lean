/-
  OF THE LAWS: first.
-/
import Derived.Test.YtblaicejpijfbaaTTab2Si
namespace Go.Proofs.Ytblaicejpijfbaa
open Go.RowKit Go.Maps Go.WideMaps Go.Proofs.Ytblaicejpijfbaa.Tb

namespace Tx
def t1 : Tr (List UInt8) Int := put .nil [98] 2
def t2 : Tr (List UInt8) Int := put t1 [97] 1
def t3 : Tr (List UInt8) Int := put t2 [98] 3
def t4 : Tr (List UInt8) Int := si.dropT t3 [97]
def t5 : Tr (List UInt8) Int := si.dropT t4 [97]
theorem z0 : (Tr.nil : Tr (List UInt8) Int).Sized := trivial
theorem z1 : t1.Sized := sized_put z0 _ _
theorem z2 : t2.Sized := sized_put z1 _ _
theorem z3 : t3.Sized := sized_put z2 _ _
theorem z4 : t4.Sized := by unfold t4 si.dropT; split; exact sized_without z3 _; exact z3
theorem c1 : t1.count = 1 := by decide
theorem c2 : t2.count = 2 := by decide
theorem c3 : t3.count = 2 := by decide
theorem c4 : t4.count = 1 := by decide
theorem c5 : t5.count = 1 := by decide
theorem g3 : (Tb.get t3 [97]).isSome = true := by decide
theorem g4 : (Tb.get t4 [97]).isSome = false := by decide
theorem g5 : Tb.get t5 [98] = some 3 := by decide
theorem g2 : Tb.get t2 [97] = some 1 := by decide
end Tx

section
variable {w w' : World}

/-- a table that we hold, and all else as it was -/
structure Tab (w0 w : World) (tp : Nat) (t : Tr (List UInt8) Int) (ver : Nat) : Prop where
  at_ : ∃ root, si.TabC w tp 0 0 root ver ∧ si.TrAt w (.pointer root) t
  new : w0.heap.size ≤ tp
  turn : Turn (fun _ => False) w0 w

theorem Tab.put {w0 w : World} {tp ver : Nat} {t : Tr (List UInt8) Int} (h : Tab w0 w tp t ver) (hz : t.Sized) (hs : t.count + 2 < 1000000000000) (hv : ver < 1000000000000) (k : List UInt8) (s : ByteArray) (e : s = ⟨k.toArray⟩) (x : Int) :
    Calls Try.prog 8 #[.pointer (some ⟨tp, 0, none⟩), .string s, .int .i64 x] w fun r w' => r = .returned (.tuple #[]) ∧ Tab w0 w' tp (put t k x) (ver + 1) ∧ Turn (fun b => b = tp) w w' := by
  subst e
  obtain ⟨root, h1, h2⟩ := h.at_
  refine (si.tput_any h1 h2 hz hs hv k x).mono ?_
  rintro r w' ⟨rfl, h3, ht⟩
  exact ⟨rfl, ⟨h3, h.new, h.turn.trans ht (fun i hi e => by have := h.new; omega)⟩, ht⟩

theorem Tab.delete {w0 w : World} {tp ver : Nat} {t : Tr (List UInt8) Int} (h : Tab w0 w tp t ver) (hz : t.Sized) (hs : t.count + 2 < 1000000000000) (hv : ver < 1000000000000) (k : List UInt8) (s : ByteArray) (e : s = ⟨k.toArray⟩) {b : Bool} (hb : (Tb.get t k).isSome = b) :
    Calls Try.prog 11 #[.pointer (some ⟨tp, 0, none⟩), .string s] w fun r w' => r = .returned (.bool b) ∧ Tab w0 w' tp (si.dropT t k) (ver + 1) ∧ Turn (fun b => b = tp) w w' := by
  subst e; subst hb
  obtain ⟨root, h1, h2⟩ := h.at_
  refine (si.tdelete_any h1 h2 hz hs hv k).mono ?_
  rintro r w' ⟨rfl, h3, ht⟩
  exact ⟨rfl, ⟨h3, h.new, h.turn.trans ht (fun i hi e => by have := h.new; omega)⟩, ht⟩

theorem Tab.like {w0 w : World} {tp ver : Nat} {t : Tr (List UInt8) Int} (h : Tab w0 w tp t ver) (k : Like w w') : Tab w0 w' tp t ver := by
  obtain ⟨⟨root, h1, h2⟩, h3, h4⟩ := h
  exact ⟨⟨root, h1.later (k.turn (fun _ => False)) (fun q => q), h2.like k⟩, h3, h4.like k⟩

theorem Tab.later {w0 w : World} {tp ver : Nat} {t : Tr (List UInt8) Int} (h : Tab w0 w tp t ver) (k : Turn (fun _ => False) w w') : Tab w0 w' tp t ver := by
  obtain ⟨⟨root, h1, h2⟩, h3, h4⟩ := h
  exact ⟨⟨root, h1.later k (fun q => q), h2.later k⟩, h3, h4.trans k (fun _ _ q => q)⟩

theorem Tab.get {w0 w : World} {tp ver : Nat} {t : Tr (List UInt8) Int} (h : Tab w0 w tp t ver) (k : List UInt8) (s : ByteArray) (e : s = ⟨k.toArray⟩) {x : Int} (hx : Tb.get t k = some x) :
    Calls Try.prog 14 #[.pointer (some ⟨tp, 0, none⟩), .string s] w fun r w' => r = .returned (.tuple #[.int .i64 x, .bool true]) ∧ Like w w' := by
  subst e
  obtain ⟨root, h1, h2⟩ := h.at_
  have := si.tget_any h1 h2 k
  rw [hx] at this
  exact this

theorem Tab.version {w0 w : World} {tp ver : Nat} {t : Tr (List UInt8) Int} (h : Tab w0 w tp t ver) : Calls Try.prog 15 #[.pointer (some ⟨tp, 0, none⟩)] w fun r w' => r = .returned (.int .i64 (ver : Int)) ∧ w = w' := by
  obtain ⟨root, h1, h2⟩ := h.at_
  exact si.version_any h1

theorem Tab.len {w0 w : World} {tp ver : Nat} {t : Tr (List UInt8) Int} (h : Tab w0 w tp t ver) {n : Nat} (hn : t.count = n) : Calls Try.prog 22 #[.pointer (some ⟨tp, 0, none⟩)] w fun r w' => r = .returned (.int .i64 (n : Int)) ∧ Like w w' := by
  subst hn
  obtain ⟨root, h1, h2⟩ := h.at_
  exact si.len_any h1 h2

/-- a snapshot that we hold -/
structure Snap (w : World) (sp : Nat) (t : Tr (List UInt8) Int) (ver : Nat) : Prop where
  at_ : ∃ root, si.SnapC w sp root ver ∧ si.TrAt w (.pointer root) t

theorem Snap.turned {sp ver : Nat} {t : Tr (List UInt8) Int} {Q : Nat → Prop} (h : Snap w sp t ver) (ht : Turn Q w w') (hq : si.NoNode w Q) (hs : ¬ Q sp) : Snap w' sp t ver := by
  obtain ⟨root, h1, h2⟩ := h
  exact ⟨root, h1.later ht hs, h2.turned ht hq⟩
theorem Snap.like {sp ver : Nat} {t : Tr (List UInt8) Int} (h : Snap w sp t ver) (k : Like w w') : Snap w' sp t ver := h.turned (k.turn (fun _ => False)) (fun _ _ _ q => q.elim) (fun q => q)

theorem Tab.noNode {w0 w : World} {tp ver : Nat} {t : Tr (List UInt8) Int} (h : Tab w0 w tp t ver) : si.NoNode w (fun b => b = tp) := by
  obtain ⟨root, h1, h2⟩ := h.at_
  exact h1.noNode

theorem Tab.snapshot {w0 w : World} {tp ver : Nat} {t : Tr (List UInt8) Int} (h : Tab w0 w tp t ver) :
    Calls Try.prog 13 #[.pointer (some ⟨tp, 0, none⟩)] w fun r w' => ∃ sp, r = .returned (.pointer (some ⟨sp, 0, none⟩)) ∧ w.heap.size ≤ sp ∧ Snap w' sp t ver ∧ Tab w0 w' tp t ver ∧ Turn (fun _ => False) w w' := by
  obtain ⟨root, h1, h2⟩ := h.at_
  refine (si.snapshot_any h1).mono ?_
  rintro r w' ⟨⟨sp, rfl, hs, hsn⟩, ht, htu⟩
  exact ⟨sp, rfl, hs, ⟨root, hsn, h2.later htu⟩, h.later htu, htu⟩

theorem Snap.get {sp ver : Nat} {t : Tr (List UInt8) Int} (h : Snap w sp t ver) (k : List UInt8) (s : ByteArray) (e : s = ⟨k.toArray⟩) {x : Int} (hx : Tb.get t k = some x) :
    Calls Try.prog 21 #[.pointer (some ⟨sp, 0, none⟩), .string s] w fun r w' => r = .returned (.tuple #[.int .i64 x, .bool true]) ∧ w = w' := by
  subst e
  obtain ⟨root, h1, h2⟩ := h.at_
  have := si.sget_any h1 h2 k
  rw [hx] at this
  exact this
theorem Snap.version {sp ver : Nat} {t : Tr (List UInt8) Int} (h : Snap w sp t ver) : Calls Try.prog 17 #[.pointer (some ⟨sp, 0, none⟩)] w fun r w' => r = .returned (.int .i64 (ver : Int)) ∧ w = w' := by
  obtain ⟨root, h1, h2⟩ := h.at_
  exact si.sversion_any h1
theorem Snap.len {sp ver : Nat} {t : Tr (List UInt8) Int} (h : Snap w sp t ver) {n : Nat} (hn : t.count = n) : Calls Try.prog 23 #[.pointer (some ⟨sp, 0, none⟩)] w fun r w' => r = .returned (.int .i64 (n : Int)) ∧ w = w' := by
  subst hn
  obtain ⟨root, h1, h2⟩ := h.at_
  exact si.slen_any h1 h2

theorem tab_new (w0 : World) : Calls Try.prog 7 #[] w0 fun r w' => ∃ tp, r = .returned (.pointer (some ⟨tp, 0, none⟩)) ∧ Tab w0 w' tp .nil 0 := by
  refine (si.new_any w0).mono ?_
  rintro r w' ⟨rfl, rfl⟩
  exact ⟨_, rfl, ⟨none, heap_alloc_new w0 _, rfl⟩, Nat.le_refl _, turnBox w0 _⟩

set_option maxRecDepth 100000 in
set_option maxHeartbeats 2000000 in
theorem first_any (w : World) : Calls Try.prog 5 #[] w fun r w' => r = .returned (.bool true) ∧ Turn (fun _ => False) w w' := by
  go_enter Try.func5, Try.ntmps5
  go_wp2_with fail
  go_at_call 7
  refine (tab_new w).mono ?_
  rintro r w0 ⟨tp, rfl, h0⟩
  have H0 := Lib.hid h0
  clear h0
  go_wp2_with fail
  go_at_call 8
  refine (H0.out.put Tx.z0 (by decide) (by decide) [98] _ rfl 2).mono ?_
  rintro r w1 ⟨rfl, h1, _⟩
  have H1 := Lib.hid (show Tab w w1 tp Tx.t1 1 from h1)
  clear h1 H0
  go_wp2_with fail
  go_at_call 8
  refine (H1.out.put Tx.z1 (by rw [Tx.c1]; decide) (by decide) [97] _ rfl 1).mono ?_
  rintro r w2 ⟨rfl, h2, _⟩
  have H2 := Lib.hid (show Tab w w2 tp Tx.t2 2 from h2)
  clear h2 H1
  go_wp2_with fail
  go_at_call 13
  refine H2.out.snapshot.mono ?_
  rintro r w3 ⟨sp, rfl, hsp, hs3, h3, _⟩
  have hne : ¬ sp = tp := by
    have := H2.out.at_
    obtain ⟨root, a, _⟩ := this
    have := (Array.getElem?_eq_some_iff.1 a).1
    omega
  have H3 := Lib.hid h3
  have S3 := Lib.hid hs3
  have HNE := Lib.hid hne
  clear h3 hs3 hsp hne H2
  go_wp2_with fail
  go_at_call 8
  refine (H3.out.put Tx.z2 (by rw [Tx.c2]; decide) (by decide) [98] _ rfl 3).mono ?_
  rintro r w4 ⟨rfl, h4, t4⟩
  have S4 := Lib.hid (S3.out.turned t4 H3.out.noNode HNE.out)
  have H4 := Lib.hid (show Tab w w4 tp Tx.t3 3 from h4)
  clear h4 H3 S3 t4
  go_wp2_with fail
  go_at_call 11
  refine (H4.out.delete Tx.z3 (by rw [Tx.c3]; decide) (by decide) [97] _ rfl Tx.g3).mono ?_
  rintro r w5 ⟨rfl, h5, t5⟩
  have S5 := Lib.hid (S4.out.turned t5 H4.out.noNode HNE.out)
  have H5 := Lib.hid (show Tab w w5 tp Tx.t4 4 from h5)
  clear h5 H4 S4 t5
  go_wp2_with fail
  go_at_call 11
  refine (H5.out.delete Tx.z4 (by rw [Tx.c4]; decide) (by decide) [97] _ rfl Tx.g4).mono ?_
  rintro r w6 ⟨rfl, h6, t6⟩
  have S6 := Lib.hid (S5.out.turned t6 H5.out.noNode HNE.out)
  have H6 := Lib.hid (show Tab w w6 tp Tx.t5 5 from h6)
  clear h6 H5 S5 t6
  go_wp2_with fail
  go_at_call 14
  refine (H6.out.get [98] _ rfl Tx.g5).mono ?_
  rintro r w7 ⟨rfl, hk7⟩
  have S7 := Lib.hid (S6.out.like hk7)
  have H7 := Lib.hid (H6.out.like hk7)
  clear hk7 H6 S6
  go_wp2_with (first | (go_at_call 21; refine (S7.out.get [97] _ rfl Tx.g2).mono ?_; rintro r w' ⟨rfl, rfl⟩) | (go_at_call 15; refine H7.out.version.mono ?_; rintro r w' ⟨rfl, rfl⟩) | (go_at_call 17; refine S7.out.version.mono ?_; rintro r w' ⟨rfl, rfl⟩) | (go_at_call 22; refine (H7.out.len Tx.c5).mono ?_; rintro r w8 ⟨rfl, hk8⟩; have S8 := Lib.hid (S7.out.like hk8); have H8 := Lib.hid (H7.out.like hk8); clear hk8) | (go_at_call 23; refine (S8.out.len Tx.c2).mono ?_; rintro r w' ⟨rfl, rfl⟩))
  go_ret
  exact ⟨rfl, H8.out.turn⟩
end
end Go.Proofs.Ytblaicejpijfbaa
