/-
  Texts cut into pieces (exref.Cut), digits (exref6.digits).
-/
import Derived.Test.YtfjemldilnaggaaGreatDoorMRef
import Derived.Maps.AppendAt
import Derived.Laws.AppendOwnNone
namespace Go.Proofs.YtfjemldilnaggaaGreatDoor
open Go.RowKit Go.Maps Go.WideMaps Go.Shelf
set_option linter.unusedVariables false

theorem infoTx : (Tryz.prog.info? 9).map (fun i => (i.zero, i.size, i.bytes)) = some (some (.string ⟨#[]⟩), 1, 16) := by kernel_rfl
theorem infoTx_parts : ∃ i, Tryz.prog.info? 9 = some i ∧ i.zero = some (.string ⟨#[]⟩) ∧ i.size = 1 ∧ i.bytes = 16 := by
  have h := infoTx
  cases hi : Tryz.prog.info? 9 with
  | none => rw [hi] at h; simp at h
  | some i =>
    rw [hi] at h
    simp only [Option.map_some, Option.some.injEq, Prod.mk.injEq] at h
    exact ⟨i, rfl, h.1, h.2.1, h.2.2⟩

def txC (l : List ByteArray) : List Value := l.map .string
/-- v reads as these texts -/
def TxR (w : World) (v : Value) (l : List ByteArray) : Prop :=
  ∃ sp cap, v = .slice sp l.length cap ∧ (0 < l.length → ∃ g, sp = some ⟨g, 0, none⟩ ∧ ∀ (i : Nat) (x : ByteArray), l[i]? = some x → w.cell? ⟨g, i, none⟩ = some (.string x))
def TxO (w : World) (base : Nat) (v : Value) (l : List ByteArray) : Prop := w.ownsRow base 9 1 v l.length (txC l)
theorem TxO.nil (w : World) (base : Nat) : TxO w base (.slice none 0 0) [] := World.ownsRow_nil _ _ _ _
theorem TxO.toR {w : World} {base : Nat} {v : Value} {l : List ByteArray} (h : TxO w base v l) : TxR w v l := by
  have h' := h
  rcases h.2 with ⟨hv, hn⟩ | ⟨g, cap, cur, hv, hg, hh, h1, h2, h3, h4⟩
  · have : l = [] := List.length_eq_zero_iff.1 hn
    subst this
    exact ⟨none, 0, hv, fun h0 => by simp at h0⟩
  · refine ⟨some ⟨g, 0, none⟩, cap, hv, fun _ => ⟨g, rfl, fun i x hx => ?_⟩⟩
    have hown : w.ownsRow base 9 1 (.slice (some ⟨g, 0, none⟩) l.length cap) l.length (txC l) := by rw [← hv]; exact h
    have hlt : i < l.length := (List.getElem?_eq_some_iff.1 hx).1
    rw [hown.cellAt i (by omega)]
    unfold txC
    rw [List.getElem?_map, hx]; rfl
theorem TxR.only {w w' : World} {v : Value} {l : List ByteArray} (h : TxR w v l) (t : Only w w') : TxR w' v l := by
  obtain ⟨sp, cap, e, h2⟩ := h
  refine ⟨sp, cap, e, fun h0 => ?_⟩
  obtain ⟨g, e2, h3⟩ := h2 h0
  exact ⟨g, e2, fun i x hx => t.cellM (h3 i x hx)⟩
theorem TxO.only {w w' : World} {base : Nat} {v : Value} {l : List ByteArray} (h : TxO w base v l) (t : Only w w') : TxO w' base v l := by
  refine ⟨h.1, ?_⟩
  rcases h.2 with k | ⟨g, cap, cur, e1, hg, hh, r⟩
  · exact Or.inl k
  · exact Or.inr ⟨g, cap, cur, e1, hg, (t.block g (Array.getElem?_eq_some_iff.1 hh).1).trans hh, r⟩
theorem TxO.form {w : World} {base : Nat} {v : Value} {l : List ByteArray} (h : TxO w base v l) : ∃ sp cap, v = .slice sp l.length cap := by
  obtain ⟨sp, cap, e, -⟩ := h.toR
  exact ⟨sp, cap, e⟩

theorem append_tx {w : World} {ops : Array Oper} {rest : List Oper} {o : Oper} {a : Act} {Qx : Exit → Act → World → Prop} (hgd : o.guard = none) (s x : Operand)
    (ho : o.op = .call { callee := .builtin .append, args := #[s, x], argTypes := #[42, 42] }) {base : Nat} {v : Value} {l : List ByteArray} {y : ByteArray} {g : Nat} (hs : a.eval s = v) (hx : a.eval x = .slice (some ⟨g, 0, none⟩) 1 1)
    (hl : TxO w base v l) (h1 : w.cell? ⟨g, 0, none⟩ = some (.string y)) (hn : l.length ≤ 1000000) (hbase : base ≤ w.heap.size)
    (h : ∀ sp cap w', TxO w' base (.slice sp (l ++ [y]).length cap) (l ++ [y]) → Below base w w' → w.heap.size ≤ w'.heap.size → wpList Tryz.prog ops Qx rest (a.put o.dst (.slice sp (l ++ [y]).length cap)) w') :
    wpList Tryz.prog ops Qx (o :: rest) a w := by
  obtain ⟨i0, hi, hz0, hz1, hz2⟩ := infoTx_parts
  have hown : ∀ r, v.ownBlock = some r → base ≤ r := fun r hr => by
    rcases hl.2 with ⟨rfl, _⟩ | ⟨g, cap, cur, rfl, hg, _⟩
    · cases hr
    · simp [Value.ownBlock] at hr; omega
  refine wpList_append_own_at w hgd s x 42 ho base 9 i0 (.string ⟨#[]⟩) 1 16 Tryz.underlying42 hi hz0 hz1 hz2 rfl (by decide) v l.length _ hs hl ⟨g, 0, none⟩ 1 1 [.string y] hx (by simp) (fun j u hj => ?_) (fun u hu => ?_) (by unfold maxLen; omega) (by omega) hbase ?_
  · rcases j with _ | j
    · simp at hj; subst hj; exact h1
    · simp at hj
  · simp at hu
    subst hu; rfl
  · intro v' w2 hown' hg _ _
    have hown2 : TxO w2 base v' (l ++ [y]) := by unfold TxO txC; rw [List.length_append, List.map_append]; exact hown'
    obtain ⟨sp, cap, e⟩ := hown2.form
    subst e
    exact h sp cap w2 hown2 (Below.grown (Below.refl _ _) hg hbase (fun k e => hown k e)) hg.size

/-! ### pieces -/
/-- the pieces of what is left, behind the letters of one under way -/
def pcs (c : UInt8) (cur : List UInt8) : List UInt8 → List (List UInt8)
  | [] => [cur]
  | x :: r => if x = c then cur :: pcs c [] r else pcs c (cur ++ [x]) r
def pieces (c : UInt8) (l : List UInt8) : List (List UInt8) := pcs c [] l

theorem pcs_length (c : UInt8) : ∀ (l cur : List UInt8), (pcs c cur l).length = l.count c + 1
  | [], _ => rfl
  | x :: r, cur => by
    unfold pcs
    by_cases h : x = c
    · rw [if_pos h, List.length_cons, pcs_length c r, h, List.count_cons_self]
    · rw [if_neg h, pcs_length c r, List.count_cons_of_ne h]
theorem pcs_none (c : UInt8) : ∀ (l cur : List UInt8), l.count c = 0 → pcs c cur l = [cur ++ l]
  | [], cur, _ => by simp [pcs]
  | x :: r, cur, h => by
    have hx : x ≠ c := by rintro rfl; simp at h
    rw [List.count_cons_of_ne hx] at h
    unfold pcs
    rw [if_neg hx, pcs_none c r _ h]; simp
theorem pcs_cut (c : UInt8) : ∀ (l cur : List UInt8), 0 < l.count c → pcs c cur l = (cur ++ (cutL c l).1) :: pcs c [] (cutL c l).2.1 ∧ (cutL c l).2.2 = true ∧ (cutL c l).2.1.count c + 1 = l.count c
  | [], _, h => by simp at h
  | x :: r, cur, h => by
    by_cases hx : x = c
    · subst hx
      simp [pcs, cutL]
    · have hx2 : (x == c) = false := by simpa using hx
      rw [List.count_cons_of_ne hx] at h ⊢
      obtain ⟨a, b, d⟩ := pcs_cut c r (cur ++ [x]) h
      simp only [pcs, if_neg hx, cutL, hx2, Bool.false_eq_true, if_false]
      exact ⟨by rw [a]; simp, b, d⟩
theorem pieces_one {c : UInt8} {l : List UInt8} (h : l.count c = 0) : pieces c l = [l] := pcs_none c l [] h
theorem pieces_two {c : UInt8} {l : List UInt8} (h : l.count c = 1) : pieces c l = [(cutL c l).1, (cutL c l).2.1] := by
  obtain ⟨a, -, d⟩ := pcs_cut c l [] (by omega)
  unfold pieces
  rw [a, pcs_none c _ [] (by omega)]; simp

theorem at_next {D : ByteArray} {k from_ : Nat} (hk : k < D.size) (hf : from_ ≤ k) : ((D.data.toList.take (k + 1)).drop from_) = (D.data.toList.take k).drop from_ ++ [D[k]'hk] := by
  have e : D.data.toList.take (k + 1) = D.data.toList.take k ++ [D[k]'hk] := by
    rw [List.take_succ_eq_append_getElem (by simpa using hk)]; rfl
  rw [e, List.drop_append_of_le_length (by rw [List.length_take]; have : D.data.toList.length = D.size := (Lib.size_eq D).symm; omega)]
theorem drop_next {D : ByteArray} {k : Nat} (hk : k < D.size) : D.data.toList.drop k = (D[k]'hk) :: D.data.toList.drop (k + 1) := by
  rw [List.drop_eq_getElem_cons (by simpa using hk)]; rfl

set_option maxRecDepth 100000 in
set_option maxHeartbeats 1600000 in
theorem rdigits_any (s : ByteArray) (hl : s.size ≤ 1000000) (w : World) : Calls Tryz.prog 58 #[.string s] w fun e w' => e = .returned (.bool (digsB s.data.toList && !s.data.toList.isEmpty)) ∧ w' = w := by
  obtain ⟨X, hX⟩ : ∃ X, X = (digsB s.data.toList && !s.data.toList.isEmpty) := ⟨_, rfl⟩
  rw [← hX]
  have HX := Lib.hid hX
  clear hX
  have il : (s.size : Int) ≤ 1000000 := by omega
  go_enter Tryz.func58, Tryz.ntmps58
  go_wp2_with fail
  go_loop [3] (fun i => ∃ k : Nat, k ≤ s.size ∧ i = .int .i64 k ∧ digsB (s.data.toList.take k) = true) (fun i => s.size - (intOf i).toNat)
  case atStart => exact ⟨0, Nat.zero_le _, rfl, by simp [digsB]⟩
  case round =>
    obtain ⟨k, hk, rfl, hd⟩ := hrel
    have HDG := Lib.hid hd
    clear hd
    by_cases hlt : k < s.size
    · have il2 : (k : Int) < (s.size : Int) := by omega
      have hn := digs_next (D := s) (k := k) hlt
      obtain ⟨c, hc⟩ : ∃ c, c = (s[k]'hlt).toNat := ⟨_, rfl⟩
      rw [← hc] at hn
      have hc2 : (s[k]'hlt).toNat = c := hc.symm
      have HN := Lib.hid hn
      clear hn hc
      by_cases c1 : c < 48
      · have t1 : decide ((c : Int) < 48) = true := by simp; omega
        have HF := Lib.hid (HN.out.2 (by omega))
        clear c1
        go_wp2
        go_ret
        refine ⟨?_, rfl⟩
        rw [HX.out, HF.out]; rfl
      · by_cases c2 : 57 < c
        · have t1 : decide ((c : Int) < 48) = false := by simp; omega
          have t2 : decide ((57 : Int) < (c : Int)) = true := by simp; omega
          have HF := Lib.hid (HN.out.2 (by omega))
          clear c1 c2
          go_wp2
          go_ret
          refine ⟨?_, rfl⟩
          rw [HX.out, HF.out]; rfl
        · have t1 : decide ((c : Int) < 48) = false := by simp; omega
          have t2 : decide ((57 : Int) < (c : Int)) = false := by simp; omega
          have HF := Lib.hid (HN.out.1 HDG.out ⟨by omega, by omega⟩)
          clear c1 c2
          go_wp2
          go_round
          case rel => exact ⟨k + 1, by omega, by go_num, HF.out⟩
          case measure => simp [intOf]; omega
    · have hkl : k = s.size := by omega
      subst hkl
      have h := HDG.out
      rw [List.take_of_length_le (by simp)] at h
      have HF := Lib.hid h
      clear h
      obtain ⟨z, hz⟩ : ∃ z, z = s.toList.isEmpty := ⟨_, rfl⟩
      have hX := HX.out
      rw [HF.out, ← Lib.toList_data, ← hz] at hX
      have HX2 := Lib.hid hX
      clear hX
      cases z
      · have n1 : s.toList.isEmpty = false := hz.symm
        have n0 : ¬ s.toList = [] := by intro e; rw [e] at n1; cases n1
        have n4 : (s.toList == []) = false := by simpa using n0
        have n5 : (s.toList != []) = true := by simpa using n0
        clear hz
        go_wp2
        go_ret
        exact ⟨by rw [HX2.out]; rfl, rfl⟩
      · have n1 : s.toList.isEmpty = true := hz.symm
        have n0 : s.toList = [] := by cases h : s.toList with | nil => rfl | cons _ _ => rw [h] at n1; cases n1
        have n4 : (s.toList == []) = true := by simpa using n0
        have n5 : (s.toList != []) = false := by simpa using n0
        clear hz
        go_wp2
        go_ret
        exact ⟨by rw [HX2.out]; rfl, rfl⟩

end Go.Proofs.YtfjemldilnaggaaGreatDoor
