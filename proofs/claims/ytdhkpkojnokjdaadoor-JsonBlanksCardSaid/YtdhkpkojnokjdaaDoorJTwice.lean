/-
  Does a name stand behind the same one, in an order?
-/
import Derived.Test.YtdhkpkojnokjdaaDoorJApp
namespace Go.Proofs.YtdhkpkojnokjdaaDoor
open Go.RowKit Go.Shelf
set_option linter.unusedVariables false
set_option linter.unusedSimpArgs false

/-- are two that stand side by side the same? -/
def twL : List (List UInt8) → Bool
  | a :: b :: r => (a == b) || twL (b :: r)
  | _ => false
theorem twL_drop {ms : List (List UInt8)} {k : Nat} (hk : 1 ≤ k) (h : k < ms.length) : twL (ms.drop (k - 1)) = ((ms[k - 1]'(by omega) == ms[k]) || twL (ms.drop k)) := by
  have e : ms.drop (k - 1) = ms[k - 1]'(by omega) :: ms[k] :: ms.drop (k + 1) := by
    rw [List.drop_eq_getElem_cons (by omega : k - 1 < ms.length)]
    congr 1
    rw [show k - 1 + 1 = k by omega, List.drop_eq_getElem_cons h]
  rw [e, twL, ← List.drop_eq_getElem_cons h]
theorem twL_end {ms : List (List UInt8)} {k : Nat} (h : ms.length ≤ k + 1) : twL (ms.drop k) = false := by
  match hm : ms.drop k with
  | [] => rfl
  | [a] => rfl
  | a :: b :: r =>
    have := congrArg List.length hm
    rw [List.length_drop] at this
    simp at this
    omega
def twG (ord : List (List UInt8) → List Nat) (ns : List (List UInt8)) : Bool := twL ((ord ns).map fun i => ns.getD i [])

theorem add_at (g o n : Nat) : (⟨g, o, none⟩ : Addr).add n = ⟨g, o + n, none⟩ := by unfold Addr.add; split <;> simp_all
theorem add_at0 (g n : Nat) : (⟨g, 0, none⟩ : Addr).add n = ⟨g, n, none⟩ := by rw [add_at, Nat.zero_add]

theorem only_drewN (w : World) : ∀ n, Only w (w.drewN n)
  | 0 => Only.refl w
  | n + 1 => (only_drewN w n).drew

set_option maxRecDepth 100000 in
set_option maxHeartbeats 3200000 in
theorem isTwice_any {ord : List (List UInt8) → List Nat} (hR : RisingIs ord) (hO : OrdIs ord) : TwiceIs (twG ord) := by
  intro ns N w hN hl hs
  have Q := hR ns N w hN hl hs
  have hN2 := hN
  obtain ⟨sn, cn, rfl, -, hnames⟩ := hN2
  have HNA := Lib.hid hN
  have HN := Lib.hid hnames
  obtain ⟨os, hos⟩ : ∃ os, os = ord ns := ⟨_, rfl⟩
  have HLO := Lib.hid (show os.length = ns.length by rw [hos]; exact (hO ns).1)
  have HOI := Lib.hid (show ∀ i ∈ os, i < ns.length by rw [hos]; exact (hO ns).2)
  obtain ⟨ms, hms⟩ : ∃ ms, ms = os.map fun i => ns.getD i [] := ⟨_, rfl⟩
  have hml : ms.length = os.length := by rw [hms, List.length_map]
  have HML := Lib.hid hml
  have HMS := Lib.hid hms
  have hx : twG ord ns = twL ms := by rw [hms, hos]; rfl
  rw [← hos] at Q
  rw [hx]
  have HL := Lib.hid hl
  obtain ⟨x, hxx⟩ : ∃ x, x = twL ms := ⟨_, rfl⟩
  have HX := Lib.hid hxx
  rw [← hxx]
  clear hR hO hN hnames hs hos hms hx hml hxx
  go_enter Tryd.func50, Tryd.ntmps50
  go_wp2_with (go_at_call 45; refine Q.mono ?_; rintro r w1 ⟨⟨V, rfl, so, co, rfl, hints⟩, t1⟩)
  have HIN := Lib.hid hints
  have HT := Lib.hid t1
  clear hints t1 Q
  go_loopg [4] os.length (fun g v wr => ∃ j : Nat, v = .int .i64 (j : Int) ∧ 1 ≤ j ∧ os.length - j ≤ g ∧ Only w1 wr ∧ x = twL (ms.drop (j - 1)))
  case atStart => exact ⟨1, rfl, Nat.le_refl _, by omega, Only.refl _, HX.out⟩
  case round =>
    obtain ⟨j, rfl, hj, hg, ht, hxj⟩ := hrel
    have HTT := Lib.hid ht
    have HXJ := Lib.hid hxj
    clear hxj
    by_cases hlt : j < os.length
    · have ij : (j : Int) < (os.length : Int) := by omega
      have jb : j ≤ 1000 := by have := HLO.out; have := HL.out; omega
      obtain ⟨i, hi⟩ : ∃ i, i = os[j]'hlt := ⟨_, rfl⟩
      obtain ⟨p, hp⟩ : ∃ p, p = os[j - 1]'(by omega) := ⟨_, rfl⟩
      have hin : i < ns.length := by rw [hi]; exact HOI.out _ (List.getElem_mem _)
      have hpn : p < ns.length := by rw [hp]; exact HOI.out _ (List.getElem_mem _)
      have ii : (i : Int) < (ns.length : Int) := by omega
      have ip : (p : Int) < (ns.length : Int) := by omega
      rcases HIN.out with h0 | ⟨go, hso, hgo, hoc⟩
      · rw [h0] at hlt; simp at hlt
      rcases HN.out with h0 | ⟨gn, offn, hsn, hncell⟩
      · rw [h0] at hin; simp at hin
      subst hsn hso
      have oc := cell_only (hoc j hlt) ht
      have op := cell_only (hoc (j - 1) (by omega)) ht
      rw [← hi] at oc
      rw [← hp] at op
      have nc := cell_only (cell_only (hncell i hin) HT.out) ht
      have np := cell_only (cell_only (hncell p hpn) HT.out) ht
      have htw := twL_drop (ms := ms) hj (by have := HML.out; omega)
      have em : ms[j]'(by have := HML.out; omega) = ns[i]'hin := by
        have := HMS.out
        subst this
        rw [List.getElem_map, ← hi]
        simp [List.getD_eq_getElem?_getD, hin]
      have ep : ms[j - 1]'(by have := HML.out; omega) = ns[p]'hpn := by
        have := HMS.out
        subst this
        rw [List.getElem_map, ← hp]
        simp [List.getD_eq_getElem?_getD, hpn]
      rw [em, ep] at htw
      obtain ⟨a, ha⟩ : ∃ a, a = ns[p]'hpn := ⟨_, rfl⟩
      obtain ⟨b, hb⟩ : ∃ b, b = ns[i]'hin := ⟨_, rfl⟩
      rw [← ha, ← hb] at htw
      rw [← ha] at np
      rw [← hb] at nc
      have HTW := Lib.hid htw
      have eo := add_at0 go j
      have eo2 := add_at0 go (j - 1)
      have en := add_at gn offn i
      have en2 := add_at gn offn p
      have ij1 : ((j : Int) - 1) = ((j - 1 : Nat) : Int) := by omega
      clear hoc hncell htw em ep ha hb hi hp
      obtain ⟨m, rfl⟩ : ∃ m, j = m + 1 := ⟨j - 1, by omega⟩
      simp only [Nat.add_sub_cancel] at op eo2 ij1
      have jm : (m : Int) < 1000 := by omega
      go_wp2_with fail
      go_quiet (fail)
      have htn := HTT.out.trans (only_drewN wr nq)
      have hxv := HXJ.out.trans HTW.out
      cases hab : (a == b)
      · rw [hab, Bool.false_or] at hxv
        have HXV := Lib.hid hxv
        have HTN := Lib.hid htn
        clear hxv htn ht
        go_wp2_with fail
        go_roundg (os.length - (m + 1 + 1))
        case measure => omega
        case rel => exact ⟨m + 1 + 1, by go_num, by omega, Nat.le_refl _, HTN.out, HXV.out⟩
      · rw [hab, Bool.true_or] at hxv
        subst hxv
        have HTN := Lib.hid htn
        clear htn ht
        go_wp2_with fail
        go_ret
        exact ⟨rfl, HT.out.trans HTN.out⟩
    · have ij : ¬ (j : Int) < (os.length : Int) := by omega
      have hfin : x = false := by rw [HXJ.out]; exact twL_end (by have := HML.out; omega)
      subst hfin
      go_wp2_with fail
      go_ret
      exact ⟨rfl, HT.out.trans HTT.out⟩
end Go.Proofs.YtdhkpkojnokjdaaDoor
