/-
  OF THE LAWS: few.
-/
import Derived.Test.YtblaicejpijfbaaTBox
import Derived.Test.YtblaicejpijfbaaTFirst
namespace Go.Proofs.Ytblaicejpijfbaa
open Go.RowKit Go.Maps Go.WideMaps Go.Proofs.Ytblaicejpijfbaa.Tb

/-- an operation that comes in -/
structure Op3 where
  kind : Int
  v : Int
  key : List UInt8
  top : List UInt8

def Op3.at_ (w : World) (a : Addr) (o : Op3) : Prop :=
  (o.key.length ≤ 9223372036854775807 ∧ o.top.length ≤ 9223372036854775807) ∧ w.cell? a = some (.int .i64 o.kind) ∧ w.cell? (a.add 1) = some (.int .i64 o.v) ∧ w.cell? (a.add 2) = some (.string ⟨o.key.toArray⟩) ∧ w.cell? (a.add 3) = some (.string ⟨o.top.toArray⟩)

/-- v reads as these operations -/
def OpsR (w : World) (v : Value) (l : List Op3) : Prop :=
  ∃ sp cap, v = .slice sp l.length cap ∧ (0 < l.length → ∃ b o, sp = some ⟨b, o, none⟩ ∧ ∀ j x, l[j]? = some x → Op3.at_ w ⟨b, o + j * 4, none⟩ x)

section
variable {w w' : World}

theorem Op3.at_.later {a : Addr} {o : Op3} (h : Op3.at_ w a o) (ht : Turn (fun _ => False) w w') : Op3.at_ w' a o :=
  ⟨h.1, turn_cell ht h.2.1, turn_cell ht h.2.2.1, turn_cell ht h.2.2.2.1, turn_cell ht h.2.2.2.2⟩

theorem add_at (b o j : Nat) : (⟨b, o, none⟩ : Addr).add j = ⟨b, o + j, none⟩ := by
  unfold Addr.add; split <;> simp_all

/-- the same, as the walks want it -/
theorem Op3.cells {b o : Nat} {x : Op3} (h : Op3.at_ w ⟨b, o, none⟩ x) : w.cell? ⟨b, o, none⟩ = some (.int .i64 x.kind) ∧ w.cell? ⟨b, o + 1, none⟩ = some (.int .i64 x.v) ∧ w.cell? ⟨b, o + 2, none⟩ = some (.string ⟨x.key.toArray⟩) ∧ w.cell? ⟨b, o + 3, none⟩ = some (.string ⟨x.top.toArray⟩) := by
  obtain ⟨_, h0, h1, h2, h3⟩ := h
  rw [add_at] at h1 h2 h3
  exact ⟨h0, h1, h2, h3⟩

theorem OpsR.later {v : Value} {l : List Op3} (h : OpsR w v l) (ht : Turn (fun _ => False) w w') : OpsR w' v l := by
  obtain ⟨sp, cap, hv, hc⟩ := h
  refine ⟨sp, cap, hv, fun h0 => ?_⟩
  obtain ⟨b, o, e, hx⟩ := hc h0
  exact ⟨b, o, e, fun j x hj => (hx j x hj).later ht⟩

/-- what few answers -/
def Few3 (w : World) (n : Nat) (r : Ending) (w' : World) : Prop := ∃ b : Bool, r = .returned (.bool b) ∧ (b = true → n ≤ 200) ∧ Like w w'

set_option maxRecDepth 100000 in
set_option maxHeartbeats 1000000 in
/-- true only where they are 200 at most -/
theorem few_any {v : Value} {l : List Op3} (h : OpsR w v l) (hl : l.length ≤ 9223372036854775807) :
    Calls Try.prog 6 #[v] w (Few3 w l.length) := by
  obtain ⟨sp, cap, rfl, hc⟩ := h
  have HC := Lib.hid hc
  clear hc
  go_enter Try.func6, Try.ntmps6
  go_wp2_with fail
  go_loopw [3, 4] (fun n i wr => ∃ (k : Nat) (q : Int), k ≤ l.length ∧ k ≤ 201 ∧ i = .int .i64 k ∧ n = .int .i64 q ∧ 0 ≤ q ∧ q ≤ 40000 ∧ Like w wr) (fun _ i _ => l.length - (intOf i).toNat)
  case atStart => exact ⟨0, 0, Nat.zero_le _, Nat.zero_le _, rfl, rfl, by omega, by omega, Like.refl _⟩
  case round =>
    obtain ⟨k, q, hk, hk3, rfl, rfl, hq0, hq1, hlk⟩ := hrel
    by_cases hlt : k < l.length
    · by_cases hlt3 : k < 201
      · obtain ⟨b, o, e1, x1⟩ := HC.out (by omega)
        subst e1
        have hat := (x1 k l[k] (List.getElem?_eq_getElem hlt)).later (hlk.turn _)
        obtain ⟨c0, c1, c2, c3⟩ := Op3.cells hat
        obtain ⟨⟨hs2, hs3⟩, _⟩ := hat
        have HL := Lib.hid hlk
        clear x1 hlk c0 c1
        generalize l[k] = x at c2 c3 hs2 hs3
        have i0 : (0 : Int) ≤ (k : Int) := by omega
        have i1 : (k : Int) < (l.length : Int) := by omega
        have i2 : (k : Int) ≤ 200 := by omega
        go_wp2_with fail
        go_quiet (fail)
        go_wp2_with fail
        go_roundw
        case rel => exact ⟨k + 1, _, by omega, by omega, by go_num, rfl, by omega, by omega, HL.out.trans (like_drewN _ _)⟩
        case measure => simp [intOf]; omega
      · have hk0 : k = 201 := by omega
        subst hk0
        have i1 : (201 : Int) < (l.length : Int) := by omega
        have i2 : decide ((l.length : Int) ≤ 200) = false := by simp; omega
        go_wp2
        go_ret
        exact ⟨false, rfl, by simp, hlk⟩
    · have hk0 : k = l.length := by omega
      subst hk0
      by_cases h2 : l.length ≤ 200
      · have i2 : (l.length : Int) ≤ 200 := by omega
        clear hk hlt
        by_cases hq2 : q ≤ 20000
        all_goals
          go_wp2
          go_ret
          exact ⟨_, rfl, fun _ => h2, hlk⟩
      · have h3 : l.length = 201 := by omega
        have i2 : decide ((l.length : Int) ≤ 200) = false := by simp; omega
        clear hk hlt
        go_wp2
        go_ret
        exact ⟨false, rfl, by simp, hlk⟩
end
end Go.Proofs.Ytblaicejpijfbaa
