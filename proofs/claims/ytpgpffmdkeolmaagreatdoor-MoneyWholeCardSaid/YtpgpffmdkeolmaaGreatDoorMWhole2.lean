/-
  MoneyWhole: for every amount and all weights.
-/
import Derived.Test.YtpgpffmdkeolmaaGreatDoorMWhole
namespace Go.Proofs.YtpgpffmdkeolmaaGreatDoor
open Go.RowKit Go.Shelf
set_option linter.unusedVariables false

theorem wI_inj : ∀ {a b : List Nat}, wI a = wI b → a = b
  | [], [], _ => rfl
  | [], _ :: _, h => by simp [wI] at h
  | _ :: _, [], h => by simp [wI] at h
  | x :: a, y :: b, h => by
    simp only [wI, List.map_cons, List.cons.injEq] at h
    have h1 : x = y := by omega
    rw [h1, wI_inj (a := a) (b := b) h.2]

theorem moneyWhole_any {x : Int} (c : ByteArray) {v : Value} {l : List Int} {w : World} (hv : IntsIn w v l) (hP : Pow w) :
    Calls Tryz.prog 3 #[.agg #[.int .i64 x, .string c], v] w fun e w' => e = .returned (.bool true) ∧ Only w w' := by
  have FM := first_isM hP
  have hv2 := hv
  obtain ⟨sp, cap, rfl, -⟩ := hv2
  by_cases h0 : 110 < l.length
  · exact whole_out0 FM (by omega)
  by_cases h1 : 200 < c.size
  · exact whole_out1 FM (by omega) (by omega)
  have AL := fun (W : World) (t : Only w W) => allocate_any (x := x) (c := c) (hv.only t)
  by_cases hE : alloE x c l = 0
  · have hc : curE x c = 0 ∧ totE l = 0 := by
      unfold alloE at hE
      split at hE
      · rename_i a; exact ⟨a, hE⟩
      · rename_i a; exact absurd hE a
    have hg : ∃ ws, l = wI ws ∧ ws.length ≤ 100 ∧ 0 < ws.sum ∧ ws.sum ≤ 1099511627776 := by
      have h2 := hc.2
      have hg : GoodW l ∧ l.length ≤ 100 ∧ l.sum ≠ 0 := by
        unfold totE at h2
        split at h2
        · cases h2
        · split at h2
          · cases h2
          · split at h2
            · split at h2
              · cases h2
              · rename_i a b c d; exact ⟨c, by omega, d⟩
            · cases h2
      obtain ⟨hg1, hg2, hg3⟩ := hg
      have hs := goodW_sum hg1
      obtain ⟨ws, e1, e2, e3⟩ := wI_of hg1
      exact ⟨ws, e1, by omega, by omega, by omega⟩
    obtain ⟨ws, rfl, g1, g2, g3⟩ := hg
    refine whole_walk FM hv g1 (by omega) hc.1 g2 g3 fun W t => (AL W t).mono ?_
    rintro e w' ⟨r, m, he, ⟨hm, hq⟩, ho⟩
    refine ⟨r, m, he, ⟨by rw [hm, hE], ?_⟩, ho⟩
    rcases hq with ⟨k, -⟩ | ⟨-, ws', e1, -, -, -, hA⟩
    · exact absurd hE k
    · have : ws = ws' := wI_inj e1
      rw [this]; exact hA
  · refine whole_bad FM (by omega) (by omega) (ne_eqs hE).1 (ne_eqs hE).2 fun W t => (AL W t).mono ?_
    rintro e w' ⟨r, m, he, ⟨hm, hq⟩, ho⟩
    refine ⟨r, m, he, ⟨hm, ?_⟩, ho⟩
    rcases hq with ⟨-, k⟩ | ⟨k, -⟩
    · exact k
    · exact absurd k hE
end Go.Proofs.YtpgpffmdkeolmaaGreatDoor
