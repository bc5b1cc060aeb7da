/-
  Events, totals compared as a whole.
-/
import Derived.Test.YtnlanemldapfiaaGreatVFirst
namespace Go.Proofs.YtnlanemldapfiaaGreat.se
open Go.RowKit Go.Maps Go.WideMaps Go.Shelf Go.Sort Go.Proofs.YtnlanemldapfiaaGreat.Tb
set_option linter.unusedVariables false

theorem str_toList (a b : List UInt8) : ((⟨a.toArray⟩ : ByteArray).toList == (⟨b.toArray⟩ : ByteArray).toList) = (a == b) := by
  rw [ByteArray.toList_eq, ByteArray.toList_eq]

theorem ev_neq (x y : Ev) (w : World) : Sem.run Tryz.prog (binOp .neq 32 (.agg #[strE x.key, strE x.acc, strE x.met, .int .i64 x.qty, .int .i64 x.at_]) (.agg #[strE y.key, strE y.acc, strE y.met, .int .i64 y.qty, .int .i64 y.at_])) w = .ok (.bool (decide (x ≠ y))) w := by
  obtain ⟨a1, a2, a3, a4, a5⟩ := x
  obtain ⟨b1, b2, b3, b4, b5⟩ := y
  have e1 := str_toList a1 b1
  have e2 := str_toList a2 b2
  have e3 := str_toList a3 b3
  by_cases h1 : a1 = b1
  · by_cases h2 : a2 = b2
    · by_cases h3 : a3 = b3
      · by_cases h4 : a4 = b4
        · by_cases h5 : a5 = b5
          · subst h1 h2 h3 h4 h5
            go_simp
          · subst h1 h2 h3 h4
            have : (a5 == b5) = false := by simp [h5]
            go_simp
        · subst h1 h2 h3
          have : (a4 == b4) = false := by simp [h4]
          go_simp
      · subst h1 h2
        have : (a3 == b3) = false := by simp [h3]
        go_simp
    · subst h1
      have : (a2 == b2) = false := by simp [h2]
      go_simp
  · have : (a1 == b1) = false := by simp [h1]
    go_simp

theorem tot_neq (x y : Tot) (w : World) : Sem.run Tryz.prog (binOp .neq 37 (.agg #[strE x.1, .int .i64 x.2.1, .int .i64 x.2.2]) (.agg #[strE y.1, .int .i64 y.2.1, .int .i64 y.2.2])) w = .ok (.bool (decide (x ≠ y))) w := by
  obtain ⟨a1, a2, a3⟩ := x
  obtain ⟨b1, b2, b3⟩ := y
  have e1 := str_toList a1 b1
  by_cases h1 : a1 = b1
  · by_cases h2 : a2 = b2
    · by_cases h3 : a3 = b3
      · subst h1 h2 h3
        go_simp
      · subst h1 h2
        have : (a3 == b3) = false := by simp [h3]
        go_simp
    · subst h1
      have : (a2 == b2) = false := by simp [h2]
      go_simp
  · have : (a1 == b1) = false := by simp [h1]
    go_simp
end Go.Proofs.YtnlanemldapfiaaGreat.se
