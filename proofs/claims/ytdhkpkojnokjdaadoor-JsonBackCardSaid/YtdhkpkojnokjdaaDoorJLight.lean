/-
  A value that is not large: its lengths, its text's length.
-/
import Derived.Test.YtdhkpkojnokjdaaDoorJSmall
namespace Go.Proofs.YtdhkpkojnokjdaaDoor
open Go.RowKit Go.Shelf Sorted
set_option linter.unusedVariables false
set_option linter.unusedSimpArgs false

theorem sum_mem {α : Type} {f : α → Nat} : ∀ {l : List α} {x : α}, x ∈ l → f x ≤ (l.map f).sum
  | y :: l, x, h => by
    rcases List.mem_cons.1 h with rfl | h
    · simp
    · have := sum_mem (f := f) h
      simp only [List.map_cons, List.sum_cons]; omega
theorem sum_le {α : Type} {f g : α → Nat} {c : Nat} (h : ∀ x, f x ≤ c * g x) : ∀ l : List α, (l.map f).sum ≤ c * (l.map g).sum
  | [] => by simp
  | x :: l => by
    have := sum_le h l
    have := h x
    simp only [List.map_cons, List.sum_cons]
    rw [Nat.mul_add]; omega
theorem weightL_mem : ∀ {l : List GV} {x : GV}, x ∈ l → weightG x ≤ weightL l
  | y :: l, x, h => by
    rw [weightL]
    rcases List.mem_cons.1 h with rfl | h
    · omega
    · have := weightL_mem h; omega
theorem count_le (ns : List (List UInt8)) : ns.length ≤ (ns.map fun s => 1 + s.length / 20).sum := by
  induction ns with
  | nil => simp
  | cons s r ih => simp only [List.length_cons, List.map_cons, List.sum_cons]; omega
theorem pad_sum (ts : List (List UInt8)) : ∀ (n a : Nat), ((List.range' a n).map fun i => (ts.getD i []).length).sum ≤ ((ts.drop a).map List.length).sum
  | 0, a => by simp
  | n + 1, a => by
    have ih := pad_sum ts n (a + 1)
    rw [List.range'_succ, List.map_cons, List.sum_cons]
    by_cases h : a < ts.length
    · rw [List.drop_eq_getElem_cons h, List.map_cons, List.sum_cons, getD_in h]; omega
    · have e : ts.getD a [] = [] := by simp [List.getD, List.getElem?_eq_none (by omega : ts.length ≤ a)]
      rw [e]
      rw [List.drop_eq_nil_of_le (by omega : ts.length ≤ a + 1)] at ih
      simp only [List.map_nil, List.sum_nil] at ih
      simp only [List.length_nil]
      omega
theorem objG_len2 (l : List GV) (ns : List (List UInt8)) : (objG ordN l ns).length ≤ 2 + lenQ ns + lenT (textL ordN l) + ns.length := by
  have h1 := joinB_lenT ((ordN ns).map (memG ordN l ns))
  have h2 : lenT ((ordN ns).map (memG ordN l ns)) ≤ lenQ ns + lenT (textL ordN l) + ns.length := by
    have p := ((ordN_perm ns).map fun i => ((quoteB (ns.getD i [])).length + 1) + (((textL ordN l).getD i []).length + 1)).sum_nat
    unfold lenT
    rw [List.map_map]
    have e1 : (fun t : List UInt8 => t.length + 1) ∘ memG ordN l ns = fun i => ((quoteB (ns.getD i [])).length + 1) + (((textL ordN l).getD i []).length + 1) := by
      funext i
      simp only [Function.comp, memG, List.length_append, List.length_cons]
      omega
    rw [e1, p, sum_map_add, sum_map_add (fun i => ((textL ordN l).getD i []).length) (fun _ => 1)]
    have a1 : ((List.range' 0 ns.length).map fun i => (quoteB (ns.getD i [])).length + 1).sum = lenQ ns := by
      unfold lenQ
      have := congrArg (List.map fun t : List UInt8 => (quoteB t).length + 1) (map_range ns [])
      rw [List.map_map] at this
      rw [← this]
      rfl
    have a2 := pad_sum (textL ordN l) ns.length 0
    rw [List.drop_zero] at a2
    have a3 : ((textL ordN l).map List.length).sum ≤ ((textL ordN l).map fun t => t.length + 1).sum := by
      have := sum_le (f := List.length) (g := fun t : List UInt8 => t.length + 1) (c := 1) (fun x => by omega) (textL ordN l)
      omega
    have a4 : ((List.range' 0 ns.length).map fun _ => 1).sum = ns.length := by simp [List.map_const', List.sum_replicate_nat]
    omega
  unfold objG
  simp only [List.length_cons, List.length_append, List.length_nil]
  omega

mutual
theorem text_light : ∀ x : GV, (textG ordN x).length + 1 ≤ 200 * weightG x
  | .mk k t l ns => by
    have hW : weightG (.mk k t l ns) = 1 + (t.length + ns.length + l.length) / 20 + (ns.map fun s => 1 + s.length / 20).sum + weightL l := by rw [weightG]
    rw [hW]
    by_cases h1 : k = 1
    · subst h1; simp [textG]; omega
    by_cases h2 : k = 2
    · subst h2; simp [textG]; omega
    by_cases h3 : k = 3
    · subst h3; simp [textG]; omega
    by_cases h4 : k = 4
    · subst h4
      have := quoteB_len t
      simp [textG]; omega
    by_cases h5 : k = 5
    · subst h5
      have e : textG ordN (.mk 5 t l ns) = 91 :: (joinB (textL ordN l) ++ [93]) := by simp [textG]
      have a := joinB_lenT (textL ordN l)
      have b := texts_light l
      rw [e]
      simp only [List.length_cons, List.length_append, List.length_nil]
      omega
    by_cases h6 : k = 6
    · subst h6
      have e : textG ordN (.mk 6 t l ns) = objG ordN l ns := by rw [textG]; simp; rfl
      have a := objG_len2 l ns
      have b := texts_light l
      have c : lenQ ns ≤ 123 * (ns.map fun s => 1 + s.length / 20).sum := sum_le (fun s => by have := quoteB_len s; omega) ns
      have d := count_le ns
      rw [e]
      omega
    · simp [textG, h1, h2, h3, h4, h5, h6]; omega
theorem texts_light : ∀ l : List GV, lenT (textL ordN l) ≤ 200 * weightL l
  | [] => by simp [textL, lenT]
  | x :: r => by
    have a := text_light x
    have b := texts_light r
    rw [textL, weightL]
    unfold lenT at b ⊢
    rw [List.map_cons, List.sum_cons]
    omega
end
mutual
theorem fine_light : ∀ x : GV, weightG x ≤ 200 → Fine x ∧ Slim x
  | .mk k t l ns, h => by
    rw [weightG] at h
    have d := count_le ns
    have hn : ∀ s ∈ ns, s.length ≤ 1000000 := fun s hs => by
      have : 1 + s.length / 20 ≤ _ := sum_mem (f := fun s : List UInt8 => 1 + s.length / 20) hs
      omega
    obtain ⟨a, b⟩ := fines_light l (by omega)
    unfold Fine Slim
    exact ⟨⟨by omega, by omega, by omega, hn, a⟩, ⟨by omega, by omega, by omega, hn, b⟩⟩
theorem fines_light : ∀ l : List GV, weightL l ≤ 200 → FineL l ∧ SlimL l
  | [], _ => by unfold FineL SlimL; exact ⟨trivial, trivial⟩
  | x :: r, h => by
    rw [weightL] at h
    obtain ⟨a, b⟩ := fine_light x (by omega)
    obtain ⟨c, d⟩ := fines_light r (by omega)
    unfold FineL SlimL
    exact ⟨⟨a, c⟩, ⟨b, d⟩⟩
end
end Go.Proofs.YtdhkpkojnokjdaaDoor
