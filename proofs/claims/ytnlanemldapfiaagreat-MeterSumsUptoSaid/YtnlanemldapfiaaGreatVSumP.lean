/-
  Sums of all accounts, as plain data.
-/
import Derived.Test.YtnlanemldapfiaaGreatVOnceP
import Derived.Test.YtnlanemldapfiaaGreatVAcc
namespace Go.Proofs.YtnlanemldapfiaaGreat.se
open Go.RowKit Go.Maps Go.WideMaps Go.Shelf Go.Sort Go.Proofs.YtnlanemldapfiaaGreat.Tb
set_option linter.unusedVariables false

/-- a weight's sum -/
def wsum (f : Ev → Int) (L : List Ev) : Int := (L.map f).sum
theorem wsum_cons (f : Ev → Int) (x : Ev) (L : List Ev) : wsum f (x :: L) = f x + wsum f L := by simp [wsum]
theorem wsum_nil (f : Ev → Int) : wsum f [] = 0 := rfl

theorem sum_ite {ks : List (List UInt8)} {k : List UInt8} {c : Int} (hn : ks.Nodup) : (ks.map fun m => if k = m then c else 0).sum = if k ∈ ks then c else 0 := by
  induction ks with
  | nil => simp
  | cons y ks ih =>
    have hn' := List.nodup_cons.1 hn
    rw [List.map_cons, List.sum_cons, ih hn'.2]
    by_cases e : k = y
    · subst e
      rw [if_pos rfl, if_neg hn'.1, if_pos (List.mem_cons_self ..)]
      omega
    · rw [if_neg e]
      by_cases h : k ∈ ks
      · rw [if_pos h, if_pos (List.mem_cons_of_mem _ h)]; omega
      · rw [if_neg h, if_neg (fun q => (List.mem_cons.1 q).elim e h)]; omega

theorem sum_add {α : Type} (l : List α) (f g : α → Int) : (l.map fun x => f x + g x).sum = (l.map f).sum + (l.map g).sum := by
  induction l with
  | nil => rfl
  | cons x l ih => simp only [List.map_cons, List.sum_cons, ih]; omega

/-- a list parted by a key: its parts sum up to the whole -/
theorem parted_sum (f : Ev → Int) (key : Ev → List UInt8) {ks : List (List UInt8)} (hn : ks.Nodup) : ∀ L : List Ev, (∀ x ∈ L, key x ∈ ks) → (ks.map fun m => wsum f (L.filter fun x => decide (key x = m))).sum = wsum f L
  | [], _ => by
    simp only [List.filter_nil, wsum_nil]
    induction ks with
    | nil => rfl
    | cons y ks ih => rw [List.map_cons, List.sum_cons, ih (List.nodup_cons.1 hn).2 (fun x hx => by simp at hx)]; rfl
  | x :: L, h => by
    have ih := parted_sum f key hn L (fun y hy => h y (List.mem_cons_of_mem _ hy))
    have e : ∀ m, wsum f ((x :: L).filter fun x => decide (key x = m)) = (if key x = m then f x else 0) + wsum f (L.filter fun x => decide (key x = m)) := by
      intro m
      by_cases c : key x = m
      · rw [List.filter_cons_of_pos (by simpa using c), if_pos c, wsum_cons]
      · rw [List.filter_cons_of_neg (by simpa using c), if_neg c]; omega
    rw [List.map_congr_left (fun m _ => e m), sum_add, sum_ite hn, if_pos (h x (List.mem_cons_self ..)), ih, wsum_cons]

theorem qsum_is (L : List Ev) (m : List UInt8) : qsum L m = wsum Ev.qty (L.filter fun x => decide (x.met = m)) := rfl
theorem csum_is (L : List Ev) (m : List UInt8) : csum L m = wsum (fun _ => 1) (L.filter fun x => decide (x.met = m)) := by
  unfold csum wsum
  generalize L.filter _ = M
  induction M with
  | nil => rfl
  | cons x M ih => rw [List.map_cons, List.sum_cons, ← ih, List.length_cons]; omega
theorem wsum_one (L : List Ev) : wsum (fun _ => 1) L = L.length := by
  induction L with
  | nil => rfl
  | cons x L ih => rw [wsum_cons, ih, List.length_cons]; omega

/-- the totals of mild events sum up to their number, their quantities -/
theorem totals_sum {L : List Ev} (h : Mild L) : ((totalsOf L).map fun t => t.2.2).sum = L.length ∧ ((totalsOf L).map fun t => t.2.1).sum = wsum Ev.qty L := by
  have hk : ∀ x ∈ L, x.met ∈ namesOf L := fun x hx => (mem_namesOf L _).2 (List.mem_map.2 ⟨x, hx, rfl⟩)
  unfold totalsOf
  rw [List.map_map, List.map_map]
  constructor
  · rw [← wsum_one, ← parted_sum (fun _ => 1) Ev.met (namesOf_nodup L) L hk]
    refine congrArg List.sum (List.map_congr_left fun m _ => ?_)
    show cntOf L m = _
    rw [(qtyOf_eq h m).2.1, csum_is]
  · rw [← parted_sum Ev.qty Ev.met (namesOf_nodup L) L hk]
    refine congrArg List.sum (List.map_congr_left fun m _ => ?_)
    show qtyOf L m = _
    rw [(qtyOf_eq h m).1, qsum_is]

/-- all of an account's events -/
theorem evs_all {t : Tr Key Val} {l : List Ev} (h : Kept t l) (acc : List UInt8) : evsOf t acc 0 1099511627777 = (t.list.map Prod.snd).filter fun x => decide (x.acc = acc) := by
  unfold evsOf
  refine List.filter_congr fun x hx => ?_
  obtain ⟨p, hp, rfl⟩ := List.mem_map.1 hx
  have hc := (h.from_ p hp).2.2
  have hn : 0 ≤ p.2.at_ ∧ p.2.at_ ≤ 1099511627776 := by
    unfold checkE at hc
    split at hc
    · split at hc
      · rename_i h1 h2
        simp only [numsB, Bool.and_eq_true, decide_eq_true_eq] at h2
        omega
      · simp at hc
    · simp at hc
  have e1 : decide (0 ≤ p.2.at_) = true := by simp; omega
  have e2 : decide (p.2.at_ < 1099511627777) = true := by simp; omega
  rw [e1, e2]
  by_cases e : p.2.acc = acc
  · simp [e]
  · simp [e]

theorem accsOf_nodup (L : List Ev) : (accsOf L).Nodup := namesOf_nodup _

/-- all accounts' events, and their quantities, are all there are -/
theorem accounts_sum {t : Tr Key Val} {l : List Ev} (h : Kept t l) (f : Ev → Int) : ((accsOf (t.list.map Prod.snd)).map fun a => wsum f (evsOf t a 0 1099511627777)).sum = wsum f (t.list.map Prod.snd) := by
  rw [List.map_congr_left (fun a _ => by rw [evs_all h a])]
  exact parted_sum f Ev.acc (accsOf_nodup _) _ (fun x hx => (mem_accsOf _ _).2 (List.mem_map.2 ⟨x, hx, rfl⟩))

/-- an account that has events is a name, and has totals -/
theorem account_ok {t : Tr Key Val} {l : List Ev} (h : Kept t l) {a : List UInt8} (ha : a ∈ accsOf (t.list.map Prod.snd)) : faultE a 0 1099511627777 = 0 ∧ 0 < (totalsOf (evsOf t a 0 1099511627777)).length := by
  obtain ⟨x, hx, rfl⟩ := List.mem_map.1 ((mem_accsOf _ _).1 ha)
  have hx2 : x ∈ evsOf t x.acc 0 1099511627777 := by
    rw [evs_all h]
    exact List.mem_filter.2 ⟨hx, by simp⟩
  obtain ⟨p, hp, rfl⟩ := List.mem_map.1 hx
  have hc := (h.from_ p hp).2.2
  have hn : nameB p.2.acc = true := by
    unfold checkE namesB at hc
    split at hc
    · rename_i h1
      simp only [Bool.and_eq_true] at h1
      exact h1.1.2
    · simp at hc
  refine ⟨by unfold faultE; rw [hn, if_pos rfl, if_pos (by omega)], ?_⟩
  rw [totals_len]
  exact List.length_pos_of_mem ((mem_namesOf _ _).2 (List.mem_map.2 ⟨p.2, hx2, rfl⟩))
end Go.Proofs.YtnlanemldapfiaaGreat.se
