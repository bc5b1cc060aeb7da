/-
  slices.SortStableFunc of a row of rising places: the one sorted list.
-/
import Derived.Test.YtnlanemldapfiaaGreatV5Sym
import Derived.Test.YtnlanemldapfiaaGreatV5Ins
namespace Go.Proofs.YtnlanemldapfiaaGreat.st
open Go.RowKit Go.Shelf Go.Proofs.YtnlanemldapfiaaGreat.se Go.Proofs.YtnlanemldapfiaaGreat.Tb Sorted
set_option linter.unusedVariables false
set_option linter.unusedSimpArgs false

theorem symMerge_any {E : Nat → Ev} {w0 : World} {g n : Nat} {cf : Nat → Nat → Int} (hw : Weak (lessOf cf)) (hc : CmpIs E w0 n cf) (hg : w0.heap.size ≤ g) {N cap : Nat} (hl : N ≤ 1000000) : ∀ k, MergeIs E w0 g n cf N cap k
  | 0 => fun w A X Y B hk => absurd hk (Nat.not_lt_zero _)
  | k + 1 => by
    intro w A X Y B hk hX hY hr t hx hy hxy hn hN a m b ha hm hb
    have IH := symMerge_any hw hc hg (cap := cap) hl k
    have lX := List.length_pos_iff.2 hX
    have lY := List.length_pos_iff.2 hY
    by_cases h1 : X.length = 1
    · obtain ⟨x, rfl⟩ := List.length_eq_one_iff.1 h1
      have := symOne_any (cap := cap) hw hc (A := A) (Y := Y) (B := B) (x := x) (by simpa using hr) t hg hy (fun y h => hxy x (by simp) y h) (by simpa using hn) (by simpa using hN) hl ha (by simpa using hm) (by simpa using hb)
      simpa using this
    · by_cases h2 : Y.length = 1
      · obtain ⟨y, rfl⟩ := List.length_eq_one_iff.1 h2
        exact symLast_any (cap := cap) hw hc (A := A) (X := X) (B := B) (y := y) (by simpa using hr) t hg h1 hx (fun x h => hxy x h y (by simp)) (fun i hi => hn i (by simp at hi ⊢; rcases hi with e | e; exact Or.inr e; exact Or.inl e)) (by simpa using hN) hl ha hm (by simpa using hb)
      · exact symStep hw hc (fun w A X' Y' B hk' => IH w A X' Y' B (by omega)) hr t hg (by omega) (by omega) hx hy hxy hn hN hl ha hm hb

/-- what stands from a place on, in sorted blocks of bs -/
def blocks (T : Nat → Nat → Prop) [DecidableRel T] (bs : Nat) : Nat → Nat → Nat → List Nat
  | 0, _, _ => []
  | f + 1, a, m => if bs ≤ m then srt T (List.range' a bs) ++ blocks T bs f (a + bs) (m - bs) else srt T (List.range' a m)

theorem blocks_fuel {T : Nat → Nat → Prop} [DecidableRel T] {bs : Nat} (hb : 0 < bs) : ∀ (f g a m : Nat), m < f → m < g → blocks T bs f a m = blocks T bs g a m
  | 0, _, _, _, h, _ => absurd h (Nat.not_lt_zero _)
  | _ + 1, 0, _, _, _, h => absurd h (Nat.not_lt_zero _)
  | f + 1, g + 1, a, m, h1, h2 => by
    unfold blocks
    split
    · rw [blocks_fuel hb f g (a + bs) (m - bs) (by omega) (by omega)]
    · rfl

/-- the same, with fuel enough -/
def blk (T : Nat → Nat → Prop) [DecidableRel T] (bs a m : Nat) : List Nat := blocks T bs (m + 1) a m

theorem blk_more {T : Nat → Nat → Prop} [DecidableRel T] {bs a m : Nat} (hb : 0 < bs) (h : bs ≤ m) : blk T bs a m = srt T (List.range' a bs) ++ blk T bs (a + bs) (m - bs) := by
  unfold blk
  conv => lhs; unfold blocks
  rw [if_pos h, blocks_fuel hb m (m - bs + 1) _ _ (by omega) (by omega)]
theorem blk_last {T : Nat → Nat → Prop} [DecidableRel T] {bs a m : Nat} (h : m < bs) : blk T bs a m = srt T (List.range' a m) := by
  unfold blk
  conv => lhs; unfold blocks
  rw [if_neg (by omega)]
theorem blk_fits {T : Nat → Nat → Prop} [DecidableRel T] {bs a m : Nat} (hb : 0 < bs) (h : m ≤ bs) : blk T bs a m = srt T (List.range' a m) := by
  by_cases e : m = bs
  · subst e
    rw [blk_more hb (Nat.le_refl _), Nat.sub_self, blk_last hb]
    simp [srt]
  · exact blk_last (by omega)

theorem blocks_length {T : Nat → Nat → Prop} [DecidableRel T] {bs : Nat} (hb : 0 < bs) : ∀ (f a m : Nat), m < f → (blocks T bs f a m).length = m
  | 0, _, _, h => absurd h (Nat.not_lt_zero _)
  | f + 1, a, m, h => by
    unfold blocks
    split
    · rw [List.length_append, srt_length, List.length_range', blocks_length hb f _ _ (by omega)]; omega
    · rw [srt_length, List.length_range']
theorem blk_length {T : Nat → Nat → Prop} [DecidableRel T] {bs a m : Nat} (hb : 0 < bs) : (blk T bs a m).length = m := blocks_length hb _ _ _ (Nat.lt_succ_self _)
theorem range_nodup (a m : Nat) : (List.range' a m).Nodup := List.nodup_range' ..
theorem range_two (a b c : Nat) : List.range' a (b + c) = List.range' a b ++ List.range' (a + b) c := by
  rw [List.range'_append_1]
theorem srt_two {T : Nat → Nat → Prop} [DecidableRel T] (h : Strict T) (a b c : Nat) : srt T (srt T (List.range' a b) ++ srt T (List.range' (a + b) c)) = srt T (List.range' a (b + c)) := by
  rw [srt_srt h (by rw [← range_two]; exact range_nodup _ _), range_two]
theorem mem_srt_range {T : Nat → Nat → Prop} [DecidableRel T] {a m i : Nat} : i ∈ srt T (List.range' a m) ↔ a ≤ i ∧ i < a + m := by
  rw [(srt_perm _).mem_iff, List.mem_range'_1]
theorem len_srt_range {T : Nat → Nat → Prop} [DecidableRel T] {a m : Nat} : (srt T (List.range' a m)).length = m := by rw [srt_length, List.length_range']

theorem row_congr {E : Nat → Ev} {w : World} {g : Nat} {l l' : List Nat} (h : Row E w g l) (e : l = l') : Row E w g l' := e ▸ h

set_option maxRecDepth 100000 in
set_option maxHeartbeats 6400000 in
theorem stableCmp_any {E : Nat → Ev} {w0 w : World} {g N : Nat} {cf : Nat → Nat → Int} (hw : Weak (lessOf cf)) (hc : CmpIs E w0 N cf) (hr : Row E w g (List.range' 0 N)) (t : Only w0 w) (hg : w0.heap.size ≤ g) (hl : N ≤ 1000000) {cap : Nat} :
    Calls Tryz.prog 70 #[.slice (some ⟨g, 0, none⟩) N cap, .int .i64 N, .func (.func 46) #[] #[]] w fun e w' => e = .returned (.tuple #[]) ∧ Row E w' g (srt (byT (lessOf cf)) (List.range' 0 N)) ∧ Only w0 w' := by
  have sT := strict_by hw
  have il : (N : Int) ≤ 1000000 := by omega
  have INS := Lib.hid (fun (W : World) (P S B : List Nat) (hW : Row E W g (P ++ (S ++ B))) (tW : Only w0 W) (hs : S.Pairwise (· < ·)) (hn : ∀ i ∈ S, i < N) (hN : N = (P ++ (S ++ B)).length) (a b : Int) (ha : a = P.length) (hb : b = P.length + S.length) => insert_any (cap := cap) hw hc hW tW hg hs hn hN hl ha hb)
  have MRG := Lib.hid (fun (W : World) (P X Y B : List Nat) => symMerge_any (cap := cap) hw hc hg hl (X.length + Y.length + 1) W P X Y B (by omega))
  have HR := Lib.hid hr
  have HT := Lib.hid t
  clear hr t
  go_enter Tryz.func70, Tryz.ntmps70
  go_wp2_with fail
  go_loopw [7, 8] (fun av bv wx => ∃ (a b : Nat) (P : List Nat), av = .int .i64 (a : Int) ∧ bv = .int .i64 (b : Int) ∧ b = a + 20 ∧ a ≤ N ∧ Row E wx g (P ++ List.range' a (N - a)) ∧ Hid (P.length = a) ∧ Hid (P ++ blk (byT (lessOf cf)) 20 a (N - a) = blk (byT (lessOf cf)) 20 0 N) ∧ Only w0 wx) (fun av _ _ => N - (intOf av).toNat)
  case atStart => exact ⟨0, 20, [], rfl, rfl, rfl, Nat.zero_le _, by simpa using HR.out, Lib.hid rfl, Lib.hid (by simp), HT.out⟩
  case round =>
    obtain ⟨a, b, P, rfl, rfl, hb, haN, hrow, hP, hE, ht⟩ := hrel
    by_cases hlt : b ≤ N
    · have k1 : (b : Int) ≤ (N : Int) := by omega
      have e1 : List.range' a (N - a) = List.range' a 20 ++ List.range' b (N - b) := by
        rw [hb, ← range_two]; congr 1; omega
      have C := Lib.hid (INS.out wr P (List.range' a 20) (List.range' b (N - b)) (by rw [← e1]; exact hrow) ht (List.pairwise_lt_range' ..) (fun i hi => by rw [List.mem_range'_1] at hi; omega) (by have := hP.out; simp only [List.length_append, List.length_range']; omega) (a : Int) (b : Int) (by rw [hP.out]) (by rw [hP.out, List.length_range']; omega))
      have HB := Lib.hid hb
      have HE2 := Lib.hid (show (P ++ srt (byT (lessOf cf)) (List.range' a 20)) ++ blk (byT (lessOf cf)) 20 b (N - b) = blk (byT (lessOf cf)) 20 0 N by
        rw [← hE.out, blk_more (a := a) (m := N - a) (by omega) (by omega), hb, show N - a - 20 = N - (a + 20) by omega]; simp)
      clear e1 hb hrow ht hE
      go_wp2_with fail
      refine C.out.mono ?_
      rintro rr w2 ⟨rfl, hr2, ht2⟩
      go_wp2_with fail
      go_roundw
      case rel => exact ⟨b, b + 20, P ++ srt (byT (lessOf cf)) (List.range' a 20), rfl, by push_cast; rfl, rfl, hlt, by simpa using hr2, Lib.hid (by have := hP.out; have := HB.out; simp only [List.length_append, len_srt_range]; omega), HE2, ht2⟩
      case measure => have := HB.out; simp [intOf]; omega
    · have k1 : ¬ (b : Int) ≤ (N : Int) := by omega
      have C := Lib.hid (INS.out wr P (List.range' a (N - a)) [] (by simpa using hrow) ht (List.pairwise_lt_range' ..) (fun i hi => by rw [List.mem_range'_1] at hi; omega) (by have := hP.out; simp only [List.length_append, List.length_range', List.length_nil]; omega) (a : Int) (N : Int) (by rw [hP.out]) (by rw [hP.out, List.length_range']; omega))
      have HE2 := Lib.hid (show P ++ srt (byT (lessOf cf)) (List.range' a (N - a)) = blk (byT (lessOf cf)) 20 0 N by rw [← hE.out, blk_last (by omega)])
      clear hb hrow ht hE hP
      go_wp2_with fail
      refine C.out.mono ?_
      rintro rr w2 ⟨rfl, hr2, ht2⟩
      have HR2 : Hid (Row E w2 g (blk (byT (lessOf cf)) 20 0 N)) := Lib.hid (by rw [← HE2.out]; simpa using hr2)
      have HT2 := Lib.hid ht2
      clear hr2 ht2 C HE2 HR HT
      go_wp2_with fail
      go_loopw [6, 7, 8, 9] (fun sv _ _ _ wx => ∃ s : Nat, sv = .int .i64 (s : Int) ∧ 1 ≤ s ∧ s ≤ 2000000 ∧ Row E wx g (blk (byT (lessOf cf)) s 0 N) ∧ Only w0 wx) (fun sv _ _ _ _ => N - (intOf sv).toNat)
      case atStart => exact ⟨20, rfl, by omega, by omega, HR2.out, HT2.out⟩
      case round =>
        clear HR2 HT2
        obtain ⟨s, rfl, hs1, hs2, hrow, ht⟩ := hrel
        by_cases hsl : s < N
        · have k2 : (s : Int) < (N : Int) := by omega
          obtain ⟨d, hd⟩ : ∃ d : Nat, d = 2 * s := ⟨_, rfl⟩
          have k3 : 2 * (s : Int) = (d : Int) := by omega
          have k4 : IntKind.i64.wrap ((s : Int) * 2) = (d : Int) := by rw [IntWalk.i64_in _ (by omega)]; omega
          have k5 : (d : Int) ≤ 2000000 := by omega
          have HD := Lib.hid hd
          have HROW := Lib.hid hrow
          have HT3 := Lib.hid ht
          clear hd hrow ht
          go_wp2_with fail
          go_loopw [7, 8] (fun av bv wx => ∃ (a b : Nat) (P : List Nat), av = .int .i64 (a : Int) ∧ bv = .int .i64 (b : Int) ∧ b = a + d ∧ a ≤ N ∧ Row E wx g (P ++ blk (byT (lessOf cf)) s a (N - a)) ∧ Hid (P.length = a) ∧ Hid (P ++ blk (byT (lessOf cf)) d a (N - a) = blk (byT (lessOf cf)) d 0 N) ∧ Only w0 wx) (fun av _ _ => N - (intOf av).toNat)
          case atStart => exact ⟨0, d, [], rfl, rfl, by omega, Nat.zero_le _, by simpa using HROW.out, Lib.hid rfl, Lib.hid (by simp), HT3.out⟩
          case round =>
            clear HROW HT3
            obtain ⟨a, b, P, rfl, rfl, hb, haN, hrow, hP, hE, ht⟩ := hrel
            obtain ⟨m, hm⟩ : ∃ m : Nat, m = a + s := ⟨_, rfl⟩
            have k6 : (a : Int) + (s : Int) = (m : Int) := by omega
            have k7 : (b : Int) ≤ 4000000 := by omega
            have k8 : (m : Int) ≤ 4000000 := by omega
            have zd := HD.out
            by_cases hlt : b ≤ N
            · have k9 : (b : Int) ≤ (N : Int) := by omega
              have e1 : blk (byT (lessOf cf)) s a (N - a) = srt (byT (lessOf cf)) (List.range' a s) ++ (srt (byT (lessOf cf)) (List.range' m s) ++ blk (byT (lessOf cf)) s b (N - b)) := by
                rw [blk_more (by omega) (by omega), ← hm, blk_more (by omega) (by omega), show m + s = b by omega, show N - a - s - s = N - b by omega]
              have C := Lib.hid (MRG.out wr P (srt (byT (lessOf cf)) (List.range' a s)) (srt (byT (lessOf cf)) (List.range' m s)) (blk (byT (lessOf cf)) s b (N - b)) (fun e => by have := congrArg List.length e; rw [len_srt_range, List.length_nil] at this; omega) (fun e => by have := congrArg List.length e; rw [len_srt_range, List.length_nil] at this; omega)
                (by rw [← e1]; exact hrow) ht (srt_sorted sT _ (range_nodup _ _)) (srt_sorted sT _ (range_nodup _ _)) (fun x hx y hy => by rw [mem_srt_range] at hx hy; omega) (fun i hi => by rw [List.mem_append, mem_srt_range, mem_srt_range] at hi; omega)
                (by have := hP.out; simp only [List.length_append, len_srt_range]; rw [blk_length (by omega)]; omega) (a : Int) (m : Int) (b : Int) (by rw [hP.out]) (by rw [hP.out, len_srt_range]; omega) (by rw [hP.out, len_srt_range, len_srt_range]; omega))
              have e2 : srt (byT (lessOf cf)) (srt (byT (lessOf cf)) (List.range' a s) ++ srt (byT (lessOf cf)) (List.range' m s)) = srt (byT (lessOf cf)) (List.range' a d) := by
                rw [hm, srt_two sT, show s + s = d by omega]
              have E2 := Lib.hid e2
              have HB := Lib.hid hb
              have HE2 := Lib.hid (show (P ++ srt (byT (lessOf cf)) (List.range' a d)) ++ blk (byT (lessOf cf)) d b (N - b) = blk (byT (lessOf cf)) d 0 N by
                rw [← hE.out, blk_more (a := a) (m := N - a) (by omega) (by omega), ← hb, show N - a - d = N - b by omega]; simp)
              clear e1 e2 hb hrow ht hE hm zd
              go_wp2_with fail
              refine C.out.mono ?_
              rintro rr w2 ⟨rfl, hr2, ht2⟩
              rw [E2.out] at hr2
              have HR3 := Lib.hid hr2
              have HT4 := Lib.hid ht2
              clear hr2 ht2
              go_wp2_with fail
              go_roundw
              case rel => exact ⟨b, b + d, P ++ srt (byT (lessOf cf)) (List.range' a d), rfl, by push_cast; rfl, rfl, hlt, by have h := HR3.out; simpa using h, Lib.hid (by have := hP.out; have := HB.out; simp only [List.length_append, len_srt_range]; omega), HE2, HT4.out⟩
              case measure => have := HB.out; have := HD.out; simp [intOf]; omega
            · have k9 : ¬ (b : Int) ≤ (N : Int) := by omega
              by_cases hmN : m < N
              · have k10 : (m : Int) < (N : Int) := by omega
                have e1 : blk (byT (lessOf cf)) s a (N - a) = srt (byT (lessOf cf)) (List.range' a s) ++ (srt (byT (lessOf cf)) (List.range' m (N - m)) ++ []) := by
                  rw [blk_more (by omega) (by omega), ← hm, blk_last (by omega), List.append_nil, show N - a - s = N - m by omega]
                have C := Lib.hid (MRG.out wr P (srt (byT (lessOf cf)) (List.range' a s)) (srt (byT (lessOf cf)) (List.range' m (N - m))) [] (fun e => by have := congrArg List.length e; rw [len_srt_range, List.length_nil] at this; omega) (fun e => by have := congrArg List.length e; rw [len_srt_range, List.length_nil] at this; omega)
                  (by rw [← e1]; exact hrow) ht (srt_sorted sT _ (range_nodup _ _)) (srt_sorted sT _ (range_nodup _ _)) (fun x hx y hy => by rw [mem_srt_range] at hx hy; omega) (fun i hi => by rw [List.mem_append, mem_srt_range, mem_srt_range] at hi; omega)
                  (by have := hP.out; simp only [List.length_append, len_srt_range, List.length_nil]; omega) (a : Int) (m : Int) (N : Int) (by rw [hP.out]) (by rw [hP.out, len_srt_range]; omega) (by rw [hP.out, len_srt_range, len_srt_range]; omega))
                have E2 := Lib.hid (show P ++ (srt (byT (lessOf cf)) (srt (byT (lessOf cf)) (List.range' a s) ++ srt (byT (lessOf cf)) (List.range' m (N - m))) ++ []) = blk (byT (lessOf cf)) d 0 N by
                  rw [hm, srt_two sT, List.append_nil, ← hE.out, blk_last (bs := d) (by omega), show s + (N - (a + s)) = N - a by omega])
                clear e1 hb hrow ht hE hm hP zd
                go_wp2_with fail
                refine C.out.mono ?_
                rintro rr w2 ⟨rfl, hr2, ht2⟩
                rw [E2.out] at hr2
                have HR3 := Lib.hid hr2
                have HT4 := Lib.hid ht2
                clear hr2 ht2 k3
                go_wp2_with fail
                go_roundw
                case rel => exact ⟨d, by first | rfl | (congr 1; have := HD.out; omega), by have := HD.out; omega, by omega, HR3.out, HT4.out⟩
                case measure => have := HD.out; simp [intOf]; omega
              · have k10 : ¬ (m : Int) < (N : Int) := by omega
                have HR3 := Lib.hid (show Row E wr g (blk (byT (lessOf cf)) d 0 N) by
                  rw [← hE.out, blk_last (bs := d) (by omega), ← blk_fits (bs := s) (by omega) (by omega)]; exact hrow)
                have HT4 := Lib.hid ht
                clear hb hrow ht hE hm hP k3
                go_wp2_with fail
                go_roundw
                case rel => exact ⟨d, by first | rfl | (congr 1; have := HD.out; omega), by have := HD.out; omega, by omega, HR3.out, HT4.out⟩
                case measure => have := HD.out; simp [intOf]; omega
        · have k2 : ¬ (s : Int) < (N : Int) := by omega
          have HR3 := Lib.hid (show Row E wr g (srt (byT (lessOf cf)) (List.range' 0 N)) by rw [← blk_fits (bs := s) (by omega) (by omega)]; exact hrow)
          have HT4 := Lib.hid ht
          clear hrow ht
          go_wp2_with fail
          go_end0
          exact ⟨rfl, HR3.out, HT4.out⟩

set_option maxHeartbeats 1600000 in
theorem stable_any {E : Nat → Ev} {w0 w : World} {g N : Nat} {cf : Nat → Nat → Int} (hw : Weak (lessOf cf)) (hc : CmpIs E w0 N cf) (hr : Row E w g (List.range' 0 N)) (t : Only w0 w) (hg : w0.heap.size ≤ g) (hl : N ≤ 1000000) {cap : Nat} :
    Calls Tryz.prog 45 #[.slice (some ⟨g, 0, none⟩) N cap, .func (.func 46) #[] #[]] w fun e w' => e = .returned (.tuple #[]) ∧ Row E w' g (srt (byT (lessOf cf)) (List.range' 0 N)) ∧ Only w0 w' := by
  have C := Lib.hid (stableCmp_any (cap := cap) hw hc hr t hg hl)
  have il : (N : Int) ≤ 1000000 := by omega
  clear hr t
  go_enter Tryz.func45, Tryz.ntmps45
  go_wp2_with fail
  refine C.out.mono ?_
  rintro rr w2 ⟨rfl, hr2, ht2⟩
  go_wp2_with fail
  go_end0
  exact ⟨rfl, hr2, ht2⟩
end Go.Proofs.YtnlanemldapfiaaGreat.st
