/-
  Any value's text appended, and Print.
-/
import Derived.Test.YtdhkpkojnokjdaaDoorJAppM
namespace Go.Proofs.YtdhkpkojnokjdaaDoor
open Go.RowKit Go.Shelf
set_option linter.unusedVariables false
set_option linter.unusedSimpArgs false

theorem BytesO.slice {w : World} {base : Nat} {v : Value} {l : List UInt8} (h : BytesO w base v l) : ∃ sp cap, v = .slice sp l.length cap := by
  rcases h.form with ⟨rfl, rfl⟩ | ⟨g, cap, rfl, -⟩
  · exact ⟨none, 0, rfl⟩
  · exact ⟨_, _, rfl⟩

set_option maxRecDepth 100000 in
set_option maxHeartbeats 6400000 in
theorem appendValue_step {ord : List (List UInt8) → List Nat} {k : Int} {t : List UInt8} {l : List GV} {ns : List (List UInt8)} (ht : t.length ≤ 1000000)
    (C5 : k = 5 → ∀ (w0 w : World) (v bv : Value) (b : List UInt8), GIn w0 (.mk k t l ns) v → Only w0 w → BytesO w w0.heap.size bv b → b.length + (arrG ord l).length ≤ 90000000 → Calls Tryd.prog 35 #[bv, v] w (AppF w w0.heap.size bv b (arrG ord l)))
    (C6 : k = 6 → ∀ (w0 w : World) (v bv : Value) (b : List UInt8), GIn w0 (.mk k t l ns) v → Only w0 w → BytesO w w0.heap.size bv b → b.length + (objG ord l ns).length ≤ 90000000 → Calls Tryd.prog 36 #[bv, v] w (AppF w w0.heap.size bv b (objG ord l ns))) :
    ValApp ord (.mk k t l ns) := by
  intro w0 w v bv b hx h0 hb hn
  have hx2 := hx
  unfold GIn at hx2
  obtain ⟨L, N, rfl, -, -⟩ := hx2
  obtain ⟨sp, cap, rfl⟩ := hb.slice
  have ha := (Only.refl w).alloc (.cells #[.int .i64 k, txt t, L, N] 25)
  have hsz := h0.size
  have HB := Lib.hid (hb.only ha)
  have HA := Lib.hid ha
  have H0 := Lib.hid (h0.trans ha)
  have HX := Lib.hid hx
  have HG := Lib.hid ((Grew.refl w (.slice sp b.length cap)).only ha)
  clear hx hb h0 ha
  have HC5 := Lib.hid C5
  have HC6 := Lib.hid C6
  clear C5 C6
  by_cases hlong : 65536 < b.length
  · have il : (65536 : Int) < (b.length : Int) := by omega
    go_enter Tryd.func22, Tryd.ntmps22
    go_wp2_with fail
    go_ret
    exact ⟨_, b, rfl, HB.out, Fit.stop _ hlong, HG.out⟩
  have il : ¬ (65536 : Int) < (b.length : Int) := by omega
  by_cases h1 : k = 1
  · subst h1
    have hxt : textG ord (.mk 1 t l ns) = [102, 97, 108, 115, 101] := by rw [textG]; rfl
    clear hn
    go_enter Tryd.func22, Tryd.ntmps22
    go_wp2_with (at_builtin; refine append_textG rfl (.tmp 13) (.const (.string ⟨#[102, 97, 108, 115, 101]⟩)) rfl (base := w0.heap.size) ⟨#[102, 97, 108, 115, 101]⟩ rfl rfl HB.out (by show _ + 5 ≤ _; omega) (by simp; omega) ?_)
    intro v2 w2 hb2 hg2
    have HB2 := Lib.hid hb2
    have HG2 := Lib.hid (HG.out.trans hg2)
    clear hb2 hg2
    go_wp2_with fail
    go_ret
    exact ⟨_, _, rfl, HB2.out, by rw [hxt]; exact Fit.exact _ _, HG2.out⟩
  by_cases h2 : k = 2
  · subst h2
    have hxt : textG ord (.mk 2 t l ns) = [116, 114, 117, 101] := by rw [textG]; rfl
    clear hn
    go_enter Tryd.func22, Tryd.ntmps22
    go_wp2_with (at_builtin; refine append_textG rfl (.tmp 17) (.const (.string ⟨#[116, 114, 117, 101]⟩)) rfl (base := w0.heap.size) ⟨#[116, 114, 117, 101]⟩ rfl rfl HB.out (by show _ + 4 ≤ _; omega) (by simp; omega) ?_)
    intro v2 w2 hb2 hg2
    have HB2 := Lib.hid hb2
    have HG2 := Lib.hid (HG.out.trans hg2)
    clear hb2 hg2
    go_wp2_with fail
    go_ret
    exact ⟨_, _, rfl, HB2.out, by rw [hxt]; exact Fit.exact _ _, HG2.out⟩
  by_cases h3 : k = 3
  · subst h3
    have hxt : textG ord (.mk 3 t l ns) = t := by rw [textG]; rfl
    clear hn
    go_enter Tryd.func22, Tryd.ntmps22
    go_wp2_with (at_builtin; refine append_textG rfl (.tmp 21) (.tmp 23) rfl (base := w0.heap.size) ⟨t.toArray⟩ rfl rfl HB.out (by rw [← data_len]; show _ + t.length ≤ _; omega) (by simp; omega) ?_)
    intro v2 w2 hb2 hg2
    have HB2 := Lib.hid hb2
    have HG2 := Lib.hid (HG.out.trans hg2)
    clear hb2 hg2
    go_wp2_with fail
    go_ret
    exact ⟨_, _, rfl, HB2.out, by rw [hxt]; exact Fit.exact _ _, HG2.out⟩
  by_cases h4 : k = 4
  · subst h4
    have hxt : textG ord (.mk 4 t l ns) = quoteB t := by rw [textG]; rfl
    have Q := appendQuoted_grew (s := ⟨t.toArray⟩) HB.out (by have := HA.out.size; omega) (by rw [← data_len]; exact ht) (by omega)
    clear hn
    go_enter Tryd.func22, Tryd.ntmps22
    go_wp2_with (go_at_call 29; refine Q.mono ?_; rintro r w2 ⟨v2, rfl, hb2, hg2⟩)
    go_ret
    exact ⟨_, _, rfl, hb2, by rw [hxt]; exact Fit.exact _ _, HG.out.trans hg2⟩
  by_cases h5 : k = 5
  · subst h5
    have hxt : textG ord (.mk 5 t l ns) = arrG ord l := by rw [textG]; rfl
    rw [hxt] at hn ⊢
    have Q := HC5.out rfl _ _ _ _ _ HX.out H0.out HB.out hn
    clear hn
    go_enter Tryd.func22, Tryd.ntmps22
    go_wp2_with (go_at_call 35; refine Q.mono ?_; rintro r w2 ⟨v2, R, rfl, hb2, hf2, hg2⟩)
    go_ret
    exact ⟨_, _, rfl, hb2, hf2, HG.out.trans hg2⟩
  by_cases h6 : k = 6
  · subst h6
    have hxt : textG ord (.mk 6 t l ns) = objG ord l ns := by rw [textG]; rfl
    rw [hxt] at hn ⊢
    have Q := HC6.out rfl _ _ _ _ _ HX.out H0.out HB.out hn
    clear hn
    go_enter Tryd.func22, Tryd.ntmps22
    go_wp2_with (go_at_call 36; refine Q.mono ?_; rintro r w2 ⟨v2, R, rfl, hb2, hf2, hg2⟩)
    go_ret
    exact ⟨_, _, rfl, hb2, hf2, HG.out.trans hg2⟩
  · have hxt : textG ord (.mk k t l ns) = [110, 117, 108, 108] := by rw [textG]; simp [h1, h2, h3, h4, h5, h6]
    clear hn
    go_enter Tryd.func22, Tryd.ntmps22
    go_wp2_with (at_builtin; refine append_textG rfl (.tmp 41) (.const (.string ⟨#[110, 117, 108, 108]⟩)) rfl (base := w0.heap.size) ⟨#[110, 117, 108, 108]⟩ rfl rfl HB.out (by show _ + 4 ≤ _; omega) (by simp; omega) ?_)
    intro v2 w2 hb2 hg2
    have HB2 := Lib.hid hb2
    have HG2 := Lib.hid (HG.out.trans hg2)
    clear hb2 hg2
    go_wp2_with fail
    go_ret
    exact ⟨_, _, rfl, HB2.out, by rw [hxt]; exact Fit.exact _ _, HG2.out⟩

theorem appendString_any (ord : List (List UInt8) → List Nat) (nm : List UInt8) (h : nm.length ≤ 1000000) : ValApp ord (.mk 4 nm [] []) :=
  appendValue_step h (fun e => absurd e (by decide)) (fun e => absurd e (by decide))

mutual
/-- a value that may be printed: names and elements go together -/
def Good : GV → Prop
  | .mk k t l ns => t.length ≤ 1000000 ∧ l.length ≤ 1000000 ∧ (k = 6 → ns.length = l.length ∧ l.length ≤ 1000) ∧ (∀ s ∈ ns, s.length ≤ 1000000) ∧ (k = 5 ∨ k = 6 → GoodL l)
def GoodL : List GV → Prop
  | [] => True
  | x :: r => Good x ∧ GoodL r
end
theorem GoodL.at_ : ∀ {l : List GV}, GoodL l → ∀ i (h : i < l.length), Good l[i]
  | x :: r, h, 0, hi => by unfold GoodL at h; exact h.1
  | x :: r, h, i + 1, hi => by unfold GoodL at h; simpa using GoodL.at_ h.2 i (by simpa using hi)

theorem appendValue_any {ord : List (List UInt8) → List Nat} (hR : RisingIs ord) (hO : OrdIs ord) : ∀ (n : Nat) (x : GV), SizeOf.sizeOf x ≤ n → Good x → ValApp ord x := by
  intro n
  induction n with
  | zero => intro x hx; cases x; simp at hx
  | succ n ihn =>
    rintro ⟨k, t, l, ns⟩ hx hg
    unfold Good at hg
    obtain ⟨g1, g2, g3, g4, g5⟩ := hg
    have ih : k = 5 ∨ k = 6 → ∀ i (h : i < l.length), ValApp ord l[i] := fun hk i h => ihn _ (by
      have := List.sizeOf_lt_of_mem (List.getElem_mem h)
      simp at hx
      omega) ((g5 hk).at_ i h)
    refine appendValue_step g1 (fun e => ?_) (fun e => ?_)
    · intro w0 w v bv b hv h0 hb hn
      unfold GIn at hv
      obtain ⟨L, N, rfl, hL, hN⟩ := hv
      obtain ⟨sp, cap, rfl, hc⟩ := hL
      exact appendElements_step g2 ⟨sp, cap, rfl, hc⟩ h0 hb hn (ih (Or.inl e))
    · intro w0 w v bv b hv h0 hb hn
      unfold GIn at hv
      obtain ⟨L, N, rfl, hL, hN⟩ := hv
      obtain ⟨sp, cap, rfl, hc⟩ := hL
      exact appendMembers_step hR hO (g3 e).2 (g3 e).1 g4 ⟨sp, cap, rfl, hc⟩ hN h0 hb hn (ih (Or.inr e)) (fun nm h => appendString_any ord nm h)

mutual
theorem good_of {tw : List (List UInt8) → Bool} : ∀ (x : GV) (d : Nat), errG tw x d = 0 → Fine x → Good x
  | .mk k t l ns, d, h, hf => by
    unfold errG at h
    unfold Fine at hf
    unfold Good
    obtain ⟨f1, f2, f3, f4, f5⟩ := hf
    split at h
    · next hn => exact absurd h hn
    · next hn =>
      have h0 : ownE tw k t l.length ns d = 0 := by omega
      refine ⟨f1, f2, fun hk => ?_, f4, fun hk => ?_⟩
      · have hd := ownE_deep h0 (Or.inr hk)
        refine ⟨?_, hd.2⟩
        unfold ownE at h0
        split at h0
        · omega
        · split at h0
          · omega
          · next hq =>
            unfold formG at hq
            subst hk
            simp at hq
            exact hq.1
      · rw [if_pos hk] at h
        exact goodL_of l (d + 1) h f5
theorem goodL_of {tw : List (List UInt8) → Bool} : ∀ (l : List GV) (d : Nat), errL tw l d = 0 → FineL l → GoodL l
  | [], d, h, hf => by unfold GoodL; trivial
  | x :: r, d, h, hf => by
    unfold errL at h
    unfold FineL at hf
    unfold GoodL
    split at h
    · next hn => exact absurd h hn
    · next hn => exact ⟨good_of (tw := tw) x d (by omega) hf.1, goodL_of r d h hf.2⟩
end

/-- what Print answers -/
def printE (ord : List (List UInt8) → List Nat) (tw : List (List UInt8) → Bool) (x : GV) : Int := if errG tw x 0 ≠ 0 then errG tw x 0 else if 65536 < (textG ord x).length then 8 else 0

set_option maxRecDepth 100000 in
set_option maxHeartbeats 3200000 in
theorem print_any {ord : List (List UInt8) → List Nat} {tw : List (List UInt8) → Bool} (hR : RisingIs ord) (hO : OrdIs ord) (hW : TwiceIs tw) {x : GV} {v : Value} {w : World} (hx : GIn w x v) (hF : Fine x) (hT : Tb w) (hn : (textG ord x).length ≤ 90000000) :
    Calls Tryd.prog 10 #[v] w fun e w' => (∃ bv, e = .returned (.tuple #[bv, .int .i64 (printE ord tw x)]) ∧ (printE ord tw x = 0 → BytesO w' w.heap.size bv (textG ord x)) ∧ (printE ord tw x ≠ 0 → bv = .slice none 0 0)) ∧ Only w w' := by
  have hx2 := hx
  obtain ⟨k, t, l, ns⟩ := x
  unfold GIn at hx2
  obtain ⟨L, N, rfl, -, -⟩ := hx2
  have ha := (Only.refl w).alloc (.cells #[.int .i64 k, txt t, L, N] 25)
  obtain ⟨x, hxe⟩ : ∃ x, x = GV.mk k t l ns := ⟨_, rfl⟩
  rw [← hxe] at hx hF hn ⊢
  have E := errorOf_any hW 32 x (.agg #[.int .i64 k, txt t, L, N]) 0 _ (by omega) (by omega) (GIn.only ha x hx) hF (hT.only ha)
  have HA := Lib.hid ha
  have O := Lib.hid (Own4.new w (.int .i64 k) (txt t) L N 25)
  obtain ⟨⟨x0, x1, x2, x3⟩, -⟩ := O.out.all
  have HX := Lib.hid hx
  obtain ⟨z, hz⟩ : ∃ z, z = errG tw x 0 := ⟨_, rfl⟩
  have HZ := Lib.hid hz
  obtain ⟨pe, hpe⟩ : ∃ pe, pe = printE ord tw x := ⟨_, rfl⟩
  have hpe2 := hpe
  unfold printE at hpe2
  rw [← hz] at E hpe2
  rw [← hpe]
  have HA2 := Lib.hid (fun (h : z = 0) => appendValue_any hR hO _ x (Nat.le_refl _) (good_of x 0 (by rw [← hz]; exact h) hF))
  obtain ⟨s, hs⟩ : ∃ s, s = textG ord x := ⟨_, rfl⟩
  have HS := Lib.hid hs
  rw [← hs] at hn hpe2 ⊢
  clear hR hO hW hx hF hT hz hpe ha hxe hs
  by_cases hz0 : z = 0
  · subst hz0
    rw [if_neg (by simp)] at hpe2
    have V := HA2.out rfl
    unfold ValApp at V
    rw [← HS.out] at V
    have HV := Lib.hid V
    have HP := Lib.hid hpe2
    clear V hpe2
    by_cases hl : 65536 < s.length
    · go_enter Tryd.func10, Tryd.ntmps10
      go_wp2_with (first | (go_at_call 21; refine E.mono ?_; rintro r w1 ⟨rfl, t1⟩; have o1 := O.out.only t1; obtain ⟨⟨a0, a1, a2, a3⟩, -⟩ := o1.all) | (go_at_call 22; refine (HV.out w w1 _ (.slice none 0 0) [] HX.out (HA.out.trans t1) (BytesO.nil _ _) (by simpa using hn)).mono ?_; rintro r w2 ⟨v2, R, rfl, hb2, hf2, hg2⟩; obtain ⟨sp2, cap2, rfl⟩ := hb2.slice; have hRl : (65536 : Int) < (R.length : Int) := by (have := hf2.2.1 (by simpa using hl)); omega))
      go_ret2
      have e8 : pe = 8 := by rw [HP.out, if_pos hl]
      exact ⟨⟨_, by rw [e8]; rfl, fun h => by omega, fun _ => rfl⟩, Below.trans (HA.out.trans t1) (hg2.below (BytesO.nil w1 w.heap.size) ((HA.out.trans t1).size))⟩
    · go_enter Tryd.func10, Tryd.ntmps10
      go_wp2_with (first | (go_at_call 21; refine E.mono ?_; rintro r w1 ⟨rfl, t1⟩; have o1 := O.out.only t1; obtain ⟨⟨a0, a1, a2, a3⟩, -⟩ := o1.all) | (go_at_call 22; refine (HV.out w w1 _ (.slice none 0 0) [] HX.out (HA.out.trans t1) (BytesO.nil _ _) (by simpa using hn)).mono ?_; rintro r w2 ⟨v2, R, rfl, hb2, hf2, hg2⟩; obtain ⟨sp2, cap2, rfl⟩ := hb2.slice; have hRs : R = s := hf2.1 (by simp; omega); have hRl : ¬ (65536 : Int) < (R.length : Int) := (by rw [hRs]; omega)))
      go_ret2
      have e8 : pe = 0 := by rw [HP.out, if_neg hl]
      exact ⟨⟨_, by rw [e8]; rfl, fun h => by rw [← hRs]; exact hb2, fun h => absurd e8 h⟩, Below.trans (HA.out.trans t1) (hg2.below (BytesO.nil w1 w.heap.size) ((HA.out.trans t1).size))⟩
  · rw [if_pos hz0] at hpe2
    subst hpe2
    go_enter Tryd.func10, Tryd.ntmps10
    go_wp2_with (go_at_call 21; refine E.mono ?_; rintro r w1 ⟨rfl, t1⟩; have o1 := O.out.only t1; obtain ⟨⟨a0, a1, a2, a3⟩, -⟩ := o1.all)
    go_ret2
    exact ⟨⟨_, rfl, fun h => absurd h hz0, fun _ => rfl⟩, HA.out.trans t1⟩
end Go.Proofs.YtdhkpkojnokjdaaDoor
