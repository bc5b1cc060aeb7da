/-
  WideLaws: for all numbers.
-/
import Derived.Test.YtfnfagnkdogojaaNLaws
import Derived.Test.YtfnfagnkdogojaaNOrder2
namespace Go.Proofs.Ytfnfagnkdogojaa
open Go.RowKit Go.Shelf
set_option linter.unusedVariables false

theorem quoRem_zero {h l : Int} (w : World) : Calls Try.prog 13 #[.agg #[.int .u64 h, .int .u64 l], .int .i64 0] w fun e w' => e = .returned (.tuple #[.agg #[.int .u64 0, .int .u64 0], .int .i64 0, .int .i64 17]) ∧ Only w w' := by
  go_enter Try.func13, Try.ntmps13
  go_wp2_with fail
  simp [bodyPost, results, Try.results13, go_sem]
  exact ((Only.refl w).alloc _).alloc _

theorem rest_small {a d : Int} (hd : d ≠ 0) : 0 ≤ far a % far d ∧ far a % far d ≤ far a ∧ far a % far d < far d := by
  have f0 : 0 < far d := by unfold far; split <;> omega
  have f1 : 0 ≤ far a := by unfold far; split <;> omega
  have h1 := Int.emod_nonneg (far a) (show far d ≠ 0 by omega)
  have h2 := Int.emod_lt_of_pos (far a) f0
  have h3 := Int.mul_ediv_add_emod (far a) (far d)
  have h4 := Int.mul_nonneg (Int.le_of_lt f0) (Int.ediv_nonneg f1 (Int.le_of_lt f0))
  exact ⟨h1, by omega, h2⟩

/-- the rest is an int, and what the quotient makes up is a number -/
theorem quo_parts {a d : Int} (ha : In a) (hd : I64 d) (hd0 : d ≠ 0) : I64 (a.tmod d) ∧ In (a.tdiv d * d) ∧ a.tdiv d * d + a.tmod d = a := by
  have e := Int.mul_tdiv_add_tmod a d
  rw [Int.mul_comm] at e
  obtain ⟨r0, r1, r2⟩ := rest_small (a := a) hd0
  have hf := (far_i64 hd hd0).2
  have em := tmod_signed a d
  obtain ⟨a1, a2⟩ := ha
  unfold signed at em
  have fa : far a = if a < 0 then -a else a := rfl
  by_cases c : a < 0
  · rw [if_pos c] at fa
    rw [if_pos (by simpa using c)] at em
    exact ⟨⟨by omega, by omega⟩, ⟨by omega, by omega⟩, e⟩
  · rw [if_neg c] at fa
    rw [if_neg (by simpa using c)] at em
    exact ⟨⟨by omega, by omega⟩, ⟨by omega, by omega⟩, e⟩

theorem near_step (a d : Int) : signed (twoSides a d) (nearest (far a) (far d)) - a.tdiv d = 0 ∨ signed (twoSides a d) (nearest (far a) (far d)) - a.tdiv d = 1 ∨ signed (twoSides a d) (nearest (far a) (far d)) - a.tdiv d = -1 := by
  rw [tdiv_signed]
  unfold signed nearest
  split <;> split <;> omega

theorem wideLaws_any {a b c n d : Int} (ha : In a) (hb : In b) (hc : In c) (hn : I64 n) (hd : I64 d) (w : World) :
    Calls Try.prog 3 #[enc a, enc b, enc c, .int .i64 n, .int .i64 d] w fun e w' => e = .returned (.bool true) ∧ Only w w' := by
  obtain ⟨xv, hxv⟩ : ∃ xv, xv = if In (a + b) then a + b else 0 := ⟨_, rfl⟩
  have hx : In xv := by rw [hxv]; split; assumption; exact ⟨by decide, by decide⟩
  obtain ⟨xh, xl, e, ex, wx⟩ := ans_words (a + b)
  have exv : enc xv = .agg #[.int .u64 xh, .int .u64 xl] := by
    rcases wx with ⟨-, k1, k2⟩ | ⟨-, k1, rfl, rfl⟩
    · rw [hxv, if_pos k1]; exact k2
    · rw [hxv, if_neg k1]; rfl
  have exn : e = 0 → xv = a + b := fun h0 => by
    rcases wx with ⟨-, k1, k2⟩ | ⟨k0, -⟩
    · rw [hxv, if_pos k1]
    · omega
  obtain ⟨lh, ll, g, el, wl⟩ := ans_words (xv + c)
  obtain ⟨rh, rl, h, er, wr⟩ := ans_words (b + c)
  obtain ⟨ph, pl, i, ep, wp⟩ := ans_words (a * n)
  obtain ⟨qh, ql, j, eq, wq⟩ := ans_words (b * n)
  obtain ⟨sh, sl, k, es, ws⟩ := ans_words (xv * n)
  have A1 := add_any ha hb
  have A2 := add_any hb ha
  rw [Int.add_comm b a] at A2
  have A3 := add_any hx hc
  have A4 := add_any hb hc
  have M1 := mulInt_any ha hn
  have M2 := mulInt_any hb hn
  have M3 := mulInt_any hx hn
  obtain ⟨ah, al, -, -, -, -, -, ea⟩ := enc_words a
  obtain ⟨bh, bl, -, -, -, -, -, eb⟩ := enc_words b
  obtain ⟨ch, cl, -, -, -, -, -, ec⟩ := enc_words c
  rw [ea, eb, ex] at A1; rw [ea, eb, ex] at A2; rw [exv, ec, el] at A3; rw [eb, ec, er] at A4
  rw [ea, ep] at M1; rw [eb, eq] at M2; rw [exv, es] at M3
  have A5 : ((e == 0) = true ∧ (h == 0) = true → AddsIs (.agg #[.int .u64 ah, .int .u64 al]) (.agg #[.int .u64 rh, .int .u64 rl]) (.agg #[.int .u64 lh, .int .u64 ll]) g) := by
    rintro ⟨h1, h2⟩
    have e0 : e = 0 := by simpa using h1
    have h0 : h = 0 := by simpa using h2
    obtain ⟨-, i1, e1⟩ := wr.resolve_right (by omega)
    have k := add_any ha i1
    rw [ea, e1, ← Int.add_assoc, ← exn e0, el] at k
    exact k
  have A6 : (((e == 0) = true ∧ (i == 0) = true) ∧ ((j == 0) = true ∧ (k == 0) = true) → AddsIs (.agg #[.int .u64 ph, .int .u64 pl]) (.agg #[.int .u64 qh, .int .u64 ql]) (.agg #[.int .u64 sh, .int .u64 sl]) 0) := by
    rintro ⟨⟨h1, h2⟩, h3, h4⟩
    have e0 : e = 0 := by simpa using h1
    have i0 : i = 0 := by simpa using h2
    have j0 : j = 0 := by simpa using h3
    have k0 : k = 0 := by simpa using h4
    obtain ⟨-, i1, e1⟩ := wp.resolve_right (by omega)
    obtain ⟨-, i2, e2⟩ := wq.resolve_right (by omega)
    have k := add_any i1 i2
    rw [e1, e2, ← Int.add_mul, ← exn e0, es, k0] at k
    exact k
  obtain ⟨mh, ml, -, -, -, -, tm, emm⟩ := enc_words (-1)
  have hmh : mh ≠ 0 := by obtain ⟨k1, k2⟩ := tm; omega
  have F1 := fromInt_is (n := 1) ⟨by decide, by decide⟩
  rw [show enc 1 = .agg #[.int .u64 0, .int .u64 1] from rfl] at F1
  have FM := fromInt_is (n := -1) ⟨by decide, by decide⟩
  rw [emm] at FM
  rw [ea, eb, ec]
  by_cases hd0 : d = 0
  · subst hd0
    exact wideLaws_walk (v := 17) (rest := 0) (uh := 0) (ul := 0) (wh := 0) (wl := 0) (fh := 0) (fl := 0) (nh := 0) (nl := 0) (th := 0) (tl := 0) (mh := 0) (ml := 0) (aa := 1) (tt := 0) A1 A2 A3 A4 rfl rfl A5 M1 M2 M3 rfl rfl rfl A6 (fun w => quoRem_zero w) rfl (fun h => absurd h (by decide)) rfl (fun h => absurd h (by decide)) w
  · have QR := quoRem_any ha hd hd0
    rw [ea] at QR
    by_cases hq : In (a.tdiv d)
    · have eqq : quoAns a d = .tuple #[enc (a.tdiv d), .int .i64 (a.tmod d), .int .i64 0] := if_pos hq
      rw [eqq] at QR
      obtain ⟨p1, p2, p3⟩ := quo_parts ha hd hd0
      have MU := mulInt_any hq hd
      rw [ans_in p2] at MU
      have FR := fromInt_is p1
      have AW := add_any p2 p1.in_
      rw [p3, ans_in ha, ea] at AW
      have DE := divEven_any ha hd hd0
      obtain ⟨near, hnear⟩ : ∃ near, near = signed (twoSides a d) (nearest (far a) (far d)) := ⟨_, rfl⟩
      have hstep := near_step a d
      rw [← hnear] at DE hstep
      obtain ⟨nh, nl, aa, en, wn⟩ := ans_words near
      rw [ea, en] at DE
      obtain ⟨uh, ul, -, -, -, -, -, eu⟩ := enc_words (a.tdiv d)
      obtain ⟨wh, wl, -, -, -, -, -, ew⟩ := enc_words (a.tdiv d * d)
      obtain ⟨fh, fl, -, -, -, -, -, ef⟩ := enc_words (a.tmod d)
      rw [eu] at QR MU; rw [ew] at MU AW; rw [ef] at AW FR
      by_cases haa : aa = 0
      · obtain ⟨-, i1, e1⟩ := wn.resolve_right (by omega)
        have SB := sub_any i1 hq
        rw [e1, eu] at SB
        have hT : ∃ th tl : Int, ans (near - a.tdiv d) = .tuple #[.agg #[.int .u64 th, .int .u64 tl], .int .i64 0] ∧ ((th = 0 ∧ tl = 0) ∨ (th = 0 ∧ tl = 1) ∨ (th = mh ∧ tl = ml)) := by
          rcases hstep with k | k | k
          · exact ⟨0, 0, by rw [k, ans_in ⟨by decide, by decide⟩]; rfl, Or.inl ⟨rfl, rfl⟩⟩
          · exact ⟨0, 1, by rw [k, ans_in ⟨by decide, by decide⟩]; rfl, Or.inr (Or.inl ⟨rfl, rfl⟩)⟩
          · exact ⟨mh, ml, by rw [k, ans_in ⟨by decide, by decide⟩, emm], Or.inr (Or.inr ⟨rfl, rfl⟩)⟩
        obtain ⟨th, tl, et, hT⟩ := hT
        rw [et] at SB
        exact wideLaws_walk (v := 0) (aa := aa) (tt := 0) A1 A2 A3 A4 rfl rfl A5 M1 M2 M3 rfl rfl rfl A6 QR rfl (fun _ => ⟨MU, AW, FR, DE⟩) rfl (fun _ => ⟨SB, hT, F1, FM, hmh⟩) w
      · exact wideLaws_walk (v := 0) (aa := aa) (tt := 0) (th := 0) (tl := 0) (mh := 0) (ml := 0) A1 A2 A3 A4 rfl rfl A5 M1 M2 M3 rfl rfl rfl A6 QR rfl (fun _ => ⟨MU, AW, FR, DE⟩) rfl (fun h => absurd (by simpa using h) haa) w
    · have eqq : quoAns a d = .tuple #[enc 0, .int .i64 0, .int .i64 16] := if_neg hq
      rw [eqq] at QR
      exact wideLaws_walk (v := 16) (rest := 0) (uh := 0) (ul := 0) (wh := 0) (wl := 0) (fh := 0) (fl := 0) (nh := 0) (nl := 0) (th := 0) (tl := 0) (mh := 0) (ml := 0) (aa := 1) (tt := 0) A1 A2 A3 A4 rfl rfl A5 M1 M2 M3 rfl rfl rfl A6 QR rfl (fun h => absurd h (by decide)) rfl (fun h => absurd h (by decide)) w
end Go.Proofs.Ytfnfagnkdogojaa
