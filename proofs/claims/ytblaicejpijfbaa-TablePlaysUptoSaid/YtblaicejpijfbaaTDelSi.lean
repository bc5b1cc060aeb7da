/-
  first, last, joined, without. (si)
-/
import Derived.Test.YtblaicejpijfbaaTPutSi
namespace Go.Proofs.Ytblaicejpijfbaa.si
open Go.RowKit Go.Maps Go.WideMaps Go.Proofs.Ytblaicejpijfbaa.Tb

section
variable {w : World} {b s : Nat} {k : Key} {x : Val} {lv rv pl pr : Option Addr} {l r : Tr Key Val}

/-- a call that finds a node -/
def Found (w : World) (kx : Key × Val) (r : Ending) (w' : World) : Prop := ∃ b s lv rv, r = .returned (.pointer (some ⟨b, 0, none⟩)) ∧ NCells w b kx.1 kx.2 s lv rv ∧ w = w'

set_option maxRecDepth 100000 in
set_option maxHeartbeats 1000000 in
theorem first_any {p : Option Addr} {t : Tr Key Val} (h : TrAt w (.pointer p) t) (hn : t.isNil = false) (d : Key × Val) : Calls Try.prog 76 #[.pointer p] w (Found w (firstP d t)) := by
  have H := Lib.hid h
  have HN := Lib.hid hn
  clear h hn
  go_enter Try.func76, Try.ntmps76
  go_wp2_with fail
  go_loop [0] (fun u => ∃ (t' : Tr Key Val) (d' : Key × Val), TrAt w u t' ∧ t'.isNil = false ∧ firstP d' t' = firstP d t) (fun u => left w u)
  case atStart => exact ⟨t, d, H.out, HN.out, rfl⟩
  case round =>
    obtain ⟨t', d', ht, htn, hf⟩ := hrel
    cases t' with
    | nil => cases htn
    | node nk nx s l r =>
      have hlen := left_eq ht
      obtain ⟨b, lv, rv, rfl, hb, hl, hr⟩ := ht
      have hc := ncells hb
      have c3 := hc.c3
      have hll := left_eq hl
      rw [Tr.list, List.length_append, List.length_cons] at hlen
      rw [firstP] at hf
      have HLEN := Lib.hid hlen
      have HLL := Lib.hid hll
      have HC := Lib.hid hc
      clear hb hc hr hlen hll htn
      cases l with
      | nil =>
        have e : lv = none := by have e0 : Value.pointer lv = .pointer none := hl
                                 cases e0; rfl
        subst e
        rw [firstP] at hf
        have HF := Lib.hid hf
        clear hf hl
        go_wp2
        go_ret
        exact ⟨b, s, none, rv, rfl, by rw [← HF.out]; exact HC.out, rfl⟩
      | node k2 x2 s2 l2 r2 =>
        have HF := Lib.hid hf
        have HL := Lib.hid hl
        obtain ⟨b2, lv2, rv2, e, _⟩ := hl
        cases e
        clear hf
        go_wp2
        go_round
        case rel => exact ⟨_, _, HL.out, rfl, HF.out⟩
        case measure => have := HLEN.out; have := HLL.out; omega

set_option maxRecDepth 100000 in
set_option maxHeartbeats 1000000 in
theorem last_any {p : Option Addr} {t : Tr Key Val} (h : TrAt w (.pointer p) t) (hn : t.isNil = false) (d : Key × Val) : Calls Try.prog 75 #[.pointer p] w (Found w (lastP d t)) := by
  have H := Lib.hid h
  have HN := Lib.hid hn
  clear h hn
  go_enter Try.func75, Try.ntmps75
  go_wp2_with fail
  go_loop [0] (fun u => ∃ (t' : Tr Key Val) (d' : Key × Val), TrAt w u t' ∧ t'.isNil = false ∧ lastP d' t' = lastP d t) (fun u => left w u)
  case atStart => exact ⟨t, d, H.out, HN.out, rfl⟩
  case round =>
    obtain ⟨t', d', ht, htn, hf⟩ := hrel
    cases t' with
    | nil => cases htn
    | node nk nx s l r =>
      have hlen := left_eq ht
      obtain ⟨b, lv, rv, rfl, hb, hl, hr⟩ := ht
      have hc := ncells hb
      have c4 := hc.c4
      have hlr := left_eq hr
      rw [Tr.list, List.length_append, List.length_cons] at hlen
      rw [lastP] at hf
      have HLEN := Lib.hid hlen
      have HLR := Lib.hid hlr
      have HC := Lib.hid hc
      clear hb hc hl hlen hlr htn
      cases r with
      | nil =>
        have e : rv = none := by have e0 : Value.pointer rv = .pointer none := hr
                                 cases e0; rfl
        subst e
        rw [lastP] at hf
        have HF := Lib.hid hf
        clear hf hr
        go_wp2
        go_ret
        exact ⟨b, s, lv, none, rfl, by rw [← HF.out]; exact HC.out, rfl⟩
      | node k2 x2 s2 l2 r2 =>
        have HF := Lib.hid hf
        have HR := Lib.hid hr
        obtain ⟨b2, lv2, rv2, e, _⟩ := hr
        cases e
        clear hf
        go_wp2
        go_round
        case rel => exact ⟨_, _, HR.out, rfl, HF.out⟩
        case measure => have := HLEN.out; have := HLR.out; omega

/-- what joined makes -/
def joinedT (d : Key × Val) (l r : Tr Key Val) : Tr Key Val :=
  if l.isNil = true then r else if r.isNil = true then l
  else if r.count < l.count then over (lastP d l).1 (lastP d l).2 (without l (lastP d l).1) r
  else over (firstP d r).1 (firstP d r).2 l (without r (firstP d r).1)

set_option maxRecDepth 100000 in
set_option maxHeartbeats 1000000 in
theorem joined_any (d : Key × Val) (hl : TrAt w (.pointer pl) l) (hr : TrAt w (.pointer pr) r) (zl : l.Sized) (zr : r.Sized) (hs : l.count + r.count + 1 < 1000000000000)
    (ihl : ∀ (W : World) (k : Key), Turn (fun _ => False) w W → Calls Try.prog 29 #[.pointer pl, keyV k] W (Made W (without l k)))
    (ihr : ∀ (W : World) (k : Key), Turn (fun _ => False) w W → Calls Try.prog 29 #[.pointer pr, keyV k] W (Made W (without r k))) :
    Calls Try.prog 59 #[.pointer pl, .pointer pr] w (Made w (joinedT d l r)) := by
  unfold joinedT
  cases l with
  | nil =>
    cases hl
    rw [if_pos (show (Tr.nil : Tr Key Val).isNil = true from rfl)]
    have HR := Lib.hid hr
    clear hr ihl ihr
    go_enter Try.func59, Try.ntmps59
    go_wp2
    go_ret
    exact ⟨pr, rfl, HR.out, Turn.refl _ _⟩
  | node lk lx ls ll lr =>
    rw [if_neg (by simp [Tr.isNil])]
    have HL := Lib.hid hl
    obtain ⟨lb, llv, lrv, e, hlb, _, _⟩ := hl
    cases e
    have lc := (ncells hlb).c2
    cases r with
    | nil =>
      cases hr
      rw [if_pos (show (Tr.nil : Tr Key Val).isNil = true from rfl)]
      clear ihl ihr
      go_enter Try.func59, Try.ntmps59
      go_wp2
      go_ret
      exact ⟨_, rfl, HL.out, Turn.refl _ _⟩
    | node rk rx rs rl rr =>
      rw [if_neg (by simp [Tr.isNil])]
      have HR := Lib.hid hr
      obtain ⟨rb, rlv, rrv, e, hrb, _, _⟩ := hr
      cases e
      have rc := (ncells hrb).c2
      have el : (Tr.node lk lx ls ll lr).count = ls := rfl
      have er : (Tr.node rk rx rs rl rr).count = rs := rfl
      have hs' := hs
      rw [el, er] at hs'
      have cl := count_without zl (lastP d (.node lk lx ls ll lr)).1
      have cr := count_without zr (firstP d (.node rk rx rs rl rr)).1
      by_cases hc : (Tr.node rk rx rs rl rr).count < (Tr.node lk lx ls ll lr).count
      · rw [if_pos hc]
        rw [el, er] at hc
        have k1 : decide (rs < ls) = true := by rw [decide_eq_true_iff]; omega
        have HF := Lib.hid (fun (W : World) (hW : Turn (fun _ => False) w W) => last_any (HL.out.later hW) rfl d)
        have HI := Lib.hid (fun (W : World) (hW : Turn (fun _ => False) w W) => ihl W (lastP d (.node lk lx ls ll lr)).1 hW)
        have HO := Lib.hid (fun (W : World) (b s : Nat) (lv rv p : Option Addr) (hW : Turn (fun _ => False) w W) (hn : NCells W b (lastP d (.node lk lx ls ll lr)).1 (lastP d (.node lk lx ls ll lr)).2 s lv rv) (hp : TrAt W (.pointer p) (without (.node lk lx ls ll lr) (lastP d (.node lk lx ls ll lr)).1)) =>
          over_any hn hp (HR.out.later hW) (sized_without zl _) zr (by rw [el] at cl; rw [er]; omega))
        generalize lastP d (.node lk lx ls ll lr) = kx at *
        obtain ⟨kk, kv⟩ := kx
        clear hlb hrb hs hs' hc cl cr zl zr ihl ihr el er HL HR
        go_enter Try.func59, Try.ntmps59
        go_wp2_with fail
        go_quiet (fail)
        go_wp2_with fail
        go_at_call 75
        refine (HF.out _ ((like_drewN w nq).turn _)).mono ?_
        rintro e w' ⟨b, s, lv, rv, rfl, hn, rfl⟩
        have c0 := hn.c0
        have t0 : Turn (fun _ => False) w (w.drewN nq) := (like_drewN w nq).turn _
        have HN := Lib.hid hn
        have HT := Lib.hid t0
        clear hn t0
        go_wp2_with (first | (go_at_call 29; refine (HI.out _ HT.out).mono ?_; rintro e w1 ⟨p1, rfl, hp1, t1⟩; have T1 := HT.out.trans t1 (fun _ _ q => q); have N1 := HN.out.turned t1) | (go_at_call 57; refine (HO.out _ _ _ _ _ p1 T1 N1 hp1).mono ?_; rintro e w2 ⟨p2, rfl, hp2, t2⟩; have T2 := T1.trans t2 (fun _ _ q => q)))
        go_ret
        exact ⟨p2, rfl, hp2, T2⟩
      · rw [if_neg hc]
        rw [el, er] at hc
        have k1 : decide (rs < ls) = false := by rw [decide_eq_false_iff_not]; omega
        have HF := Lib.hid (fun (W : World) (hW : Turn (fun _ => False) w W) => first_any (HR.out.later hW) rfl d)
        have HI := Lib.hid (fun (W : World) (hW : Turn (fun _ => False) w W) => ihr W (firstP d (.node rk rx rs rl rr)).1 hW)
        have HO := Lib.hid (fun (W : World) (b s : Nat) (lv rv p : Option Addr) (hW : Turn (fun _ => False) w W) (hn : NCells W b (firstP d (.node rk rx rs rl rr)).1 (firstP d (.node rk rx rs rl rr)).2 s lv rv) (hp : TrAt W (.pointer p) (without (.node rk rx rs rl rr) (firstP d (.node rk rx rs rl rr)).1)) =>
          over_any hn (HL.out.later hW) hp zl (sized_without zr _) (by rw [er] at cr; rw [el]; omega))
        generalize firstP d (.node rk rx rs rl rr) = kx at *
        obtain ⟨kk, kv⟩ := kx
        clear hlb hrb hs hs' hc cl cr zl zr ihl ihr el er HL HR
        go_enter Try.func59, Try.ntmps59
        go_wp2_with fail
        go_quiet (fail)
        go_wp2_with fail
        go_at_call 76
        refine (HF.out _ ((like_drewN w nq).turn _)).mono ?_
        rintro e w' ⟨b, s, lv, rv, rfl, hn, rfl⟩
        have c0 := hn.c0
        have t0 : Turn (fun _ => False) w (w.drewN nq) := (like_drewN w nq).turn _
        have HN := Lib.hid hn
        have HT := Lib.hid t0
        clear hn t0
        go_wp2_with (first | (go_at_call 29; refine (HI.out _ HT.out).mono ?_; rintro e w1 ⟨p1, rfl, hp1, t1⟩; have T1 := HT.out.trans t1 (fun _ _ q => q); have N1 := HN.out.turned t1) | (go_at_call 57; refine (HO.out _ _ _ _ _ p1 T1 N1 hp1).mono ?_; rintro e w2 ⟨p2, rfl, hp2, t2⟩; have T2 := T1.trans t2 (fun _ _ q => q)))
        go_ret
        exact ⟨p2, rfl, hp2, T2⟩

theorem without_eq {nk : Key} {nx : Val} {s : Nat} {l r : Tr Key Val} {k : Key} (h1 : ¬ k < nk) (h2 : ¬ nk < k) : without (.node nk nx s l r) k = joinedT (nk, nx) l r := by
  rw [without, if_neg h1, if_neg h2]; rfl

set_option maxRecDepth 100000 in
set_option maxHeartbeats 1000000 in
theorem without_any (t : Tr Key Val) : ∀ (k : Key) {w : World} {p : Option Addr}, TrAt w (.pointer p) t → t.Sized → t.count + 2 < 1000000000000 →
    Calls Try.prog 29 #[.pointer p, keyV k] w (Made w (without t k)) := by
  induction t with
  | nil =>
    intro k w p h _ _
    cases h
    rw [without]
    go_enter Try.func29, Try.ntmps29
    go_wp2
    go_ret
    exact ⟨none, rfl, rfl, Turn.refl _ _⟩
  | node nk nx s l r ihl ihr =>
    intro k w p h hz hs
    have e0 : (Tr.node nk nx s l r).count = s := rfl
    rw [e0] at hs
    obtain ⟨e1, z1, z2⟩ := hz
    obtain ⟨b, lv, rv, hp, hb, hl, hr⟩ := h
    cases hp
    have hc := ncells hb
    have c0 := hc.c0
    have c3 := hc.c3
    have c4 := hc.c4
    by_cases h1 : k < nk
    · rw [without, if_pos h1]
      have HC := Lib.hid (compare_lt h1)
      have HI := Lib.hid (fun (W : World) (hW : Turn (fun _ => False) w W) => ihl k (hl.later hW) z1 (by omega))
      have hcp := count_without z1 k
      have HO := Lib.hid (fun (W : World) (p : Option Addr) (hW : Turn (fun _ => False) w W) (hp : TrAt W (.pointer p) (without l k)) => over_any (hc.turned hW) hp (hr.later hW) (sized_without z1 k) z2 (by omega))
      clear h1 hc hb hl hr e1 z1 z2 ihl ihr hs e0 hcp
      go_enter Try.func29, Try.ntmps29
      go_wp2_with (go_at_call 56; refine (HC.out _).mono ?_; rintro e w' ⟨rfl, rfl⟩)
      go_region_held3 (fun w' => w'.cell? ⟨b, 3, none⟩ = some (.pointer lv) ∧ w'.cell? ⟨b, 4, none⟩ = some (.pointer rv)) (first | (exact ⟨turn_cell t2 c3, turn_cell t2 c4⟩) | (exact ⟨turn_cell t1 c3, turn_cell t1 c4⟩) | go_keep) (first | (go_at_call 29; refine (HI.out _ ((like_drew _).turn _)).mono ?_; rintro e w1 ⟨p1, rfl, hp1, t1'⟩; have t1 : Turn (fun _ => False) w w1 := ((like_drew _).turn _).trans t1' (fun _ _ q => q); clear HI) | (go_at_call 57; refine (HO.out _ p1 t1 hp1).mono ?_; rintro e w2 ⟨p2, rfl, hp2, t2'⟩; have t2 := t1.trans t2' (fun _ _ q => q)))
      go_wp2
      go_ret
      exact ⟨p2, rfl, hp2, t2⟩
    · by_cases h2 : nk < k
      · rw [without, if_neg h1, if_pos h2]
        have HC := Lib.hid (compare_gt h1 h2)
        have HI := Lib.hid (fun (W : World) (hW : Turn (fun _ => False) w W) => ihr k (hr.later hW) z2 (by omega))
        have hcp := count_without z2 k
        have HO := Lib.hid (fun (W : World) (p : Option Addr) (hW : Turn (fun _ => False) w W) (hp : TrAt W (.pointer p) (without r k)) => over_any (hc.turned hW) (hl.later hW) hp z1 (sized_without z2 k) (by omega))
        clear h1 h2 hc hb hl hr e1 z1 z2 ihl ihr hs e0 hcp
        go_enter Try.func29, Try.ntmps29
        go_wp2_with (go_at_call 56; refine (HC.out _).mono ?_; rintro e w' ⟨rfl, rfl⟩)
        go_region_held3 (fun w' => w'.cell? ⟨b, 3, none⟩ = some (.pointer lv) ∧ w'.cell? ⟨b, 4, none⟩ = some (.pointer rv)) (first | (exact ⟨turn_cell t2 c3, turn_cell t2 c4⟩) | (exact ⟨turn_cell t1 c3, turn_cell t1 c4⟩) | go_keep) (first | (go_at_call 29; refine (HI.out _ ((like_drew _).turn _)).mono ?_; rintro e w1 ⟨p1, rfl, hp1, t1'⟩; have t1 : Turn (fun _ => False) w w1 := ((like_drew _).turn _).trans t1' (fun _ _ q => q); clear HI) | (go_at_call 57; refine (HO.out _ p1 t1 hp1).mono ?_; rintro e w2 ⟨p2, rfl, hp2, t2'⟩; have t2 := t1.trans t2' (fun _ _ q => q)))
        go_wp2
        go_ret
        exact ⟨p2, rfl, hp2, t2⟩
      · rw [without_eq h1 h2]
        have HC := Lib.hid (compare_eq h1 h2)
        have HJ := Lib.hid (show Calls Try.prog 59 #[.pointer lv, .pointer rv] w.drew (Made w.drew (joinedT (nk, nx) l r)) from
          joined_any (nk, nx) hl.drew hr.drew z1 z2 (by omega) (fun W k hW => ihl k (hl.drew.later hW) z1 (by omega)) (fun W k hW => ihr k (hr.drew.later hW) z2 (by omega)))
        clear h1 h2 hc hb hl hr e1 z1 z2 ihl ihr hs e0
        go_enter Try.func29, Try.ntmps29
        go_wp2_with (go_at_call 56; refine (HC.out _).mono ?_; rintro e w' ⟨rfl, rfl⟩)
        go_region_held3 (fun w' => w'.cell? ⟨b, 3, none⟩ = some (.pointer lv) ∧ w'.cell? ⟨b, 4, none⟩ = some (.pointer rv)) (first | (exact ⟨turn_cell t1 c3, turn_cell t1 c4⟩) | go_keep) (first | (go_at_call 59; refine HJ.out.mono ?_; rintro e w1 ⟨p1, rfl, hp1, t1'⟩; have t1 : Turn (fun _ => False) w w1 := ((like_drew _).turn _).trans t1' (fun _ _ q => q)))
        go_wp2
        go_ret
        exact ⟨p1, rfl, hp1, t1⟩

end
end Go.Proofs.Ytblaicejpijfbaa.si
