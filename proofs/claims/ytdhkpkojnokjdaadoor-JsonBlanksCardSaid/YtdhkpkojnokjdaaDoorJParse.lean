/-
  Parse.
-/
import Derived.Test.YtdhkpkojnokjdaaDoorJCatch
namespace Go.Proofs.YtdhkpkojnokjdaaDoor
open Go.RowKit Go.Shelf
set_option linter.unusedVariables false
set_option linter.unusedSimpArgs false

/-- what Parse reads of bytes that are not too long -/
def parseE (s : List UInt8) : Rs JV := (valueE s (2 * s.length + 10) 0 0 0).bind fun x q => if skipE blankL s q < s.length then .bad (skipE blankL s q) 11 else .ok x q

def ParseRes (w : World) (r : Rs JV) (e : Ending) (w' : World) : Prop := Only w w' ∧ match r with
  | .ok x _ => ∃ v, e = .returned (.tuple #[v, .int .i64 0, .int .i64 0]) ∧ VRep w' x (fun i => w.heap.size ≤ i) v
  | .bad a b => ∃ a' : Int, (b = 11 ∨ a' = (a : Int)) ∧ e = .returned (.tuple #[vOf 0 [] nilS nilS, .int .i64 a', .int .i64 (b : Int)])

/-- bytes that stand in memory -/
def BytesIn (w : World) (v : Value) (l : List UInt8) : Prop := (∃ sp cap, v = .slice sp l.length cap) ∧ ∀ W, Only w W → (convert 26 9 v).run Tryd.prog W = .ok (.string ⟨l.toArray⟩) W

theorem Res3.turn {w w' : World} {b : Nat} {x y z u p e : Value} (h : Res3 w b x y z u p e) {Q : Nat → Prop} (t : Turn Q w w') (h0 : ¬ Q b) (h1 : ¬ Q (b + 1)) (h2 : ¬ Q (b + 2)) : Res3 w' b x y z u p e := ⟨h.1.turn t h0, h.2.1.turn t h1, h.2.2.turn t h2⟩

set_option maxRecDepth 100000 in
set_option maxHeartbeats 6400000 in
theorem parse_any {v : Value} {l : List UInt8} {w : World} (hb : BytesIn w v l) (hlen : l.length ≤ 65536) (hT : Tb w) (hst : ∀ a, valueE l (2 * l.length + 10) 0 0 0 ≠ .bad a 99) :
    Calls Tryd.prog 12 #[v] w (ParseRes w (parseE l)) := by
  have hmf : ∀ (fn : Fn) (first cap : Array Value) (w : World), (Instr.makeFunc fn first cap).run Tryd.prog w = .ok (.func fn first cap) w := fun _ _ _ _ => rfl
  obtain ⟨⟨sp, cap, rfl⟩, hcv⟩ := hb
  have o1 : Res3 (((w.alloc (.cells #[.int .i64 0, .string ⟨#[]⟩, nilS, nilS] 25)).alloc (.cells #[.int .i64 0] 3)).alloc (.cells #[.int .i64 0] 29)) w.heap.size (.int .i64 0) (.string ⟨#[]⟩) nilS nilS (.int .i64 0) (.int .i64 0) := by
    refine ⟨?_, ?_, ?_⟩
    · exact (Own4.new w (.int .i64 0) (.string ⟨#[]⟩) nilS nilS 25).only (((Only.refl _).alloc _).alloc _)
    · have := Own1.new (w.alloc (.cells #[.int .i64 0, .string ⟨#[]⟩, nilS, nilS] 25)) (.int .i64 0) 3
      rw [show (w.alloc (.cells #[.int .i64 0, .string ⟨#[]⟩, nilS, nilS] 25)).heap.size = w.heap.size + 1 by simp] at this
      exact this.turn (Only.alloc (Only.refl _) _).turn (fun q => q)
    · have := Own1.new ((w.alloc (.cells #[.int .i64 0, .string ⟨#[]⟩, nilS, nilS] 25)).alloc (.cells #[.int .i64 0] 3)) (.int .i64 0) 29
      simpa using this
  have ht0 : Only w (((w.alloc (.cells #[.int .i64 0, .string ⟨#[]⟩, nilS, nilS] 25)).alloc (.cells #[.int .i64 0] 3)).alloc (.cells #[.int .i64 0] 29)) := (((Only.refl w).alloc _).alloc _).alloc _
  have hlen2 : ¬ (65536 : Int) < (l.length : Int) := by omega
  go_enter_defers Tryd.func12, Tryd.ntmps12
  go_upto_region 1 with (fail)
  refine wp_name (fun W => Only w W ∧ Res3 W w.heap.size (.int .i64 0) (.string ⟨#[]⟩) nilS nilS (.int .i64 0) (.int .i64 0) ∧ W.heap.size = w.heap.size + 3) ⟨ht0, o1, by simp⟩ ?_
  clear ht0 o1
  rintro W ⟨ht0, o1, hsz⟩
  have cv1 := hcv W ht0
  have r1 : RdAt (W.alloc (.cells #[txt l, .int .i64 0] 58)) W.heap.size ⟨l.toArray⟩ 0 := Own2.new W (txt l) (.int .i64 0) 58
  have hDs : (⟨l.toArray⟩ : ByteArray).size = l.length := by rw [← data_len]
  have T0 := hT.size
  have VA := value_any (D := ⟨l.toArray⟩) (R := W.heap.size) (by omega) (by omega) (by omega) (2 * l.length + 10) 0 0 0 _ r1 (Nat.zero_le _) ((hT.only ht0).only ((Only.refl W).alloc _)) (by omega) (by omega) hst
  have hE : parseE l = (valueE l (2 * l.length + 10) 0 0 0).bind fun x q => if skipE blankL l q < l.length then .bad (skipE blankL l q) 11 else .ok x q := rfl
  have hDl : (⟨l.toArray⟩ : ByteArray).data.toList = l := rfl
  rw [hDl] at VA
  obtain ⟨u, hue⟩ : ∃ u, u = valueE l (2 * l.length + 10) 0 0 0 := ⟨_, rfl⟩
  rw [← hue] at VA hE
  have HE := Lib.hid hE
  have HO := Lib.hid (o1.turn (Only.alloc (Only.refl W) (.cells #[txt l, .int .i64 0] 58)).turn (fun q => q) (fun q => q) (fun q => q))
  have HT0 := Lib.hid (ht0.alloc (.cells #[txt l, .int .i64 0] 58))
  have HDS := Lib.hid hDs
  have HSZ := Lib.hid hsz
  clear hE hue hst hDl hDs o1 ht0 r1 hT T0 hcv hsz
  go_wp2_with fail
  go_at_call 24
  refine VA.mono ?_
  intro e w3 hP
  rcases hP.cases with ⟨x, q, v, rfl, hq, rfl, hv, r3, t3⟩ | ⟨a, b, a', rfl, rfl, hk, t3⟩
  · have HK := Lib.hid (HE.out.trans (show _ = (if skipE blankL l q < l.length then Rs.bad (skipE blankL l q) 11 else .ok x q) from rfl))
    have hsz := HSZ.out
    have H3 := Lib.hid (HO.out.turn t3 (by omega) (by omega) (by omega))
    have HA := Lib.hid (Turn.trans (Q' := fun i => i = W.heap.size) HT0.out.turn t3 (fun i hi q => by omega) : Turn (fun _ => False) w w3)
    obtain ⟨kk, tt, La, Na, rfl, ⟨la1, la2, la3, rfl⟩, ⟨na1, na2, na3, rfl⟩⟩ := hv.form
    have ne : W.heap.size ≠ w.heap.size := by omega
    have hmz : w.heap.size < (W.alloc (.cells #[txt l, .int .i64 0] 58)).heap.size := by simp; omega
    obtain ⟨⟨c1, c2, c3, c4⟩, f1, f2, f3, f4⟩ := H3.out.1.all
    have HV := Lib.hid (vrep_set4 hv hmz (Nat.le_refl _) (.int .i64 (kk : Int)) (txt tt) (.slice la1 la2 la3) (.slice na1 na2 na3))
    have HR3 := Lib.hid (rd_set4 r3 ne (.int .i64 (kk : Int)) (txt tt) (.slice la1 la2 la3) (.slice na1 na2 na3))
    have HR30 : Hid (Res3 (set4 w3 w.heap.size (.int .i64 (kk : Int)) (txt tt) (.slice la1 la2 la3) (.slice na1 na2 na3)) w.heap.size (.int .i64 (kk : Int)) (txt tt) (.slice la1 la2 la3) (.slice na1 na2 na3) (.int .i64 0) (.int .i64 0)) := Lib.hid
      ⟨H3.out.1.set _ _ _ _, H3.out.2.1.turn (turn_set4 (Q := fun i => i = w.heap.size) (Turn.refl _ _) (Or.inl rfl) _ _ _ _) (fun q => by omega), H3.out.2.2.turn (turn_set4 (Q := fun i => i = w.heap.size) (Turn.refl _ _) (Or.inl rfl) _ _ _ _) (fun q => by omega)⟩
    have HA4 := Lib.hid (turn_set4 HA.out (Or.inr (Nat.le_refl _)) (.int .i64 (kk : Int)) (txt tt) (.slice la1 la2 la3) (.slice na1 na2 na3) : Turn (fun _ => False) w _)
    have BL := blanks_any HR3.out (by rw [HDS.out] at hq; rw [HDS.out]; exact hq) (by rw [HDS.out]; omega)
    have NE := Lib.hid ne
    have HMZ := Lib.hid hmz
    clear hP VA HE t3 hv hsz ne hmz r3
    go_upto_region 6 with (fail)
    clear c1 c2 c3 c4 f1 f2 f3 f4
    go_wp2_with fail
    go_at_call 25
    refine BL.mono ?_
    rintro e w6 ⟨rfl, r6, t6⟩
    have hsz := HSZ.out
    have h6 := HR30.out.turn t6 (by omega) (by omega) (by omega)
    have hA6 := (Turn.trans (Q' := fun i => i = W.heap.size) HA4.out t6 (fun i hi q => by omega) : Turn (fun _ => False) w w6)
    have hV6 := VRep.turn t6 x (fun i hi q => by have := (show (W.alloc (.cells #[txt l, .int .i64 0] 58)).heap.size ≤ i from hi); simp at this; omega) HV.out
    obtain ⟨z, hz⟩ : ∃ z, z = skipE blankL l q := ⟨_, rfl⟩
    rw [← hz] at r6
    have HK2 : Hid (parseE l = if z < l.length then Rs.bad z 11 else .ok x q) := Lib.hid (by rw [HK.out, ← hz])
    obtain ⟨y1, y2, y3, y4, y5⟩ := r6.all
    have H6 := Lib.hid h6
    have HA6 := Lib.hid hA6
    have HV6 := Lib.hid hV6
    have iDS : (⟨l.toArray⟩ : ByteArray).size = l.length := HDS.out
    clear BL h6 hA6 hV6 hz r6 t6 hsz HK
    by_cases hzl : z < l.length
    · have iz : decide (z < l.length) = true := decide_eq_true hzl
      have HK3 := Lib.hid (HK2.out.trans (if_pos hzl))
      clear hzl iDS
      go_wp2_with fail
      refine leaves_cons (f := 23) (args := #[.pointer (some ⟨w.heap.size, 0, none⟩), .pointer (some ⟨w.heap.size + 1, 0, none⟩), .pointer (some ⟨w.heap.size + 2, 0, none⟩)]) (by simp) (by simp [go_sem]) ?_
      refine (catch_fault H6.out).mono ?_
      rintro e u' w7 ⟨rfl, rfl, h7, t7⟩
      obtain ⟨g4, gp, ge⟩ := h7
      obtain ⟨⟨c1, c2, c3, c4⟩, -⟩ := g4.all
      obtain ⟨d1, -⟩ := gp.all
      obtain ⟨e1, -⟩ := ge.all
      have HF := Lib.hid (Turn.trans (Q' := fun i => w.heap.size ≤ i ∧ i ≤ w.heap.size + 2) HA6.out t7 (fun i hi q => by omega) : Turn (fun _ => False) w w7)
      clear g4 gp ge t7
      simp [Leaves, settle, results, Tryd.results12, go_sem, c1, c2, c3, c4, d1, e1]
      refine ⟨HF.out.only, ?_⟩
      rw [HK3.out]
      exact ⟨_, Or.inl rfl, rfl⟩
    · have iz : decide (z < l.length) = false := decide_eq_false hzl
      have HK3 := Lib.hid (HK2.out.trans (if_neg hzl))
      obtain ⟨g4, gp, ge⟩ := H6.out
      obtain ⟨⟨c1, c2, c3, c4⟩, f1, f2, f3, f4⟩ := g4.all
      obtain ⟨d1, d2⟩ := gp.all
      obtain ⟨e1, e2⟩ := ge.all
      have n1 : ¬ w.heap.size + 1 = w.heap.size := by omega
      have n2 : ¬ w.heap.size + 2 = w.heap.size := by omega
      have tt4 : ∀ Q : Nat → Prop, (Q w.heap.size) → Turn Q w6 (set4 w6 w.heap.size (.int .i64 (kk : Int)) (txt tt) (.slice la1 la2 la3) (.slice na1 na2 na3)) := fun Q hQ => turn_set4 (Turn.refl _ _) (Or.inl hQ) _ _ _ _
      have t9 : Turn (fun i => w.heap.size ≤ i ∧ i ≤ w.heap.size + 2) w6 (((set4 w6 w.heap.size (.int .i64 (kk : Int)) (txt tt) (.slice la1 la2 la3) (.slice na1 na2 na3)).setCell ⟨w.heap.size + 1, 0, none⟩ (.int .i64 0)).setCell ⟨w.heap.size + 2, 0, none⟩ (.int .i64 0)) := Turn.set (Turn.set (tt4 _ ⟨Nat.le_refl _, by omega⟩) (w.heap.size + 1) 0 (Or.inl ⟨by omega, by omega⟩) _) (w.heap.size + 2) 0 (Or.inl ⟨by omega, by omega⟩) _
      have H9 : Hid (Res3 (((set4 w6 w.heap.size (.int .i64 (kk : Int)) (txt tt) (.slice la1 la2 la3) (.slice na1 na2 na3)).setCell ⟨w.heap.size + 1, 0, none⟩ (.int .i64 0)).setCell ⟨w.heap.size + 2, 0, none⟩ (.int .i64 0)) w.heap.size (.int .i64 (kk : Int)) (txt tt) (.slice la1 la2 la3) (.slice na1 na2 na3) (.int .i64 0) (.int .i64 0)) := Lib.hid
        ⟨((g4.set _ _ _ _).turn (Turn.set (Q := fun i => i = w.heap.size + 1) (Turn.refl _ _) (w.heap.size + 1) 0 (Or.inl rfl) _) (fun q => by omega)).turn (Turn.set (Q := fun i => i = w.heap.size + 2) (Turn.refl _ _) (w.heap.size + 2) 0 (Or.inl rfl) _) (fun q => by omega),
         ((gp.turn (tt4 (fun i => i = w.heap.size) rfl) (fun q => by omega)).set _).turn (Turn.set (Q := fun i => i = w.heap.size + 2) (Turn.refl _ _) (w.heap.size + 2) 0 (Or.inl rfl) _) (fun q => by omega),
         ((ge.turn (tt4 (fun i => i = w.heap.size) rfl) (fun q => by omega)).turn (Turn.set (Q := fun i => i = w.heap.size + 1) (Turn.refl _ _) (w.heap.size + 1) 0 (Or.inl rfl) _) (fun q => by omega)).set _⟩
      have HA9 := Lib.hid (Turn.trans (Q' := fun i => w.heap.size ≤ i ∧ i ≤ w.heap.size + 2) HA6.out t9 (fun i hi q => by omega) : Turn (fun _ => False) w _)
      have hsz := HSZ.out
      have HV9 := Lib.hid (VRep.turn t9 x (fun i hi q => by have := (show (W.alloc (.cells #[txt l, .int .i64 0] 58)).heap.size ≤ i from hi); simp at this; omega) HV6.out)
      have hMw : ∀ i, (W.alloc (.cells #[txt l, .int .i64 0] 58)).heap.size ≤ i → w.heap.size ≤ i := fun i h => by simp at h; omega
      have HMW := Lib.hid hMw
      clear hzl iDS g4 gp ge tt4 t9 hsz hMw
      go_wp2_with fail
      refine leaves_cons (f := 23) (args := #[.pointer (some ⟨w.heap.size, 0, none⟩), .pointer (some ⟨w.heap.size + 1, 0, none⟩), .pointer (some ⟨w.heap.size + 2, 0, none⟩)]) (by simp) (by simp [go_sem]) ?_
      refine (catch_idle _).mono ?_
      rintro e u' w7 ⟨rfl, rfl, t7⟩
      obtain ⟨g4, gp, ge⟩ := H9.out.turn t7.turn (fun q => q) (fun q => q) (fun q => q)
      obtain ⟨⟨x1, x2, x3, x4⟩, -⟩ := g4.all
      obtain ⟨x5, -⟩ := gp.all
      obtain ⟨x6, -⟩ := ge.all
      have HF := Lib.hid (HA9.out.only.trans t7)
      have HVF := Lib.hid (VRep.mono x (fun i _ p => HMW.out i p) (VRep.turn t7.turn x (fun _ _ q => q) HV9.out))
      clear g4 gp ge t7
      simp [Leaves, settle, results, Tryd.results12, go_sem, x1, x2, x3, x4, x5, x6]
      refine ⟨HF.out, ?_⟩
      rw [HK3.out]
      exact ⟨_, rfl, HVF.out⟩
  · have HK := Lib.hid (HE.out.trans (show _ = Rs.bad a b from rfl))
    have hsz := HSZ.out
    have H3 := Lib.hid (HO.out.turn t3 (by omega) (by omega) (by omega))
    have HA := Lib.hid (Turn.trans (Q' := fun i => i = W.heap.size) HT0.out.turn t3 (fun i hi q => by omega) : Turn (fun _ => False) w w3)
    clear hP VA HE t3 hsz
    go_wp2_with fail
    refine leaves_cons (f := 23) (args := #[.pointer (some ⟨w.heap.size, 0, none⟩), .pointer (some ⟨w.heap.size + 1, 0, none⟩), .pointer (some ⟨w.heap.size + 2, 0, none⟩)]) (by simp) (by simp [go_sem]) ?_
    refine (catch_fault H3.out).mono ?_
    rintro e u' w5 ⟨rfl, rfl, h5, t5⟩
    obtain ⟨g4, gp, ge⟩ := h5
    obtain ⟨⟨c1, c2, c3, c4⟩, -⟩ := g4.all
    obtain ⟨d1, -⟩ := gp.all
    obtain ⟨e1, -⟩ := ge.all
    have HF := Lib.hid (Turn.trans (Q' := fun i => w.heap.size ≤ i ∧ i ≤ w.heap.size + 2) HA.out t5 (fun i hi q => by omega) : Turn (fun _ => False) w w5)
    clear g4 gp ge t5
    simp [Leaves, settle, results, Tryd.results12, go_sem, c1, c2, c3, c4, d1, e1]
    refine ⟨HF.out.only, ?_⟩
    rw [HK.out]
    exact ⟨a', hk, rfl⟩
end Go.Proofs.YtdhkpkojnokjdaaDoor
