/-
  read of a log: the records of its segments.
-/
import Derived.Test.YtjjajnfkngfpjaaGreatDoorWFind
import Derived.Test.YtjjajnfkngfpjaaGreatDoorWScan
namespace Go.Proofs.YtjjajnfkngfpjaaGreatDoor
open Go.RowKit Go.Maps Go.WideMaps

section
variable {w0 w w' : World} {p lp : Nat} {S S' : Fsp.Fs} {c c' : Bool} {Q : Nat → Prop} {mo : Option Nat} {pl : List UInt8 → Pl} {l l' : Walp.Lg}

theorem lists_add {W W2 : World} {base : Nat} {v v' : Value} {l m : List (List UInt8)} {xs ys : List Value} (hx1 : W.ownsRow base 37 1 v l.length xs) (hx2 : xs.length = l.length)
    (hx3 : ∀ (j : Nat) (q : List UInt8), l[j]? = some q → ∃ u, xs[j]? = some u ∧ W.ownsRow base 5 1 u q.length (q.map byteV)) (hy2 : ys.length = m.length)
    (hy3 : ∀ (j : Nat) (q : List UInt8), m[j]? = some q → ∃ u, ys[j]? = some u ∧ W.ownsRow base 5 1 u q.length (q.map byteV)) (hg : W.grownBy W2 v.ownBlock)
    (h4 : W2.ownsRow base 37 1 v' (l.length + m.length) (xs ++ ys)) : ListsO W2 base v' (l ++ m) := by
  have t4 : Turn (fun b => v.ownBlock = some b) W W2 := (Turn.refl _ W).grown hg (fun k e => Or.inl e)
  have key : ∀ {u : Value} {q : List UInt8}, W.ownsRow base 5 1 u q.length (q.map byteV) → W2.ownsRow base 5 1 u q.length (q.map byteV) := fun ho =>
    ownsRow_turned ho t4 (fun r hr e2 => by
      obtain ⟨_, _, cur, hc⟩ := own_block hx1 e2
      obtain ⟨_, _, cur2, hc2⟩ := own_block ho hr
      rw [hc] at hc2; cases hc2)
  refine ⟨xs ++ ys, by rw [List.length_append]; exact h4, by simp [hx2, hy2], fun j q hj => ?_⟩
  by_cases hlt : j < l.length
  · rw [List.getElem?_append_left hlt] at hj
    obtain ⟨u, e, ho⟩ := hx3 j q hj
    exact ⟨u, by rw [List.getElem?_append_left (by omega)]; exact e, key ho⟩
  · rw [List.getElem?_append_right (by omega)] at hj
    obtain ⟨u, e, ho⟩ := hy3 _ q hj
    exact ⟨u, by rw [List.getElem?_append_right (by omega), hx2]; exact e, key ho⟩

theorem read_file (hx : LogX w0 w p S Q lp l) (n : Nat) (hd : l.dir.length ≤ 1000) {f : Fsp.File} (hf : Fsp.find S.L (Walp.seg l.dir n) = some f) :
    Calls Tryz.prog 37 #[.pointer (some ⟨p, 0, none⟩), .string (segName (txt l.dir) n)] w fun r w' => (∃ g, r = .returned (.tuple #[.slice (some ⟨g, 0, none⟩) f.data.length f.data.length, .int .i64 0]) ∧
      SliceC w' (.slice (some ⟨g, 0, none⟩) f.data.length f.data.length) f.data) ∧ f.data.length ≤ 67108864 ∧ Turn (fun _ => False) w w' := by
  obtain ⟨mo, pl, hr⟩ := hx.rep
  have h1 := hr.good.2.1
  have h2 := hr.good.2.2.1
  have h3 := Fsp.used_find hf
  refine (read_some hr (segName (txt l.dir) n) (seg_size l.dir n hd) (f := f) (by rw [segName_list, txt_list]; exact hf)).mono ?_
  rintro r w' ⟨g, rfl, hown, ht⟩
  refine ⟨⟨g, rfl, some ⟨g, 0, none⟩, f.data.length, rfl, Nat.le_refl _, by omega, fun _ => ⟨g, 0, rfl, fun j x hj => ?_⟩⟩, by omega, ht⟩
  have := hown.cellAt j (by have := (List.getElem?_eq_some_iff.1 hj).1; omega)
  rw [Nat.zero_add, this, List.getElem?_map, hj]; rfl

theorem own_one {base n : Nat} {e : TypeId} {v : Value} {xs : List Value} (h : w.ownsRow base e 1 v n xs) : v.oneCell' = true := by
  rcases h.2 with ⟨rfl, _⟩ | ⟨g, cap, cur, rfl, _⟩ <;> rfl

theorem append_lists {ops : Array Oper} {rest : List Oper} {o : Oper} {a : Act} {Qx : Exit → Act → World → Prop} (hgd : o.guard = none) (s x : Operand)
    (ho : o.op = .call { callee := .builtin .append, args := #[s, x], argTypes := #[22, 22] }) {base : Nat} {v u : Value} {l m : List (List UInt8)} (hs : a.eval s = v) (hx : a.eval x = u)
    (hl : ListsO w base v l) (hm : ListsO w base u m) (hn : l.length + m.length ≤ 1000000000000) (hbase : base ≤ w.heap.size)
    (h : ∀ sp cap w', ListsO w' base (.slice sp (l ++ m).length cap) (l ++ m) → Turn (fun b => v.ownBlock = some b) w w' → wpList Tryz.prog ops Qx rest (a.put o.dst (.slice sp (l ++ m).length cap)) w') :
    wpList Tryz.prog ops Qx (o :: rest) a w := by
  obtain ⟨i0, hi, hz0, hz1, hz2⟩ := info_parts infoBytes
  obtain ⟨xs, hx1, hx2, hx3⟩ := hl
  obtain ⟨ys, hy1, hy2, hy3⟩ := hm
  obtain ⟨sp, cap, hu, hc⟩ := own_cell hy1 hy2
  cases sp with
  | none =>
    have hm0 : m = [] := by
      rcases Nat.eq_zero_or_pos m.length with h0 | h0
      · exact List.length_eq_zero_iff.1 h0
      · obtain ⟨ad, e, _⟩ := hc h0; cases e
    subst hm0
    have hcap : cap = 0 := by
      rcases hy1.2 with ⟨e, _⟩ | ⟨g, c2, cur, e, _⟩
      · rw [e] at hu; cases hu; rfl
      · rw [e] at hu; cases hu
    subst hcap
    obtain ⟨sp2, cap2, hv, _⟩ := own_cell hx1 hx2
    refine wpList_append_own_none hgd s x 22 ho base 37 i0 1 Tryz.underlying22 hi v l.length xs hs hx1 (hx.trans hu) ?_
    have h2 := h sp2 cap2 w (by rw [List.append_nil, ← hv]; exact ⟨xs, hx1, hx2, hx3⟩) (Turn.refl _ _)
    rw [List.append_nil, ← hv] at h2
    exact h2
  | some ad =>
    refine wpList_append_own_at w hgd s x 22 ho base 37 i0 (.slice none 0 0) 1 24 Tryz.underlying22 hi hz0 hz1 hz2 rfl (by decide) v l.length xs hs hx1 ad m.length cap ys (hx.trans hu) (by rw [hy2, Nat.mul_one]) (fun j y hj => ?_) (fun y hy => ?_) (by unfold maxLen; omega) (by omega) hbase ?_
    · have hlt := (List.getElem?_eq_some_iff.1 hj).1
      obtain ⟨ad2, e, hcx⟩ := hc (by omega)
      cases e
      exact hcx j y hj
    · obtain ⟨j, hj, rfl⟩ := List.getElem_of_mem hy
      obtain ⟨u2, e, ho2⟩ := hy3 j _ (List.getElem?_eq_getElem (by omega))
      rw [List.getElem?_eq_getElem hj] at e
      cases e
      exact own_one ho2
    · intro v' w' hown hg _ _
      have h4 := lists_add hx1 hx2 hx3 hy2 hy3 hg hown
      obtain ⟨xs4, o1, o2, _⟩ := h4
      obtain ⟨sp4, cap4, e4, _⟩ := own_cell o1 o2
      have h4 := lists_add hx1 hx2 hx3 hy2 hy3 hg hown
      subst e4
      exact h sp4 cap4 w' h4 ((Turn.refl _ w).grown hg (fun k e => Or.inl e))

theorem LogP.aside {wb w1 w2 : World} {P : Nat → Prop} (h : LogP w0 wb p S' Q lp l' w1) (hx : LogX w0 w p S Q lp l) (hb : Turn (fun _ => False) w wb) (ht : Turn P w1 w2) (hP : ∀ b, P b → w.heap.size ≤ b ∧ b < wb.heap.size) : LogP w0 w p S' Q lp l' w2 := by
  obtain ⟨⟨⟨mo, pl, hr⟩, g2, g3, g4, g5, g6⟩, t2⟩ := h
  have s1 := hb.size
  have s2 := t2.size
  have s3 := ht.size
  have hlp := hx.log.lt
  have hql := hx.rep.lt
  have hw0 := hx.turn.size
  have hr2 : RepX w2 p S' false (Grow Q wb w1) mo pl := hr.turned ht (fun b q pb => by
    have hpb := hP b pb
    rcases q with q | q
    · have := hql b q; omega
    · omega)
  refine ⟨⟨⟨mo, pl, hr2.mono (fun b q => q.imp id (fun q => ⟨by omega, by omega⟩)) (fun b q => ?_)⟩, g2.turned ht (fun pb => by have := hP lp pb; omega), fun q => ?_, g4, fun b q => ?_, g6.trans ht (fun i hi q => by have := hP i q; omega)⟩, ?_⟩
  · rcases q with q | q
    · have := hql b q; omega
    · exact q.2
  · rcases q with q | q
    · exact hx.out q
    · omega
  · rcases q with q | q
    · exact hx.newQ b q
    · omega
  · exact ((hb.mono (fun _ q => q.elim)).trans t2 (fun _ _ q => q)).trans ht (fun i hi q => by have := hP i q; omega)

theorem scan_bool {v : Value} {b : List UInt8} {x : Bool} (hw : decide ((Walp.frames (Walp.scan b)).length = b.length) = x) (hT : SumTab w) (hb : SliceC w v b) (hl : b.length ≤ 1073741824) :
    Calls Tryz.prog 22 #[v] w fun r w' => (∃ u, r = .returned (.tuple #[u, .int .i64 ((Walp.frames (Walp.scan b)).length : Nat), .bool x]) ∧ ListsO w' w.heap.size u (Walp.scan b)) ∧ Turn (fun _ => False) w w' := by
  have h := scan_any hT hb hl
  rw [hw] at h
  exact h

/-- the records of these files -/
def recsOf (fs : List Fsp.File) : List (List UInt8) := (fs.map fun f => Walp.scan f.data).flatten

theorem recs_take {fs : List Fsp.File} {i : Nat} (h : i < fs.length) : recsOf (fs.take (i + 1)) = recsOf (fs.take i) ++ Walp.scan fs[i].data := by
  unfold recsOf
  rw [List.take_succ_eq_append_getElem h, List.map_append, List.flatten_append]
  simp only [List.map_cons, List.map_nil, List.flatten_cons, List.flatten_nil, List.append_nil]

theorem scan_le (b : List UInt8) : (Walp.scan b).length ≤ b.length := by
  rw [Walp.scan_raw, List.length_map]
  have h1 := Walp.raw_length b
  have h2 := (List.takeWhile_sublist Walp.sound (l := Walp.raw b)).length_le
  omega

theorem recs_le (fs : List Fsp.File) (h : ∀ f, f ∈ fs → f.data.length ≤ 67108864) : (recsOf fs).length ≤ 67108864 * fs.length := by
  induction fs with
  | nil => simp [recsOf]
  | cons f fs ih =>
    have h1 := ih (fun g hg => h g (List.mem_cons_of_mem _ hg))
    have h2 := h f (by simp)
    have h3 := scan_le f.data
    unfold recsOf at *
    simp only [List.map_cons, List.flatten_cons, List.length_append, List.length_cons]
    omega

def wholeF (d : List UInt8) : Bool := decide ((Walp.frames (Walp.scan d)).length = d.length)

theorem frames_le (d : List UInt8) : (Walp.frames (Walp.scan d)).length ≤ d.length := by
  have h := (Walp.scan_rest d).1
  have := congrArg List.length h
  rw [List.length_append] at this; omega

/-- what stands in front of the loop's round i -/
def Reading (w0 w : World) (p : Nat) (S2 : Fsp.Fs) (Q : Nat → Prop) (lp : Nat) (l2 : Walp.Lg) (d : List UInt8) (fs : List Fsp.File) (i : Nat) (wr : World) : Prop :=
  (i < fs.length ∧ Turn (fun _ => False) w wr) ∨ (i = fs.length ∧ LogP w0 w p S2 Q lp l2 wr ∧ (wholeF d = true → Turn (fun _ => False) w wr))

/-- what the last file becomes -/
def Mended (S S2 : Fsp.Fs) (l l2 : Walp.Lg) (d : List UInt8) : Prop :=
  (wholeF d = true ∧ S2 = S ∧ l2 = l) ∨
  (wholeF d = false ∧ l2 = { l with cut := d.length - (Walp.frames (Walp.scan d)).length } ∧ ∃ S1, Fsp.truncate S (Walp.seg l.dir l.last) (Walp.frames (Walp.scan d)).length = (S1, 0) ∧ Fsp.sync S1 (Walp.seg l.dir l.last) = (S2, 0))

set_option maxRecDepth 100000 in
set_option maxHeartbeats 2000000 in
theorem read_ok (hT : SumTab w) (hx : LogX w0 w p S Q lp l) (hd : l.dir.length ≤ 1000) (init : List Fsp.File) (f : Fsp.File) (hfs : ∀ (i : Nat) (g : Fsp.File), (init ++ [f])[i]? = some g → Fsp.find S.L (Walp.seg l.dir (l.first + i)) = some g)
    (hlast : l.last = l.first + init.length) (h1 : 1 ≤ l.first) (hl : l.last < 100) (hw : ∀ g, g ∈ init → wholeF g.data = true) {S2 : Fsp.Fs} {l2 : Walp.Lg} (hm : Mended S S2 l l2 f.data) (hs : S.steps + 10 < 4611686018427387000) :
    Calls Tryz.prog 50 #[.pointer (some ⟨lp, 0, none⟩)] w fun r w' => (∃ u, r = .returned (.tuple #[u, .int .i64 0]) ∧ ListsO w' w.heap.size u (recsOf (init ++ [f]))) ∧ LogP w0 w p S2 Q lp l2 w' ∧ (wholeF f.data = true → Turn (fun _ => False) w w') := by
  have c0 := hx.log.cells.c0
  have c1 := hx.log.cells.c1
  have c3 := hx.log.cells.c3
  have c4 := hx.log.cells.c4
  obtain ⟨fs, hfe⟩ : ∃ fs, fs = init ++ [f] := ⟨_, rfl⟩
  have hfl : fs.length = init.length + 1 := by rw [hfe]; simp
  rw [← hfe] at hfs ⊢
  have HT := Lib.hid hT
  have HX := Lib.hid hx
  have HD := Lib.hid hd
  have HFS := Lib.hid hfs
  have HFE := Lib.hid hfe
  have HFL := Lib.hid hfl
  have HLA := Lib.hid hlast
  have H1 := Lib.hid h1
  have HL := Lib.hid hl
  have HW := Lib.hid hw
  have HM := Lib.hid hm
  have HS := Lib.hid hs
  clear hT hx hd hfs hfe hfl hlast h1 hl hw hm hs
  go_enter Tryz.func50, Tryz.ntmps50
  go_wp2_with fail
  go_loopw [4, 5] (fun rv n wr => ∃ i : Nat, i ≤ fs.length ∧ n = .int .i64 ((l.first + i : Nat) : Int) ∧ (∃ sp cap, rv = .slice sp (recsOf (fs.take i)).length cap ∧ ListsO wr w.heap.size (.slice sp (recsOf (fs.take i)).length cap) (recsOf (fs.take i))) ∧ Reading w0 w p S2 Q lp l2 f.data fs i wr) (fun _ n _ => l.last + 1 - (intOf n).toNat)
  case atStart => exact ⟨0, Nat.zero_le _, rfl, ⟨none, 0, rfl, ListsO.nil _ _⟩, Or.inl ⟨by have := HFL.out; omega, Turn.refl _ _⟩⟩
  case round =>
    obtain ⟨i, hi, rfl, ⟨sp, cap, rfl, hls⟩, hR⟩ := hrel
    rcases hR with ⟨hlt, ht⟩ | ⟨hie, hP, hWT⟩
    · have hX := HX.out.later ht
      have d0 := hX.log.cells.c0
      have d1 := hX.log.cells.c1
      have d4 := hX.log.cells.c4
      obtain ⟨n, hn⟩ : ∃ n, n = l.first + i := ⟨_, rfl⟩
      rw [← hn]
      have hfind := HFS.out i fs[i] (List.getElem?_eq_getElem hlt)
      rw [← hn] at hfind
      have hnl : n ≤ l.last := by have := HLA.out; have := HFL.out; omega
      have i1 : (n : Int) ≤ (l.last : Int) := by omega
      have hnlo : 1 ≤ n := by have := H1.out; omega
      have hnhi : n < 100 := by have := HL.out; omega
      have hrt := recs_take hlt
      have hT2 := HT.out.turned ht
      have hg2 : fs[i]? = some fs[i] := List.getElem?_eq_getElem hlt
      generalize fs[i] = g at *
      have HX2 := Lib.hid hX
      have HF := Lib.hid hfind
      have HN := Lib.hid hn
      have HNL := Lib.hid hnlo
      have HNH := Lib.hid hnhi
      have HRT := Lib.hid hrt
      have HT2 := Lib.hid hT2
      have HG := Lib.hid hg2
      have HLS := Lib.hid hls
      have HTT := Lib.hid ht
      have HLT := Lib.hid hlt
      have hrl : (recsOf (fs.take i)).length ≤ 67108864 * 100 := by
        refine Nat.le_trans (recs_le (fs.take i) (fun x hx => ?_)) ?_
        · obtain ⟨j, hj, e⟩ := List.getElem_of_mem hx
          rw [List.length_take] at hj
          rw [List.getElem_take] at e
          have h := HFS.out j fs[j] (List.getElem?_eq_getElem (by omega))
          obtain ⟨mo, pl, hr⟩ := HX.out.rep
          have h1 := hr.good.2.1
          have h2 := hr.good.2.2.1
          have h3 := Fsp.used_find h
          rw [← e]; omega
        · have := HFL.out; have := HLA.out; have := HL.out; have := H1.out
          rw [List.length_take]
          omega
      have HRL := Lib.hid hrl
      clear hX hfind hn hnlo hnhi hrt hT2 hg2 hls ht hlt hnl hi hrl
      cases hwh : wholeF g.data with
      | true =>
        unfold wholeF at hwh
        have HWH := Lib.hid hwh
        clear hwh
        go_wp2_with fail
        go_region_held3 (fun w' => w'.cell? ⟨lp, 0, none⟩ = some (.pointer (some ⟨p, 0, none⟩)) ∧ w'.cell? ⟨lp, 1, none⟩ = some (.string (txt l.dir))) (first | (exact ⟨q0, q1⟩) | (exact ⟨d0, d1⟩) | go_keep) (first | (go_at_call 29; refine (name_any (txt l.dir) (txt_size _ HD.out) n HNL.out HNH.out _).mono ?_; rintro r w2 ⟨rfl, t2⟩; have hx2 := HX2.out.later (drewTurn t2); have q0 := hx2.log.cells.c0; have q1 := hx2.log.cells.c1) | (go_at_call 37; refine (read_file hx2 n HD.out HF.out).mono ?_; rintro r w3 ⟨⟨gb, rfl, hsl⟩, hsz, t3⟩; have hx3 := hx2.later t3; have q0 := hx3.log.cells.c0; have q1 := hx3.log.cells.c1))
        have HR3 := Lib.hid hx3
        have ht3 := (drewTurn t2).trans t3 (fun _ _ q => q)
        have HT3 := Lib.hid ht3
        have HSL := Lib.hid hsl
        have HSZ := Lib.hid hsz
        clear hx2 hx3 t2 t3 ht3 hsl hsz d0 d1
        go_wp2_with (first | (go_at_call 22; refine (scan_bool HWH.out (HT2.out.turned HT3.out) HSL.out (by have := HSZ.out; omega)).mono ?_; rintro r w4 ⟨⟨u, rfl, hls4⟩, t4⟩; have hx4 := HR3.out.later t4; have r4 := hx4.log.cells.c4; have HR4 := Lib.hid hx4; have HLS4 := Lib.hid hls4; have HT4 := Lib.hid t4; clear hx4 hls4 t4) | (at_builtin; refine append_lists rfl (.tmp 68) (.tmp 69) rfl (base := w.heap.size) rfl rfl (HLS.out.new (HT3.out.trans HT4.out (fun _ _ q => q))) (HLS4.out.mono (by have := HTT.out.size; have := HT3.out.size; omega)) (by have := HRL.out; have := scan_le g.data; have := HSZ.out; omega) (by have := HTT.out.size; have := HT3.out.size; have := HT4.out.size; omega) ?_))
        intro sp5 cap5 w5 hls5 t5
        have htw : Turn (fun _ => False) w w5 := by
          have h4 := (HTT.out.trans HT3.out (fun _ _ q => q)).trans HT4.out (fun _ _ q => q)
          refine h4.trans t5 (fun i hi q => ?_)
          obtain ⟨xs, o1, _, _⟩ := HLS.out
          have := (own_block o1 q).1
          omega
        have HTW := Lib.hid htw
        have HL5 := Lib.hid hls5
        clear htw hls5 t5
        have hn2 := HNH.out
        go_wp2
        go_roundw
        case rel =>
          refine ⟨i + 1, HLT.out, by have := HN.out; go_num, ⟨sp5, cap5, by rw [HRT.out, List.length_append], by rw [HRT.out, List.length_append]; exact HL5.out⟩, ?_⟩
          by_cases he : i + 1 < fs.length
          · exact Or.inl ⟨he, HTW.out⟩
          · have hie : i + 1 = fs.length := by have := HLT.out; omega
            refine Or.inr ⟨hie, ?_⟩
            have hgf : g = f := by
              have h := HG.out
              rw [HFE.out, List.getElem?_append_right (by have := HFL.out; omega)] at h
              have : i - init.length = 0 := by have := HFL.out; omega
              rw [this] at h
              cases h; rfl
            rcases HM.out with ⟨_, e1, e2⟩ | ⟨e0, _⟩
            · rw [e1, e2]; exact ⟨HX.out.same.later HTW.out, fun _ => HTW.out⟩
            · rw [← hgf] at e0; unfold wholeF at e0; rw [HWH.out] at e0; cases e0
        case measure => have := HN.out; have := HLA.out; simp [intOf]; omega
      | false =>
        have hie : i + 1 = fs.length := by
          rcases Nat.lt_or_ge (i + 1) fs.length with h | h
          · have hm2 : g ∈ init := by
              have hgi := HG.out
              rw [HFE.out, List.getElem?_append_left (by have := HFL.out; omega)] at hgi
              exact List.mem_of_getElem? hgi
            have := HW.out g hm2
            rw [hwh] at this; cases this
          · have := HLT.out; omega
        have hgf : g = f := by
          have h := HG.out
          rw [HFE.out, List.getElem?_append_right (by have := HFL.out; omega)] at h
          have : i - init.length = 0 := by have := HFL.out; omega
          rw [this] at h
          cases h; rfl
        have hnlast : n = l.last := by have := HN.out; have := HLA.out; have := HFL.out; omega
        obtain ⟨S1, hS1, hS2, hl2⟩ : ∃ S1, Fsp.truncate S (Walp.seg l.dir l.last) (Walp.frames (Walp.scan g.data)).length = (S1, 0) ∧ Fsp.sync S1 (Walp.seg l.dir l.last) = (S2, 0) ∧ l2 = { l with cut := g.data.length - (Walp.frames (Walp.scan g.data)).length } := by
          rcases HM.out with ⟨e0, _⟩ | ⟨_, e2, S1, e3, e4⟩
          · rw [← hgf, hwh] at e0; cases e0
          · rw [← hgf] at e2 e3; exact ⟨S1, e3, e4, e2⟩
        unfold wholeF at hwh
        have hfle := frames_le g.data
        have hi1 : ¬ (n : Int) < (l.last : Int) := by omega
        obtain ⟨E, hE⟩ : ∃ E, E = (Walp.frames (Walp.scan g.data)).length := ⟨_, rfl⟩
        obtain ⟨cu, hcu⟩ : ∃ cu : Nat, cu = g.data.length - E := ⟨_, rfl⟩
        rw [← hE] at hS1 hl2 hfle hwh
        rw [← hcu] at hl2
        have hscan : ∀ (W : World) (v : Value), SumTab W → SliceC W v g.data → g.data.length ≤ 1073741824 → Calls Tryz.prog 22 #[v] W fun r w' => (∃ u, r = .returned (.tuple #[u, .int .i64 (E : Nat), .bool false]) ∧ ListsO w' W.heap.size u (Walp.scan g.data)) ∧ Turn (fun _ => False) W w' := by
          intro W v h1 h2 h3
          have h := scan_bool (x := false) (by rw [← hE]; exact hwh) h1 h2 h3
          rw [← hE] at h
          exact h
        have HSC := Lib.hid hscan
        clear hscan
        have hsub : (g.data.length : Int) - (E : Int) = (cu : Int) := by omega
        have HWH := Lib.hid hwh
        have HIE := Lib.hid hie
        have HT1 := Lib.hid hS1
        have HY1 := Lib.hid hS2
        have HL2 := Lib.hid hl2
        have HE := Lib.hid hE
        have HGF := Lib.hid hgf
        clear hwh hie hgf hnlast hS1 hS2 hl2 hfle hcu hE
        go_wp2_with fail
        go_region_held3 (fun w' => w'.cell? ⟨lp, 0, none⟩ = some (.pointer (some ⟨p, 0, none⟩)) ∧ w'.cell? ⟨lp, 1, none⟩ = some (.string (txt l.dir))) (first | (exact ⟨q0, q1⟩) | (exact ⟨d0, d1⟩) | go_keep) (first | (go_at_call 29; refine (name_any (txt l.dir) (txt_size _ HD.out) n HNL.out HNH.out _).mono ?_; rintro r w2 ⟨rfl, t2⟩; have hx2 := HX2.out.later (drewTurn t2); have q0 := hx2.log.cells.c0; have q1 := hx2.log.cells.c1) | (go_at_call 37; refine (read_file hx2 n HD.out HF.out).mono ?_; rintro r w3 ⟨⟨gb, rfl, hsl⟩, hsz, t3⟩; have hx3 := hx2.later t3; have q0 := hx3.log.cells.c0; have q1 := hx3.log.cells.c1))
        have HR3 := Lib.hid hx3
        have ht3 := (drewTurn t2).trans t3 (fun _ _ q => q)
        have HT3 := Lib.hid ht3
        have HSL := Lib.hid hsl
        have HSZ := Lib.hid hsz
        clear hx2 hx3 t2 t3 ht3 hsl hsz d0 d1
        go_wp2_with (first | (go_at_call 22; refine (HSC.out _ _ (HT2.out.turned HT3.out) HSL.out (by have := HSZ.out; omega)).mono ?_; rintro r w4 ⟨⟨u, rfl, hls4⟩, t4⟩; have hx4 := HR3.out.later t4; have r4 := hx4.log.cells.c4; have HR4 := Lib.hid hx4; have HLS4 := Lib.hid hls4; have HT4 := Lib.hid t4; clear hx4 hls4 t4) | (at_builtin; fail))
        have hcut := cutTo_ok HR4.out HD.out (by have := H1.out; have := HLA.out; omega) HL.out HS.out E HT1.out HY1.out
        go_at_call 72
        refine hcut.mono ?_
        rintro r w5 ⟨rfl, hP5⟩
        have hset : LogAt (w5.setCell ⟨lp, 5, none⟩ (.int .i64 (cu : Int))) lp p { l with cut := cu } := hP5.1.log.set rfl
        have f5 := hP5.1.log.cells.fr 5
        have m5 := hP5.1.log.cells.c5
        have hcub : (cu : Int) ≤ 67108864 := by have := HSZ.out; omega
        have HP5 := Lib.hid hP5
        have HSET := Lib.hid hset
        have hls6 := HLS.out.new (HT3.out.trans HT4.out (fun _ _ q => q))
        have hkeep : ∀ (v : Value) (m : List (List UInt8)), ListsO w4 w.heap.size v m → ListsO (w5.setCell ⟨lp, 5, none⟩ (.int .i64 (cu : Int))) w.heap.size v m := by
          intro v m h
          refine (h.turned HP5.out.2 (fun b cs t fr q hb => ?_)).turned (turnP w5 lp 5 (.int .i64 (cu : Int))) (fun b cs t fr q hb => ?_)
          · rcases q with q | q
            · have := HX.out.rep.lt b q; omega
            · have := HX.out.log.lt; omega
          · have := HX.out.log.lt; omega
        have hl1 := hkeep _ _ hls6
        have hl2' := hkeep _ _ (HLS4.out.mono (by have := HTT.out.size; have := HT3.out.size; omega))
        have hbb : w.heap.size ≤ (w5.setCell ⟨lp, 5, none⟩ (.int .i64 (cu : Int))).heap.size := by
          have h := HP5.out.2.size; have := HTT.out.size; have := HT3.out.size; have := HT4.out.size
          have hsz : (w5.setCell ⟨lp, 5, none⟩ (.int .i64 (cu : Int))).heap.size = w5.heap.size := by simp [World.setCell]
          omega
        have HLA1 := Lib.hid hl1
        have HLA2 := Lib.hid hl2'
        have HBB := Lib.hid hbb
        clear hcut hP5 hset hls6 hkeep hl1 hl2' hbb
        go_wp2_with (at_builtin; refine append_lists rfl (.tmp 68) (.tmp 69) rfl (base := w.heap.size) rfl rfl HLA1.out HLA2.out (by have := HRL.out; have := scan_le g.data; have := HSZ.out; omega) HBB.out ?_)
        intro sp6 cap6 w6 hls7 t6
        have HL6 := Lib.hid hls7
        have HT6 := Lib.hid t6
        clear hls7 t6
        have hn2 := HNH.out
        go_wp2
        go_roundw
        case rel =>
          refine ⟨i + 1, HLT.out, by have := HN.out; go_num, ⟨sp6, cap6, by rw [HRT.out, List.length_append], by rw [HRT.out, List.length_append]; exact HL6.out⟩, Or.inr ⟨HIE.out, ?_, fun h => by rw [← HGF.out] at h; unfold wholeF at h; rw [← HE.out, HWH.out] at h; cases h⟩⟩
          rw [HL2.out]
          refine (HP5.out.set HSET.out).aside HX.out ((HTT.out.trans HT3.out (fun _ _ q => q)).trans HT4.out (fun _ _ q => q)) HT6.out (fun b q => ?_)
          obtain ⟨xs, o1, _, _⟩ := HLS.out
          have h := own_block o1 q
          have := HT3.out.size; have := HT4.out.size
          omega
        case measure => have := HN.out; have := HLA.out; have := HIE.out; have := HFL.out; simp [intOf]; omega
    · have i1 : ¬ ((l.first + i : Nat) : Int) ≤ (l.last : Int) := by have := HFL.out; have := HLA.out; omega
      have d4 := hP.1.log.cells.c4
      have e4 : l2.last = l.last := by
        rcases HM.out with ⟨_, _, e2⟩ | ⟨_, e2, _⟩ <;> rw [e2]
      rw [e4] at d4
      subst hie
      rw [List.take_length] at *
      have HP := Lib.hid hP
      have HLS := Lib.hid hls
      clear hP hls
      generalize l.first + fs.length = n at *
      go_wp2
      go_ret2
      exact ⟨⟨_, rfl, HLS.out⟩, HP.out, hWT⟩

end
end Go.Proofs.YtjjajnfkngfpjaaGreatDoor
