/-
  Copy.
-/
import Derived.Test.YtpaekggmphahoaaFpG
import Derived.Sort.KeysCollected
namespace Go.Proofs.Ytpaekggmphahoaa
open Go.RowKit Go.Maps Go.WideMaps Go.Sort

section
variable {w w' : World} {p : Nat} {S : Fsp.Fs} {c : Bool} {Q : Nat → Prop} {mo : Option Nat} {pl : List UInt8 → Pl}

theorem make_hint (n : Int) (w : World) : (Instr.makeMap 53 (some (.int .i64 n))).run Try.prog w = .ok (.map (some w.heap.size)) (w.alloc (.map #[] 0)) := by kernel_rfl

theorem Turn.grownBy {mb : Nat} (h : Turn (fun b => b = mb) w w') : w.grownBy w' (some mb) := ⟨h.os, h.tape, h.output, h.size, fun k hk hn => h.block k hk (fun e => hn (by rw [e]))⟩

theorem own_zero {base : Nat} {e : TypeId} {size n : Nat} {v : Value} {xs : List Value} (h : w.ownsRow base e size v n xs) : w.ownsRow 0 e size v n xs := by
  refine ⟨h.1, ?_⟩
  rcases h.2 with hn | ⟨g, cap, cur, e, _, rest⟩
  · exact .inl hn
  · exact .inr ⟨g, cap, cur, e, Nat.zero_le _, rest⟩

/-- what one round lays -/
theorem copied_file {w2 w3 w4 : World} {mb g fb : Nat} {f : Fsp.File} (ht3 : Turn (fun _ => False) w2 w3) (hown3 : w3.ownsRow w2.heap.size 5 1 (.slice (some ⟨g, 0, none⟩) f.data.length f.data.length) f.data.length (f.data.map byteV))
    (hm : mb < w2.heap.size) (hcell : w4.heap[fb]? = some (.cells #[.slice (some ⟨g, 0, none⟩) f.data.length f.data.length, .int .i64 (f.synced : Int)] 59 (0, 0))) (ht4 : Turn (fun b => b = mb) w3 w4) :
    FileAt w4 fb (.slice (some ⟨g, 0, none⟩) f.data.length f.data.length) f ∧ ∀ r, (Value.slice (some ⟨g, 0, none⟩) f.data.length f.data.length).ownBlock = some r → w2.heap.size ≤ r := by
  have hr := fun r hr => (hown3.lt r hr).1
  have h3 := ht3.size
  exact ⟨⟨hcell, ownsRow_turned (own_zero hown3) ht4 (fun r hr' e => by have := hr r hr'; omega)⟩, hr⟩

/-- a round's end -/
theorem round_end {wr w2 w3 w4 : World} {B mb0 g k cnt n : Nat} {x : List UInt8} {met : List (List UInt8)} {f : Fsp.File} {D D2 : DataW Unit} {left : Lit → Bool} {pl' : List UInt8 → Pl} (hs : Fsp.Good S) (hB : w.heap.size = B) (hmb0 : mb0 < B) (hw2 : w2.heap.size = wr.heap.size)
    (hr : w2.ranges Try.prog 9 ptrElem mb0 (B + 2) n D left cnt) (hh : Half w2 B (B + 1) S (fun n => decide (n ∈ met)) (fun b => B ≤ b ∧ b < wr.heap.size ∧ b ≠ B + 2) pl') (hf : Fsp.find S.L x = some f) (hx : x ∉ met)
    (hownM : w2.ownsMap Try.prog 9 ptrElem (B + 1) (Fsp.only S.L fun n => decide (n ∈ met)).length D2) (hag : Agree D2 (Fsp.only S.L fun n => decide (n ∈ met)) pl') (hT2 : Turn (fun _ => False) w w2) (T3 : Turn (fun _ => False) w2 w3)
    (hown3 : w3.ownsRow w2.heap.size 5 1 (.slice (some ⟨g, 0, none⟩) f.data.length f.data.length) f.data.length (f.data.map byteV))
    (hown4 : w4.ownsMap Try.prog 9 ptrElem (B + 1) k (D2.put (.string x) (fbLit w3.heap.size)))
    (hg : (w3.alloc (.cells #[.slice (some ⟨g, 0, none⟩) f.data.length f.data.length, .int .i64 (f.synced : Int)] 59)).grownBy w4 (some (B + 1))) :
    w4.ranges Try.prog 9 ptrElem mb0 (B + 2) n D left cnt ∧ Half w4 B (B + 1) S (fun n => decide (n ∈ met ++ [x])) (fun b => B ≤ b ∧ b < w4.heap.size ∧ b ≠ B + 2) (setPl pl' x ⟨w3.heap.size, .slice (some ⟨g, 0, none⟩) f.data.length f.data.length⟩) ∧ Turn (fun _ => False) w w4 := by
  have hml := hownM.lt
  have hil := hr.lt
  have h3 := T3.size
  have T34 : Turn (fun b => b = B + 1) w3 w4 := (Turn.alloc (Turn.refl (fun b => b = B + 1) w3) _).grown hg (fun k e => by cases e; exact Or.inl rfl)
  have T24 : Turn (fun b => b = B + 1) w2 w4 := (T3.mono (fun _ q => q.elim)).trans T34 (fun _ _ q => q)
  have hcell : w4.heap[w3.heap.size]? = some (.cells #[.slice (some ⟨g, 0, none⟩) f.data.length f.data.length, .int .i64 (f.synced : Int)] 59 (0, 0)) :=
    (hg.block _ (by simp) (fun e => by simp at e; omega)).trans (heap_alloc_new _ _)
  obtain ⟨hfile, hrow⟩ := copied_file T3 hown3 hml hcell T34
  have hadd := hh.add (P' := fun n => decide (n ∈ met ++ [x])) hs hf (by simpa using hx) (by simp) (fun m hm => by simp [hm]) hownM hag T24 hown4 hfile h3 hrow
  refine ⟨hr.kept T24.grownBy (by simp; omega) (by simp), hadd.mono (fun b hb => ?_) (fun b hb => hb.2.1), hT2.trans T24 (fun i hi e => by omega)⟩
  rcases hb with hb | hb
  · have := T24.size
    exact ⟨hb.1, by omega, hb.2.2⟩
  · exact ⟨by omega, hb.2, by omega⟩

set_option maxRecDepth 100000 in
set_option maxHeartbeats 4000000 in
theorem copy_some {mb0 : Nat} (h : RepX w p S c Q (some mb0) pl) :
    Calls Try.prog 8 #[.pointer (some ⟨p, 0, none⟩)] w fun r w' => r = .returned (.pointer (some ⟨w.heap.size, 0, none⟩)) ∧ Since w w.heap.size S w' := by
  have c0 := h.cells.c0
  have c1 := h.cells.c1
  have c2 := h.cells.c2
  have c3 := h.cells.c3
  have c4 := h.cells.c4
  have c5 := h.cells.c5
  have c6 := h.cells.c6
  have ka := cell_alloc c0
  have kb := fun (o o2 : Obj) => cell_alloc (cell_alloc c0 o) o2
  have mh := make_hint
  obtain ⟨D, hown, hag⟩ := h.map
  have hown1 := fun (o o2 : Obj) => ownsMap_turned hown ((turnBox w o).alloc o2) (fun q => q)
  go_enter Try.func8, Try.ntmps8
  go_wp2_with (first | (at_len; refine wpList_len_run rfl _ 53 rfl _ _ rfl (len_is (h.turned (turnBox w _) (fun _ _ q => q))) ?_) | (at_range; refine wpList_range_own _ rfl _ 53 rfl 9 56 lawS Try.underlying53 _ mb0 _ D rfl (hown1 _ _) ?_; intro w1 hrg1 hg1 hs1))
  have hsz : w1.heap.size = w.heap.size + 3 := by simpa using hs1
  have hT1 : Turn (fun _ => False) w w1 := ((turnBox w _).alloc _).grown hg1 (fun k e => by cases e)
  have hhd : w1.heap[w.heap.size]? = some (headOf S false (some (w.heap.size + 1))) :=
    (hg1.block _ (by simp; omega) (by simp)).trans ((Below.heap_alloc _ _ _ (by simp)).trans (heap_alloc_new _ _))
  have hmp : w1.ownsMap Try.prog 9 ptrElem (w.heap.size + 1) 0 (.map []) := by
    have h1 := World.ownsMap_made (w.alloc (headOf S false (some (w.heap.size + 1)))) Try.prog 9 ptrElem
    have h2 := ownsMap_turned h1 ((Turn.refl (fun _ => False) _).grown hg1 (fun k e => by cases e)) (fun q => q)
    simpa using h2
  have hhalf := Half.start h.good hhd hmp (by omega) pl
  have hitr : (((w.alloc (headOf S false (some (w.heap.size + 1)))).alloc (.map #[] 0)).heap.size) = w.heap.size + 2 := by simp
  rw [hitr] at hrg1 ⊢
  clear hs1 hg1 hhd hmp hitr mh ka kb hown1 c0 c1 c2 c3 c4 c5 c6
  generalize hB : w.heap.size = B at *
  have HH := Lib.hid (And.intro h.good (show mb0 < B by rw [← hB]; exact hown.lt))
  have hH := Lib.hid h
  have HA := Lib.hid hag
  clear h hag
  go_frame
  go_loopw [] (fun wr => ∃ (left : Lit → Bool) (cnt : Nat) (met : List (List UInt8)) (pl' : List UInt8 → Pl), wr.ranges Try.prog 9 ptrElem mb0 (B + 2) S.L.length D left cnt ∧ Collected D left met ∧
      Half wr B (B + 1) S (fun n => decide (n ∈ met)) (fun b => B ≤ b ∧ b < wr.heap.size ∧ b ≠ B + 2) pl' ∧ Turn (fun _ => False) w wr)
    (fun wr => wr.rangeLeft mb0 (B + 2))
  case atStart =>
    refine ⟨_, _, [], pl, hrg1, Collected.start D, ?_, hT1⟩
    have e : (fun n : List UInt8 => decide (n ∈ ([] : List (List UInt8)))) = fun _ => false := by funext n; simp
    rw [e]
    exact hhalf.mono (fun b hb => by rcases hb with rfl | rfl <;> omega) (fun b hb => hb.2.1)
  case round =>
    obtain ⟨left, cnt, met, pl', hrg, hC, hhf, ht⟩ := hrel
    have HC := Lib.hid hC
    have HHF := Lib.hid hhf
    have HT := Lib.hid ht
    clear hC hhf ht hhalf hT1 hrg1
    go_wp2_with (at_next; refine wpList_next_ranges _ rfl _ rfl 9 lawS ptrElem encStr Value.pointer (fun key kl hk => by obtain ⟨x, hx, _⟩ := Maps.keyOf_str Try.underlying9 hk; exact ⟨x, hx⟩) (fun v y hv => by rcases ptrElem_shape hv with ⟨rfl, _⟩ | ⟨b, rfl, _⟩; exact ⟨_, rfl⟩; exact ⟨_, rfl⟩) mb0 (B + 2) _ _ _ _ rfl hrg ?_ ?_)
    · intro hc0 hl0
      have HL := Lib.hid hl0
      clear hl0 hc0
      go_wp2
      go_ret
      subst hB
      refine ⟨rfl, ?_, HT.out⟩
      have hall : Fsp.only S.L (fun n => decide (n ∈ met)) = S.L := Fsp.only_all fun x hx => by
        rw [decide_eq_true_iff]
        refine (HC.out.2 x.1).2 ⟨?_, HL.out _⟩
        rw [HA.out.has x.1, Fsp.mem_find hH.out.good.1 hx]; rfl
      exact ⟨_, _, (HHF.out.done hH.out.good hall).mono (fun b hb => ⟨hb.1, hb.2.1⟩) (fun b hb => hb.2)⟩
    · intro x c0 kl yd yp w2 cnt2 hkey hlk hv hat hrg2 hlt hg2 hs2 hen
      obtain ⟨x', ex, rfl, hxs⟩ := Maps.keyOf_str Try.underlying9 hkey
      obtain rfl : x = x' := encStr_inj ex
      have hstep := HC.out.step hlk hat
      have hx1 : Maps.has D (.string x) = true := ((hstep.2 x).1 (by simp)).1
      have hx2 : x ∉ met := fun hm => by have := ((HC.out.2 x).1 hm).2; rw [hlk] at this; cases this
      obtain ⟨f, hf⟩ : ∃ f, Fsp.find S.L x = some f := by rw [HA.out.has x] at hx1; exact Option.isSome_iff_exists.1 hx1
      have hy := (hat (.nil)).symm.trans (HA.out.at_ x f hf .nil)
      subst hy
      have hc0 := ptrElem_inv hv
      obtain rfl : c0 = some ⟨(pl x).fb, 0, none⟩ := by simpa using hc0
      have ht2 : Turn (fun _ => False) w w2 := HT.out.grown hg2 (fun k e => by cases e; right; omega)
      have hr2 := hH.out.turned ht2 (fun _ _ q => q)
      obtain ⟨sp, cap, hsv, hlc, hcap, hfc⟩ := file_open hr2 hf
      have hsl : SliceR w2 (.slice sp f.data.length cap) f.data := by rw [← hsv]; exact SliceR.of_own (hr2.file x f hf).2
      have hlen : f.data.length ≤ 281474976710656 := by have := len_room hr2 hf; omega
      have hhf2 := HHF.out.turned ((Turn.refl (fun b => b = B + 2) wr).grown hg2 (fun k e => by cases e; exact Or.inl rfl)) (fun b hb e => hb.2.2 e)
      have q0 : w2.cell? ⟨B, 0, none⟩ = some (.map (some (B + 1))) := by simp [World.cell?, hhf2.head]
      obtain ⟨D2, hownM, hagM⟩ := hhf2.map
      have hn : (Fsp.only S.L fun n => decide (n ∈ met)).length < maxLen := by
        have h1 := Fsp.only_length S.L (fun n => decide (n ∈ met))
        have h2 := hH.out.good.2.2.2.1
        unfold maxLen; omega
      have f0 := hfc.c0
      have f1 := hfc.c1
      have qa := cell_alloc q0
      have fa0 := cell_alloc f0
      have fa1 := cell_alloc f1
      have hxz : (⟨x.toArray⟩ : ByteArray).size ≤ maxLen := by rw [Lib.size_eq]; exact hxs
      have HN := Lib.hid hn
      have HSL := Lib.hid hsl
      have HLN := Lib.hid hlen
      have HST := Lib.hid hstep
      have HF := Lib.hid hf
      have HX2 := Lib.hid hx2
      have HR2 := Lib.hid hr2
      have HHF2 := Lib.hid hhf2
      have HT2 := Lib.hid ht2
      have HXS := Lib.hid hxz
      have HAG := Lib.hid hagM
      clear hn hsl hlen hstep hf hx2 hx1 hr2 hhf2 ht2 hxz hagM hc0 hkey hlk hat hv ex hcap hlc hfc hsv
      unfold encStr at hen
      unfold encStr
      go_wp2_with fail
      go_region_with (first | (go_at_call 21; refine (copied_any (HSL.out.turned (by repeat (first | exact Turn.refl _ _ | apply Turn.alloc | apply Turn.drew))) HLN.out).mono ?_; rintro r w3 ⟨g, rfl, hown3, ht3⟩; have T3 : Turn (fun _ => False) w2 w3 := Turn.trans (by repeat (first | exact Turn.refl _ _ | apply Turn.alloc | apply Turn.drew)) ht3 (fun _ _ q => q); have q1 := turn_cell T3 q0; have q2 := cell_alloc q1; have k1 := turn_cell T3 f1; have k2 := cell_alloc k1; have k0 := turn_cell T3 f0) | (with_reducible refine upon_mapUpdate (ownsMap_turned hownM (by repeat (first | exact T3 | exact Turn.refl _ _ | apply Turn.alloc | apply Turn.drew)) (fun q => q)) lawS Try.underlying53 HN.out (keyOf_string_mk Try.underlying9 HXS.out) (ptrElem_mk _) ?_; intro w4 hown4 hgr4))
      all_goals
        have hE := round_end HH.out.1 hB HH.out.2 hs2 hrg2 HHF2.out HF.out HX2.out hownM HAG.out HT2.out T3 hown3 hown4 hgr4
        go_roundw
        case rel =>
          (repeat apply Exists.intro)
          refine ⟨?_, rfl⟩
          exact ⟨_, cnt2, _, _, hE.1, HST.out, hE.2.1, hE.2.2⟩
        case measure => rw [hE.1.left_eq, hrg.left_eq]; exact hlt

end
end Go.Proofs.Ytpaekggmphahoaa
