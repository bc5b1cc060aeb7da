/-
  step AND drop, cut AT THE FILE SYSTEM's OWN WORD.
-/
import Derived.Test.YtjjajnfkngfpjaaGreatDoorRep
import Derived.Test.YtjjajnfkngfpjaaGreatDoorWalk3
import Derived.RegionTactic
import Derived.ChangeAlike
import Derived.Deep.QuietTactic
import Derived.BigQuiet
namespace Go.Proofs.YtjjajnfkngfpjaaGreatDoor
open Go.RowKit Go.Maps Go.WideMaps

theorem heap_setCell_same {w : World} {p j : Nat} {cs : Array Value} {t : TypeId} {fr : Nat × Nat} (h : w.heap[p]? = some (.cells cs t fr)) (v : Value) : (w.setCell ⟨p, j, none⟩ v).heap[p]? = some (.cells (cs.setIfInBounds j v) t fr) := by
  simp [World.setCell, Array.getElem?_modify, h]

/-- so few writes that their number is an int's -/
def StepsOk (S : Fsp.Fs) : Prop := S.steps < 4611686018427387904

section
variable {w w' : World} {p : Nat} {S S' : Fsp.Fs} {c c' : Bool} {Q : Nat → Prop} {mo : Option Nat} {pl : List UInt8 → Pl}

theorem good_stepped (h : Fsp.Good S) : Fsp.Good (Fsp.stepped S) := by
  obtain ⟨h1, h2, h3, h4, h5, h6⟩ := h
  unfold Fsp.stepped
  split
  · exact ⟨h1, h2, h3, h4, by simp, h6⟩
  · exact ⟨h1, h2, h3, h4, by simp; omega, h6⟩

theorem stepped_L (S : Fsp.Fs) : (Fsp.stepped S).L = S.L := by unfold Fsp.stepped; split <;> rfl
theorem stepped_room (S : Fsp.Fs) : (Fsp.stepped S).room = S.room := by unfold Fsp.stepped; split <;> rfl

theorem turnP (w : World) (p j : Nat) (v : Value) : Turn (fun b => b = p) w (w.setCell ⟨p, j, none⟩ v) := Turn.setCell (Turn.refl (fun b => b = p) w) (p := ⟨p, j, none⟩) (Or.inl rfl) v

theorem step_no (h : RepX w p S c Q mo pl) (ha : S.armed = 1) :
    Calls Tryz.prog 68 #[.pointer (some ⟨p, 0, none⟩)] w fun r w' => r = .returned (.bool false) ∧ RepX w' p (Fsp.stepped S) c Q mo pl ∧ Turn (fun b => b = p) w w' := by
  have hc := h.cells
  rw [ha] at hc
  refine (step_armed hc).mono ?_
  rintro r w' ⟨rfl, rfl⟩
  have ht : Turn (fun b => b = p) w ((w.setCell ⟨p, 4, none⟩ (.int .i64 0)).setCell ⟨p, 5, none⟩ (.bool true)) := (turnP w p 4 _).setCell (Or.inl rfl) _
  refine ⟨rfl, h.setHead ht ?_ (stepped_L S) (good_stepped h.good), ht⟩
  rw [heap_setCell_same (heap_setCell_same h.head _)]
  simp [headOf, Fsp.stepped, ha]

theorem step_yes (h : RepX w p S c Q mo pl) (ha : S.armed ≠ 1) (hs : StepsOk S) :
    Calls Tryz.prog 68 #[.pointer (some ⟨p, 0, none⟩)] w fun r w' => r = .returned (.bool true) ∧ RepX w' p (Fsp.stepped S) c Q mo pl ∧ Turn (fun b => b = p) w w' := by
  have hg := h.good
  unfold StepsOk at hs
  refine (step_walk h.cells (by omega) (by omega) (by have := hg.2.2.2.2.1; omega) (by omega) (by omega)).mono ?_
  rintro r w' ⟨rfl, rfl⟩
  by_cases hp : 0 < (S.armed : Int)
  · simp only [if_pos hp]
    have ht : Turn (fun b => b = p) w ((w.setCell ⟨p, 4, none⟩ (.int .i64 ((S.armed : Int) - 1))).setCell ⟨p, 3, none⟩ (.int .i64 ((S.steps : Int) + 1))) := (turnP w p 4 _).setCell (Or.inl rfl) _
    refine ⟨trivial, h.setHead ht ?_ (stepped_L S) (good_stepped hg), ht⟩
    rw [heap_setCell_same (heap_setCell_same h.head _)]
    have e : ((S.armed - 1 : Nat) : Int) = (S.armed : Int) - 1 := by omega
    simp [headOf, Fsp.stepped, ha, e]
  · simp only [if_neg hp]
    have ht : Turn (fun b => b = p) w (w.setCell ⟨p, 3, none⟩ (.int .i64 ((S.steps : Int) + 1))) := turnP w p 3 _
    refine ⟨trivial, h.setHead ht ?_ (stepped_L S) (good_stepped hg), ht⟩
    rw [heap_setCell_same h.head _]
    have e : S.armed = 0 := by omega
    simp [headOf, Fsp.stepped, e]

/-- b is as a, but for how often the tape was asked -/
structure Like (a b : World) : Prop where
  heap : b.heap = a.heap
  os : b.os = a.os
  tape : b.tape = a.tape
  output : b.output = a.output

theorem Turn.like {Q : Nat → Prop} {a b c : World} (h : Turn Q a b) (k : Like b c) : Turn Q a c :=
  ⟨k.os.trans h.os, k.tape.trans h.tape, k.output.trans h.output, by rw [k.heap]; exact h.size, fun i hi hn => by rw [k.heap]; exact h.block i hi hn⟩

/-! ### a file's two cells -/
structure FCells (w : World) (fb : Nat) (sv : Value) (synced : Int) : Prop where
  c0 : w.cell? ⟨fb, 0, none⟩ = some sv
  c1 : w.cell? ⟨fb, 1, none⟩ = some (.int .i64 synced)
  fr : ∀ j, w.frozen? ⟨fb, j, none⟩ = false

theorem FileAt.cells {fb : Nat} {sv : Value} {f : Fsp.File} (h : FileAt w fb sv f) : FCells w fb sv f.synced := by
  have hh := h.1
  constructor <;> simp [World.cell?, World.frozen?, hh]

theorem own_slice {base : Nat} {v : Value} {n : Nat} {xs : List Value} (h : w.ownsRow base 5 1 v n xs) : ∃ sp cap, v = .slice sp n cap ∧ n ≤ cap ∧ (∀ r, v.ownBlock = some r → sp = some ⟨r, 0, none⟩) ∧ (sp = none → n = 0 ∧ cap = 0) := by
  rcases h.2 with ⟨rfl, rfl⟩ | ⟨g, cap, cur, rfl, _, _, h1, _⟩
  · exact ⟨none, 0, rfl, Nat.le_refl _, fun r hr => by simp [Value.ownBlock] at hr, fun _ => ⟨rfl, rfl⟩⟩
  · exact ⟨some ⟨g, 0, none⟩, cap, rfl, h1, fun r hr => by simp [Value.ownBlock] at hr; subst hr; rfl, fun e => by cases e⟩

set_option maxHeartbeats 400000 in
/-- cut, of any file's cells -/
theorem cut_walk {fb : Nat} {sp : Option Addr} {len cap : Nat} {room used steps armed synced : Int} {down crashing : Bool} (h : Cells w p mo room used steps armed down crashing) (hf : FCells w fb (.slice sp len cap) synced)
    (n : Nat) (hn : n ≤ len) (hlc : len ≤ cap) (hcap : cap ≤ maxLen) (hu : (len : Int) ≤ used) (hu2 : used ≤ 67108864) :
    Calls Tryz.prog 75 #[.pointer (some ⟨p, 0, none⟩), .pointer (some ⟨fb, 0, none⟩), .int .i64 n] w fun r w' => r = .returned (.tuple #[]) ∧
      Like (((w.setCell ⟨p, 2, none⟩ (.int .i64 (used - ((len : Int) - n)))).setCell ⟨fb, 0, none⟩ (.slice sp n cap)).setCell ⟨fb, 1, none⟩ (.int .i64 (min synced n))) w' := by
  have c2 := h.c2
  have k2 := h.fr 2
  have f0 := hf.c0
  have f1 := hf.c1
  have g0 := hf.fr 0
  have g1 := hf.fr 1
  unfold maxLen at hcap
  go_enter Tryz.func75, Tryz.ntmps75
  go_wp2
  go_region
  all_goals go_wp2
  all_goals go_end0
  all_goals exact ⟨rfl, rfl, rfl, rfl, rfl⟩

theorem good_put (h : Fsp.Good S) {n : List UInt8} {f' : Fsp.File} (hL : S'.L = Fsp.put S.L n f') (hr : S'.room = S.room) (ha : S'.armed ≤ 9223372036854775807) (hv : Fsp.valid n = true) (hsy : f'.synced ≤ f'.data.length)
    (hlen : (Fsp.find S.L n).isSome ∨ S.L.length < 400) (hu : Fsp.usedOf (Fsp.put S.L n f') ≤ S.room) : Fsp.Good S' := by
  obtain ⟨h1, h2, h3, h4, h5, h6⟩ := h
  refine ⟨by rw [hL]; exact Fsp.put_sorted h1 _ _, by rw [hL, hr]; exact hu, by rw [hr]; exact h3, ?_, ha, ?_⟩
  · rw [hL, Fsp.length_put _ h1]
    split
    · exact h4
    · rename_i hno
      rcases hlen with hh | hh
      · exact absurd hh hno
      · omega
  · intro m g hm
    rw [hL] at hm
    by_cases e : m = n
    · subst e
      rw [Fsp.find_put_same] at hm
      cases hm
      exact ⟨hv, hsy⟩
    · rw [Fsp.find_put_other _ e] at hm
      exact h6 m g hm

theorem good_del (h : Fsp.Good S) {n : List UInt8} (hL : S'.L = Fsp.del S.L n) (hr : S'.room = S.room) (ha : S'.armed ≤ 9223372036854775807) : Fsp.Good S' := by
  obtain ⟨h1, h2, h3, h4, h5, h6⟩ := h
  have hu : Fsp.usedOf (Fsp.del S.L n) ≤ Fsp.usedOf S.L := by
    cases hf : Fsp.find S.L n with
    | none => rw [Fsp.del_none hf]; exact Nat.le_refl _
    | some g => have := Fsp.used_del hf; omega
  refine ⟨by rw [hL]; exact Fsp.del_sorted h1 _, by rw [hL, hr]; omega, by rw [hr]; exact h3, ?_, ha, ?_⟩
  · rw [hL]; have := Fsp.length_del S.L n; omega
  · intro m g hm
    rw [hL] at hm
    have e := isSome_del h1 (n := n) (m := m) (by rw [hm]; rfl)
    rw [Fsp.find_del_other _ e.1] at hm
    exact h6 m g hm

theorem file_open (h : RepX w p S c Q mo pl) {n : List UInt8} {f : Fsp.File} (hf : Fsp.find S.L n = some f) :
    ∃ sp cap, (pl n).sv = .slice sp f.data.length cap ∧ f.data.length ≤ cap ∧ cap ≤ maxLen ∧ FCells w (pl n).fb (.slice sp f.data.length cap) f.synced := by
  have hfile := h.file n f hf
  obtain ⟨sp, cap, hsv, hlc, _⟩ := own_slice hfile.2
  have hc := hfile.cells
  rw [hsv] at hc
  refine ⟨sp, cap, hsv, hlc, ?_, hc⟩
  rcases hfile.2.2 with ⟨e, _⟩ | ⟨g, cap', cur, e, _, _, _, h2, _⟩
  · rw [hsv] at e; simp only [Value.slice.injEq] at e; rw [e.2.2]; exact Nat.zero_le _
  · rw [hsv] at e; simp only [Value.slice.injEq] at e; rw [e.2.2]; exact h2

theorem own_shrink {base : Nat} {sp : Option Addr} {len cap k : Nat} {data : List UInt8} (h : w.ownsRow base 5 1 (.slice sp len cap) len (data.map byteV)) (hk : k ≤ len) : w.ownsRow base 5 1 (.slice sp k cap) k ((data.take k).map byteV) := by
  have hl := h.1
  simp only [List.length_map, Nat.mul_one] at hl
  refine ⟨by simp; omega, ?_⟩
  rcases h.2 with ⟨hv, rfl⟩ | ⟨g, cap', cur, hv, hg, hh, h1, h2, h3, h4⟩
  · simp only [Value.slice.injEq] at hv
    obtain ⟨rfl, _, rfl⟩ := hv
    obtain rfl : k = 0 := by omega
    exact Or.inl ⟨rfl, rfl⟩
  · simp only [Value.slice.injEq] at hv
    obtain ⟨rfl, _, rfl⟩ := hv
    refine Or.inr ⟨g, cap, cur, rfl, hg, hh, by omega, h2, h3, ?_⟩
    rw [Nat.mul_one] at h4 ⊢
    rw [List.map_take, ← h4, List.take_take, Nat.min_eq_left hk]

/-- a file is cut -/
theorem RepX.cutTo (h : RepX w p S c Q mo pl) {n : List UInt8} {f : Fsp.File} {sp : Option Addr} {cap : Nat} {w2 : World} (k kk : Nat) (hf : Fsp.find S.L n = some f) (hk : k ≤ f.data.length) (hkk : kk ≤ k) (hsv : (pl n).sv = .slice sp f.data.length cap)
    (ht : Turn (fun b => b = p ∨ b = (pl n).fb) w w2) (hh : w2.heap[p]? = some (.cells #[.map mo, .int .i64 (S.room : Int), .int .i64 ((Fsp.usedOf S.L : Int) - ((f.data.length : Int) - k)), .int .i64 (S.steps : Int), .int .i64 (S.armed : Int), .bool S.down, .bool c] 67 (0, 0)))
    (hb : w2.heap[(pl n).fb]? = some (.cells #[.slice sp k cap, .int .i64 (kk : Int)] 90 (0, 0))) :
    RepX w2 p { S with L := Fsp.put S.L n ⟨f.data.take k, kk⟩ } c (Grow Q w w2) mo (setPl pl n ⟨(pl n).fb, .slice sp k cap⟩) := by
  have hfile := h.file n f hf
  have hu := Fsp.used_put_some h.good.1 hf ⟨f.data.take k, kk⟩
  have hlen : (f.data.take k).length = k := by simp; omega
  simp only [hlen] at hu
  have hown : w.ownsRow 0 5 1 (.slice sp f.data.length cap) f.data.length (f.data.map byteV) := by rw [← hsv]; exact hfile.2
  have hblk : ∀ r, (Value.slice sp k cap).ownBlock = some r → (pl n).sv.ownBlock = some r := by
    intro r hr
    rw [hsv]
    cases sp
    · simp [Value.ownBlock] at hr
    · simpa [Value.ownBlock] using hr
  refine h.setFile (f' := ⟨f.data.take k, kk⟩) hf (ht.mono fun i hi => hi.elim Or.inl (fun e => Or.inr (Or.inl e))) ?_ rfl ?_ ⟨hb, ?_⟩ (fun r hr => Or.inl (hblk r hr))
  · rw [hh]
    have e : ((Fsp.usedOf S.L : Int) - ((f.data.length : Int) - k)) = (Fsp.usedOf (Fsp.put S.L n ⟨f.data.take k, kk⟩) : Nat) := by omega
    simp only [headOf, e]
  · exact good_put h.good rfl rfl h.good.2.2.2.2.1 (h.good.2.2.2.2.2 n f hf).1 (by simp only [hlen]; exact hkk) (Or.inl (by rw [hf]; rfl)) (by have := h.good.2.1; omega)
  · simp only [hlen]
    exact ownsRow_turned (own_shrink hown hk) ht (fun r hr e => by
      have hr' := hblk r hr
      rcases e with e | e
      · exact h.p_ne_row hf hr' e.symm
      · exact h.fb_ne_row hf hf hr' e.symm)

theorem down_is (h : RepX w p S c Q mo pl) {b : Bool} (hd : S.down = b) : Calls Tryz.prog 44 #[.pointer (some ⟨p, 0, none⟩)] w fun r w' => r = .returned (.bool b) ∧ w = w' := by
  have := h.cells
  rw [hd] at this
  exact down_any this

/-- what a call leaves: the file system as it should be, its blocks its own or new ones; nothing else has turned -/
def Post (w : World) (p : Nat) (S' : Fsp.Fs) (Q : Nat → Prop) (w' : World) : Prop := Rep w' p S' (Grow Q w w') ∧ Turn Q w w'

theorem RepX.grow (w : World) (h : RepX w' p S c Q mo pl) : RepX w' p S c (Grow Q w w') mo pl :=
  h.mono (fun _ hb => Grow.old hb) (fun b hb => by rcases hb with hb | hb; exact h.lt b hb; exact hb.2)

theorem Post.same (h : RepX w p S false Q mo pl) : Post w p S Q w := ⟨⟨mo, pl, h.grow w⟩, Turn.refl _ _⟩

theorem Post.head (h : RepX w' p S false Q mo pl) (hp : Q p) (ht : Turn (fun b => b = p) w w') : Post w p S Q w' := by
  have t : Turn Q w w' := ht.mono fun i e => by rw [e]; exact hp
  exact ⟨⟨mo, pl, h.grow w⟩, t⟩

theorem Grow.trans {a b d : World} {Q : Nat → Prop} (h1 : a.heap.size ≤ b.heap.size) (h2 : b.heap.size ≤ d.heap.size) (i : Nat) (h : Grow (Grow Q a b) b d i) : Grow Q a d i := by
  rcases h with (h | h) | h
  · exact Or.inl h
  · exact Or.inr ⟨h.1, by omega⟩
  · exact Or.inr ⟨by omega, h.2⟩

theorem Grow.after {a b d : World} {Q : Nat → Prop} (h1 : a.heap.size ≤ b.heap.size) (i : Nat) (h : Grow Q b d i) : Grow Q a d i := by
  rcases h with h | h
  · exact Or.inl h
  · exact Or.inr ⟨by omega, h.2⟩

/-- behind a step and a write to one file -/
theorem Post.file {w1 w2 : World} {n : List UInt8} {f f' : Fsp.File} {sv' : Value} (h1 : RepX w1 p S false Q mo pl) (ht : Turn (fun b => b = p) w w1) (hf : Fsp.find S.L n = some f)
    (ht2 : Turn (fun b => b = p ∨ b = (pl n).fb ∨ (pl n).sv.ownBlock = some b) w1 w2) (hh : w2.heap[p]? = some (headOf S' false mo)) (hL : S'.L = Fsp.put S.L n f') (hg : Fsp.Good S')
    (hfile : FileAt w2 (pl n).fb sv' f') (hnew : ∀ r, sv'.ownBlock = some r → (pl n).sv.ownBlock = some r ∨ w1.heap.size ≤ r) : Post w p S' Q w2 := by
  have h2 := h1.setFile hf ht2 hh hL hg hfile hnew
  refine ⟨⟨mo, _, h2.mono (fun i hi => Grow.after ht.size i hi) ?_⟩, ?_⟩
  · intro b hb
    rcases hb with hb | hb
    · exact Nat.lt_of_lt_of_le (h1.lt b hb) ht2.size
    · exact hb.2
  · refine (ht.mono (fun i e => by rw [e]; exact h1.inP)).trans ht2 (fun i _ hi => ?_)
    rcases hi with e | e | e
    · rw [e]; exact h1.inP
    · rw [e]; exact h1.inF n (by rw [hf]; rfl)
    · exact h1.inR n (by rw [hf]; rfl) i e

theorem heap_setCell_other {w : World} {p j k : Nat} (h : k ≠ p) (v : Value) : (w.setCell ⟨p, j, none⟩ v).heap[k]? = w.heap[k]? := Below.heap_setCell _ _ _ _ h

/-- whoever holds it in a later world, holds it with the blocks since the first -/
theorem Post.of {w1 w2 : World} {mo2 : Option Nat} {pl2 : List UInt8 → Pl} (h1 : RepX w1 p S false Q mo pl) (ht : Turn (fun b => b = p) w w1) (h2 : RepX w2 p S' false (Grow Q w1 w2) mo2 pl2) (ht2 : Turn Q w1 w2) : Post w p S' Q w2 := by
  refine ⟨⟨mo2, _, h2.mono (fun i hi => Grow.after ht.size i hi) ?_⟩, ?_⟩
  · intro b hb
    rcases hb with hb | hb
    · exact Nat.lt_of_lt_of_le (h1.lt b hb) ht2.size
    · exact hb.2
  · exact (ht.mono (fun i e => by rw [e]; exact h1.inP)).trans ht2 (fun i _ hi => hi)

/-- the write of a file's second cell alone -/
theorem Post.syncCell {w1 w2 : World} {n : List UInt8} {f : Fsp.File} (k : Nat) (h1 : RepX w1 p S false Q mo pl) (ht : Turn (fun b => b = p) w w1) (hf : Fsp.find S.L n = some f) (hk : k ≤ f.data.length)
    (hL : S' = { S with L := Fsp.put S.L n ⟨f.data, k⟩ }) (hw : w2 = w1.setCell ⟨(pl n).fb, 1, none⟩ (.int .i64 (k : Int))) : Post w p S' Q w2 := by
  subst hw; subst hL
  have hfile := h1.file n f hf
  have hu := Fsp.used_put_some h1.good.1 hf ⟨f.data, k⟩
  have ht2 : Turn (fun b => b = p ∨ b = (pl n).fb ∨ (pl n).sv.ownBlock = some b) w1 (w1.setCell ⟨(pl n).fb, 1, none⟩ (.int .i64 (k : Int))) := Turn.setCell (Turn.refl _ _) (p := ⟨(pl n).fb, 1, none⟩) (Or.inl (Or.inr (Or.inl rfl))) _
  have ht3 : Turn (fun b => b = (pl n).fb) w1 (w1.setCell ⟨(pl n).fb, 1, none⟩ (.int .i64 (k : Int))) := turnP _ _ _ _
  have hu2 : Fsp.usedOf (Fsp.put S.L n ⟨f.data, k⟩) = Fsp.usedOf S.L := by simp only at hu; omega
  refine Post.file (sv' := (pl n).sv) (f' := ⟨f.data, k⟩) h1 ht hf ht2 ?_ rfl ?_ ⟨?_, ?_⟩ (fun r hr => Or.inl hr)
  · rw [heap_setCell_other (h1.p_ne_fb hf), h1.head]
    simp only [headOf, hu2]
  · exact good_put h1.good rfl rfl h1.good.2.2.2.2.1 (h1.good.2.2.2.2.2 n f hf).1 hk (Or.inl (by rw [hf]; rfl)) (by rw [hu2]; exact h1.good.2.1)
  · rw [heap_setCell_same hfile.1]; rfl
  · exact ownsRow_turned hfile.2 ht3 (fun r hr e => h1.fb_ne_row hf hf hr e.symm)

end
end Go.Proofs.YtjjajnfkngfpjaaGreatDoor
