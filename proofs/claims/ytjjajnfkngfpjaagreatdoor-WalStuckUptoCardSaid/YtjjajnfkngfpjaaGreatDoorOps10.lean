/-
  Crash.
-/
import Derived.Test.YtjjajnfkngfpjaaGreatDoorOps9
import Derived.Test.YtjjajnfkngfpjaaGreatDoorPlain2
namespace Go.Proofs.YtjjajnfkngfpjaaGreatDoor
open Go.RowKit Go.Maps Go.WideMaps Go.Sort

section
variable {w w' : World} {p : Nat} {S S' : Fsp.Fs} {c c' : Bool} {Q : Nat → Prop} {mo : Option Nat} {pl : List UInt8 → Pl}

def asksOf (L : List (List UInt8 × Fsp.File)) : List (List UInt8 × Nat) := L.flatMap askOf

theorem good_with (h : Fsp.Good S) (hL : S'.L = S.L) (hr : S'.room = S.room) (ha : S'.armed ≤ 9223372036854775807) : Fsp.Good S' := by
  obtain ⟨h1, h2, h3, h4, _, h6⟩ := h
  exact ⟨by rw [hL]; exact h1, by rw [hL, hr]; exact h2, by rw [hr]; exact h3, by rw [hL]; exact h4, ha, by rw [hL]; exact h6⟩

/-- the loop's relation: k files torn -/
structure Crashing (w2 : World) (p : Nat) (S : Fsp.Fs) (Q : Nat → Prop) (mo : Option Nat) (I : World → List (List UInt8 × Nat) → Prop) (kf : List UInt8 → Nat → Int) (Qc : Nat → Prop) (l : List (List UInt8 × Nat)) (k : Nat) (wr : World) : Prop where
  rep : ∃ pl, RepX wr p { S with L := Fsp.crashTo S.L kf k } true (Grow Q w2 wr) mo pl
  asked : I wr (l ++ asksOf (S.L.take k))
  turn : Turn (fun b => Q b ∨ Qc b) w2 wr

theorem Crashing.step {w2 wr w3 : World} {I : World → List (List UInt8 × Nat) → Prop} {kf : List UInt8 → Nat → Int} {Qc : Nat → Prop} {l : List (List UInt8 × Nat)} {k : Nat} {x : List UInt8 × Fsp.File} (hs : Fsp.Sorted S.L) (hx : S.L[k]? = some x) (ht : Turn (fun b => Q b ∨ Qc b) w2 wr)
    (h1 : ∃ pl', RepX w3 p { S with L := Fsp.put (Fsp.crashTo S.L kf k) x.1 (Fsp.torn x.2 (kf x.1 (x.2.data.length - x.2.synced))) } true (Grow (Grow Q w2 wr) wr w3) mo pl') (h2 : Turn (fun b => Grow Q w2 wr b ∨ Qc b) wr w3)
    (h3 : I w3 (l ++ asksOf (S.L.take k) ++ askOf x)) : Crashing w2 p S Q mo I kf Qc l (k + 1) w3 := by
  obtain ⟨pl', h1⟩ := h1
  rw [Fsp.crashTo_put hs kf hx] at h1
  refine ⟨⟨pl', h1.mono (fun i hi => Grow.trans ht.size h2.size i hi) (fun i hi => ?_)⟩, ?_, ?_⟩
  · rcases hi with hi | hi
    · exact h1.lt i (Or.inl (Or.inl hi))
    · exact hi.2
  · obtain ⟨hk, hx'⟩ := List.getElem?_eq_some_iff.1 hx
    have e : asksOf (S.L.take (k + 1)) = asksOf (S.L.take k) ++ askOf x := by
      unfold asksOf
      rw [List.take_succ_eq_append_getElem hk, hx']; simp
    rw [e, ← List.append_assoc]; exact h3
  · refine ht.trans h2 (fun i hi hq => ?_)
    rcases hq with (hq | hq) | hq
    · exact Or.inl hq
    · omega
    · exact Or.inr hq

theorem row_cells {base n : Nat} {v : Value} {xs : List (List UInt8)} (h : w.ownsRow base 9 1 v n (xs.map encStr)) : ∃ sp cap, v = .slice sp n cap ∧
    ∀ j x, xs[j]? = some x → ∃ g, sp = some ⟨g, 0, none⟩ ∧ w.cell? ⟨g, j, none⟩ = some (encStr x) ∧ base ≤ g ∧ g < w.heap.size := by
  have hl := h.1
  simp only [List.length_map, Nat.mul_one] at hl
  rcases h.2 with ⟨rfl, rfl⟩ | ⟨g, cap, cur, rfl, hb, hh, _⟩
  · refine ⟨none, 0, rfl, fun j x hj => ?_⟩
    have := (List.getElem?_eq_some_iff.1 hj).1
    omega
  · refine ⟨_, cap, rfl, fun j x hj => ⟨g, rfl, ?_, hb, (Array.getElem?_eq_some_iff.1 hh).1⟩⟩
    have hj1 := (List.getElem?_eq_some_iff.1 hj).1
    rw [h.cellAt j (by omega), List.getElem?_map, hj]; rfl

theorem crash_round {w2 wr : World} {kv : Value} {I : World → List (List UInt8 × Nat) → Prop} {kf : List UInt8 → Nat → Int} {Qc : Nat → Prop} {l : List (List UInt8 × Nat)} {k : Nat} {x : List UInt8 × Fsp.File} (hK : Keeper kv I kf Qc) (hd : ∀ b, Qc b → ¬ Q b ∧ b < w2.heap.size)
    (hcr : Crashing w2 p S Q mo I kf Qc l k wr) (hs : Fsp.Sorted S.L) (hx : S.L[k]? = some x) (hlen : x.1.length ≤ 100) :
    Calls Tryz.prog 54 #[.pointer (some ⟨p, 0, none⟩), encStr x.1, kv] wr fun r w3 => r = .returned (.tuple #[]) ∧ Crashing w2 p S Q mo I kf Qc l (k + 1) w3 := by
  obtain ⟨pl, hr⟩ := hcr.rep
  have es : (⟨x.1.toArray⟩ : ByteArray).data.toList = x.1 := by simp
  have hf : Fsp.find (Fsp.crashTo S.L kf k) (⟨x.1.toArray⟩ : ByteArray).data.toList = some x.2 := by rw [es]; exact Fsp.crashTo_find hs kf hx
  have hz : (⟨x.1.toArray⟩ : ByteArray).size ≤ maxLen := by unfold maxLen; simp [ByteArray.size]; omega
  have hd' : ∀ b, Qc b → ¬ Grow Q w2 wr b := fun b q q' => by
    rcases q' with q' | q'
    · exact (hd b q).1 q'
    · have := (hd b q).2; omega
  refine (tear_any hK hcr.asked hd' hr ⟨x.1.toArray⟩ hz hf).mono ?_
  rintro r w3 ⟨rfl, ⟨h1, h2⟩, h3⟩
  simp only at h1 h3
  exact ⟨rfl, Crashing.step hs hx hcr.turn h1 h2 h3⟩

theorem crash_end {w1 w2 wr : World} {kv : Value} {I : World → List (List UInt8 × Nat) → Prop} {kf : List UInt8 → Nat → Int} {Qc : Nat → Prop} {l : List (List UInt8 × Nat)} (hK : Keeper kv I kf Qc) (t1 : Turn (fun b => b = p) w w1) (t2 : Turn (fun _ => False) w1 w2) (hd : ∀ b, Qc b → ¬ Q b ∧ b < w.heap.size)
    (h : RepX w p S false Q mo pl) (hcr : Crashing w2 p { S with down := true } Q mo I kf Qc l S.L.length wr) :
    Rep (((wr.setCell ⟨p, 6, none⟩ (.bool false)).setCell ⟨p, 5, none⟩ (.bool false)).setCell ⟨p, 4, none⟩ (.int .i64 0)) p (Fsp.crash S kf) (Grow Q w (((wr.setCell ⟨p, 6, none⟩ (.bool false)).setCell ⟨p, 5, none⟩ (.bool false)).setCell ⟨p, 4, none⟩ (.int .i64 0))) ∧
    I (((wr.setCell ⟨p, 6, none⟩ (.bool false)).setCell ⟨p, 5, none⟩ (.bool false)).setCell ⟨p, 4, none⟩ (.int .i64 0)) (l ++ asksOf S.L) ∧
    Turn (fun b => Q b ∨ Qc b) w (((wr.setCell ⟨p, 6, none⟩ (.bool false)).setCell ⟨p, 5, none⟩ (.bool false)).setCell ⟨p, 4, none⟩ (.int .i64 0)) := by
  obtain ⟨pl3, h3⟩ := hcr.rep
  have t3 : Turn (fun b => b = p) wr (((wr.setCell ⟨p, 6, none⟩ (.bool false)).setCell ⟨p, 5, none⟩ (.bool false)).setCell ⟨p, 4, none⟩ (.int .i64 0)) := ((turnP wr p 6 _).set p 5 (Or.inl rfl) _).set p 4 (Or.inl rfl) _
  have eL : Fsp.crashTo S.L kf S.L.length = S.L.map (Fsp.tornAt kf) := Fsp.crashTo_end _ _
  have t12 : Turn (fun b => Q b ∨ Qc b) w w2 := (t1.mono (fun i e => Or.inl (by rw [e]; exact h.inP))).trans t2 (fun _ _ q => q.elim)
  have t13 : Turn (fun b => Q b ∨ Qc b) w wr := t12.trans hcr.turn (fun _ _ q => q)
  have h4 : RepX (((wr.setCell ⟨p, 6, none⟩ (.bool false)).setCell ⟨p, 5, none⟩ (.bool false)).setCell ⟨p, 4, none⟩ (.int .i64 0)) p (Fsp.crash S kf) false (Grow Q w2 wr) mo pl3 :=
    h3.setHead t3 (by
      rw [heap_setCell_same (heap_setCell_same (heap_setCell_same h3.head _) _)]
      simp only [headOf, eL]; rfl) (by simp only [eL]; rfl) (good_with h3.good (by simp only [eL]; rfl) rfl (by simp [Fsp.crash]))
  refine ⟨⟨mo, pl3, h4.mono (fun i hi => ?_) (fun i hi => ?_)⟩, ?_, t13.trans t3 (fun i _ e => Or.inl (by rw [e]; exact h.inP))⟩
  · rcases hi with hi | hi
    · exact Or.inl hi
    · exact Or.inr ⟨Nat.le_trans t12.size hi.1, Nat.lt_of_lt_of_le hi.2 t3.size⟩
  · rcases hi with hi | hi
    · exact Nat.lt_of_lt_of_le (h.lt i hi) (Nat.le_trans t13.size t3.size)
    · exact hi.2
  · have := hK.stable _ _ _ _ hcr.asked t3 (fun b q e => (hd b q).1 (by rw [e]; exact h.inP))
    simpa using this

set_option maxRecDepth 100000 in
set_option maxHeartbeats 1000000 in
theorem crash_any {kv : Value} {I : World → List (List UInt8 × Nat) → Prop} {kf : List UInt8 → Nat → Int} {Qc : Nat → Prop} {l : List (List UInt8 × Nat)} (hK : Keeper kv I kf Qc) (hI : I w l) (hd : ∀ b, Qc b → ¬ Q b) (h : RepX w p S false Q mo pl) :
    Calls Tryz.prog 17 #[.pointer (some ⟨p, 0, none⟩), kv] w fun r w' => r = .returned (.tuple #[]) ∧ Rep w' p (Fsp.crash S kf) (Grow Q w w') ∧ I w' (l ++ asksOf S.L) ∧ Turn (fun b => Q b ∨ Qc b) w w' := by
  have c5 := h.cells.c5
  have c6 := h.cells.c6
  have g5 := h.cells.fr 5
  have g6 := h.cells.fr 6
  have hlt := hK.lt _ _ hI
  have HT := Lib.hid hlt
  have HD := Lib.hid hd
  have HI := Lib.hid hI
  clear hlt hd hI
  have t1 : Turn (fun b => b = p) w ((w.setCell ⟨p, 6, none⟩ (.bool true)).setCell ⟨p, 5, none⟩ (.bool true)) := (turnP w p 6 _).set p 5 (Or.inl rfl) _
  have h1 : RepX ((w.setCell ⟨p, 6, none⟩ (.bool true)).setCell ⟨p, 5, none⟩ (.bool true)) p { S with down := true } true Q mo pl :=
    h.setHead t1 (by rw [heap_setCell_same (heap_setCell_same h.head _)]; rfl) rfl (good_with h.good rfl rfl h.good.2.2.2.2.1)
  have H1 := Lib.hid h1
  have T1 := Lib.hid t1
  clear h1 t1
  go_enter Tryz.func17, Tryz.ntmps17
  go_wp2_with fail
  generalize (w.setCell ⟨p, 6, none⟩ (.bool true)).setCell ⟨p, 5, none⟩ (.bool true) = w1 at H1 T1 ⊢
  clear c5 c6 g5 g6
  go_at_call 36
  refine (names_any H1.out ⟨#[]⟩).mono ?_
  rintro r w2 ⟨v, rfl, hrow, ht2⟩
  have en : Fsp.names { S with down := true } (⟨#[]⟩ : ByteArray).data.toList = S.L.map (·.1) := Fsp.names_all _
  rw [en] at hrow
  simp only [List.length_map] at hrow
  obtain ⟨sp, cap, hv, hcell⟩ := row_cells hrow
  subst hv
  have h2 : RepX w2 p { S with down := true } true Q mo pl := H1.out.turned ht2 (fun _ _ q => q)
  have hI2 : I w2 l := hK.stable _ _ _ _ (hK.stable _ _ _ _ HI.out T1.out (fun b q e => HD.out b q (by rw [e]; exact h.inP))) ht2 (fun _ _ q => q)
  have hstart : Crashing w2 p { S with down := true } Q mo I kf Qc l 0 w2 :=
    ⟨⟨pl, by rw [Fsp.crashTo_zero]; exact h2.grow w2⟩, by simpa [asksOf] using hI2, Turn.refl _ _⟩
  have hsz1 := T1.out.size
  have hsz2 := ht2.size
  have hout : ∀ a, sp = some a → ¬ (Q a.block ∨ Qc a.block) ∧ a.block < w2.heap.size ∧ w1.heap.size ≤ a.block := fun a e => by
    have hb := hrow.lt a.block (by rw [e]; rfl)
    refine ⟨?_, hb.2, hb.1⟩
    rintro (q | q)
    · have := h.lt _ q; omega
    · have := HT.out _ q; omega
  have hlen : S.L.length ≤ 400 := h.good.2.2.2.1
  have hvalid : ∀ (k : Nat) (x : List UInt8 × Fsp.File), S.L[k]? = some x → x.1.length ≤ 100 := fun k x hx => by
    have hm : Fsp.find S.L x.1 = some x.2 := Fsp.mem_find h.good.1 (List.mem_of_getElem? hx)
    exact Fsp.valid_len (h.good.2.2.2.2.2 _ _ hm).1
  have HS := Lib.hid hstart
  have HO := Lib.hid hout
  have HC := Lib.hid hcell
  have HR := Lib.hid hrow
  have HV := Lib.hid hvalid
  clear hstart hout hcell hrow hvalid hI2 en hsz1 hsz2
  go_wp2_with fail
  go_loopw [23] (fun i wr => ∃ k : Nat, k ≤ S.L.length ∧ i = .int .i64 k ∧ Crashing w2 p { S with down := true } Q mo I kf Qc l k wr) (fun i _ => S.L.length - (intOf i).toNat)
  case atStart => exact ⟨0, Nat.zero_le _, rfl, HS.out⟩
  case round =>
    obtain ⟨k, hk, rfl, hcr⟩ := hrel
    have HX := Lib.hid hcr
    clear hcr
    by_cases hkl : k < S.L.length
    · obtain ⟨x, hx⟩ : ∃ x, S.L[k]? = some x := ⟨_, List.getElem?_eq_getElem hkl⟩
      obtain ⟨a, hsp, hc0, ho1, ho2⟩ := HC.out k x.1 (by rw [List.getElem?_map, hx]; rfl)
      subst hsp
      have hc1 : wr.cell? ⟨a, k, none⟩ = some (encStr x.1) := (World.cell?_of_block (HX.out.turn.block a (HO.out _ rfl).2.1 (HO.out _ rfl).1)).trans hc0
      have hXX := Lib.hid hx
      clear hx hc0 ho1 ho2
      go_wp2_with fail
      go_at_call 54
      refine (crash_round hK (fun b q => ⟨HD.out b q, by have := HT.out b q; have := T1.out.size; have := ht2.size; omega⟩) HX.out h.good.1 hXX.out (HV.out k x hXX.out)).mono ?_
      rintro r w3 ⟨rfl, hcr3⟩
      go_wp2_with fail
      go_roundw
      case rel => exact ⟨k + 1, by omega, by go_num, hcr3⟩
      case measure => simp [intOf]; omega
    · have hkn : k = S.L.length := by omega
      subst hkn
      obtain ⟨pl3, h3⟩ := HX.out.rep
      have c4 := h3.cells.c4
      have c5 := h3.cells.c5
      have c6 := h3.cells.c6
      have g4 := h3.cells.fr 4
      have g5 := h3.cells.fr 5
      have g6 := h3.cells.fr 6
      go_wp2_with fail
      go_end0
      exact ⟨rfl, crash_end hK T1.out ht2 (fun b q => ⟨HD.out b q, HT.out b q⟩) h HX.out⟩

end
end Go.Proofs.YtjjajnfkngfpjaaGreatDoor
