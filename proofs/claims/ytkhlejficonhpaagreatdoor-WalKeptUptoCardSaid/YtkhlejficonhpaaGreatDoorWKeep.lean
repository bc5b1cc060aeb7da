/-
  What a crash keeps (exref1's Keep, the closure of WalKept); a crash of a log, torn or whole, and the opening behind it.
-/
import Derived.Test.YtkhlejficonhpaaGreatDoorWRoom
namespace Go.Proofs.YtkhlejficonhpaaGreatDoor
open Go.RowKit Go.Maps Go.WideMaps

/-- exref1's Keep -/
def keepOf (n : Int) (s : List UInt8) : Int := if n < 0 ∨ 1000000 < n then n else Int.tmod n (wrap64 ((s.length : Int) + 7))

section
variable {w0 w w' : World} {p lp : Nat} {S S' : Fsp.Fs} {Q : Nat → Prop} {l l' : Walp.Lg} {ls : List (List (List UInt8))} {n : Nat}

theorem wrap7 (z : Nat) (hz : z ≤ 9223372036854775807) : ¬ wrap64 ((z : Int) + 7) = 0 := by unfold wrap64; omega

set_option maxRecDepth 100000 in
theorem keep_any (s : ByteArray) (hz : s.size ≤ maxLen) (n : Int) (w : World) :
    Calls Tryz.prog 19 #[.string s, .int .i64 n] w fun r w' => r = .returned (.int .i64 (keepOf n s.data.toList)) ∧ w = w' := by
  have hsl : s.data.toList.length = s.size := rfl
  by_cases h1 : n < 0
  · have e : keepOf n s.data.toList = n := by unfold keepOf; rw [if_pos (Or.inl h1)]
    rw [e]
    clear e hsl hz
    have d1 : decide (n < 0) = true := by simpa using h1
    go_enter Tryz.func19, Tryz.ntmps19
    go_wp2
    go_ret
    exact ⟨rfl, rfl⟩
  · by_cases h2 : 1000000 < n
    · have e : keepOf n s.data.toList = n := by unfold keepOf; rw [if_pos (Or.inr h2)]
      rw [e]
      clear e hsl hz
      have d1 : decide (n < 0) = false := by simpa using h1
      have d2 : decide (1000000 < n) = true := by simpa using h2
      go_enter Tryz.func19, Tryz.ntmps19
      go_wp2
      go_ret
      exact ⟨rfl, rfl⟩
    · have e : keepOf n s.data.toList = Int.tmod n (wrap64 ((s.size : Int) + 7)) := by
        unfold keepOf; rw [if_neg (by omega), hsl]
      rw [e]
      have z3 := wrap7 s.size (by unfold maxLen at hz; omega)
      obtain ⟨W, hW⟩ : ∃ W : Int, wrap64 ((s.size : Int) + 7) = W := ⟨_, rfl⟩
      rw [hW] at z3 ⊢
      have z2 : (W == 0) = false := by rw [beq_eq_false_iff_ne]; exact z3
      have d1 : decide (n < 0) = false := by simpa using h1
      have d2 : decide ((1000000 : Int) < n) = false := by simpa using h2
      clear e hsl h1 h2 hz
      go_enter Tryz.func19, Tryz.ntmps19
      go_wp2
      go_ret
      exact ⟨rfl, rfl⟩

theorem enter_kept (args : Array Value) (w : World) : (callFunc 18 args).run Tryz.prog w = .ok (.enter 18 args) w := by kernel_rfl

set_option maxRecDepth 100000 in
theorem keptKeep_any {s : ByteArray} (hz : s.size ≤ maxLen) {n k : Int} {bx : Nat} {w : World} (hc : w.heap[bx]? = some (.cells #[.int .i64 k] 3 (0, 0))) :
    Calls Tryz.prog 18 #[.string s, .int .i64 n, .pointer (some ⟨bx, 0, none⟩)] w fun r w' => r = .returned (.int .i64 (keepOf k s.data.toList)) ∧ w = w' := by
  have c0 : w.cell? ⟨bx, 0, none⟩ = some (.int .i64 k) := by simp [World.cell?, hc]
  have HZ := Lib.hid hz
  have HC := Lib.hid hc
  clear hc hz
  go_enter Tryz.func18, Tryz.ntmps18
  go_wp2_with (go_at_call 19; refine (keep_any s HZ.out k _).mono ?_; rintro r w' ⟨rfl, rfl⟩)
  go_ret
  exact ⟨rfl, rfl⟩

theorem keeper_kept (bx : Nat) (k : Int) : Keeper (.func (.func 18) #[] #[.pointer (some ⟨bx, 0, none⟩)]) (fun w _ => w.heap[bx]? = some (.cells #[.int .i64 k] 3 (0, 0))) (fun s _ => keepOf k s) (fun b => b = bx) :=
  keeper_some enter_kept (fun Q w w' _ hI ht hd => (ht.block bx (Array.getElem?_eq_some_iff.1 hI).1 (hd bx rfl)).trans hI) (fun w _ hI b e => by rw [e]; exact (Array.getElem?_eq_some_iff.1 hI).1)
    (fun s n w l hI hz _ => (keptKeep_any hz hI).mono fun r w' ⟨h1, h2⟩ => by subst h2; exact ⟨h1, hI, Turn.refl _ _⟩)

/-- a crash by a number in a box of its own -/
theorem LogX.crashBox (hx : LogX w0 w p S Q lp l) {bx : Nat} {k : Int} (hX : w.heap[bx]? = some (.cells #[.int .i64 k] 3 (0, 0))) (hb : w0.heap.size ≤ bx) (hq : ¬ Q bx) (hlp : bx ≠ lp) :
    Calls Tryz.prog 17 #[.pointer (some ⟨p, 0, none⟩), .func (.func 18) #[] #[.pointer (some ⟨bx, 0, none⟩)]] w fun r w' => r = .returned (.tuple #[]) ∧ LogX w0 w' p (Fsp.crash S (fun s _ => keepOf k s)) (Grow Q w w') lp l ∧ Turn (fun b => Q b ∨ b = bx) w w' := by
  obtain ⟨mo, pl, hr⟩ := hx.rep
  refine (crash_any (keeper_kept bx k) (l := []) hX (fun b e q => hq (by rw [← show b = bx from e]; exact q)) hr).mono ?_
  rintro r w2 ⟨rfl, h1, _, h3⟩
  have hlt := hx.log.lt
  have hsz := hx.turn.size
  refine ⟨rfl, ⟨h1, hx.log.turned h3 (fun q => q.elim hx.out (fun e => hlp (show lp = bx from e).symm)), fun q => q.elim hx.out (fun q => by omega), hx.new, fun b q => q.elim (hx.newQ b) (fun q => by omega), hx.turn.trans h3 (fun i hi q => ?_)⟩, h3⟩
  rcases q with q | q
  · have := hx.newQ i q; omega
  · have e : i = bx := q
    omega

/-- what stands before a crash: whatever it keeps, behind it the directory has want, or want and the interrupted one -/
def Ready (S : Fsp.Fs) (last : Nat) (want : List (List UInt8)) (maybe : Option (List UInt8)) : Prop :=
  ∀ kf : List UInt8 → Nat → Int, ∃ init f, Walp.Has (Fsp.crash S kf) [119] 1 (init.map Walp.whole ++ [f]) ∧ (∀ rs ∈ init, Walp.Short rs) ∧ f.synced = f.data.length ∧ init.length ≤ last ∧
    ((init ++ [Walp.scan f.data]).flatten = want ∨ ∃ q, maybe = some q ∧ (init ++ [Walp.scan f.data]).flatten = want ++ [q])

theorem ready_whole (hl : ∀ rs ∈ ls, Walp.Short rs) (h0 : 0 < ls.length) (hh : Walp.Has S [119] 1 (ls.map Walp.whole)) (hn : ls.length ≤ n + 1) (maybe : Option (List UInt8)) : Ready S n ls.flatten maybe := by
  intro kf
  obtain ⟨init, rs, rfl⟩ := Walp.snoc_of h0
  have h2 := has_crash hh kf
  rw [List.map_append, List.map_cons, List.map_nil] at h2
  have hsr : Walp.Short rs := hl rs (by simp)
  have hsc : Walp.scan (Walp.whole rs).data = rs := Walp.scan_frames_self hsr
  refine ⟨init, Walp.whole rs, h2, fun q hq => hl q (by simp [hq]), rfl, by simp at hn; omega, Or.inl ?_⟩
  rw [hsc]

theorem torn_scan {rs : List (List UInt8)} {b : List UInt8} (hr : Walp.Short rs) (hb : b.length ≤ 1048576) (k : Int) :
    Walp.scan (Fsp.torn ⟨Walp.frames rs ++ Walp.frame b, (Walp.frames rs).length⟩ k).data = rs ∨ Walp.scan (Fsp.torn ⟨Walp.frames rs ++ Walp.frame b, (Walp.frames rs).length⟩ k).data = rs ++ [b] := by
  have hfl := Walp.frame_length b
  have hlt : (Walp.frames rs).length < (Walp.frames rs ++ Walp.frame b).length := by simp; omega
  unfold Fsp.torn
  simp only [hlt, if_true]
  obtain ⟨m, hm⟩ : ∃ m, min k.toNat ((Walp.frames rs ++ Walp.frame b).length - (Walp.frames rs).length) = m := ⟨_, rfl⟩
  rw [hm]
  have hm2 : m ≤ 8 + b.length := by rw [← hm]; simp; omega
  rw [List.take_append, List.take_of_length_le (by omega), Nat.add_sub_cancel_left]
  by_cases h : m < 8 + b.length
  · left
    exact Walp.scan_torn hr hb h
  · right
    rw [List.take_of_length_le (by omega)]
    have : Walp.frames rs ++ Walp.frame b = Walp.frames (rs ++ [b]) := by rw [Walp.frames_append, Walp.frames_one]
    rw [this]
    refine Walp.scan_frames_self (fun q hq => ?_)
    rcases List.mem_append.1 hq with h1 | h1
    · exact hr q h1
    · rw [List.mem_singleton.1 h1]; exact hb

theorem ready_torn {init : List (List (List UInt8))} {rs : List (List UInt8)} {b : List UInt8} (hl : ∀ q ∈ init ++ [rs], Walp.Short q) (hb : b.length ≤ 1048576) (hh : Walp.Has S [119] 1 (Walp.tornFs init rs b)) (hn : (init ++ [rs]).length ≤ n + 1) :
    Ready S n (init ++ [rs]).flatten (some b) := by
  intro kf
  have hsr : Walp.Short rs := hl rs (by simp)
  have hfl := Walp.frame_length b
  obtain ⟨F, hF⟩ : ∃ F : Fsp.File, F = ⟨Walp.frames rs ++ Walp.frame b, (Walp.frames rs).length⟩ := ⟨_, rfl⟩
  have hlf : Fsp.find S.L (Walp.seg [119] (1 + init.length)) = some F := by
    have := Walp.Has.lastFile (S := S) (dir := [119]) (first := 1) (fs := init.map Walp.whole) (f := F) (by rw [hF]; exact hh)
    simpa using this
  obtain ⟨k, hk⟩ : ∃ k, kf (Walp.seg [119] (1 + init.length)) (F.data.length - F.synced) = k := ⟨_, rfl⟩
  have hsyn : (Fsp.torn F k).synced = (Fsp.torn F k).data.length := Fsp.torn_synced F k (by rw [hF]; simp)
  refine ⟨init, Fsp.torn F k, ⟨hh.pos, by have := hh.last; simp [Walp.tornFs] at this ⊢; omega, fun n h1 h2 => ?_⟩, fun q hq => hl q (by simp [hq]), hsyn, by simp at hn; omega, ?_⟩
  · rw [Fsp.crash_find, hh.find n h1 h2]
    unfold Walp.tornFs
    split
    · rfl
    · rename_i hn1
      by_cases hi : n - 1 < init.length
      · rw [List.getElem?_append_left (by simpa using hi), List.getElem?_append_left (by simpa using hi), List.getElem?_map]
        cases hq : init[n - 1]? with
        | none => rfl
        | some q =>
          show some (Fsp.torn _ _) = _
          rw [Fsp.torn_same _ _ rfl]
          rfl
      · by_cases he : n - 1 = init.length
        · have hn0 : n = 1 + init.length := by omega
          subst hn0
          rw [List.getElem?_append_right (by simp), List.getElem?_append_right (by simp)]
          simp only [List.length_map, Nat.add_sub_cancel_left, Nat.sub_self, List.getElem?_cons_zero, Option.map_some]
          have hk2 : kf (Walp.seg [119] (1 + init.length)) ((Walp.frames rs ++ Walp.frame b).length - (Walp.frames rs).length) = k := by rw [← hk, hF]
          rw [← hF, hk2]
        · rw [List.getElem?_append_right (by simp; omega), List.getElem?_append_right (by simp; omega)]
          simp only [List.length_map]
          rw [List.getElem?_eq_none (by simp; omega), List.getElem?_eq_none (by simp; omega)]
          rfl
  · rcases torn_scan hsr hb k with h | h
    · left; rw [hF, h]
    · right; refine ⟨b, rfl, ?_⟩; rw [hF, h]; simp

/-- what an append that went down leaves -/
theorem ready_down {b : List UInt8} (hl : Walp.Live S l ls) (hd : l.dir = [119]) (hf : l.first = 1) (hb : b.length ≤ 1048576) {ls' : List (List (List UInt8))} (hls : ls' = ls ∨ ls' = Walp.rot l.size ls)
    (h : Walp.Has S' l.dir l.first (ls'.map Walp.whole) ∨ ∃ init rs, ls' = init ++ [rs] ∧ Walp.Has S' l.dir l.first (Walp.tornFs init rs b)) : Ready S' l.last ls.flatten (some b) := by
  have hlast := hl.last
  have hr := Walp.rot_length l.size ls
  have hsh : ∀ q ∈ ls', Walp.Short q := by
    rcases hls with rfl | rfl
    · exact hl.short
    · intro q hq
      unfold Walp.rot at hq
      split at hq
      · rcases List.mem_append.1 hq with h1 | h1
        · exact hl.short q h1
        · rw [List.mem_singleton.1 h1]; intro x hx; cases hx
      · exact hl.short q hq
  have hfl : ls'.flatten = ls.flatten := by
    rcases hls with rfl | rfl
    · rfl
    · exact Walp.rot_flatten _ _
  have hlen : ls'.length ≤ l.last + 1 := by
    rcases hls with rfl | rfl <;> omega
  have h0 : 0 < ls'.length := by
    have := hl.any
    rcases hls with rfl | rfl <;> omega
  rw [hd, hf] at h
  rw [← hfl]
  rcases h with h | ⟨init, rs, rfl, h⟩
  · exact ready_whole hsh h0 h hlen _
  · exact ready_torn hsh hb h hlen

theorem Ready.mono {want : List (List UInt8)} {maybe : Option (List UInt8)} {m : Nat} (h : Ready S n want maybe) (hm : n ≤ m) : Ready S m want maybe := fun kf => by
  obtain ⟨init, f, h1, h2, h3, h4, h5⟩ := h kf
  exact ⟨init, f, h1, h2, h3, by omega, h5⟩

/-- a log that lives, behind so many records handed in and so many crashes; what it has is what want holds -/
def KeptAt (w0 w : World) (p lp sz : Nat) (k j : Nat) (v : Value) : Prop :=
  ∃ S l ls Q xs, LogX w0 w p S Q lp l ∧ Walp.Live S l ls ∧ l.last ≤ k + 1 ∧ S.L.length ≤ k + 1 ∧ S.steps ≤ 3 * k + 2 * j + 1 ∧ l.size = sz ∧ l.dir = [119] ∧ l.first = 1 ∧
    w.ownsRow w0.heap.size 37 1 v ls.flatten.length xs ∧ Held w0 xs ls.flatten ∧ (∀ r, v.ownBlock = some r → ¬ Q r ∧ r ≠ lp) ∧ ls.flatten.length ≤ k

/-- the log has a record more than want -/
def Appended (w0 w : World) (p lp sz : Nat) (k j : Nat) (v : Value) (b : List UInt8) : Prop :=
  ∃ S l ls Q xs m, LogX w0 w p S Q lp l ∧ Walp.Live S l ls ∧ l.last ≤ k + 1 ∧ S.L.length ≤ k + 1 ∧ S.steps ≤ 3 * k + 2 * j + 1 ∧ l.size = sz ∧ l.dir = [119] ∧ l.first = 1 ∧
    ls.flatten = m ++ [b] ∧ w.ownsRow w0.heap.size 37 1 v m.length xs ∧ Held w0 xs m ∧ (∀ r, v.ownBlock = some r → ¬ Q r ∧ r ≠ lp) ∧ m.length + 1 ≤ k

/-- before a crash -/
def Stopped (w0 w : World) (p lp : Nat) (k j : Nat) (v : Value) (want : List (List UInt8)) (maybe : Option (List UInt8)) : Prop :=
  ∃ S l Q xs, LogX w0 w p S Q lp l ∧ Fsp.valid (Walp.seg [119] 1) = true ∧ Ready S k want maybe ∧ S.L.length ≤ k + 1 ∧ S.steps ≤ 3 * k + 2 * j + 1 ∧
    w.ownsRow w0.heap.size 37 1 v want.length xs ∧ Held w0 xs want ∧ (∀ r, v.ownBlock = some r → ¬ Q r ∧ r ≠ lp) ∧ want.length ≤ k ∧ (∀ q, maybe = some q → want.length + 1 ≤ k) ∧ (∀ q ∈ want, q.length ≤ maxLen)

theorem KeptAt.turn {sz k j : Nat} {v : Value} (h : KeptAt w0 w p lp sz k j v) : Turn (fun _ => False) w0 w := by
  obtain ⟨S, lg, ls, Q, xs, hx, _⟩ := h
  exact hx.turn

theorem KeptAt.later {sz k j : Nat} {v : Value} {w1 : World} (h : KeptAt w0 w p lp sz k j v) (ht : Turn (fun _ => False) w w1) : KeptAt w0 w1 p lp sz k j v := by
  obtain ⟨S, l, ls, Q, xs, hx, hl, h1, h2, h3, h4, h5, h6, h7, h8, h9, h10⟩ := h
  exact ⟨S, l, ls, Q, xs, hx.later ht, hl, h1, h2, h3, h4, h5, h6, ownsRow_turned h7 ht (fun _ _ q => q), h8, h9, h10⟩

theorem KeptAt.stopped {sz k j : Nat} {v : Value} (h : KeptAt w0 w p lp sz k j v) : ∃ want, Stopped w0 w p lp k j v want none := by
  obtain ⟨S, l, ls, Q, xs, hx, hl, h1, h2, h3, h4, h5, h6, h7, h8, h9, h10⟩ := h
  have hh := hl.has
  rw [h5, h6] at hh
  have hla := hl.last
  refine ⟨ls.flatten, S, l, Q, xs, hx, by rfl, ready_whole hl.short hl.any hh (by omega) none, h2, h3, h7, h8, h9, h10, (fun q e => by cases e), live_short hl⟩

theorem KeptAt.arm {sz k j : Nat} {v : Value} (h : KeptAt w0 w p lp sz k j v) (n : Int) (hn : n ≤ 9223372036854775807) :
    Calls Tryz.prog 15 #[.pointer (some ⟨p, 0, none⟩), .int .i64 n] w fun r w' => r = .returned (.tuple #[]) ∧ KeptAt w0 w' p lp sz k j v := by
  obtain ⟨S, l, ls, Q, xs, hx, hl, h1, h2, h3, h4, h5, h6, h7, h8, h9, h10⟩ := h
  obtain ⟨mo, pl, hr⟩ := hx.rep
  refine (arm_any hr n hn).mono ?_
  rintro r w2 ⟨rfl, hp⟩
  have hx2 := hx.post hp
  refine ⟨rfl, Fsp.arm S n, l, ls, _, xs, hx2, ⟨hl.has.same rfl, hl.last, hl.any, hl.short, hl.up, hl.free, hl.valid⟩, h1, h2, h3, h4, h5, h6, ownsRow_turned h7 hp.2 (fun r hr q => (h9 r hr).1 q), h8, fun r hr => ⟨fun q => ?_, (h9 r hr).2⟩, h10⟩
  have hb := (own_block h7 hr).2.1
  rcases q with q | q
  · exact (h9 r hr).1 q
  · omega

theorem append_kept (hT : SumTab w0) {sz k j : Nat} {v : Value} (h : KeptAt w0 w p lp sz k j v) (hk : k < 90) (hj : j ≤ 40) {u : Value} {b : List UInt8} (hb : BytesIn w0 u b) (hbl : b.length ≤ 1048576) :
    Calls Tryz.prog 16 #[.pointer (some ⟨lp, 0, none⟩), u] w fun r w' => ∃ e : Nat, r = .returned (.int .i64 (e : Int)) ∧ Turn (fun _ => False) w0 w' ∧
      ((e = 0 ∧ Appended w0 w' p lp sz (k + 1) j v b) ∨ (e = 4 ∧ KeptAt w0 w' p lp sz (k + 1) j v) ∨ (e = 5 ∧ ∃ want, Stopped w0 w' p lp (k + 1) j v want (some b))) := by
  obtain ⟨S, l, ls, Q, xs, hx, hl, h1, h2, h3, h4, h5, h6, h9, h10, h11, h12⟩ := h
  refine (append_live hT hx hl (by omega) (by omega) (by omega) hb hbl).mono ?_
  rintro r w' ⟨S', l', e, rfl, hE, hp⟩
  obtain ⟨hx', ht'⟩ := hp
  have hm := hE.more
  have hst := hE.steps
  have hsz := hE.hsize
  have hff := hE.hfirst
  have hdd := hE.hdir
  have hown' : w'.ownsRow w0.heap.size 37 1 v ls.flatten.length xs := ownsRow_turned h9 ht' (fun r hr q => by
    have := h11 r hr
    rcases q with q | q
    · exact this.1 q
    · exact this.2 q)
  have hout' : ∀ r, v.ownBlock = some r → ¬ Grow Q w w' r ∧ r ≠ lp := fun r hr => by
    have h := h11 r hr
    have hb := (own_block h9 hr).2.1
    exact ⟨fun q => by rcases q with q | q; exact h.1 q; omega, h.2⟩
  refine ⟨e, rfl, hx'.turn, ?_⟩
  rcases hE.ways with ⟨rfl, hl', _⟩ | ⟨rfl, hl', _⟩ | ⟨rfl, hd, hs, ls', hls', hhas⟩
  · have hlast := addTo_rot_last hl hl' hff (addTo_rot_length hl.any _ _)
    exact Or.inl ⟨rfl, S', l', _, _, xs, ls.flatten, hx', hl', by omega, by omega, by omega, by omega, by rw [hdd]; exact h5, by omega, flatten_addTo hl.any _ _, hown', h10, hout', by omega⟩
  · have hlast := addTo_rot_last hl hl' hff (Walp.rot_length _ _).2
    refine Or.inr (Or.inl ⟨rfl, S', l', _, _, xs, hx', hl', by omega, by omega, by omega, by omega, by rw [hdd]; exact h5, by omega, ?_, ?_, hout', ?_⟩)
    · rw [Walp.rot_flatten]; exact hown'
    · rw [Walp.rot_flatten]; exact h10
    · rw [Walp.rot_flatten]; omega
  · refine Or.inr (Or.inr ⟨rfl, ls.flatten, S', l', _, xs, hx', by rfl, (ready_down hl h5 h6 hbl hls' hhas).mono h1, by omega, by omega, hown', h10, hout', by omega, fun q _ => by omega, live_short hl⟩)

/-- want has the record too -/
theorem kept_snoc {sz k j : Nat} {v v' : Value} {xs : List Value} {m : List (List UInt8)} {b : List UInt8} {u : Value} {o : Obj} {w7 w8 : World} (hx : LogX w0 w7 p S Q lp l) (hl : Walp.Live S l ls) (h1 : l.last ≤ k + 1) (h2 : S.L.length ≤ k + 1) (h3 : S.steps ≤ 3 * k + 2 * j + 1) (h4 : l.size = sz) (h5 : l.dir = [119]) (h6 : l.first = 1)
    (hm : ls.flatten = m ++ [b]) (hown : w7.ownsRow w0.heap.size 37 1 v m.length xs) (hheld : Held w0 xs m) (hout : ∀ r, v.ownBlock = some r → ¬ Q r ∧ r ≠ lp) (hmk : m.length + 1 ≤ k) (hb : BytesIn w0 u b)
    (hown' : w8.ownsRow w0.heap.size 37 1 v' (m.length + 1) (xs ++ [u])) (hg : (w7.alloc o).grownBy w8 v.ownBlock) (hblk : v'.ownBlock = v.ownBlock ∨ v'.ownBlock = some (w7.alloc o).heap.size) : KeptAt w0 w8 p lp sz k j v' := by
  have ht8 : Turn (fun i => v.ownBlock = some i) w7 w8 := ((Turn.refl _ w7).alloc _).grown hg (fun j e => Or.inl e)
  have hx8 : LogX w0 w8 p S Q lp l := hx.besides ht8 (fun i e => ⟨(hout i e).1, (hout i e).2, (own_block hown e).1⟩)
  refine ⟨S, l, ls, Q, xs ++ [u], hx8, hl, h1, h2, h3, h4, h5, h6, ?_, ?_, fun r hr => ?_, ?_⟩
  · rw [hm, List.length_append]; exact hown'
  · rw [hm]; exact hheld.snoc hb
  · rcases hblk with e | e
    · exact hout r (by rw [← e]; exact hr)
    · rw [hr] at e
      have e' : r = w7.heap.size + 1 := by simpa using e
      refine ⟨fun q => ?_, fun q => ?_⟩
      · have := hx.rep.lt r q; omega
      · have := hx.log.lt; omega
  · rw [hm, List.length_append]; simp; omega

end
end Go.Proofs.YtkhlejficonhpaaGreatDoor
