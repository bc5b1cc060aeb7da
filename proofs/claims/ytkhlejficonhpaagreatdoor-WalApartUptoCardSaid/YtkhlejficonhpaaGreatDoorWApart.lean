/-
  WalApart: the walk.
-/
import Derived.Test.YtkhlejficonhpaaGreatDoorWRoom
import Derived.Test.YtkhlejficonhpaaGreatDoorWApartP
import Derived.Lib.SlBytesConst
namespace Go.Proofs.YtkhlejficonhpaaGreatDoor
open Go.RowKit Go.Maps Go.WideMaps

abbrev otherN : List UInt8 := [111, 116, 104, 101, 114]
abbrev otherB : List UInt8 := [98, 121, 116, 101, 115]

/-- two logs on one file system, behind so many appends of each -/
def Two (w0 w : World) (p lpa lpb : Nat) (l m : List (List UInt8)) (i j : Nat) : Prop :=
  ∃ S la lb lsa lsb Q, LogX w0 w p S Q lpa la ∧ LogX w0 w p S Q lpb lb ∧ lpa ≠ lpb ∧ Walp.Live S la lsa ∧ Walp.Live S lb lsb ∧ la.dir = [97] ∧ lb.dir = [97, 47, 98] ∧ la.last ≤ i + 1 ∧ lb.last ≤ j + 1 ∧ S.L.length ≤ i + j + 3 ∧ S.steps ≤ 3 * (i + j) + 10 ∧
    S.armed = 0 ∧ S.room = 67108864 ∧ Fsp.find S.L otherN = some ⟨otherB, 5⟩ ∧ Fsp.usedOf S.L = 5 + cost (l.take i) + cost (m.take j) ∧ lsa.flatten = l.take i ∧ lsb.flatten = m.take j

section
variable {w0 w w' : World} {p lp lpa lpb : Nat} {S S' : Fsp.Fs} {Q : Nat → Prop} {la lb la' l0 : Walp.Lg} {ls : List (List (List UInt8))} {l m : List (List UInt8)} {i j : Nat}

/-- the other log, behind a call of one -/
theorem LogX.other (hB : LogX w0 w p S Q lpb lb) (hA : LogP w0 w p S' Q lpa la' w') (hne : lpa ≠ lpb) : LogX w0 w' p S' (Grow Q w w') lpb lb :=
  ⟨hA.1.rep, hB.log.turned hA.2 (fun q => q.elim hB.out (fun e => hne e.symm)), fun q => q.elim hB.out (fun q => by have := hB.log.lt; omega), hB.new, hA.1.newQ, hA.1.turn⟩

/-- the other log, behind an opening -/
theorem LogX.otherOpen {Q' : Nat → Prop} (hA : LogX w0 w p S Q lpa la) (hB : LogX w0 w' p S' Q' lpb lb) (hq : ∀ b, Q' b → Q b ∨ w.heap.size ≤ b) (ht : Turn Q w w') : LogX w0 w' p S' Q' lpa la :=
  ⟨hB.rep, hA.log.turned ht hA.out, fun q => (hq _ q).elim hA.out (fun q => by have := hA.log.lt; omega), hA.new, hB.newQ, hB.turn⟩

theorem Two.turn (h : Two w0 w p lpa lpb l m i j) : Turn (fun _ => False) w0 w := by
  obtain ⟨S, la, lb, lsa, lsb, Q, hx, _⟩ := h
  exact hx.turn

theorem Two.skipA (h : Two w0 w p lpa lpb l m i j) (hi : l.length ≤ i) : Two w0 w p lpa lpb l m (i + 1) j := by
  obtain ⟨S, la, lb, lsa, lsb, Q, h1, h2, h3, h4, h5, h6, h7, h8, h9, h10, h11, h12, h13, h14, h15, h16, h17⟩ := h
  have e : l.take (i + 1) = l.take i := by rw [List.take_of_length_le hi, List.take_of_length_le (by omega)]
  exact ⟨S, la, lb, lsa, lsb, Q, h1, h2, h3, h4, h5, h6, h7, by omega, h9, by omega, by omega, h12, h13, h14, by rw [e]; exact h15, by rw [e]; exact h16, h17⟩

theorem Two.skipB (h : Two w0 w p lpa lpb l m i j) (hj : m.length ≤ j) : Two w0 w p lpa lpb l m i (j + 1) := by
  obtain ⟨S, la, lb, lsa, lsb, Q, h1, h2, h3, h4, h5, h6, h7, h8, h9, h10, h11, h12, h13, h14, h15, h16, h17⟩ := h
  have e : m.take (j + 1) = m.take j := by rw [List.take_of_length_le hj, List.take_of_length_le (by omega)]
  exact ⟨S, la, lb, lsa, lsb, Q, h1, h2, h3, h4, h5, h6, h7, h8, by omega, by omega, by omega, h12, h13, h14, by rw [e]; exact h15, h16, by rw [e]; exact h17⟩

theorem live_elsewhere (h : Walp.Live S lb ls) (hup : S'.down = false) (ho : ∀ n, Fsp.find S'.L (Walp.seg lb.dir n) = Fsp.find S.L (Walp.seg lb.dir n)) : Walp.Live S' lb ls :=
  ⟨Has.elsewhere h.has ho, h.last, h.any, h.short, hup, h.free, h.valid⟩

/-- an append to a log where nothing is armed and there is room -/
theorem append_roomy (hT : SumTab w0) (hx : LogX w0 w p S Q lp l0) (hl : Walp.Live S l0 ls) (hlast : l0.last < 98) (hn : S.L.length < 400) (hs : S.steps + 10 < 4611686018427387000) (har : S.armed = 0) {u : Value} {b : List UInt8} (hb : BytesIn w0 u b) (hbl : b.length ≤ 1048576) (hrm : Fsp.usedOf S.L + (8 + b.length) ≤ S.room) :
    Calls Tryz.prog 16 #[.pointer (some ⟨lp, 0, none⟩), u] w fun r w' => r = .returned (.int .i64 0) ∧ ∃ S' l', LogP w0 w p S' Q lp l' w' ∧ Walp.Live S' l' (Walp.addTo (Walp.rot l0.size ls) b) ∧ l'.dir = l0.dir ∧ l'.first = l0.first ∧ S'.L.length ≤ S.L.length + 1 ∧ S'.steps ≤ S.steps + 3 ∧ S'.armed = 0 ∧ S'.room = S.room ∧
      Fsp.usedOf S'.L = Fsp.usedOf S.L + (8 + b.length) ∧ (∀ n, (∀ k, n ≠ Walp.seg l0.dir k) → Fsp.find S'.L n = Fsp.find S.L n) := by
  have hX := hb.outside hx
  have hE := Walp.append_ends hx.sorted.1 hl hbl (by omega) hn
  obtain ⟨sp, cap, rfl, _⟩ := hb.c
  obtain ⟨h1, f, hf⟩ := live_last hl
  refine (wAppend_any hT hx hl.free (by have := live_dir hl; omega) h1 hlast hf hX hbl hs).mono ?_
  rintro r w' ⟨rfl, hp⟩
  obtain ⟨ha', he5⟩ := hE.unarmed har
  rcases hE.ways with ⟨he, hl', hu⟩ | ⟨he, hl', hu, hroom⟩ | ⟨he, _⟩
  · rw [he]
    exact ⟨rfl, _, _, hp, hl', hE.hdir, hE.hfirst, hE.more, hE.steps, ha', hE.room, hu, fun n h => wappend_other h⟩
  · omega
  · exact absurd he he5

theorem two_appendA (hT : SumTab w0) (h : Two w0 w p lpa lpb l m i j) (hi : i < l.length) (hi6 : i < 60) (hj6 : j ≤ 60) (hcl : cost l + cost m ≤ 2000000) {u : Value} (hb : BytesIn w0 u l[i]) (hbl : l[i].length ≤ 1048576) :
    Calls Tryz.prog 16 #[.pointer (some ⟨lpa, 0, none⟩), u] w fun r w' => r = .returned (.int .i64 0) ∧ Two w0 w' p lpa lpb l m (i + 1) j := by
  obtain ⟨S, la, lb, lsa, lsb, Q, h1, h2, h3, h4, h5, h6, h7, h8, h9, h10, h11, h12, h13, h14, h15, h16, h17⟩ := h
  have c1 := cost_le l (i + 1)
  have c2 := cost_le m j
  have c3 := cost_take hi
  refine (append_roomy hT h1 h4 (by omega) (by omega) (by omega) h12 hb hbl (by omega)).mono ?_
  rintro r w' ⟨rfl, S', la', hp, hl', hd, hf, hm, hst, har, hrm, hu, ho⟩
  have hlast := addTo_rot_last h4 hl' hf (addTo_rot_length h4.any _ _)
  have hob : ∀ n, Fsp.find S'.L (Walp.seg lb.dir n) = Fsp.find S.L (Walp.seg lb.dir n) := fun n => ho _ (fun k => seg_length_ne (by rw [h6, h7]; decide) n k)
  have hoo : Fsp.find S'.L otherN = Fsp.find S.L otherN := ho _ (fun k e => by
    have := congrArg List.length e
    rw [Walp.seg_length, h6] at this; simp at this)
  refine ⟨rfl, S', la', lb, _, lsb, _, hp.1, h2.other hp h3, h3, hl', live_elsewhere h5 hl'.up hob, by rw [hd]; exact h6, h7, by omega, by omega, by omega, by omega, har, by omega, by rw [hoo]; exact h14, by omega, ?_, h17⟩
  rw [flatten_addTo h4.any, h16, List.take_succ_eq_append_getElem hi]

theorem two_appendB (hT : SumTab w0) (h : Two w0 w p lpa lpb l m i j) (hj : j < m.length) (hi6 : i ≤ 60) (hj6 : j < 60) (hcl : cost l + cost m ≤ 2000000) {u : Value} (hb : BytesIn w0 u m[j]) (hbl : m[j].length ≤ 1048576) :
    Calls Tryz.prog 16 #[.pointer (some ⟨lpb, 0, none⟩), u] w fun r w' => r = .returned (.int .i64 0) ∧ Two w0 w' p lpa lpb l m i (j + 1) := by
  obtain ⟨S, la, lb, lsa, lsb, Q, h1, h2, h3, h4, h5, h6, h7, h8, h9, h10, h11, h12, h13, h14, h15, h16, h17⟩ := h
  have c1 := cost_le l i
  have c2 := cost_le m (j + 1)
  have c3 := cost_take hj
  refine (append_roomy hT h2 h5 (by omega) (by omega) (by omega) h12 hb hbl (by omega)).mono ?_
  rintro r w' ⟨rfl, S', lb', hp, hl', hd, hf, hm, hst, har, hrm, hu, ho⟩
  have hlast := addTo_rot_last h5 hl' hf (addTo_rot_length h5.any _ _)
  have hoa : ∀ n, Fsp.find S'.L (Walp.seg la.dir n) = Fsp.find S.L (Walp.seg la.dir n) := fun n => ho _ (fun k => seg_length_ne (by rw [h6, h7]; decide) n k)
  have hoo : Fsp.find S'.L otherN = Fsp.find S.L otherN := ho _ (fun k e => by
    have := congrArg List.length e
    rw [Walp.seg_length, h7] at this; simp at this)
  refine ⟨rfl, S', la, lb', lsa, _, _, h1.other hp h3.symm, hp.1, h3, live_elsewhere h4 hl'.up hoa, hl', h6, by rw [hd]; exact h7, by omega, by omega, by omega, by omega, har, by omega, by rw [hoo]; exact h14, by omega, h16, ?_⟩
  rw [flatten_addTo h5.any, h17, List.take_succ_eq_append_getElem hj]

/-- an opening behind a crash, whichever log the memory holds -/
theorem reopen_any (hT : SumTab w0) (hx : LogX w0 w p S Q lp l0) (hl : Walp.Live S lb ls) (_har : S.armed = 0) (hlast : lb.last < 98) (hs : S.steps + 30 < 4611686018427387000) (sz : Nat) (hz1 : 16 ≤ sz) (hz2 : sz ≤ 1048576) {d : List UInt8} (hd : lb.dir = d) {L0 : List (List UInt8)} (hL : ls.flatten = L0) :
    Calls Tryz.prog 13 #[.pointer (some ⟨p, 0, none⟩), .string (txt d), .int .i64 (sz : Nat)] w fun r w' => ∃ lp' sp cap, r = .returned (.tuple #[.pointer (some ⟨lp', 0, none⟩), .slice sp L0.length cap, .int .i64 0]) ∧
      ListsO w' w.heap.size (.slice sp L0.length cap) L0 ∧ ∃ Q' l', LogX w0 w' p S Q' lp' l' ∧ Turn (fun _ => False) w w' := by
  subst hd
  subst hL
  obtain ⟨init, rs, rfl⟩ := Walp.snoc_of hl.any
  have hh := hl.has
  rw [List.map_append, List.map_cons, List.map_nil] at hh
  have hsr : Walp.Short rs := hl.short rs (by simp)
  have hshort : ∀ q ∈ init, Walp.Short q := fun q hq => hl.short q (by simp [hq])
  have hlen := hl.last
  simp only [List.length_append, List.length_cons, List.length_nil] at hlen
  have hsc : Walp.scan (Walp.whole rs).data = rs := Walp.scan_frames_self hsr
  have hf := found_segs (sz := sz) (k := init.length) hx.sorted.1 hh (by simp)
  refine (open_ok hT hx.rep hx.newQ hx.turn lb.dir hl.valid sz hz1 hz2 hl.up hf.1 (init.map Walp.whole) (Walp.whole rs) (fun i g hg => hh.at_ hg) (by simp) hh.pos (by show lb.first + init.length < 100; omega) (fun g hg => by
    obtain ⟨q, h1, rfl⟩ := List.mem_map.1 hg
    exact whole_is q (hshort q h1)) (Or.inl ⟨whole_is rs hsr, rfl, rfl⟩) (by omega) (by unfold StepsLow; omega)).mono ?_
  rintro r w' ⟨lp', u, Q', rfl, hls, hx', _, _, _, h4⟩
  rw [recs_segs _ _ hshort, hsc] at hls
  obtain ⟨sp, cap, rfl, _⟩ := hls.toR
  exact ⟨lp', sp, cap, rfl, hls, Q', _, hx', h4 ⟨hf.2, whole_is rs hsr⟩⟩

theorem Since.appendLit {w1 : World} (h : Since w p S w') (hs : StepsOk S) (s : ByteArray) (hz : s.size ≤ maxLen) {n : Nat} (ht : Turn (fun _ => False) w' w1) (v : Value) (b : List UInt8) (hb : SliceB w1 v b) (hbl : b.length ≤ maxLen)
    (hout : ∀ ad k cap, v = .slice (some ad) k cap → w'.heap.size ≤ ad.block) (he : Fsp.append S s.data.toList b = (S', n)) :
    Calls Tryz.prog 39 #[.pointer (some ⟨p, 0, none⟩), .string s, v] w1 fun r w2 => r = .returned (.int .i64 (n : Int)) ∧ Since w p S' w2 := by
  have h0 := h
  obtain ⟨⟨mo, pl, hr⟩, ht0⟩ := h
  refine (append_any (hr.turned ht (fun _ _ q => q)) hs s hz v b hb hbl (fun ad k cap e _ q => by have := hout ad k cap e; omega)).mono ?_
  rintro r w2 ⟨rfl, hp⟩
  rw [he] at hp ⊢
  exact ⟨rfl, Since.post h0 (hp.pre ht)⟩

/-- behind the crash -/
theorem two_crash (h : Two w0 w p lpa lpb l m i j) (hi : l.length ≤ i) (hj : m.length ≤ j) (hi6 : i ≤ 60) (hj6 : j ≤ 60) :
    Calls Tryz.prog 17 #[.pointer (some ⟨p, 0, none⟩), .nilFunc] w fun r w' => r = .returned (.tuple #[]) ∧ ∃ S la lb lsa lsb Q, LogX w0 w' p S Q lpa la ∧ Walp.Live S la lsa ∧ Walp.Live S lb lsb ∧ la.dir = [97] ∧ lb.dir = [97, 47, 98] ∧ la.last < 98 ∧ lb.last < 98 ∧ S.steps + 30 < 4611686018427387000 ∧ S.armed = 0 ∧
      Fsp.find S.L otherN = some ⟨otherB, 5⟩ ∧ lsa.flatten = l ∧ lsb.flatten = m := by
  obtain ⟨S, la, lb, lsa, lsb, Q, h1, h2, h3, h4, h5, h6, h7, h8, h9, h10, h11, h12, h13, h14, h15, h16, h17⟩ := h
  refine (h1.crashNil).mono ?_
  rintro r w' ⟨rfl, hx, _⟩
  refine ⟨rfl, Fsp.crash S (fun _ _ => 0), la, lb, lsa, lsb, _, hx, ⟨has_crash h4.has _, h4.last, h4.any, h4.short, rfl, h4.free, h4.valid⟩, ⟨has_crash h5.has _, h5.last, h5.any, h5.short, rfl, h5.free, h5.valid⟩, h6, h7, by omega, by omega, by show S.steps + 30 < _; omega, rfl, ?_, by rw [h16, List.take_of_length_le hi], by rw [h17, List.take_of_length_le hj]⟩
  rw [Fsp.crash_find, h14]
  show some (Fsp.torn _ _) = _
  rw [Fsp.torn_same _ _ rfl]

def Sa : Fsp.Fs := ⟨67108864, 3, 0, false, [(otherN, ⟨otherB, 5⟩)]⟩
theorem ap1 : Fsp.create (Fsp.new 67108864) otherN = (⟨67108864, 1, 0, false, [(otherN, ⟨[], 0⟩)]⟩, 0) := by rfl
theorem ap2 : Fsp.append ⟨67108864, 1, 0, false, [(otherN, ⟨[], 0⟩)]⟩ otherN otherB = (⟨67108864, 2, 0, false, [(otherN, ⟨otherB, 0⟩)]⟩, 0) := by rfl
theorem ap3 : Fsp.sync ⟨67108864, 2, 0, false, [(otherN, ⟨otherB, 0⟩)]⟩ otherN = (Sa, 0) := by rfl

theorem no_seg {L : List (List UInt8 × Fsp.File)} {d : List UInt8} (h : ∀ x ∈ L, x.1.length ≠ d.length + 9) (n : Nat) : Fsp.find L (Walp.seg d n) = none := by
  cases hf : Fsp.find L (Walp.seg d n) with
  | none => rfl
  | some f =>
    have := h _ (Fsp.find_mem hf)
    rw [Walp.seg_length] at this
    exact absurd rfl this

set_option maxRecDepth 100000 in
/-- the two openings -/
theorem open_two_a (hT : SumTab w0) (hr : Since w0 p Sa w) :
    Calls Tryz.prog 13 #[.pointer (some ⟨p, 0, none⟩), .string (txt [97]), .int .i64 32] w fun r w' => ∃ lp sp cap Q, r = .returned (.tuple #[.pointer (some ⟨lp, 0, none⟩), .slice sp 0 cap, .int .i64 0]) ∧
      LogX w0 w' p { Sa with armed := 0, steps := Sa.steps + 1, L := Fsp.put Sa.L (Walp.seg [97] 1) ⟨[], 0⟩ } Q lp ⟨[97], 32, 1, 1, 0, false⟩ ∧ Walp.Live { Sa with armed := 0, steps := Sa.steps + 1, L := Fsp.put Sa.L (Walp.seg [97] 1) ⟨[], 0⟩ } ⟨[97], 32, 1, 1, 0, false⟩ [[]] := by
  refine (open_new hT hr.1 (fun i q => q.1) hr.2 [97] (by rfl) 32 (by decide) (by decide) rfl rfl (by decide) (fun n _ _ => no_seg (by decide) n) (by decide)).mono ?_
  rintro r w' ⟨lp, sp, cap, Q', rfl, hx, hl, _⟩
  exact ⟨lp, sp, cap, Q', rfl, hx, hl⟩

def Sb : Fsp.Fs := ⟨67108864, 4, 0, false, [(Walp.seg [97] 1, ⟨[], 0⟩), (otherN, ⟨otherB, 5⟩)]⟩
theorem sb1 : ({ Sa with armed := 0, steps := Sa.steps + 1, L := Fsp.put Sa.L (Walp.seg [97] 1) ⟨[], 0⟩ } : Fsp.Fs) = Sb := by rfl
def Sc : Fsp.Fs := ⟨67108864, 5, 0, false, [(Walp.seg [97] 1, ⟨[], 0⟩), (Walp.seg [97, 47, 98] 1, ⟨[], 0⟩), (otherN, ⟨otherB, 5⟩)]⟩
theorem sc1 : ({ Sb with armed := 0, steps := Sb.steps + 1, L := Fsp.put Sb.L (Walp.seg [97, 47, 98] 1) ⟨[], 0⟩ } : Fsp.Fs) = Sc := by rfl

set_option maxRecDepth 100000 in
theorem open_two_b (hT : SumTab w0) (hx : LogX w0 w p Sb Q lpa ⟨[97], 32, 1, 1, 0, false⟩) (hl : Walp.Live Sb ⟨[97], 32, 1, 1, 0, false⟩ [[]]) :
    Calls Tryz.prog 13 #[.pointer (some ⟨p, 0, none⟩), .string (txt [97, 47, 98]), .int .i64 48] w fun r w' => ∃ lp sp cap, r = .returned (.tuple #[.pointer (some ⟨lp, 0, none⟩), .slice sp 0 cap, .int .i64 0]) ∧ Two w0 w' p lpa lp l m 0 0 := by
  refine (open_new hT hx.rep hx.newQ hx.turn [97, 47, 98] (by rfl) 48 (by decide) (by decide) rfl rfl (by decide) (fun n _ _ => no_seg (by decide) n) (by decide)).mono ?_
  rintro r w' ⟨lp, sp, cap, Q', rfl, hx', hl', hq, hlp, ht⟩
  rw [sc1] at hx' hl'
  have hA := hx.otherOpen hx' hq ht
  have hne : lpa ≠ lp := by have := hx.log.lt; omega
  have hla : Walp.Live Sc ⟨[97], 32, 1, 1, 0, false⟩ [[]] := live_elsewhere hl rfl (fun n => by
    rw [← sc1]
    exact Fsp.find_put_other _ (seg_length_ne (by decide) n 1) _)
  exact ⟨lp, sp, cap, rfl, Sc, _, _, [[]], [[]], Q', hA, hx', hne, hla, hl', rfl, rfl, by decide, by decide, by decide, by decide, rfl, rfl, by rfl, by simp [Sc, Fsp.usedOf, cost], by simp, by simp⟩

set_option maxRecDepth 100000 in
set_option maxHeartbeats 16000000 in
theorem apart_walk (hT : SumTab w) {v v2 : Value} {l m : List (List UInt8)} (hL : ListsIn w v l) (hM : ListsIn w v2 m) (hbl : ∀ q ∈ l, q.length ≤ 1048576) (hbm : ∀ q ∈ m, q.length ≤ 1048576) (hcl : l.length ≤ 60 → m.length ≤ 60 → cost l + cost m ≤ 2000000) :
    Calls Tryz.prog 9 #[v, v2] w fun r w' => r = .returned (.bool true) ∧ Turn (fun _ => False) w w' := by
  have kc := fun (w : World) (C : Array Value) (n c : Nat) => Lib.run_convert_bytes_const (P := Tryz.prog) w 37 5 C n c Tryz.underlying37 Tryz.underlying5
  obtain ⟨sp, cap, rfl, hml, hcc⟩ := hL
  obtain ⟨sp2, cap2, rfl, hmm, hcc2⟩ := hM
  have HL : Hid (ListsIn w (.slice sp l.length cap) l) := Lib.hid ⟨sp, cap, rfl, hml, hcc⟩
  have HM : Hid (ListsIn w (.slice sp2 m.length cap2) m) := Lib.hid ⟨sp2, cap2, rfl, hmm, hcc2⟩
  have HT := Lib.hid hT
  have HBL := Lib.hid hbl
  have HBM := Lib.hid hbm
  have HCL := Lib.hid hcl
  clear hcc hT hbl hbm hcl hcc2
  unfold maxLen at hml hmm
  go_enter Tryz.func9, Tryz.ntmps9
  go_wp2_with fail
  go_at_call 10
  refine (first_any HT.out).mono ?_
  rintro r w1 ⟨rfl, t1⟩
  have T1 := Lib.hid t1
  clear t1
  go_wp2_with fail
  go_at_call 11
  refine (wFew_any (HL.out.turned T1.out)).mono ?_
  rintro r w2 ⟨small, rfl, hsm, hlk⟩
  have T2 := Lib.hid (Turn.like T1.out hlk)
  clear hlk T1
  cases small with
  | false =>
    clear hsm
    go_wp2
    go_ret
    exact ⟨rfl, T2.out⟩
  | true =>
    have H60 := Lib.hid (hsm rfl)
    clear hsm
    go_wp2_with fail
    go_at_call 11
    refine (wFew_any (HM.out.turned T2.out)).mono ?_
    rintro r w2' ⟨small, rfl, hsm, hlk⟩
    have T3 := Lib.hid (Turn.like T2.out hlk)
    clear hlk T2
    cases small with
    | false =>
      clear hsm
      go_wp2
      go_ret
      exact ⟨rfl, T3.out⟩
    | true =>
      have M60 := Lib.hid (hsm rfl)
      have HCO := Lib.hid (HCL.out H60.out M60.out)
      clear hsm HCL
      go_wp2_with fail
      go_at_call 12
      refine (new_any 67108864 _).mono ?_
      rintro r w3 ⟨rfl, hr3, ht3⟩
      have hs3 : Since w2' w2'.heap.size (Fsp.new 67108864) w3 := ⟨hr3, ht3⟩
      have Q3 := Lib.hid hs3
      clear hr3 ht3 hs3
      go_wp2_with fail
      go_at_call 38
      refine (Q3.out.create (by unfold StepsOk; decide) ⟨#[111, 116, 104, 101, 114]⟩ (by decide) ap1).mono ?_
      rintro r w4 ⟨rfl, q4⟩
      have Q4 := Lib.hid q4
      clear q4 Q3
      go_wp2_with fail
      go_at_call 39
      refine (Q4.out.appendLit (by unfold StepsOk; decide) ⟨#[111, 116, 104, 101, 114]⟩ (by decide) (turnBox _ _) _ otherB (slice_lit _ _ _ _ _ _ _ rfl rfl) (by decide) (fun _ _ _ e => by cases e; exact Nat.le_refl _) ap2).mono ?_
      rintro r w5 ⟨rfl, q5⟩
      have Q5 := Lib.hid q5
      clear q5 Q4
      go_wp2_with fail
      go_at_call 45
      refine (Q5.out.sync (by unfold StepsOk; decide) ⟨#[111, 116, 104, 101, 114]⟩ (by decide) ap3).mono ?_
      rintro r w6 ⟨rfl, q6⟩
      have q6' : Since w w2'.heap.size Sa w6 := by
        obtain ⟨⟨mo, pl, hr⟩, ht⟩ := q6
        have hsz := T3.out.size
        exact ⟨⟨mo, pl, hr.mono (fun b hb => ⟨by omega, hb.2⟩) (fun b hb => hb.2)⟩, T3.out.trans ht (fun _ _ q => q)⟩
      have hop := open_two_a (w0 := w) HT.out q6'
      have HOP := Lib.hid hop
      clear q6 q6' Q5 hop
      go_wp2_with fail
      go_at_call 13
      refine HOP.out.mono ?_
      rintro r w7 ⟨lpa, sp7, cap7, Q7, rfl, hx7, hl7⟩
      rw [sb1] at hx7 hl7
      have hop := open_two_b (w0 := w) (l := l) (m := m) HT.out hx7 hl7
      have HOP2 := Lib.hid hop
      clear hx7 hl7 hop HOP
      go_wp2_with fail
      go_at_call 13
      refine HOP2.out.mono ?_
      rintro r w8 ⟨lpb, sp8, cap8, rfl, htwo⟩
      have HTW := Lib.hid htwo
      clear htwo HOP2
      go_wp2_with (go_at_call 14; refine (num_any _ _).mono ?_; rintro r w' ⟨rfl, rfl⟩)
      go_loopw [14] (fun i wr => ∃ k : Nat, k ≤ max l.length m.length ∧ i = .int .i64 k ∧ Two w wr w2'.heap.size lpa lpb l m k k) (fun i _ => max l.length m.length - (intOf i).toNat)
      case atStart => exact ⟨0, Nat.zero_le _, rfl, HTW.out⟩
      case round =>
        obtain ⟨k, hk, rfl, htw⟩ := hrel
        have HTK := Lib.hid htw
        clear htw
        have hk60 : k ≤ 60 := by have := H60.out; have := M60.out; omega
        have HK60 := Lib.hid hk60
        clear hk60
        by_cases hlt : k < l.length
        · obtain ⟨sp', cap', hv, _, hcc⟩ := HL.out
          simp only [Value.slice.injEq] at hv
          obtain ⟨rfl, _, rfl⟩ := hv
          obtain ⟨a, u, hsp, hat, hok⟩ := hcc k _ (List.getElem?_eq_getElem hlt)
          subst hsp
          have c2 := turn_cell HTK.out.turn hat
          have hA := two_appendA HT.out HTK.out hlt (by have := H60.out; omega) HK60.out HCO.out hok (HBL.out _ (List.getElem_mem hlt))
          have HA := Lib.hid hA
          have i0' : (0 : Int) ≤ (k : Int) := by omega
          have i1 : (k : Int) < (l.length : Int) := by omega
          clear hat hok hA hcc
          by_cases hlt2 : k < m.length
          · obtain ⟨sp', cap', hv, _, hcc⟩ := HM.out
            simp only [Value.slice.injEq] at hv
            obtain ⟨rfl, _, rfl⟩ := hv
            obtain ⟨a2, u2, hsp, hat2, hok2⟩ := hcc k _ (List.getElem?_eq_getElem hlt2)
            subst hsp
            have i2 : (k : Int) < (m.length : Int) := by omega
            have hB := fun (wx : World) (hx : Two w wx w2'.heap.size lpa lpb l m (k + 1) k) => two_appendB HT.out hx hlt2 (by have := H60.out; omega) (by have := M60.out; omega) HCO.out hok2 (HBM.out _ (List.getElem_mem hlt2))
            have HB := Lib.hid hB
            have HAT2 := Lib.hid hat2
            clear hat2 hok2 hB hcc hlt hlt2
            go_wp2_with fail
            go_at_call 16
            refine HA.out.mono ?_
            rintro r w9 ⟨rfl, h9⟩
            have c9 := turn_cell h9.turn HAT2.out
            have H9 := Lib.hid h9
            clear h9 c2
            go_wp2_with (go_at_call 14; refine (num_any _ _).mono ?_; rintro r w' ⟨rfl, rfl⟩)
            go_at_call 16
            refine (HB.out _ H9.out).mono ?_
            rintro r w10 ⟨rfl, h10⟩
            have H10 := Lib.hid h10
            clear h10
            go_wp2_with (go_at_call 14; refine (num_any _ _).mono ?_; rintro r w' ⟨rfl, rfl⟩)
            go_roundw
            case rel => exact ⟨k + 1, by omega, by go_num, H10.out⟩
            case measure => simp [intOf]; omega
          · have i2 : ¬ (k : Int) < (m.length : Int) := by omega
            go_wp2_with fail
            go_at_call 16
            refine HA.out.mono ?_
            rintro r w9 ⟨rfl, h9⟩
            have H9 := Lib.hid (h9.skipB (by omega))
            clear h9 c2
            go_wp2_with (go_at_call 14; refine (num_any _ _).mono ?_; rintro r w' ⟨rfl, rfl⟩)
            go_roundw
            case rel => exact ⟨k + 1, by omega, by go_num, H9.out⟩
            case measure => simp [intOf]; omega
        · by_cases hlt2 : k < m.length
          · obtain ⟨sp', cap', hv, _, hcc⟩ := HM.out
            simp only [Value.slice.injEq] at hv
            obtain ⟨rfl, _, rfl⟩ := hv
            obtain ⟨a2, u2, hsp, hat2, hok2⟩ := hcc k _ (List.getElem?_eq_getElem hlt2)
            subst hsp
            have i0' : (0 : Int) ≤ (k : Int) := by omega
            have i1 : ¬ (k : Int) < (l.length : Int) := by omega
            have i2 : (k : Int) < (m.length : Int) := by omega
            have c2 := turn_cell HTK.out.turn hat2
            have hB := two_appendB HT.out (HTK.out.skipA (by omega)) hlt2 (by have := M60.out; omega) (by have := M60.out; omega) HCO.out hok2 (HBM.out _ (List.getElem_mem hlt2))
            have HB := Lib.hid hB
            clear hat2 hok2 hB hcc
            go_wp2_with fail
            go_at_call 16
            refine HB.out.mono ?_
            rintro r w10 ⟨rfl, h10⟩
            have H10 := Lib.hid h10
            clear h10 c2
            go_wp2_with (go_at_call 14; refine (num_any _ _).mono ?_; rintro r w' ⟨rfl, rfl⟩)
            go_roundw
            case rel => exact ⟨k + 1, by omega, by go_num, H10.out⟩
            case measure => simp [intOf]; omega
          · have i1 : ¬ (k : Int) < (l.length : Int) := by omega
            have i2 : ¬ (k : Int) < (m.length : Int) := by omega
            have hcr := two_crash HTK.out (by omega) (by omega) HK60.out HK60.out
            have HCR := Lib.hid hcr
            have HML := Lib.hid (show l.length ≤ maxLen ∧ m.length ≤ maxLen by have := H60.out; have := M60.out; unfold maxLen; omega)
            have HEL := Lib.hid (show ∀ q, q ∈ l → q.length ≤ maxLen from fun q hq => by have := HBL.out q hq; unfold maxLen; omega)
            have HEM := Lib.hid (show ∀ q, q ∈ m → q.length ≤ maxLen from fun q hq => by have := HBM.out q hq; unfold maxLen; omega)
            clear hcr
            go_wp2_with fail
            go_at_call 17
            refine HCR.out.mono ?_
            rintro r w9 ⟨rfl, S, la, lb, lsa, lsb, Q, hx, hla, hlb, hda, hdb, hlasta, hlastb, hst, har, hoth, hfa, hfb⟩
            have hop := reopen_any HT.out hx hla har hlasta hst 32 (by decide) (by decide) hda hfa
            have HOP := Lib.hid hop
            have hopb := fun (w' : World) (lp : Nat) (Q' : Nat → Prop) (l' : Walp.Lg) (hx' : LogX w w' w2'.heap.size S Q' lp l') => reopen_any HT.out hx' hlb har hlastb hst 48 (by decide) (by decide) hdb hfb
            have HOPB := Lib.hid hopb
            have HOTH := Lib.hid hoth
            clear hx hla hlb hda hdb hlasta hlastb hst har hoth hfa hfb hop hopb HCR
            go_wp2_with fail
            go_at_call 13
            refine HOP.out.mono ?_
            rintro r w10 ⟨lp10, sp10, cap10, rfl, hls10, Q10, l10, hx10, t10⟩
            have LS10 := Lib.hid hls10
            have X10 := Lib.hid hx10
            have hopb := HOPB.out _ _ _ _ hx10
            have HOPB2 := Lib.hid hopb
            clear hls10 hx10 t10 hopb
            go_wp2_with fail
            go_at_call 13
            refine HOPB2.out.mono ?_
            rintro r w11 ⟨lp11, sp11, cap11, rfl, hls11, Q11, l11, hx11, t11⟩
            have LS11 := Lib.hid hls11
            have LX10 := Lib.hid (LS10.out.new t11)
            obtain ⟨mo, pl, hr11⟩ := hx11.rep
            have hrd := read_some hr11 ⟨#[111, 116, 104, 101, 114]⟩ (by decide) HOTH.out
            have HRD := Lib.hid hrd
            have T11 := Lib.hid hx11.turn
            clear hls11 hx11 t11 hr11 hrd
            go_wp2_with fail
            go_at_call 37
            refine HRD.out.mono ?_
            rintro r w12 ⟨g, rfl, hown, ht12⟩
            have hcv : (convert 37 9 (.slice (some ⟨g, 0, none⟩) 5 5)).run Tryz.prog w12 = .ok (.string ⟨#[98, 121, 116, 101, 115]⟩) w12 :=
              run_convert_bytes_back (P := Tryz.prog) w12 37 9 5 ⟨g, 0, none⟩ 5 [98, 121, 116, 101, 115] Tryz.underlying37 Tryz.underlying5 Tryz.underlying9
                (fun j hj => by rw [add_head, hown.cellAt j (by simpa using hj), List.getElem?_map, List.getElem?_eq_getElem hj]; rfl)
            have A12 := Lib.hid (LX10.out.new ht12).toR
            have B12 := Lib.hid (LS11.out.new ht12).toR
            have T12 := Lib.hid (T11.out.trans ht12 (fun _ _ q => q))
            have L12 := Lib.hid (HL.out.turned T12.out).toR
            have M12 := Lib.hid (HM.out.turned T12.out).toR
            have hown' : ∀ W, Like w12 W → (convert 37 9 (.slice (some ⟨g, 0, none⟩) 5 5)).run Tryz.prog W = .ok (.string ⟨#[98, 121, 116, 101, 115]⟩) W := fun W hW =>
              run_convert_bytes_back (P := Tryz.prog) W 37 9 5 ⟨g, 0, none⟩ 5 [98, 121, 116, 101, 115] Tryz.underlying37 Tryz.underlying5 Tryz.underlying9
                (fun j hj => by rw [add_head]; refine hW.cell ?_; rw [hown.cellAt j (by simpa using hj), List.getElem?_map, List.getElem?_eq_getElem hj]; rfl)
            have HCV := Lib.hid hown'
            clear hown ht12 hcv hown'
            go_wp2_with (go_at_call 14; refine (num_any _ _).mono ?_; rintro r w' ⟨rfl, rfl⟩)
            go_at_call 20
            refine (sameLists_any A12.out L12.out HML.out.1 HML.out.1 HEL.out HEL.out).mono ?_
            rintro r w13 ⟨rfl, hlk13⟩
            rw [decide_eq_true rfl]
            have K13 := Lib.hid hlk13
            clear hlk13
            go_wp2_with fail
            go_at_call 20
            refine (sameLists_any (B12.out.like K13.out) (M12.out.like K13.out) HML.out.2 HML.out.2 HEM.out HEM.out).mono ?_
            rintro r w14 ⟨rfl, hlk14⟩
            rw [decide_eq_true rfl]
            have hk14 := K13.out.trans hlk14
            have hcv := HCV.out _ hk14
            have K14 := Lib.hid hk14
            clear hlk14 hk14
            go_wp2_with fail
            go_ret
            exact ⟨rfl, Turn.like T12.out K14.out⟩
end
end Go.Proofs.YtkhlejficonhpaaGreatDoor
