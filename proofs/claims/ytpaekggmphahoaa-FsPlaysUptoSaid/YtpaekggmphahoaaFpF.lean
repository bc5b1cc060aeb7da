/-
  PARTS: Law1, Law2, Law3, Law4.
-/
import Derived.Test.YtpaekggmphahoaaFpC
import Derived.Test.YtpaekggmphahoaaFpE
import Derived.Lib.SlBytesConst
/-
  OF THE LAWS: Few, told, Made.
-/
namespace Go.Proofs.Ytpaekggmphahoaa
open Go.RowKit Go.Maps Go.WideMaps

/-- an operation that was handed in -/
structure OpD where
  kind : Int
  n : Int
  name : ByteArray
  to : ByteArray
  bv : Value
  b : List UInt8

/-- its cells, from an address on -/
structure OpAt (w : World) (a : Addr) (o : OpD) : Prop where
  c0 : w.cell? a = some (.int .i64 o.kind)
  c1 : w.cell? ⟨a.block, a.off + 1, none⟩ = some (.int .i64 o.n)
  c2 : w.cell? ⟨a.block, a.off + 2, none⟩ = some (.string o.name)
  c3 : w.cell? ⟨a.block, a.off + 3, none⟩ = some (.string o.to)
  c4 : w.cell? ⟨a.block, a.off + 4, none⟩ = some o.bv

/-- what the form says of each -/
structure OpOk (w : World) (o : OpD) : Prop where
  n : -9223372036854775808 ≤ o.n ∧ o.n ≤ 9223372036854775807
  kind : -9223372036854775808 ≤ o.kind ∧ o.kind ≤ 9223372036854775807
  name : o.name.size ≤ maxLen
  to : o.to.size ≤ maxLen
  b : o.b.length ≤ maxLen
  slice : SliceB w o.bv o.b

def OpsAt (w : World) (v : Value) (ops : List OpD) : Prop :=
  ∃ sp cap, v = .slice sp ops.length cap ∧ ops.length ≤ maxLen ∧ ∀ i o, ops[i]? = some o → (∃ a, sp = some a ∧ OpAt w (a.add (i * 5)) o) ∧ OpOk w o

section
variable {w w' : World} {p : Nat} {S S' : Fsp.Fs} {c c' : Bool} {Q : Nat → Prop} {mo : Option Nat} {pl : List UInt8 → Pl}

theorem Like.cell (h : Like w w') {a : Addr} {v : Value} (k : w.cell? a = some v) : w'.cell? a = some v :=
  (World.cell?_of_block (by rw [h.heap])).trans k
theorem Like.trans {a b d : World} (h : Like a b) (k : Like b d) : Like a d := ⟨k.heap.trans h.heap, k.os.trans h.os, k.tape.trans h.tape, k.output.trans h.output⟩

/-- what Few answers -/
def FewSays (w : World) (n : Nat) (r : Ending) (w' : World) : Prop := ∃ b : Bool, r = .returned (.bool b) ∧ (b = true → n ≤ 300) ∧ Like w w'

set_option maxRecDepth 100000 in
set_option maxHeartbeats 1000000 in
theorem few_any {v : Value} {ops : List OpD} (h : OpsAt w v ops) : Calls Try.prog 5 #[v] w (FewSays w ops.length) := by
  obtain ⟨sp, cap, rfl, hm, hops⟩ := h
  unfold maxLen at hm
  have HO := Lib.hid hops
  clear hops
  go_enter Try.func5, Try.ntmps5
  go_wp2_with fail
  go_loopw [3, 4] (fun n i wr => ∃ (k : Nat) (q : Int), k ≤ ops.length ∧ k ≤ 300 ∧ i = .int .i64 k ∧ n = .int .i64 q ∧ 0 ≤ q ∧ q ≤ 40000 ∧ Like w wr) (fun _ i _ => ops.length - (intOf i).toNat)
  case atStart => exact ⟨0, 0, Nat.zero_le _, Nat.zero_le _, rfl, rfl, by omega, by omega, ⟨rfl, rfl, rfl, rfl⟩⟩
  case round =>
    obtain ⟨k, q, hk, hk3, rfl, rfl, hq0, hq1, hl⟩ := hrel
    by_cases hlt : k < ops.length
    · by_cases hlt3 : k < 300
      · obtain ⟨⟨a, hsp, hat⟩, hok⟩ := HO.out k _ (List.getElem?_eq_getElem hlt)
        subst hsp
        have c2 := hl.cell hat.c2
        have c3 := hl.cell hat.c3
        have c4 := hl.cell hat.c4
        obtain ⟨sp4, cap4, hb4, _⟩ := hok.slice.toR
        rw [hb4] at c4
        have hs2 := hok.name
        have hs3 := hok.to
        have hs4 := hok.b
        unfold maxLen at hs2 hs3 hs4
        have HL := Lib.hid hl
        clear hb4 hok hat hl
        generalize ops[k] = o at *
        have i0 : (0 : Int) ≤ (k : Int) := by omega
        have i1 : (k : Int) < (ops.length : Int) := by omega
        go_wp2_with fail
        go_quiet (fail)
        go_wp2_with fail
        go_roundw
        case rel => exact ⟨k + 1, _, by omega, by omega, by go_num, rfl, by omega, by omega, HL.out.trans (like_drewN _ _)⟩
        case measure => simp [intOf]; omega
      · have hk0 : k = 300 := by omega
        subst hk0
        have i1 : (300 : Int) < (ops.length : Int) := by omega
        have i2 : decide ((ops.length : Int) ≤ 300) = false := by simp; omega
        go_wp2
        go_ret
        exact ⟨false, rfl, by simp, hl⟩
    · have hk0 : k = ops.length := by omega
      subst hk0
      have hl3 : ((ops.length : Nat) : Int) ≤ 300 := by omega
      clear hk hlt
      by_cases hq2 : q ≤ 20000
      all_goals
        go_wp2
        go_ret
        exact ⟨_, rfl, fun _ => by omega, hl⟩

/-- what an operation makes of a file system, and its error -/
def toldS (S : Fsp.Fs) (o : OpD) : Fsp.Fs × Nat :=
  if o.kind = 0 then Fsp.create S o.name.data.toList
  else if o.kind = 1 then Fsp.append S o.name.data.toList o.b
  else if o.kind = 2 then Fsp.sync S o.name.data.toList
  else if o.kind = 3 then Fsp.truncate S o.name.data.toList o.n
  else if o.kind = 4 then Fsp.rename S o.name.data.toList o.to.data.toList
  else if o.kind = 5 then Fsp.remove S o.name.data.toList
  else if o.kind = 6 then (Fsp.arm S o.n, 0)
  else if o.kind = 7 then (Fsp.crash S fun _ _ => o.n, 0)
  else (S, 0)

theorem Post.pre {w1 : World} (h : Post w1 p S Q w') (k : Turn (fun _ => False) w w1) : Post w p S Q w' := by
  obtain ⟨⟨mo, pl, hr⟩, ht⟩ := h
  refine ⟨⟨mo, pl, hr.mono (fun i hi => Grow.after k.size i hi) (fun i hi => ?_)⟩, (k.mono (fun _ q => q.elim)).trans ht (fun _ _ q => q)⟩
  rcases hi with hi | hi
  · exact hr.lt i (Or.inl hi)
  · exact hi.2

/-- the box that an operation is laid in -/
abbrev boxOf (o : OpD) : Obj := .cells #[.int .i64 o.kind, .int .i64 o.n, .string o.name, .string o.to, o.bv] 31

theorem turnBox (w : World) (o : Obj) : Turn (fun _ => False) w (w.alloc o) := (Turn.refl _ w).alloc o

abbrev opVal (o : OpD) : Value := .agg #[.int .i64 o.kind, .int .i64 o.n, .string o.name, .string o.to, o.bv]





theorem turned_cell {b o : Nat} {v : Value} (h : w.cell? ⟨b, o, none⟩ = some v) (ht : Turn Q w w') (hq : ¬ Q b) : w'.cell? ⟨b, o, none⟩ = some v :=
  (World.cell?_of_block (ht.block b (World.block_lt_of_cell? w _ h) hq)).trans h



theorem cell_new (w : World) (cs : Array Value) (t : TypeId) (j : Nat) : (w.alloc (.cells cs t)).cell? ⟨w.heap.size, j, none⟩ = cs[j]? := by
  unfold World.cell?
  simp only [heap_alloc_new]
  rfl





end
end Go.Proofs.Ytpaekggmphahoaa

/-
  OF THE LAWS: Made.
-/
namespace Go.Proofs.Ytpaekggmphahoaa
open Go.RowKit Go.Maps Go.WideMaps

def madeS (S : Fsp.Fs) (ops : List OpD) : Fsp.Fs := ops.foldl (fun S o => (toldS S o).1) S

theorem madeS_snoc (S : Fsp.Fs) (ops : List OpD) (o : OpD) : madeS S (ops ++ [o]) = (toldS (madeS S ops) o).1 := by simp [madeS]

theorem steps_stepped (S : Fsp.Fs) : (Fsp.stepped S).steps ≤ S.steps + 1 := by unfold Fsp.stepped; split <;> simp

theorem steps_told (S : Fsp.Fs) (o : OpD) : (toldS S o).1.steps ≤ S.steps + 1 := by
  have h := steps_stepped S
  unfold toldS Fsp.create Fsp.append Fsp.sync Fsp.truncate Fsp.rename Fsp.remove
  repeat (first | split | (simp only [Fsp.arm, Fsp.crash]; omega) | omega)

theorem steps_made (S : Fsp.Fs) (ops : List OpD) : (madeS S ops).steps ≤ S.steps + ops.length := by
  induction ops generalizing S with
  | nil => simp [madeS]
  | cons o r ih =>
    have h1 := steps_told S o
    have h2 := ih (toldS S o).1
    show (madeS (toldS S o).1 r).steps ≤ _
    simp only [List.length_cons]
    omega

section
variable {w w' : World} {p : Nat} {S S' : Fsp.Fs} {c c' : Bool} {Q : Nat → Prop} {mo : Option Nat} {pl : List UInt8 → Pl}

theorem OpAt.turned {a : Addr} {o : OpD} (h : OpAt w a o) (ht : Turn (fun _ => False) w w') : OpAt w' a o :=
  ⟨turn_cell ht h.c0, turned_cell h.c1 ht (fun q => q), turned_cell h.c2 ht (fun q => q), turned_cell h.c3 ht (fun q => q), turned_cell h.c4 ht (fun q => q)⟩

theorem OpOk.turned {o : OpD} (h : OpOk w o) (ht : Turn (fun _ => False) w w') : OpOk w' o :=
  ⟨h.n, h.kind, h.name, h.to, h.b, h.slice.turned ht (fun _ _ _ _ _ q => q)⟩

theorem OpsAt.turned {v : Value} {ops : List OpD} (h : OpsAt w v ops) (ht : Turn (fun _ => False) w w') : OpsAt w' v ops := by
  obtain ⟨sp, cap, hv, hm, hops⟩ := h
  exact ⟨sp, cap, hv, hm, fun i o ho => ⟨by obtain ⟨⟨a, e, ha⟩, _⟩ := hops i o ho; exact ⟨a, e, ha.turned ht⟩, (hops i o ho).2.turned ht⟩⟩

/-- what was handed in lies below -/
theorem SliceB.out {v : Value} {b : List UInt8} (h : SliceB w v b) {B : Nat} (hB : w.heap.size ≤ B) (hQ : ∀ i, Q i → B ≤ i) : OutOf Q v := by
  intro ad n cap e hn q
  rcases h with ⟨hv, _⟩ | ⟨ad', cap', hv, hc⟩
  · rw [hv] at e; cases e
  · rw [hv] at e
    simp only [Value.slice.injEq, Option.some.injEq] at e
    obtain ⟨rfl, rfl, _⟩ := e
    have h0 := hc 0 b[0] (by simp)
    have := World.block_lt_of_cell? w _ h0
    rw [add_block] at this
    have := hQ _ q
    omega

/-- a file system among the blocks that have come since w -/
def Since (w : World) (p : Nat) (S : Fsp.Fs) (w' : World) : Prop := Rep w' p S (fun b => w.heap.size ≤ b ∧ b < w'.heap.size) ∧ Turn (fun _ => False) w w'

theorem Since.post {w1 w2 : World} (h : Since w p S w1) (k : Post w1 p S' (fun b => w.heap.size ≤ b ∧ b < w1.heap.size) w2) : Since w p S' w2 := by
  obtain ⟨⟨mo, pl, hr⟩, ht⟩ := k
  refine ⟨⟨mo, pl, hr.mono (fun i hi => ?_) (fun i hi => hi.2)⟩, h.2.trans ht (fun i hi q => by omega)⟩
  have h1 := h.2.size
  have h2 := ht.size
  rcases hi with hi | hi
  · exact ⟨hi.1, by omega⟩
  · exact ⟨by omega, hi.2⟩





end
end Go.Proofs.Ytpaekggmphahoaa

/-
  OF THE LAWS: first.
-/
namespace Go.Proofs.Ytpaekggmphahoaa
open Go.RowKit Go.Maps Go.WideMaps

namespace Ex
def s0 : Fsp.Fs := ⟨10, 0, 0, false, []⟩
def s1 : Fsp.Fs := ⟨10, 1, 0, false, [([97], ⟨[], 0⟩)]⟩
def s2 : Fsp.Fs := ⟨10, 2, 0, false, [([97], ⟨[97, 98, 99], 0⟩)]⟩
def s3 : Fsp.Fs := ⟨10, 3, 0, false, [([97], ⟨[97, 98, 99], 3⟩)]⟩
def s4 : Fsp.Fs := ⟨10, 4, 0, false, [([97], ⟨[97, 98, 99, 100, 101], 3⟩)]⟩
def s5 : Fsp.Fs := ⟨10, 4, 0, false, [([97], ⟨[97, 98, 99, 100], 4⟩)]⟩
theorem e0 : Fsp.new 10 = s0 := rfl
theorem e1 : Fsp.append s0 [97] [] = (s0, 2) := rfl
theorem e2 : Fsp.create s0 [97] = (s1, 0) := rfl
theorem e3 : Fsp.append s1 [97] [49, 50, 51, 52, 53, 54, 55, 56, 57, 48, 49] = (s1, 4) := rfl
theorem e4 : Fsp.append s1 [97] [97, 98, 99] = (s2, 0) := rfl
theorem e5 : Fsp.sync s2 [97] = (s3, 0) := rfl
theorem e6 : Fsp.append s3 [97] [100, 101] = (s4, 0) := rfl
theorem e7 : Fsp.crash s4 (fun _ _ => 1) = s5 := rfl
theorem e8 : Fsp.find s5.L [97] = some ⟨[97, 98, 99, 100], 4⟩ := rfl
end Ex

section
variable {w w' : World} {p : Nat} {S S' : Fsp.Fs} {c c' : Bool} {Q : Nat → Prop} {mo : Option Nat} {pl : List UInt8 → Pl}

abbrev nameA : ByteArray := ⟨#[97]⟩

theorem Since.append (h : Since w p S w') (hs : StepsOk S) (s : ByteArray) (hz : s.size ≤ maxLen) {n : Nat} {w1 : World} (ht : Turn (fun _ => False) w' w1) (v : Value) (b : List UInt8) (hb : SliceB w1 v b) (hbl : b.length ≤ maxLen)
    (hout : ∀ ad k cap, v = .slice (some ad) k cap → w'.heap.size ≤ ad.block) (he : Fsp.append S s.data.toList b = (S', n)) :
    Calls Try.prog 16 #[.pointer (some ⟨p, 0, none⟩), .string s, v] w1 fun r w2 => r = .returned (.int .i64 (n : Int)) ∧ Since w p S' w2 := by
  have h0 := h
  obtain ⟨⟨mo, pl, hr⟩, ht0⟩ := h
  refine (append_any (hr.turned ht (fun _ _ q => q)) hs s hz v b hb hbl (fun ad k cap e _ q => by have := hout ad k cap e; omega)).mono ?_
  rintro r w2 ⟨rfl, hp⟩
  rw [he] at hp ⊢
  exact ⟨rfl, Since.post h0 (hp.pre ht)⟩

theorem Since.create (h : Since w p S w') (hs : StepsOk S) (s : ByteArray) (hz : s.size ≤ maxLen) {n : Nat} (he : Fsp.create S s.data.toList = (S', n)) :
    Calls Try.prog 9 #[.pointer (some ⟨p, 0, none⟩), .string s] w' fun r w2 => r = .returned (.int .i64 (n : Int)) ∧ Since w p S' w2 := by
  have h0 := h
  obtain ⟨⟨mo, pl, hr⟩, ht0⟩ := h
  refine (create_any hr hs s hz).mono ?_
  rintro r w2 ⟨rfl, hp⟩
  rw [he] at hp ⊢
  exact ⟨rfl, Since.post h0 hp⟩

theorem Since.sync (h : Since w p S w') (hs : StepsOk S) (s : ByteArray) (hz : s.size ≤ maxLen) {n : Nat} (he : Fsp.sync S s.data.toList = (S', n)) :
    Calls Try.prog 17 #[.pointer (some ⟨p, 0, none⟩), .string s] w' fun r w2 => r = .returned (.int .i64 (n : Int)) ∧ Since w p S' w2 := by
  have h0 := h
  obtain ⟨⟨mo, pl, hr⟩, ht0⟩ := h
  refine (sync_any hr hs s hz).mono ?_
  rintro r w2 ⟨rfl, hp⟩
  rw [he] at hp ⊢
  exact ⟨rfl, Since.post h0 hp⟩

theorem Since.truncate (h : Since w p S w') (hs : StepsOk S) (s : ByteArray) (hz : s.size ≤ maxLen) (k : Int) {n : Nat} (he : Fsp.truncate S s.data.toList k = (S', n)) :
    Calls Try.prog 33 #[.pointer (some ⟨p, 0, none⟩), .string s, .int .i64 k] w' fun r w2 => r = .returned (.int .i64 (n : Int)) ∧ Since w p S' w2 := by
  have h0 := h
  obtain ⟨⟨mo, pl, hr⟩, ht0⟩ := h
  refine (truncate_any hr hs s hz k).mono ?_
  rintro r w2 ⟨rfl, hp⟩
  rw [he] at hp ⊢
  exact ⟨rfl, Since.post h0 hp⟩

/-- a crash that asks something that lies outside, or nothing, and answers by kf -/
theorem Since.crash {kv : Value} {I : World → List (List UInt8 × Nat) → Prop} {kf : List UInt8 → Nat → Int} {Qc : Nat → Prop} {l : List (List UInt8 × Nat)} (h : Since w p S w') (hK : Keeper kv I kf Qc) (hI : I w' l) (hnew : ∀ b, ¬ Qc b) :
    Calls Try.prog 10 #[.pointer (some ⟨p, 0, none⟩), kv] w' fun r w2 => r = .returned (.tuple #[]) ∧ Since w p (Fsp.crash S kf) w2 := by
  have h0 := h
  obtain ⟨⟨mo, pl, hr⟩, ht0⟩ := h
  refine (crash_any hK hI (fun b q => absurd q (hnew b)) hr).mono ?_
  rintro r w2 ⟨rfl, h1, _, h3⟩
  exact ⟨rfl, Since.post h0 ⟨h1, h3.mono (fun i q => q.elim id (fun x => absurd x (hnew i)))⟩⟩

theorem enter_first (args : Array Value) (w : World) : (callFunc 18 args).run Try.prog w = .ok (.enter 18 args) w := by kernel_rfl

theorem firstKeep_any {s : ByteArray} {n : Int} {w : World} : Calls Try.prog 18 #[.string s, .int .i64 n] w fun r w' => r = .returned (.int .i64 1) ∧ w = w' := by
  go_enter Try.func18, Try.ntmps18
  go_wp2
  go_ret
  exact ⟨rfl, rfl⟩

theorem keeper_first : Keeper (.func (.func 18) #[] #[]) (fun _ _ => True) (fun _ _ => 1) (fun _ => False) :=
  keeper_some enter_first (fun _ _ _ _ _ _ _ => trivial) (fun _ _ _ _ q => q.elim)
    (fun s n w l _ _ _ => (firstKeep_any (s := s) (n := n)).mono fun r w' ⟨h1, h2⟩ => by subst h2; exact ⟨h1, trivial, Turn.refl _ _⟩)

theorem slice_lit (w : World) (b : List UInt8) (cs : Array Value) (t : TypeId) (fr : Nat × Nat) (n cap : Nat) (hcs : cs = (b.map byteV).toArray) (hn : n = b.length) : SliceB (w.alloc (.cells cs t fr)) (.slice (some ⟨w.heap.size, 0, none⟩) n cap) b := by
  subst hcs; subst hn
  refine Or.inr ⟨_, cap, rfl, fun j x hj => ?_⟩
  rw [add_head]
  unfold World.cell?
  simp only [heap_alloc_new]
  simp [hj]

set_option maxRecDepth 100000 in
set_option maxHeartbeats 1000000 in
theorem first_any (w : World) : Calls Try.prog 4 #[] w fun r w' => r = .returned (.bool true) ∧ Turn (fun _ => False) w w' := by
  have kc := fun (w : World) (C : Array Value) (n c : Nat) => Lib.run_convert_bytes_const (P := Try.prog) w 29 5 C n c Try.underlying29 Try.underlying5
  go_enter Try.func4, Try.ntmps4
  go_wp2_with fail
  go_at_call 6
  refine (new_any 10 _).mono ?_
  rintro r w1 ⟨rfl, hr1, ht1⟩
  have q1 : Since w w.heap.size Ex.s0 w1 := ⟨hr1, ht1⟩
  clear hr1 ht1
  go_wp2_with fail
  go_at_call 16
  refine (q1.append (by unfold StepsOk; decide) nameA (by decide) (Turn.refl _ _) (.slice none 0 0) [] (Or.inl ⟨rfl, rfl⟩) (by decide) (fun _ _ _ e => by cases e) Ex.e1).mono ?_
  rintro r w2 ⟨rfl, q2⟩
  clear q1
  go_wp2_with fail
  go_at_call 9
  refine (q2.create (by unfold StepsOk; decide) nameA (by decide) Ex.e2).mono ?_
  rintro r w3 ⟨rfl, q3⟩
  clear q2
  go_wp2_with fail
  go_at_call 16
  refine (q3.append (by unfold StepsOk; decide) nameA (by decide) (turnBox _ _) _ [49, 50, 51, 52, 53, 54, 55, 56, 57, 48, 49] (slice_lit _ _ _ _ _ _ _ rfl rfl) (by decide) (fun _ _ _ e => by cases e; exact Nat.le_refl _) Ex.e3).mono ?_
  rintro r w4 ⟨rfl, q4⟩
  clear q3
  go_wp2_with fail
  go_at_call 16
  refine (q4.append (by unfold StepsOk; decide) nameA (by decide) (turnBox _ _) _ [97, 98, 99] (slice_lit _ _ _ _ _ _ _ rfl rfl) (by decide) (fun _ _ _ e => by cases e; exact Nat.le_refl _) Ex.e4).mono ?_
  rintro r w5 ⟨rfl, q5⟩
  clear q4
  go_wp2_with fail
  go_at_call 17
  refine (q5.sync (by unfold StepsOk; decide) nameA (by decide) Ex.e5).mono ?_
  rintro r w6 ⟨rfl, q6⟩
  clear q5
  go_wp2_with fail
  go_at_call 16
  refine (q6.append (by unfold StepsOk; decide) nameA (by decide) (turnBox _ _) _ [100, 101] (slice_lit _ _ _ _ _ _ _ rfl rfl) (by decide) (fun _ _ _ e => by cases e; exact Nat.le_refl _) Ex.e6).mono ?_
  rintro r w7 ⟨rfl, q7⟩
  clear q6
  go_wp2_with fail
  go_at_call 10
  refine (q7.crash keeper_first (l := []) trivial (fun _ q => q)).mono ?_
  rintro r w8 ⟨rfl, q8⟩
  clear q7
  rw [Ex.e7] at q8
  go_wp2_with fail
  go_at_call 19
  obtain ⟨⟨mo, pl, hr⟩, ht8⟩ := q8
  refine (read_some hr nameA (by decide) Ex.e8).mono ?_
  rintro r w9 ⟨g, rfl, hown, ht9⟩
  have hcv : (convert 29 9 (.slice (some ⟨g, 0, none⟩) 4 4)).run Try.prog w9 = .ok (.string ⟨#[97, 98, 99, 100]⟩) w9 :=
    run_convert_bytes_back (P := Try.prog) w9 29 9 5 ⟨g, 0, none⟩ 4 [97, 98, 99, 100] Try.underlying29 Try.underlying5 Try.underlying9
      (fun j hj => by rw [add_head, hown.cellAt j (by simpa using hj), List.getElem?_map, List.getElem?_eq_getElem hj]; rfl)
  clear hown
  go_wp2_with (go_at_call 20; refine (num_any _ _).mono ?_; rintro r w' ⟨rfl, rfl⟩)
  go_ret
  exact ⟨rfl, ht8.trans ht9 (fun _ _ q => q)⟩

end
end Go.Proofs.Ytpaekggmphahoaa

/-
  OF THE LAWS: SameBytes; crashes by a boxed number.
-/
namespace Go.Proofs.Ytpaekggmphahoaa
open Go.RowKit Go.Maps Go.WideMaps

section
variable {w w' : World} {p : Nat} {S S' : Fsp.Fs} {c c' : Bool} {Q : Nat → Prop} {mo : Option Nat} {pl : List UInt8 → Pl}

theorem SliceR.like {v : Value} {d : List UInt8} (h : SliceR w v d) (k : Like w w') : SliceR w' v d := by
  obtain ⟨sp, cap, hv, hc⟩ := h
  exact ⟨sp, cap, hv, fun h0 => by obtain ⟨ad, e, hx⟩ := hc h0; exact ⟨ad, e, fun j x hj => k.cell (hx j x hj)⟩⟩

theorem SliceR.turned {v : Value} {d : List UInt8} (h : SliceR w v d) (ht : Turn (fun _ => False) w w') : SliceR w' v d := by
  obtain ⟨sp, cap, hv, hc⟩ := h
  exact ⟨sp, cap, hv, fun h0 => by obtain ⟨ad, e, hx⟩ := hc h0; exact ⟨ad, e, fun j x hj => turn_cell ht (hx j x hj)⟩⟩

theorem sameAt {da db : List UInt8} (hl : da.length = db.length) : da = db ↔ ∀ j (h1 : j < da.length) (h2 : j < db.length), da[j] = db[j] := by
  constructor
  · intro e; subst e; intros; rfl
  · intro h; exact List.ext_getElem hl h

theorem take_eq_snoc {da db : List UInt8} {k : Nat} (h1 : k < da.length) (h2 : k < db.length) (h : da.take k = db.take k) (e : da[k] = db[k]) : da.take (k + 1) = db.take (k + 1) := by
  rw [List.take_succ_eq_append_getElem h1, List.take_succ_eq_append_getElem h2, h, e]

set_option maxRecDepth 100000 in
set_option maxHeartbeats 1000000 in
theorem same_any {va vb : Value} {da db : List UInt8} (ha : SliceR w va da) (hb : SliceR w vb db) (hla : da.length ≤ maxLen) (hlb : db.length ≤ maxLen) :
    Calls Try.prog 43 #[va, vb] w fun r w' => r = .returned (.bool (decide (da = db))) ∧ Like w w' := by
  obtain ⟨sa, ca, rfl, hca⟩ := ha
  obtain ⟨sb, cb, rfl, hcb⟩ := hb
  unfold maxLen at hla hlb
  have HA := Lib.hid hca
  have HB := Lib.hid hcb
  clear hca hcb
  by_cases hl : da.length = db.length
  · have b1 : ((da.length : Int) != (db.length : Int)) = false := by rw [hl]; simp
    have HL := Lib.hid hl
    clear hl
    go_enter Try.func43, Try.ntmps43
    go_wp2_with fail
    go_loopw [5] (fun i wr => ∃ k : Nat, k ≤ da.length ∧ i = .int .i64 k ∧ da.take k = db.take k ∧ Like w wr) (fun i _ => da.length - (intOf i).toNat)
    case atStart => exact ⟨0, Nat.zero_le _, rfl, rfl, ⟨rfl, rfl, rfl, rfl⟩⟩
    case round =>
      obtain ⟨k, hk, rfl, htk, hlk⟩ := hrel
      have HK := Lib.hid htk
      have HW := Lib.hid hlk
      clear htk hlk
      by_cases hlt : k < da.length
      · have hlt2 : k < db.length := by have := HL.out; omega
        obtain ⟨aa, e1, x1⟩ := HA.out (by omega)
        obtain ⟨ab, e2, x2⟩ := HB.out (by omega)
        subst e1; subst e2
        have ca' := HW.out.cell (x1 k da[k] (List.getElem?_eq_getElem hlt))
        have cb' := HW.out.cell (x2 k db[k] (List.getElem?_eq_getElem hlt2))
        have i0 : (0 : Int) ≤ (k : Int) := by omega
        have i1 : (k : Int) < (da.length : Int) := by omega
        have i2 : (k : Int) < (db.length : Int) := by omega
        clear x1 x2
        by_cases he : da[k] = db[k]
        · have HE := Lib.hid he
          have b2 : (((da[k].toNat : Nat) : Int) != ((db[k].toNat : Nat) : Int)) = false := by rw [he]; simp
          clear he
          go_wp2_with fail
          go_quiet (fail)
          go_wp2
          go_roundw
          case rel => exact ⟨k + 1, by omega, by go_num, take_eq_snoc hlt hlt2 HK.out HE.out, HW.out.trans (like_drewN _ _)⟩
          case measure => simp [intOf]; omega
        · have b2 : (((da[k].toNat : Nat) : Int) != ((db[k].toNat : Nat) : Int)) = true := by
            rw [bne_iff_ne]; intro e; exact he (UInt8.toNat_inj.1 (by omega))
          have hd : decide (da = db) = false := by
            rw [decide_eq_false_iff_not]; intro e; exact he (by simp only [e])
          have HD := Lib.hid hd
          clear he hd
          go_wp2_with fail
          go_quiet (fail)
          go_wp2
          go_ret
          exact ⟨ret_bool HD.out.symm, HW.out.trans (like_drewN _ _)⟩
      · have hk0 : k = da.length := by omega
        subst hk0
        have hd : decide (da = db) = true := by
          rw [decide_eq_true_iff]
          have h1 := HK.out
          rw [List.take_length, HL.out, List.take_length] at h1
          exact h1
        have HD := Lib.hid hd
        clear hd
        go_wp2
        go_ret
        exact ⟨ret_bool HD.out.symm, HW.out⟩
  · have b1 : ((da.length : Int) != (db.length : Int)) = true := by rw [bne_iff_ne]; omega
    have hd : decide (da = db) = false := by
      rw [decide_eq_false_iff_not]; intro e; exact hl (by rw [e])
    rw [hd]
    clear hd hl
    go_enter Try.func43, Try.ntmps43
    go_wp2
    go_ret
    exact ⟨rfl, ⟨rfl, rfl, rfl, rfl⟩⟩

end
end Go.Proofs.Ytpaekggmphahoaa
