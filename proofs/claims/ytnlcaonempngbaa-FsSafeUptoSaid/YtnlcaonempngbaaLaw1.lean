/-
  OF THE LAWS: Few, told, Made.
-/
import Derived.Test.YtnlcaonempngbaaOps5
import Derived.Test.YtnlcaonempngbaaFsE
namespace Go.Proofs.Ytnlcaonempngbaa
open Go.RowKit Go.Maps Go.WideMaps

/-- an operation that was handed in -/
structure OpD where
  kind : Int
  n : Int
  name : ByteArray
  to : ByteArray
  bv : Value
  b : List UInt8

/-- its cells, from an address on -/
structure OpAt (w : World) (a : Addr) (o : OpD) : Prop where
  c0 : w.cell? a = some (.int .i64 o.kind)
  c1 : w.cell? ⟨a.block, a.off + 1, none⟩ = some (.int .i64 o.n)
  c2 : w.cell? ⟨a.block, a.off + 2, none⟩ = some (.string o.name)
  c3 : w.cell? ⟨a.block, a.off + 3, none⟩ = some (.string o.to)
  c4 : w.cell? ⟨a.block, a.off + 4, none⟩ = some o.bv

/-- what the form says of each -/
structure OpOk (w : World) (o : OpD) : Prop where
  n : -9223372036854775808 ≤ o.n ∧ o.n ≤ 9223372036854775807
  kind : -9223372036854775808 ≤ o.kind ∧ o.kind ≤ 9223372036854775807
  name : o.name.size ≤ maxLen
  to : o.to.size ≤ maxLen
  b : o.b.length ≤ maxLen
  slice : SliceB w o.bv o.b

def OpsAt (w : World) (v : Value) (ops : List OpD) : Prop :=
  ∃ sp cap, v = .slice sp ops.length cap ∧ ops.length ≤ maxLen ∧ ∀ i o, ops[i]? = some o → (∃ a, sp = some a ∧ OpAt w (a.add (i * 5)) o) ∧ OpOk w o

section
variable {w w' : World} {p : Nat} {S S' : Fsp.Fs} {c c' : Bool} {Q : Nat → Prop} {mo : Option Nat} {pl : List UInt8 → Pl}

theorem Like.cell (h : Like w w') {a : Addr} {v : Value} (k : w.cell? a = some v) : w'.cell? a = some v :=
  (World.cell?_of_block (by rw [h.heap])).trans k
theorem Like.trans {a b d : World} (h : Like a b) (k : Like b d) : Like a d := ⟨k.heap.trans h.heap, k.os.trans h.os, k.tape.trans h.tape, k.output.trans h.output⟩

/-- what Few answers -/
def FewSays (w : World) (n : Nat) (r : Ending) (w' : World) : Prop := ∃ b : Bool, r = .returned (.bool b) ∧ (b = true → n ≤ 300) ∧ Like w w'

set_option maxRecDepth 100000 in
set_option maxHeartbeats 1000000 in
theorem few_any {v : Value} {ops : List OpD} (h : OpsAt w v ops) : Calls Try.prog 12 #[v] w (FewSays w ops.length) := by
  obtain ⟨sp, cap, rfl, hm, hops⟩ := h
  unfold maxLen at hm
  have HO := Lib.hid hops
  clear hops
  go_enter Try.func12, Try.ntmps12
  go_wp2_with fail
  go_loopw [3, 4] (fun n i wr => ∃ (k : Nat) (q : Int), k ≤ ops.length ∧ k ≤ 300 ∧ i = .int .i64 k ∧ n = .int .i64 q ∧ 0 ≤ q ∧ q ≤ 40000 ∧ Like w wr) (fun _ i _ => ops.length - (intOf i).toNat)
  case atStart => exact ⟨0, 0, Nat.zero_le _, Nat.zero_le _, rfl, rfl, by omega, by omega, ⟨rfl, rfl, rfl, rfl⟩⟩
  case round =>
    obtain ⟨k, q, hk, hk3, rfl, rfl, hq0, hq1, hl⟩ := hrel
    by_cases hlt : k < ops.length
    · by_cases hlt3 : k < 300
      · obtain ⟨⟨a, hsp, hat⟩, hok⟩ := HO.out k _ (List.getElem?_eq_getElem hlt)
        subst hsp
        have c2 := hl.cell hat.c2
        have c3 := hl.cell hat.c3
        have c4 := hl.cell hat.c4
        obtain ⟨sp4, cap4, hb4, _⟩ := hok.slice.toR
        rw [hb4] at c4
        have hs2 := hok.name
        have hs3 := hok.to
        have hs4 := hok.b
        unfold maxLen at hs2 hs3 hs4
        have HL := Lib.hid hl
        clear hb4 hok hat hl
        generalize ops[k] = o at *
        have i0 : (0 : Int) ≤ (k : Int) := by omega
        have i1 : (k : Int) < (ops.length : Int) := by omega
        go_wp2_with fail
        go_quiet (fail)
        go_wp2_with fail
        go_roundw
        case rel => exact ⟨k + 1, _, by omega, by omega, by go_num, rfl, by omega, by omega, HL.out.trans (like_drewN _ _)⟩
        case measure => simp [intOf]; omega
      · have hk0 : k = 300 := by omega
        subst hk0
        have i1 : (300 : Int) < (ops.length : Int) := by omega
        have i2 : decide ((ops.length : Int) ≤ 300) = false := by simp; omega
        go_wp2
        go_ret
        exact ⟨false, rfl, by simp, hl⟩
    · have hk0 : k = ops.length := by omega
      subst hk0
      have hl3 : ((ops.length : Nat) : Int) ≤ 300 := by omega
      clear hk hlt
      by_cases hq2 : q ≤ 20000
      all_goals
        go_wp2
        go_ret
        exact ⟨_, rfl, fun _ => by omega, hl⟩

/-- what an operation makes of a file system, and its error -/
def toldS (S : Fsp.Fs) (o : OpD) : Fsp.Fs × Nat :=
  if o.kind = 0 then Fsp.create S o.name.data.toList
  else if o.kind = 1 then Fsp.append S o.name.data.toList o.b
  else if o.kind = 2 then Fsp.sync S o.name.data.toList
  else if o.kind = 3 then Fsp.truncate S o.name.data.toList o.n
  else if o.kind = 4 then Fsp.rename S o.name.data.toList o.to.data.toList
  else if o.kind = 5 then Fsp.remove S o.name.data.toList
  else if o.kind = 6 then (Fsp.arm S o.n, 0)
  else if o.kind = 7 then (Fsp.crash S fun _ _ => o.n, 0)
  else (S, 0)

theorem Post.pre {w1 : World} (h : Post w1 p S Q w') (k : Turn (fun _ => False) w w1) : Post w p S Q w' := by
  obtain ⟨⟨mo, pl, hr⟩, ht⟩ := h
  refine ⟨⟨mo, pl, hr.mono (fun i hi => Grow.after k.size i hi) (fun i hi => ?_)⟩, (k.mono (fun _ q => q.elim)).trans ht (fun _ _ q => q)⟩
  rcases hi with hi | hi
  · exact hr.lt i (Or.inl hi)
  · exact hi.2

/-- the box that an operation is laid in -/
abbrev boxOf (o : OpD) : Obj := .cells #[.int .i64 o.kind, .int .i64 o.n, .string o.name, .string o.to, o.bv] 44

theorem turnBox (w : World) (o : Obj) : Turn (fun _ => False) w (w.alloc o) := (Turn.refl _ w).alloc o

abbrev opVal (o : OpD) : Value := .agg #[.int .i64 o.kind, .int .i64 o.n, .string o.name, .string o.to, o.bv]

theorem told_0 (h : RepX w p S false Q mo pl) (hs : StepsOk S) (o : OpD) (ho : OpOk w o) (hk : o.kind = 0) :
    Calls Try.prog 34 #[.pointer (some ⟨p, 0, none⟩), opVal o] w fun r w' => r = .returned (.int .i64 ((toldS S o).2 : Nat)) ∧ Post w p (toldS S o).1 Q w' := by
  have e : toldS S o = Fsp.create S o.name.data.toList := by simp [toldS, hk]
  have hn := ho.name
  have ht := turnBox w (boxOf o)
  have h1 := h.turned ht (fun _ _ q => q)
  have HT := Lib.hid ht
  unfold boxOf at h1
  rw [e]
  unfold opVal
  rw [hk] at h1 ⊢
  have HK := Lib.hid hk
  clear e ho ht hk
  go_enter Try.func34, Try.ntmps34
  go_wp2_with (first | (go_at_call 16; refine (create_any h1 hs o.name hn).mono ?_; rintro r w' ⟨rfl, hp⟩) | (go_at_call 19; refine (num_any _ _).mono ?_; rintro r w' ⟨rfl, rfl⟩))
  go_ret
  have HT' := HT.out
  unfold boxOf at HT'
  rw [HK.out] at HT'
  exact ⟨rfl, hp.pre HT'⟩

theorem told_1 (h : RepX w p S false Q mo pl) (hs : StepsOk S) (o : OpD) (ho : OpOk w o) (hout : OutOf Q o.bv) (hk : o.kind = 1) :
    Calls Try.prog 34 #[.pointer (some ⟨p, 0, none⟩), opVal o] w fun r w' => r = .returned (.int .i64 ((toldS S o).2 : Nat)) ∧ Post w p (toldS S o).1 Q w' := by
  have e : toldS S o = Fsp.append S o.name.data.toList o.b := by simp [toldS, hk]
  have hn := ho.name
  have ht := turnBox w (boxOf o)
  have h1 := h.turned ht (fun _ _ q => q)
  have hb := ho.slice.turned ht (fun _ _ _ _ _ q => q)
  have hbl := ho.b
  have HT := Lib.hid ht
  unfold boxOf at h1 hb
  rw [e]
  unfold opVal
  rw [hk] at h1 hb ⊢
  have HK := Lib.hid hk
  clear e ho ht hk
  go_enter Try.func34, Try.ntmps34
  go_wp2_with (first | (go_at_call 17; refine (append_any h1 hs o.name hn o.bv o.b hb hbl hout).mono ?_; rintro r w' ⟨rfl, hp⟩) | (go_at_call 19; refine (num_any _ _).mono ?_; rintro r w' ⟨rfl, rfl⟩))
  go_ret
  have HT' := HT.out
  unfold boxOf at HT'
  rw [HK.out] at HT'
  exact ⟨rfl, hp.pre HT'⟩

theorem told_2 (h : RepX w p S false Q mo pl) (hs : StepsOk S) (o : OpD) (ho : OpOk w o) (hk : o.kind = 2) :
    Calls Try.prog 34 #[.pointer (some ⟨p, 0, none⟩), opVal o] w fun r w' => r = .returned (.int .i64 ((toldS S o).2 : Nat)) ∧ Post w p (toldS S o).1 Q w' := by
  have e : toldS S o = Fsp.sync S o.name.data.toList := by simp [toldS, hk]
  have hn := ho.name
  have ht := turnBox w (boxOf o)
  have h1 := h.turned ht (fun _ _ q => q)
  have HT := Lib.hid ht
  unfold boxOf at h1
  rw [e]
  unfold opVal
  rw [hk] at h1 ⊢
  have HK := Lib.hid hk
  clear e ho ht hk
  go_enter Try.func34, Try.ntmps34
  go_wp2_with (first | (go_at_call 18; refine (sync_any h1 hs o.name hn).mono ?_; rintro r w' ⟨rfl, hp⟩) | (go_at_call 19; refine (num_any _ _).mono ?_; rintro r w' ⟨rfl, rfl⟩))
  go_ret
  have HT' := HT.out
  unfold boxOf at HT'
  rw [HK.out] at HT'
  exact ⟨rfl, hp.pre HT'⟩

theorem told_3 (h : RepX w p S false Q mo pl) (hs : StepsOk S) (o : OpD) (ho : OpOk w o) (hk : o.kind = 3) :
    Calls Try.prog 34 #[.pointer (some ⟨p, 0, none⟩), opVal o] w fun r w' => r = .returned (.int .i64 ((toldS S o).2 : Nat)) ∧ Post w p (toldS S o).1 Q w' := by
  have e : toldS S o = Fsp.truncate S o.name.data.toList o.n := by simp [toldS, hk]
  have hn := ho.name
  have ht := turnBox w (boxOf o)
  have h1 := h.turned ht (fun _ _ q => q)
  have HT := Lib.hid ht
  unfold boxOf at h1
  rw [e]
  unfold opVal
  rw [hk] at h1 ⊢
  have HK := Lib.hid hk
  clear e ho ht hk
  go_enter Try.func34, Try.ntmps34
  go_wp2_with (first | (go_at_call 42; refine (truncate_any h1 hs o.name hn o.n).mono ?_; rintro r w' ⟨rfl, hp⟩) | (go_at_call 19; refine (num_any _ _).mono ?_; rintro r w' ⟨rfl, rfl⟩))
  go_ret
  have HT' := HT.out
  unfold boxOf at HT'
  rw [HK.out] at HT'
  exact ⟨rfl, hp.pre HT'⟩

theorem told_4 (h : RepX w p S false Q mo pl) (hs : StepsOk S) (o : OpD) (ho : OpOk w o) (hk : o.kind = 4) :
    Calls Try.prog 34 #[.pointer (some ⟨p, 0, none⟩), opVal o] w fun r w' => r = .returned (.int .i64 ((toldS S o).2 : Nat)) ∧ Post w p (toldS S o).1 Q w' := by
  have e : toldS S o = Fsp.rename S o.name.data.toList o.to.data.toList := by simp [toldS, hk]
  have hn := ho.name
  have ht := turnBox w (boxOf o)
  have h1 := h.turned ht (fun _ _ q => q)
  have hto := ho.to
  have HT := Lib.hid ht
  unfold boxOf at h1
  rw [e]
  unfold opVal
  rw [hk] at h1 ⊢
  have HK := Lib.hid hk
  clear e ho ht hk
  go_enter Try.func34, Try.ntmps34
  go_wp2_with (first | (go_at_call 39; refine (rename_any h1 hs o.name o.to hn hto).mono ?_; rintro r w' ⟨rfl, hp⟩) | (go_at_call 19; refine (num_any _ _).mono ?_; rintro r w' ⟨rfl, rfl⟩))
  go_ret
  have HT' := HT.out
  unfold boxOf at HT'
  rw [HK.out] at HT'
  exact ⟨rfl, hp.pre HT'⟩

theorem told_5 (h : RepX w p S false Q mo pl) (hs : StepsOk S) (o : OpD) (ho : OpOk w o) (hk : o.kind = 5) :
    Calls Try.prog 34 #[.pointer (some ⟨p, 0, none⟩), opVal o] w fun r w' => r = .returned (.int .i64 ((toldS S o).2 : Nat)) ∧ Post w p (toldS S o).1 Q w' := by
  have e : toldS S o = Fsp.remove S o.name.data.toList := by simp [toldS, hk]
  have hn := ho.name
  have ht := turnBox w (boxOf o)
  have h1 := h.turned ht (fun _ _ q => q)
  have HT := Lib.hid ht
  unfold boxOf at h1
  rw [e]
  unfold opVal
  rw [hk] at h1 ⊢
  have HK := Lib.hid hk
  clear e ho ht hk
  go_enter Try.func34, Try.ntmps34
  go_wp2_with (first | (go_at_call 15; refine (remove_any h1 hs o.name hn).mono ?_; rintro r w' ⟨rfl, hp⟩) | (go_at_call 19; refine (num_any _ _).mono ?_; rintro r w' ⟨rfl, rfl⟩))
  go_ret
  have HT' := HT.out
  unfold boxOf at HT'
  rw [HK.out] at HT'
  exact ⟨rfl, hp.pre HT'⟩

theorem told_6 (h : RepX w p S false Q mo pl) (o : OpD) (ho : OpOk w o) (hk : o.kind = 6) :
    Calls Try.prog 34 #[.pointer (some ⟨p, 0, none⟩), opVal o] w fun r w' => r = .returned (.int .i64 ((toldS S o).2 : Nat)) ∧ Post w p (toldS S o).1 Q w' := by
  have e : toldS S o = (Fsp.arm S o.n, 0) := by simp [toldS, hk]
  have ht := turnBox w (boxOf o)
  have h1 := h.turned ht (fun _ _ q => q)
  have hnn := ho.n.2
  have HT := Lib.hid ht
  unfold boxOf at h1
  rw [e]
  unfold opVal
  rw [hk] at h1 ⊢
  have HK := Lib.hid hk
  clear e ho ht hk
  go_enter Try.func34, Try.ntmps34
  go_wp2_with (first | (go_at_call 38; refine (arm_any h1 o.n hnn).mono ?_; rintro r w' ⟨rfl, hp⟩) | (go_at_call 19; refine (num_any _ _).mono ?_; rintro r w' ⟨rfl, rfl⟩))
  go_ret
  have HT' := HT.out
  unfold boxOf at HT'
  rw [HK.out] at HT'
  exact ⟨rfl, hp.pre HT'⟩

theorem enter_told (args : Array Value) (w : World) : (callFunc 66 args).run Try.prog w = .ok (.enter 66 args) w := by kernel_rfl

/-- a closure that answers one number out of a variable of its own -/
theorem toldKeep_any {s : ByteArray} {n k : Int} {a : Addr} {w : World} (hc : w.cell? ⟨a.block, a.off + 1, none⟩ = some (.int .i64 k)) :
    Calls Try.prog 66 #[.string s, .int .i64 n, .pointer (some a)] w fun r w' => r = .returned (.int .i64 k) ∧ w = w' := by
  go_enter Try.func66, Try.ntmps66
  go_wp2
  go_ret
  exact ⟨rfl, rfl⟩

theorem turned_cell {b o : Nat} {v : Value} (h : w.cell? ⟨b, o, none⟩ = some v) (ht : Turn Q w w') (hq : ¬ Q b) : w'.cell? ⟨b, o, none⟩ = some v :=
  (World.cell?_of_block (ht.block b (World.block_lt_of_cell? w _ h) hq)).trans h

theorem keeper_told (ob : Nat) (k : Int) : Keeper (.func (.func 66) #[] #[.pointer (some ⟨ob, 0, none⟩)]) (fun w _ => w.cell? ⟨ob, 1, none⟩ = some (.int .i64 k)) (fun _ _ => k) (fun b => b = ob) :=
  keeper_some enter_told (fun Q w w' _ hI ht hd => turned_cell hI ht (hd ob rfl)) (fun w _ hI b e => by rw [e]; exact World.block_lt_of_cell? w _ hI)
    (fun s n w l hI _ _ => (toldKeep_any (a := ⟨ob, 0, none⟩) (s := s) (n := n) hI).mono fun r w' ⟨h1, h2⟩ => by subst h2; exact ⟨h1, hI, Turn.refl _ _⟩)

theorem cell_new (w : World) (cs : Array Value) (t : TypeId) (j : Nat) : (w.alloc (.cells cs t)).cell? ⟨w.heap.size, j, none⟩ = cs[j]? := by
  unfold World.cell?
  simp only [heap_alloc_new]
  rfl

theorem crash_const (k : Int) (h : RepX w p S false Q mo pl) {ob : Nat} (hc : w.cell? ⟨ob, 1, none⟩ = some (.int .i64 k)) (hq : ¬ Q ob) :
    Calls Try.prog 14 #[.pointer (some ⟨p, 0, none⟩), .func (.func 66) #[] #[.pointer (some ⟨ob, 0, none⟩)]] w fun r w' => r = .returned (.tuple #[]) ∧ Rep w' p (Fsp.crash S fun _ _ => k) (Grow Q w w') ∧ Turn (fun b => Q b ∨ b = ob) w w' := by
  refine (crash_any (keeper_told ob k) (l := []) hc (fun b e => by rw [e]; exact hq) h).mono ?_
  rintro r w' ⟨rfl, h1, _, h3⟩
  exact ⟨rfl, h1, h3⟩

theorem told_7 (h : RepX w p S false Q mo pl) (o : OpD) (hk : o.kind = 7) :
    Calls Try.prog 34 #[.pointer (some ⟨p, 0, none⟩), opVal o] w fun r w' => r = .returned (.int .i64 ((toldS S o).2 : Nat)) ∧ Post w p (toldS S o).1 Q w' := by
  have e : toldS S o = (Fsp.crash S (fun _ _ => o.n), 0) := by simp [toldS, hk]
  have ht := turnBox w (boxOf o)
  have h1 := h.turned ht (fun _ _ q => q)
  have hc : (w.alloc (boxOf o)).cell? ⟨w.heap.size, 1, none⟩ = some (.int .i64 o.n) := cell_new w _ _ 1
  have hq : ¬ Q w.heap.size := fun q => by have := h.lt _ q; omega
  have hmf : ∀ (fn : Fn) (first cap : Array Value) (w : World), (Instr.makeFunc fn first cap).run Try.prog w = .ok (.func fn first cap) w := fun _ _ _ _ => rfl
  have HT := Lib.hid ht
  unfold boxOf at h1 hc
  rw [e]
  unfold opVal
  rw [hk] at h1 hc ⊢
  have HK := Lib.hid hk
  have HC := Lib.hid hc
  clear e ht hk hc
  go_enter Try.func34, Try.ntmps34
  go_wp2_with (first | (go_at_call 14; refine (crash_const o.n h1 HC.out hq).mono ?_; rintro r w' ⟨rfl, hp, ht2⟩) | (go_at_call 19; refine (num_any _ _).mono ?_; rintro r w' ⟨rfl, rfl⟩))
  go_ret
  have HT' := HT.out
  unfold boxOf at HT'
  rw [HK.out] at HT'
  refine ⟨rfl, ?_, ?_⟩
  · obtain ⟨mo, pl, hr⟩ := hp
    refine ⟨mo, pl, hr.mono (fun i hi => Grow.after HT'.size i hi) (fun i hi => ?_)⟩
    rcases hi with hi | hi
    · exact hr.lt i (Or.inl hi)
    · exact hi.2
  · exact (HT'.mono (fun _ q => q.elim)).trans ht2 (fun i hi q => by
      rcases q with q | q
      · exact q
      · omega)

theorem told_8 (h : RepX w p S false Q mo pl) (o : OpD) (hk : ¬ (o.kind = 0 ∨ o.kind = 1 ∨ o.kind = 2 ∨ o.kind = 3 ∨ o.kind = 4 ∨ o.kind = 5 ∨ o.kind = 6 ∨ o.kind = 7)) :
    Calls Try.prog 34 #[.pointer (some ⟨p, 0, none⟩), opVal o] w fun r w' => r = .returned (.int .i64 ((toldS S o).2 : Nat)) ∧ Post w p (toldS S o).1 Q w' := by
  simp only [not_or] at hk
  obtain ⟨h0, h1, h2, h3, h4, h5, h6, h7⟩ := hk
  have e : toldS S o = (S, 0) := by simp [toldS, h0, h1, h2, h3, h4, h5, h6, h7]
  have ht := turnBox w (boxOf o)
  have hp := (Post.same (h.turned ht (fun _ _ q => q))).pre ht
  rw [e]
  have k0 : (o.kind == 0) = false := by simpa using h0
  have k1 : (o.kind == 1) = false := by simpa using h1
  have k2 : (o.kind == 2) = false := by simpa using h2
  have k3 : (o.kind == 3) = false := by simpa using h3
  have k4 : (o.kind == 4) = false := by simpa using h4
  have k5 : (o.kind == 5) = false := by simpa using h5
  have k6 : (o.kind == 6) = false := by simpa using h6
  have k7 : (o.kind == 7) = false := by simpa using h7
  have HP := Lib.hid hp
  clear e ht hp
  unfold opVal
  go_enter Try.func34, Try.ntmps34
  go_wp2_with (go_at_call 19; refine (num_any _ _).mono ?_; rintro r w' ⟨rfl, rfl⟩)
  go_ret
  exact ⟨rfl, HP.out⟩

theorem told_any (h : RepX w p S false Q mo pl) (hs : StepsOk S) (o : OpD) (ho : OpOk w o) (hout : OutOf Q o.bv) :
    Calls Try.prog 34 #[.pointer (some ⟨p, 0, none⟩), opVal o] w fun r w' => r = .returned (.int .i64 ((toldS S o).2 : Nat)) ∧ Post w p (toldS S o).1 Q w' := by
  by_cases k0 : o.kind = 0
  · exact told_0 h hs o ho k0
  by_cases k1 : o.kind = 1
  · exact told_1 h hs o ho hout k1
  by_cases k2 : o.kind = 2
  · exact told_2 h hs o ho k2
  by_cases k3 : o.kind = 3
  · exact told_3 h hs o ho k3
  by_cases k4 : o.kind = 4
  · exact told_4 h hs o ho k4
  by_cases k5 : o.kind = 5
  · exact told_5 h hs o ho k5
  by_cases k6 : o.kind = 6
  · exact told_6 h o ho k6
  by_cases k7 : o.kind = 7
  · exact told_7 h o k7
  exact told_8 h o (by simp only [not_or]; exact ⟨k0, k1, k2, k3, k4, k5, k6, k7⟩)

end
end Go.Proofs.Ytnlcaonempngbaa
