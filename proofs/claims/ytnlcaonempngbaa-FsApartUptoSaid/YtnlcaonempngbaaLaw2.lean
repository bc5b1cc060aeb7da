/-
  OF THE LAWS: Made.
-/
import Derived.Test.YtnlcaonempngbaaLaw1
namespace Go.Proofs.Ytnlcaonempngbaa
open Go.RowKit Go.Maps Go.WideMaps

def madeS (S : Fsp.Fs) (ops : List OpD) : Fsp.Fs := ops.foldl (fun S o => (toldS S o).1) S

theorem madeS_snoc (S : Fsp.Fs) (ops : List OpD) (o : OpD) : madeS S (ops ++ [o]) = (toldS (madeS S ops) o).1 := by simp [madeS]

theorem steps_stepped (S : Fsp.Fs) : (Fsp.stepped S).steps ≤ S.steps + 1 := by unfold Fsp.stepped; split <;> simp

theorem steps_told (S : Fsp.Fs) (o : OpD) : (toldS S o).1.steps ≤ S.steps + 1 := by
  have h := steps_stepped S
  unfold toldS Fsp.create Fsp.append Fsp.sync Fsp.truncate Fsp.rename Fsp.remove
  repeat (first | split | (simp only [Fsp.arm, Fsp.crash]; omega) | omega)

theorem steps_made (S : Fsp.Fs) (ops : List OpD) : (madeS S ops).steps ≤ S.steps + ops.length := by
  induction ops generalizing S with
  | nil => simp [madeS]
  | cons o r ih =>
    have h1 := steps_told S o
    have h2 := ih (toldS S o).1
    show (madeS (toldS S o).1 r).steps ≤ _
    simp only [List.length_cons]
    omega

section
variable {w w' : World} {p : Nat} {S S' : Fsp.Fs} {c c' : Bool} {Q : Nat → Prop} {mo : Option Nat} {pl : List UInt8 → Pl}

theorem OpAt.turned {a : Addr} {o : OpD} (h : OpAt w a o) (ht : Turn (fun _ => False) w w') : OpAt w' a o :=
  ⟨turn_cell ht h.c0, turned_cell h.c1 ht (fun q => q), turned_cell h.c2 ht (fun q => q), turned_cell h.c3 ht (fun q => q), turned_cell h.c4 ht (fun q => q)⟩

theorem OpOk.turned {o : OpD} (h : OpOk w o) (ht : Turn (fun _ => False) w w') : OpOk w' o :=
  ⟨h.n, h.kind, h.name, h.to, h.b, h.slice.turned ht (fun _ _ _ _ _ q => q)⟩

theorem OpsAt.turned {v : Value} {ops : List OpD} (h : OpsAt w v ops) (ht : Turn (fun _ => False) w w') : OpsAt w' v ops := by
  obtain ⟨sp, cap, hv, hm, hops⟩ := h
  exact ⟨sp, cap, hv, hm, fun i o ho => ⟨by obtain ⟨⟨a, e, ha⟩, _⟩ := hops i o ho; exact ⟨a, e, ha.turned ht⟩, (hops i o ho).2.turned ht⟩⟩

/-- what was handed in lies below -/
theorem SliceB.out {v : Value} {b : List UInt8} (h : SliceB w v b) {B : Nat} (hB : w.heap.size ≤ B) (hQ : ∀ i, Q i → B ≤ i) : OutOf Q v := by
  intro ad n cap e hn q
  rcases h with ⟨hv, _⟩ | ⟨ad', cap', hv, hc⟩
  · rw [hv] at e; cases e
  · rw [hv] at e
    simp only [Value.slice.injEq, Option.some.injEq] at e
    obtain ⟨rfl, rfl, _⟩ := e
    have h0 := hc 0 b[0] (by simp)
    have := World.block_lt_of_cell? w _ h0
    rw [add_block] at this
    have := hQ _ q
    omega

/-- a file system among the blocks that have come since w -/
def Since (w : World) (p : Nat) (S : Fsp.Fs) (w' : World) : Prop := Rep w' p S (fun b => w.heap.size ≤ b ∧ b < w'.heap.size) ∧ Turn (fun _ => False) w w'

theorem Since.post {w1 w2 : World} (h : Since w p S w1) (k : Post w1 p S' (fun b => w.heap.size ≤ b ∧ b < w1.heap.size) w2) : Since w p S' w2 := by
  obtain ⟨⟨mo, pl, hr⟩, ht⟩ := k
  refine ⟨⟨mo, pl, hr.mono (fun i hi => ?_) (fun i hi => hi.2)⟩, h.2.trans ht (fun i hi q => by omega)⟩
  have h1 := h.2.size
  have h2 := ht.size
  rcases hi with hi | hi
  · exact ⟨hi.1, by omega⟩
  · exact ⟨by omega, hi.2⟩

theorem told_since {k : Int} {ops : List OpD} {o : OpD} (h : Since w p (madeS (Fsp.new k) ops) w') (hl : ops.length ≤ 1000) (ho : OpOk w o) :
    Calls Try.prog 34 #[.pointer (some ⟨p, 0, none⟩), opVal o] w' fun r w2 => r = .returned (.int .i64 ((toldS (madeS (Fsp.new k) ops) o).2 : Nat)) ∧ Since w p (madeS (Fsp.new k) (ops ++ [o])) w2 := by
  obtain ⟨⟨mo, pl, hr⟩, ht⟩ := h
  have hst : StepsOk (madeS (Fsp.new k) ops) := by
    have := steps_made (Fsp.new k) ops
    simp only [Fsp.new, Nat.zero_add] at this
    unfold StepsOk
    simp only [Fsp.new]
    omega
  refine (told_any hr hst o (ho.turned ht) (ho.slice.out (Nat.le_refl _) (fun i hi => hi.1))).mono ?_
  rintro r w2 ⟨rfl, hp⟩
  rw [madeS_snoc]
  exact ⟨rfl, Since.post ⟨⟨mo, pl, hr⟩, ht⟩ hp⟩

set_option maxRecDepth 100000 in
set_option maxHeartbeats 1000000 in
theorem made_any (k : Int) {v : Value} {ops : List OpD} (h : OpsAt w v ops) (hl : ops.length ≤ 300) :
    Calls Try.prog 13 #[.int .i64 k, v] w fun r w' => r = .returned (.pointer (some ⟨w.heap.size, 0, none⟩)) ∧ Since w w.heap.size (madeS (Fsp.new k) ops) w' := by
  have hO := h
  obtain ⟨sp, cap, rfl, hm, hops⟩ := h
  have HO := Lib.hid hops
  have HH := Lib.hid hO
  clear hops hO hm
  go_enter Try.func13, Try.ntmps13
  go_wp2_with fail
  go_at_call 27
  refine (new_any k _).mono ?_
  rintro r w1 ⟨rfl, hr1, ht1⟩
  have hs1 : Since w w.heap.size (madeS (Fsp.new k) []) w1 := ⟨hr1, ht1⟩
  have H1 := Lib.hid hs1
  clear hr1 hs1
  go_wp2_with fail
  go_loopw [6] (fun i wr => ∃ j : Nat, j ≤ ops.length ∧ i = .int .i64 j ∧ Since w w.heap.size (madeS (Fsp.new k) (ops.take j)) wr) (fun i _ => ops.length - (intOf i).toNat)
  case atStart => exact ⟨0, Nat.zero_le _, rfl, by simpa using H1.out⟩
  case round =>
    obtain ⟨j, hj, rfl, hs⟩ := hrel
    have HS := Lib.hid hs
    clear hs
    by_cases hlt : j < ops.length
    · obtain ⟨⟨a, hsp, hat⟩, hok⟩ := HO.out j _ (List.getElem?_eq_getElem hlt)
      subst hsp
      have hat' := hat.turned HS.out.2
      have c0 := hat'.c0
      have c1 := hat'.c1
      have c2 := hat'.c2
      have c3 := hat'.c3
      have c4 := hat'.c4
      have i0 : (0 : Int) ≤ (j : Int) := by omega
      have i1 : (j : Int) < (ops.length : Int) := by omega
      have HK := Lib.hid hok
      clear hok hat hat'
      obtain ⟨o, ho⟩ : ∃ o, o = ops[j] := ⟨_, rfl⟩
      rw [← ho] at c0 c1 c2 c3 c4 HK
      have Ho := Lib.hid ho
      clear ho
      go_wp2_with fail
      go_at_call 34
      refine (told_since HS.out (by rw [List.length_take]; omega) HK.out).mono ?_
      rintro r w3 ⟨rfl, hs3⟩
      go_wp2_with fail
      go_roundw
      case rel =>
        have e : ops.take (j + 1) = ops.take j ++ [o] := by rw [List.take_succ_eq_append_getElem hlt, Ho.out]
        exact ⟨j + 1, by omega, by go_num, by rw [e]; exact hs3⟩
      case measure => simp [intOf]; omega
    · have hj0 : j = ops.length := by omega
      subst hj0
      have hs := HS.out
      rw [List.take_length] at hs
      have HF := Lib.hid hs
      clear hs
      go_wp2_with fail
      go_ret
      exact ⟨rfl, HF.out⟩

end
end Go.Proofs.Ytnlcaonempngbaa
