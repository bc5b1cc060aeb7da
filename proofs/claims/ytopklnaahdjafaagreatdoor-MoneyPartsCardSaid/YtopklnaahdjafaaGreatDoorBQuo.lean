/-
  Quotients of numbers.
-/
import Derived.Test.YtopklnaahdjafaaGreatDoorBMul
import Derived.Test.YtopklnaahdjafaaGreatDoorGPl
import Derived.Deep.RegionWith
import Derived.Deep.RegionLaw
import Derived.Deep.DeepCutAuto
namespace Go.Proofs.YtopklnaahdjafaaGreatDoor
open Go.RowKit Go.Maps Go.WideMaps

/-- the boxes of a quotient -/
structure QuoAt (w wr : World) (b1 b2 : Bool) (s1 s2 : Option Addr) (k1 c1 k2 c2 : Nat) (br : Bool) (sr : Option Addr) (kr cr : Nat) : Prop where
  x : BigAt wr w.heap.size b1 s1 k1 c1
  y : BigAt wr (w.heap.size + 1) b2 s2 k2 c2
  p : BigAt wr (w.heap.size + 1 + 1) false none 0 0
  q : BigAt wr (w.heap.size + 1 + 1 + 1) false none 0 0
  z : BigAt wr (w.heap.size + 1 + 1 + 1 + 1) br sr kr cr
  d : BigAt wr (w.heap.size + 1 + 1 + 1 + 1 + 1) false s2 k2 c2
  t : Only w wr

section
variable {w wr wr' : World} {b1 b2 br : Bool} {s1 s2 sr : Option Addr} {k1 c1 k2 c2 kr cr : Nat}
theorem QuoAt.only (h : QuoAt w wr b1 b2 s1 s2 k1 c1 k2 c2 br sr kr cr) (t : Only wr wr') : QuoAt w wr' b1 b2 s1 s2 k1 c1 k2 c2 br sr kr cr :=
  ⟨h.x.only t, h.y.only t, h.p.only t, h.q.only t, h.z.only t, h.d.only t, h.t.trans t⟩
theorem QuoAt.put (h : QuoAt w wr b1 b2 s1 s2 k1 c1 k2 c2 br sr kr cr) (b : Bool) (s : Option Addr) (k c : Nat) :
    QuoAt w ((wr.setCell ⟨w.heap.size + 1 + 1 + 1 + 1, 0, none⟩ (.bool b)).setCell ⟨w.heap.size + 1 + 1 + 1 + 1, 1, none⟩ (.slice s k c)) b1 b2 s1 s2 k1 c1 k2 c2 b s k c :=
  ⟨(h.x.far (by omega) _ _).far (by omega) _ _, (h.y.far (by omega) _ _).far (by omega) _ _, (h.p.far (by omega) _ _).far (by omega) _ _, (h.q.far (by omega) _ _).far (by omega) _ _, h.z.set _ _, (h.d.far (by omega) _ _).far (by omega) _ _, (h.t.set (by omega) _ _).set (by omega) _ _⟩
theorem QuoAt.sP (h : QuoAt w wr b1 b2 s1 s2 k1 c1 k2 c2 br sr kr cr) (b3' : Bool) (s3' : Option Addr) (k3' c3' : Nat) : (((wr.setCell ⟨w.heap.size + 1 + 1, 0, none⟩ (.bool b3')).setCell ⟨w.heap.size + 1 + 1, 1, none⟩ (.slice s3' k3' c3'))).cell? ⟨w.heap.size, 0, none⟩ = some (.bool b1) ∧ (((wr.setCell ⟨w.heap.size + 1 + 1, 0, none⟩ (.bool b3')).setCell ⟨w.heap.size + 1 + 1, 1, none⟩ (.slice s3' k3' c3'))).cell? ⟨w.heap.size + 1, 0, none⟩ = some (.bool b2) ∧ (((wr.setCell ⟨w.heap.size + 1 + 1, 0, none⟩ (.bool b3')).setCell ⟨w.heap.size + 1 + 1, 1, none⟩ (.slice s3' k3' c3'))).cell? ⟨w.heap.size + 1 + 1 + 1 + 1, 1, none⟩ = some (.slice sr kr cr) :=
  ⟨((h.x.far (p := w.heap.size + 1 + 1) (by omega) 0 _).far (p := w.heap.size + 1 + 1) (by omega) 1 _).c0, ((h.y.far (p := w.heap.size + 1 + 1) (by omega) 0 _).far (p := w.heap.size + 1 + 1) (by omega) 1 _).c0, ((h.z.far (p := w.heap.size + 1 + 1) (by omega) 0 _).far (p := w.heap.size + 1 + 1) (by omega) 1 _).c1⟩
theorem QuoAt.sQ (h : QuoAt w wr b1 b2 s1 s2 k1 c1 k2 c2 br sr kr cr) (b3' : Bool) (s3' : Option Addr) (k3' c3' : Nat) : (((wr.setCell ⟨w.heap.size + 1 + 1 + 1, 0, none⟩ (.bool b3')).setCell ⟨w.heap.size + 1 + 1 + 1, 1, none⟩ (.slice s3' k3' c3'))).cell? ⟨w.heap.size, 0, none⟩ = some (.bool b1) ∧ (((wr.setCell ⟨w.heap.size + 1 + 1 + 1, 0, none⟩ (.bool b3')).setCell ⟨w.heap.size + 1 + 1 + 1, 1, none⟩ (.slice s3' k3' c3'))).cell? ⟨w.heap.size + 1, 0, none⟩ = some (.bool b2) ∧ (((wr.setCell ⟨w.heap.size + 1 + 1 + 1, 0, none⟩ (.bool b3')).setCell ⟨w.heap.size + 1 + 1 + 1, 1, none⟩ (.slice s3' k3' c3'))).cell? ⟨w.heap.size + 1 + 1 + 1 + 1, 1, none⟩ = some (.slice sr kr cr) :=
  ⟨((h.x.far (p := w.heap.size + 1 + 1 + 1) (by omega) 0 _).far (p := w.heap.size + 1 + 1 + 1) (by omega) 1 _).c0, ((h.y.far (p := w.heap.size + 1 + 1 + 1) (by omega) 0 _).far (p := w.heap.size + 1 + 1 + 1) (by omega) 1 _).c0, ((h.z.far (p := w.heap.size + 1 + 1 + 1) (by omega) 0 _).far (p := w.heap.size + 1 + 1 + 1) (by omega) 1 _).c1⟩
theorem QuoAt.sPQ (h : QuoAt w wr b1 b2 s1 s2 k1 c1 k2 c2 br sr kr cr) (b3' : Bool) (s3' : Option Addr) (k3' c3' : Nat) (b4' : Bool) (s4' : Option Addr) (k4' c4' : Nat) : (((((wr.setCell ⟨w.heap.size + 1 + 1, 0, none⟩ (.bool b3')).setCell ⟨w.heap.size + 1 + 1, 1, none⟩ (.slice s3' k3' c3')).setCell ⟨w.heap.size + 1 + 1 + 1, 0, none⟩ (.bool b4')).setCell ⟨w.heap.size + 1 + 1 + 1, 1, none⟩ (.slice s4' k4' c4'))).cell? ⟨w.heap.size, 0, none⟩ = some (.bool b1) ∧ (((((wr.setCell ⟨w.heap.size + 1 + 1, 0, none⟩ (.bool b3')).setCell ⟨w.heap.size + 1 + 1, 1, none⟩ (.slice s3' k3' c3')).setCell ⟨w.heap.size + 1 + 1 + 1, 0, none⟩ (.bool b4')).setCell ⟨w.heap.size + 1 + 1 + 1, 1, none⟩ (.slice s4' k4' c4'))).cell? ⟨w.heap.size + 1, 0, none⟩ = some (.bool b2) ∧ (((((wr.setCell ⟨w.heap.size + 1 + 1, 0, none⟩ (.bool b3')).setCell ⟨w.heap.size + 1 + 1, 1, none⟩ (.slice s3' k3' c3')).setCell ⟨w.heap.size + 1 + 1 + 1, 0, none⟩ (.bool b4')).setCell ⟨w.heap.size + 1 + 1 + 1, 1, none⟩ (.slice s4' k4' c4'))).cell? ⟨w.heap.size + 1 + 1 + 1 + 1, 1, none⟩ = some (.slice sr kr cr) :=
  ⟨((((h.x.far (p := w.heap.size + 1 + 1) (by omega) 0 _).far (p := w.heap.size + 1 + 1) (by omega) 1 _).far (p := w.heap.size + 1 + 1 + 1) (by omega) 0 _).far (p := w.heap.size + 1 + 1 + 1) (by omega) 1 _).c0, ((((h.y.far (p := w.heap.size + 1 + 1) (by omega) 0 _).far (p := w.heap.size + 1 + 1) (by omega) 1 _).far (p := w.heap.size + 1 + 1 + 1) (by omega) 0 _).far (p := w.heap.size + 1 + 1 + 1) (by omega) 1 _).c0, ((((h.z.far (p := w.heap.size + 1 + 1) (by omega) 0 _).far (p := w.heap.size + 1 + 1) (by omega) 1 _).far (p := w.heap.size + 1 + 1 + 1) (by omega) 0 _).far (p := w.heap.size + 1 + 1 + 1) (by omega) 1 _).c1⟩
theorem QuoAt.sQP (h : QuoAt w wr b1 b2 s1 s2 k1 c1 k2 c2 br sr kr cr) (b3' : Bool) (s3' : Option Addr) (k3' c3' : Nat) (b4' : Bool) (s4' : Option Addr) (k4' c4' : Nat) : (((((wr.setCell ⟨w.heap.size + 1 + 1 + 1, 0, none⟩ (.bool b3')).setCell ⟨w.heap.size + 1 + 1 + 1, 1, none⟩ (.slice s3' k3' c3')).setCell ⟨w.heap.size + 1 + 1, 0, none⟩ (.bool b4')).setCell ⟨w.heap.size + 1 + 1, 1, none⟩ (.slice s4' k4' c4'))).cell? ⟨w.heap.size, 0, none⟩ = some (.bool b1) ∧ (((((wr.setCell ⟨w.heap.size + 1 + 1 + 1, 0, none⟩ (.bool b3')).setCell ⟨w.heap.size + 1 + 1 + 1, 1, none⟩ (.slice s3' k3' c3')).setCell ⟨w.heap.size + 1 + 1, 0, none⟩ (.bool b4')).setCell ⟨w.heap.size + 1 + 1, 1, none⟩ (.slice s4' k4' c4'))).cell? ⟨w.heap.size + 1, 0, none⟩ = some (.bool b2) ∧ (((((wr.setCell ⟨w.heap.size + 1 + 1 + 1, 0, none⟩ (.bool b3')).setCell ⟨w.heap.size + 1 + 1 + 1, 1, none⟩ (.slice s3' k3' c3')).setCell ⟨w.heap.size + 1 + 1, 0, none⟩ (.bool b4')).setCell ⟨w.heap.size + 1 + 1, 1, none⟩ (.slice s4' k4' c4'))).cell? ⟨w.heap.size + 1 + 1 + 1 + 1, 1, none⟩ = some (.slice sr kr cr) :=
  ⟨((((h.x.far (p := w.heap.size + 1 + 1 + 1) (by omega) 0 _).far (p := w.heap.size + 1 + 1 + 1) (by omega) 1 _).far (p := w.heap.size + 1 + 1) (by omega) 0 _).far (p := w.heap.size + 1 + 1) (by omega) 1 _).c0, ((((h.y.far (p := w.heap.size + 1 + 1 + 1) (by omega) 0 _).far (p := w.heap.size + 1 + 1 + 1) (by omega) 1 _).far (p := w.heap.size + 1 + 1) (by omega) 0 _).far (p := w.heap.size + 1 + 1) (by omega) 1 _).c0, ((((h.z.far (p := w.heap.size + 1 + 1 + 1) (by omega) 0 _).far (p := w.heap.size + 1 + 1 + 1) (by omega) 1 _).far (p := w.heap.size + 1 + 1) (by omega) 0 _).far (p := w.heap.size + 1 + 1) (by omega) 1 _).c1⟩
theorem QuoAt.start (w : World) (b1 b2 : Bool) (s1 s2 : Option Addr) (k1 c1 k2 c2 : Nat) :
    QuoAt w ((((((w.alloc (boxOf b1 s1 k1 c1)).alloc (boxOf b2 s2 k2 c2)).alloc box0).alloc box0).alloc box0).alloc (boxOf false s2 k2 c2)) b1 b2 s1 s2 k1 c1 k2 c2 false none 0 0 := by
  obtain ⟨ht, o1, o2, o3⟩ := boxes3 w b1 b2 s1 s2 k1 c1 k2 c2
  refine ⟨((o1.alloc _).alloc _).alloc _, ((o2.alloc _).alloc _).alloc _, ((o3.alloc _).alloc _).alloc _, ?_, ?_, ?_, ((ht.alloc _).alloc _).alloc _⟩
  · have := ((Own2.new (((w.alloc (boxOf b1 s1 k1 c1)).alloc (boxOf b2 s2 k2 c2)).alloc box0) (.bool false) (.slice none 0 0) 34).alloc box0).alloc (boxOf false s2 k2 c2)
    simpa using this
  · have := (Own2.new ((((w.alloc (boxOf b1 s1 k1 c1)).alloc (boxOf b2 s2 k2 c2)).alloc box0).alloc box0) (.bool false) (.slice none 0 0) 34).alloc (boxOf false s2 k2 c2)
    simpa using this
  · have := Own2.new (((((w.alloc (boxOf b1 s1 k1 c1)).alloc (boxOf b2 s2 k2 c2)).alloc box0).alloc box0).alloc box0) (.bool false) (.slice s2 k2 c2) 34
    simpa using this
end

/-- where the rest stands -/
def RestIs (w : World) (b1 b2 : Bool) (s1 s2 : Option Addr) (k1 c1 k2 c2 : Nat) (qv : Value) (ql : List Nat) (R : Nat) (wr : World) : Prop :=
  ∃ br sr kr cr, QuoAt w wr b1 b2 s1 s2 k1 c1 k2 c2 br sr kr cr ∧ BigR wr br sr kr cr (R : Int) ∧ NatsR wr qv ql

theorem own_one (w : World) {e : Int} {n : Nat} (h : e = n) : NatsO (w.alloc (.cells #[.int .i64 e] 3)) w.heap.size (.slice (some ⟨w.heap.size, 0, none⟩) 1 1) [n] := by
  subst h
  exact ⟨by simp, Or.inr ⟨w.heap.size, 1, _, rfl, Nat.le_refl _, heap_alloc_new _ _, Nat.le_refl _, (by first | decide | rfl | simp), (by first | rfl | decide | simp), (by first | rfl | decide | simp [dgV])⟩⟩

/-- two numbers answered -/
def BigSays2 (w : World) (n m : Int) (e : Ending) (w' : World) : Prop := ∃ b sp k cap b' sp' k' cap', e = .returned (.tuple #[.agg #[.bool b, .slice sp k cap], .agg #[.bool b', .slice sp' k' cap']]) ∧ BigR w' b sp k cap n ∧ BigR w' b' sp' k' cap' m ∧ Only w w'

/-- the same, the second in memory made since -/
def BigSays2F (w : World) (n m : Int) (e : Ending) (w' : World) : Prop := ∃ b sp k cap b' sp' k' cap', e = .returned (.tuple #[.agg #[.bool b, .slice sp k cap], .agg #[.bool b', .slice sp' k' cap']]) ∧ BigR w' b sp k cap n ∧ BigR w' b' sp' k' cap' m ∧ Fresh w sp' ∧ Only w w'

set_option maxRecDepth 100000 in
set_option maxHeartbeats 6400000 in
theorem bigQuo_walk {b1 b2 : Bool} {s1 s2 : Option Addr} {c1 k2 c2 : Nat} {a : List Nat} {M : Nat} {w : World} (h1 : NatsR w (.slice s1 a.length c1) a) (g1 : Dg a) (l1 : a.length ≤ 5000) (h2 : BigR w false s2 k2 c2 (M : Int)) (hM : 0 < M) (l2 : Lim (M : Int) 5000) :
    Calls Tryz.prog 72 #[.agg #[.bool b1, .slice s1 a.length c1], .agg #[.bool b2, .slice s2 k2 c2]] w (BigSays2F w (sgn (b1 != b2) (bval a / M)) (sgn b1 (bval a % M))) := by
  obtain ⟨sp1, cap1, e1, -, -, a5⟩ := h1.form
  simp only [Value.slice.injEq] at e1
  obtain ⟨rfl, -, rfl⟩ := e1
  have HA := Lib.hid a5
  have GA := Lib.hid g1
  have HD := Lib.hid h2
  have LM := Lib.hid l2
  have HM := Lib.hid hM
  have Q0 := Lib.hid (QuoAt.start w b1 b2 s1 s2 a.length c1 k2 c2)
  have la : (a.length : Int) ≤ 5000 := by omega
  clear h1 a5 g1 h2 l2 hM
  go_enter Tryz.func72, Tryz.ntmps72
  go_wp2_with fail
  go_loopw [6, 9] (fun qv i wr => ∃ (k : Nat) (e : Int) (ql : List Nat) (R : Nat), e = (k : Int) - 1 ∧ i = .int .i64 e ∧ Quoting a M ql R k ∧ RestIs w b1 b2 s1 s2 a.length c1 k2 c2 qv ql R wr) (fun _ i _ => (intOf i + 1).toNat)
  case atStart => exact ⟨a.length, (a.length : Int) - 1, [], 0, rfl, rfl, Quoting.start a HM.out, false, none, 0, 0, Q0.out, ⟨by decide, [], Or.inl ⟨rfl, rfl⟩, Nm.nil⟩, Or.inl ⟨rfl, rfl⟩⟩
  case round =>
    obtain ⟨k, e, ql, R, he, rfl, hq, br, sr, kr, cr, hz, hr, hn⟩ := hrel
    obtain ⟨spq, capq, rfl, -⟩ := hn.form
    have HQ := Lib.hid hq
    rcases Nat.eq_zero_or_pos k with rfl | hpos
    · have i1 : ¬ (0 : Int) ≤ e := by omega
      obtain ⟨x1, x2, x3, x4, x5⟩ := hz.x.all
      obtain ⟨y1, y2, y3, y4, y5⟩ := hz.y.all
      obtain ⟨z1, z2, z3, z4, z5⟩ := hz.z.all
      have qx := hz.x.drew
      have qy := hz.y.drew
      have qz := hz.z.drew
      have hdone := hq.done
      obtain ⟨lr, hrr, hrn⟩ := hr.2
      have hrl := hrn.len_lt (M := M) (K := 5000) hq.less LM.out
      have HT1 : Hid (∀ W, Only wr W → Calls Tryz.prog 49 #[.bool (!(b1 == b2)), .slice spq ql.length capq] W (BigSays W (sgn (b1 != b2) (bval a / M)))) := Lib.hid fun W t => by
        have h := trim_any (neg := (b1 != b2)) (hn.only t) hq.dg (by have := hq.len; omega)
        rw [hdone.1] at h; exact h
      have HT2 : Hid (∀ W, Only wr W → Calls Tryz.prog 49 #[.bool b1, .slice sr kr cr] W (BigSaysF W (sgn b1 (bval a % M)))) := Lib.hid fun W t => by
        have h := trimF_any (neg := b1) (hrr.only t) hrn.dg (by omega)
        rw [hrn.eq, show (R : Int).natAbs = bval a % M from hdone.2] at h; exact h
      have HZ := Lib.hid hz
      have wrt : Only w wr := hz.t
      clear hq hr hn he hz hrr hrn hdone hrl
      go_wp2_with fail
      go_region_held3 (fun w' => w'.cell? ⟨w.heap.size, 0, none⟩ = some (.bool b1) ∧ w'.cell? ⟨w.heap.size + 1, 0, none⟩ = some (.bool b2) ∧ w'.cell? ⟨w.heap.size + 1 + 1 + 1 + 1, 1, none⟩ = some (.slice sr kr cr)) (first | with_reducible exact p1.sP _ _ _ _ | with_reducible exact p1.sPQ _ _ _ _ _ _ _ _ | with_reducible exact p1.sQ _ _ _ _ | with_reducible exact p1.sQP _ _ _ _ _ _ _ _ | with_reducible exact ⟨p1.x.c0, p1.y.c0, p1.z.c1⟩ | with_reducible exact ⟨qx.c0, qy.c0, qz.c1⟩ | with_reducible exact ⟨x1, y1, z2⟩ | fail) (first | (go_at_call 49; (with_reducible refine (HT1.out _ ?_).mono ?_); (exact (Only.refl _).drew); rintro r w3 ⟨b4, s4, k4, c4, rfl, hr4, t3⟩; have p1 := (HZ.out.only (Only.refl _).drew).only t3; have pt := (Only.refl wr).drew.trans t3) | (go_at_call 49; (with_reducible refine (HT2.out _ ?_).mono ?_); (exact pt); rintro r w4 ⟨b5, s5, k5, c5, rfl, hr5, fr5, t4⟩; have fr5 := (fr5.of pt).of wrt; have p1 := p1.only t4; have hr4 := hr4.only t4; obtain ⟨f1, f2, f3, f4, f5⟩ := p1.p.all; obtain ⟨g1, g2, g3, g4, g5⟩ := p1.q.all))
      have o2 : BigAt ((w4.setCell ⟨w.heap.size + 1 + 1, 0, none⟩ (.bool b4)).setCell ⟨w.heap.size + 1 + 1, 1, none⟩ (.slice s4 k4 c4)) (w.heap.size + 1 + 1 + 1) false none 0 0 := (p1.q.far (by omega) _ _).far (by omega) _ _
      have HB4 := Lib.hid ((hr4.apart p1.p b4 s4 k4 c4).apart o2 b5 s5 k5 c5)
      have HB5 := Lib.hid ((hr5.apart p1.p b4 s4 k4 c4).apart o2 b5 s5 k5 c5)
      have HT := Lib.hid ((((p1.t.set (p := w.heap.size + 1 + 1) (by omega) 0 (.bool b4)).set (p := w.heap.size + 1 + 1) (by omega) 1 (.slice s4 k4 c4)).set (p := w.heap.size + 1 + 1 + 1) (by omega) 0 (.bool b5)).set (p := w.heap.size + 1 + 1 + 1) (by omega) 1 (.slice s5 k5 c5))
      have FR5 := Lib.hid fr5
      clear p1 pt hr4 hr5 t3 t4 o2 qx qy qz fr5 wrt
      go_wp2
      simp [bodyPost, results, Tryz.results72, go_sem, World.cell?_setCell_other, f1, f2, g1, g2]
      exact ⟨b4, s4, k4, c4, b5, s5, k5, c5, rfl, HB4.out, HB5.out, FR5.out, HT.out⟩
    · obtain ⟨j, rfl⟩ : ∃ j, k = j + 1 := ⟨k - 1, by omega⟩
      have hej : e = (j : Int) := by omega
      subst hej
      have hj : j < a.length := by have := hq.le; omega
      obtain ⟨g, e1, v1⟩ := HA.out j a[j] (List.getElem?_eq_getElem hj)
      subst e1
      replace v1 := hz.t.cell v1
      unfold dgV at v1
      obtain ⟨x, ex⟩ : ∃ x, x = a[j] := ⟨_, rfl⟩
      rw [← ex] at v1
      obtain ⟨x1, x2, x3, x4, x5⟩ := hz.x.all
      obtain ⟨z1, z2, z3, z4, z5⟩ := hz.z.all
      have i1 : (j : Int) < (a.length : Int) := by omega
      have HZ := Lib.hid hz
      have HR := Lib.hid hr
      have HN := Lib.hid hn
      clear hq hr hn he hpos hz
      go_upto_region 7 with (fail)
      go_cut [] (fun wc => RestIs w b1 b2 (some ⟨g, 0, none⟩) s2 a.length c1 k2 c2 (.slice spq ql.length capq) ql (x + 10000 * R) wc)
      case first =>
        obtain ⟨lr, hrr, hrn⟩ := HR.out.2
        have HO1 : Hid (NatsO ((wr.alloc (.cells #[.int .i64 (x : Int)] 3)).drew) wr.heap.size (.slice (some ⟨wr.heap.size, 0, none⟩) 1 1) [x]) := Lib.hid (own_one wr (e := (x : Int)) rfl)
        have HRR := Lib.hid (hrr.only ((Only.refl wr).alloc (.cells #[.int .i64 (x : Int)] 3)).drew)
        have hzz := cell_kept wr (w.heap.size + 1 + 1 + 1 + 1) 1 (.cells #[.int .i64 (x : Int)] 3) HZ.out.z.lt
        rw [z2] at hzz
        have HLR := Lib.hid (hrn.len_lt (M := M) (K := 5000) HQ.out.less LM.out)
        have HTR : Hid (∀ W v, NatsO W wr.heap.size v (x :: lr) → Calls Tryz.prog 49 #[.bool false, v] W (BigSays W ((x + 10000 * R : Nat) : Int))) := Lib.hid fun W v hv => by
          have h := trim_any (neg := false) hv.toR (l := x :: lr) (Dg.cons (by rw [ex]; exact GA.out.at_ hj) hrn.dg) (by have := HLR.out; simp; omega)
          rw [show bval (x :: lr) = x + 10000 * R by simp only [bval]; rw [hrn.eq]; rfl] at h
          exact h
        clear ex hrr hrn
        go_region_law (first | (refine step_nats (base := wr.heap.size) (k := lr.length + 1) rfl (.tmp 30) (.tmp 32) rfl ?_ ?_ HO1.out HRR.out rfl ?_ ?_ ?_ ?_; rfl; rfl; simp; (have := HLR.out; omega); simp; intro sp3 cap3 w3 hown hb3 hs3) | (go_simp; go_at_call 49; refine (HTR.out _ _ hown).mono ?_; rintro r w4 ⟨b6, s6, k6, c6, rfl, hb6, t4⟩; have p3 := (HZ.out.only (Only.below ((Only.refl wr).alloc (.cells #[.int .i64 (x : Int)] 3)).drew hb3 (Nat.le_refl _))).only t4; have pn := (HN.out.only (Only.below ((Only.refl wr).alloc (.cells #[.int .i64 (x : Int)] 3)).drew hb3 (Nat.le_refl _))).only t4; obtain ⟨g1, g2, g3, g4, g5⟩ := p3.z.all))
        all_goals
          go_wp2_with fail
          go_meet
          exact ⟨b6, s6, k6, c6, p3.put b6 s6 k6 c6, hb6.apart p3.z b6 s6 k6 c6, pn.apart p3.z b6 s6 k6 c6⟩
      case rest =>
        clear x1 x2 x3 x4 x5 z1 z2 z3 z4 z5
        obtain ⟨N, hN⟩ : ∃ N, N = x + 10000 * R := ⟨_, rfl⟩
        rw [← hN] at hcut
        have hNM : N < M * 10000 := by
          have h1 := HQ.out.less
          have h2 := GA.out.at_ hj
          rw [← ex] at h2
          have : (R + 1) * 10000 ≤ M * 10000 := Nat.mul_le_mul_right _ h1
          omega
        have LN : Hid (Lim (N : Int) 50000) := Lib.hid (Lim.below_mul (K := 5000) hNM LM.out (by omega))
        have S0 := Lib.hid (show Searching N M 0 10000 from ⟨by simp, hNM⟩)
        have HCUT := Lib.hid hcut
        have HNX := Lib.hid hN
        have HEX := Lib.hid ex
        clear hcut hN hNM ex HZ HR HN
        go_wp2_with fail
        obtain ⟨wo, rfl⟩ : ∃ wo : World, wo = wr := ⟨_, rfl⟩
        go_loopw [10, 11] (fun lo hi wr => ∃ (l h : Nat), lo = .int .i64 l ∧ hi = .int .i64 h ∧ h ≤ 10000 ∧ Searching N M l h ∧ RestIs w b1 b2 (some ⟨g, 0, none⟩) s2 a.length c1 k2 c2 (.slice spq ql.length capq) ql N wr) (fun lo hi _ => (intOf hi - intOf lo).toNat)
        case atStart => exact ⟨0, 10000, rfl, rfl, Nat.le_refl _, S0.out, HCUT.out⟩
        case round =>
          obtain ⟨l, h, rfl, rfl, hh, hs, br2, sr2, kr2, cr2, hz2, hr2, hn2⟩ := hrel
          obtain ⟨d1, d2, d3, d4, d5⟩ := hz2.d.all
          obtain ⟨z1, z2, z3, z4, z5⟩ := hz2.z.all
          have hlh : l < h := by
            rcases Nat.lt_or_ge l h with c | c
            · exact c
            · have e1 := hs.low; have e2 := hs.high; have e3 := Nat.mul_le_mul_left M c; omega
          have HZ2 := Lib.hid hz2
          have HR2 := Lib.hid hr2
          have HN2 := Lib.hid hn2
          have HS := Lib.hid hs
          have qd := hz2.d.drew
          have qz := hz2.z.drew
          have ih : (h : Int) ≤ 10000 := by omega
          have il : (l : Int) < h := by omega
          clear hz2 hr2 hn2
          by_cases hgo : l + 1 < h
          · have tg : decide ((1 : Int) < (h : Int) - (l : Int)) = true := by simp; omega
            obtain ⟨m, hm⟩ : ∃ m, m = (l + h) / 2 := ⟨_, rfl⟩
            have hmid := hs.mid hgo
            rw [← hm] at hmid
            have HMID := Lib.hid hmid
            have hmi : ((l : Int) + (h : Int)) / 2 = (m : Int) := by omega
            have im : (m : Int) < 10000 := by omega
            have LMm : Hid (Lim (m : Int) 20000) := Lib.hid (Lim.digit (by omega))
            have LP : Hid (Lim ((M : Int) * (m : Int)) 100000) := Lib.hid ((LM.out.mul LMm.out).mono (by omega))
            have LN := Lib.hid (LN.out.mono (M := 100000) (by omega))
            clear hmid hm hs hgo hlh
            by_cases hle : M * m ≤ N
            · have tc : decide (cmpI ((M : Int) * (m : Int)) (N : Int) ≤ 0) = true := by simp only [cmpI]; split <;> (try split) <;> simp <;> omega
              obtain ⟨c, hc⟩ : ∃ c, c = cmpI ((M : Int) * (m : Int)) (N : Int) := ⟨_, rfl⟩
              rw [← hc] at tc
              have HC := Lib.hid hc
              have HGE := Lib.hid hle
              clear hc hle
              go_wp2_with fail
              go_region_held3 (fun w' => w'.cell? ⟨w.heap.size + 1 + 1 + 1 + 1 + 1, 0, none⟩ = some (.bool false) ∧ w'.cell? ⟨w.heap.size + 1 + 1 + 1 + 1 + 1, 1, none⟩ = some (.slice s2 k2 c2) ∧ w'.cell? ⟨w.heap.size + 1 + 1 + 1 + 1, 0, none⟩ = some (.bool br2) ∧ w'.cell? ⟨w.heap.size + 1 + 1 + 1 + 1, 1, none⟩ = some (.slice sr2 kr2 cr2)) (first | exact ⟨qd.c0, qd.c1, qz.c0, qz.c1⟩ | exact ⟨p1.d.c0, p1.d.c1, p1.z.c0, p1.z.c1⟩ | fail) (first | (go_at_call 13; refine (bigOf_any (N := (m : Int)) (by omega) (by omega) _).mono ?_; rintro r w3 ⟨b4, s4, k4, c4, rfl, hr4, t3⟩; have p1 := (HZ2.out.only (Only.refl _).drew).only t3; have pr := (HR2.out.only (Only.refl _).drew).only t3; have pn := (HN2.out.only (Only.refl _).drew).only t3) | (go_at_call 12; refine (bigMul_any (HD.out.only p1.t) hr4 (LM.out.mono (by omega)) LMm.out).mono ?_; rintro r w4 ⟨b5, s5, k5, c5, rfl, hr5, t4⟩; have p1 := p1.only t4; have pr := pr.only t4; have pn := pn.only t4) | (go_at_call 15; refine (bigCmp_any hr5 pr LP.out LN.out).mono ?_; rintro r w5 ⟨rfl, t5⟩; have p1 := p1.only t5; have pr := pr.only t5; have pn := pn.only t5; have hcc := HC.out.symm))
              have HZ3 := Lib.hid p1
              have HR3 := Lib.hid pr
              have HN3 := Lib.hid pn
              clear p1 pr pn t3 t4 t5 hr4 hr5 qd qz
              try rw [hcc]
              clear hcc
              go_wp2
              go_roundw
              case rel => exact ⟨m, h, rfl, rfl, by omega, HS.out.up HGE.out, br2, sr2, kr2, cr2, HZ3.out, HR3.out, HN3.out⟩
              case measure => have := HMID.out; simp [intOf]; omega
            · have tc : decide (cmpI ((M : Int) * (m : Int)) (N : Int) ≤ 0) = false := by simp only [cmpI]; split <;> (try split) <;> simp <;> omega
              obtain ⟨c, hc⟩ : ∃ c, c = cmpI ((M : Int) * (m : Int)) (N : Int) := ⟨_, rfl⟩
              rw [← hc] at tc
              have HC := Lib.hid hc
              have HGE := Lib.hid hle
              clear hc hle
              go_wp2_with fail
              go_region_held3 (fun w' => w'.cell? ⟨w.heap.size + 1 + 1 + 1 + 1 + 1, 0, none⟩ = some (.bool false) ∧ w'.cell? ⟨w.heap.size + 1 + 1 + 1 + 1 + 1, 1, none⟩ = some (.slice s2 k2 c2) ∧ w'.cell? ⟨w.heap.size + 1 + 1 + 1 + 1, 0, none⟩ = some (.bool br2) ∧ w'.cell? ⟨w.heap.size + 1 + 1 + 1 + 1, 1, none⟩ = some (.slice sr2 kr2 cr2)) (first | exact ⟨qd.c0, qd.c1, qz.c0, qz.c1⟩ | exact ⟨p1.d.c0, p1.d.c1, p1.z.c0, p1.z.c1⟩ | fail) (first | (go_at_call 13; refine (bigOf_any (N := (m : Int)) (by omega) (by omega) _).mono ?_; rintro r w3 ⟨b4, s4, k4, c4, rfl, hr4, t3⟩; have p1 := (HZ2.out.only (Only.refl _).drew).only t3; have pr := (HR2.out.only (Only.refl _).drew).only t3; have pn := (HN2.out.only (Only.refl _).drew).only t3) | (go_at_call 12; refine (bigMul_any (HD.out.only p1.t) hr4 (LM.out.mono (by omega)) LMm.out).mono ?_; rintro r w4 ⟨b5, s5, k5, c5, rfl, hr5, t4⟩; have p1 := p1.only t4; have pr := pr.only t4; have pn := pn.only t4) | (go_at_call 15; refine (bigCmp_any hr5 pr LP.out LN.out).mono ?_; rintro r w5 ⟨rfl, t5⟩; have p1 := p1.only t5; have pr := pr.only t5; have pn := pn.only t5; have hcc := HC.out.symm))
              have HZ3 := Lib.hid p1
              have HR3 := Lib.hid pr
              have HN3 := Lib.hid pn
              clear p1 pr pn t3 t4 t5 hr4 hr5 qd qz
              try rw [hcc]
              clear hcc
              go_wp2
              go_roundw
              case rel => exact ⟨l, m, rfl, rfl, by omega, HS.out.down HGE.out, br2, sr2, kr2, cr2, HZ3.out, HR3.out, HN3.out⟩
              case measure => have := HMID.out; simp [intOf]; omega
          · have tg : decide ((1 : Int) < (h : Int) - (l : Int)) = false := by simp; omega
            have hlo := hs.done hgo
            have hll := hs.low
            have LL : Hid (Lim (l : Int) 20000) := Lib.hid (Lim.digit (by omega))
            have LPL : Hid (Lim ((M : Int) * (l : Int)) 50000) := Lib.hid ((LM.out.mul LL.out).mono (by omega))
            have HLO := Lib.hid hlo
            have HLL := Lib.hid hll
            clear hs hgo hlo hll hlh
            go_upto_region 15 with (fail)
            go_cut [] (fun wc => RestIs w b1 b2 (some ⟨g, 0, none⟩) s2 a.length c1 k2 c2 (.slice spq ql.length capq) ql (N - M * l) wc)
            case first =>
              go_region_law (first | (go_simp; go_at_call 13; refine (bigOf_any (N := (l : Int)) (by omega) (by omega) _).mono ?_; rintro r w3 ⟨b4, s4, k4, c4, rfl, hr4, t3⟩; have p1 := (HZ2.out.only (Only.refl _).drew).only t3; have pr := (HR2.out.only (Only.refl _).drew).only t3; have pn := (HN2.out.only (Only.refl _).drew).only t3; obtain ⟨e1, e2, e3, e4, e5⟩ := p1.d.all; obtain ⟨f1, f2, f3, f4, f5⟩ := p1.z.all) | (go_simp; go_at_call 12; refine (bigMul_any (HD.out.only p1.t) hr4 (LM.out.mono (by omega)) LL.out).mono ?_; rintro r w4 ⟨b5, s5, k5, c5, rfl, hr5, t4⟩; have p1 := p1.only t4; have pr := pr.only t4; have pn := pn.only t4; obtain ⟨e1, e2, e3, e4, e5⟩ := p1.d.all; obtain ⟨f1, f2, f3, f4, f5⟩ := p1.z.all) | (go_simp; go_at_call 11; refine (bigSub_any pr hr5 LN.out LPL.out).mono ?_; rintro r w5 ⟨b6, s6, k6, c6, rfl, hr6, t5⟩; have p1 := p1.only t5; have pn := pn.only t5; obtain ⟨f1, f2, f3, f4, f5⟩ := p1.z.all))
              all_goals
                have hsub : (N : Int) - (M : Int) * (l : Int) = ((N - M * l : Nat) : Int) := by have := HLL.out; rw [Int.ofNat_sub this, Int.natCast_mul]
                rw [hsub] at hr6
                clear hsub
                go_wp2_with fail
                go_meet
                exact ⟨b6, s6, k6, c6, p1.put b6 s6 k6 c6, hr6.apart p1.z b6 s6 k6 c6, pn.apart p1.z b6 s6 k6 c6⟩
            case rest =>
              clear d1 d2 d3 d4 d5 z1 z2 z3 z4 z5 qd qz HZ2 HR2 HN2
              obtain ⟨br3, sr3, kr3, cr3, hz3, hr3, hn3⟩ := hcut
              have HO1 := Lib.hid (own_one wc (e := (l : Int)) rfl)
              have HRR := Lib.hid (hn3.only ((Only.refl wc).alloc (.cells #[.int .i64 (l : Int)] 3)))
              have HZ3 := Lib.hid hz3
              have HR3 := Lib.hid hr3
              have HQL := Lib.hid (show ql.length ≤ 5000 by have := HQ.out.len; omega)
              clear hz3 hr3 hn3
              go_wp2_with (at_builtin; refine append_nats2 rfl (.tmp 59) (.tmp 60) rfl (base := wc.heap.size) rfl rfl HO1.out HRR.out rfl (k := ql.length + 1) (by simp) (by have := HQL.out; omega) (by simp) ?_)
              intro sp5 cap5 w5 hown hb5 hs5
              have HW := Lib.hid hown
              have T5 := Lib.hid (Only.below ((Only.refl wc).alloc (.cells #[.int .i64 (l : Int)] 3)) hb5 (Nat.le_refl _))
              clear hown hb5 hs5
              go_wp2
              go_roundw
              case rel =>
                have hqn := HQ.out.next GA.out (lo := l) (by rw [HLO.out, HNX.out, HEX.out]; congr 1; omega)
                rw [show R * 10000 + a[j] - M * l = N - M * l by rw [HNX.out, HEX.out]; omega] at hqn
                exact ⟨j, (j : Int) - 1, l :: ql, N - M * l, rfl, by go_num, hqn, br3, sr3, kr3, cr3, HZ3.out.only T5.out, HR3.out.only T5.out, HW.out.toR⟩
              case measure => simp [intOf]

theorem sgn_tdiv (n m : Int) : sgn (decide (n < 0) != decide (m < 0)) (n.natAbs / m.natAbs) = n.tdiv m := by
  have h : (n.tdiv m).natAbs = n.natAbs / m.natAbs := by rw [Int.natAbs_tdiv]; rfl
  have p1 : n < 0 → m < 0 → 0 ≤ n.tdiv m := fun _ _ => by rw [← Int.neg_tdiv_neg]; exact Int.tdiv_nonneg (by omega) (by omega)
  have p2 : n < 0 → ¬ m < 0 → n.tdiv m ≤ 0 := fun _ _ => by
    have := Int.tdiv_nonneg (a := -n) (b := m) (by omega) (by omega)
    rw [Int.neg_tdiv] at this; omega
  have p3 : ¬ n < 0 → m < 0 → n.tdiv m ≤ 0 := fun _ _ => by
    have := Int.tdiv_nonneg (a := n) (b := -m) (by omega) (by omega)
    rw [Int.tdiv_neg] at this; omega
  have p4 : ¬ n < 0 → ¬ m < 0 → 0 ≤ n.tdiv m := fun _ _ => Int.tdiv_nonneg (by omega) (by omega)
  rw [← h]
  generalize n.tdiv m = q at *
  unfold sgn
  by_cases c1 : n < 0 <;> by_cases c2 : m < 0
  · have := p1 c1 c2; simp [c1, c2]; omega
  · have := p2 c1 c2; simp [c1, c2]; omega
  · have := p3 c1 c2; simp [c1, c2]; omega
  · have := p4 c1 c2; simp [c1, c2]; omega
theorem sgn_tmod (n m : Int) : sgn (decide (n < 0)) (n.natAbs % m.natAbs) = n.tmod m := by
  have h : (n.tmod m).natAbs = n.natAbs % m.natAbs := by rw [Int.natAbs_tmod]
  have p1 : n < 0 → n.tmod m ≤ 0 := fun _ => by
    have := Int.tmod_nonneg (a := -n) m (by omega)
    rw [Int.neg_tmod] at this; omega
  have p2 : ¬ n < 0 → 0 ≤ n.tmod m := fun _ => Int.tmod_nonneg m (by omega)
  rw [← h]
  generalize n.tmod m = q at *
  unfold sgn
  by_cases c1 : n < 0
  · have := p1 c1; simp [c1]; omega
  · have := p2 c1; simp [c1]; omega
theorem Lim.abs {n : Int} {K : Nat} (h : Lim n K) : Lim (n.natAbs : Int) K := h

theorem bigQuoF_any {b1 b2 : Bool} {s1 s2 : Option Addr} {k1 c1 k2 c2 : Nat} {n m : Int} {w : World} (h1 : BigR w b1 s1 k1 c1 n) (h2 : BigR w b2 s2 k2 c2 m) (l1 : Lim n 5000) (l2 : Lim m 5000) (hm : m ≠ 0) :
    Calls Tryz.prog 72 #[.agg #[.bool b1, .slice s1 k1 c1], .agg #[.bool b2, .slice s2 k2 c2]] w (BigSays2F w (n.tdiv m) (n.tmod m)) := by
  obtain ⟨rfl, l, r1, g1⟩ := h1
  obtain ⟨rfl, m', r2, g2⟩ := h2
  obtain ⟨sp1, cap1, e1, -, -, -⟩ := r1.form
  simp only [Value.slice.injEq] at e1
  obtain ⟨-, rfl, -⟩ := e1
  have h := bigQuo_walk (b1 := decide (n < 0)) (b2 := decide (m < 0)) (M := m.natAbs) r1 g1.dg (g1.len l1) ⟨by simp, m', r2, by simpa using g2⟩ (by omega) l2.abs
  rw [g1.eq, sgn_tdiv, sgn_tmod] at h
  exact h

theorem bigQuo_any {b1 b2 : Bool} {s1 s2 : Option Addr} {k1 c1 k2 c2 : Nat} {n m : Int} {w : World} (h1 : BigR w b1 s1 k1 c1 n) (h2 : BigR w b2 s2 k2 c2 m) (l1 : Lim n 5000) (l2 : Lim m 5000) (hm : m ≠ 0) :
    Calls Tryz.prog 72 #[.agg #[.bool b1, .slice s1 k1 c1], .agg #[.bool b2, .slice s2 k2 c2]] w (BigSays2 w (n.tdiv m) (n.tmod m)) :=
  (bigQuoF_any h1 h2 l1 l2 hm).mono fun _ _ ⟨b, s, k, c, b', s', k', c', e, r1, r2, _, t⟩ => ⟨b, s, k, c, b', s', k', c', e, r1, r2, t⟩
end Go.Proofs.YtopklnaahdjafaaGreatDoor
