/-
  The name of a member read.
-/
import Derived.Test.YtdhkpkojnokjdaaDoorGJc
import Derived.Test.YtdhkpkojnokjdaaDoorJVal
import Derived.Shelf.Slices.Turned
namespace Go.Proofs
open Go.Shelf
def Tryd.lays110_ren : Go.Shelf.Ren := ⟨fun | 110 => 72 | 109 => 31 | n => n, fun | 31 => 23 | 9 => 9 | 4 => 4 | 3 => 3 | 0 => 0 | n => n, fun | n => n⟩
theorem Tryd.lays110 : Go.Proofs.Lays.n110 Tryd.prog Tryd.lays110_ren := {
  mixed := by kernel_rfl
  f109 := Tryd.func31.trans (congrArg some (by kernel_rfl))
  f110 := Tryd.func72.trans (congrArg some (by kernel_rfl))
  t0 := Tryd.underlying0
  a0 := Tryd.isAgg0
  z0 := Tryd.sizeOf0
  v0 := Tryd.zeroValue0
  t3 := Tryd.underlying3
  a3 := Tryd.isAgg3
  z3 := Tryd.sizeOf3
  v3 := Tryd.zeroValue3
  t4 := Tryd.underlying4
  a4 := Tryd.isAgg4
  z4 := Tryd.sizeOf4
  v4 := Tryd.zeroValue4
  t9 := Tryd.underlying9
  a9 := Tryd.isAgg9
  z9 := Tryd.sizeOf9
  v9 := Tryd.zeroValue9
  t31 := Tryd.underlying23
  a31 := Tryd.isAgg23
  z31 := Tryd.sizeOf23
  v31 := Tryd.zeroValue23 }
end Go.Proofs
namespace Go.Proofs.YtdhkpkojnokjdaaDoor
open Go.RowKit Go.Shelf
set_option linter.unusedVariables false
set_option linter.unusedSimpArgs false

def nameOf (s : List UInt8) (ahead : List (List UInt8)) (c q : Nat) : Rs (List UInt8) :=
  if c = 34 then (if decide (1000 ≤ ahead.length) = true then .bad q 9 else (quotedE s q).bind fun t r => if ahead.contains t = true then .bad q 12 else .ok t r) else .bad q 11
def nameE (s : List UInt8) (p : Nat) (ahead : List (List UInt8)) : Rs (List UInt8) := (byteE s (skipE blankL s p)).bind (nameOf s ahead)

theorem txt_inj {a b : List UInt8} : (⟨a.toArray⟩ : ByteArray) = ⟨b.toArray⟩ ↔ a = b := by
  constructor
  · intro h
    have := congrArg (fun x : ByteArray => x.data.toList) h
    simpa using this
  · rintro rfl; rfl

theorem contains_any {w : World} {B : Nat} {N : Value} {ns : List (List UInt8)} (h : NamesAt w B N ns) (hn : ns.length ≤ 1000000) (t : List UInt8) :
    Calls Tryd.prog 72 #[N, txt t] w fun e w' => e = .returned (.bool (ns.contains t)) ∧ w' = w := by
  rcases h.1.2 with ⟨rfl, h0⟩ | ⟨g, cap, cur, rfl, hg, hh, h1, h2, h3, h4⟩
  · have : ns = [] := List.length_eq_zero_iff.1 h0
    subst this
    exact Any.slices_Contains_string_empty Tryd.lays110 none 0 ⟨t.toArray⟩ w
  · obtain ⟨zs, hzs⟩ : ∃ zs : List ByteArray, zs = ns.map fun x => ⟨x.toArray⟩ := ⟨_, rfl⟩
    have hl : zs.length = ns.length := by rw [hzs]; simp
    have hown : w.ownsRow 0 9 1 (.slice (some ⟨g, 0, none⟩) ns.length cap) ns.length (ns.map txt) := h.1
    have hc : ∀ j, j < zs.length → w.cell? ⟨g, 0 + j, none⟩ = some (.string (zs.getD j ByteArray.empty)) := fun j hj => by
      have hj2 : j < ns.length := by omega
      rw [Nat.zero_add]
      refine (hown.cellAt j (by omega)).trans ?_
      rw [hzs]
      simp [hj2]
    refine (show Calls Tryd.prog 72 _ w _ from Any.slices_Contains_string Tryd.lays110 g 0 ns.length cap zs ⟨t.toArray⟩ w (by omega) (by omega) hc).mono ?_
    rintro e w' ⟨rfl, rfl⟩
    refine ⟨?_, rfl⟩
    congr 2
    rw [List.take_of_length_le (by omega), Bool.eq_iff_iff, Lib.containsS_iff, hzs, List.mem_map, List.contains_iff_mem]
    constructor
    · rintro ⟨x, hx, he⟩
      rwa [← txt_inj.1 he]
    · intro hx
      exact ⟨t, hx, rfl⟩

set_option maxRecDepth 100000 in
set_option maxHeartbeats 6400000 in
theorem name_any {D : ByteArray} {R p B : Nat} {N : Value} {ns : List (List UInt8)} {w : World} (h : RdAt w R D p) (hp : p ≤ D.size) (hl : D.size ≤ 1000000) (hT : Tb w) (hR0 : R ≠ 0) (hR1 : R ≠ 1)
    (hN : NamesAt w B N ns) (hRB : R < B) (hnl : ns.length ≤ 1000000) :
    Calls Tryd.prog 58 #[.pointer (some ⟨R, 0, none⟩), N] w (Post w R D (fun y v _ => v = txt y) (nameE D.data.toList p ns)) := by
  obtain ⟨q, hq⟩ : ∃ q, q = skipE blankL D.data.toList p := ⟨_, rfl⟩
  have hql : q ≤ D.size := by have := skipE_le blankL D.data.toList (p := p) (by rw [data_len]; exact hp); rw [data_len] at this; omega
  have BL := blanks_any h hp hl
  rw [← hq] at BL
  have hk : nameE D.data.toList p ns = (byteE D.data.toList q).bind (nameOf D.data.toList ns) := by unfold nameE; rw [← hq]
  have HT := Lib.hid hT
  have HN := Lib.hid hN
  obtain ⟨sp, cap, hNf⟩ : ∃ sp cap, N = .slice sp ns.length cap := by
    rcases hN.1.2 with ⟨e, h0⟩ | ⟨g, cap, cur, e, _⟩
    · exact ⟨none, 0, by rw [e, h0]⟩
    · exact ⟨_, cap, e⟩
  have HNF := Lib.hid hNf
  clear hq h hT hN
  rcases byteE_cases D q with ⟨hlt, hb⟩ | ⟨hge, hb⟩
  · rw [hb] at hk
    have HE : ∀ W, RdAt W R D q → Calls Tryd.prog 51 #[.pointer (some ⟨R, 0, none⟩)] W fun e w' => e = .returned (.int .u8 (((D[q]'hlt).toNat : Nat) : Int)) ∧ Only W w' := fun W r => here_in r hlt
    obtain ⟨c, hc⟩ : ∃ c, c = (D[q]'hlt).toNat := ⟨_, rfl⟩
    rw [← hc] at HE hk
    simp only [Rs.bind] at hk
    have HE := Lib.hid HE
    clear hc hb
    by_cases h34 : c = 34
    · have hk2 := hk.trans (if_pos h34)
      subst h34
      clear hk
      by_cases hm : 1000 ≤ ns.length
      · have im : decide ((1000 : Int) ≤ (ns.length : Int)) = true := decide_eq_true (by omega)
        have HK := Lib.hid (hk2.trans (if_pos (decide_eq_true hm)))
        clear hk2 hm
        subst hNf
        go_enter Tryd.func58, Tryd.ntmps58
        go_wp2_with (first | (go_at_call 25; refine BL.mono ?_; rintro r w1 ⟨rfl, r1, t1⟩; have HR := Lib.hid r1; have HT1 := Lib.hid t1; obtain ⟨y1, y2, y3, y4, y5⟩ := r1.all; clear r1 t1) | (go_at_call 51; refine (HE.out _ HR.out).mono ?_; rintro r w2 ⟨rfl, t2⟩; have HT2 := Lib.hid (HT1.out.only t2); clear t2))
        simp [bodyPost]
        exact post_bad HK.out HT2.out
      · have im : decide ((1000 : Int) ≤ (ns.length : Int)) = false := decide_eq_false (by omega)
        have hk3 := hk2.trans (if_neg (by simpa using hm))
        have QU := fun W (r : RdAt W R D q) (t : Tb W) => quoted_any r hlt hl t hR0 hR1
        obtain ⟨u, hu⟩ : ∃ u, u = quotedE D.data.toList q := ⟨_, rfl⟩
        rw [← hu] at QU hk3
        have HK3 := Lib.hid hk3
        have QU := Lib.hid QU
        clear hk2 hk3 hm hu
        subst hNf
        go_enter Tryd.func58, Tryd.ntmps58
        go_wp2_with (first | (go_at_call 25; refine BL.mono ?_; rintro r w1 ⟨rfl, r1, t1⟩; have HR := Lib.hid r1; have HT1 := Lib.hid t1; obtain ⟨y1, y2, y3, y4, y5⟩ := r1.all; clear r1 t1) | (go_at_call 51; refine (HE.out _ HR.out).mono ?_; rintro r w2 ⟨rfl, t2⟩; have HR2 := Lib.hid (HR.out.only t2); have HT2 := Lib.hid (HT1.out.only t2); clear t2))
        go_at_call 41
        refine (QU.out _ HR2.out (HT.out.turn HT2.out (fun e => hR0 e.symm) (fun e => hR1 e.symm))).mono ?_
        intro e w3 hP
        rcases hP.cases with ⟨y, q3, v, rfl, hq3, rfl, rfl, r3, t3⟩ | ⟨a, b, a', rfl, rfl, hk, t3⟩
        · have HK4 := Lib.hid (HK3.out.trans rfl)
          have HR3 := Lib.hid r3
          have HT3 := Lib.hid (HT2.out.then_ t3)
          have CT := contains_any (HN.out.but HT3.out hRB) hnl y
          obtain ⟨z, hz⟩ : ∃ z, z = ns.contains y := ⟨_, rfl⟩
          rw [← hz] at CT
          have HZ := Lib.hid hz
          clear hP HK3 QU r3 t3 hz
          cases z
          · go_wp2_with (go_at_call 72; refine CT.mono ?_; rintro r w4 ⟨rfl, rfl⟩)
            go_ret
            exact post_ok (HK4.out.trans (if_neg (by rw [← HZ.out]; decide))) HT3.out hq3 rfl HR3.out
          · go_wp2_with (go_at_call 72; refine CT.mono ?_; rintro r w4 ⟨rfl, rfl⟩)
            simp [bodyPost]
            exact post_bad (HK4.out.trans (if_pos HZ.out.symm)) HT3.out
        · have HK4 := Lib.hid (HK3.out.trans rfl)
          have HT3 := Lib.hid (HT2.out.then_ t3)
          clear hP HK3 QU t3
          go_wp2_with fail
          simp [bodyPost]
          exact post_on HK4.out HT3.out hk
    · have n1 : ((c : Int) != 34) = true := by rw [bne_iff_ne]; omega
      have HK := Lib.hid (hk.trans (if_neg h34))
      clear hk h34
      go_enter Tryd.func58, Tryd.ntmps58
      go_wp2_with (first | (go_at_call 25; refine BL.mono ?_; rintro r w1 ⟨rfl, r1, t1⟩; have HR := Lib.hid r1; have HT1 := Lib.hid t1; obtain ⟨y1, y2, y3, y4, y5⟩ := r1.all; clear r1 t1) | (go_at_call 51; refine (HE.out _ HR.out).mono ?_; rintro r w2 ⟨rfl, t2⟩; have HT2 := Lib.hid (HT1.out.only t2); clear t2))
      simp [bodyPost]
      exact post_bad HK.out HT2.out
  · rw [hb] at hk
    have HK := Lib.hid (hk.trans rfl)
    clear hk hb
    go_enter Tryd.func58, Tryd.ntmps58
    go_wp2_with (first | (go_at_call 25; refine BL.mono ?_; rintro r w1 ⟨rfl, r1, t1⟩; have HR := Lib.hid r1; have HT1 := Lib.hid t1; obtain ⟨y1, y2, y3, y4, y5⟩ := r1.all; clear r1 t1) | (go_at_call 51; refine (here_out HR.out (by omega)).mono ?_; rintro r w2 ⟨rfl, t2⟩; have HT2 := Lib.hid (HT1.out.only t2); clear t2))
    simp [bodyPost]
    exact post_bad HK.out HT2.out
end Go.Proofs.YtdhkpkojnokjdaaDoor
