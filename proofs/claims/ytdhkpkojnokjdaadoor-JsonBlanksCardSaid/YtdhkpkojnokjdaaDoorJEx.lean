/-
  Of the laws: bytes that come in, Num, the chapter's example.
-/
import Derived.Test.YtdhkpkojnokjdaaDoorSRise
import Derived.Test.YtdhkpkojnokjdaaDoorJTwice
import Derived.Test.YtdhkpkojnokjdaaDoorJMade
import Derived.Test.YtdhkpkojnokjdaaDoorJFuel
import Derived.Lib.SmallJoins
namespace Go.Proofs.YtdhkpkojnokjdaaDoor
open Go.RowKit Go.Maps Go.WideMaps Go.Shelf
set_option linter.unusedVariables false
set_option linter.unusedSimpArgs false

theorem numJ_any (e : Int) (w : World) : Calls Tryd.prog 11 #[.int .i64 e] w fun r w' => r = .returned (.int .i64 e) ∧ w' = w := by
  go_enter Tryd.func11, Tryd.ntmps11
  go_wp2
  go_ret
  exact ⟨rfl, rfl⟩

/-- bytes in a row of cells, as a text -/
theorem bytes_conv {w : World} {g off cap : Nat} {l : List UInt8} (hc : ∀ j u, (l.map u8V)[j]? = some u → w.cell? ⟨g, off + j, none⟩ = some u) : (convert 26 9 (.slice (some ⟨g, off, none⟩) l.length cap)).run Tryd.prog w = .ok (.string ⟨l.toArray⟩) w := by
  rw [run_convert_bytes_string w 26 9 5 _ _ _ (by kernel_rfl) (by kernel_rfl) (by kernel_rfl)]
  have hl : (loadCells ⟨g, off, none⟩ l.length).run Tryd.prog w = .ok ((l.map fun c => (c.toNat : Int)).map (Value.int .u8)).toArray w := by
    have := run_loadCells_list (P := Tryd.prog) (w := w) ⟨g, off, none⟩ (l.map u8V) (fun j v hj => by rw [add_at]; exact hc j v hj)
    simp only [List.length_map] at this
    rw [this, List.map_map]; rfl
  rw [run_bytesToString w _ _ _ _ hl]
  congr 2
  have : ∀ (l : List UInt8) (s : ByteArray), (l.map fun c => (c.toNat : Int)).foldl (fun r n => r.push (UInt8.ofNat n.toNat)) s = ⟨s.data ++ l.toArray⟩ := by
    intro l
    induction l with
    | nil => intro s; simp
    | cons c l ih => intro s; simp only [List.map_cons, List.foldl_cons, ih]; simp [ByteArray.push]
  rw [this]; simp

theorem BytesIn.cells {w : World} {g off cap : Nat} {l : List UInt8} (hc : ∀ j u, (l.map u8V)[j]? = some u → w.cell? ⟨g, off + j, none⟩ = some u) : BytesIn w (.slice (some ⟨g, off, none⟩) l.length cap) l :=
  ⟨⟨_, _, rfl⟩, fun W t => bytes_conv fun j u h => cell_only (hc j u h) t⟩
theorem BytesIn.own {w : World} {base : Nat} {v : Value} {l : List UInt8} (h : BytesO w base v l) : BytesIn w v l := by
  refine ⟨?_, fun W t => bytes_string (h.only t)⟩
  rcases h.form with ⟨rfl, rfl⟩ | ⟨g, cap, rfl, -, -⟩
  · exact ⟨_, _, rfl⟩
  · exact ⟨_, _, rfl⟩
theorem BytesIn.fresh {w : World} {cs : Array Value} {ty : TypeId} {fr : Nat × Nat} {n cap : Nat} {l : List UInt8} (hcs : cs = (l.map u8V).toArray) (hn : n = l.length) : BytesIn (w.alloc (.cells cs ty fr)) (.slice (some ⟨w.heap.size, 0, none⟩) n cap) l := by
  subst hcs hn
  refine BytesIn.cells fun j u h => ?_
  rw [Nat.zero_add, World.cell?_alloc_mark]
  simpa using h

abbrev exA : List UInt8 := [32, 123, 34, 98, 34, 32, 58, 32, 91, 49, 44, 32, 50, 46, 53, 48, 101, 49, 93, 44, 32, 34, 97, 34, 58, 34, 92, 117, 48, 48, 52, 49, 92, 47, 34, 125, 32]
abbrev exB : List UInt8 := [123, 34, 97, 34, 58, 49, 44, 34, 97, 34, 58, 50, 125]
abbrev exV : JV := .obj [[98], [97]] [.arr [.num [49], .num [50, 46, 53, 48, 101, 49]], .str [65, 47]]
abbrev exO : List UInt8 := [123, 34, 97, 34, 58, 34, 65, 47, 34, 44, 34, 98, 34, 58, 91, 49, 44, 50, 46, 53, 48, 101, 49, 93, 125]
theorem exA_is : parseE exA = .ok exV 36 := by kernel_rfl
theorem exB_is : parseE exB = .bad 7 12 := by kernel_rfl
theorem exG_is : toG exV = .mk 6 [] [.mk 5 [] [.mk 3 [49] [] [], .mk 3 [50, 46, 53, 48, 101, 49] [] []] [], .mk 4 [65, 47] [] []] [[98], [97]] := by
  simp [exV, toG_obj, toG_arr, toG]
theorem exN_is : ordN [[98], [97]] = [1, 0] := by decide
theorem exO_is : textG ordN (toG exV) = exO := by
  rw [exG_is]
  simp only [textG, textL, objG, memG, exN_is]
  decide
theorem exP_is : printE ordN (twG ordN) (toG exV) = 0 := by
  unfold printE
  rw [exO_is, exG_is]
  simp only [errG, errL, twG, exN_is]
  decide

/-- the whole of Print -/
theorem printN_any {x : GV} {v : Value} {w : World} (hx : GIn w x v) (hF : Fine x) (hT : Tb w) (hn : (textG ordN x).length ≤ 90000000) :
    Calls Tryd.prog 10 #[v] w fun e w' => (∃ bv, e = .returned (.tuple #[bv, .int .i64 (printE ordN (twG ordN) x)]) ∧ (printE ordN (twG ordN) x = 0 → BytesO w' w.heap.size bv (textG ordN x)) ∧ (printE ordN (twG ordN) x ≠ 0 → bv = .slice none 0 0)) ∧ Only w w' :=
  print_any risingIs ordIs (isTwice_any risingIs ordIs) hx hF hT hn

/-- what Parse reads, as a value that may be printed -/
theorem parseN_any {v : Value} {l : List UInt8} {w : World} (hb : BytesIn w v l) (hlen : l.length ≤ 65536) (hT : Tb w) :
    Calls Tryd.prog 12 #[v] w (ParseRes w (parseE l)) := parse_any hb hlen hT (valueE_steps l)

theorem GIn.only_ {w w' : World} {x : GV} {v : Value} (h : GIn w x v) (t : Only w w') : GIn w' x v := GIn.only t x h

theorem parse_exA {w : World} {cs : Array Value} {ty : TypeId} {fr : Nat × Nat} {cap : Nat} (hcs : cs = (exA.map u8V).toArray) (hT : Tb w) : Calls Tryd.prog 12 #[.slice (some ⟨w.heap.size, 0, none⟩) 37 cap] (w.alloc (.cells cs ty fr)) fun e w' => (∃ k t sa na ca sb nb cb, e = .returned (.tuple #[.agg #[.int .i64 k, txt t, .slice sa na ca, .slice sb nb cb], .int .i64 0, .int .i64 0]) ∧ GIn w' (toG exV) (.agg #[.int .i64 k, txt t, .slice sa na ca, .slice sb nb cb])) ∧ Only w w' := by
  have h0 := (Only.refl w).alloc (.cells cs ty fr)
  refine (parseN_any (BytesIn.fresh hcs rfl) (by decide) (hT.only h0)).mono ?_
  rintro e w' ⟨t, h⟩
  rw [exA_is] at h
  obtain ⟨v, rfl, hv⟩ := h
  obtain ⟨kk, tt, La, Na, rfl, ⟨la1, la2, la3, rfl⟩, ⟨na1, na2, na3, rfl⟩⟩ := hv.form
  exact ⟨⟨_, _, _, _, _, _, _, _, rfl, hv.gin⟩, h0.trans t⟩
theorem parse_exB {w : World} {cs : Array Value} {ty : TypeId} {fr : Nat × Nat} {cap : Nat} (hcs : cs = (exB.map u8V).toArray) (hT : Tb w) : Calls Tryd.prog 12 #[.slice (some ⟨w.heap.size, 0, none⟩) 13 cap] (w.alloc (.cells cs ty fr)) fun e w' => e = .returned (.tuple #[.agg #[.int .i64 0, .string ⟨#[]⟩, .slice none 0 0, .slice none 0 0], .int .i64 7, .int .i64 12]) ∧ Only w w' := by
  have h0 := (Only.refl w).alloc (.cells cs ty fr)
  refine (parseN_any (BytesIn.fresh hcs rfl) (by decide) (hT.only h0)).mono ?_
  rintro e w' ⟨t, h⟩
  rw [exB_is] at h
  obtain ⟨a', h1, rfl⟩ := h
  obtain rfl : a' = 7 := by rcases h1 with h1 | h1; exact absurd h1 (by decide); exact h1
  exact ⟨rfl, h0.trans t⟩
theorem print_exA {w : World} {v : Value} (hx : GIn w (toG exV) v) (hT : Tb w) : Calls Tryd.prog 10 #[v] w fun e w' => (∃ sp cap, e = .returned (.tuple #[.slice sp 25 cap, .int .i64 0]) ∧ BytesO w' w.heap.size (.slice sp 25 cap) exO) ∧ Only w w' := by
  have hF : Fine (toG exV) := by
    simp [toG_obj, toG_arr, toG, Fine, FineL]
  refine (printN_any hx hF hT (by rw [exO_is]; decide)).mono ?_
  rintro e w' ⟨⟨bv, rfl, h1, -⟩, t⟩
  rw [exP_is, exO_is] at h1
  have hb := h1 rfl
  rw [exP_is]
  rcases hb.form with ⟨e1, e2⟩ | ⟨g, cap, rfl, -, -⟩
  · cases e2
  · exact ⟨⟨_, _, rfl, hb⟩, t⟩

set_option maxRecDepth 100000 in
set_option maxHeartbeats 3200000 in
theorem first7_any {w : World} (hT : Tb w) : Calls Tryd.prog 8 #[] w fun e w' => e = .returned (.bool true) ∧ Only w w' := by
  have HT := Lib.hid hT
  have NM := Lib.hid numJ_any
  have cv : ∀ (W : World) (C : Array Value) (n c : Nat), (convert 26 26 (.slice (some ⟨W.heap.size, 0, none⟩) n c)).run Tryd.prog (W.alloc (.cells C 5)) = .ok (.slice (some ⟨W.heap.size, 0, none⟩) n c) (W.alloc (.cells C 5 (C.size, C.size + 1))) := fun W C n c => Lib.run_convert_bytes_const W _ _ C n c Tryd.underlying26 Tryd.underlying5
  clear hT
  go_enter Tryd.func8, Tryd.ntmps8
  go_wp2_with fail
  refine (parse_exA (by kernel_rfl) HT.out).mono ?_
  rintro r w1 ⟨⟨k, t, sa, na, ca, sb, nb, cb, rfl, hv⟩, t1⟩
  have HV := Lib.hid hv
  have H1 := Lib.hid t1
  clear hv t1
  go_wp2_with fail
  refine (print_exA (HV.out.only_ ((Only.refl w1).alloc _)) (HT.out.only (H1.out.alloc _))).mono ?_
  rintro r w2 ⟨⟨sp, cap, rfl, hb⟩, t2⟩
  have HB := Lib.hid hb
  have H2 := Lib.hid ((H1.out.alloc _).trans t2)
  clear hb t2
  go_wp2_with fail
  refine (parse_exB (by kernel_rfl) (HT.out.only H2.out)).mono ?_
  rintro r w3 ⟨rfl, t3⟩
  have H3 := Lib.hid ((H2.out.trans t3).alloc (.cells #[.int .i64 0, .string ⟨#[]⟩, .slice none 0 0, .slice none 0 0] 25))
  have cs := bytes_string (HB.out.only (t3.alloc (.cells #[.int .i64 0, .string ⟨#[]⟩, .slice none 0 0, .slice none 0 0] 25)))
  clear t3
  go_wp2_with (go_at_call 11; refine (NM.out _ _).mono ?_; rintro r w'' ⟨rfl, rfl⟩)
  go_ret
  exact ⟨rfl, H3.out⟩
end Go.Proofs.YtdhkpkojnokjdaaDoor
