/-
  JsonQuotes: the walk.
-/
import Derived.Test.YtfcplpejifmohaaDoorJQuoteP
import Derived.Test.YtfcplpejifmohaaDoorJLong
namespace Go.Proofs.YtfcplpejifmohaaDoor
open Go.RowKit Go.Maps Go.WideMaps Go.Shelf
set_option linter.unusedVariables false
set_option linter.unusedSimpArgs false

theorem txt_back (s : ByteArray) : (⟨s.data.toList.toArray⟩ : ByteArray) = s := by
  apply ByteArray.ext; simp

theorem printE_str {l : List UInt8} (hl : l.length ≤ 10000) : textG ordN (.mk 4 l [] []) = quoteB l ∧ printE ordN (twG ordN) (.mk 4 l [] []) = if Lib.validD l = true then 0 else 10 := by
  have e1 : textG ordN (.mk 4 l [] []) = quoteB l := by rw [textG]; rfl
  have hq := quoL_len l
  have e2 : errG (twG ordN) (.mk 4 l [] []) 0 = if Lib.validD l = true then 0 else 10 := by
    rw [errG]
    have : ownE (twG ordN) 4 l ([] : List GV).length [] 0 = if Lib.validD l = true then 0 else 10 := by
      unfold ownE formG
      cases h : Lib.validD l <;> simp
    rw [this]
    cases h : Lib.validD l <;> simp
  refine ⟨e1, ?_⟩
  unfold printE
  rw [e2, e1]
  have hlen : (quoteB l).length ≤ 65536 := by unfold quoteB; rw [List.length_cons, List.length_append]; simp; omega
  cases h : Lib.validD l
  · simp
  · simp; omega

set_option maxRecDepth 100000 in
set_option maxHeartbeats 3200000 in
theorem quotes_long {s : ByteArray} (hs : 4000 < s.size) {w : World} (hT : Tb w) : Calls Tryd.prog 6 #[.string s] w fun e w' => e = .returned (.bool true) ∧ Only w w' := by
  have HT := Lib.hid hT
  have FI := Lib.hid (fun W (h : Tb W) => first7_any h)
  have i1 : (4000 : Int) < (s.size : Int) := by omega
  clear hT
  go_enter Tryd.func6, Tryd.ntmps6
  go_wp2_with fail
  refine (FI.out _ HT.out).mono ?_
  rintro r w1 ⟨rfl, t1⟩
  have H1 := Lib.hid t1
  clear t1
  go_wp2_with fail
  go_ret
  exact ⟨rfl, H1.out⟩

set_option maxRecDepth 100000 in
set_option maxHeartbeats 3200000 in
theorem quotes_good {s : ByteArray} (hs : s.size ≤ 4000) (hv : Lib.validD s.data.toList = true) {w : World} (hT : Tb w) : Calls Tryd.prog 6 #[.string s] w fun e w' => e = .returned (.bool true) ∧ Only w w' := by
  have hl : s.data.toList.length ≤ 4000 := by rw [data_len]; exact hs
  obtain ⟨p1, p2⟩ := printE_str (l := s.data.toList) (by omega)
  rw [if_pos hv] at p2
  obtain ⟨q, hq⟩ := (parse_quoted s.data.toList).1 hv
  have hql := quoL_len s.data.toList
  obtain ⟨Q, hQ⟩ : ∃ Q, Q = quoteB s.data.toList := ⟨_, rfl⟩
  have hQl : Q.length ≤ 65536 := by rw [hQ]; unfold quoteB; rw [List.length_cons, List.length_append]; simp; omega
  have hQs : (⟨Q.toArray⟩ : ByteArray).size = Q.length := by rw [← data_len]
  have HT := Lib.hid hT
  have NM := Lib.hid numJ_any
  have FI := Lib.hid (fun W (h : Tb W) => first7_any h)
  have QU := Lib.hid (fun W => quote_any (s := s) (by omega) W)
  have OT := Lib.hid (fun W => ofText_any (s := s) (by omega) W)
  have PR := Lib.hid (fun (W : World) (v : Value) (hx : GIn W (.mk 4 s.data.toList [] []) v) (h : Tb W) => printN_any hx (by simp [Fine, FineL]; omega) h (by rw [p1, ← hQ]; omega))
  rw [p1, p2] at PR
  rw [← hQ] at QU PR hq
  have PA := Lib.hid (fun (W : World) (v : Value) (hb : BytesIn W v Q) (h : Tb W) => parseN_any hb hQl h)
  rw [hq] at PA
  have cvs : ∀ (W : World) (s : ByteArray), (convert 9 26 (.string s)).run Tryd.prog W = .ok (.slice (some ⟨W.heap.size, 0, none⟩) s.size (grownCap W s.size 0 5)) (Lib.bytesWorld W 5 s) := fun W s => Lib.run_convert_string_bytes W _ _ _ s Tryd.underlying9 Tryd.underlying26 Tryd.underlying5
  have BC := Lib.hid (fun W => BytesIn.conv W ⟨Q.toArray⟩)
  have CO := Lib.hid (fun W => bytesW_only W 5 ⟨Q.toArray⟩)
  have SB := Lib.hid (txt_back s)
  have i1 : ¬ (4000 : Int) < (s.size : Int) := by omega
  have GI := Lib.hid (show ∀ W, GIn W (.mk 4 s.data.toList [] []) (.agg #[.int .i64 4, .string s, .slice none 0 0, .slice none 0 0]) from fun W => by
    unfold GIn
    refine ⟨.slice none 0 0, .slice none 0 0, ?_, ⟨none, 0, rfl, Or.inl rfl⟩, ⟨none, 0, rfl, Or.inl rfl⟩⟩
    rw [show txt s.data.toList = .string s by show Value.string _ = _; rw [txt_back]])
  clear hT p1 p2 hv hq hql hQ hl hQs
  go_enter Tryd.func6, Tryd.ntmps6
  go_wp2_with fail
  refine (FI.out _ HT.out).mono ?_
  rintro r w1 ⟨rfl, t1⟩
  have H1 := Lib.hid t1
  clear t1
  go_wp2_with fail
  refine (QU.out _).mono ?_
  rintro r w2 ⟨rfl, t2⟩
  have H2 := Lib.hid (H1.out.trans t2)
  clear t2
  go_wp2_with fail
  refine (PA.out _ _ (BC.out w2) (HT.out.only (H2.out.trans (CO.out _)))).mono ?_
  rintro r w3 ⟨t3, v, rfl, hv⟩
  unfold VRep at hv
  have hv2 : v = .agg #[.int .i64 4, .string s, .slice none 0 0, .slice none 0 0] := by
    rw [hv]
    show Value.agg #[.int .i64 4, .string ⟨s.data.toList.toArray⟩, .slice none 0 0, .slice none 0 0] = _
    rw [txt_back]
  clear hv
  subst hv2
  have H3 := Lib.hid (((H2.out.trans (CO.out _)).trans t3).alloc (.cells #[.int .i64 4, .string s, .slice none 0 0, .slice none 0 0] 25))
  have O3 := Lib.hid (Own4.new w3 (.int .i64 4) (.string s) (.slice none 0 0) (.slice none 0 0) 25)
  clear t3
  go_wp2_with fail
  refine (OT.out _).mono ?_
  rintro r w4 ⟨rfl, t4⟩
  have H4 := Lib.hid (H3.out.trans t4)
  have O4 := Lib.hid (O3.out.only t4)
  clear t4
  go_wp2_with fail
  refine (PR.out _ _ (GI.out _) (HT.out.only H4.out)).mono ?_
  rintro r w5 ⟨⟨bv, rfl, hb, -⟩, t5⟩
  have hb := hb trivial
  have H5 := Lib.hid (H4.out.trans t5)
  have o5 := O4.out.only t5
  obtain ⟨⟨c1, c2, c3, c4⟩, -⟩ := o5.all
  have cs := bytes_string hb
  have hsh : ∃ sp cap, bv = .slice sp Q.length cap := by
    rcases hb.form with ⟨rfl, h⟩ | ⟨g, cap, rfl, -, -⟩
    · exact ⟨none, 0, by rw [h]; rfl⟩
    · exact ⟨_, _, rfl⟩
  obtain ⟨sp, cap, rfl⟩ := hsh
  clear t5 hb o5
  go_wp2_with (go_at_call 11; refine (NM.out _ _).mono ?_; rintro r w'' ⟨rfl, rfl⟩)
  go_ret
  exact ⟨rfl, H5.out⟩

set_option maxRecDepth 100000 in
set_option maxHeartbeats 3200000 in
theorem quotes_bad {s : ByteArray} (hs : s.size ≤ 4000) (hv : Lib.validD s.data.toList = false) {w : World} (hT : Tb w) : Calls Tryd.prog 6 #[.string s] w fun e w' => e = .returned (.bool true) ∧ Only w w' := by
  have hl : s.data.toList.length ≤ 4000 := by rw [data_len]; exact hs
  obtain ⟨p1, p2⟩ := printE_str (l := s.data.toList) (by omega)
  rw [if_neg (by rw [hv]; decide)] at p2
  obtain ⟨q, hq⟩ := (parse_quoted s.data.toList).2 hv
  have hql := quoL_len s.data.toList
  obtain ⟨Q, hQ⟩ : ∃ Q, Q = quoteB s.data.toList := ⟨_, rfl⟩
  have hQl : Q.length ≤ 65536 := by rw [hQ]; unfold quoteB; rw [List.length_cons, List.length_append]; simp; omega
  have HT := Lib.hid hT
  have NM := Lib.hid numJ_any
  have FI := Lib.hid (fun W (h : Tb W) => first7_any h)
  have QU := Lib.hid (fun W => quote_any (s := s) (by omega) W)
  have OT := Lib.hid (fun W => ofText_any (s := s) (by omega) W)
  have PR := Lib.hid (fun (W : World) (v : Value) (hx : GIn W (.mk 4 s.data.toList [] []) v) (h : Tb W) => printN_any hx (by simp [Fine, FineL]; omega) h (by rw [p1, ← hQ]; omega))
  rw [p1, p2] at PR
  rw [← hQ] at QU PR hq
  have PA := Lib.hid (fun (W : World) (v : Value) (hb : BytesIn W v Q) (h : Tb W) => parseN_any hb hQl h)
  rw [hq] at PA
  have cvs : ∀ (W : World) (s : ByteArray), (convert 9 26 (.string s)).run Tryd.prog W = .ok (.slice (some ⟨W.heap.size, 0, none⟩) s.size (grownCap W s.size 0 5)) (Lib.bytesWorld W 5 s) := fun W s => Lib.run_convert_string_bytes W _ _ _ s Tryd.underlying9 Tryd.underlying26 Tryd.underlying5
  have BC := Lib.hid (fun W => BytesIn.conv W ⟨Q.toArray⟩)
  have CO := Lib.hid (fun W => bytesW_only W 5 ⟨Q.toArray⟩)
  have i1 : ¬ (4000 : Int) < (s.size : Int) := by omega
  have GI := Lib.hid (show ∀ W, GIn W (.mk 4 s.data.toList [] []) (.agg #[.int .i64 4, .string s, .slice none 0 0, .slice none 0 0]) from fun W => by
    unfold GIn
    refine ⟨.slice none 0 0, .slice none 0 0, ?_, ⟨none, 0, rfl, Or.inl rfl⟩, ⟨none, 0, rfl, Or.inl rfl⟩⟩
    rw [show txt s.data.toList = .string s by show Value.string _ = _; rw [txt_back]])
  clear hT p1 p2 hv hq hql hQ hl
  go_enter Tryd.func6, Tryd.ntmps6
  go_wp2_with fail
  refine (FI.out _ HT.out).mono ?_
  rintro r w1 ⟨rfl, t1⟩
  have H1 := Lib.hid t1
  clear t1
  go_wp2_with fail
  refine (QU.out _).mono ?_
  rintro r w2 ⟨rfl, t2⟩
  have H2 := Lib.hid (H1.out.trans t2)
  clear t2
  go_wp2_with fail
  refine (PA.out _ _ (BC.out w2) (HT.out.only (H2.out.trans (CO.out _)))).mono ?_
  rintro r w3 ⟨t3, a', -, rfl⟩
  have H3 := Lib.hid (((H2.out.trans (CO.out _)).trans t3).alloc (.cells #[.int .i64 0, .string ⟨#[]⟩, .slice none 0 0, .slice none 0 0] 25))
  clear t3
  go_wp2_with fail
  refine (OT.out _).mono ?_
  rintro r w4 ⟨rfl, t4⟩
  have H4 := Lib.hid (H3.out.trans t4)
  clear t4
  go_wp2_with fail
  refine (PR.out _ _ (GI.out _) (HT.out.only H4.out)).mono ?_
  rintro r w5 ⟨⟨bv, rfl, -, hb⟩, t5⟩
  obtain rfl := hb (by decide)
  have H5 := Lib.hid (H4.out.trans t5)
  clear t5
  go_wp2_with (go_at_call 11; refine (NM.out _ _).mono ?_; rintro r w'' ⟨rfl, rfl⟩)
  go_ret
  exact ⟨rfl, H5.out⟩

theorem jsonQuotes_any (s : ByteArray) {w : World} (hT : Tb w) : Calls Tryd.prog 6 #[.string s] w fun e w' => e = .returned (.bool true) ∧ Only w w' := by
  by_cases hs : s.size ≤ 4000
  · cases hv : Lib.validD s.data.toList
    · exact quotes_bad hs hv hT
    · exact quotes_good hs hv hT
  · exact quotes_long (by omega) hT
end Go.Proofs.YtfcplpejifmohaaDoor
