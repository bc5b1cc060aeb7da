/-
  WHAT A WRITE MAKES OF A FILE SYSTEM IN MEMORY: the head's cells; one file's; a file more; a file fewer; a file under another name.
-/
import Derived.Test.YtjjajnfkngfpjaaGreatDoorMem
namespace Go.Proofs.YtjjajnfkngfpjaaGreatDoor
open Go.RowKit Go.Maps Go.WideMaps

section
variable {w w' : World} {p : Nat} {S S' : Fsp.Fs} {c c' : Bool} {Q : Nat → Prop} {mo : Option Nat} {pl : List UInt8 → Pl}

/-- a row's block holds bytes -/
theorem rowBlock {w : World} {sv : Value} {f : Fsp.File} {fb r : Nat} (h : FileAt w fb sv f) (hr : sv.ownBlock = some r) : ∃ cur, w.heap[r]? = some (.cells cur 5 (0, 0)) := by
  rcases h.2.2 with ⟨rfl, _⟩ | ⟨g, cap, cur, rfl, _, hh, _⟩
  · cases hr
  · simp [Value.ownBlock] at hr; subst hr; exact ⟨cur, hh⟩

theorem RepX.p_ne_mb (h : RepX w p S c Q mo pl) {mb : Nat} (e : mo = some mb) : p ≠ mb := by
  subst e
  obtain ⟨D, ⟨es, clock, hb, _⟩, _⟩ := h.map
  have hh := h.head
  intro e; rw [e, hb] at hh; cases hh

theorem RepX.p_ne_fb (h : RepX w p S c Q mo pl) {n : List UInt8} {f : Fsp.File} (hf : Fsp.find S.L n = some f) : p ≠ (pl n).fb := by
  have h1 := (h.file n f hf).1
  have hh := h.head
  intro e; rw [e, h1] at hh; simp at hh

theorem RepX.p_ne_row (h : RepX w p S c Q mo pl) {n : List UInt8} {f : Fsp.File} (hf : Fsp.find S.L n = some f) {r : Nat} (hr : (pl n).sv.ownBlock = some r) : p ≠ r := by
  obtain ⟨cur, h1⟩ := rowBlock (h.file n f hf) hr
  have hh := h.head
  intro e; rw [e, h1] at hh; simp at hh

theorem RepX.fb_ne_mb (h : RepX w p S c Q mo pl) {n : List UInt8} {f : Fsp.File} (hf : Fsp.find S.L n = some f) {mb : Nat} (e : mo = some mb) : (pl n).fb ≠ mb := by
  subst e
  obtain ⟨D, ⟨es, clock, hb, _⟩, _⟩ := h.map
  have h1 := (h.file n f hf).1
  intro e; rw [e, hb] at h1; cases h1

theorem RepX.row_ne_mb (h : RepX w p S c Q mo pl) {n : List UInt8} {f : Fsp.File} (hf : Fsp.find S.L n = some f) {r : Nat} (hr : (pl n).sv.ownBlock = some r) {mb : Nat} (e : mo = some mb) : r ≠ mb := by
  subst e
  obtain ⟨D, ⟨es, clock, hb, _⟩, _⟩ := h.map
  obtain ⟨cur, h1⟩ := rowBlock (h.file n f hf) hr
  intro e; rw [e, hb] at h1; cases h1

theorem RepX.fb_ne_row (h : RepX w p S c Q mo pl) {n m : List UInt8} {f g : Fsp.File} (hf : Fsp.find S.L n = some f) (hg : Fsp.find S.L m = some g) {r : Nat} (hr : (pl m).sv.ownBlock = some r) : (pl n).fb ≠ r := by
  have h1 := (h.file n f hf).1
  obtain ⟨cur, h2⟩ := rowBlock (h.file m g hg) hr
  intro e; rw [e, h2] at h1; simp at h1

/-- the head's cells of a state -/
abbrev headOf (S : Fsp.Fs) (c : Bool) (mo : Option Nat) : Obj :=
  .cells #[.map mo, .int .i64 (S.room : Int), .int .i64 (Fsp.usedOf S.L : Int), .int .i64 (S.steps : Int), .int .i64 (S.armed : Int), .bool S.down, .bool c] 67 (0, 0)

/-- only the head has turned -/
theorem RepX.setHead (h : RepX w p S c Q mo pl) (ht : Turn (fun b => b = p) w w') (hh : w'.heap[p]? = some (headOf S' c' mo)) (hL : S'.L = S.L) (hg : Fsp.Good S') : RepX w' p S' c' Q mo pl :=
  { good := hg
    head := hh
    map := by rw [hL]; exact h.map.turned ht (fun mb e e2 => h.p_ne_mb e e2.symm)
    file := fun n f hf => by
      rw [hL] at hf
      exact (h.file n f hf).turned ht (fun e => h.p_ne_fb hf e.symm) (fun r hr e => h.p_ne_row hf hr e.symm)
    apartF := by rw [hL]; exact h.apartF
    apartR := by rw [hL]; exact h.apartR
    inP := h.inP
    inM := h.inM
    inF := by rw [hL]; exact h.inF
    inR := by rw [hL]; exact h.inR
    lt := fun b hb => Nat.lt_of_lt_of_le (h.lt b hb) ht.size }

def setPl (pl : List UInt8 → Pl) (n : List UInt8) (x : Pl) : List UInt8 → Pl := fun m => if m = n then x else pl m
theorem setPl_same (pl : List UInt8 → Pl) (n : List UInt8) (x : Pl) : setPl pl n x n = x := by simp [setPl]
theorem setPl_other (pl : List UInt8 → Pl) {n m : List UInt8} (h : m ≠ n) (x : Pl) : setPl pl n x m = pl m := by simp [setPl, h]

theorem isSome_put {L : List (List UInt8 × Fsp.File)} {n m : List UInt8} {f : Fsp.File} (h : (Fsp.find (Fsp.put L n f) m).isSome) (hm : m ≠ n) : (Fsp.find L m).isSome := by
  rw [Fsp.find_put_other L hm] at h; exact h

/-- one file has turned -/
theorem RepX.setFile (h : RepX w p S c Q mo pl) {n : List UInt8} {f f' : Fsp.File} {sv' : Value} (hf : Fsp.find S.L n = some f)
    (ht : Turn (fun b => b = p ∨ b = (pl n).fb ∨ (pl n).sv.ownBlock = some b) w w') (hh : w'.heap[p]? = some (headOf S' c' mo)) (hL : S'.L = Fsp.put S.L n f') (hg : Fsp.Good S')
    (hfile : FileAt w' (pl n).fb sv' f') (hnew : ∀ r, sv'.ownBlock = some r → (pl n).sv.ownBlock = some r ∨ w.heap.size ≤ r) : RepX w' p S' c' (Grow Q w w') mo (setPl pl n ⟨(pl n).fb, sv'⟩) := by
  have hsome : (Fsp.find S.L n).isSome := by rw [hf]; rfl
  have hrow : ∀ r, sv'.ownBlock = some r → r < w'.heap.size := fun r hr => by
    obtain ⟨cur, h1⟩ := rowBlock hfile hr
    exact (Array.getElem?_eq_some_iff.1 h1).1
  have oldrow : ∀ m, (Fsp.find S.L m).isSome → ∀ r, (pl m).sv.ownBlock = some r → r < w.heap.size := fun m hm r hr => h.lt r (h.inR m hm r hr)
  refine { good := hg, head := hh, map := ?_, file := ?_, apartF := ?_, apartR := ?_, inP := Grow.old h.inP, inM := fun mb e => Grow.old (h.inM mb e), inF := ?_, inR := ?_, lt := ?_ }
  · cases mo with
    | none =>
      have e : S.L = [] := h.map
      rw [e] at hf; simp [Fsp.find] at hf
    | some mb =>
      obtain ⟨D, hown, hag⟩ := h.map
      refine ⟨D, ?_, ⟨fun m => ?_, fun m g hm z => ?_, ?_⟩⟩
      · have e : S'.L.length = S.L.length := by rw [hL, Fsp.length_put _ h.good.1, if_pos hsome]
        rw [e]
        exact ownsMap_turned hown ht (fun e => by
          rcases e with e | e | e
          · exact h.p_ne_mb rfl e.symm
          · exact h.fb_ne_mb hf rfl e.symm
          · exact h.row_ne_mb hf e rfl rfl)
      · rw [hag.has m, hL]
        by_cases e : m = n
        · subst e; rw [Fsp.find_put_same, hf]; rfl
        · rw [Fsp.find_put_other _ e]
      · rw [hL] at hm
        by_cases e : m = n
        · subst e; rw [setPl_same]; exact hag.at_ _ f hf z
        · rw [setPl_other _ e]; rw [Fsp.find_put_other _ e] at hm; exact hag.at_ _ g hm z
      · rw [hag.size, hL, Fsp.length_put _ h.good.1, if_pos hsome]
  · intro m g hm
    rw [hL] at hm
    by_cases e : m = n
    · subst e
      rw [Fsp.find_put_same] at hm
      cases hm
      rw [setPl_same]; exact hfile
    · rw [Fsp.find_put_other _ e] at hm
      rw [setPl_other _ e]
      have hm' : (Fsp.find S.L m).isSome := by rw [hm]; rfl
      refine (h.file m g hm).turned ht (fun e' => ?_) (fun r hr e' => ?_)
      · rcases e' with e' | e' | e'
        · exact h.p_ne_fb hm e'.symm
        · exact e (h.apartF m n hm' hsome e')
        · exact h.fb_ne_row hm hf e' rfl
      · rcases e' with e' | e' | e'
        · exact h.p_ne_row hm hr e'.symm
        · exact h.fb_ne_row hf hm hr e'.symm
        · exact e (h.apartR m n hm' hsome r hr e')
  · intro m k hm hk e
    rw [hL] at hm hk
    have key : ∀ x, (Fsp.find (Fsp.put S.L n f') x).isSome → (Fsp.find S.L x).isSome ∧ (setPl pl n ⟨(pl n).fb, sv'⟩ x).fb = (pl x).fb := fun x hx => by
      by_cases ex : x = n
      · subst ex; rw [setPl_same]; exact ⟨hsome, rfl⟩
      · rw [setPl_other _ ex]; exact ⟨isSome_put hx ex, rfl⟩
    rw [(key m hm).2, (key k hk).2] at e
    exact h.apartF m k (key m hm).1 (key k hk).1 e
  · intro m k hm hk r hr1 hr2
    rw [hL] at hm hk
    by_cases em : m = n
    · by_cases ek : k = n
      · rw [em, ek]
      · subst em
        rw [setPl_same] at hr1
        rw [setPl_other _ ek] at hr2
        have hk' := isSome_put hk ek
        rcases hnew r hr1 with h1 | h1
        · exact absurd (h.apartR k m hk' hsome r hr2 h1) ek
        · exact absurd (oldrow k hk' r hr2) (by omega)
    · by_cases ek : k = n
      · subst ek
        rw [setPl_same] at hr2
        rw [setPl_other _ em] at hr1
        have hm' := isSome_put hm em
        rcases hnew r hr2 with h1 | h1
        · exact absurd (h.apartR m k hm' hsome r hr1 h1) em
        · exact absurd (oldrow m hm' r hr1) (by omega)
      · rw [setPl_other _ em] at hr1
        rw [setPl_other _ ek] at hr2
        exact h.apartR m k (isSome_put hm em) (isSome_put hk ek) r hr1 hr2
  · intro m hm
    rw [hL] at hm
    by_cases e : m = n
    · subst e; rw [setPl_same]; exact Grow.old (h.inF _ hsome)
    · rw [setPl_other _ e]; exact Grow.old (h.inF _ (isSome_put hm e))
  · intro m hm r hr
    rw [hL] at hm
    by_cases e : m = n
    · subst e
      rw [setPl_same] at hr
      rcases hnew r hr with h1 | h1
      · exact Grow.old (h.inR _ hsome r h1)
      · exact Grow.new h1 (hrow r hr)
    · rw [setPl_other _ e] at hr; exact Grow.old (h.inR _ (isSome_put hm e) r hr)
  · intro b hb
    rcases hb with hb | hb
    · exact Nat.lt_of_lt_of_le (h.lt b hb) ht.size
    · exact hb.2

/-- a file more, at a name that was free -/
theorem RepX.addFile (h : RepX w p S c Q mo pl) {n : List UInt8} {f' : Fsp.File} {sv' : Value} {fb mb : Nat} {D : DataW Unit} {k : Nat} (hf : Fsp.find S.L n = none)
    (ht : Turn (fun b => b = p ∨ mo = some b) w w') (hh : w'.heap[p]? = some (headOf S' c' (some mb))) (hL : S'.L = Fsp.put S.L n f') (hg : Fsp.Good S')
    (hmb : mo = some mb ∨ w.heap.size ≤ mb) (hown : w'.ownsMap Tryz.prog 9 ptrElem mb k D) (hag : Agree D (Fsp.put S.L n f') (setPl pl n ⟨fb, sv'⟩))
    (hfile : FileAt w' fb sv' f') (hfb : w.heap.size ≤ fb) (hnew : ∀ r, sv'.ownBlock = some r → w.heap.size ≤ r) : RepX w' p S' c' (Grow Q w w') (some mb) (setPl pl n ⟨fb, sv'⟩) := by
  have hrow : ∀ r, sv'.ownBlock = some r → r < w'.heap.size := fun r hr => by
    obtain ⟨cur, h1⟩ := rowBlock hfile hr
    exact (Array.getElem?_eq_some_iff.1 h1).1
  have oldrow : ∀ m, (Fsp.find S.L m).isSome → ∀ r, (pl m).sv.ownBlock = some r → r < w.heap.size := fun m hm r hr => h.lt r (h.inR m hm r hr)
  have oldfb : ∀ m, (Fsp.find S.L m).isSome → (pl m).fb < w.heap.size := fun m hm => h.lt _ (h.inF m hm)
  refine { good := hg, head := hh, map := ?_, file := ?_, apartF := ?_, apartR := ?_, inP := Grow.old h.inP, inM := ?_, inF := ?_, inR := ?_, lt := ?_ }
  · refine ⟨D, ?_, ?_⟩
    · have := ownsMap_resize hown
      rw [hag.size, ← hL] at this
      exact this
    · rw [hL]; exact hag
  · intro m g hm
    rw [hL] at hm
    by_cases e : m = n
    · subst e
      rw [Fsp.find_put_same] at hm
      cases hm
      rw [setPl_same]; exact hfile
    · rw [Fsp.find_put_other _ e] at hm
      rw [setPl_other _ e]
      refine (h.file m g hm).turned ht (fun e' => ?_) (fun r hr e' => ?_)
      · rcases e' with e' | e'
        · exact h.p_ne_fb hm e'.symm
        · exact h.fb_ne_mb hm e' rfl
      · rcases e' with e' | e'
        · exact h.p_ne_row hm hr e'.symm
        · exact h.row_ne_mb hm hr e' rfl
  · intro m k hm hk e
    rw [hL] at hm hk
    by_cases em : m = n
    · by_cases ek : k = n
      · rw [em, ek]
      · subst em
        rw [setPl_same, setPl_other _ ek] at e
        have := oldfb k (isSome_put hk ek)
        simp only at e; omega
    · by_cases ek : k = n
      · subst ek
        rw [setPl_same, setPl_other _ em] at e
        have := oldfb m (isSome_put hm em)
        simp only at e; omega
      · rw [setPl_other _ em, setPl_other _ ek] at e
        exact h.apartF m k (isSome_put hm em) (isSome_put hk ek) e
  · intro m k hm hk r hr1 hr2
    rw [hL] at hm hk
    by_cases em : m = n
    · by_cases ek : k = n
      · rw [em, ek]
      · subst em
        rw [setPl_same] at hr1
        rw [setPl_other _ ek] at hr2
        have h1 := hnew r hr1
        exact absurd (oldrow k (isSome_put hk ek) r hr2) (by omega)
    · by_cases ek : k = n
      · subst ek
        rw [setPl_same] at hr2
        rw [setPl_other _ em] at hr1
        have h1 := hnew r hr2
        exact absurd (oldrow m (isSome_put hm em) r hr1) (by omega)
      · rw [setPl_other _ em] at hr1
        rw [setPl_other _ ek] at hr2
        exact h.apartR m k (isSome_put hm em) (isSome_put hk ek) r hr1 hr2
  · intro mb' e
    cases e
    rcases hmb with e | e
    · exact Grow.old (h.inM _ e)
    · exact Grow.new e hown.lt
  · intro m hm
    rw [hL] at hm
    by_cases e : m = n
    · subst e; rw [setPl_same]; exact Grow.new hfb hfile.lt
    · rw [setPl_other _ e]; exact Grow.old (h.inF _ (isSome_put hm e))
  · intro m hm r hr
    rw [hL] at hm
    by_cases e : m = n
    · subst e
      rw [setPl_same] at hr
      exact Grow.new (hnew r hr) (hrow r hr)
    · rw [setPl_other _ e] at hr; exact Grow.old (h.inR _ (isSome_put hm e) r hr)
  · intro b hb
    rcases hb with hb | hb
    · exact Nat.lt_of_lt_of_le (h.lt b hb) ht.size
    · exact hb.2

theorem isSome_del {L : List (List UInt8 × Fsp.File)} (hs : Fsp.Sorted L) {n m : List UInt8} (h : (Fsp.find (Fsp.del L n) m).isSome) : m ≠ n ∧ (Fsp.find L m).isSome := by
  by_cases e : m = n
  · subst e; rw [Fsp.find_del_same hs] at h; cases h
  · rw [Fsp.find_del_other _ e] at h; exact ⟨e, h⟩

theorem string_ne {m n : List UInt8} (h : m ≠ n) : Lit.string m ≠ Lit.string n := fun e => h (by simpa using e)

theorem Agree.del {D : DataW Unit} {L : List (List UInt8 × Fsp.File)} (h : Agree D L pl) (hs : Fsp.Sorted L) (hD : Tidy D) (n : List UInt8) : Agree (D.del (.string n)) (Fsp.del L n) pl := by
  refine ⟨fun m => ?_, fun m f hm z => ?_, ?_⟩
  · by_cases e : m = n
    · subst e; rw [has_del_same, Fsp.find_del_same hs]; rfl
    · rw [has_del_other (string_ne e), Fsp.find_del_other _ e]; exact h.has m
  · have e : m ≠ n := (isSome_del hs (by rw [hm]; rfl)).1
    rw [Fsp.find_del_other _ e] at hm
    rw [atKey_del_other (string_ne e)]
    exact h.at_ m f hm z
  · have h1 := size_del (k := .string n) hD
    have h2 := Fsp.length_del L n
    rw [h.has n, h.size] at h1
    omega

theorem isKey (n : List UInt8) : WideAt.IsKeyLit (.string n) := by simp [WideAt.IsKeyLit]

theorem Agree.put {D : DataW Unit} {L : List (List UInt8 × Fsp.File)} (h : Agree D L pl) (hs : Fsp.Sorted L) (hD : Tidy D) (n : List UInt8) (f : Fsp.File) (x : Pl) : Agree (D.put (.string n) (fbLit x.fb)) (Fsp.put L n f) (setPl pl n x) := by
  refine ⟨fun m => ?_, fun m g hm z => ?_, ?_⟩
  · by_cases e : m = n
    · subst e; rw [has_put_same hD.isMap (isKey _), Fsp.find_put_same]; rfl
    · rw [has_put_other (string_ne e), Fsp.find_put_other _ e]; exact h.has m
  · by_cases e : m = n
    · subst e; rw [atKey_put_same hD.isMap (isKey _), setPl_same]
    · rw [Fsp.find_put_other _ e] at hm
      rw [atKey_put_other (string_ne e), setPl_other _ e]
      exact h.at_ m g hm z
  · rw [size_put hD, Fsp.length_put _ hs, h.has n, h.size]

/-- a file fewer -/
theorem RepX.delFile {mb : Nat} (h : RepX w p S c Q (some mb) pl) {n : List UInt8} {D : DataW Unit} {k : Nat} (ht : Turn (fun b => b = p ∨ b = mb) w w') (hh : w'.heap[p]? = some (headOf S' c' (some mb)))
    (hL : S'.L = Fsp.del S.L n) (hg : Fsp.Good S') (hown : w'.ownsMap Tryz.prog 9 ptrElem mb k D) (hag : Agree D (Fsp.del S.L n) pl) : RepX w' p S' c' Q (some mb) pl := by
  have hs := h.good.1
  refine { good := hg, head := hh, map := ?_, file := ?_, apartF := ?_, apartR := ?_, inP := h.inP, inM := h.inM, inF := ?_, inR := ?_, lt := fun b hb => Nat.lt_of_lt_of_le (h.lt b hb) ht.size }
  · refine ⟨D, ?_, ?_⟩
    · have := ownsMap_resize hown
      rw [hag.size, ← hL] at this
      exact this
    · rw [hL]; exact hag
  · intro m g hm
    rw [hL] at hm
    have e := (isSome_del hs (n := n) (m := m) (by rw [hm]; rfl)).1
    rw [Fsp.find_del_other _ e] at hm
    refine (h.file m g hm).turned ht (fun e' => ?_) (fun r hr e' => ?_)
    · rcases e' with e' | e'
      · exact h.p_ne_fb hm e'.symm
      · exact h.fb_ne_mb hm rfl e'
    · rcases e' with e' | e'
      · exact h.p_ne_row hm hr e'.symm
      · exact h.row_ne_mb hm hr rfl e'
  · intro m k' hm hk e
    rw [hL] at hm hk
    exact h.apartF m k' (isSome_del hs hm).2 (isSome_del hs hk).2 e
  · intro m k' hm hk
    rw [hL] at hm hk
    exact h.apartR m k' (isSome_del hs hm).2 (isSome_del hs hk).2
  · intro m hm
    rw [hL] at hm
    exact h.inF m (isSome_del hs hm).2
  · intro m hm
    rw [hL] at hm
    exact h.inR m (isSome_del hs hm).2

/-- a file under another name, one that was free -/
theorem RepX.moveFile {mb : Nat} (h : RepX w p S c Q (some mb) pl) {a b : List UInt8} {f : Fsp.File} {D : DataW Unit} {k : Nat} (ht : Turn (fun x => x = mb) w w')
    (hfa : Fsp.find S.L a = some f) (hfb : Fsp.find S.L b = none) (hh : w'.heap[p]? = some (headOf S' c' (some mb))) (hL : S'.L = Fsp.put (Fsp.del S.L a) b f) (hg : Fsp.Good S')
    (hown : w'.ownsMap Tryz.prog 9 ptrElem mb k D) (hag : Agree D (Fsp.put (Fsp.del S.L a) b f) (setPl pl b (pl a))) : RepX w' p S' c' Q (some mb) (setPl pl b (pl a)) := by
  have hs := h.good.1
  have hsa : (Fsp.find S.L a).isSome := by rw [hfa]; rfl
  -- whoever is there now was there: b as a, any other as itself
  have key : ∀ m, (Fsp.find S'.L m).isSome → ∃ m0, (Fsp.find S.L m0).isSome ∧ setPl pl b (pl a) m = pl m0 ∧ Fsp.find S'.L m = Fsp.find S.L m0 ∧ ((m = b ∧ m0 = a) ∨ (m ≠ b ∧ m0 = m ∧ m ≠ a)) := by
    intro m hm
    rw [hL] at hm ⊢
    by_cases e : m = b
    · subst e
      exact ⟨a, hsa, setPl_same _ _ _, by rw [Fsp.find_put_same, hfa], Or.inl ⟨rfl, rfl⟩⟩
    · have h1 := isSome_del hs (isSome_put hm e)
      exact ⟨m, h1.2, setPl_other _ e _, by rw [Fsp.find_put_other _ e, Fsp.find_del_other _ h1.1], Or.inr ⟨e, rfl, h1.1⟩⟩
  refine { good := hg, head := hh, map := ?_, file := ?_, apartF := ?_, apartR := ?_, inP := h.inP, inM := h.inM, inF := ?_, inR := ?_, lt := fun b hb => Nat.lt_of_lt_of_le (h.lt b hb) ht.size }
  · refine ⟨D, ?_, ?_⟩
    · have := ownsMap_resize hown
      rw [hag.size, ← hL] at this
      exact this
    · rw [hL]; exact hag
  · intro m g hm
    obtain ⟨m0, h1, h2, h3, _⟩ := key m (by rw [hm]; rfl)
    rw [h2]
    rw [h3] at hm
    exact (h.file m0 g hm).turned ht (fun e' => h.fb_ne_mb hm rfl e') (fun r hr e' => h.row_ne_mb hm hr rfl e')
  · intro m k' hm hk e
    obtain ⟨m0, h1, h2, _, h4⟩ := key m hm
    obtain ⟨k0, g1, g2, _, g4⟩ := key k' hk
    rw [h2, g2] at e
    have e0 := h.apartF m0 k0 h1 g1 e
    rcases h4 with ⟨rfl, rfl⟩ | ⟨_, rfl, h5⟩ <;> rcases g4 with ⟨rfl, rfl⟩ | ⟨_, rfl, g5⟩
    · rfl
    · exact absurd e0.symm g5
    · exact absurd e0 h5
    · exact e0
  · intro m k' hm hk r hr1 hr2
    obtain ⟨m0, h1, h2, _, h4⟩ := key m hm
    obtain ⟨k0, g1, g2, _, g4⟩ := key k' hk
    rw [h2] at hr1
    rw [g2] at hr2
    have e0 := h.apartR m0 k0 h1 g1 r hr1 hr2
    rcases h4 with ⟨rfl, rfl⟩ | ⟨_, rfl, h5⟩ <;> rcases g4 with ⟨rfl, rfl⟩ | ⟨_, rfl, g5⟩
    · rfl
    · exact absurd e0.symm g5
    · exact absurd e0 h5
    · exact e0
  · intro m hm
    obtain ⟨m0, h1, h2, _⟩ := key m hm
    rw [h2]; exact h.inF m0 h1
  · intro m hm
    obtain ⟨m0, h1, h2, _⟩ := key m hm
    rw [h2]; exact h.inR m0 h1

end
end Go.Proofs.YtjjajnfkngfpjaaGreatDoor
