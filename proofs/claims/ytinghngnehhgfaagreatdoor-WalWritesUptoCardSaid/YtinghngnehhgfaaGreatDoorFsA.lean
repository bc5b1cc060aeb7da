/-
  PARTS: Plain, Plain2, Plain3.
-/
/-
  PLAIN: what a file system is, as lists, and what each of its calls makes of it. No program, no memory.
-/
namespace Go.Proofs.YtinghngnehhgfaaGreatDoor.Fsp

structure File where
  data : List UInt8
  synced : Nat

/-- files by rising names -/
structure Fs where
  room : Nat
  steps : Nat
  armed : Nat
  down : Bool
  L : List (List UInt8 × File)

def find : List (List UInt8 × File) → List UInt8 → Option File
  | [], _ => none
  | x :: r, n => if x.1 = n then some x.2 else find r n

def put : List (List UInt8 × File) → List UInt8 → File → List (List UInt8 × File)
  | [], n, f => [(n, f)]
  | x :: r, n, f => if x.1 = n then (n, f) :: r else if n < x.1 then (n, f) :: x :: r else x :: put r n f

def del : List (List UInt8 × File) → List UInt8 → List (List UInt8 × File)
  | [], _ => []
  | x :: r, n => if x.1 = n then r else x :: del r n

def usedOf : List (List UInt8 × File) → Nat
  | [] => 0
  | x :: r => x.2.data.length + usedOf r

def Sorted : List (List UInt8 × File) → Prop := List.Pairwise (fun a b => a.1 < b.1)

theorem lt_irrefl' (a : List UInt8) : ¬ a < a := List.lt_irrefl a
theorem lt_trans' {a b c : List UInt8} (h : a < b) (k : b < c) : a < c := List.lt_trans h k
theorem lt_asymm' {a b : List UInt8} (h : a < b) : ¬ b < a := fun k => lt_irrefl' a (lt_trans' h k)
theorem lt_total' {a b : List UInt8} (h : a ≠ b) (k : ¬ a < b) : b < a := by
  have h1 := List.le_total a b
  rcases h1 with h1 | h1
  · rcases List.le_iff_lt_or_eq.1 h1 with h2 | h2
    · exact absurd h2 k
    · exact absurd h2 h
  · rcases List.le_iff_lt_or_eq.1 h1 with h2 | h2
    · exact h2
    · exact absurd h2.symm h

theorem find_none_of_lt {L : List (List UInt8 × File)} {n : List UInt8} (h : ∀ x ∈ L, n < x.1) : find L n = none := by
  induction L with
  | nil => rfl
  | cons x r ih =>
    have hx := h x (by simp)
    have hne : x.1 ≠ n := fun e => lt_irrefl' n (by rw [e] at hx; exact hx)
    simp only [find, if_neg hne]
    exact ih fun y hy => h y (by simp [hy])

theorem find_mem {L : List (List UInt8 × File)} {n : List UInt8} {f : File} (h : find L n = some f) : (n, f) ∈ L := by
  induction L with
  | nil => simp [find] at h
  | cons x r ih =>
    unfold find at h
    by_cases hx : x.1 = n
    · rw [if_pos hx] at h
      cases h
      rw [← hx]; simp
    · rw [if_neg hx] at h
      exact List.mem_cons_of_mem _ (ih h)

theorem mem_find {L : List (List UInt8 × File)} (hs : Sorted L) {n : List UInt8} {f : File} (h : (n, f) ∈ L) : find L n = some f := by
  induction L with
  | nil => simp at h
  | cons x r ih =>
    obtain ⟨h1, h2⟩ := List.pairwise_cons.1 hs
    rcases List.mem_cons.1 h with h | h
    · subst h; simp [find]
    · have hne : x.1 ≠ n := fun e => lt_irrefl' n (by have := h1 _ h; rw [e] at this; exact this)
      simp only [find, if_neg hne]
      exact ih h2 h

theorem find_isSome {L : List (List UInt8 × File)} {n : List UInt8} : (find L n).isSome = true ↔ n ∈ L.map (·.1) := by
  induction L with
  | nil => simp [find]
  | cons x r ih =>
    by_cases hx : x.1 = n
    · simp [find, hx]
    · simp only [find, if_neg hx, List.map_cons, List.mem_cons]
      rw [ih]
      constructor
      · exact Or.inr
      · rintro (h | h)
        · exact absurd h.symm hx
        · exact h

theorem find_put_same (L : List (List UInt8 × File)) (n : List UInt8) (f : File) : find (put L n f) n = some f := by
  induction L with
  | nil => simp [put, find]
  | cons x r ih =>
    unfold put
    by_cases hx : x.1 = n
    · simp [hx, find]
    · rw [if_neg hx]
      by_cases hl : n < x.1
      · simp [hl, find]
      · simp [hl, find, hx, ih]

theorem find_put_other (L : List (List UInt8 × File)) {n m : List UInt8} (h : m ≠ n) (f : File) : find (put L n f) m = find L m := by
  induction L with
  | nil => simp [put, find, Ne.symm h]
  | cons x r ih =>
    unfold put
    by_cases hx : x.1 = n
    · have hm : ¬ x.1 = m := fun e => h (e.symm.trans hx)
      simp [hx, find, Ne.symm h]
    · rw [if_neg hx]
      by_cases hl : n < x.1
      · simp [hl, find, Ne.symm h]
      · simp [hl, find, ih]

theorem find_del_same {L : List (List UInt8 × File)} (hs : Sorted L) (n : List UInt8) : find (del L n) n = none := by
  induction L with
  | nil => rfl
  | cons x r ih =>
    obtain ⟨h1, h2⟩ := List.pairwise_cons.1 hs
    unfold del
    by_cases hx : x.1 = n
    · rw [if_pos hx]
      exact find_none_of_lt fun y hy => by rw [← hx]; exact h1 y hy
    · rw [if_neg hx]
      simp only [find, if_neg hx]
      exact ih h2

theorem find_del_other (L : List (List UInt8 × File)) {n m : List UInt8} (h : m ≠ n) : find (del L n) m = find L m := by
  induction L with
  | nil => rfl
  | cons x r ih =>
    unfold del
    by_cases hx : x.1 = n
    · have hm : ¬ x.1 = m := fun e => h (e.symm.trans hx)
      rw [if_pos hx]
      simp only [find, if_neg hm]
    · rw [if_neg hx]
      simp only [find, ih]

theorem mem_put {L : List (List UInt8 × File)} {n : List UInt8} {f : File} {x : List UInt8 × File} (h : x ∈ put L n f) : x = (n, f) ∨ x ∈ L := by
  induction L with
  | nil => simp [put] at h; exact Or.inl h
  | cons y r ih =>
    unfold put at h
    by_cases hx : y.1 = n
    · rw [if_pos hx] at h
      rcases List.mem_cons.1 h with h | h
      · exact Or.inl h
      · exact Or.inr (by simp [h])
    · rw [if_neg hx] at h
      by_cases hl : n < y.1
      · rw [if_pos hl] at h
        rcases List.mem_cons.1 h with h | h
        · exact Or.inl h
        · exact Or.inr h
      · rw [if_neg hl] at h
        rcases List.mem_cons.1 h with h | h
        · exact Or.inr (by simp [h])
        · rcases ih h with h | h
          · exact Or.inl h
          · exact Or.inr (by simp [h])

theorem mem_del {L : List (List UInt8 × File)} {n : List UInt8} {x : List UInt8 × File} (h : x ∈ del L n) : x ∈ L := by
  induction L with
  | nil => simp [del] at h
  | cons y r ih =>
    unfold del at h
    by_cases hx : y.1 = n
    · rw [if_pos hx] at h; simp [h]
    · rw [if_neg hx] at h
      rcases List.mem_cons.1 h with h | h
      · simp [h]
      · simp [ih h]

theorem put_sorted {L : List (List UInt8 × File)} (hs : Sorted L) (n : List UInt8) (f : File) : Sorted (put L n f) := by
  induction L with
  | nil => simp [put, Sorted]
  | cons x r ih =>
    obtain ⟨h1, h2⟩ := List.pairwise_cons.1 hs
    unfold put
    by_cases hx : x.1 = n
    · rw [if_pos hx]
      exact List.pairwise_cons.2 ⟨fun y hy => by rw [← hx]; exact h1 y hy, h2⟩
    · rw [if_neg hx]
      by_cases hl : n < x.1
      · rw [if_pos hl]
        refine List.pairwise_cons.2 ⟨fun y hy => ?_, hs⟩
        rcases List.mem_cons.1 hy with h | h
        · subst h; exact hl
        · exact lt_trans' hl (h1 y h)
      · rw [if_neg hl]
        refine List.pairwise_cons.2 ⟨fun y hy => ?_, ih h2⟩
        rcases mem_put hy with h | h
        · subst h; exact lt_total' (Ne.symm hx) hl
        · exact h1 y h

theorem del_sorted {L : List (List UInt8 × File)} (hs : Sorted L) (n : List UInt8) : Sorted (del L n) := by
  induction L with
  | nil => simp [del, Sorted]
  | cons x r ih =>
    obtain ⟨h1, h2⟩ := List.pairwise_cons.1 hs
    unfold del
    by_cases hx : x.1 = n
    · rw [if_pos hx]; exact h2
    · rw [if_neg hx]
      exact List.pairwise_cons.2 ⟨fun y hy => h1 y (mem_del hy), ih h2⟩

theorem length_put (L : List (List UInt8 × File)) (hs : Sorted L) (n : List UInt8) (f : File) : (put L n f).length = if (find L n).isSome then L.length else L.length + 1 := by
  induction L with
  | nil => simp [put, find]
  | cons x r ih =>
    obtain ⟨h1, h2⟩ := List.pairwise_cons.1 hs
    unfold put
    by_cases hx : x.1 = n
    · simp [hx, find]
    · rw [if_neg hx]
      by_cases hl : n < x.1
      · have h0 : find r n = none := find_none_of_lt fun y hy => lt_trans' hl (h1 y hy)
        simp [hl, find, hx, h0]
      · simp only [if_neg hl, List.length_cons, ih h2, find, if_neg hx]
        split <;> omega

theorem length_del (L : List (List UInt8 × File)) (n : List UInt8) : (del L n).length + (if (find L n).isSome then 1 else 0) = L.length := by
  induction L with
  | nil => simp [del, find]
  | cons x r ih =>
    unfold del
    by_cases hx : x.1 = n
    · simp [hx, find]
    · simp only [if_neg hx, List.length_cons, find]
      omega

theorem used_put_some {L : List (List UInt8 × File)} {n : List UInt8} {g : File} (hs : Sorted L) (h : find L n = some g) (f : File) : usedOf (put L n f) + g.data.length = usedOf L + f.data.length := by
  induction L with
  | nil => simp [find] at h
  | cons x r ih =>
    obtain ⟨h1, h2⟩ := List.pairwise_cons.1 hs
    unfold put
    by_cases hx : x.1 = n
    · simp [find, hx] at h
      subst h
      simp [hx, usedOf]; omega
    · rw [if_neg hx]
      simp only [find, if_neg hx] at h
      have hl : ¬ n < x.1 := fun hl => by
        have : find r n = none := find_none_of_lt fun y hy => lt_trans' hl (h1 y hy)
        rw [this] at h; cases h
      have := ih h2 h
      simp only [if_neg hl, usedOf]; omega

theorem used_put_none {L : List (List UInt8 × File)} {n : List UInt8} (h : find L n = none) (f : File) : usedOf (put L n f) = usedOf L + f.data.length := by
  induction L with
  | nil => simp [put, usedOf]
  | cons x r ih =>
    unfold put
    by_cases hx : x.1 = n
    · simp [find, hx] at h
    · rw [if_neg hx]
      simp only [find, if_neg hx] at h
      have := ih h
      by_cases hl : n < x.1
      · simp only [if_pos hl, usedOf]; omega
      · simp only [if_neg hl, usedOf]; omega

theorem used_del {L : List (List UInt8 × File)} {n : List UInt8} {g : File} (h : find L n = some g) : usedOf (del L n) + g.data.length = usedOf L := by
  induction L with
  | nil => simp [find] at h
  | cons x r ih =>
    unfold del
    by_cases hx : x.1 = n
    · simp [find, hx] at h
      subst h
      simp [hx, usedOf]; omega
    · simp only [find, if_neg hx] at h
      have := ih h
      simp only [if_neg hx, usedOf]; omega

theorem used_find {L : List (List UInt8 × File)} {n : List UInt8} {g : File} (h : find L n = some g) : g.data.length ≤ usedOf L := by
  have := used_del h; omega

theorem del_none {L : List (List UInt8 × File)} {n : List UInt8} (h : find L n = none) : del L n = L := by
  induction L with
  | nil => rfl
  | cons x r ih =>
    by_cases hx : x.1 = n
    · simp [find, hx] at h
    · simp only [find, if_neg hx] at h
      simp only [del, if_neg hx, ih h]

theorem put_same {L : List (List UInt8 × File)} (hs : Sorted L) {n : List UInt8} {f : File} (h : find L n = some f) : put L n f = L := by
  induction L with
  | nil => simp [find] at h
  | cons x r ih =>
    obtain ⟨h1, h2⟩ := List.pairwise_cons.1 hs
    unfold put
    by_cases hx : x.1 = n
    · rw [if_pos hx]
      simp only [find, if_pos hx, Option.some.injEq] at h
      rw [← hx, ← h]
    · rw [if_neg hx]
      simp only [find, if_neg hx] at h
      have hl : ¬ n < x.1 := fun hl => by
        have : find r n = none := find_none_of_lt fun y hy => lt_trans' hl (h1 y hy)
        rw [this] at h; cases h
      rw [if_neg hl, ih h2 h]

/-! ### names -/
def okByte (c : UInt8) : Bool := (97 ≤ c && c ≤ 122) || (48 ≤ c && c ≤ 57) || c == 45 || c == 46 || c == 47
def valid (s : List UInt8) : Bool := decide (1 ≤ s.length) && decide (s.length ≤ 100) && s.all okByte && (s.head? != some 47) && (s.getLast? != some 47)

/-! ### the calls -/
def Good (S : Fs) : Prop :=
  Sorted S.L ∧ usedOf S.L ≤ S.room ∧ S.room ≤ 67108864 ∧ S.L.length ≤ 400 ∧ S.armed ≤ 9223372036854775807 ∧ ∀ n f, find S.L n = some f → valid n = true ∧ f.synced ≤ f.data.length

def stepped (S : Fs) : Fs := if S.armed = 1 then { S with armed := 0, down := true } else { S with armed := S.armed - 1, steps := S.steps + 1 }

def create (S : Fs) (n : List UInt8) : Fs × Nat :=
  if S.down then (S, 5) else if valid n = false then (S, 1) else if (find S.L n).isSome then (S, 3) else if 400 ≤ S.L.length then (S, 4)
  else if S.armed = 1 then (stepped S, 5) else ({ stepped S with L := put S.L n ⟨[], 0⟩ }, 0)

def append (S : Fs) (n : List UInt8) (b : List UInt8) : Fs × Nat :=
  if S.down then (S, 5) else match find S.L n with
  | none => (S, 2)
  | some f => if S.room < usedOf S.L + b.length then (S, 4) else if S.armed = 1 then (stepped S, 5) else ({ stepped S with L := put S.L n ⟨f.data ++ b, f.synced⟩ }, 0)

def sync (S : Fs) (n : List UInt8) : Fs × Nat :=
  if S.down then (S, 5) else match find S.L n with
  | none => (S, 2)
  | some f => if S.armed = 1 then (stepped S, 5) else ({ stepped S with L := put S.L n ⟨f.data, f.data.length⟩ }, 0)

def truncate (S : Fs) (n : List UInt8) (k : Int) : Fs × Nat :=
  if S.down then (S, 5) else match find S.L n with
  | none => (S, 2)
  | some f => if k < 0 ∨ (f.data.length : Int) < k then (S, 6) else if S.armed = 1 then (stepped S, 5) else ({ stepped S with L := put S.L n ⟨f.data.take k.toNat, min f.synced k.toNat⟩ }, 0)

def rename (S : Fs) (a b : List UInt8) : Fs × Nat :=
  if S.down then (S, 5) else match find S.L a with
  | none => (S, 2)
  | some f => if valid b = false then (S, 1) else if S.armed = 1 then (stepped S, 5) else if a = b then (stepped S, 0) else ({ stepped S with L := put (del (del S.L b) a) b f }, 0)

def remove (S : Fs) (n : List UInt8) : Fs × Nat :=
  if S.down then (S, 5) else match find S.L n with
  | none => (S, 2)
  | some _ => if S.armed = 1 then (stepped S, 5) else ({ stepped S with L := del S.L n }, 0)

def arm (S : Fs) (k : Int) : Fs := { S with armed := k.toNat }

/-- what a crash leaves of a file, by how many bytes are to be kept -/
def torn (f : File) (k : Int) : File :=
  if f.synced < f.data.length then ⟨f.data.take (f.synced + min k.toNat (f.data.length - f.synced)), f.synced + min k.toNat (f.data.length - f.synced)⟩ else f

def crash (S : Fs) (keep : List UInt8 → Nat → Int) : Fs :=
  { S with armed := 0, down := false, L := S.L.map fun x => (x.1, torn x.2 (keep x.1 (x.2.data.length - x.2.synced))) }

def names (S : Fs) (front : List UInt8) : List (List UInt8) := (S.L.map (·.1)).filter fun n => front.isPrefixOf n

def new (room : Int) : Fs := ⟨min room.toNat 67108864, 0, 0, false, []⟩

end Go.Proofs.YtinghngnehhgfaaGreatDoor.Fsp

/-
  PLAIN: a crash, file by file.
-/
namespace Go.Proofs.YtinghngnehhgfaaGreatDoor.Fsp

/-- the first k files torn -/
def tornAt (kf : List UInt8 → Nat → Int) (x : List UInt8 × File) : List UInt8 × File := (x.1, torn x.2 (kf x.1 (x.2.data.length - x.2.synced)))
def crashTo (L : List (List UInt8 × File)) (kf : List UInt8 → Nat → Int) (k : Nat) : List (List UInt8 × File) := (L.take k).map (tornAt kf) ++ L.drop k

theorem sorted_of_names {L M : List (List UInt8 × File)} (h : L.map (·.1) = M.map (·.1)) (hs : Sorted L) : Sorted M := by
  unfold Sorted at *
  have h1 : (L.map (·.1)).Pairwise (· < ·) := List.pairwise_map.2 hs
  rw [h] at h1
  exact List.pairwise_map.1 h1

theorem crashTo_names (L : List (List UInt8 × File)) (kf : List UInt8 → Nat → Int) (k : Nat) : (crashTo L kf k).map (·.1) = L.map (·.1) := by
  unfold crashTo
  rw [List.map_append, List.map_map]
  have : ((fun x : List UInt8 × File => x.1) ∘ tornAt kf) = fun x => x.1 := rfl
  rw [this, ← List.map_append, List.take_append_drop]

theorem find_mid {A B : List (List UInt8 × File)} {x : List UInt8 × File} (hs : Sorted (A ++ x :: B)) : find (A ++ x :: B) x.1 = some x.2 :=
  mem_find hs (by simp)

theorem put_mid {A B : List (List UInt8 × File)} {x : List UInt8 × File} (hs : Sorted (A ++ x :: B)) (f : File) : put (A ++ x :: B) x.1 f = A ++ (x.1, f) :: B := by
  induction A with
  | nil => simp [put]
  | cons a A ih =>
    obtain ⟨h1, h2⟩ := List.pairwise_cons.1 hs
    have hlt : a.1 < x.1 := h1 x (by simp)
    have hne : ¬ a.1 = x.1 := fun e => lt_irrefl' _ (by rw [e] at hlt; exact hlt)
    simp only [List.cons_append, put, if_neg hne, if_neg (lt_asymm' hlt), ih h2]

theorem crashTo_mid (L : List (List UInt8 × File)) (kf : List UInt8 → Nat → Int) {k : Nat} {x : List UInt8 × File} (hx : L[k]? = some x) :
    crashTo L kf k = (L.take k).map (tornAt kf) ++ x :: L.drop (k + 1) ∧ crashTo L kf (k + 1) = (L.take k).map (tornAt kf) ++ tornAt kf x :: L.drop (k + 1) := by
  obtain ⟨hk, hx'⟩ := List.getElem?_eq_some_iff.1 hx
  unfold crashTo
  constructor
  · rw [List.drop_eq_getElem_cons hk, hx']
  · rw [List.take_succ_eq_append_getElem hk, List.map_append, hx']; simp

theorem crashTo_find {L : List (List UInt8 × File)} (hs : Sorted L) (kf : List UInt8 → Nat → Int) {k : Nat} {x : List UInt8 × File} (hx : L[k]? = some x) : find (crashTo L kf k) x.1 = some x.2 := by
  have hs' := sorted_of_names (crashTo_names L kf k).symm hs
  rw [(crashTo_mid L kf hx).1] at hs' ⊢
  exact find_mid hs'

theorem crashTo_put {L : List (List UInt8 × File)} (hs : Sorted L) (kf : List UInt8 → Nat → Int) {k : Nat} {x : List UInt8 × File} (hx : L[k]? = some x) :
    put (crashTo L kf k) x.1 (torn x.2 (kf x.1 (x.2.data.length - x.2.synced))) = crashTo L kf (k + 1) := by
  have hs' := sorted_of_names (crashTo_names L kf k).symm hs
  rw [(crashTo_mid L kf hx).2]
  rw [(crashTo_mid L kf hx).1] at hs' ⊢
  exact put_mid hs' _

theorem crashTo_zero (L : List (List UInt8 × File)) (kf : List UInt8 → Nat → Int) : crashTo L kf 0 = L := by simp [crashTo]
theorem crashTo_end (L : List (List UInt8 × File)) (kf : List UInt8 → Nat → Int) : crashTo L kf L.length = L.map (tornAt kf) := by simp [crashTo]

theorem names_all (S : Fs) : names S [] = S.L.map (·.1) := by
  unfold names
  rw [List.filter_eq_self.2 (fun x _ => by simp [List.isPrefixOf])]

theorem valid_len {l : List UInt8} (h : valid l = true) : l.length ≤ 100 := by
  simp only [valid, Bool.and_eq_true, decide_eq_true_eq] at h
  omega

theorem crash_L (S : Fs) (kf : List UInt8 → Nat → Int) : (crash S kf).L = S.L.map (tornAt kf) := rfl

end Go.Proofs.YtinghngnehhgfaaGreatDoor.Fsp

/-
  PLAIN: what stands behind a crash.
-/
namespace Go.Proofs.YtinghngnehhgfaaGreatDoor.Fsp

def AllSynced (L : List (List UInt8 × File)) : Prop := ∀ x ∈ L, x.2.synced = x.2.data.length

theorem torn_synced (f : File) (k : Int) (h : f.synced ≤ f.data.length) : (torn f k).synced = (torn f k).data.length := by
  unfold torn
  split
  · simp; omega
  · omega

theorem torn_same (f : File) (k : Int) (h : f.synced = f.data.length) : torn f k = f := by unfold torn; rw [if_neg (by omega)]

theorem crash_synced {S : Fs} (hg : Good S) (kf : List UInt8 → Nat → Int) : AllSynced (crash S kf).L := by
  intro x hx
  rw [crash_L] at hx
  obtain ⟨y, hy, rfl⟩ := List.mem_map.1 hx
  exact torn_synced _ _ (hg.2.2.2.2.2 y.1 y.2 (mem_find hg.1 hy)).2

theorem crash_same {S : Fs} (h : AllSynced S.L) (kf : List UInt8 → Nat → Int) : (crash S kf).L = S.L := by
  rw [crash_L]
  have : ∀ x ∈ S.L, tornAt kf x = x := fun x hx => by
    unfold tornAt
    rw [torn_same _ _ (h x hx)]
  rw [List.map_congr_left this, List.map_id']

theorem put_synced {L : List (List UInt8 × File)} (h : AllSynced L) {n : List UInt8} {f : File} (hf : f.synced = f.data.length) : AllSynced (put L n f) := by
  intro x hx
  rcases mem_put hx with e | e
  · rw [e]; exact hf
  · exact h x e

theorem del_synced {L : List (List UInt8 × File)} (h : AllSynced L) (n : List UInt8) : AllSynced (del L n) := fun x hx => h x (mem_del hx)

theorem find_synced {L : List (List UInt8 × File)} (h : AllSynced L) {n : List UInt8} {f : File} (hf : find L n = some f) : f.synced = f.data.length := h (n, f) (find_mem hf)

theorem crash_find (S : Fs) (kf : List UInt8 → Nat → Int) (n : List UInt8) : find (crash S kf).L n = (find S.L n).map fun f => torn f (kf n (f.data.length - f.synced)) := by
  have key : ∀ L : List (List UInt8 × File), find (L.map (tornAt kf)) n = (find L n).map fun f => torn f (kf n (f.data.length - f.synced)) := by
    intro L
    induction L with
    | nil => rfl
    | cons x r ih =>
      simp only [List.map_cons, find]
      by_cases hx : x.1 = n
      · subst hx; simp [tornAt]
      · have : ¬ (tornAt kf x).1 = n := hx
        rw [if_neg this, if_neg hx, ih]
  rw [crash_L]; exact key S.L

theorem crash_plain (S : Fs) (kf : List UInt8 → Nat → Int) : (crash S kf).armed = 0 ∧ (crash S kf).down = false ∧ (crash S kf).steps = S.steps ∧ (crash S kf).room = S.room := ⟨rfl, rfl, rfl, rfl⟩

end Go.Proofs.YtinghngnehhgfaaGreatDoor.Fsp
