/-
  PLAIN, of WalAgain: one segment of any bytes, opened, and opened again.
-/
import Derived.Test.YtkhlejficonhpaaDoorWI
namespace Go.Proofs.YtkhlejficonhpaaDoor.Wa

def st (k : Nat) (x : List UInt8) (y : Nat) : Fsp.Fs := ⟨67108864, k, 0, false, [(Walp.seg [119] 1, ⟨x, y⟩)]⟩
def lg (c : Nat) : Walp.Lg := ⟨[119], 16, 1, 1, c, false⟩

theorem e0 : Fsp.new 67108864 = ⟨67108864, 0, 0, false, []⟩ := by rfl
theorem e1 : Fsp.create ⟨67108864, 0, 0, false, []⟩ (Walp.seg [119] 1) = (st 1 [] 0, 0) := by rfl
theorem find_st (k : Nat) (x : List UInt8) (y : Nat) : Fsp.find (st k x y).L (Walp.seg [119] 1) = some ⟨x, y⟩ := by simp [st, Fsp.find]
theorem e2 (b : List UInt8) (h : b.length ≤ 20000) : Fsp.append (st 1 [] 0) (Walp.seg [119] 1) b = (st 2 b 0, 0) := by
  have h2 : ¬ 67108864 < 0 + 0 + b.length := by omega
  simp [Fsp.append, st, Fsp.find, Fsp.put, Fsp.stepped, Fsp.usedOf]
  omega
theorem e3 (k : Nat) (x : List UInt8) (y : Nat) : Fsp.sync (st k x y) (Walp.seg [119] 1) = (st (k + 1) x x.length, 0) := by
  simp [Fsp.sync, st, Fsp.find, Fsp.put, Fsp.stepped]
theorem e4 (k : Nat) (x : List UInt8) (y m : Nat) (h : m ≤ x.length) : Fsp.truncate (st k x y) (Walp.seg [119] 1) m = (st (k + 1) (x.take m) (min y m), 0) := by
  have h2 : ¬ ((m : Int) < 0 ∨ (x.length : Int) < m) := by omega
  simp [Fsp.truncate, st, Fsp.find, Fsp.put, Fsp.stepped]
  omega
theorem e5 (k : Nat) (x : List UInt8) (y : Nat) : found (st k x y) (fresh [119] 16) = (st k x y, lg 0, 0) := by rfl
theorem e6 (k : Nat) (x : List UInt8) (y : Nat) : (Walp.numsOf [119] (namesOf (st k x y) [119])).length ≠ 0 := by
  have : Walp.numsOf [119] (namesOf (st k x y) [119]) = [1] := by rfl
  rw [this]; decide
theorem v1 : Fsp.valid (Walp.seg [119] 1) = true := by rfl

theorem whole_frames (b : List UInt8) : wholeF (Walp.frames (Walp.scan b)) = true := by
  unfold wholeF
  rw [Walp.scan_frames_self (Walp.scan_short b)]
  simp

/-- the first opening leaves the frames that are whole -/
theorem mended (b : List UInt8) : ∃ k c y, k ≤ 5 ∧ Mended (st 3 b b.length) (st k (Walp.frames (Walp.scan b)) y) (lg 0) (lg c) b := by
  by_cases h : wholeF b = true
  · have hl : (Walp.frames (Walp.scan b)).length = b.length := by unfold wholeF at h; simpa using h
    have he : Walp.frames (Walp.scan b) = b := by
      have := Walp.frames_take b
      rw [hl, List.take_length] at this
      exact this.symm
    refine ⟨3, 0, b.length, by omega, Or.inl ⟨h, ?_, rfl⟩⟩
    rw [he]
  · have h' : wholeF b = false := by simpa using h
    have hle := Walp.frames_scan_le b
    refine ⟨5, b.length - (Walp.frames (Walp.scan b)).length, (Walp.frames (Walp.scan b)).length, by omega, Or.inr ⟨h', rfl, st 4 (b.take (Walp.frames (Walp.scan b)).length) (min b.length (Walp.frames (Walp.scan b)).length), ?_, ?_⟩⟩
    · exact e4 3 b b.length _ hle
    · have := e3 4 (b.take (Walp.frames (Walp.scan b)).length) (min b.length (Walp.frames (Walp.scan b)).length)
      rw [Walp.frames_take] at this ⊢
      exact this

theorem mended2 (k : Nat) (b : List UInt8) (y : Nat) : Mended (st k (Walp.frames (Walp.scan b)) y) (st k (Walp.frames (Walp.scan b)) y) (lg 0) (lg 0) (Walp.frames (Walp.scan b)) :=
  Or.inl ⟨whole_frames b, rfl, rfl⟩

theorem recs_one (x : List UInt8) (y : Nat) : recsOf ([] ++ [⟨x, y⟩]) = Walp.scan x := by simp [recsOf]
theorem recs_two (b : List UInt8) (y : Nat) : recsOf ([] ++ [⟨Walp.frames (Walp.scan b), y⟩]) = Walp.scan b := by
  rw [recs_one, Walp.scan_frames_self (Walp.scan_short b)]

end Go.Proofs.YtkhlejficonhpaaDoor.Wa
