/-
  MeterOnce of the arguments as they come in.
-/
import Derived.Test.YtnlanemldapfiaaGreatVOnce
import Derived.Test.YtnlanemldapfiaaGreatVOpen
namespace Go.Proofs.YtnlanemldapfiaaGreat.se
open Go.RowKit Go.Proofs.YtnlanemldapfiaaGreat.Tb

theorem once_bytes {w : World} {v vi : Value} {l : List Ev} {zs : List Int} (hl : EvsR w v l) (hll : l.length ≤ maxLen) (hlb : ∀ x ∈ l, EvB x) (hz : IntsR w vi zs) (hzl : zs.length ≤ maxLen) (hzb : ∀ x ∈ zs, I64 x)
    (s : ByteArray) (hs : s.size ≤ maxLen) {fr mid til : Int} (hfr : I64 fr) (hmid : I64 mid) (hto : I64 til) :
    Calls Tryz.prog 3 #[v, vi, .string s, .int .i64 fr, .int .i64 mid, .int .i64 til] w fun r w' => r = .returned (.bool true) ∧ Turn (fun _ => False) w w' := by
  unfold maxLen at hll hzl hs
  have e : s.data.toList.length = s.size := by simp
  have h := once_any hl (by omega) hlb hz (by omega) hzb s.data.toList (by rw [e]; omega) fr mid til hfr hmid hto
  rw [show strE s.data.toList = .string s from string_list s] at h
  exact h
end Go.Proofs.YtnlanemldapfiaaGreat.se
