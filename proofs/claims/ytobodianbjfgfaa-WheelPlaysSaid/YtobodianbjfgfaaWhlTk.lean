/-
  Timers that are set at an argument's numbers, and the ticks that are gone on to by an argument's numbers.
  Conditions: none.
-/
import Derived.Test.YtobodianbjfgfaaWhlArg
namespace Go.Proofs.Ytobodianbjfgfaa.Wh
open Go.RowKit

def tkF (now : Nat) (f : Nat → Nat → Int) (k : Nat) : Nat := (addT (now : Int) (f k 0)).toNat
theorem tkF_int (now : Nat) (f : Nat → Nat → Int) (k : Nat) : addT (now : Int) (f k 0) = (tkF now f k : Int) := by have := addT_lo (now : Int) (f k 0); unfold tkF; omega
theorem tkF_le (now : Nat) (f : Nat → Nat → Int) (k : Nat) : tkF now f k ≤ 1099511627776 := by have := addT_hi (now : Int) (f k 0); have := addT_lo (now : Int) (f k 0); unfold tkF; omega
def stF (now : Nat) (f : Nat → Nat → Int) (i : Nat) : Ws := ⟨20, now, i, (List.range i).map fun k => ⟨k + 1, (k : Int), dueAt now (tkF now f k)⟩⟩
theorem stF_set (now : Nat) (f : Nat → Nat → Int) (i : Nat) : (stF now f i).set (i : Int) (tkF now f i) = stF now f (i + 1) := by
  unfold stF Ws.set
  simp only [List.range_succ, List.map_append, List.map_cons, List.map_nil]
theorem stF_len (now : Nat) (f : Nat → Nat → Int) (i : Nat) : (stF now f i).xs.length = i := by simp [stF]
def toF (now : Nat) (f : Nat → Nat → Int) : Nat → Nat
  | 0 => now
  | k + 1 => (addT (toF now f k : Int) (f k 0)).toNat
theorem toF_le {now : Nat} (f : Nat → Nat → Int) (h : now ≤ 1099511627776) : ∀ k, toF now f k ≤ 1099511627776
  | 0 => h
  | k + 1 => by have := addT_hi (toF now f k : Int) (f k 0); have := addT_lo (toF now f k : Int) (f k 0); show (addT _ _).toNat ≤ _; omega
theorem toF_int (now : Nat) (f : Nat → Nat → Int) (k : Nat) : addT (toF now f k : Int) (f k 0) = (toF now f (k + 1) : Int) := by have := addT_lo (toF now f k : Int) (f k 0); show _ = ((addT _ _).toNat : Int); omega
theorem toF_up {now : Nat} (f : Nat → Nat → Int) (h : now ≤ 1099511627776) (k : Nat) : toF now f k ≤ toF now f (k + 1) := by
  have h1 := toF_le f h k
  have h2 := toF_int now f k
  have h3 := ofT_lo (f k 0)
  unfold addT at h2
  rw [ofT_id (n := (toF now f k : Int)) (by omega) (by omega)] at h2
  have h4 := ofT_mono (a := (toF now f k : Int)) (b := (toF now f k : Int) + ofT (f k 0)) (by omega)
  rw [ofT_id (n := (toF now f k : Int)) (by omega) (by omega)] at h4
  omega
theorem toF_now {now : Nat} (f : Nat → Nat → Int) (h : now ≤ 1099511627776) : ∀ k, now ≤ toF now f k
  | 0 => Nat.le_refl _
  | k + 1 => Nat.le_trans (toF_now f h k) (toF_up f h k)
end Go.Proofs.Ytobodianbjfgfaa.Wh
