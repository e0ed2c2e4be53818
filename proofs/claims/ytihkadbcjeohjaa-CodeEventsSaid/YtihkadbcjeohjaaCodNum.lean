/-
  What the document's own Num answers: a number's form.
  Conditions: none.
-/
import Derived.Test.YtihkadbcjeohjaaCodWr
import Derived.Test.YtihkadbcjeohjaaBofGood
import Derived.Test.YtihkadbcjeohjaaFldBackMath
namespace Go.Proofs.Ytihkadbcjeohjaa
open Go.RowKit

theorem bytes_ext {a : ByteArray} {l : List UInt8} (h : a.data.toList = l) : a = ⟨l.toArray⟩ := by
  subst h
  rfl
set_option maxHeartbeats 2000000 in
set_option maxRecDepth 100000 in
theorem xnum_any (n : Int) (w : World) :
    Calls Try.prog 29 #[.int .i64 n] w fun e w' => e = .returned (.string ⟨(num8 (clp n)).toArray⟩) ∧ Bo.Made w w' := by
  go_enter Try.func29, Try.ntmps29
  go_wp2
  all_goals
    have hS : ((clp n : Nat) : Int) = min (max n 0) 4611686018427387904 := by unfold clp; omega
    have HS := Lib.hid hS
    have hcl := clp_le n
    clear hS
    go_loopw [0, 3, 4] (fun m s i wr => ∃ k : Nat, k ≤ 8 ∧ i = .int .i64 k ∧ m = .int .i64 (clp n / 256 ^ k : Nat) ∧ (∃ S : ByteArray, s = .string S ∧ Hid (S.data.toList = (num8 (clp n)).drop (8 - k))) ∧ Bo.Made w wr) (fun _ _ i _ => 8 - (intOf i).toNat)
    case atStart => exact ⟨0, by omega, rfl, by rw [Nat.pow_zero, Nat.div_one, HS.out]; congr 1; omega, ⟨⟨#[]⟩, rfl, rfl⟩, Bo.Made.refl _⟩
    case round =>
      obtain ⟨k, hk, rfl, rfl, ⟨Sx, rfl, hSx⟩, hB⟩ := hrel
      obtain ⟨q, hq⟩ : ∃ q, q = clp n / 256 ^ k := ⟨_, rfl⟩
      have hq2 : clp n / 256 ^ (k + 1) = q / 256 := by rw [Nat.pow_succ, ← Nat.div_div_eq_div_mul, ← hq]
      have hql : q ≤ 4611686018427387904 := by rw [hq]; exact Nat.le_trans (Nat.div_le_self _ _) hcl
      have hbk := fun h8 => num8_back (v := clp n) (k := k) h8
      rw [← hq] at hbk ⊢
      have HBK := Lib.hid hbk
      have HQ2 := Lib.hid hq2
      clear hq hq2 hbk
      by_cases h8 : k < 8
      · have hsz := hB.below.size
        have hconv := (Byt.one wr 5 ((q : Int) % 256) (UInt8.ofNat q) (byte_of q)).text (P := Try.prog) 25 5 9 Try.underlying25 Try.underlying5 Try.underlying9 1
        simp only [List.length_cons, List.length_nil, Nat.zero_add] at hconv
        obtain ⟨T, hT⟩ : ∃ T : ByteArray, T = ⟨[UInt8.ofNat q].toArray⟩ := ⟨_, rfl⟩
        rw [← hT] at hconv
        have HT := Lib.hid hT
        have hTs : T.size ≤ 1 := by rw [hT]; exact Nat.le_refl 1
        have hSs : Sx.size ≤ 8 := by
          have := congrArg List.length hSx.out
          rw [List.length_drop, num8_len] at this
          have e : Sx.data.toList.length = Sx.size := Array.length_toList
          omega
        clear hT
        go_wp2
        have hnew : (T ++ Sx).data.toList = (num8 (clp n)).drop (8 - (k + 1)) := by
          rw [HBK.out h8, ByteArray.data_append, Array.toList_append, HT.out, hSx.out]
          rfl
        go_roundw
        case rel => exact ⟨k + 1, by omega, by go_num, by rw [HQ2.out]; go_num, ⟨_, rfl, Lib.hid hnew⟩, hB.trans (Bo.Made.alloc _ _)⟩
        case measure => simp [intOf]; omega
      · obtain rfl : k = 8 := by omega
        have h := hSx.out
        rw [Nat.sub_self, List.drop_zero] at h
        have H := Lib.hid (bytes_ext h)
        clear h hSx
        go_wp2
        go_ret
        exact ⟨by rw [← H.out]; rfl, hB⟩
end Go.Proofs.Ytihkadbcjeohjaa
