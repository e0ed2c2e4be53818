/-
  What the statements' own Small answers: are a definition's steps few, and its names short?
  Conditions: the steps lie in memory.
-/
import Derived.Test.YtihkadbcjeohjaaDefEnd
namespace Go.Proofs.Ytihkadbcjeohjaa.Df
open Go.RowKit
open Go.Proofs.Ytihkadbcjeohjaa.El
open Go.Proofs.Ytihkadbcjeohjaa.Bo (P Made ret_int ret_bool)

def okS (s : Stp) : Bool := decide (s.nm.size ≤ 100) && decide (s.pt.size ≤ 100)
def smallI (nm : ByteArray) (ss : List Stp) : Int := if 40 < ss.length ∨ 100 < nm.size then 1 else if ss.all okS = true then 0 else 2
theorem small_yes {nm : ByteArray} {ss : List Stp} (h : smallI nm ss = 0) : ss.length ≤ 40 ∧ nm.size ≤ 100 ∧ ∀ s ∈ ss, s.nm.size ≤ 100 ∧ s.pt.size ≤ 100 := by
  unfold smallI at h
  split at h
  · cases h
  · split at h
    · next h1 h2 =>
      refine ⟨by omega, by omega, fun s hs => ?_⟩
      have := List.all_eq_true.1 h2 s hs
      unfold okS at this
      simpa using this
    · cases h
theorem small_bad {nm : ByteArray} {ss : List Stp} (h : ¬ (40 < ss.length ∨ 100 < nm.size)) {k : Nat} {s : Stp} (hs : ss[k]? = some s) (hb : okS s = false) : smallI nm ss = 2 := by
  unfold smallI
  rw [if_neg h, if_neg]
  intro h2
  have := List.all_eq_true.1 h2 s (List.mem_of_getElem? hs)
  rw [hb] at this
  cases this
theorem small_end {nm : ByteArray} {ss : List Stp} (h : ¬ (40 < ss.length ∨ 100 < nm.size)) (hk : ∀ i s, i < ss.length → ss[i]? = some s → okS s = true) : smallI nm ss = 0 := by
  unfold smallI
  rw [if_neg h, if_pos]
  refine List.all_eq_true.2 fun s hs => ?_
  obtain ⟨i, hi⟩ := List.mem_iff_getElem?.1 hs
  exact hk i s (at_lt hi) hi
set_option maxHeartbeats 2000000 in
set_option maxRecDepth 100000 in
theorem small_any (nm : ByteArray) (dl : Int) (A : Option Addr) (c : Nat) (ss : List Stp) (n : Nat) (w : World) (hn : n = ss.length) (hb : n ≤ 9223372036854775807) (hnm : nm.size ≤ 9223372036854775807) (hfit : ∀ s ∈ ss, s.Fits) (hS : Steps w w.heap.size A ss) :
    Calls Try.prog 8 #[.agg #[.string nm, .int .i64 dl, .slice A n c]] w fun e w' => e = .returned (.int .i64 (smallI nm ss)) ∧ Made w w' := by
  by_cases h1 : 40 < n
  · have HR : Hid (smallI nm ss = 1) := Lib.hid (by unfold smallI; rw [if_pos (.inl (by omega))])
    clear hS hn hfit
    go_enter Try.func8, Try.ntmps8
    go_wp2
    go_ret
    exact ⟨ret_int HR.out.symm, Made.alloc _ _⟩
  by_cases h2 : 100 < nm.size
  · have HR : Hid (smallI nm ss = 1) := Lib.hid (by unfold smallI; rw [if_pos (.inr h2)])
    clear hS hn hfit
    go_enter Try.func8, Try.ntmps8
    go_wp2
    go_ret
    exact ⟨ret_int HR.out.symm, Made.alloc _ _⟩
  have HNo : Hid (¬ (40 < ss.length ∨ 100 < nm.size)) := Lib.hid (by omega)
  have HS := Lib.hid hS
  have HN := Lib.hid hn
  have HF := Lib.hid hfit
  clear hS hn hfit
  go_enter Try.func8, Try.ntmps8
  go_wp2
  have HM := Lib.hid (Made.alloc w (.cells #[.string nm, .int .i64 dl, .slice A n c] 24))
  have HB := Lib.hid (Box.new w 24 #[.string nm, .int .i64 dl, .slice A n c])
  generalize w.alloc (.cells #[.string nm, .int .i64 dl, .slice A n c] 24) = W0 at *
  have e2 : W0.cell? ⟨w.heap.size, 2, none⟩ = some (.slice A n c) := HB.out.cell 2
  go_loopw [3] (fun vi wr => ∃ k : Nat, vi = .int .i64 (k : Int) ∧ k ≤ n ∧ wr = W0 ∧ Hid (∀ i s, i < k → ss[i]? = some s → okS s = true)) (fun vi _ => n - (intOf vi).toNat)
  case atStart => exact ⟨0, rfl, Nat.zero_le _, rfl, Lib.hid fun i s hi => absurd hi (by omega)⟩
  case round =>
    obtain ⟨k, rfl, hk, rfl, HI⟩ := hrel
    by_cases hkn : k < n
    · obtain ⟨x, hx⟩ : ∃ x, ss[k]? = some x := ⟨_, List.getElem?_eq_getElem (by have := HN.out; omega)⟩
      obtain ⟨b, o, rfl, hbl⟩ := HS.out.at_ hx
      have HS0 := Lib.hid (HS.out.below HM.out.below)
      have c0 : wr.cell? ⟨b, o + k * 12, none⟩ = some (.string x.nm) := HS0.out.get hx 0 rfl
      have c1 : wr.cell? ⟨b, o + k * 12 + 1, none⟩ = some (.string x.pt) := HS0.out.get hx 1 rfl
      obtain ⟨hf1, hf2⟩ := HF.out x (List.mem_of_getElem? hx)
      have HX := Lib.hid hx
      clear hx
      by_cases hq1 : 100 < x.nm.size
      · have HR : Hid (smallI nm ss = 2) := Lib.hid (small_bad HNo.out HX.out (by unfold okS; rw [decide_eq_false (by omega)]; rfl))
        go_wp2
        go_ret
        exact ⟨ret_int HR.out.symm, HM.out⟩
      · by_cases hq2 : 100 < x.pt.size
        · have HR : Hid (smallI nm ss = 2) := Lib.hid (small_bad HNo.out HX.out (by unfold okS; rw [decide_eq_false (p := x.pt.size ≤ 100) (by omega)]; simp))
          go_wp2
          go_ret
          exact ⟨ret_int HR.out.symm, HM.out⟩
        · have HNx : Hid (∀ i s, i < k + 1 → ss[i]? = some s → okS s = true) := Lib.hid fun i s hi hs => by
            by_cases e : i = k
            · subst e
              rw [HX.out] at hs
              injection hs with hs
              subst hs
              unfold okS
              rw [decide_eq_true (by omega), decide_eq_true (by omega)]
              rfl
            · exact HI.out i s (by omega) hs
          go_wp2
          go_roundw
          case rel => exact ⟨k + 1, by go_num, by omega, trivial, HNx⟩
          case measure => simp [intOf]; omega
    · have HR : Hid (smallI nm ss = 0) := Lib.hid (small_end HNo.out fun i s hi hs => HI.out i s (by have := HN.out; omega) hs)
      go_wp2
      go_ret
      exact ⟨ret_int HR.out.symm, HM.out⟩
end Go.Proofs.Ytihkadbcjeohjaa.Df
