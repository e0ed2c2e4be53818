/-
  What container/heap's up does to a queue's heap: it is mended upwards.
  Conditions: the queue is one; all is in its order but for the one at the place.
-/
import Derived.Test.YtkfkjpabollaoaaRdySwap
import Derived.Deep.LoopGhost
namespace Go.Proofs.Ytkfkjpabollaoaa
open Go.RowKit Go.Sort

/-- a heap again, of the same entries, those from n on as they were -/
def Mended (w : World) (g : Nat) (X : Nat → Prop) (bm : Nat) (v : Value) (d : List En) (n : Nat) (ms : List (Nat × Nat)) (cap age last : Nat) (w' : World) : Prop :=
  ∃ d', d'.Perm d ∧ Heap d' n ∧ (∀ k, n ≤ k → nth d' k = nth d k) ∧ Turned w g X bm v d' ms cap age last w'
theorem par_cast {j : Nat} (h : 0 < j) : ((par j : Nat) : Int) = ((j : Int) - 1) / 2 := by unfold par; omega
section
variable {w : World} {g bm : Nat} {X : Nat → Prop} {d : List En} {ms : List (Nat × Nat)} {cap age last : Nat}
theorem Raw.v3 {v : Value} (h : Raw w g X bm v d ms cap age last) : w.cell? ⟨g, 3, none⟩ = some v := h.box.cell 3

set_option maxHeartbeats 2000000 in
set_option maxRecDepth 100000 in
theorem up_any {r c j n : Nat} (h : Raw w g X bm (.slice (some ⟨r, 0, none⟩) d.length c) d ms cap age last) (hj : j < n) (hnd : n ≤ d.length) (hn : d.length ≤ 1099511627776) (hU : UpAt d n j) :
    Calls Try.prog 25 #[hpv g, .int .i64 (j : Int)] w fun e w' => e = .returned (.tuple #[]) ∧ Mended w g X bm (.slice (some ⟨r, 0, none⟩) d.length c) d n ms cap age last w' := by
  have eL : ∀ args w, (callFunc 66 args).run Try.prog w = .ok (.enter 66 args) w := enters_of Try.func66 (by kernel_rfl) rfl
  have HR := Lib.hid h
  have HU := Lib.hid hU
  clear h hU
  unfold hpv
  go_enter Try.func25, Try.ntmps25
  go_wp2
  go_loopw [1] (fun vj wr => ∃ (k : Nat) (d' : List En), vj = .int .i64 (k : Int) ∧ k < n ∧ Hid (d'.Perm d ∧ UpAt d' n k ∧ (∀ q, n ≤ q → nth d' q = nth d q) ∧ Turned w g X bm (.slice (some ⟨r, 0, none⟩) d.length c) d' ms cap age last wr)) (fun vj _ => (intOf vj).toNat)
  case atStart => exact ⟨j, d, rfl, hj, Lib.hid ⟨List.Perm.refl _, HU.out, fun _ _ => rfl, HR.out, Keep.refl _ _⟩⟩
  case round =>
    obtain ⟨k, d', rfl, hk, HI⟩ := hrel
    obtain ⟨hp, hu, hs, hR, hK⟩ := HI.out
    have hdl : d'.length = d.length := hp.length_eq
    have m3 := hR.v3
    have m1 := m_less g _ _ _ wr m3
    have eS : ∀ args w, (callFunc 67 args).run Try.prog w = .ok (.enter 67 args) w := enters_of Try.func67 (by kernel_rfl) rfl
    have done : ∀ w', Below wr.heap.size wr w' → (0 < k → k < n → ¬ bef (nth d' k) (nth d' (par k))) → Mended w g X bm (.slice (some ⟨r, 0, none⟩) d.length c) d n ms cap age last w' := fun w' hb h => ⟨d', hp, hu.done h, hs, hR.below hb, hK.trans (Keep.of_below hb)⟩
    have HD := Lib.hid done
    clear done
    by_cases h0 : k = 0
    · subst h0
      clear hR hs hp hu m3 m1
      go_wp2
      go_end0
      exact ⟨rfl, HD.out _ (Below.refl _ _) (fun h => absurd h (by omega))⟩
    · have hk0 : 0 < k := by omega
      have hne : (((k : Int) - 1) / 2 == (k : Int)) = false := by rw [beq_eq_false_iff_ne]; omega
      have hpl := par_lt hk0
      have hR' := hR
      rw [← hdl] at hR'
      have hl := less_any hR' (i := k) (j := par k) (by omega) (by omega) (by omega)
      rw [par_cast hk0, hdl] at hl
      cases hb : befB (nth d' k) (nth d' (par k)) with
      | false =>
        rw [hb] at hl
        have HL := Lib.hid hl
        have HN := Lib.hid (of_decide_eq_false hb)
        clear hb hl hR' hR hs hp hu m3 hdl
        go_wp2_with (go_at_call 66; refine HL.out.mono ?_; rintro e w' ⟨rfl, hm⟩)
        go_end0
        exact ⟨rfl, HD.out _ hm.below (fun _ _ => HN.out)⟩
      | true =>
        rw [hb] at hl
        have HL := Lib.hid hl
        have hsw := fun w' (hm : Below wr.heap.size wr w') => swap_any (hR'.below hm) (i := par k) (j := k) (by omega) (by omega) (by omega) (by omega)
        rw [par_cast hk0, hdl] at hsw
        have HS := Lib.hid hsw
        have hst := hu.step (by omega) hk0 hk (of_decide_eq_true hb)
        have hpm := (swp_perm (d := d') (i := par k) (j := k) (by omega) (by omega)).trans hp
        have hss : ∀ q, n ≤ q → nth (swp d' (par k) k) q = nth d q := fun q hq => by
          rw [swp_nth (by omega) (by omega), if_neg (by omega), if_neg (by omega)]
          exact hs q hq
        have m4 : ∀ w', Below wr.heap.size wr w' → ∀ N, (method (N + 1) 62 (.pointer (some ⟨g, 3, none⟩)) "Swap").run Try.prog w' = .ok (67, .slice (some ⟨r, 0, none⟩) d.length c) w' := fun w' hm N => m_swap g _ _ _ w' (hR.below hm).v3 N
        have M4 := Lib.hid m4
        have HE := Lib.hid (And.intro hst (And.intro hpm hss))
        have HK := Lib.hid hK
        clear hb hl hsw hst hpm hss hR' hR hs hp hu m3 m4 hdl hK
        go_wp2_with (first
          | (go_at_call 66; refine HL.out.mono ?_; rintro e w' ⟨rfl, hm⟩; have hm' := hm.below; have m5 := M4.out w' hm')
          | (go_at_call 67; refine (HS.out _ hm').mono ?_; rintro e w'' ⟨rfl, ht⟩))
        go_roundw
        case rel => exact ⟨par k, _, by rw [par_cast hk0], by omega, Lib.hid ⟨HE.out.2.1, HE.out.1, HE.out.2.2, ht.1, (HK.out.trans (Keep.of_below hm')).trans ht.2⟩⟩
        case measure => simp [intOf]; omega
end
end Go.Proofs.Ytkfkjpabollaoaa
