/-
  What container/heap's down does to a queue's heap: it is mended downwards from a place, and whether that moved anything is told.
  Conditions: the queue is one; of the first n all is in its order but for what hangs on the place, and for the place itself.
-/
import Derived.Test.YtkfkjpabollaoaaRdyPop
namespace Go.Proofs.Ytkfkjpabollaoaa
open Go.RowKit Go.Sort

/-- moved: a heap; not moved: all is in its order but for the one at i; those from n on as they were -/
def Downed (w : World) (g : Nat) (X : Nat → Prop) (bm : Nat) (v : Value) (d : List En) (n i : Nat) (ms : List (Nat × Nat)) (cap age last : Nat) (b : Bool) (w' : World) : Prop :=
  ∃ d', d'.Perm d ∧ (∀ k, n ≤ k → nth d' k = nth d k) ∧ Turned w g X bm v d' ms cap age last w' ∧ (b = true → Heap d' n) ∧ (b = false → UpAt d' n i)
def DownEnd (w : World) (g : Nat) (X : Nat → Prop) (bm : Nat) (v : Value) (d : List En) (n i : Nat) (ms : List (Nat × Nat)) (cap age last : Nat) (e : Ending) (w' : World) : Prop :=
  ∃ b, e = .returned (.bool b) ∧ Downed w g X bm v d n i ms cap age last b w'
section
variable {w : World} {g bm : Nat} {X : Nat → Prop} {d : List En} {ms : List (Nat × Nat)} {cap age last : Nat}
set_option maxHeartbeats 4000000 in
set_option maxRecDepth 100000 in
theorem down_any {r c i n : Nat} (h : Raw w g X bm (.slice (some ⟨r, 0, none⟩) d.length c) d ms cap age last) (hi : i < n) (hnd : n ≤ d.length) (hn : d.length ≤ 1099511627776) (hD : DownAt d n i i) :
    Calls Try.prog 31 #[hpv g, .int .i64 (i : Int), .int .i64 (n : Int)] w (DownEnd w g X bm (.slice (some ⟨r, 0, none⟩) d.length c) d n i ms cap age last) := by
  have eL : ∀ args w, (callFunc 66 args).run Try.prog w = .ok (.enter 66 args) w := enters_of Try.func66 (by kernel_rfl) rfl
  have eS : ∀ args w, (callFunc 67 args).run Try.prog w = .ok (.enter 67 args) w := enters_of Try.func67 (by kernel_rfl) rfl
  have HR := Lib.hid h
  have HD := Lib.hid hD
  clear h hD
  unfold hpv
  go_enter Try.func31, Try.ntmps31
  go_wp2
  go_loopw [7] (fun vi wr => ∃ (k : Nat) (d' : List En), vi = .int .i64 (k : Int) ∧ i ≤ k ∧ k < n ∧ Hid (d'.Perm d ∧ DownAt d' n i k ∧ (∀ q, n ≤ q → nth d' q = nth d q) ∧ Turned w g X bm (.slice (some ⟨r, 0, none⟩) d.length c) d' ms cap age last wr)) (fun vi _ => n - (intOf vi).toNat)
  case atStart => exact ⟨i, d, rfl, Nat.le_refl _, hi, Lib.hid ⟨List.Perm.refl _, HD.out, fun _ _ => rfl, HR.out, Keep.refl _ _⟩⟩
  case round =>
    obtain ⟨k, d', rfl, hik, hk, HI⟩ := hrel
    obtain ⟨hp, hu, hs, hR, hK⟩ := HI.out
    have hdl : d'.length = d.length := hp.length_eq
    have done : ∀ w', Below wr.heap.size wr w' → (∀ q, 0 < q → q < n → par q = k → ¬ bef (nth d' q) (nth d' k)) → Downed w g X bm (.slice (some ⟨r, 0, none⟩) d.length c) d n i ms cap age last (decide (i < k)) w' := fun w' hb h => by
      refine ⟨d', hp, hs, ⟨hR.below hb, hK.trans (Keep.of_below hb)⟩, fun hb1 => ?_, fun hb1 => ?_⟩
      · have := of_decide_eq_true hb1
        exact hu.heap (by omega) h
      · have := of_decide_eq_false hb1
        obtain rfl : k = i := by omega
        exact hu.up h
    have HDN := Lib.hid done
    clear done
    by_cases h1 : n ≤ 2 * k + 1
    · have z1 : (n : Int) ≤ 2 * (k : Int) + 1 := by omega
      clear hR hs hp hu
      go_wp2
      go_ret
      exact ⟨_, rfl, HDN.out _ (Below.refl _ _) (fun q q0 qn qp => by have := par_kids qp q0; omega)⟩
    · have z1 : 2 * (k : Int) + 1 < (n : Int) := by omega
      have hR' := hR
      rw [← hdl] at hR'
      have lessB : ∀ a b, a < n → b < n → ∀ w', Below wr.heap.size wr w' → Calls Try.prog 66 #[.slice (some ⟨r, 0, none⟩) d.length c, .int .i64 (a : Int), .int .i64 (b : Int)] w' fun e w'' => e = .returned (.bool (befB (nth d' a) (nth d' b))) ∧ Made w' w'' := fun a b ha hb w' hm => by
        have := less_any (hR'.below hm) (i := a) (j := b) (by omega) (by omega) (by omega)
        rw [hdl] at this
        exact this
      have ml : ∀ w', Below wr.heap.size wr w' → ∀ N, (method (N + 1) 62 (.pointer (some ⟨g, 3, none⟩)) "Less").run Try.prog w' = .ok (66, .slice (some ⟨r, 0, none⟩) d.length c) w' := fun w' hm N => m_less g _ _ _ w' (hR.below hm).v3 N
      have msw : ∀ w', Below wr.heap.size wr w' → ∀ N, (method (N + 1) 62 (.pointer (some ⟨g, 3, none⟩)) "Swap").run Try.prog w' = .ok (67, .slice (some ⟨r, 0, none⟩) d.length c) w' := fun w' hm N => m_swap g _ _ _ w' (hR.below hm).v3 N
      have ML := Lib.hid ml
      have MS := Lib.hid msw
      have m1 := ml wr (Below.refl _ _)
      have e1 : ((2 * k + 1 : Nat) : Int) = 2 * (k : Int) + 1 := by omega
      have e2 : ((2 * k + 2 : Nat) : Int) = 2 * (k : Int) + 1 + 1 := by omega
      -- the better of the two at j: what comes of it
      have stop : ∀ j, (∀ q, 0 < q → q < n → par q = k → ¬ bef (nth d' q) (nth d' j)) → ¬ bef (nth d' j) (nth d' k) → ∀ w', Below wr.heap.size wr w' → Downed w g X bm (.slice (some ⟨r, 0, none⟩) d.length c) d n i ms cap age last (decide (i < k)) w' := fun j hj hn w' hb =>
        HDN.out w' hb (fun q q0 qn qp => nbef_trans (hj q q0 qn qp) hn)
      have gone : ∀ j, k < j → j < n → par j = k → (∀ q, 0 < q → q < n → par q = k → ¬ bef (nth d' q) (nth d' j)) → bef (nth d' j) (nth d' k) → ∀ w', Below wr.heap.size wr w' →
          Calls Try.prog 67 #[.slice (some ⟨r, 0, none⟩) d.length c, .int .i64 (k : Int), .int .i64 (j : Int)] w' fun e w'' => e = .returned (.tuple #[]) ∧ Hid ((swp d' k j).Perm d ∧ DownAt (swp d' k j) n i j ∧ (∀ q, n ≤ q → nth (swp d' k j) q = nth d q) ∧ Turned w g X bm (.slice (some ⟨r, 0, none⟩) d.length c) (swp d' k j) ms cap age last w'') := fun j hkj hjn hpj hj hb w' hm => by
        have hsw := swap_any (hR'.below hm) (i := k) (j := j) (by omega) (by omega) (by omega) (by omega)
        rw [hdl] at hsw
        refine hsw.mono fun e w'' ⟨he, hT⟩ => ⟨he, Lib.hid ⟨(swp_perm (by omega) (by omega)).trans hp, hu.step (by omega) hik (by omega) hjn hpj hb hj, fun q hq => ?_, hT.1, (hK.trans (Keep.of_below hm)).trans hT.2⟩⟩
        rw [swp_nth (by omega) (by omega), if_neg (by omega), if_neg (by omega)]
        exact hs q hq
      have HL := Lib.hid lessB
      have HST := Lib.hid stop
      have HG := Lib.hid gone
      have Ee := Lib.hid (And.intro e1 e2)
      clear lessB ml msw stop gone hR hR' hs hp hu hK HI hdl e1 e2
      by_cases h2 : n ≤ 2 * k + 2
      · have z2 : (n : Int) ≤ 2 * (k : Int) + 1 + 1 := by omega
        have hbest : ∀ q, 0 < q → q < n → par q = k → ¬ bef (nth d' q) (nth d' (2 * k + 1)) := fun q q0 qn qp => by rcases par_kids qp q0 with rfl | rfl; exact bef_irr _; omega
        have hl2 := fun w' hm => HL.out (2 * k + 1) k (by omega) (by omega) w' hm
        rw [Ee.out.1] at hl2
        cases hb : befB (nth d' (2 * k + 1)) (nth d' k) with
        | false =>
          rw [hb] at hl2
          have HL2 := Lib.hid hl2
          have HS := Lib.hid (HST.out (2 * k + 1) hbest (of_decide_eq_false hb))
          clear hb hl2 hbest
          go_wp2_with (first
            | (go_at_call 66; (with_reducible refine (HL2.out _ (Below.refl _ _)).mono ?_); rintro e w2 ⟨rfl, hm2⟩; have hb2 := hm2.below; have m3 := MS.out w2 hb2))
          go_ret
          exact ⟨_, rfl, HS.out _ hb2⟩
        | true =>
          rw [hb] at hl2
          have HL2 := Lib.hid hl2
          have hg := HG.out (2 * k + 1) (by omega) (by omega) (par_left k) hbest (of_decide_eq_true hb)
          rw [Ee.out.1] at hg
          have HGG := Lib.hid hg
          clear hg
          clear hb hl2 hbest
          go_wp2_with (first
            | (go_at_call 66; (with_reducible refine (HL2.out _ (Below.refl _ _)).mono ?_); rintro e w2 ⟨rfl, hm2⟩; have hb2 := hm2.below; have m3 := MS.out w2 hb2)
            | (go_at_call 67; (with_reducible refine (HGG.out _ hb2).mono ?_); rintro e w3 ⟨rfl, hT⟩))
          go_roundw
          case rel => exact ⟨2 * k + 1, _, by rw [Ee.out.1], by omega, by omega, hT⟩
          case measure => simp [intOf]; omega
      · have z2 : 2 * (k : Int) + 1 + 1 < (n : Int) := by omega
        have hl1 := HL.out (2 * k + 2) (2 * k + 1) (by omega) (by omega) wr (Below.refl _ _)
        rw [Ee.out.1, Ee.out.2] at hl1
        cases hc : befB (nth d' (2 * k + 2)) (nth d' (2 * k + 1)) with
        | false =>
          rw [hc] at hl1
          have HL1 := Lib.hid hl1
          have hc' := of_decide_eq_false hc
          clear hl1 hc
          have hbest : ∀ q, 0 < q → q < n → par q = k → ¬ bef (nth d' q) (nth d' (2 * k + 1)) := fun q q0 qn qp => by rcases par_kids qp q0 with rfl | rfl; exact bef_irr _; exact hc'
          have hl2 := fun w' hm => HL.out (2 * k + 1) k (by omega) (by omega) w' hm
          rw [Ee.out.1] at hl2
          cases hb : befB (nth d' (2 * k + 1)) (nth d' k) with
          | false =>
            rw [hb] at hl2
            have HL2 := Lib.hid hl2
            have HS := Lib.hid (HST.out (2 * k + 1) hbest (of_decide_eq_false hb))
            clear hb hl2 hbest hc'
            go_wp2_with (first
              | (go_at_call 66; (with_reducible refine HL1.out.mono ?_); rintro e w1 ⟨rfl, hm1⟩; have hb1 := hm1.below; have m2 := ML.out w1 hb1)
              | (go_at_call 66; (with_reducible refine (HL2.out _ hb1).mono ?_); rintro e w2 ⟨rfl, hm2⟩; have hb2 := Below.trans hb1 (hm2.below.mono hb1.size); have m3 := MS.out w2 hb2))
            go_ret
            exact ⟨_, rfl, HS.out _ hb2⟩
          | true =>
            rw [hb] at hl2
            have HL2 := Lib.hid hl2
            have hg := HG.out (2 * k + 1) (by omega) (by omega) (par_left k) hbest (of_decide_eq_true hb)
            rw [Ee.out.1] at hg
            have HGG := Lib.hid hg
            clear hg
            clear hb hl2 hbest hc'
            go_wp2_with (first
              | (go_at_call 66; (with_reducible refine HL1.out.mono ?_); rintro e w1 ⟨rfl, hm1⟩; have hb1 := hm1.below; have m2 := ML.out w1 hb1)
              | (go_at_call 66; (with_reducible refine (HL2.out _ hb1).mono ?_); rintro e w2 ⟨rfl, hm2⟩; have hb2 := Below.trans hb1 (hm2.below.mono hb1.size); have m3 := MS.out w2 hb2)
              | (go_at_call 67; (with_reducible refine (HGG.out _ hb2).mono ?_); rintro e w3 ⟨rfl, hT⟩))
            go_roundw
            case rel => exact ⟨2 * k + 1, _, by rw [Ee.out.1], by omega, by omega, hT⟩
            case measure => simp [intOf]; omega
        | true =>
          rw [hc] at hl1
          have HL1 := Lib.hid hl1
          have hc' := bef_asym (of_decide_eq_true hc)
          clear hl1 hc
          have hbest : ∀ q, 0 < q → q < n → par q = k → ¬ bef (nth d' q) (nth d' (2 * k + 2)) := fun q q0 qn qp => by rcases par_kids qp q0 with rfl | rfl; exact hc'; exact bef_irr _
          have hl2 := fun w' hm => HL.out (2 * k + 2) k (by omega) (by omega) w' hm
          rw [Ee.out.2] at hl2
          cases hb : befB (nth d' (2 * k + 2)) (nth d' k) with
          | false =>
            rw [hb] at hl2
            have HL2 := Lib.hid hl2
            have HS := Lib.hid (HST.out (2 * k + 2) hbest (of_decide_eq_false hb))
            clear hb hl2 hbest hc'
            go_wp2_with (first
              | (go_at_call 66; (with_reducible refine HL1.out.mono ?_); rintro e w1 ⟨rfl, hm1⟩; have hb1 := hm1.below; have m2 := ML.out w1 hb1)
              | (go_at_call 66; (with_reducible refine (HL2.out _ hb1).mono ?_); rintro e w2 ⟨rfl, hm2⟩; have hb2 := Below.trans hb1 (hm2.below.mono hb1.size); have m3 := MS.out w2 hb2))
            go_ret
            exact ⟨_, rfl, HS.out _ hb2⟩
          | true =>
            rw [hb] at hl2
            have HL2 := Lib.hid hl2
            have hg := HG.out (2 * k + 2) (by omega) (by omega) (par_right k) hbest (of_decide_eq_true hb)
            rw [Ee.out.2] at hg
            have HGG := Lib.hid hg
            clear hg
            clear hb hl2 hbest hc'
            go_wp2_with (first
              | (go_at_call 66; (with_reducible refine HL1.out.mono ?_); rintro e w1 ⟨rfl, hm1⟩; have hb1 := hm1.below; have m2 := ML.out w1 hb1)
              | (go_at_call 66; (with_reducible refine (HL2.out _ hb1).mono ?_); rintro e w2 ⟨rfl, hm2⟩; have hb2 := Below.trans hb1 (hm2.below.mono hb1.size); have m3 := MS.out w2 hb2)
              | (go_at_call 67; (with_reducible refine (HGG.out _ hb2).mono ?_); rintro e w3 ⟨rfl, hT⟩))
            go_roundw
            case rel => exact ⟨2 * k + 2, _, by rw [Ee.out.2], by omega, by omega, hT⟩
            case measure => simp [intOf]; omega
end
end Go.Proofs.Ytkfkjpabollaoaa
