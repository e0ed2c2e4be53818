/-
  What the program's bareSums answers: the array of what eight shifts make of each byte.
  Conditions: none.
-/
import Derived.Test.YtohnhboeipckjaaGreatDoorSumShift
import Derived.RegionTactic
import Derived.Test.YtohnhboeipckjaaGreatDoorSumMem
import Derived.Deep.WholeRow
import Derived.BigRegion
namespace Go.Proofs.YtohnhboeipckjaaGreatDoor
open Go.RowKit

/-- the array, its first k places done -/
def tabA (k : Nat) : Array Value := Array.ofFn (n := 256) fun i => .int .u32 (if i.val < k then shs 8 i.val else 0 : Nat)
theorem tabA_size (k : Nat) : (tabA k).size = 256 := by simp [tabA]
theorem tabA_at {k i : Nat} (hi : i < k) (h : i < 256) : (tabA k)[i]? = some (.int .u32 (shs 8 i : Nat)) := by
  simp [tabA, h, hi]
theorem tabA_zero : tabA 0 = Array.replicate 256 (.int .u32 0) := by
  apply Array.ext
  · simp [tabA]
  · intro i h1 h2
    simp [tabA]
theorem tabA_set (k : Nat) : (tabA k).setIfInBounds k (.int .u32 (shs 8 k : Nat)) = tabA (k + 1) := by
  apply Array.ext
  · simp [tabA]
  · intro i h1 h2
    by_cases h : k = i
    · subst h
      simp [tabA]
    · rw [Array.getElem_setIfInBounds_ne (by simpa using h1) h]
      simp only [tabA, Array.getElem_ofFn]
      by_cases h3 : i < k
      · rw [if_pos h3, if_pos (by omega)]
      · rw [if_neg h3, if_neg (by omega)]
theorem tabA_full (k : Nat) (hk : 256 ≤ k) : tabA k = tabA 256 := by
  apply Array.ext
  · simp [tabA]
  · intro i h1 h2
    simp only [tabA_size] at h1
    simp [tabA, show i < k by omega]
theorem tabA_one (k : Nat) : (tabA k).all (·.oneCell') = true := by
  rw [Array.all_eq_true_iff_forall_mem]
  intro v hv
  obtain ⟨i, hi, rfl⟩ := Array.mem_iff_getElem.1 hv
  simp [tabA, Value.oneCell']

theorem low_bit : ∀ k : Fin 256, bits .and .i64 (k.val : Int) ((k.val : Int) - 1) = ((k.val &&& (k.val - 1) : Nat) : Int) := by decide +kernel
theorem low_fact : ∀ k : Fin 256, (k.val &&& (k.val - 1)) = 0 ∨ ((k.val &&& (k.val - 1)) < k.val ∧ (k.val ^^^ (k.val &&& (k.val - 1))) < k.val ∧ bits .xor .i64 (k.val : Int) ((k.val &&& (k.val - 1) : Nat) : Int) = ((k.val ^^^ (k.val &&& (k.val - 1)) : Nat) : Int)) := by decide +kernel
theorem xor_self' (a b : Nat) : a ^^^ (b ^^^ a) = b := by rw [Nat.xor_comm b, ← Nat.xor_assoc, Nat.xor_self, Nat.zero_xor]

theorem info36 : (Tryz.prog.info? 125).map (fun i => (i.zero, i.size)) = some (some (.agg (tabA 0)), 256) := by rw [tabA_zero]; kernel_rfl
theorem size36 : (Tryz.prog.info? 125).map (·.size) = some 256 := (zero_of_info info36).2

/-- where the loop of bareSums stands -/
structure BareAt (w wr : World) (k : Nat) : Prop where
  res : wr.heap[w.heap.size]? = some (.cells (tabA 0) 125 (0, 0))
  tab : wr.heap[w.heap.size + 1]? = some (.cells (tabA k) 125 (0, 0))
  bel : Below w.heap.size w wr
theorem BareAt.start (w : World) : BareAt w ((w.alloc (.cells (tabA 0) 125)).alloc (.cells (tabA 0) 125)) 0 := by
  refine ⟨?_, ?_, ((Below.refl _ w).alloc (Nat.le_refl _) _).alloc (by simp) _⟩
  · rw [Below.heap_alloc _ _ _ (by simp)]; exact heap_alloc_last w _
  · have := heap_alloc_last (w.alloc (.cells (tabA 0) 125)) (.cells (tabA 0) 125)
    simpa using this
theorem BareAt.drew {w wr : World} {k : Nat} (h : BareAt w wr k) : BareAt w wr.drew k := ⟨h.res, h.tab, h.bel.drew⟩
theorem BareAt.put {w wr : World} {k : Nat} (h : BareAt w wr k) : BareAt w (wr.setCell ⟨w.heap.size + 1, k, none⟩ (.int .u32 (shs 8 k : Nat))) (k + 1) := by
  refine ⟨?_, ?_, h.bel.setCell (by simp) _⟩
  · rw [Below.heap_setCell _ _ _ _ (by simp)]; exact h.res
  · rw [heap_setCell_same wr _ k _ _ _ h.tab, tabA_set]
theorem BareAt.cell {w wr : World} {k i : Nat} (h : BareAt w wr k) (hi : i < k) (h2 : i < 256) : wr.cell? ⟨w.heap.size + 1, i, none⟩ = some (.int .u32 (shs 8 i : Nat)) := by
  rw [cell_of_row wr _ i _ _ _ h.tab, tabA_at hi h2]
theorem BareAt.here {w wr : World} {k i : Nat} (h : BareAt w wr k) (h2 : i < 256) : ∃ v, wr.cell? ⟨w.heap.size + 1, i, none⟩ = some v := by
  rw [cell_of_row wr _ i _ _ _ h.tab]
  exact ⟨_, Array.getElem?_eq_getElem (by rw [tabA_size]; exact h2)⟩
theorem BareAt.free {w wr : World} {k : Nat} (h : BareAt w wr k) (i : Nat) : wr.frozen? ⟨w.heap.size + 1, i, none⟩ = false := frozen_of_row wr _ i _ _ h.tab

set_option maxHeartbeats 1000000 in
set_option maxRecDepth 100000 in
theorem bare_any (w : World) :
    Calls Tryz.prog 88 #[] w fun e w' => e = .returned (.agg (tabA 256)) ∧ Below w.heap.size w w' := by
  have hz := (zero_of_info info36).1
  go_enter Tryz.func88, Tryz.ntmps88
  go_wp2
  clear hz
  go_loopw [4] (fun i wr => ∃ k : Nat, k ≤ 256 ∧ i = .int .i64 k ∧ BareAt w wr k) (fun i _ => 256 - (intOf i).toNat)
  case atStart => exact ⟨0, by omega, rfl, BareAt.start w⟩
  case round =>
    obtain ⟨k, hk, rfl, hB⟩ := hrel
    by_cases hlt : k < 256
    · have hl : bits .and .i64 (k : Int) ((k : Int) - 1) = ((k &&& (k - 1) : Nat) : Int) := low_bit ⟨k, hlt⟩
      have hf := low_fact ⟨k, hlt⟩
      simp only at hf
      obtain ⟨r, hr⟩ : ∃ r, r = k &&& (k - 1) := ⟨_, rfl⟩
      rw [← hr] at hl hf
      clear hr
      obtain ⟨v, hv⟩ := hB.here hlt
      have hfr := hB.free k
      rcases hf with h0 | ⟨h1, h2, h3⟩
      · subst h0
        go_wp2_with (go_at_call 111; refine (shifts_any k _ (by omega)).mono ?_; rintro e w' ⟨rfl, rfl⟩)
        go_roundw
        case rel => exact ⟨k + 1, by omega, by go_num, hB.put⟩
        case measure => simp [intOf]; omega
      · have hx : bits .xor .u32 ((shs 8 r : Nat) : Int) ((shs 8 (k ^^^ r) : Nat) : Int) = ((shs 8 k : Nat) : Int) := by
          rw [u32_xor_nat _ _ (shs_lt 8 (by omega)) (shs_lt 8 (by omega)), ← shs_xor, xor_self']
        have hc1 := hB.cell h1 (by omega)
        have hc2 := hB.cell h2 (by omega)
        have hr0 : ((r : Int) == 0) = false ∨ r = 0 := by
          by_cases h : r = 0
          · exact .inr h
          · exact .inl (by simpa using h)
        rcases hr0 with hr0 | hr0
        · go_wp2_with (go_at_call 111; refine (shifts_any k _ (by omega)).mono ?_; rintro e w' ⟨rfl, rfl⟩)
          go_region
          all_goals
            go_wp2
            go_roundw
            case rel => exact ⟨k + 1, by omega, by go_num, hB.put.drew⟩
            case measure => simp [intOf]; omega
        · subst hr0
          go_wp2_with (go_at_call 111; refine (shifts_any k _ (by omega)).mono ?_; rintro e w' ⟨rfl, rfl⟩)
          go_roundw
          case rel => exact ⟨k + 1, by omega, by go_num, hB.put⟩
          case measure => simp [intOf]; omega
    · obtain rfl : k = 256 := by omega
      go_wp2_with (first
        | (refine wpList_load_row rfl 125 (.tmp 1) rfl (w.heap.size + 1) 125 (tabA 256) _ rfl hB.tab Tryz.underlying125 rfl (by rw [tabA_size]; exact size36) ?_)
        | (refine wpList_store_row rfl 125 (.tmp 0) (.tmp 30) rfl w.heap.size 125 (tabA 0) (tabA 256) rfl rfl hB.res (by rw [tabA_size]; exact size36) (by rw [tabA_size, tabA_size]) (tabA_one 256) ?_))
      refine bodyPost_ret (v := .agg (tabA 256)) ?_ rfl ⟨rfl, below_putRow hB.bel (Nat.le_refl _) _⟩
      exact results_cell_row rfl _ _ w.heap.size 125 (tabA 256) (0, 0) _ rfl (setRow_heap _ _ _ _ _ _ hB.res) Tryz.underlying125 rfl (by rw [tabA_size]; exact size36)
end Go.Proofs.YtohnhboeipckjaaGreatDoor
