/-
  An argument of type []byte, opened: the list of its bytes.
  Conditions: none.
-/
import Derived.Test.YtohnhboeipckjaaGreatDoorRecAwake
import Derived.ProofKit
import Derived.OpenShut
import Derived.SizedLaws
import Derived.Carry
namespace Go.Proofs.YtohnhboeipckjaaGreatDoor
open Go.ChangeShapes Go.WideShapes Go.ChangeAt Go.RowKit

theorem own : ownKnob Tryz.prog.godebug = none := by kernel_rfl
theorem laidOut : laidOutB Tryz.prog = true := by kernel_rfl
theorem cells5 : Tryz.prog.cellsOf 5 = 1 := by kernel_rfl
theorem byte_wf {x : Int} (h : (Lit.int .u8 x).wf = true) : 0 ≤ x ∧ x < 256 := by
  have h1 : IntKind.u8.min = 0 := rfl
  have h2 : IntKind.u8.max = 255 := rfl
  simp only [Lit.wf, Bool.and_eq_true, decide_eq_true_eq] at h
  omega
theorem arg_bytes {H : Type} {enc : TypeId × Value → H} {W : World} {a0 : Option Addr} {len cap : Nat} {d0 : DataW H} {p : List MemPlace}
    (h0 : DataW.Trod enc Tryz.prog W 0 (fun _ => true) true 31 (.slice a0 len cap) d0 p) :
    ∃ l : List UInt8, len = l.length ∧ l.length ≤ cap ∧ l.length ≤ 9223372036854775807 ∧ Byt W W.heap.size a0 l := by
  obtain ⟨fuel, hf⟩ := h0
  rcases open_ints Tryz.underlying31 Tryz.underlying5 cells5 hf with ⟨hcs, _⟩ | ⟨a, len', cap', zs, hcs, _, hl, hm, hz, _, hcell, hwz⟩
  · simp [Value.cells] at hcs
    obtain ⟨rfl, rfl, rfl⟩ := hcs
    exact ⟨[], rfl, Nat.le_refl _, by simp, Byt.none _ _ _⟩
  · simp [Value.cells] at hcs
    obtain ⟨rfl, rfl, rfl⟩ := hcs
    simp only [if_true] at hz
    have hlen : ((zs.take len).map fun n => UInt8.ofNat n.toNat).length = len := by simp; omega
    refine ⟨(zs.take len).map fun n => UInt8.ofNat n.toNat, hlen.symm, by omega, by unfold maxLen at hm; omega, fun hne => ?_⟩
    have hpos : 0 < zs.length := by
      rcases Nat.eq_zero_or_pos zs.length with h | h
      · exact absurd (List.eq_nil_of_length_eq_zero (by simp; omega)) hne
      · exact h
    have h0 := hcell 0 hpos
    have hs : a.spot = none := World.cell?_spot (by simpa [Addr.add] using h0)
    obtain ⟨b, o, sp⟩ := a
    simp only at hs
    subst hs
    refine ⟨b, o, rfl, by simpa [Addr.add] using World.block_lt_of_cell? _ _ h0, fun k hk => ?_⟩
    have hk' : k < zs.length := by simp at hk; omega
    have hc := hcell k hk'
    rw [show (⟨b, o, none⟩ : Addr).add k = ⟨b, o + k, none⟩ by unfold Addr.add; split <;> simp_all] at hc
    rw [hc]
    have hw := byte_wf (hwz zs[k] (List.getElem_mem hk'))
    simp only [List.getElem_map, List.getElem_take, UInt8.toNat_ofNat', List.getD, List.getElem?_eq_getElem hk', Option.getD_some, Option.some.injEq, Value.int.injEq, true_and]
    omega
end Go.Proofs.YtohnhboeipckjaaGreatDoor
