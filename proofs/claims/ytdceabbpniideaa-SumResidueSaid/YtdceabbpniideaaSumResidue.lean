/-
  The statement SumResidueSaid: for every input the law function SumResidue returns true (the sum of all that is sealed is one and the same), and the argument reads afterwards as before.
  Conditions: none.
-/
import Derived.Test.YtdceabbpniideaaSumArg
namespace Go.Proofs.Ytdceabbpniideaa.sumResidue
open Go.ChangeShapes Go.WideShapes Go.ChangeAt Go.RowKit

theorem res_any (A : Option Addr) (l m : List UInt8) (c : Nat) (w : World) (hb : Byt w w.heap.size A m) (hm : m = sealL l) (hl : l.length ≤ 300) :
    Calls Try.prog 10 #[.slice A (l.length + 4) c] w fun e w' => e = .returned (.int .u32 558161692) ∧ Below w.heap.size w w' := by
  have h := of_any A m c w hb (by rw [hm, sealL_len]; omega)
  rw [hm, crc_sealL, sealL_len] at h
  exact h

set_option maxHeartbeats 1000000 in
set_option maxRecDepth 100000 in
theorem walk (A : Option Addr) (l : List UInt8) (c : Nat) (w : World) (hb : Byt w w.heap.size A l) (hl : l.length ≤ 9223372036854775807) :
    Calls Try.prog 6 #[.slice A l.length c] w fun e w' => e = .returned (.bool true) ∧ Below w.heap.size w w' := by
  by_cases hs : 300 < l.length
  · go_enter Try.func6, Try.ntmps6
    go_wp2_with (go_at_call 7; (refine (awake_any _).mono ?_); rintro e W1 ⟨rfl, b1⟩)
    go_ret
    exact ⟨rfl, b1⟩
  · go_enter Try.func6, Try.ntmps6
    go_wp2_with (first
      | (go_at_call 7; (refine (awake_any _).mono ?_); rintro e W1 ⟨rfl, b1⟩)
      | (go_at_call 12; (refine (seal_any A l c W1 ((hb.below b1).more b1.size) (by omega)).mono ?_); rintro e W2 ⟨v, rfl, hown, b2⟩; obtain ⟨A2, c2, rfl, hc2⟩ := own_form hown)
      | (go_at_call 10; (refine (res_any A2 l _ c2 W2 (Byt.own hown) rfl (by omega)).mono ?_); rintro e W3 ⟨rfl, b3⟩))
    go_ret
    have h2 := b1.trans (b2.mono b1.size)
    exact ⟨rfl, h2.trans (b3.mono h2.size)⟩

set_option maxRecDepth 100000 in
theorem lifted (os : Os) (started : os.Started) (H : Type) (enc : TypeId × Value → H) :
    ReturnsInHanded {} Try.checked os 6 .any (Rows.sumResidueSpec.pre6 enc Try.prog Try.f6 Rows.sumResidueRow.domain false) (Rows.sumResidueSpec.post enc Try.prog Try.f6 false true false false) := by
  refine returnsInHanded_of_change_sized (C := Try.checked) own started (by kernel_rfl) Try.func6
    (ChangeSpec.witness6 (enc := enc) (C := Try.checked) false ⟨#[], #[.slice none 0 0], []⟩ 8 (by kernel_rfl) (by kernel_rfl) (by kernel_rfl) (by kernel_rfl)) ?_
  intro W base args ds gs before hval0 hW _ _ _
  have hval : ∀ (j : Nat) t v, Try.f6.params[j]? = some t → args[j]? = some v → Value.okWide Try.prog W .any base t v := hval0
  have hW' := hW
  obtain ⟨p, q, hA0, hV, rfl, _, _⟩ := hW
  have hA : DataW.TrodAll enc Try.prog W 0 (fun _ => true) true Try.f6.params.toList args.toList ds p := hA0
  rw [Try.params6] at hA hval
  obtain ⟨rfl, rfl⟩ := trodVars_none hV
  obtain ⟨v0, vs0, d0, ds0, p0, q0, hargs, rfl, rfl, h0, r0⟩ := trodAll_cons hA
  obtain ⟨rfl, rfl, rfl⟩ := trodAll_nil r0
  obtain rfl : args = #[v0] := by cases args; simp_all
  obtain ⟨a0, len, cap, rfl⟩ := okWide_slice Try.underlying22 (hval 0 22 v0 rfl rfl)
  clear hA0 hval0
  simp only [List.append_nil] at hW'
  have hlt : ∀ x ∈ p0, x.block < W.heap.size := fun x hx => by simpa using hW'.lt x (by simp [hx])
  obtain ⟨l, rfl, hc, hm, hb⟩ := arg_bytes h0
  refine (walk a0 l cap W hb hm).mono fun e W' ⟨he, bel⟩ => ?_
  subst he
  exact ⟨_, rfl, _, _, _, [], _, [], hW', trodAll_mk1 (shut_bool Try.underlying4 _), (trodAll_cons_mk (Below.trod laidOut (by kernel_rfl) (of_decide_eq_true (by kernel_rfl)) h0 bel hlt) trodAll_mk0), rfl, bel.frame _, fun h => by cases h⟩

/-- the statement -/
theorem proved : Rows.SumResidueSaid :=
  OpenClaim.holds_of_wide 6 Try.f6 rfl rfl rfl rfl rfl rfl rfl ⟨rfl, rfl, rfl, rfl, rfl⟩ rfl rfl rfl rfl rfl (by kernel_rfl) Try.func6 (by kernel_rfl)
    (of_decide_eq_true (by kernel_rfl)) (by unfold Func.isWrapper; first | (rw [if_pos (by decide +kernel)]; kernel_rfl) | (rw [if_neg (by decide +kernel)]; exact ⟨rfl, rfl⟩))
    (fun os started H enc _ => lifted os started H enc)
#print axioms proved
end Go.Proofs.Ytdceabbpniideaa.sumResidue
