/-
  The statement SumPiecesSaid: for every input the law function SumPieces returns true (however bytes come in pieces, their sum is the same; what is sealed is opened as it was), and the arguments read afterwards as before.
  Conditions: none.
-/
import Derived.Test.YtdceabbpniideaaSumArg
import Derived.Test.YtdceabbpniideaaSumOpen
import Derived.Deep.RegionHeld3
namespace Go.Proofs.Ytdceabbpniideaa.sumPieces
open Go.ChangeShapes Go.WideShapes Go.ChangeAt Go.RowKit

theorem word_wf {x : Int} (h : (Lit.int .u16 x).wf = true) : 0 ≤ x ∧ x < 65536 := by
  have h1 : IntKind.u16.min = 0 := rfl
  have h2 : IntKind.u16.max = 65535 := rfl
  simp only [Lit.wf, Bool.and_eq_true, decide_eq_true_eq] at h
  omega
theorem openL_sealL (l : List UInt8) : openL (sealL l) = l := by rw [openL_yes (sealB_sealL l), sealL_take]
theorem back_any (A : Option Addr) (c : Nat) (l : List UInt8) (w : World) (hl : l.length ≤ 300) (hc : l.length + 4 ≤ c) (hb : Byt w w.heap.size A (sealL l)) :
    Calls Try.prog 9 #[.slice A (l.length + 4) c] w fun e w' => ∃ v, e = .returned (.tuple #[v, .bool true]) ∧ w'.ownsRow w.heap.size 5 1 v l.length (cellsB l) ∧ Below w.heap.size w w' := by
  have h := open_any A (sealL l) c w hb (by rw [sealL_len]; exact hc) (by rw [sealL_len]; omega)
  rw [sealB_sealL, openL_sealL, sealL_len] at h
  exact h

/-- the two pieces of a slice -/
theorem of_take {W : World} {A : Option Addr} {l : List UInt8} {k : Nat} (c : Nat) (hb : Byt W W.heap.size A l) (hl : l.length ≤ 300) (hk : k ≤ l.length) : ∀ w', Below W.heap.size W w' →
    Calls Try.prog 10 #[.slice A k c] w' fun e w'' => e = .returned (.int .u32 (crc (l.take k) : Nat)) ∧ Below W.heap.size W w'' := fun w' h => by
  have hn : (l.take k).length = k := by rw [List.length_take]; omega
  have h1 := of_any A (l.take k) c w' (((hb.take k).below h).more h.size) (by omega)
  rw [hn] at h1
  exact h1.mono fun e w'' ⟨he, h2⟩ => ⟨he, h.trans (h2.mono h.size)⟩
theorem of_whole {W : World} {A : Option Addr} {l : List UInt8} (c : Nat) (hb : Byt W W.heap.size A l) (hl : l.length ≤ 300) : ∀ w', Below W.heap.size W w' →
    Calls Try.prog 10 #[.slice A l.length c] w' fun e w'' => e = .returned (.int .u32 (crc l : Nat)) ∧ Below W.heap.size W w'' := fun w' h =>
  (of_any A l c w' ((hb.below h).more h.size) (by omega)).mono fun e w'' ⟨he, h2⟩ => ⟨he, h.trans (h2.mono h.size)⟩
theorem more_drop {W : World} {A : Option Addr} {l : List UInt8} {k : Nat} (c : Nat) (hb : Byt W W.heap.size A l) (hl : l.length ≤ 300) (hk : k ≤ l.length) (hc : l.length ≤ c) : ∀ w', Below W.heap.size W w' →
    Calls Try.prog 15 #[.int .u32 (crc (l.take k) : Nat), .slice (if c = k then A else A.map (·.add k)) (l.length - k) (c - k)] w' fun e w'' => e = .returned (.int .u32 (crc l : Nat)) ∧ Below W.heap.size W w'' := fun w' h => by
  have hn : (l.drop k).length = l.length - k := by rw [List.length_drop]
  have h1 := more_any (crc (l.take k)) (if c = k then A else A.map (·.add k)) (l.drop k) (c - k) w' (crc_lt _) (((hb.drop hc).below h).more h.size) (by omega)
  rw [hn, moreN_take] at h1
  exact h1.mono fun e w'' ⟨he, h2⟩ => ⟨he, h.trans (h2.mono h.size)⟩
theorem fits_whole {W : World} {A : Option Addr} {l : List UInt8} (c : Nat) (hb : Byt W W.heap.size A l) (hl : l.length ≤ 300) : ∀ w', Below W.heap.size W w' →
    Calls Try.prog 14 #[.slice A l.length c, .int .u32 (crc l : Nat)] w' fun e w'' => e = .returned (.bool true) ∧ Below W.heap.size W w'' := fun w' h => by
  have h1 := fits_any A l c (crc l) w' ((hb.below h).more h.size) (by omega)
  rw [show fitB l (crc l) = true by simp [fitB]] at h1
  exact h1.mono fun e w'' ⟨he, h2⟩ => ⟨he, h.trans (h2.mono h.size)⟩

set_option maxHeartbeats 2000000 in
set_option maxRecDepth 100000 in
theorem walk (A : Option Addr) (l : List UInt8) (cp a : Nat) (w : World) (hb : Byt w w.heap.size A l) (hl : l.length ≤ 9223372036854775807) (hcp : l.length ≤ cp) (ha : a < 65536) :
    Calls Try.prog 4 #[.slice A l.length cp, .int .u16 (a : Int)] w fun e w' => e = .returned (.bool true) ∧ Below w.heap.size w w' := by
  by_cases hs : 300 < l.length
  · go_enter Try.func4, Try.ntmps4
    go_wp2_with (go_at_call 7; (refine (awake_any _).mono ?_); rintro e W1 ⟨rfl, b1⟩)
    go_ret
    exact ⟨rfl, b1⟩
  · obtain ⟨k, hk⟩ : ∃ k : Nat, k = a % (l.length + 1) := ⟨_, rfl⟩
    have hk1 : (a : Int) % ((l.length : Int) + 1) = (k : Int) := by rw [hk, Int.natCast_emod]; rfl
    have hk2 : k < l.length + 1 := by rw [hk]; exact Nat.mod_lt _ (by omega)
    clear hk
    have c1 := fun w => run_cut_to (P := Try.prog) w 22 5 Try.underlying22 sizeOf5 A l.length cp (k : Int) (by omega) (by omega)
    have c2 := fun w => run_cut_from (P := Try.prog) w 22 5 Try.underlying22 sizeOf5 A l.length cp (k : Int) (by omega) (by omega)
    simp only [Int.toNat_natCast] at c1 c2
    go_enter Try.func4, Try.ntmps4
    go_wp2_with fail
    refine (awake_any _).mono ?_
    rintro e W1 ⟨rfl, b1⟩
    go_wp2_with fail
    refine (seal_any A l cp W1 ((hb.below b1).more b1.size) (by omega)).mono ?_
    rintro e W2 ⟨v, rfl, hown, b2⟩
    obtain ⟨A2, c22, rfl, hc22⟩ := own_form hown
    have hb2 := Byt.own hown
    clear hown
    go_wp2_with fail
    refine (back_any A2 c22 l W2 (by omega) hc22 hb2).mono ?_
    rintro e W3 ⟨v, rfl, hown, b3⟩
    obtain ⟨A3, c3, rfl, hc3⟩ := own_form hown
    have hb3 := Byt.own hown
    clear hown hb2
    have h12 := b1.trans (b2.mono b1.size)
    have h13 := h12.trans (b3.mono h12.size)
    have hbA := (hb.below h13).more h13.size
    clear hb b1 b2 b3 h12
    have t1 : ∀ w', Below W3.heap.size W3 w' → (convert 22 9 (.slice A3 l.length c3)).run Try.prog w' = .ok (.string ⟨l.toArray⟩) w' := fun w' h => (hb3.below h).text _ _ _ Try.underlying22 Try.underlying5 Try.underlying9 _
    have t2 : ∀ w', Below W3.heap.size W3 w' → (convert 22 9 (.slice A l.length cp)).run Try.prog w' = .ok (.string ⟨l.toArray⟩) w' := fun w' h => (hbA.below h).text _ _ _ Try.underlying22 Try.underlying5 Try.underlying9 _
    have K1 := Lib.hid (of_take cp hbA (by omega) (show k ≤ l.length by omega))
    have K2 := Lib.hid (more_drop cp hbA (by omega) (show k ≤ l.length by omega) hcp)
    have K3 := Lib.hid (of_whole cp hbA (by omega))
    have K4 := Lib.hid (fits_whole cp hbA (by omega))
    generalize (if cp = k then A else A.map (·.add k)) = A5 at c2 K2
    go_wp2_with fail
    go_region_held3 (fun w' => Below W3.heap.size W3 w') (first | exact Below.refl _ _ | exact Below.drew (Below.refl _ _) | assumption)
      (first
        | (go_at_call 15; (with_reducible refine (K2.out _ ?_).mono ?_); (first | assumption | exact Below.drew (Below.refl _ _)); rintro e w' ⟨rfl, hw'⟩)
        | (go_at_call 10; (with_reducible refine (K1.out _ ?_).mono ?_); (first | assumption | exact Below.drew (Below.refl _ _)); rintro e w' ⟨rfl, hw'⟩)
        | (go_at_call 10; (with_reducible refine (K3.out _ ?_).mono ?_); (first | assumption | exact Below.drew (Below.refl _ _)); rintro e w' ⟨rfl, hw'⟩)
        | (go_at_call 14; (with_reducible refine (K4.out _ ?_).mono ?_); (first | assumption | exact Below.drew (Below.refl _ _)); rintro e w' ⟨rfl, hw'⟩))
    all_goals
      go_wp2
      go_ret
      exact ⟨rfl, h13.trans (hw'.mono h13.size)⟩

set_option maxRecDepth 100000 in
theorem lifted (os : Os) (started : os.Started) (H : Type) (enc : TypeId × Value → H) :
    ReturnsInHanded {} Try.checked os 4 .any (Rows.sumPiecesSpec.pre6 enc Try.prog Try.f4 Rows.sumPiecesRow.domain false) (Rows.sumPiecesSpec.post enc Try.prog Try.f4 false true false false) := by
  refine returnsInHanded_of_change_sized (C := Try.checked) own started (by kernel_rfl) Try.func4
    (ChangeSpec.witness6 (enc := enc) (C := Try.checked) false ⟨#[], #[.slice none 0 0, .int .u16 0], []⟩ 8 (by kernel_rfl) (by kernel_rfl) (by kernel_rfl) (by kernel_rfl)) ?_
  intro W base args ds gs before hval0 hW _ _ _
  have hval : ∀ (j : Nat) t v, Try.f4.params[j]? = some t → args[j]? = some v → Value.okWide Try.prog W .any base t v := hval0
  have hW' := hW
  obtain ⟨p, q, hA0, hV, rfl, _, _⟩ := hW
  have hA : DataW.TrodAll enc Try.prog W 0 (fun _ => true) true Try.f4.params.toList args.toList ds p := hA0
  rw [Try.params4] at hA hval
  obtain ⟨rfl, rfl⟩ := trodVars_none hV
  obtain ⟨v0, vs0, d0, ds0, p0, q0, hargs, rfl, rfl, h0, r0⟩ := trodAll_cons hA
  obtain ⟨v1, vs1, d1, ds1, p1, q1, rfl, rfl, rfl, h1, r1⟩ := trodAll_cons r0
  obtain ⟨rfl, rfl, rfl⟩ := trodAll_nil r1
  obtain rfl : args = #[v0, v1] := by cases args; simp_all
  obtain ⟨a0, len, cap, rfl⟩ := okWide_slice Try.underlying22 (hval 0 22 v0 rfl rfl)
  obtain ⟨a1, rfl, rfl, rfl, w1⟩ := open_int Try.underlying30 (hval 1 30 v1 rfl rfl) h1
  clear hA0 hval0
  simp only [List.append_nil] at hW'
  have hlt : ∀ x ∈ p0, x.block < W.heap.size := fun x hx => by simpa using hW'.lt x (by simp [hx])
  obtain ⟨l, rfl, hc, hm, hb⟩ := arg_bytes h0
  have h16 := word_wf w1
  obtain ⟨n1, rfl⟩ : ∃ n : Nat, a1 = (n : Int) := ⟨a1.toNat, by omega⟩
  refine (walk a0 l cap n1 W hb hm hc (by omega)).mono fun e W' ⟨he, bel⟩ => ?_
  subst he
  exact ⟨_, rfl, _, _, _, [], _, [], hW', trodAll_mk1 (shut_bool Try.underlying4 _), (trodAll_cons_mk (Below.trod laidOut (by kernel_rfl) (of_decide_eq_true (by kernel_rfl)) h0 bel hlt) (trodAll_cons_mk (shut_int Try.underlying30 w1) trodAll_mk0)), rfl, bel.frame _, fun h => by cases h⟩

/-- the statement -/
theorem proved : Rows.SumPiecesSaid :=
  OpenClaim.holds_of_wide 4 Try.f4 rfl rfl rfl rfl rfl rfl rfl ⟨rfl, rfl, rfl, rfl, rfl⟩ rfl rfl rfl rfl rfl (by kernel_rfl) Try.func4 (by kernel_rfl)
    (of_decide_eq_true (by kernel_rfl)) (by unfold Func.isWrapper; first | (rw [if_pos (by decide +kernel)]; kernel_rfl) | (rw [if_neg (by decide +kernel)]; exact ⟨rfl, rfl⟩))
    (fun os started H enc _ => lifted os started H enc)
#print axioms proved
end Go.Proofs.Ytdceabbpniideaa.sumPieces
