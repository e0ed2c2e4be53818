/-
  The statement SumTurnedSaid: for every input the law function SumTurned returns true (nothing sealed is opened with a byte turned), and the arguments read afterwards as before.
  Conditions: none.
-/
import Derived.Test.YtdceabbpniideaaSumArg
import Derived.Test.YtdceabbpniideaaSumOpen
namespace Go.Proofs.Ytdceabbpniideaa.sumTurned
open Go.ChangeShapes Go.WideShapes Go.ChangeAt Go.RowKit

theorem turned_any (g cap base : Nat) (l : List UInt8) (k : Nat) (c : UInt8) (w : World) (hl : l.length ≤ 300) (hk : k < (sealL l).length) (hc : (sealL l)[k] ≠ c)
    (ho : w.ownsRow base 5 1 (.slice (some ⟨g, 0, none⟩) (l.length + 4) cap) (l.length + 4) ((cellsB (sealL l)).set k (.int .u8 (c.toNat : Int)))) :
    Calls Try.prog 9 #[.slice (some ⟨g, 0, none⟩) (l.length + 4) cap] w fun e w' => ∃ v, e = .returned (.tuple #[v, .bool false]) ∧ Below w.heap.size w w' := by
  rw [cellsB_set] at ho
  obtain ⟨A, c2, hv, hcap⟩ := own_form ho
  injection hv with _ _ hv3
  have hn : ((sealL l).set k c).length = l.length + 4 := by rw [List.length_set, sealL_len]
  have h := open_any (some ⟨g, 0, none⟩) ((sealL l).set k c) cap w (Byt.own ho) (by rw [hn, hv3]; exact hcap) (by rw [hn]; omega)
  rw [hn, seal_turned l hk hc] at h
  exact h.mono fun e w' ⟨v, he, _, hB⟩ => ⟨v, he, hB⟩

theorem word_wf {x : Int} (h : (Lit.int .u16 x).wf = true) : 0 ≤ x ∧ x < 65536 := by
  have h1 : IntKind.u16.min = 0 := rfl
  have h2 : IntKind.u16.max = 65535 := rfl
  simp only [Lit.wf, Bool.and_eq_true, decide_eq_true_eq] at h
  omega

set_option maxHeartbeats 2000000 in
set_option maxRecDepth 100000 in
theorem walk (A : Option Addr) (l : List UInt8) (cp a : Nat) (c : UInt8) (w : World) (hb : Byt w w.heap.size A l) (hl : l.length ≤ 9223372036854775807) (ha : a < 65536) :
    Calls Try.prog 5 #[.slice A l.length cp, .int .u16 (a : Int), .int .u8 (c.toNat : Int)] w fun e w' => e = .returned (.bool true) ∧ Below w.heap.size w w' := by
  by_cases hs : 300 < l.length
  · go_enter Try.func5, Try.ntmps5
    go_wp2_with (go_at_call 7; (refine (awake_any _).mono ?_); rintro e W1 ⟨rfl, b1⟩)
    go_ret
    exact ⟨rfl, b1⟩
  · obtain ⟨k, hk⟩ : ∃ k : Nat, k = a % (l.length + 4) := ⟨_, rfl⟩
    have hk1 : (a : Int) % ((l.length : Int) + 4) = (k : Int) := by rw [hk, Int.natCast_emod]; rfl
    have hk2 : k < l.length + 4 := by rw [hk]; exact Nat.mod_lt _ (by omega)
    have hk3 : k < (sealL l).length := by rw [sealL_len]; exact hk2
    obtain ⟨x, hx⟩ : ∃ x, x = (sealL l)[k] := ⟨_, rfl⟩
    have HX := Lib.hid hx
    clear hk hx
    go_enter Try.func5, Try.ntmps5
    go_wp2_with fail
    refine (awake_any _).mono ?_
    rintro e W1 ⟨rfl, b1⟩
    go_wp2_with fail
    refine (seal_any A l cp W1 ((hb.below b1).more b1.size) (by omega)).mono ?_
    rintro e W2 ⟨v, rfl, hown, b2⟩
    obtain ⟨g, cap, rfl, hg⟩ : ∃ g cap, v = .slice (some ⟨g, 0, none⟩) (l.length + 4) cap ∧ W1.heap.size ≤ g := by
      rcases hown.2 with ⟨_, h0⟩ | ⟨g, cap, cur, hv, hg, _⟩
      · omega
      · exact ⟨g, cap, hv, hg⟩
    have hcell : W2.cell? ⟨g, k, none⟩ = some (.int .u8 (x.toNat : Int)) := by rw [hown.cellAt k (by omega), HX.out]; exact cellsB_at _ _ hk3
    have hfr := hown.frozenAt k
    have h12 := b1.trans (b2.mono b1.size)
    have HO := Lib.hid hown
    clear hown
    by_cases hxc : x = c
    · have hxb : ((x.toNat : Int) == (c.toNat : Int)) = true := by rw [hxc]; simp
      clear hxc
      go_wp2
      go_ret
      exact ⟨rfl, h12⟩
    · have hxb : ((x.toNat : Int) == (c.toNat : Int)) = false := by
        cases h : ((x.toNat : Int) == (c.toNat : Int)) with
        | false => rfl
        | true => exact absurd (UInt8.toNat_inj.1 (by have := eq_of_beq h; omega)) hxc
      have HXC := Lib.hid hxc
      clear hxc
      have hst := HO.out.stored k (.int .u8 (c.toNat : Int))
      have HT := Lib.hid (turned_any g cap _ l k c _ (by omega) hk3 (by rw [← HX.out]; exact HXC.out) hst.1)
      clear hst
      go_wp2_with (go_at_call 9; refine HT.out.mono ?_; rintro e W3 ⟨v3, rfl, b3⟩)
      go_ret
      have h13 : Below w.heap.size w (W2.setCell ⟨g, k, none⟩ (.int .u8 (c.toNat : Int))) := h12.setCell (by have := b1.size; simp; omega) _
      exact ⟨rfl, h13.trans (b3.mono h13.size)⟩

set_option maxRecDepth 100000 in
theorem lifted (os : Os) (started : os.Started) (H : Type) (enc : TypeId × Value → H) :
    ReturnsInHanded {} Try.checked os 5 .any (Rows.sumTurnedSpec.pre6 enc Try.prog Try.f5 Rows.sumTurnedRow.domain false) (Rows.sumTurnedSpec.post enc Try.prog Try.f5 false true false false) := by
  refine returnsInHanded_of_change_sized (C := Try.checked) own started (by kernel_rfl) Try.func5
    (ChangeSpec.witness6 (enc := enc) (C := Try.checked) false ⟨#[], #[.slice none 0 0, .int .u16 0, .int .u8 0], []⟩ 8 (by kernel_rfl) (by kernel_rfl) (by kernel_rfl) (by kernel_rfl)) ?_
  intro W base args ds gs before hval0 hW _ _ _
  have hval : ∀ (j : Nat) t v, Try.f5.params[j]? = some t → args[j]? = some v → Value.okWide Try.prog W .any base t v := hval0
  have hW' := hW
  obtain ⟨p, q, hA0, hV, rfl, _, _⟩ := hW
  have hA : DataW.TrodAll enc Try.prog W 0 (fun _ => true) true Try.f5.params.toList args.toList ds p := hA0
  rw [Try.params5] at hA hval
  obtain ⟨rfl, rfl⟩ := trodVars_none hV
  obtain ⟨v0, vs0, d0, ds0, p0, q0, hargs, rfl, rfl, h0, r0⟩ := trodAll_cons hA
  obtain ⟨v1, vs1, d1, ds1, p1, q1, rfl, rfl, rfl, h1, r1⟩ := trodAll_cons r0
  obtain ⟨v2, vs2, d2, ds2, p2, q2, rfl, rfl, rfl, h2, r2⟩ := trodAll_cons r1
  obtain ⟨rfl, rfl, rfl⟩ := trodAll_nil r2
  obtain rfl : args = #[v0, v1, v2] := by cases args; simp_all
  obtain ⟨a0, len, cap, rfl⟩ := okWide_slice Try.underlying22 (hval 0 22 v0 rfl rfl)
  obtain ⟨a1, rfl, rfl, rfl, w1⟩ := open_int Try.underlying30 (hval 1 30 v1 rfl rfl) h1
  obtain ⟨a2, rfl, rfl, rfl, w2⟩ := open_int Try.underlying5 (hval 2 5 v2 rfl rfl) h2
  clear hA0 hval0
  simp only [List.append_nil] at hW'
  have hlt : ∀ x ∈ p0, x.block < W.heap.size := fun x hx => by simpa using hW'.lt x (by simp [hx])
  obtain ⟨l, rfl, hc, hm, hb⟩ := arg_bytes h0
  have h16 := word_wf w1
  have h8 := byte_wf w2
  obtain ⟨n1, rfl⟩ : ∃ n : Nat, a1 = (n : Int) := ⟨a1.toNat, by omega⟩
  obtain ⟨n2, rfl⟩ : ∃ n : UInt8, a2 = (n.toNat : Int) := ⟨UInt8.ofNat a2.toNat, by rw [UInt8.toNat_ofNat']; omega⟩
  refine (walk a0 l cap n1 n2 W hb hm (by omega)).mono fun e W' ⟨he, bel⟩ => ?_
  subst he
  exact ⟨_, rfl, _, _, _, [], _, [], hW', trodAll_mk1 (shut_bool Try.underlying4 _), (trodAll_cons_mk (Below.trod laidOut (by kernel_rfl) (of_decide_eq_true (by kernel_rfl)) h0 bel hlt) (trodAll_cons_mk (shut_int Try.underlying30 w1) (trodAll_cons_mk (shut_int Try.underlying5 w2) trodAll_mk0))), rfl, bel.frame _, fun h => by cases h⟩

/-- the statement -/
theorem proved : Rows.SumTurnedSaid :=
  OpenClaim.holds_of_wide 5 Try.f5 rfl rfl rfl rfl rfl rfl rfl ⟨rfl, rfl, rfl, rfl, rfl⟩ rfl rfl rfl rfl rfl (by kernel_rfl) Try.func5 (by kernel_rfl)
    (of_decide_eq_true (by kernel_rfl)) (by unfold Func.isWrapper; first | (rw [if_pos (by decide +kernel)]; kernel_rfl) | (rw [if_neg (by decide +kernel)]; exact ⟨rfl, rfl⟩))
    (fun os started H enc _ => lifted os started H enc)
#print axioms proved
end Go.Proofs.Ytdceabbpniideaa.sumTurned
