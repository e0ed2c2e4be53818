/-
  The statement RecordTurnedSaid: for every input the law function RecordTurned returns true (one byte turned in a form makes it none), and the arguments read afterwards as before.
  Conditions: none.
-/
import Derived.Test.YtalbplhjlodfjaaRecArg
import Derived.Test.YtalbplhjlodfjaaRecAll
namespace Go.Proofs.Ytalbplhjlodfjaa.recordTurned
open Go.ChangeShapes Go.WideShapes Go.ChangeAt Go.RowKit

theorem word_wf {x : Int} (h : (Lit.int .u16 x).wf = true) : 0 ≤ x ∧ x < 65536 := by
  have h1 : IntKind.u16.min = 0 := rfl
  have h2 : IntKind.u16.max = 65535 := rfl
  simp only [Lit.wf, Bool.and_eq_true, decide_eq_true_eq] at h
  omega
/-- what is no record at its beginning: Get tells an error -/
theorem get_bad (A : Option Addr) (m : List UInt8) (n c : Nat) (w : World) (hb : Byt w w.heap.size A m) (hn : m.length = n) (hc : n ≤ c) (hl : n ≤ 1000) (he : getE m ≠ 0) :
    Calls Try.prog 8 #[.slice A n c, .int .i64 0] w fun e w' => (∃ v k, e = .returned (.tuple #[v, .int .i64 0, .int .i64 ((k : Nat) : Int)]) ∧ 0 < k) ∧ Below w.heap.size w w' := by
  subst hn
  refine (get_any A m c 0 w hb (by omega) hc (by omega)).mono ?_
  rintro e w' ⟨v, he', _, hB⟩
  rw [List.drop_zero] at he'
  exact ⟨⟨v, getE m, by rw [he', getN_no he]; rfl, by omega⟩, hB⟩
/-- and All none -/
theorem all_bad (A : Option Addr) (m : List UInt8) (n c : Nat) (w : World) (hb : Byt w w.heap.size A m) (hn : m.length = n) (hc : n ≤ c) (hl : n ≤ 1000) (h0 : 0 < n) (he : getE m ≠ 0) :
    Calls Try.prog 10 #[.slice A n c] w fun e w' => (∃ A' c' k, e = .returned (.tuple #[.slice A' 0 c', .int .i64 0, .int .i64 ((k : Nat) : Int)]) ∧ 0 < k) ∧ Below w.heap.size w w' := by
  subst hn
  refine (all_any A m c w hb hc (by omega)).mono ?_
  rintro e w' ⟨xs, v, he', hW, ho, _, hB⟩
  obtain ⟨h1, h2⟩ := hW.same (show Whole m [] 0 from ⟨Rds.start _, by rw [List.drop_zero]; exact he⟩)
  obtain rfl : xs = [] := List.map_eq_nil_iff.1 h1
  obtain ⟨A', c', rfl, _⟩ := own_form ho
  rw [h2] at he'
  refine ⟨⟨A', c', restE m 0, he', ?_⟩, hB⟩
  unfold restE
  rw [if_neg (by omega)]
  split <;> omega

set_option maxHeartbeats 2000000 in
set_option maxRecDepth 100000 in
theorem walk (A : Option Addr) (l : List UInt8) (cp a : Nat) (c : UInt8) (w : World) (hb : Byt w w.heap.size A l) (hl : l.length ≤ 9223372036854775807) (ha : a < 65536) :
    Calls Try.prog 6 #[.slice A l.length cp, .int .u16 (a : Int), .int .u8 (c.toNat : Int)] w fun e w' => e = .returned (.bool true) ∧ Below w.heap.size w w' := by
  by_cases hs : 60 < l.length
  · go_enter Try.func6, Try.ntmps6
    go_wp2_with (go_at_call 7; (refine (awake_any _).mono ?_); rintro e W1 ⟨rfl, b1⟩)
    go_ret
    exact ⟨rfl, b1⟩
  · obtain ⟨k, hk⟩ : ∃ k : Nat, k = a % (l.length + 13) := ⟨_, rfl⟩
    have hk1 : (a : Int) % ((l.length : Int) + 13) = (k : Int) := by rw [hk, Int.natCast_emod]; rfl
    have hk2 : k < l.length + 13 := by rw [hk]; exact Nat.mod_lt _ (by omega)
    have hk3 : k < (putL l).length := by rw [putL_len]; exact hk2
    obtain ⟨x, hx⟩ : ∃ x, x = (putL l)[k] := ⟨_, rfl⟩
    have HX := Lib.hid hx
    clear hk hx
    go_enter Try.func6, Try.ntmps6
    go_wp2_with fail
    refine (awake_any _).mono ?_
    rintro e W1 ⟨rfl, b1⟩
    go_wp2_with fail
    refine (put_any A l cp W1 ((hb.below b1).more b1.size) (by omega)).mono ?_
    rintro e W2 ⟨v, rfl, hown, b2⟩
    obtain ⟨g, cap, rfl, hg, hcap⟩ : ∃ g cap, v = .slice (some ⟨g, 0, none⟩) (l.length + 13) cap ∧ W1.heap.size ≤ g ∧ l.length + 13 ≤ cap := by
      rcases hown.2 with ⟨_, h0⟩ | ⟨g, cap, cur, hv, hg, _, hc, _⟩
      · omega
      · exact ⟨g, cap, hv, hg, hc⟩
    have hcell : W2.cell? ⟨g, k, none⟩ = some (.int .u8 (x.toNat : Int)) := by rw [hown.cellAt k (by omega), HX.out]; exact cellsB_at _ _ hk3
    have hfr := hown.frozenAt k
    have h12 := b1.trans (b2.mono b1.size)
    have HO := Lib.hid hown
    clear hown
    by_cases hxc : x = c
    · have hxb : ((x.toNat : Int) == (c.toNat : Int)) = true := by rw [hxc]; simp
      clear hxc
      go_wp2
      go_ret
      exact ⟨rfl, h12⟩
    · have hxb : ((x.toNat : Int) == (c.toNat : Int)) = false := by
        cases h : ((x.toNat : Int) == (c.toNat : Int)) with
        | false => rfl
        | true => exact absurd (UInt8.toNat_inj.1 (by have := eq_of_beq h; omega)) hxc
      have hne : getE ((putL l).set k c) ≠ 0 := putL_turned (by omega) hk3 (by rw [← HX.out]; exact hxc)
      have hst := (HO.out.stored k (.int .u8 (c.toNat : Int))).1
      rw [cellsB_set] at hst
      have hby := Byt.own hst
      have hn : ((putL l).set k c).length = l.length + 13 := by rw [List.length_set, putL_len]
      have HT := Lib.hid (get_bad _ _ _ cap _ hby hn hcap (by omega) hne)
      have HB := Lib.hid hby
      have HN := Lib.hid hne
      have h13 : Below w.heap.size w (W2.setCell ⟨g, k, none⟩ (.int .u8 (c.toNat : Int))) := h12.setCell (by have := b1.size; simp; omega) _
      clear hst hby hne hxc
      go_wp2_with (first
        | (go_at_call 8; refine HT.out.mono ?_; rintro e W3 ⟨⟨v3, k3, rfl, hk3'⟩, b3⟩; have HA := Lib.hid (all_bad _ _ _ cap W3 ((HB.out.below b3).more b3.size) hn hcap (by omega) (by omega) HN.out))
        | (go_at_call 10; refine HA.out.mono ?_; rintro e W4 ⟨⟨A4, c4, k4, rfl, hk4⟩, b4⟩))
      go_ret
      have h14 := h13.trans (b3.mono h13.size)
      refine ⟨ret_bool ?_, h14.trans (b4.mono h14.size)⟩
      have e3 : ((k3 : Int) != 0) = true := by simp; omega
      have e4 : ((k4 : Int) != 0) = true := by simp; omega
      rw [e3, e4]
      rfl

set_option maxRecDepth 100000 in
theorem lifted (os : Os) (started : os.Started) (H : Type) (enc : TypeId × Value → H) :
    ReturnsInHanded {} Try.checked os 6 .any (Rows.recordTurnedSpec.pre6 enc Try.prog Try.f6 Rows.recordTurnedRow.domain false) (Rows.recordTurnedSpec.post enc Try.prog Try.f6 false true false false) := by
  refine returnsInHanded_of_change_sized (C := Try.checked) own started (by kernel_rfl) Try.func6
    (ChangeSpec.witness6 (enc := enc) (C := Try.checked) false ⟨#[], #[.slice none 0 0, .int .u16 0, .int .u8 0], []⟩ 8 (by kernel_rfl) (by kernel_rfl) (by kernel_rfl) (by kernel_rfl)) ?_
  intro W base args ds gs before hval0 hW _ _ _
  have hval : ∀ (j : Nat) t v, Try.f6.params[j]? = some t → args[j]? = some v → Value.okWide Try.prog W .any base t v := hval0
  have hW' := hW
  obtain ⟨p, q, hA0, hV, rfl, _, _⟩ := hW
  have hA : DataW.TrodAll enc Try.prog W 0 (fun _ => true) true Try.f6.params.toList args.toList ds p := hA0
  rw [Try.params6] at hA hval
  obtain ⟨rfl, rfl⟩ := trodVars_none hV
  obtain ⟨v0, vs0, d0, ds0, p0, q0, hargs, rfl, rfl, h0, r0⟩ := trodAll_cons hA
  obtain ⟨v1, vs1, d1, ds1, p1, q1, rfl, rfl, rfl, h1, r1⟩ := trodAll_cons r0
  obtain ⟨v2, vs2, d2, ds2, p2, q2, rfl, rfl, rfl, h2, r2⟩ := trodAll_cons r1
  obtain ⟨rfl, rfl, rfl⟩ := trodAll_nil r2
  obtain rfl : args = #[v0, v1, v2] := by cases args; simp_all
  obtain ⟨a0, len, cap, rfl⟩ := okWide_slice Try.underlying22 (hval 0 22 v0 rfl rfl)
  obtain ⟨a1, rfl, rfl, rfl, w1⟩ := open_int Try.underlying38 (hval 1 38 v1 rfl rfl) h1
  obtain ⟨a2, rfl, rfl, rfl, w2⟩ := open_int Try.underlying5 (hval 2 5 v2 rfl rfl) h2
  clear hA0 hval0
  simp only [List.append_nil] at hW'
  have hlt : ∀ x ∈ p0, x.block < W.heap.size := fun x hx => by simpa using hW'.lt x (by simp [hx])
  obtain ⟨l, rfl, hc, hm, hb⟩ := arg_bytes h0
  have h16 := word_wf w1
  obtain ⟨n1, rfl⟩ : ∃ n : Nat, a1 = (n : Int) := ⟨a1.toNat, by omega⟩
  have h8 := byte_wf w2
  obtain ⟨n2, rfl⟩ : ∃ n : UInt8, a2 = (n.toNat : Int) := ⟨UInt8.ofNat a2.toNat, by rw [UInt8.toNat_ofNat']; omega⟩
  refine (walk a0 l cap n1 n2 W hb hm (by omega)).mono fun e W' ⟨he, bel⟩ => ?_
  subst he
  exact ⟨_, rfl, _, _, _, [], _, [], hW', trodAll_mk1 (shut_bool Try.underlying4 _), (trodAll_cons_mk (Below.trod laidOut (by kernel_rfl) (of_decide_eq_true (by kernel_rfl)) h0 bel hlt) (trodAll_cons_mk (shut_int Try.underlying38 w1) (trodAll_cons_mk (shut_int Try.underlying5 w2) trodAll_mk0))), rfl, bel.frame _, fun h => by cases h⟩

/-- the statement -/
theorem proved : Rows.RecordTurnedSaid :=
  OpenClaim.holds_of_wide 6 Try.f6 rfl rfl rfl rfl rfl rfl rfl ⟨rfl, rfl, rfl, rfl, rfl⟩ rfl rfl rfl rfl rfl (by kernel_rfl) Try.func6 (by kernel_rfl)
    (of_decide_eq_true (by kernel_rfl)) (by unfold Func.isWrapper; first | (rw [if_pos (by decide +kernel)]; kernel_rfl) | (rw [if_neg (by decide +kernel)]; exact ⟨rfl, rfl⟩))
    (fun os started H enc _ => lifted os started H enc)
#print axioms proved
end Go.Proofs.Ytalbplhjlodfjaa.recordTurned
