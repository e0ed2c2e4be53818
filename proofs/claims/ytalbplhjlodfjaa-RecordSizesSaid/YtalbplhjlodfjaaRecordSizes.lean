/-
  The statement RecordSizesSaid: for every input the law function RecordSizes returns true (which payloads have a form, and how long it is, is as the document says), and the argument reads afterwards as before.
  Conditions: none.
-/
import Derived.Test.YtalbplhjlodfjaaRecArg
namespace Go.Proofs.Ytalbplhjlodfjaa.recordSizes
open Go.ChangeShapes Go.WideShapes Go.ChangeAt Go.RowKit

theorem zeros (n : Nat) : (madeCells (Value.int .u8 0).cells (n * 1)).toList = cellsB (List.replicate n 0) := by
  apply List.ext_getElem
  · simp [size_madeCells, cellsB]
  · intro i h1 h2
    have hi : i < n := by simpa [cellsB] using h2
    simp [madeCells, cellsB, Value.cells, Nat.mod_one]

set_option maxHeartbeats 1000000 in
set_option maxRecDepth 100000 in
theorem walk (n : Int) (w : World) :
    Calls Try.prog 5 #[.int .i64 n] w fun e w' => e = .returned (.bool true) ∧ Below w.heap.size w w' := by
  obtain ⟨i0, hi0, hz0, hz1, hz2⟩ := info_parts info5
  have HZ := Lib.hid hz2
  by_cases h0 : n < 0
  · have hd : decide (n < 0) = true := by simpa using h0
    have hsz : sizeI n = 0 := by unfold sizeI; rw [if_pos (.inl h0)]
    go_enter Try.func5, Try.ntmps5
    go_wp2_with (first
      | (go_at_call 7; (with_reducible refine (awake_any _).mono ?_); rintro e W1 ⟨rfl, b1⟩)
      | (go_at_call 15; (with_reducible refine (size_any _ _).mono ?_); rw [hsz]; rintro e W3 ⟨rfl, rfl⟩))
    go_ret
    exact ⟨rfl, b1⟩
  · have hd : decide (n < 0) = false := by simp; omega
    obtain ⟨k, rfl⟩ : ∃ k : Nat, n = (k : Int) := ⟨n.toNat, by omega⟩
    clear h0
    by_cases hbig : 65600 < k
    · have hsz : sizeI (k : Int) = 0 := by unfold sizeI; rw [if_pos (.inr (by omega))]
      go_enter Try.func5, Try.ntmps5
      go_wp2_with (first
        | (go_at_call 7; (with_reducible refine (awake_any _).mono ?_); rintro e W1 ⟨rfl, b1⟩)
        | (go_at_call 15; (with_reducible refine (size_any _ _).mono ?_); rw [hsz]; rintro e W3 ⟨rfl, rfl⟩))
      go_ret
      exact ⟨rfl, b1⟩
    · by_cases hmid : 300 < k ∧ k < 65530
      · have hd3 : decide ((300 : Int) < (k : Int)) = true := by simp; omega
        have hsz : sizeI (k : Int) = 13 + (k : Int) := sizeI_nat (by omega)
        have hd4 : decide ((k : Int) < 65530) = true := by simp; omega
        have hwr : wrap64 (13 + (k : Int)) = 13 + (k : Int) := by unfold wrap64; omega
        have hd5 : decide ((65600 : Int) < (k : Int)) = false := by simp; omega
        clear hmid hbig
        go_enter Try.func5, Try.ntmps5
        go_wp2_with (first
          | (go_at_call 7; (with_reducible refine (awake_any _).mono ?_); rintro e W1 ⟨rfl, b1⟩)
          | (go_at_call 15; (with_reducible refine (size_any _ _).mono ?_); rw [hsz]; rintro e W3 ⟨rfl, rfl⟩))
        go_ret
        exact ⟨rfl, b1⟩
      · by_cases hlg : 65536 < k
        · have hd3 : decide ((300 : Int) < (k : Int)) = true := by simp; omega
          have hsz : sizeI (k : Int) = 0 := by unfold sizeI; rw [if_pos (.inr (by omega))]
          have hd4 : decide ((k : Int) < 65530) = false := by simp; omega
          have hd5 : decide ((65600 : Int) < (k : Int)) = false := by simp; omega
          have hd6 : decide ((65536 : Int) < (k : Int)) = true := by simp; omega
          have HB : Hid (i0.bytes * k ≤ 281474976710656 ∧ k ≤ maxLen) := ⟨by rw [HZ.out]; omega, by unfold maxLen; omega⟩
          have HG := Lib.hid hlg
          clear hmid hbig hlg
          go_enter Try.func5, Try.ntmps5
          go_wp2_with (first
            | (go_at_call 7; (with_reducible refine (awake_any _).mono ?_); rintro e W1 ⟨rfl, b1⟩)
            | (go_at_call 15; (with_reducible refine (size_any _ _).mono ?_); rw [hsz]; rintro e W3 ⟨rfl, rfl⟩)
            | (refine wpList_make_full _ rfl _ _ 22 rfl W1.heap.size 5 i0 _ 1 Try.underlying22 hi0 hz0 hz1 _ _ _ _ k rfl rfl rfl rfl HB.out.1 HB.out.2 (Nat.le_refl _) ?_; intro w2 hown2 hg2; have b2 : Below W1.heap.size W1 w2 := (Below.refl _ _).grown hg2 (Nat.le_refl _) (by simp); clear hown2)
            | (go_at_call 13; (with_reducible refine (put_large _ k _ _ HG.out).mono ?_); rintro e W4 ⟨rfl, rfl⟩))
          go_ret
          exact ⟨rfl, b1.trans (b2.mono b1.size)⟩
        · have hsz : sizeI (k : Int) = 13 + (k : Int) := sizeI_nat (by omega)
          have hle : k ≤ 65536 := by omega
          have key : decide ((300 : Int) < (k : Int)) = false ∨ (decide ((300 : Int) < (k : Int)) = true ∧ decide ((k : Int) < 65530) = false) := by
            rcases Nat.lt_or_ge 300 k with h | h
            · exact .inr ⟨by simp; omega, by simp; omega⟩
            · exact .inl (by simp; omega)
          have HP : Hid (∀ W1 w2 : World, Below W1.heap.size W1 w2 → w2.ownsRow W1.heap.size 5 1 (.slice (some ⟨W1.heap.size, 0, none⟩) k k) k (madeCells (Value.int .u8 0).cells (k * 1)).toList →
              Calls Try.prog 13 #[.slice (some ⟨W1.heap.size, 0, none⟩) k k] w2 fun e w' => (∃ A c, e = .returned (.tuple #[.slice A (k + 13) c, .int .i64 0])) ∧ Below W1.heap.size W1 w') := fun W1 w2 b2 ho => by
            rw [zeros] at ho
            have h := put_any (some ⟨W1.heap.size, 0, none⟩) (List.replicate k 0) k w2 (Byt.own ho) (by simpa using hle)
            rw [List.length_replicate] at h
            refine h.mono ?_
            rintro e w' ⟨v, rfl, ho2, hB⟩
            obtain ⟨A, c, rfl, _⟩ := own_form ho2
            exact ⟨⟨A, c, rfl⟩, b2.trans (hB.mono b2.size)⟩
          have hd5 : decide ((65600 : Int) < (k : Int)) = false := by simp; omega
          have hd6 : decide ((65536 : Int) < (k : Int)) = false := by simp; omega
          have hwr : wrap64 (13 + (k : Int)) = 13 + (k : Int) := by unfold wrap64; omega
          have HB : Hid (i0.bytes * k ≤ 281474976710656 ∧ k ≤ maxLen) := ⟨by rw [HZ.out]; omega, by unfold maxLen; omega⟩
          clear hmid hbig hlg hle
          rcases key with hd3 | ⟨hd3, hd4⟩
          all_goals
            go_enter Try.func5, Try.ntmps5
            go_wp2_with (first
              | (go_at_call 7; (with_reducible refine (awake_any _).mono ?_); rintro e W1 ⟨rfl, b1⟩)
              | (go_at_call 15; (with_reducible refine (size_any _ _).mono ?_); rw [hsz]; rintro e W3 ⟨rfl, rfl⟩)
              | (refine wpList_make_full _ rfl _ _ 22 rfl W1.heap.size 5 i0 _ 1 Try.underlying22 hi0 hz0 hz1 _ _ _ _ k rfl rfl rfl rfl HB.out.1 HB.out.2 (Nat.le_refl _) ?_; intro w2 hown2 hg2; have b2 : Below W1.heap.size W1 w2 := (Below.refl _ _).grown hg2 (Nat.le_refl _) (by simp); have HQ := Lib.hid (HP.out W1 w2 b2 hown2); clear hown2)
              | (go_at_call 13; (with_reducible refine HQ.out.mono ?_); rintro e W4 ⟨⟨A4, c4, rfl⟩, b4⟩))
            go_ret
            refine ⟨ret_bool ?_, b1.trans (b4.mono b1.size)⟩
            simp
            omega

set_option maxRecDepth 100000 in
theorem lifted (os : Os) (started : os.Started) (H : Type) (enc : TypeId × Value → H) :
    ReturnsInHanded {} Try.checked os 5 .any (Rows.recordSizesSpec.pre6 enc Try.prog Try.f5 Rows.recordSizesRow.domain false) (Rows.recordSizesSpec.post enc Try.prog Try.f5 false true false false) := by
  refine returnsInHanded_of_change_sized (C := Try.checked) own started (by kernel_rfl) Try.func5
    (ChangeSpec.witness6 (enc := enc) (C := Try.checked) false ⟨#[], #[.int .i64 0], []⟩ 8 (by kernel_rfl) (by kernel_rfl) (by kernel_rfl) (by kernel_rfl)) ?_
  intro W base args ds gs before hval0 hW _ _ _
  have hval : ∀ (j : Nat) t v, Try.f5.params[j]? = some t → args[j]? = some v → Value.okWide Try.prog W .any base t v := hval0
  have hW' := hW
  obtain ⟨p, q, hA0, hV, rfl, _, _⟩ := hW
  have hA : DataW.TrodAll enc Try.prog W 0 (fun _ => true) true Try.f5.params.toList args.toList ds p := hA0
  rw [Try.params5] at hA hval
  obtain ⟨rfl, rfl⟩ := trodVars_none hV
  obtain ⟨v0, vs0, d0, ds0, p0, q0, hargs, rfl, rfl, h0, r0⟩ := trodAll_cons hA
  obtain ⟨rfl, rfl, rfl⟩ := trodAll_nil r0
  obtain rfl : args = #[v0] := by cases args; simp_all
  obtain ⟨a0, rfl, rfl, rfl, w0⟩ := open_int Try.underlying3 (hval 0 3 v0 rfl rfl) h0
  clear hA0 hval0
  simp only [List.append_nil] at hW'
  refine (walk a0 W).mono fun e W' ⟨he, bel⟩ => ?_
  subst he
  exact ⟨_, rfl, _, _, _, [], _, [], hW', trodAll_mk1 (shut_bool Try.underlying4 _), (trodAll_cons_mk (shut_int Try.underlying3 w0) trodAll_mk0), rfl, bel.frame _, fun h => by cases h⟩

/-- the statement -/
theorem proved : Rows.RecordSizesSaid :=
  OpenClaim.holds_of_wide 5 Try.f5 rfl rfl rfl rfl rfl rfl rfl ⟨rfl, rfl, rfl, rfl, rfl⟩ rfl rfl rfl rfl rfl (by kernel_rfl) Try.func5 (by kernel_rfl)
    (of_decide_eq_true (by kernel_rfl)) (by unfold Func.isWrapper; first | (rw [if_pos (by decide +kernel)]; kernel_rfl) | (rw [if_neg (by decide +kernel)]; exact ⟨rfl, rfl⟩))
    (fun os started H enc _ => lifted os started H enc)
#print axioms proved
end Go.Proofs.Ytalbplhjlodfjaa.recordSizes
