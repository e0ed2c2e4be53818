/-
  What the program's goodRow answers: whether a key may be made of a row of names.
  Conditions: the row's texts lie in memory as they are named, each of at most 2^45 bytes.
-/
import Derived.Test.YtcnpgoblojmbmaaDoorLabRunes
namespace Go.Proofs.YtcnpgoblojmbmaaDoor
open Go.RowKit

def rowB (ls : List (List UInt8)) : Bool := decide (1 ≤ ls.length) && decide (ls.length ≤ 8) && ls.all nameB
abbrev texts (xs : List ByteArray) : List (List UInt8) := xs.map (·.data.toList)
/-- a row of texts lies at a place -/
def LiesAt (w : World) (bk o : Nat) (xs : List ByteArray) : Prop := bk < w.heap.size ∧ ∀ (j : Nat) x, xs[j]? = some x → w.cell? ⟨bk, o + j, none⟩ = some (.string x)
theorem LiesAt.below {w w' : World} {bk o : Nat} {xs : List ByteArray} (h : LiesAt w bk o xs) (hb : Below w.heap.size w w') : LiesAt w' bk o xs :=
  ⟨Nat.lt_of_lt_of_le h.1 hb.size, fun j x hx => (hb.cell (p := ⟨bk, o + j, none⟩) h.1).trans (h.2 j x hx)⟩

set_option maxHeartbeats 4000000 in
set_option maxRecDepth 1000000 in
theorem row_any (xs : List ByteArray) (n bk o c : Nat) (w : World) (hn : xs.length = n) (hnb : n ≤ 1000000) (hL : LiesAt w bk o xs) (hx : ∀ x ∈ xs, x.size ≤ 35184372088832) :
    Calls Tryd.prog 26 #[.slice (some ⟨bk, o, none⟩) n c] w fun e w' => e = .returned (.bool (rowB (texts xs))) ∧ Below w.heap.size w w' := by
  have HL := Lib.hid hL
  have Hx := Lib.hid hx
  have Hn := Lib.hid hn
  clear hL hx hn
  by_cases h1 : n < 1
  · have hr : rowB (texts xs) = false := by
      unfold rowB
      have h0 : ¬ 1 ≤ (texts xs).length := by rw [List.length_map, Hn.out]; omega
      rw [decide_eq_false h0]; simp
    have Hr := Lib.hid hr
    clear hr
    go_enter Tryd.func26, Tryd.ntmps26
    go_wp2_with (fail)
    go_ret
    exact ⟨ret_bool Hr.out.symm, Below.refl _ _⟩
  by_cases h8 : 8 < n
  · have hr : rowB (texts xs) = false := by
      unfold rowB
      have h0 : ¬ (texts xs).length ≤ 8 := by rw [List.length_map, Hn.out]; omega
      rw [decide_eq_false h0]; simp
    have Hr := Lib.hid hr
    clear hr
    go_enter Tryd.func26, Tryd.ntmps26
    go_wp2_with (fail)
    go_ret
    exact ⟨ret_bool Hr.out.symm, Below.refl _ _⟩
  go_enter Tryd.func26, Tryd.ntmps26
  go_wp2_with (fail)
  go_loopw [15] (fun i wr => ∃ k : Nat, i = .int .i64 k ∧ k ≤ n ∧ Below w.heap.size w wr ∧ Hid (((texts xs).take k).all nameB = true)) (fun i _ => n - (intOf i).toNat)
  case atStart => exact ⟨0, rfl, by omega, Below.refl _ _, Lib.hid (by simp)⟩
  case round =>
    obtain ⟨k, rfl, hk, hb, hall⟩ := hrel
    by_cases hlt : k < n
    · obtain ⟨x, hxk⟩ : ∃ x, xs[k]? = some x := ⟨xs[k]'(by rw [Hn.out]; exact hlt), List.getElem?_eq_getElem _⟩
      have hcell : wr.cell? ⟨bk, o + k, none⟩ = some (.string x) := (HL.out.below hb).2 k x hxk
      have hxs : x.size ≤ 35184372088832 := Hx.out x (List.mem_of_getElem? hxk)
      have htk : (texts xs).take (k + 1) = (texts xs).take k ++ [x.data.toList] := by
        rw [List.take_add_one, List.getElem?_map, hxk]; rfl
      have Htk := Lib.hid htk
      have Hxk := Lib.hid hxk
      clear htk hxk
      cases hg : nameB x.data.toList with
      | false =>
        have hr : rowB (texts xs) = false := by
          unfold rowB
          have : (texts xs).all nameB = false := by
            rw [List.all_eq_false]
            refine ⟨x.data.toList, List.mem_map.2 ⟨x, List.mem_of_getElem? Hxk.out, rfl⟩, by rw [hg]; simp⟩
          rw [this]; simp
        have Hr := Lib.hid hr
        clear hr
        go_wp2_with (go_at_call 8; (refine (good_any _ _ hxs).mono ?_); rintro e W1 ⟨rfl, b1⟩)
        go_ret
        exact ⟨ret_bool Hr.out.symm, hb.trans (b1.mono hb.size)⟩
      | true =>
        go_wp2_with (go_at_call 8; (refine (good_any _ _ hxs).mono ?_); rintro e W1 ⟨rfl, b1⟩)
        go_roundw
        case rel => exact ⟨k + 1, by go_num, by omega, hb.trans (b1.mono hb.size), Lib.hid (by rw [Htk.out, List.all_append, hall.out]; simp [hg])⟩
        case measure => simp [intOf]; omega
    · have hr : rowB (texts xs) = true := by
        have e : (texts xs).take k = texts xs := List.take_of_length_le (by rw [List.length_map, Hn.out]; omega)
        have h := hall.out
        rw [e] at h
        unfold rowB
        rw [h, List.length_map, Hn.out]
        simp
        omega
      have Hr := Lib.hid hr
      clear hr
      go_wp2_with (fail)
      go_ret
      exact ⟨ret_bool Hr.out.symm, hb⟩
theorem row_nil (a : Option Addr) (c : Nat) (w : World) :
    Calls Tryd.prog 26 #[.slice a 0 c] w fun e w' => e = .returned (.bool (rowB (texts []))) ∧ Below w.heap.size w w' := by
  go_enter Tryd.func26, Tryd.ntmps26
  go_wp2_with (fail)
  go_ret
  exact ⟨rfl, Below.refl _ _⟩
end Go.Proofs.YtcnpgoblojmbmaaDoor
