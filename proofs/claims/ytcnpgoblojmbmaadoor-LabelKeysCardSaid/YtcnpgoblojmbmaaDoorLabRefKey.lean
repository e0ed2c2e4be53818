/-
  What the document's own Key and Cut answer: the key of a row of names, and the names of a key: by the same plain functions as the program's.
  Conditions: the row's texts lie in memory as they are named; texts are of moderate length.
-/
import Derived.Test.YtcnpgoblojmbmaaDoorLabKeyMath
import Derived.Test.YtcnpgoblojmbmaaDoorLabRefs
import Derived.Deep.AppendLies
import Derived.OwnWalk
namespace Go.Proofs.YtcnpgoblojmbmaaDoor
open Go.RowKit

theorem keyT_no {ls : List (List UInt8)} (h : rowB ls = false) : keyT ls = [] := by unfold keyT; rw [h]; rfl
theorem keyT_yes {ls : List (List UInt8)} (h : rowB ls = true) : keyT ls = Lib.join ls [47] := by unfold keyT; rw [h]; rfl
def RKeyIs (ls : List (List UInt8)) (w : World) (e : Ending) (w' : World) : Prop :=
  e = .returned (.tuple #[.string ⟨(keyT ls).toArray⟩, .bool (rowB ls)]) ∧ w = w'
theorem rkey_no {ls : List (List UInt8)} {w : World} (h : rowB ls = false) : RKeyIs ls w (.returned (.tuple #[.string ⟨#[]⟩, .bool false])) w := by
  unfold RKeyIs
  rw [keyT_no h, h]
  exact ⟨rfl, rfl⟩
theorem rkey_yes {ls : List (List UInt8)} {w : World} {out : ByteArray} (h : rowB ls = true) (ho : out.data.toList = Lib.join ls [47]) : RKeyIs ls w (.returned (.tuple #[.string out, .bool true])) w := by
  unfold RKeyIs
  rw [keyT_yes h, h, bytes_ext ho]
  exact ⟨rfl, rfl⟩

def RKeyRel (xs : List ByteArray) (k : Nat) (out : ByteArray) : Prop :=
  out.data.toList = Lib.join ((texts xs).take k) [47] ∧ ((texts xs).take k).all nameB = true
theorem rkey_step {xs : List ByteArray} {k : Nat} {out x : ByteArray} (h : RKeyRel xs k out) (hx : xs[k]? = some x) (hg : nameB x.data.toList = true) :
    (k = 0 → RKeyRel xs (k + 1) (out ++ x)) ∧ (0 < k → RKeyRel xs (k + 1) (out ++ ⟨#[47]⟩ ++ x)) := by
  have htk : (texts xs).take (k + 1) = (texts xs).take k ++ [x.data.toList] := by
    rw [List.take_add_one, List.getElem?_map, hx]; rfl
  have hk : k < xs.length := (List.getElem?_eq_some_iff.1 hx).1
  refine ⟨fun h0 => ⟨?_, ?_⟩, fun h0 => ⟨?_, ?_⟩⟩
  · rw [ByteArray.data_append, Array.toList_append, h.1, htk]
    subst h0
    rw [List.take_zero, join_first]
    rfl
  · rw [htk, List.all_append, h.2]; simp [hg]
  · rw [ByteArray.data_append, Array.toList_append, ByteArray.data_append, Array.toList_append, h.1, htk, join_snoc _ _ (fun e => by have := congrArg List.length e; rw [List.length_take, List.length_map, List.length_nil] at this; omega)]
  · rw [htk, List.all_append, h.2]; simp [hg]

set_option maxHeartbeats 4000000 in
set_option maxRecDepth 1000000 in
theorem rkey_any (xs : List ByteArray) (n bk o c : Nat) (w : World) (hn : xs.length = n) (hnb : n ≤ 1000) (hL : LiesAt w bk o xs) (hx : ∀ x ∈ xs, x.size ≤ 1000) :
    Calls Tryd.prog 15 #[.slice (some ⟨bk, o, none⟩) n c] w (RKeyIs (texts xs) w) := by
  have HL := Lib.hid hL
  have Hx := Lib.hid hx
  have Hn := Lib.hid hn
  clear hL hx hn
  go_enter Tryd.func15, Tryd.ntmps15
  go_wp2_with (fail)
  go_loop [4, 5] (fun ov p => ∃ (k : Nat) (out : ByteArray), p = .int .i64 k ∧ ov = .string out ∧ k ≤ n ∧ Hid (RKeyRel xs k out) ∧ out.size ≤ k * 1001) (fun _ p => n - (intOf p).toNat)
  case atStart => exact ⟨0, ⟨#[]⟩, rfl, rfl, by omega, Lib.hid ⟨by simp [Lib.join_nil], by simp⟩, Nat.le_refl _⟩
  case round =>
    obtain ⟨k, out, rfl, rfl, hk, hrl, hsz⟩ := hrel
    by_cases hlt : k < n
    · obtain ⟨x, hxk⟩ : ∃ x, xs[k]? = some x := ⟨xs[k]'(by rw [Hn.out]; exact hlt), List.getElem?_eq_getElem _⟩
      have hcell : w.cell? ⟨bk, o + k, none⟩ = some (.string x) := HL.out.2 k x hxk
      have hxs : x.size ≤ 1000 := Hx.out x (List.mem_of_getElem? hxk)
      cases hg : nameB x.data.toList with
      | false =>
        have hr : rowB (texts xs) = false := by
          unfold rowB
          have : (texts xs).all nameB = false := by
            rw [List.all_eq_false]
            refine ⟨x.data.toList, List.mem_map.2 ⟨x, List.mem_of_getElem? hxk, rfl⟩, by rw [hg]; simp⟩
          rw [this]; simp
        have Hr := Lib.hid hr
        clear hr hxk
        go_wp2_with (go_at_call 9; ((with_reducible refine (rgood_any x _ (by omega)).mono ?_)); rintro e w' ⟨rfl, rfl⟩)
        go_ret2
        exact rkey_no Hr.out
      | true =>
        have Hst := Lib.hid (rkey_step hrl.out hxk hg)
        clear hxk
        by_cases hk0 : 0 < k
        · go_wp2_with (go_at_call 9; ((with_reducible refine (rgood_any x _ (by omega)).mono ?_)); rintro e w' ⟨rfl, rfl⟩)
          go_round
          case rel => exact ⟨k + 1, _, by go_num, rfl, by omega, Lib.hid (Hst.out.2 hk0), by rw [ByteArray.size_append, ByteArray.size_append]; show out.size + 1 + x.size ≤ _; omega⟩
          case measure => simp [intOf]; omega
        · go_wp2_with (go_at_call 9; ((with_reducible refine (rgood_any x _ (by omega)).mono ?_)); rintro e w' ⟨rfl, rfl⟩)
          go_round
          case rel => exact ⟨k + 1, _, by go_num, rfl, by omega, Lib.hid (Hst.out.1 (by omega)), by rw [ByteArray.size_append]; omega⟩
          case measure => simp [intOf]; omega
    · have e : (texts xs).take k = texts xs := List.take_of_length_le (by rw [List.length_map, Hn.out]; omega)
      obtain ⟨h1, h2⟩ := hrl.out
      rw [e] at h1 h2
      have H1 := Lib.hid h1
      have hr : rowB (texts xs) = (decide (1 ≤ n) && decide (n ≤ 8)) := by
        unfold rowB
        rw [h2, List.length_map, Hn.out, Bool.and_true]
      have Hr := Lib.hid hr
      clear h1 h2 hr e
      by_cases h0 : n = 0
      · have z1 : ((n : Int) == 0) = true := by simpa using h0
        have Hr2 : Hid (rowB (texts xs) = false) := Lib.hid (by rw [Hr.out, h0]; rfl)
        clear h0
        go_wp2_with (fail)
        go_ret2
        exact rkey_no Hr2.out
      · have z1 : ((n : Int) == 0) = false := by simpa using h0
        by_cases h8 : 8 < n
        · have Hr2 : Hid (rowB (texts xs) = false) := Lib.hid (by rw [Hr.out]; simp; omega)
          clear h0
          go_wp2_with (fail)
          go_ret2
          exact rkey_no Hr2.out
        · have Hr2 : Hid (rowB (texts xs) = true) := Lib.hid (by rw [Hr.out]; simp; omega)
          clear h0
          go_wp2_with (fail)
          go_ret2
          exact rkey_yes Hr2.out H1.out
end Go.Proofs.YtcnpgoblojmbmaaDoor
