/-
  What the program's Key and Cut answer: the key of a row of names, and the names of a key.
  Conditions: the row's texts lie in memory as they are named; texts are of moderate length; the library's variable that Cut's search reads holds some number.
-/
import Derived.Test.YtcnpgoblojmbmaaDoorLabRow
namespace Go.Proofs.YtcnpgoblojmbmaaDoor
open Go.RowKit

def keyT (ls : List (List UInt8)) : List UInt8 := if rowB ls then Lib.join ls [47] else []

theorem join_n (xs : List ByteArray) (n bk o c : Nat) (w : World) (hn : xs.length = n) (hnb : n ≤ 1000000) (hc : n ≤ c) (hL : LiesAt w bk o xs) (hlen : (Lib.join (texts xs) [47]).length ≤ 140737488355328) :
    Calls Tryd.prog 27 #[.slice (some ⟨bk, o, none⟩) n c, .string ⟨#[47]⟩] w fun e w' => e = .returned (.string ⟨(Lib.join (texts xs) [47]).toArray⟩) ∧ Below w.heap.size w w' := by
  have h := Tryd.strings_Join bk o c xs ⟨#[47]⟩ w hL.2 hL.1 (by omega) (by omega) hlen
  rw [hn] at h
  exact h

set_option maxHeartbeats 4000000 in
set_option maxRecDepth 1000000 in
theorem key_any (xs : List ByteArray) (n bk o c : Nat) (w : World) (hn : xs.length = n) (hnb : n ≤ 1000000) (hc : n ≤ c) (hL : LiesAt w bk o xs) (hx : ∀ x ∈ xs, x.size ≤ 35184372088832) (hlen : (Lib.join (texts xs) [47]).length ≤ 140737488355328) :
    Calls Tryd.prog 14 #[.slice (some ⟨bk, o, none⟩) n c] w fun e w' => e = .returned (.tuple #[.string ⟨(keyT (texts xs)).toArray⟩, .bool (rowB (texts xs))]) ∧ Below w.heap.size w w' := by
  have HL := Lib.hid hL
  have Hx := Lib.hid hx
  have Hn := Lib.hid hn
  have Hlen := Lib.hid hlen
  clear hL hx hn hlen
  cases hr : rowB (texts xs) with
  | false =>
    have hk : keyT (texts xs) = [] := by unfold keyT; rw [hr]; rfl
    rw [hk]
    clear hk
    go_enter Tryd.func14, Tryd.ntmps14
    go_wp2_with (go_at_call 26; (refine (row_any xs n bk o c _ Hn.out hnb HL.out Hx.out).mono ?_); rintro e W1 ⟨rfl, b1⟩)
    go_ret2
    exact ⟨rfl, b1⟩
  | true =>
    have hk : keyT (texts xs) = Lib.join (texts xs) [47] := by unfold keyT; rw [hr]; rfl
    rw [hk]
    clear hk
    go_enter Tryd.func14, Tryd.ntmps14
    go_wp2_with (first
      | (go_at_call 26; (refine (row_any xs n bk o c _ Hn.out hnb HL.out Hx.out).mono ?_); rintro e W1 ⟨rfl, b1⟩)
      | (go_at_call 27; (refine (join_n xs n bk o c _ Hn.out hnb hc (HL.out.below b1) Hlen.out).mono ?_); rintro e W2 ⟨rfl, b2⟩))
    go_ret2
    exact ⟨rfl, b1.trans (b2.mono b1.size)⟩

theorem key_nil (a : Option Addr) (c : Nat) (w : World) :
    Calls Tryd.prog 14 #[.slice a 0 c] w fun e w' => e = .returned (.tuple #[.string ⟨#[]⟩, .bool false]) ∧ Below w.heap.size w w' := by
  have hr : rowB (texts []) = false := rfl
  have c1 := fun W => row_nil a c W
  rw [hr] at c1
  have C1 := Lib.hid c1
  clear c1 hr
  go_enter Tryd.func14, Tryd.ntmps14
  go_wp2_with (go_at_call 26; (refine (C1.out _).mono ?_); rintro e W1 ⟨rfl, b1⟩)
  go_ret2
  exact ⟨rfl, b1⟩

/-! ### Cut -/
def pcs (s : ByteArray) : List ByteArray := Lib.splitB ⟨#[47]⟩ 0 (min 9 (s.size + 1) - 1) s

theorem splitB_size (sep : ByteArray) (save : Nat) : ∀ (k : Nat) (s : ByteArray), ∀ x ∈ Lib.splitB sep save k s, x.size ≤ s.size
  | 0, s => by intro x hx; rw [Lib.splitB_zero] at hx; simp at hx; rw [hx]; exact Nat.le_refl _
  | k + 1, s => by
    intro x hx
    unfold Lib.splitB at hx
    split at hx
    · simp at hx; rw [hx]; exact Nat.le_refl _
    · rcases List.mem_cons.1 hx with rfl | hx
      · simp only [ByteArray.size_extract]; omega
      · have := splitB_size sep save k _ x hx
        simp only [ByteArray.size_extract] at this
        omega
theorem pcs_size (s : ByteArray) : ∀ x ∈ pcs s, x.size ≤ s.size := splitB_size _ _ _ _
theorem pcs_len (s : ByteArray) : (pcs s).length ≤ min 9 (s.size + 1) := by
  have := Lib.splitB_length_le ⟨#[47]⟩ 0 (min 9 (s.size + 1) - 1) s
  unfold pcs
  omega
theorem lies_cellsOf (w : World) (ps : List ByteArray) (N t : Nat) : LiesAt (w.alloc (.cells (Lib.cellsOf ps N) t)) w.heap.size 0 ps := by
  refine ⟨by simp, fun j x hx => ?_⟩
  have hh := heap_alloc_new w (.cells (Lib.cellsOf ps N) t)
  rw [cell_of_row _ w.heap.size (0 + j) _ t (0, 0) hh]
  have hj : j < ps.length := (List.getElem?_eq_some_iff.1 hx).1
  unfold Lib.cellsOf
  rw [List.getElem?_toArray, List.getElem?_append_left (by simp; omega), List.getElem?_map, Nat.zero_add, hx]
  rfl
theorem split_any (s : ByteArray) (m : Int) (w : World) (hs : s.size ≤ 1000000) (hm : w.cell? ⟨0, 0, none⟩ = some (.int .i64 m)) :
    Calls Tryd.prog 28 #[.string s, .string ⟨#[47]⟩, .int .i64 9] w fun e w' => e = .returned (.slice (some ⟨w.heap.size, 0, none⟩) (pcs s).length (min 9 (s.size + 1))) ∧ LiesAt w' w.heap.size 0 (pcs s) ∧ Below w.heap.size w w' := by
  have h := Tryd.strings_SplitN s ⟨#[47]⟩ 9 m w (by omega) hm (by decide) (by omega) (by omega)
  refine Calls.mono h ?_
  rintro e w' ⟨rfl, rfl⟩
  exact ⟨rfl, lies_cellsOf w (pcs s) _ _, (Below.refl _ _).alloc (Nat.le_refl _) _⟩

def CutNo (w : World) (e : Ending) (w' : World) : Prop := e = .returned (.tuple #[.slice none 0 0, .bool false]) ∧ Below w.heap.size w w'
def CutYes (s : ByteArray) (w : World) (e : Ending) (w' : World) : Prop :=
  e = .returned (.tuple #[.slice (some ⟨w.heap.size, 0, none⟩) (pcs s).length (min 9 (s.size + 1)), .bool true]) ∧ LiesAt w' w.heap.size 0 (pcs s) ∧ Below w.heap.size w w'

set_option maxHeartbeats 4000000 in
set_option maxRecDepth 1000000 in
theorem cut_no (s : ByteArray) (m : Int) (w : World) (hs : s.size ≤ 1000000) (hm : w.cell? ⟨0, 0, none⟩ = some (.int .i64 m)) (hr : rowB (texts (pcs s)) = false) :
    Calls Tryd.prog 16 #[.string s] w (CutNo w) := by
  have C1 := Lib.hid (split_any s m w hs hm)
  have hl := pcs_len s
  have Hx : Hid (∀ x ∈ pcs s, x.size ≤ 35184372088832) := Lib.hid (fun x hx => by have := pcs_size s x hx; omega)
  have Hm := Lib.hid hm
  clear hm
  generalize hcap : min 9 (s.size + 1) = cap at C1 hl
  have hcap9 : cap ≤ 9 := by omega
  clear hcap
  generalize hps : pcs s = ps at *
  generalize hn : ps.length = n at *
  have Hn := Lib.hid hn
  clear hn hps
  go_enter Tryd.func16, Tryd.ntmps16
  go_wp2_with (first
    | (go_at_call 28; (refine (C1.out).mono ?_); rintro e W1 ⟨rfl, hL1, b1⟩; have HL1 := Lib.hid hL1; clear hL1)
    | (go_at_call 26; (refine (row_any ps n w.heap.size 0 cap _ Hn.out (by omega) HL1.out Hx.out).mono ?_); rintro e W2 ⟨rfl, b2⟩))
  go_ret2
  exact ⟨rfl, b1.trans (b2.mono b1.size)⟩

set_option maxHeartbeats 4000000 in
set_option maxRecDepth 1000000 in
theorem cut_yes (s : ByteArray) (m : Int) (w : World) (hs : s.size ≤ 1000000) (hm : w.cell? ⟨0, 0, none⟩ = some (.int .i64 m)) (hr : rowB (texts (pcs s)) = true) :
    Calls Tryd.prog 16 #[.string s] w (CutYes s w) := by
  have C1 := Lib.hid (split_any s m w hs hm)
  have hl := pcs_len s
  have Hx : Hid (∀ x ∈ pcs s, x.size ≤ 35184372088832) := Lib.hid (fun x hx => by have := pcs_size s x hx; omega)
  have Hm := Lib.hid hm
  clear hm
  unfold CutYes
  generalize hcap : min 9 (s.size + 1) = cap at *
  have hcap9 : cap ≤ 9 := by omega
  clear hcap
  generalize hps : pcs s = ps at *
  generalize hn : ps.length = n at *
  have Hn := Lib.hid hn
  clear hn hps
  go_enter Tryd.func16, Tryd.ntmps16
  go_wp2_with (first
    | (go_at_call 28; (refine (C1.out).mono ?_); rintro e W1 ⟨rfl, hL1, b1⟩; have HL1 := Lib.hid hL1; clear hL1)
    | (go_at_call 26; (refine (row_any ps n w.heap.size 0 cap _ Hn.out (by omega) HL1.out Hx.out).mono ?_); rintro e W2 ⟨rfl, b2⟩))
  go_ret2
  exact ⟨rfl, HL1.out.below b2, b1.trans (b2.mono b1.size)⟩
end Go.Proofs.YtcnpgoblojmbmaaDoor
