/-
  The document's own answer of layer 6: the record at the beginning of bytes (Get).
  Conditions: the text has at most 1000 bytes.
-/
import Derived.Test.YtohnhboeipckjaaGreatDoorRecRefPut
import Derived.Deep.RegionHeld3
namespace Go.Proofs.YtohnhboeipckjaaGreatDoor
open Go.RowKit

/-- a Got -/
def gotV (p : ByteArray) (n e : Int) : Array Value := #[.string p, .int .i64 n, .int .i64 e]
theorem infoGot : (Tryz.prog.info? 74).map (fun i => (i.zero, i.size)) = some (some (.agg (gotV ⟨#[]⟩ 0 0)), 3) := by kernel_rfl
theorem sizeGot : (Tryz.prog.info? 74).map (·.size) = some 3 := (zero_of_info infoGot).2
/-- what the document's Get answers -/
def RefGot (w : World) (l : List UInt8) (e : Ending) (w' : World) : Prop :=
  ∃ p : ByteArray, e = .returned (.agg (gotV p (getN l : Nat) (getE l : Nat))) ∧ p.data.toList = getP l ∧ Below w.heap.size w w'
theorem refGot_no {w w' : World} {l : List UInt8} {n : Nat} (h : getE l = n) (hn : n ≠ 0) (hB : Below w.heap.size w w') : RefGot w l (.returned (.agg (gotV ⟨#[]⟩ 0 (n : Int)))) w' := by
  refine ⟨⟨#[]⟩, ?_, ?_, hB⟩
  · rw [getN_no (by omega), h]; rfl
  · rw [getP_no (by omega)]
theorem head_str (s : ByteArray) (h : 0 < s.size) : s.data.toList.head? = some (s[0]'h) := by
  have h' : 0 < s.data.toList.length := by rw [Array.length_toList]; exact h
  cases hl : s.data.toList with
  | nil => rw [hl] at h'; simp at h'
  | cons x t =>
    have : s[0]'h = s.data.toList[0] := by rw [Array.getElem_toList]; rfl
    rw [this]
    simp [hl]

theorem toList_data (s : ByteArray) : s.toList = s.data.toList := ByteArray.toList_eq s
theorem not_empty (s : ByteArray) (h : 0 < s.size) : s.toList.isEmpty = false := by
  have h' : 0 < s.data.toList.length := by rw [Array.length_toList]; exact h
  rw [toList_data]
  cases hl : s.data.toList with
  | nil => rw [hl] at h'; simp at h'
  | cons x t => rfl

set_option maxHeartbeats 2000000 in
set_option maxRecDepth 100000 in
theorem refGet_head (s : ByteArray) (w : World) (hs : s.size ≤ 1000) (h9 : s.data.toList.head? ≠ some 90 ∨ s.size < 9) :
    Calls Tryz.prog 40 #[.string s] w (RefGot w s.data.toList) := by
  have hz := (zero_of_info infoGot).1
  unfold gotV at hz
  by_cases h0 : 0 < s.size
  · have hh := head_str s h0
    have hE := not_empty s h0
    have hne : s.data.toList ≠ [] := by intro h; rw [h] at hh; cases hh
    obtain ⟨x, hx⟩ : ∃ x, x = s[0]'h0 := ⟨_, rfl⟩
    by_cases h90 : x = 90
    · have hd0 : (((s[0]'h0).toNat : Int) != 90) = false := by rw [← hx, h90]; rfl
      have h9' : s.size < 9 := by
        rcases h9 with h | h
        · exact absurd (by rw [hh, ← hx, h90]) h
        · exact h
      have hn : s.data.toList.length = s.size := Array.length_toList
      have HG := Lib.hid (show getE s.data.toList = 2 by
        have h2 : headE s.data.toList = 2 := by unfold headE; rw [if_neg (by rw [hh, ← hx, h90]; simp), if_pos (by omega)]
        unfold getE; rw [if_pos (by rw [h2]; decide), h2])
      clear h9 hne hh hx hn
      go_enter Tryz.func40, Tryz.ntmps40
      go_wp2
      refine bodyPost_ret (results_cell_row rfl _ _ w.heap.size 74 #[.string ⟨#[]⟩, .int .i64 0, .int .i64 2] (0, 0) _ rfl (heap_alloc_last _ _) Tryz.underlying74 rfl sizeGot) rfl ?_
      exact refGot_no (n := 2) HG.out (by decide) ((Below.refl _ _).alloc (Nat.le_refl _) _)
    · have hd0 : (((s[0]'h0).toNat : Int) != 90) = true := by
        rw [← hx]
        cases h : ((x.toNat : Int) != 90) with
        | true => rfl
        | false =>
          have h1 : (x.toNat : Int) = 90 := by simpa using h
          exact absurd (UInt8.toNat_inj.1 (show x.toNat = (90 : UInt8).toNat by show x.toNat = 90; omega)) h90
      have HG := Lib.hid (show getE s.data.toList = 3 by
        have h2 : headE s.data.toList = 3 := by unfold headE; rw [if_pos ⟨hne, by rw [hh, ← hx]; simpa using h90⟩]
        unfold getE; rw [if_pos (by rw [h2]; decide), h2])
      clear h9 hne hh hx
      go_enter Tryz.func40, Tryz.ntmps40
      go_wp2
      refine bodyPost_ret (results_cell_row rfl _ _ w.heap.size 74 #[.string ⟨#[]⟩, .int .i64 0, .int .i64 3] (0, 0) _ rfl (heap_alloc_last _ _) Tryz.underlying74 rfl sizeGot) rfl ?_
      exact refGot_no (n := 3) HG.out (by decide) ((Below.refl _ _).alloc (Nat.le_refl _) _)
  · have he : s.size = 0 := by omega
    obtain rfl : s = ⟨#[]⟩ := bytes_ext (List.eq_nil_of_length_eq_zero (by rw [Array.length_toList]; exact he))
    clear h9 h0 he
    go_enter Tryz.func40, Tryz.ntmps40
    go_wp2
    refine bodyPost_ret (results_cell_row rfl _ _ w.heap.size 74 #[.string ⟨#[]⟩, .int .i64 0, .int .i64 2] (0, 0) _ rfl (heap_alloc_last _ _) Tryz.underlying74 rfl sizeGot) rfl ?_
    exact refGot_no (n := 2) getE_nil (by decide) ((Below.refl _ _).alloc (Nat.le_refl _) _)
end Go.Proofs.YtohnhboeipckjaaGreatDoor
