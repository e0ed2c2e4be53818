/-
  What the program's Mask answers: the masked text.
  Conditions: the text has at most 2^45 bytes.
-/
import Derived.Test.YtcnpgoblojmbmaaDoorLabCalls
namespace Go.Proofs.YtcnpgoblojmbmaaDoor
open Go.RowKit

set_option maxHeartbeats 4000000 in
set_option maxRecDepth 1000000 in
theorem mask_any (s : ByteArray) (w : World) (hs : s.size ≤ 35184372088832) :
    Calls Tryd.prog 12 #[.string s] w fun e w' => e = .returned (.string ⟨(mask s.data.toList).toArray⟩) ∧ Below w.heap.size w w' := by
  go_enter Tryd.func12, Tryd.ntmps12
  go_wp2
  go_loopw [] (fun wr => ∃ (pos : Nat) (acc : List UInt8), Lib.IsBuilderF 40 5 w.heap.size w.heap.size (Lib.byteCells acc) wr ∧ wr.heap[w.heap.size + 1]? = some (.stringIter s pos) ∧ Below w.heap.size w wr ∧ acc ++ mask (s.data.toList.drop pos) = mask s.data.toList ∧ pos ≤ s.size ∧ acc.length ≤ pos) (fun wr => s.size - wr.iterPos (w.heap.size + 1))
  case atStart =>
    refine ⟨0, [], (Lib.IsBuilderF.of (Lib.fresh_isBuilder 40 5 w)).alloc _, ?_, ((Below.refl _ w).alloc (Nat.le_refl _) _).alloc (by simp) _, rfl, by omega, by simp⟩
    have := World.iter_heap (w.alloc (.cells #[.pointer none, .slice none 0 0] 40)) s 0
    simpa using this
  case round =>
    obtain ⟨pos, acc, hI, hit, hbw, hacc, hpos, hal⟩ := hrel
    have hsz : w.heap.size + 1 < wr.heap.size := (Array.getElem?_eq_some_iff.1 hit).1
    by_cases hp : pos < s.size
    · have hnx : ∀ ty, (Instr.next (.pointer (some ⟨w.heap.size + 1, 0, none⟩)) true ty).run Tryd.prog wr = _ := fun ty => Lib.run_next_any_at wr (w.heap.size + 1) s pos ty hit hp
      have hI2 := hI.iterAt hit (pos + (Utf8.decode s pos).2)
      have hit2 := Lib.iterAt_heap wr (w.heap.size + 1) s pos (pos + (Utf8.decode s pos).2) hit
      have hbw2 := Lib.below_iterAt hbw (k := w.heap.size + 1) (by omega) s (pos + (Utf8.decode s pos).2)
      have hsz2 : w.heap.size ≤ (wr.iterAt (w.heap.size + 1) s (pos + (Utf8.decode s pos).2)).heap.size := by rw [Lib.iterAt_size]; omega
      have hstep : acc ++ hd (s.data.toList.drop pos) ++ mask (s.data.toList.drop (pos + wd (s.data.toList.drop pos))) = mask s.data.toList := by
        rw [← hacc, mask_step _ (drop_ne hp), List.drop_drop, List.append_assoc]
      have Hstep := Lib.hid hstep
      have hwd : (Utf8.decode s pos).2 = wd (s.data.toList.drop pos) := decode_wd s pos
      have Hwd := Lib.hid hwd
      have hwp : 1 ≤ (Utf8.decode s pos).2 := by rw [hwd]; exact wd_pos _
      have hws : pos + (Utf8.decode s pos).2 ≤ s.size := by rw [hwd]; exact wd_size hp
      have hd1 := decode_le s pos
      have hl0 := hd_len (s.data.toList.drop pos)
      have hlen : (hd (s.data.toList.drop pos)).length ≤ (Utf8.decode s pos).2 := by rw [hwd]; exact hl0
      clear hacc hstep hwd hl0
      by_cases hg : fitI (metI (s.data.toList.drop pos)) = true
      · go_wp2_with (first
          | (go_at_call 18; (with_reducible refine (met_at _ _ _).mono ?_); rintro e w' ⟨rfl, rfl⟩)
          | (go_at_call 20; (with_reducible refine (fits_any _ _).mono ?_); rintro e w' ⟨rfl, rfl⟩)
          | (go_at_call 24; (refine (Tryd.Builder_WriteRune_k w.heap.size w.heap.size _ _ (by omega) (by omega) _ hI2 (by rw [Lib.byteCells_length]; omega) hsz2).mono ?_); rintro e W1 ⟨rfl, h1, b1, k1⟩))
        go_roundw
        case rel =>
          refine ⟨pos + (Utf8.decode s pos).2, acc ++ hd (s.data.toList.drop pos), ?_, k1.iter hit2 (by omega), hbw2.trans b1, ?_, hws, by simp; omega⟩
          · rw [← enc_hd hp hg, Lib.byteCells_append, Lib.byteCells_encodeRune]; exact Or.inr h1
          · rw [Hwd.out]; exact Hstep.out
        case measure =>
          simp only [World.iterPos, k1.iter hit2 (by omega), hit]
          omega
      · have hg2 : fitI (metI (s.data.toList.drop pos)) = false := by simpa using hg
        clear hg
        go_wp2_with (first
          | (go_at_call 18; (with_reducible refine (met_at _ _ _).mono ?_); rintro e w' ⟨rfl, rfl⟩)
          | (go_at_call 20; (with_reducible refine (fits_any _ _).mono ?_); rintro e w' ⟨rfl, rfl⟩)
          | (go_at_call 24; (refine (Tryd.Builder_WriteRune_k w.heap.size w.heap.size _ _ (by omega) (by omega) _ hI2 (by rw [Lib.byteCells_length]; omega) hsz2).mono ?_); rintro e W1 ⟨rfl, h1, b1, k1⟩))
        go_roundw
        case rel =>
          refine ⟨pos + (Utf8.decode s pos).2, acc ++ hd (s.data.toList.drop pos), ?_, k1.iter hit2 (by omega), hbw2.trans b1, ?_, hws, by simp; omega⟩
          · rw [hd_95 hg2, Lib.byteCells_append]; exact Or.inr h1
          · rw [Hwd.out]; exact Hstep.out
        case measure =>
          simp only [World.iterPos, k1.iter hit2 (by omega), hit]
          omega
    · have hnx : ∀ ty, (Instr.next (.pointer (some ⟨w.heap.size + 1, 0, none⟩)) true ty).run Tryd.prog wr = _ := fun ty => Lib.run_next_end_at wr (w.heap.size + 1) s pos ty hit hp
      have he : s.data.toList.drop pos = [] := List.drop_eq_nil_of_le (by rw [Array.length_toList]; show s.size ≤ pos; omega)
      rw [he, mask_nil, List.append_nil] at hacc
      have Hacc := Lib.hid hacc
      clear hacc he
      go_wp2_with (go_at_call 25; refine (Tryd.Builder_String_any_k w.heap.size w.heap.size acc _ hI (by omega)).mono ?_)
      rintro e W1 ⟨rfl, _, b1, _⟩
      go_wp2
      go_ret
      exact ⟨by rw [Hacc.out]; rfl, hbw.trans b1⟩
end Go.Proofs.YtcnpgoblojmbmaaDoor
