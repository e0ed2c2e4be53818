/-
  What the program's Runes and Good answer: how many runes a text has, and whether it is a name.
  Conditions: the text has at most 2^45 bytes.
-/
import Derived.Test.YtllpjfbcjcnpcaaDoorLabCalls
import Derived.Lib.OthersKept
namespace Go.Proofs.YtllpjfbcjcnpcaaDoor
open Go.RowKit


def GoodRel (s : ByteArray) (pos k : Nat) : Prop :=
  k + runes (s.data.toList.drop pos) = runes s.data.toList ∧ mask s.data.toList = s.data.toList.take pos ++ mask (s.data.toList.drop pos) ∧ (0 < pos → lettI (metI s.data.toList) = true) ∧ (0 < pos → 0 < k)

set_option maxHeartbeats 4000000 in
set_option maxRecDepth 1000000 in
theorem good_any (s : ByteArray) (w : World) (hs : s.size ≤ 35184372088832) :
    Calls Tryd.prog 18 #[.string s] w fun e w' => e = .returned (.bool (nameB s.data.toList)) ∧ Below w.heap.size w w' := by
  go_enter Tryd.func18, Tryd.ntmps18
  go_wp2
  go_loopw [3] (fun n wr => ∃ (pos k : Nat), n = .int .i64 k ∧ wr.heap[w.heap.size]? = some (.stringIter s pos) ∧ Below w.heap.size w wr ∧ GoodRel s pos k ∧ pos ≤ s.size ∧ k ≤ 64) (fun _ wr => s.size - wr.iterPos w.heap.size)
  case atStart =>
    refine ⟨0, 0, rfl, ?_, (Below.refl _ w).alloc (Nat.le_refl _) _, ⟨by simp, by simp, by omega, by omega⟩, by omega, by omega⟩
    have := World.iter_heap w s 0
    simpa using this
  case round =>
    obtain ⟨pos, k, rfl, hit, hbw, hacc, hpos, hal⟩ := hrel
    by_cases hp : pos < s.size
    · have hnx : ∀ ty, (Instr.next (.pointer (some ⟨w.heap.size, 0, none⟩)) true ty).run Tryd.prog wr = _ := fun ty => Lib.run_next_any_at wr w.heap.size s pos ty hit hp
      have hit2 := Lib.iterAt_heap wr w.heap.size s pos (pos + (Utf8.decode s pos).2) hit
      have hbw2 := Lib.below_iterAt hbw (k := w.heap.size) (Nat.le_refl _) s (pos + (Utf8.decode s pos).2)
      have hwd : (Utf8.decode s pos).2 = wd (s.data.toList.drop pos) := decode_wd s pos
      have Hwd := Lib.hid hwd
      have hwp : 1 ≤ (Utf8.decode s pos).2 := by rw [hwd]; exact wd_pos _
      have hws : pos + (Utf8.decode s pos).2 ≤ s.size := by rw [hwd]; exact wd_size hp
      have hpl : pos < s.data.toList.length := by rw [Array.length_toList]; exact hp
      have hne := drop_ne hp
      clear hwd
      by_cases hz : pos = 0
      · have z1 : ((pos : Int) == 0) = true := by simpa using hz
        cases hlet : lettI (metI (s.data.toList.drop pos)) with
        | false =>
          have hn : nameB s.data.toList = false := name_nolet (by rw [hz] at hlet; simpa using hlet)
          have Hn := Lib.hid hn
          clear hacc hn hz
          go_wp2_with (first
          | (go_at_call 31; (with_reducible refine (met_at _ _ _).mono ?_); rintro e w' ⟨rfl, rfl⟩)
          | (go_at_call 32; (with_reducible refine (letter_any _ _).mono ?_); rintro e w' ⟨rfl, rfl⟩)
          | (go_at_call 33; (with_reducible refine (fits_any _ _).mono ?_); rintro e w' ⟨rfl, rfl⟩))
          go_ret
          exact ⟨ret_bool Hn.out.symm, hbw2⟩
        | true =>
          have hfit : fitI (metI (s.data.toList.drop pos)) = true := by unfold fitI; rw [hlet]; rfl
          obtain ⟨g1, g2, g3, g4⟩ := hacc
          have hstep : GoodRel s (pos + wd (s.data.toList.drop pos)) (k + 1) := by
            refine ⟨?_, mask_go g2 hpl hfit, fun _ => by rw [hz] at hlet; simpa using hlet, fun _ => by omega⟩
            rw [← g1, runes_step _ hne, List.drop_drop]; omega
          have Hstep := Lib.hid hstep
          clear g1 g2 g3 g4 hstep hz
          by_cases hk : 64 < k + 1
          · have hn : nameB s.data.toList = false := name_many (by have := Hstep.out.1; omega)
            have Hn := Lib.hid hn
            clear hn
            go_wp2_with (first
          | (go_at_call 31; (with_reducible refine (met_at _ _ _).mono ?_); rintro e w' ⟨rfl, rfl⟩)
          | (go_at_call 32; (with_reducible refine (letter_any _ _).mono ?_); rintro e w' ⟨rfl, rfl⟩)
          | (go_at_call 33; (with_reducible refine (fits_any _ _).mono ?_); rintro e w' ⟨rfl, rfl⟩))
            go_ret
            exact ⟨ret_bool Hn.out.symm, hbw2⟩
          · go_wp2_with (first
          | (go_at_call 31; (with_reducible refine (met_at _ _ _).mono ?_); rintro e w' ⟨rfl, rfl⟩)
          | (go_at_call 32; (with_reducible refine (letter_any _ _).mono ?_); rintro e w' ⟨rfl, rfl⟩)
          | (go_at_call 33; (with_reducible refine (fits_any _ _).mono ?_); rintro e w' ⟨rfl, rfl⟩))
            go_roundw
            case rel => exact ⟨pos + (Utf8.decode s pos).2, k + 1, by go_num, hit2, hbw2, by rw [Hwd.out]; exact Hstep.out, hws, by omega⟩
            case measure =>
              simp only [World.iterPos, hit2, hit]
              omega
      · have z1 : ((pos : Int) == 0) = false := by simpa using hz
        cases hfit : fitI (metI (s.data.toList.drop pos)) with
        | false =>
          have hn : nameB s.data.toList = false := name_bad hacc.2.1 hpl hfit
          have Hn := Lib.hid hn
          clear hacc hn hz
          go_wp2_with (first
          | (go_at_call 31; (with_reducible refine (met_at _ _ _).mono ?_); rintro e w' ⟨rfl, rfl⟩)
          | (go_at_call 32; (with_reducible refine (letter_any _ _).mono ?_); rintro e w' ⟨rfl, rfl⟩)
          | (go_at_call 33; (with_reducible refine (fits_any _ _).mono ?_); rintro e w' ⟨rfl, rfl⟩))
          go_ret
          exact ⟨ret_bool Hn.out.symm, hbw2⟩
        | true =>
          obtain ⟨g1, g2, g3, g4⟩ := hacc
          have hstep : GoodRel s (pos + wd (s.data.toList.drop pos)) (k + 1) := by
            refine ⟨?_, mask_go g2 hpl hfit, fun _ => g3 (by omega), fun _ => by omega⟩
            rw [← g1, runes_step _ hne, List.drop_drop]; omega
          have Hstep := Lib.hid hstep
          clear g1 g2 g3 g4 hstep hz
          by_cases hk : 64 < k + 1
          · have hn : nameB s.data.toList = false := name_many (by have := Hstep.out.1; omega)
            have Hn := Lib.hid hn
            clear hn
            go_wp2_with (first
          | (go_at_call 31; (with_reducible refine (met_at _ _ _).mono ?_); rintro e w' ⟨rfl, rfl⟩)
          | (go_at_call 32; (with_reducible refine (letter_any _ _).mono ?_); rintro e w' ⟨rfl, rfl⟩)
          | (go_at_call 33; (with_reducible refine (fits_any _ _).mono ?_); rintro e w' ⟨rfl, rfl⟩))
            go_ret
            exact ⟨ret_bool Hn.out.symm, hbw2⟩
          · go_wp2_with (first
          | (go_at_call 31; (with_reducible refine (met_at _ _ _).mono ?_); rintro e w' ⟨rfl, rfl⟩)
          | (go_at_call 32; (with_reducible refine (letter_any _ _).mono ?_); rintro e w' ⟨rfl, rfl⟩)
          | (go_at_call 33; (with_reducible refine (fits_any _ _).mono ?_); rintro e w' ⟨rfl, rfl⟩))
            go_roundw
            case rel => exact ⟨pos + (Utf8.decode s pos).2, k + 1, by go_num, hit2, hbw2, by rw [Hwd.out]; exact Hstep.out, hws, by omega⟩
            case measure =>
              simp only [World.iterPos, hit2, hit]
              omega
    · have hnx : ∀ ty, (Instr.next (.pointer (some ⟨w.heap.size, 0, none⟩)) true ty).run Tryd.prog wr = _ := fun ty => Lib.run_next_end_at wr w.heap.size s pos ty hit hp
      have he : s.data.toList.drop pos = [] := List.drop_eq_nil_of_le (by rw [Array.length_toList]; show s.size ≤ pos; omega)
      obtain ⟨g1, g2, g3, g4⟩ := hacc
      rw [he, runes_nil, Nat.add_zero] at g1
      rw [he, mask_nil, List.append_nil, List.take_of_length_le (by rw [Array.length_toList]; show s.size ≤ pos; omega)] at g2
      have hn : nameB s.data.toList = decide (0 < k) := by
        by_cases h0 : 0 < pos
        · have a1 := g3 h0
          have a2 := g4 h0
          have a3 : s.data.toList.isEmpty = false := by
            rw [List.isEmpty_eq_false_iff]
            intro e
            have e2 : s.data.size = 0 := by
              have := congrArg List.length e
              rwa [Array.length_toList] at this
            have h' : pos ≤ s.data.size := hpos
            omega
          unfold nameB
          rw [a1, a3, g2, ← g1]
          simp [a2]
          omega
        · have e0 : s.data.toList = [] := by
            have : s.data.toList.length = 0 := by rw [Array.length_toList]; show s.size = 0; omega
            exact List.length_eq_zero_iff.1 this
          have k0 : k = 0 := by rw [g1, e0]; rfl
          rw [e0, k0]; rfl
      have Hn := Lib.hid hn
      clear he g1 g2 g3 g4 hn
      go_wp2
      go_ret
      exact ⟨by rw [Hn.out]; exact ret_bool (by simp), hbw⟩
end Go.Proofs.YtllpjfbcjcnpcaaDoor
