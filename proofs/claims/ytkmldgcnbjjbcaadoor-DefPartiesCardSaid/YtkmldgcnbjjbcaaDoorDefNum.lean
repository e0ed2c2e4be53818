/-
  What 'number' answers: the number of a saga that a text tells.
  Conditions: the text has at most 2^40 bytes.
-/
import Derived.Test.YtkmldgcnbjjbcaaDoorDefEnd
import Derived.Test.YtkmldgcnbjjbcaaDoorLabRunes
import Derived.LoopTactic
import Derived.WalkMore
namespace Go.Proofs.YtkmldgcnbjjbcaaDoor.Df
open Go.RowKit
open Go.Proofs.YtkmldgcnbjjbcaaDoor.El
open Go.Proofs.YtkmldgcnbjjbcaaDoor.Bo (P Made)

/-! ### A rune that a range met, of one byte or more -/
theorem dec_ascii {b : UInt8} (h : b.toNat < 128) (t : List UInt8) : dec (b :: t) = (b.toNat, 1) := by
  unfold dec d4
  have : byt (b :: t) 0 = b.toNat := rfl
  rw [this, if_pos h]
theorem rng_one {b : UInt8} {t : List UInt8} (h : b.toNat < 128) : rngI (b :: t) = (b.toNat : Int) := by unfold rngI; rw [dec_ascii h, if_neg (by simp)]
theorem wd_one {b : UInt8} {t : List UInt8} (h : b.toNat < 128) : wd (b :: t) = 1 := by unfold wd; rw [dec_ascii h]; rfl
theorem rng_big {b : UInt8} {t : List UInt8} (h : ¬ b.toNat < 128) : 128 ≤ rngI (b :: t) := by
  unfold rngI dec
  have h0 : byt (b :: t) 0 = b.toNat := rfl
  rw [h0]
  rcases d4_cases b.toNat (byt (b :: t) 1) (byt (b :: t) 2) (byt (b :: t) 3) with ⟨p, e⟩ | ⟨p, q, r, e⟩ | ⟨p, q, r, s, u, e⟩ | ⟨p, q, r, s, u, v, e⟩ | ⟨p, e⟩ <;> rw [e] <;> simp only
  · omega
  · rw [if_neg (by omega)]; omega
  · rw [if_neg (by omega)]; omega
  · rw [if_neg (by omega)]; omega
  · simp
theorem toList_nil (s : ByteArray) (h : s.size = 0) : (s.toList == []) = true := by
  rw [ByteArray.toList_eq, beq_iff_eq]
  exact List.eq_nil_of_length_eq_zero (by rw [len_is]; exact h)
theorem toList_some (s : ByteArray) (h : s.size ≠ 0) : (s.toList == []) = false := by
  rw [ByteArray.toList_eq, beq_eq_false_iff_ne]
  intro e
  have := congrArg List.length e
  rw [len_is] at this
  exact h this
theorem at_byte {s : ByteArray} {k : Nat} (h : k < s.size) : s.data.toList[k]? = some (s[k]'h) := by
  have hl : k < s.data.toList.length := by rw [len_is]; exact h
  rw [List.getElem?_eq_getElem hl, Array.getElem_toList]
  rfl
theorem head_byte {s : ByteArray} (h : 0 < s.size) : s.data.toList.head? = some (s[0]'h) := by rw [List.head?_eq_getElem?]; exact at_byte h
/-- what 'number' answers, and leaves -/
def NumPost (s : ByteArray) (w : World) (e : Ending) (w' : World) : Prop := ∃ n ok, e = .returned (.tuple #[.int .i64 n, .bool ok]) ∧ NumIs s.data.toList n ok ∧ Below w.heap.size w w'
theorem num_no {s : ByteArray} {w w' : World} (h : ¬ ∃ m, Num s.data.toList m) (hb : Below w.heap.size w w') : NumPost s w (.returned (.tuple #[.int .i64 0, .bool false])) w' := ⟨0, false, rfl, .inr ⟨rfl, rfl, h⟩, hb⟩
set_option maxRecDepth 100000 in
set_option maxHeartbeats 4000000 in
theorem number_any (s : ByteArray) (w : World) (hs : s.size ≤ 1099511627776) : Calls Tryd.prog 48 #[.string s] w (NumPost s w) := by
  by_cases h0 : s.size = 0
  · have g0 := toList_nil s h0
    have HN := Lib.hid (num_no (w := w) (w' := w) (s := s) (by rw [show s.data.toList = [] from List.eq_nil_of_length_eq_zero (by rw [len_is]; exact h0)]; exact num_empty) (Below.refl _ _))
    clear h0
    go_enter Tryd.func48, Tryd.ntmps48
    go_wp2
    go_ret2
    exact HN.out
  have g0 := toList_some s h0
  have hp0 : 0 < s.size := by omega
  by_cases h18 : 18 < s.size
  · have HN := Lib.hid (num_no (w := w) (w' := w) (s := s) (num_long (by rw [len_is]; exact h18)) (Below.refl _ _))
    go_enter Tryd.func48, Tryd.ntmps48
    go_wp2
    go_ret2
    exact HN.out
  by_cases hz : (s[0]'hp0).toNat = 48 ∧ 1 < s.size
  · obtain ⟨hz, h1⟩ := hz
    have gz : (((s[0]'hp0).toNat : Int) == 48) = true := by simp [hz]
    have HN := Lib.hid (num_no (w := w) (w' := w) (s := s) (num_zero (by rw [head_byte hp0, show s[0]'hp0 = 48 from UInt8.toNat_inj.1 hz]) (by rw [len_is]; exact h1)) (Below.refl _ _))
    clear hz
    go_enter Tryd.func48, Tryd.ntmps48
    go_wp2
    go_ret2
    exact HN.out
  have HZ : Hid (s.size = 1 ∨ s.data.toList.head? ≠ some 48) := Lib.hid (by
    by_cases h1 : 1 < s.size
    · refine .inr fun e => hz ⟨?_, h1⟩
      rw [head_byte hp0] at e
      injection e with e
      rw [e]
      rfl
    · exact .inl (by omega))
  have gz : (((s[0]'hp0).toNat : Int) == 48) = false ∨ ((((s[0]'hp0).toNat : Int) == 48) = true ∧ ¬ 1 < s.size) := by
    by_cases e : (s[0]'hp0).toNat = 48
    · exact .inr ⟨by simp [e], fun h1 => hz ⟨e, h1⟩⟩
    · exact .inl (by simp; omega)
  clear hz
  rcases gz with gz | ⟨gz, gz1⟩
  all_goals
    go_enter Tryd.func48, Tryd.ntmps48
    go_wp2
    go_loopw [4] (fun vn wr => ∃ (pos acc : Nat), vn = .int .i64 acc ∧ wr.heap[w.heap.size]? = some (.stringIter s pos) ∧ Below w.heap.size w wr ∧ Hid (NumRel s.data.toList pos acc) ∧ pos ≤ s.size) (fun _ wr => s.size - wr.iterPos w.heap.size)
    case atStart =>
      refine ⟨0, 0, rfl, ?_, (Below.refl _ w).alloc (Nat.le_refl _) _, Lib.hid (.inl ⟨rfl, rfl⟩), by omega⟩
      have := World.iter_heap w s 0
      simpa using this
    case round =>
      obtain ⟨pos, acc, rfl, hit, hbw, HR, hpos⟩ := hrel
      by_cases hp : pos < s.size
      · have hnx : ∀ ty, (Instr.next (.pointer (some ⟨w.heap.size, 0, none⟩)) true ty).run Tryd.prog wr = _ := fun ty => Lib.run_next_any_at wr w.heap.size s pos ty hit hp
        have hit2 := Lib.iterAt_heap wr w.heap.size s pos (pos + (Utf8.decode s pos).2) hit
        have hbw2 := Lib.below_iterAt hbw (k := w.heap.size) (Nat.le_refl _) s (pos + (Utf8.decode s pos).2)
        have hwd : (Utf8.decode s pos).2 = wd (s.data.toList.drop pos) := decode_wd s pos
        have hwp : 1 ≤ (Utf8.decode s pos).2 := by rw [hwd]; exact wd_pos _
        have hws : pos + (Utf8.decode s pos).2 ≤ s.size := by rw [hwd]; exact wd_size hp
        have hpl : pos < s.data.toList.length := by rw [Array.length_toList]; exact hp
        have hr := rng_eq s pos
        have hdc := List.drop_eq_getElem_cons hpl
        obtain ⟨b, hb⟩ : ∃ b, b = s.data.toList[pos] := ⟨_, rfl⟩
        have HB : Hid (s.data.toList[pos]? = some b) := Lib.hid (by rw [hb]; exact List.getElem?_eq_getElem hpl)
        rw [← hb] at hdc
        rw [hdc] at hr hwd
        obtain ⟨r, hre⟩ : ∃ r : Int, r = ((Utf8.decode s pos).1 : Int) := ⟨_, rfl⟩
        rw [← hre] at hr
        simp only [← hre] at hnx
        have hbig : ¬ b.toNat < 128 → 128 ≤ r := fun h => by rw [hr]; exact rng_big h
        have hone : b.toNat < 128 → r = b.toNat ∧ (Utf8.decode s pos).2 = 1 := fun h => ⟨by rw [hr]; exact rng_one h, by rw [hwd]; exact wd_one h⟩
        have hlo : 0 ≤ r := by rw [hr]; exact rngI_lo _
        have hhi : r ≤ 1114111 := by rw [hr]; exact rngI_hi _
        have hacc : acc < 100000000000000000 := num_lt17 HR.out (by rw [len_is]; omega) (by omega)
        clear hr hre hwd hb hdc
        generalize (Utf8.decode s pos).2 = wid at *
        by_cases hbad : b.toNat < 48 ∨ 57 < b.toNat
        · have HN := Lib.hid (num_bad (List.mem_of_getElem? HB.out) hbad)
          have hr2 : r < 48 ∨ 57 < r := by
            by_cases h128 : b.toNat < 128
            · have := (hone h128).1
              omega
            · have := hbig h128
              omega
          clear hbig hone hbad
          rcases hr2 with hr2 | hr2
          · go_wp2
            go_ret2
            exact num_no HN.out hbw2
          · have hr3 : ¬ r < 48 := by omega
            go_wp2
            go_ret2
            exact num_no HN.out hbw2
        · obtain ⟨hr1, hw1⟩ := hone (by omega)
          have hr3 : ¬ r < 48 := by omega
          have hr4 : ¬ 57 < r := by omega
          obtain ⟨d, hde⟩ : ∃ d, d = b.toNat - 48 := ⟨_, rfl⟩
          have hd9 : d < 10 := by omega
          have HD : Hid (b.toNat = 48 + d) := Lib.hid (by omega)
          obtain rfl : r = (d : Int) + 48 := by omega
          have HW := Lib.hid hw1
          have HS : Hid (NumRel s.data.toList (pos + 1) (acc * 10 + d)) := Lib.hid (num_step HR.out HB.out HD.out hd9 (by
            rcases HZ.out with h | h
            · exact .inl (by omega)
            · exact .inr h))
          have hs48 : (d : Int) + 48 - 48 = d := by omega
          clear hbig hone hbad hr1 hw1 hde
          go_wp2
          go_roundw
          case rel => exact ⟨pos + wid, acc * 10 + d, by go_num, hit2, hbw2, by rw [HW.out]; exact HS, hws⟩
          case measure =>
            simp only [World.iterPos, hit2, hit]
            omega
      · have hnx : ∀ ty, (Instr.next (.pointer (some ⟨w.heap.size, 0, none⟩)) true ty).run Tryd.prog wr = _ := fun ty => Lib.run_next_end_at wr w.heap.size s pos ty hit hp
        have HN : Hid (Num s.data.toList acc) := Lib.hid (num_end (by rw [len_is, show s.size = pos by omega]; exact HR.out) (fun e => by have h := congrArg List.length e; rw [len_is] at h; have h' : s.size = 0 := h; omega) (by rw [len_is]; omega))
        go_wp2
        go_ret2
        exact ⟨_, _, rfl, .inl ⟨rfl, acc, rfl, HN.out⟩, hbw⟩
end Go.Proofs.YtkmldgcnbjjbcaaDoor.Df
