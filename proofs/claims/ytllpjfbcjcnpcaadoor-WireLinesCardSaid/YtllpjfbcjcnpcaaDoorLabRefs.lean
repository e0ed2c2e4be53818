/-
  What the document's own answers of layer 2 are on whole texts: how many runes, whether it is a name, the masked text: the same plain functions as the program's.
  Conditions: the text has at most 2^47 bytes.
-/
import Derived.Test.YtllpjfbcjcnpcaaDoorLabRef4
import Derived.Test.YtllpjfbcjcnpcaaDoorLabRunes
namespace Go.Proofs.YtllpjfbcjcnpcaaDoor
open Go.RowKit

theorem dec_zero {l : List UInt8} (h : (dec l).2 = 0) : dec l = (0, 0) := by
  unfold dec at *
  rcases d4_cases (byt l 0) (byt l 1) (byt l 2) (byt l 3) with ⟨p, e⟩ | ⟨p, q, r, e⟩ | ⟨p, q, r, s, t, e⟩ | ⟨p, q, r, s, t, u, e⟩ | ⟨p, e⟩
  · rw [e] at h; cases h
  · rw [e] at h; cases h
  · rw [e] at h; cases h
  · rw [e] at h; cases h
  · exact e
theorem at_bad (s : ByteArray) (i : Nat) (w : World) (hi : i < s.size) (hs : s.size ≤ 140737488355328) (h : (dec (s.data.toList.drop i)).2 = 0) :
    Calls Tryd.prog 35 #[.string s, .int .i64 i] w fun e w' => e = .returned (.tuple #[.int .i32 0, .int .i64 0]) ∧ w = w' := by
  have c := at_any s i w hi hs
  unfold AtIs at c
  rw [dec_zero h] at c
  exact c
theorem at_good (s : ByteArray) (i r k : Nat) (w : World) (hi : i < s.size) (hs : s.size ≤ 140737488355328) (h : dec (s.data.toList.drop i) = (r, k)) :
    Calls Tryd.prog 35 #[.string s, .int .i64 i] w fun e w' => e = .returned (.tuple #[.int .i32 r, .int .i64 k]) ∧ w = w' := by
  have c := at_any s i w hi hs
  unfold AtIs at c
  rw [h] at c
  exact c
theorem wd_bad {l : List UInt8} (h : (dec l).2 = 0) : wd l = 1 := by unfold wd; rw [if_pos h]
theorem wd_good {l : List UInt8} {r k : Nat} (h : dec l = (r, k)) (hk : k ≠ 0) : wd l = k := by unfold wd; rw [h, if_neg hk]
theorem metI_bad {l : List UInt8} (h : (dec l).2 = 0) : metI l = -1 := by unfold metI; rw [if_pos h]
theorem metI_good {l : List UInt8} {r k : Nat} (h : dec l = (r, k)) (hk : k ≠ 0) : metI l = r := by unfold metI; rw [h, if_neg hk]

set_option maxHeartbeats 4000000 in
set_option maxRecDepth 1000000 in
theorem rrunes_any (s : ByteArray) (w : World) (hs : s.size ≤ 140737488355328) :
    Calls Tryd.prog 38 #[.string s] w fun e w' => e = .returned (.int .i64 (runes s.data.toList)) ∧ w = w' := by
  go_enter Tryd.func38, Tryd.ntmps38
  go_wp2
  go_loop [3, 4] (fun n p => ∃ (pos k : Nat), p = .int .i64 pos ∧ n = .int .i64 k ∧ Hid (k + runes (s.data.toList.drop pos) = runes s.data.toList) ∧ pos ≤ s.size ∧ k ≤ pos) (fun _ p => s.size - (intOf p).toNat)
  case atStart => exact ⟨0, 0, rfl, rfl, Lib.hid (by simp), by omega, by omega⟩
  case round =>
    obtain ⟨pos, k, rfl, rfl, hacc, hpos, hal⟩ := hrel
    by_cases hp : pos < s.size
    · have Hstep := Lib.hid (show k + 1 + runes (s.data.toList.drop (pos + wd (s.data.toList.drop pos))) = runes s.data.toList by
        rw [← hacc.out, runes_step _ (drop_ne hp), List.drop_drop]; omega)
      have hws := wd_size hp
      by_cases hb : (dec (s.data.toList.drop pos)).2 = 0
      · have e1 := wd_bad hb
        rw [e1] at Hstep hws
        have C := Lib.hid (fun W => at_bad s pos W hp hs hb)
        clear hb e1
        go_wp2_with (go_at_call 35; ((with_reducible refine (C.out _).mono ?_)); rintro e w' ⟨rfl, rfl⟩)
        go_round
        case rel => exact ⟨pos + 1, k + 1, by go_num, by go_num, Hstep, by omega, by omega⟩
        case measure => simp [intOf]; omega
      · obtain ⟨r, q, hd⟩ : ∃ r q, dec (s.data.toList.drop pos) = (r, q) := ⟨_, _, rfl⟩
        have hq : q ≠ 0 := by rw [hd] at hb; exact hb
        have hbd := dec_bd (s.data.toList.drop pos)
        rw [hd] at hbd
        have e1 := wd_good hd hq
        rw [e1] at Hstep hws
        have C := Lib.hid (fun W => at_good s pos r q W hp hs hd)
        have hq0 : ((q : Int) == 0) = false := by simpa using hq
        have hq1 : 1 ≤ q := by omega
        have hq4 : q ≤ 4 := hbd.2
        clear hb e1 hd hbd hq
        go_wp2_with (go_at_call 35; ((with_reducible refine (C.out _).mono ?_)); rintro e w' ⟨rfl, rfl⟩)
        go_round
        case rel => exact ⟨pos + q, k + 1, by go_num, by go_num, Hstep, by omega, by omega⟩
        case measure => simp [intOf]; omega
    · have he : s.data.toList.drop pos = [] := List.drop_eq_nil_of_le (by rw [Array.length_toList]; show s.size ≤ pos; omega)
      have h := hacc.out
      rw [he, runes_nil, Nat.add_zero] at h
      subst h
      clear he hacc
      go_wp2
      go_ret
      exact ⟨rfl, rfl⟩

theorem bytes_ext {a : ByteArray} {l : List UInt8} (h : a.data.toList = l) : a = ⟨l.toArray⟩ := by
  subst h
  rfl
theorem size_of {a : ByteArray} {l : List UInt8} (h : a.data.toList = l) : a.size = l.length := by
  subst h
  exact Array.length_toList.symm
theorem run_cut (s : ByteArray) (p k : Nat) (h : p + k ≤ s.size) (W : World) : (Instr.slice 9 (.string s) (some (.int .i64 (p : Int))) (some (.int .i64 ((p : Int) + (k : Int)))) none).run Tryd.prog W = .ok (.string (s.extract p (p + k))) W := by
  have e := run_slice_string (P := Tryd.prog) W 9 s .i64 .i64 (p : Int) ((p : Int) + (k : Int)) Tryd.underlying9 (by omega) (by omega) (by omega)
  rw [show ((p : Int)).toNat = p by omega, show ((p : Int) + (k : Int)).toNat = p + k by omega] at e
  exact e
theorem extract_take (s : ByteArray) (p k : Nat) : (s.extract p (p + k)).data.toList = (s.data.toList.drop p).take k := by
  rw [ByteArray.data_extract]
  simp only [Array.toList_extract, List.extract]
  rw [Nat.add_sub_cancel_left]

def RGoodRel (s : ByteArray) (pos : Nat) : Prop :=
  mask s.data.toList = s.data.toList.take pos ++ mask (s.data.toList.drop pos) ∧ (0 < pos → lettI (metI s.data.toList) = true)

set_option maxHeartbeats 4000000 in
set_option maxRecDepth 1000000 in
theorem rgood_any (s : ByteArray) (w : World) (hs : s.size ≤ 140737488355328) :
    Calls Tryd.prog 22 #[.string s] w fun e w' => e = .returned (.bool (nameB s.data.toList)) ∧ w = w' := by
  go_enter Tryd.func22, Tryd.ntmps22
  go_wp2
  go_loop [3] (fun p => ∃ (pos : Nat), p = .int .i64 pos ∧ Hid (RGoodRel s pos) ∧ pos ≤ s.size) (fun p => s.size - (intOf p).toNat)
  case atStart => exact ⟨0, rfl, Lib.hid ⟨by simp, by omega⟩, by omega⟩
  case round =>
    obtain ⟨pos, rfl, hacc, hpos⟩ := hrel
    by_cases hp : pos < s.size
    · have hws := wd_size hp
      have hpl : pos < s.data.toList.length := by rw [Array.length_toList]; exact hp
      by_cases hb : (dec (s.data.toList.drop pos)).2 = 0
      · have Hn := Lib.hid (name_bad hacc.out.1 hpl (by unfold gd; rw [metI_bad hb]; rfl))
        have C := Lib.hid (fun W => at_bad s pos W hp hs hb)
        clear hb
        go_wp2_with (first
            | (go_at_call 35; ((with_reducible refine (C.out _).mono ?_)); rintro e w' ⟨rfl, rfl⟩)
            | (go_at_call 36; ((with_reducible refine (rmay_any _ _).mono ?_)); rintro e w' ⟨rfl, rfl⟩)
            | (go_at_call 37; ((with_reducible refine (rletter_any _ _).mono ?_)); rintro e w' ⟨rfl, rfl⟩))
        go_ret
        exact ⟨ret_bool Hn.out.symm, rfl⟩
      · obtain ⟨r, q, hd'⟩ : ∃ r q, dec (s.data.toList.drop pos) = (r, q) := ⟨_, _, rfl⟩
        have hq : q ≠ 0 := by rw [hd'] at hb; exact hb
        have hbd := dec_bd (s.data.toList.drop pos)
        rw [hd'] at hbd
        have e1 := wd_good hd' hq
        have hm := metI_good hd' hq
        rw [e1] at hws
        have C := Lib.hid (fun W => at_good s pos r q W hp hs hd')
        have hq0 : ((q : Int) == 0) = false := by simpa using hq
        have hq1 : 1 ≤ q := by omega
        have hq4 : q ≤ 4 := hbd.2
        clear hd' hbd hb hq
        cases hf : fitI (r : Int) with
        | false =>
          have Hn := Lib.hid (name_bad hacc.out.1 hpl (by unfold gd; rw [hm]; exact hf))
          clear e1 hm
          go_wp2_with (first
            | (go_at_call 35; ((with_reducible refine (C.out _).mono ?_)); rintro e w' ⟨rfl, rfl⟩)
            | (go_at_call 36; ((with_reducible refine (rmay_any _ _).mono ?_)); rintro e w' ⟨rfl, rfl⟩)
            | (go_at_call 37; ((with_reducible refine (rletter_any _ _).mono ?_)); rintro e w' ⟨rfl, rfl⟩))
          go_ret
          exact ⟨ret_bool Hn.out.symm, rfl⟩
        | true =>
          have hgo := mask_go hacc.out.1 hpl (by unfold gd; rw [hm]; exact hf)
          rw [e1] at hgo
          by_cases hz : pos = 0
          · have z1 : ((pos : Int) == 0) = true := by simpa using hz
            cases hl : lettI (r : Int) with
            | false =>
              have Hn := Lib.hid (name_nolet (l := s.data.toList) (by rw [hz, List.drop_zero] at hm; rw [hm]; exact hl))
              clear e1 hm hgo hz
              go_wp2_with (first
            | (go_at_call 35; ((with_reducible refine (C.out _).mono ?_)); rintro e w' ⟨rfl, rfl⟩)
            | (go_at_call 36; ((with_reducible refine (rmay_any _ _).mono ?_)); rintro e w' ⟨rfl, rfl⟩)
            | (go_at_call 37; ((with_reducible refine (rletter_any _ _).mono ?_)); rintro e w' ⟨rfl, rfl⟩))
              go_ret
              exact ⟨ret_bool Hn.out.symm, rfl⟩
            | true =>
              have Hstep : Hid (RGoodRel s (pos + q)) := Lib.hid ⟨hgo, fun _ => by rw [hz, List.drop_zero] at hm; rw [hm]; exact hl⟩
              clear e1 hm hgo hz
              go_wp2_with (first
            | (go_at_call 35; ((with_reducible refine (C.out _).mono ?_)); rintro e w' ⟨rfl, rfl⟩)
            | (go_at_call 36; ((with_reducible refine (rmay_any _ _).mono ?_)); rintro e w' ⟨rfl, rfl⟩)
            | (go_at_call 37; ((with_reducible refine (rletter_any _ _).mono ?_)); rintro e w' ⟨rfl, rfl⟩))
              go_round
              case rel => exact ⟨pos + q, by go_num, Hstep, by omega⟩
              case measure => simp [intOf]; omega
          · have z1 : ((pos : Int) == 0) = false := by simpa using hz
            have Hstep : Hid (RGoodRel s (pos + q)) := Lib.hid ⟨hgo, fun _ => hacc.out.2 (by omega)⟩
            clear e1 hm hgo
            go_wp2_with (first
            | (go_at_call 35; ((with_reducible refine (C.out _).mono ?_)); rintro e w' ⟨rfl, rfl⟩)
            | (go_at_call 36; ((with_reducible refine (rmay_any _ _).mono ?_)); rintro e w' ⟨rfl, rfl⟩)
            | (go_at_call 37; ((with_reducible refine (rletter_any _ _).mono ?_)); rintro e w' ⟨rfl, rfl⟩))
            go_round
            case rel => exact ⟨pos + q, by go_num, Hstep, by omega⟩
            case measure => simp [intOf]; omega
    · have he : s.data.toList.drop pos = [] := List.drop_eq_nil_of_le (by rw [Array.length_toList]; show s.size ≤ pos; omega)
      obtain ⟨g2, g3⟩ := hacc.out
      rw [he, mask_nil, List.append_nil, List.take_of_length_le (by rw [Array.length_toList]; show s.size ≤ pos; omega)] at g2
      have elen : s.data.toList.length = s.size := Array.length_toList
      by_cases h0 : s.size = 0
      · have e0 : s.data.toList = [] := List.length_eq_zero_iff.1 (by omega)
        have Hn : Hid (nameB s.data.toList = false) := Lib.hid (by rw [e0]; rfl)
        have n1 : s.toList = [] := by rw [ByteArray.toList_eq]; exact e0
        have n2 : (s.toList == []) = true := by simpa using n1
        have n3 : s.toList.isEmpty = true := by simpa using n1
        clear he g2 g3 hacc e0 elen
        go_wp2_with (fail)
        go_ret
        exact ⟨ret_bool Hn.out.symm, rfl⟩
      · have hn : nameB s.data.toList = decide (runes s.data.toList ≤ 64) := by
          have a1 := g3 (by omega)
          have a3 : s.data.toList.isEmpty = false := by
            rw [List.isEmpty_eq_false_iff]
            intro e
            rw [e] at elen
            simp at elen
            omega
          unfold nameB
          rw [a1, a3, g2]
          simp
        have Hn := Lib.hid hn
        have C := Lib.hid (fun W => rrunes_any s W hs)
        have n1 : s.toList ≠ [] := fun e => by rw [ByteArray.toList_eq] at e; rw [e] at elen; simp at elen; omega
        have n2 : (s.toList == []) = false := by simpa using n1
        have n3 : s.toList.isEmpty = false := by simpa using n1
        clear he g2 g3 hn hacc elen n1
        go_wp2_with (go_at_call 38; ((with_reducible refine (C.out _).mono ?_)); rintro e w' ⟨rfl, rfl⟩)
        go_ret
        exact ⟨by rw [Hn.out]; exact ret_bool (by simp; omega), rfl⟩
end Go.Proofs.YtllpjfbcjcnpcaaDoor
